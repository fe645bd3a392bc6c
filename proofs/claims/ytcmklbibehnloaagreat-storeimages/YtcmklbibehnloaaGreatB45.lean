/- The walk of StoreImages. -/
import Derived.Test.YtcmklbibehnloaaGreatB44
set_option maxRecDepth 100000
set_option maxHeartbeats 16000000
namespace Go.Proofs.YtcmklbibehnloaaGreat
open Go.RowKit
section
structure Fx (A A' : Nat → Prop) (B sp tp : Nat) : Prop where
 dis : ∀ x, A x → ¬ A' x
 nt : ¬ A tp
 ns : ¬ A' sp
 lo : ∀ x, A x ∨ A' x → B ≤ x
structure Tx2 (A A' : Nat → Prop) (sp tp : Nat) (dv xv : Value) (k : Int) (P : Bo) (S0 : Dk) (n : Nat) (w : World) : Prop where
 st : ∃ S, ST A w (.pointer (some ⟨sp, 0, none⟩)) dv k P S ∧ Rdd n S0 S
 rt : ∃ X, RT A' w (.pointer (some ⟨tp, 0, none⟩)) xv k P X ∧ Rdd n S0 X
section

variable {A A' : Nat → Prop} {B sp tp n j : Nat} {dv xv : Value} {k : Int} {P : Bo} {S0 S S' : Dk} {w w' : World}

theorem Tx2.below (h : Tx2 A A' sp tp dv xv k P S0 n w) (hb : Below w.heap.size w w') : Tx2 A A' sp tp dv xv k P S0 n w' := by
 obtain ⟨⟨S, h1, h2⟩, X, h3, h4⟩ := h;exact ⟨⟨S, h1.below hb, h2⟩, X, h3.below hb, h4⟩
theorem Tx2.mono (h : Tx2 A A' sp tp dv xv k P S0 n w) (hj : n ≤ j) : Tx2 A A' sp tp dv xv k P S0 j w := by
 obtain ⟨⟨S, h1, h2⟩, X, h3, h4⟩ := h;exact ⟨⟨S, h1, h2.mono hj⟩, X, h3, h4.mono hj⟩
theorem Tx2.prog (h : Tx2 A A' sp tp dv xv k P S0 n w) (fx : Fx A A' B sp tp) (hs : ST A w' (.pointer (some ⟨sp, 0, none⟩)) dv k P S') (hr : Rdd (n + j) S0 S') (hc : Ch A w w') : Tx2 A A' sp tp dv xv k P S0 (n + j) w' := by
 obtain ⟨_, X, h3, h4⟩ := h;exact ⟨⟨S', hs, hr⟩, X, h3.high hc (fun x hx e => fx.dis x e hx) fx.nt, h4.mono (by omega)⟩
theorem Tx2.ref (h : Tx2 A A' sp tp dv xv k P S0 n w) (fx : Fx A A' B sp tp) (hs : RT A' w' (.pointer (some ⟨tp, 0, none⟩)) xv k P S') (hr : Rdd (n + j) S0 S') (hc : Ch A' w w') : Tx2 A A' sp tp dv xv k P S0 (n + j) w' := by
 obtain ⟨⟨S, h1, h2⟩, _⟩ := h;exact ⟨⟨S, h1.high hc (fun x hx e => fx.dis x hx e) fx.ns, h2.mono (by omega)⟩, S', hs, hr⟩
theorem Tx2.lt (h : Tx2 A A' sp tp dv xv k P S0 n w) {x : Nat} (hx : A x ∨ A' x) : x < w.heap.size := by
 obtain ⟨⟨S, h1, _⟩, X, h3, _⟩ := h;rcases hx with q | q
 ·exact h1.lt q
 ·exact h3.lt q
theorem Tx2.bytes (h : Tx2 A A' sp tp dv xv k P S0 n w) (p : Int) : ∀ c ∈ getL P S0 p, c < 256 := by
 obtain ⟨⟨S, h1, h2⟩, _⟩ := h;rw [← rdd_getL h2];exact (getL_lt h1 p).2
end

theorem ch_l {A A' : Nat → Prop} {w w' : World} (h : Ch A w w') : Ch (fun x => A x ∨ A' x) w w' := ⟨h.os, h.tape, h.output, h.size, fun x hx hd => h.block x hx (fun q => hd (.inl q))⟩
theorem ch_r {A A' : Nat → Prop} {w w' : World} (h : Ch A' w w') : Ch (fun x => A x ∨ A' x) w w' := ⟨h.os, h.tape, h.output, h.size, fun x hx hd => h.block x hx (fun q => hd (.inr q))⟩
theorem cw_of {w : World} {ao : Option Addr} {cap : Nat} {d : List Cl} (h1 : d.length ≤ cap) (h2 : cap ≤ maxLen) (h3 : d ≠ [] → ∃ g, ao = some ⟨g, 0, none⟩ ∧ g < w.heap.size ∧ Mc w g d) : Cw w (.slice ao d.length cap) d := ⟨ao, cap, rfl, h1, h2, h3⟩
theorem cw_chA {D : Nat → Prop} {w w' : World} {v : Value} {d : List Cl} (h : Cw w v d) (hc : Ch D w w') (hd : ∀ x, v.ownBlock = some x → ¬ D x) : Cw w' v d := by
 obtain ⟨ao, cap, rfl, h1, h2, h3⟩ := h;refine ⟨ao, cap, rfl, h1, h2, fun q => ?_⟩;obtain ⟨g, rfl, hl, hm⟩ := h3 q;refine ⟨g, rfl, Nat.lt_of_lt_of_le hl hc.size, fun i j hi hj => ?_⟩;have hg := hc.block g hl (hd g rfl);obtain ⟨q1, q2⟩ := hm i j hi hj;exact ⟨by rw [World.cell?_of_block (w := w) hg]; exact q1, by rw [World.frozen?_of_block (w := w) hg]; exact q2⟩
theorem told_nil (w : World) : Calls Tryz.prog 24 #[.pointer none, .pointer none] w fun e w' => e = .returned (.bool true) ∧ Below w.heap.size w w' := by
 go_in;go_wp2_with fail;refine (smark_nil _).mono ?_;rintro e w1 ⟨rfl, hb1⟩;have HB1 : Hid (Below w.heap.size w (w1.alloc (Obj.cells #[.int .i64 0, .int .i64 0, .slice none 0 0] 65))) := below_trans hb1 (below_alloc _ _);have HM1 : Hid (MB (w1.alloc (Obj.cells #[.int .i64 0, .int .i64 0, .slice none 0 0] 65)) w1.heap.size 0 0 (.slice none 0 0)) := mb_new w1 0 0 (.slice none 0 0);clear hb1;go_upto_region 2 with fail
 generalize w1.heap.size = T5 at HM1 ⊢;generalize w1.alloc (Obj.cells #[.int .i64 0, .int .i64 0, .slice none 0 0] 65) = w2 at HB1 HM1 ⊢;go_wp2_with fail;refine (rmark_nil _).mono ?_;rintro e w3 ⟨rfl, hb3⟩;have HB3 : Hid (Below w.heap.size w (w3.alloc (Obj.cells #[.int .i64 0, .int .i64 0, .slice none 0 0] 65))) := below_trans HB1.out (below_trans hb3 (below_alloc _ _));have HM3 : Hid (MB (w3.alloc (Obj.cells #[.int .i64 0, .int .i64 0, .slice none 0 0] 65)) w3.heap.size 0 0 (.slice none 0 0)) := mb_new w3 0 0 (.slice none 0 0);have HM5 : Hid (MB (w3.alloc (Obj.cells #[.int .i64 0, .int .i64 0, .slice none 0 0] 65)) T5 0 0 (.slice none 0 0)) := HM1.out.keep (below_trans hb3 (below_alloc _ _));clear hb3;go_upto_region 3 with fail
 generalize w3.heap.size = T7 at HM3 ⊢;generalize w3.alloc (Obj.cells #[.int .i64 0, .int .i64 0, .slice none 0 0] 65) = w4 at HB3 HM3 HM5 ⊢;obtain ⟨a0, a1, a2, _⟩ := HM5.out;obtain ⟨b0, b1, b2, _⟩ := HM3.out;go_wp2_with fail;refine (marks_same (ks := []) (Sv.nil _ _) (Sv.nil _ _) 0 0).mono ?_;rintro e w5 ⟨rfl, hb5⟩;have HB5 := hidH (below_trans HB3.out hb5);clear hb5 a0 a1 a2 b0 b1 b2;go_wp2_with fail;refine (scells_nil _).mono ?_;rintro e w6 ⟨rfl, hb6⟩;have HB6 := hidH (below_trans HB5.out hb6);clear hb6;go_wp2_with fail;refine (rcells_nil _).mono ?_;rintro e w7 ⟨rfl, hw7⟩;replace hw7 := hw7.symm;subst hw7;go_wp2_with fail;refine (cells_same (d := []) ⟨none, 0, rfl, Nat.le_refl _, by simp [maxLen], fun q => absurd rfl q⟩ ⟨none, 0, rfl, Nat.le_refl _, by simp [maxLen], fun q => absurd rfl q⟩).mono ?_;rintro e w8 ⟨rfl, hb8⟩;have HB8 := hidH (below_trans HB6.out hb8);clear hb8;go_wp2_with fail;refine (sused_nil _).mono ?_;rintro e w9 ⟨rfl, h9⟩;replace h9 := h9.symm;subst h9;go_wp2_with fail;refine (rsused_nil _).mono ?_;rintro e w9 ⟨rfl, h9⟩;replace h9 := h9.symm;subst h9;go_wp2_with fail;refine (sended_nil _).mono ?_;rintro e w9 ⟨rfl, h9⟩;replace h9 := h9.symm;subst h9;go_wp2_with fail;refine (rsended_nil _).mono ?_;rintro e w9 ⟨rfl, h9⟩;replace h9 := h9.symm;subst h9;go_wp2_with fail;go_ret;exact ⟨rfl, HB8.out⟩
structure Rg2 (k : Int) (P : Bo) (S0 : Dk) (m : Mk) (Ls : List (List Cl)) : Prop where
 mrk : decM (getL P S0 0) = (m, 0)
 ce : decP P S0 6 = some Ls
 ok : OkS k m Ls
 sh : shutB P S0 = false
theorem told_walk {A A' : Nat → Prop} {B sp tp n : Nat} {dv xv : Value} {k : Int} {P : Bo} {S0 : Dk} {m : Mk} {Ls : List (List Cl)} {w : World} (h : Tx2 A A' sp tp dv xv k P S0 n w) (fx : Fx A A' B sp tp) (r : Rg2 k P S0 m Ls) (hn : S0.rd + n < 1000000000) :
  Calls Tryz.prog 24 #[.pointer (some ⟨sp, 0, none⟩), .pointer (some ⟨tp, 0, none⟩)] w fun e w' => e = .returned (.bool true) ∧ Tx2 A A' sp tp dv xv k P S0 (n + 14) w' ∧ Ch (fun x => A x ∨ A' x) w w' := by
 have HTW := hidH h;have HFX : Hid (Fx A A' B sp tp) := fx;have HRG : Hid (Rg2 k P S0 m Ls) := r;have HN := hidH hn;have HPK : Hid (Pok Ls) := decP_ok6 r.ce (fun p => h.bytes p);have HAL : Hid (∀ x, A x ∨ A' x → x < w.heap.size) := fun x hx => h.lt hx;clear h fx r hn;go_in;go_wp2_with fail;obtain ⟨⟨S, hst, hrd⟩, X, hrt, hrx⟩ := HTW.out;have HRS : Hid (Rdd n S0 S) := hrd;have HSH : Hid (shutB P S = false) := by rw [rdd_shut hrd]; exact HRG.out.sh
 refine (smark_walk hst (by have h1 := hrd.rd; have h2 := HN.out; omega)).mono ?_;rintro e w1 ⟨cc, m', kv, S1, rfl, ho, hcase, hst1, hr1, hc1⟩;rw [getB_ok HSH.out] at hst1
 have hmm : cc = 0 ∧ m' = m := by
  rw [rdd_getL hrd, HRG.out.mrk] at hcase;rcases hcase with ⟨_, q, _⟩ | ⟨_, _, q, _⟩ | ⟨q1, _, q2⟩
  ·rw [HSH.out] at q; cases q
  ·exact absurd rfl q
  ·cases q2; exact ⟨q1, rfl⟩
 obtain ⟨rfl, rfl⟩ := hmm;have HTW1 : Hid (Tx2 A A' sp tp dv xv k P S0 (n + 1) w1) := HTW.out.prog HFX.out hst1 (hrd.trans hr1) hc1;have HC1 : Hid (Ch (fun x => A x ∨ A' x) w w1) := ch_l hc1;have HKV : Hid (Kv w1 kv m'.k) := own_sv ho;have HKB : Hid (∀ x, kv.ownBlock = some x → w.heap.size ≤ x) := fun x hx => (ho.lt x hx).1;obtain ⟨ka, kn, kc, rfl⟩ := sv_any HKV.out;clear hst hrd hrt hrx ho hcase hst1 hr1 hc1 HRS HSH HTW;go_upto_region 2 with fail
 have HTW2 : Hid (Tx2 A A' sp tp dv xv k P S0 (n + 1) (w1.alloc (Obj.cells #[.int .i64 m'.b, .int .i64 m'.a, .slice ka kn kc] 65))) := HTW1.out.below (below_alloc _ _);have HC2 : Hid (Ch (fun x => A x ∨ A' x) w (w1.alloc (Obj.cells #[.int .i64 m'.b, .int .i64 m'.a, .slice ka kn kc] 65))) := HC1.out.self (Ch.of_below (below_alloc _ _));have HM2 : Hid (MB (w1.alloc (Obj.cells #[.int .i64 m'.b, .int .i64 m'.a, .slice ka kn kc] 65)) w1.heap.size m'.b m'.a (.slice ka kn kc)) := mb_new w1 _ _ _;have HK2 : Hid (Kv (w1.alloc (Obj.cells #[.int .i64 m'.b, .int .i64 m'.a, .slice ka kn kc] 65)) (.slice ka kn kc) m'.k) := HKV.out.below (below_alloc _ _);have HT5 : Hid (w.heap.size ≤ w1.heap.size) := HC1.out.size;generalize w1.heap.size = T5 at HM2 HT5 ⊢;generalize w1.alloc (Obj.cells #[.int .i64 m'.b, .int .i64 m'.a, .slice ka kn kc] 65) = w2 at HTW2 HC2 HM2 HK2 ⊢;clear HTW1 HC1 HKV;have HNA : Hid (∀ x, w.heap.size ≤ x → ¬ (A x ∨ A' x)) := fun x hx q => by have := HAL.out x q; omega
 go_wp2_with fail;obtain ⟨⟨S, hst, hrd⟩, X, hrt, hrx⟩ := HTW2.out;have HXH : Hid (shutB P X = false) := by rw [rdd_shut hrx]; exact HRG.out.sh
 refine (rmark_ok hrt HXH.out (by have h1 := hrx.rd; have h2 := HN.out; omega)).mono ?_;unfold RnGot;rw [rdd_getL hrx, HRG.out.mrk];rintro e w3 ⟨kv3, rfl, ho3, hrt3, hc3⟩;have HTW3 : Hid (Tx2 A A' sp tp dv xv k P S0 (n + 1 + 1) w3) := HTW2.out.ref HFX.out hrt3 (hrx.trans getS_rdd) hc3;have HC3 : Hid (Ch (fun x => A x ∨ A' x) w w3) := HC2.out.self (ch_r hc3);have HK3 : Hid (Kv w3 kv3 m'.k) := own_sv ho3;have HKA : Hid (Kv w3 (.slice ka kn kc) m'.k) := kv_ch HK2.out hc3 (fun x hx q => HNA.out x (HKB.out x hx) (.inr q));have HM3 : Hid (MB w3 T5 m'.b m'.a (.slice ka kn kc)) := HM2.out.ch hc3 (fun q => HNA.out T5 HT5.out (.inr q));obtain ⟨la, ln, lc, rfl⟩ := sv_any HK3.out;clear hst hrd hrt hrx ho3 hrt3 hc3 HXH HTW2 HC2 HM2 HK2;go_upto_region 3 with fail
 have HTW4 : Hid (Tx2 A A' sp tp dv xv k P S0 (n + 1 + 1) (w3.alloc (Obj.cells #[.int .i64 m'.b, .int .i64 m'.a, .slice la ln lc] 65))) := HTW3.out.below (below_alloc _ _);have HC4 : Hid (Ch (fun x => A x ∨ A' x) w (w3.alloc (Obj.cells #[.int .i64 m'.b, .int .i64 m'.a, .slice la ln lc] 65))) := HC3.out.self (Ch.of_below (below_alloc _ _));have HM4 : Hid (MB (w3.alloc (Obj.cells #[.int .i64 m'.b, .int .i64 m'.a, .slice la ln lc] 65)) w3.heap.size m'.b m'.a (.slice la ln lc)) := mb_new w3 _ _ _;have HMA : Hid (MB (w3.alloc (Obj.cells #[.int .i64 m'.b, .int .i64 m'.a, .slice la ln lc] 65)) T5 m'.b m'.a (.slice ka kn kc)) := HM3.out.keep (below_alloc _ _);have HK4 : Hid (Kv (w3.alloc (Obj.cells #[.int .i64 m'.b, .int .i64 m'.a, .slice la ln lc] 65)) (.slice la ln lc) m'.k) := HK3.out.below (below_alloc _ _);have HKA4 : Hid (Kv (w3.alloc (Obj.cells #[.int .i64 m'.b, .int .i64 m'.a, .slice la ln lc] 65)) (.slice ka kn kc) m'.k) := HKA.out.below (below_alloc _ _);generalize w3.heap.size = T7 at HM4 ⊢;generalize w3.alloc (Obj.cells #[.int .i64 m'.b, .int .i64 m'.a, .slice la ln lc] 65) = w4 at HTW4 HC4 HM4 HMA HK4 HKA4 ⊢;clear HTW3 HC3 HM3 HK3 HKA;obtain ⟨a0, a1, a2, _⟩ := HMA.out;obtain ⟨b0, b1, b2, _⟩ := HM4.out;go_wp2_with fail;refine (marks_same HKA4.out HK4.out m'.b m'.a).mono ?_;rintro e w5 ⟨rfl, hb5⟩;have HTW5 := hidH (HTW4.out.below hb5);have HC5 : Hid (Ch (fun x => A x ∨ A' x) w w5) := HC4.out.self (Ch.of_below hb5);clear hb5 a0 a1 a2 b0 b1 b2 HTW4 HC4 HM4 HMA HK4 HKA4;go_wp2_with fail;obtain ⟨⟨S, hst, hrd⟩, X, hrt, hrx⟩ := HTW5.out;have HSH : Hid (shutB P S = false) := by rw [rdd_shut hrd]; exact HRG.out.sh
 refine (scells_walk hst (Ls := Ls) (fun _ => by rw [rdd_decP hrd]; exact HRG.out.ce) HPK.out.2.2 (by have h1 := hrd.rd; have h2 := HN.out; omega)).mono ?_;rintro e w6 ⟨S6, hst6, hr6, hc6, hcase⟩;rw [getB_ok HSH.out] at hst6;rcases hcase with ⟨q, _⟩ | ⟨_, ao, cap, d, rfl, d1, d2, d3, d4, _⟩
 ·rw [HSH.out] at q; cases q
 have HTW6 : Hid (Tx2 A A' sp tp dv xv k P S0 (n + 1 + 1 + 6) w6) := HTW5.out.prog HFX.out hst6 (hrd.trans hr6) hc6;have HC6 : Hid (Ch (fun x => A x ∨ A' x) w w6) := HC5.out.self (ch_l hc6);have HSRT : Hid (SrtOf Ls.flatten d) := d3;have HW5 : Hid (w.heap.size ≤ w5.heap.size) := HC5.out.size;have HCW : Hid (Cw w6 (.slice ao d.length cap) d) := cw_of d1 d2 (fun q => by obtain ⟨g, h1, _, h3, h4⟩ := d4 q; exact ⟨g, h1, h3, h4⟩)
 have HCB : Hid (d ≠ [] → ∀ x, (Value.slice ao d.length cap).ownBlock = some x → w.heap.size ≤ x) := fun q x hx => by
  obtain ⟨g, h1, h2, _, _⟩ := d4 q;rw [h1] at hx;have e : g = x := Option.some.inj hx;have := HW5.out;omega
 clear hst hrd hrt hrx hst6 hr6 hc6 d1 d2 d3 d4 HSH HTW5 HC5;go_wp2_with fail;obtain ⟨⟨S, hst, hrd⟩, X, hrt, hrx⟩ := HTW6.out;have HXH : Hid (shutB P X = false) := by rw [rdd_shut hrx]; exact HRG.out.sh
 have HXP : Hid (decP P X 6 = some Ls) := by show _ = _; rw [rdd_decP hrx]; exact HRG.out.ce
 refine (rscells_ok hrt HXH.out (gP_16 HXP.out HPK.out) (by have h1 := hrx.rd; have h2 := HN.out; omega)).mono ?_;rintro e w7 ⟨X7, ao7, cap7, d7, rfl, hs7, ho7, hrt7, hr7, hc7⟩;rw [all_flat HXP.out] at hs7;have hdd : d7 = d := srt_one HRG.out.ok.2 hs7 HSRT.out;subst hdd;have HTW7 : Hid (Tx2 A A' sp tp dv xv k P S0 (n + 1 + 1 + 6 + 6) w7) := HTW6.out.ref HFX.out hrt7 (hrx.trans hr7) hc7;have HC7 : Hid (Ch (fun x => A x ∨ A' x) w w7) := HC6.out.self (ch_r hc7);have HCW7 : Hid (Cw w7 (.slice ao7 d7.length cap7) d7) := cw_own ho7
 have HCA7 : Hid (Cw w7 (.slice ao d7.length cap) d7) := by
  by_cases hne : d7 = []
  ·obtain ⟨ao', cap', e, q1, q2, _⟩ := HCW.out;exact ⟨ao', cap', e, q1, q2, fun q => absurd hne q⟩
  ·exact cw_chA HCW.out hc7 (fun x hx q => HNA.out x (HCB.out hne x hx) (.inr q))
 obtain ⟨N, hN⟩ : ∃ N, N = d7.length := ⟨_, rfl⟩;rw [← hN] at HCW7 HCA7 ⊢;clear hst hrd hrt hrx hs7 ho7 hrt7 hr7 hc7 HTW6 HC6 hN;go_wp2_with fail;refine (cells_same HCA7.out HCW7.out).mono ?_;rintro e w8 ⟨rfl, hb8⟩;have HTW8 := hidH (HTW7.out.below hb8);have HC8 : Hid (Ch (fun x => A x ∨ A' x) w w8) := HC7.out.self (Ch.of_below hb8);clear hb8 HTW7 HC7;obtain ⟨⟨S, hst, hrd⟩, X, hrt, hrx⟩ := HTW8.out;have HST := hidH hst;have HRT := hidH hrt;clear hst hrd hrt hrx;go_wp2_with fail;refine (sused_walk HST.out).mono ?_;rintro e w9 ⟨rfl, h9⟩;replace h9 := h9.symm;subst h9;go_wp2_with fail;refine (rsused_walk HRT.out).mono ?_;rintro e w9 ⟨rfl, h9⟩;replace h9 := h9.symm;subst h9;go_wp2_with fail;refine (sended_walk HST.out).mono ?_;rintro e w9 ⟨rfl, h9⟩;replace h9 := h9.symm;subst h9;go_wp2_with fail;refine (rsended_walk HRT.out).mono ?_;rintro e w9 ⟨rfl, h9⟩;replace h9 := h9.symm;subst h9;go_wp2_with fail;go_ret;exact ⟨by simp, HTW8.out.mono (by omega), HC8.out⟩
end
theorem rload_bad {v : Value} {ls : List (List Nat)} {w : World} (hv : PvD w v ls) (hp : ls.length < 1 ∨ 64 < ls.length) : Calls Tryz.prog 26 #[v] w fun e w' => e = .returned (.tuple #[.pointer none, .int .i64 1]) ∧ w' = w := by
 obtain ⟨ao, cap, rfl, _, _⟩ := hv.form;by_cases h1 : ls.length < 1
 ·have h0 : ls.length = 0 := by omega
  rw [h0];clear hp hv;go_in;go_wp2_with fail;go_ret2;exact ⟨rfl, rfl⟩
 ·have h4 : 64 < (ls.length : Int) := by omega
  have h5 : 1 ≤ (ls.length : Int) := by omega
  clear hp hv h1;go_in;go_wp2_with fail;go_ret2;exact ⟨rfl, rfl⟩
theorem rload_walk {v : Value} {ls : List (List Nat)} {w : World} (hv : PvD w v ls) (h1 : 1 ≤ ls.length) (h64 : ls.length ≤ 64) : Calls Tryz.prog 26 #[v] w fun e w' => Ld 94 w ls e w' := by
 have HV : Hid (PvD w v ls) := hv;obtain ⟨ao, cap, rfl, q1, q2, q3, q4⟩ := hv;obtain ⟨b, off, u, rfl, _, _⟩ := q4 0 (by omega)
 have HC : Hid (∀ i, i < ls.length → ∃ u, w.cell? ⟨b, off + i, none⟩ = some u ∧ Bv w u (bk ls i)) := fun i hi => by
  obtain ⟨b', off', u', e1, e2, e3⟩ := q4 i hi
  cases e1
  exact ⟨u', e2, e3⟩
 have H1 : Hid (1 ≤ ls.length) := h1;have H64 : Hid (ls.length ≤ 64) := h64;have HBY : Hid (∀ b ∈ ls, ∀ c ∈ b, c < 256) := HV.out.bytes;have hi1 : (1 : Int) ≤ (ls.length : Int) := by omega
 have hi2 : (ls.length : Int) ≤ 64 := by omega
 have HLD : Hid (∀ e w', (longB ls = true → e = .returned (.tuple #[.pointer none, .int .i64 6]) ∧ w' = w) → (longB ls = false → Nw 94 w ls e w') → Ld 94 w ls e w') := by
  intro e w' a b;unfold Ld
  split
  ·rename_i hh; exact a hh
  ·rename_i hh; exact b (by simpa using hh)
 clear q1 q2 q3 q4 h1;go_in;go_wp2_with fail;go_loopw [4] (fun iv wr => LdRel ls w iv wr) (fun iv _ => ls.length - (intOf iv).toNat)
 case atStart => exact ⟨0, Nat.zero_le _, rfl, fun i hi => by omega, rfl⟩
 case round =>
  obtain ⟨k, hk, rfl, hsm, hw⟩ := hrel;subst hw;have HSM := hidH hsm;clear hsm;by_cases hlt : k < ls.length
  ·obtain ⟨u, hu, hbu⟩ := HC.out k hlt;obtain ⟨p, hp⟩ : ∃ p, bk ls k = p := ⟨_, rfl⟩;rw [hp] at hbu;have HP : Hid (bk ls k = p) := hp;obtain ⟨a, c, rfl, _, _⟩ := bv_formD hbu;clear hp hbu;by_cases hpl : p.length ≤ 1024
   ·have hpi : decide ((1024 : Int) < (p.length : Int)) = false := decide_eq_false (by omega);have hpi2 : ¬ (1024 : Int) < (p.length : Int) := by omega
    have HPL : Hid (p.length ≤ 1024) := hpl;clear hpl;go_wp2_with fail;go_roundw
    case rel =>
     refine ⟨k + 1, hlt, rfl, fun i hi => ?_, rfl⟩;by_cases e : i = k
     ·rw [e, HP.out]; exact HPL.out
     ·exact HSM.out i (by omega)
    case measure => simp [intOf]; omega
   ·have hpi : (1024 : Int) < (p.length : Int) := by omega
    have HPL : Hid (1024 < p.length) := by show _ < _; omega
    clear hpl;go_wp2_with fail
    (try simp only [Exit.inBlock, Exit.then])
    go_ret2;refine HLD.out _ _ (fun _ => ⟨rfl, rfl⟩) fun h => ?_;exfalso;have h2 := long_yes (bk_mem hlt) (by rw [HP.out]; exact HPL.out);rw [h] at h2; cases h2
  ·obtain rfl : k = ls.length := by omega
   have HL : Hid (∀ b ∈ ls, b.length ≤ 1024) := by
    intro x hx;obtain ⟨i, hi, rfl⟩ := List.getElem_of_mem hx;rw [← bk_at hi]; exact HSM.out i hi
   go_wp2_with fail;refine (rcopies_walk HV.out H1.out H64.out HL.out).mono ?_;rintro e w1 ⟨g, cap1, rfl, hG, hge, hB⟩;go_wp2_with fail;go_ret2;refine HLD.out _ _ (fun h => ?_) fun _ => ?_
   ·exfalso;obtain ⟨x, hx, h2⟩ := List.any_eq_true.1 h;have := HL.out x hx;simp at h2; omega
   ·exact nw_end (ok_load H1.out H64.out HL.out HBY.out) hG hge hB
theorem so_excl {k : Int} {S : Dk} {c : Int} {P : Bo} {m : Mk} {Ls : List (List Cl)} (h : SoNo k S c) (h' : SoYes k S P m Ls) : False := by
 rcases h with ⟨q, _⟩ | ⟨_, q, _⟩ | ⟨_, _, _, q⟩
 ·rw [h'.1] at q; cases q
 ·exact q h'.2.1
 ·exact q P m Ls h'
theorem so_same {k : Int} {S : Dk} {c c' : Int} (h : SoNo k S c) (h' : SoNo k S c') : c' = c := by
 rcases h with ⟨q, rfl⟩ | ⟨q, q2, rfl⟩ | ⟨q, q2, rfl, _⟩ <;> rcases h' with ⟨p, rfl⟩ | ⟨p, p2, rfl⟩ | ⟨p, p2, rfl, _⟩
 all_goals first
  | rfl
  | exact absurd p2 q2
  | exact absurd q2 p2
  | (rw [q] at p; cases p; done)
theorem so_ne {k : Int} {S : Dk} {c : Int} (h : SoNo k S c) : c ≠ 0 := by
 rcases h with ⟨_, rfl⟩ | ⟨_, q, rfl⟩ | ⟨_, _, rfl, _⟩
 ·omega
 ·exact q
 ·omega
theorem so_rg {k : Int} {S : Dk} {P : Bo} {m : Mk} {Ls : List (List Cl)} (h : SoYes k S P m Ls) : Rg2 k P S m Ls := ⟨h.2.2.2.2.1, h.2.2.2.2.2.1, h.2.2.2.2.2.2, op_shut (j := 0) h.2.1 h.2.2.1 (Rdd.refl _)⟩
theorem kv_at {w : World} {ao : Option Addr} {n cap : Nat} {l : List Nat} (h : Kv w (.slice ao n cap) l) {i : Nat} (hi : i < l.length) : ∃ b off, ao = some ⟨b, off, none⟩ ∧ w.cell? ⟨b, off + i, none⟩ = some (.int .u64 l[i]) := kv_get h hi
theorem two_box {w : World} {T : Nat} {h : Bool} {b : Nat} (hc : w.cell? ⟨T, 0, none⟩ = some (.bool h) ∧ w.cell? ⟨T, 1, none⟩ = some (.int .u64 b)) {D : Nat → Prop} {w' : World} (hh : Ch D w w') (hd : ¬ D T) : w'.cell? ⟨T, 0, none⟩ = some (.bool h) ∧ w'.cell? ⟨T, 1, none⟩ = some (.int .u64 b) := ⟨hh.cell hc.1 hd, hh.cell hc.2 hd⟩
theorem storeimages_walk {w : World} {k : Int} {iv kv : Value} {ls : List (List Nat)} {ks : List Nat} (hi : PvD w iv ls) (hk : Kv w kv ks) :
  Calls Tryz.prog 4 #[.int .i64 k, iv, kv] w fun e w' => e = .returned (.bool true) ∧ Below w.heap.size w w' := by
 have HPV : Hid (PvD w iv ls) := hi;have HKV : Hid (Kv w kv ks) := hk;obtain ⟨ia, ic, hie, hil, _⟩ := hi.form;subst hie;obtain ⟨ka, kc, hke, hkl, hkm⟩ := kv_form hk;subst hke;have hki : (ks.length : Int) ≤ 9223372036854775807 := by simp only [maxLen] at hkm; omega
 clear hi hk hkl hkm;by_cases hbad : ls.length < 1 ∨ 64 < ls.length
 ·go_in;go_wp2_with fail;refine (awake_walkS _).mono ?_;rintro e w1 ⟨rfl, hb1⟩;have HB1 := hidH hb1;clear hb1;go_wp2_with fail;refine (load_bad (HPV.out.below HB1.out) hbad).mono ?_;rintro e w2 ⟨rfl, h2⟩;replace h2 := h2.symm;subst h2;go_wp2_with fail;refine (rload_bad (HPV.out.below HB1.out) hbad).mono ?_;rintro e w2 ⟨rfl, h2⟩;replace h2 := h2.symm;subst h2;go_wp2_with fail;go_ret;exact ⟨rfl, HB1.out⟩
 have h1 : 1 ≤ ls.length := by omega
 have h64 : ls.length ≤ 64 := by omega
 have HL1 : Hid (1 ≤ ls.length) := h1;have HL64 : Hid (ls.length ≤ 64) := h64;clear hbad h1 h64
 cases hlong : longB ls
 rotate_left
 ·go_in;go_wp2_with fail;refine (awake_walkS _).mono ?_;rintro e w1 ⟨rfl, hb1⟩;have HB1 := hidH hb1;clear hb1;go_wp2_with fail;refine (load_walk (HPV.out.below HB1.out) HL1.out HL64.out).mono ?_;rintro e w2 hld;unfold Ld at hld;rw [if_pos hlong] at hld;obtain ⟨rfl, h2⟩ := hld;replace h2 := h2.symm;subst h2;go_wp2_with fail;refine (rload_walk (HPV.out.below HB1.out) HL1.out HL64.out).mono ?_;rintro e w2 hld;unfold Ld at hld;rw [if_pos hlong] at hld;obtain ⟨rfl, h2⟩ := hld;replace h2 := h2.symm;subst h2;go_wp2_with fail;go_ret;exact ⟨rfl, HB1.out⟩
 go_in;go_wp2_with fail;refine (awake_walkS _).mono ?_;rintro e w1 ⟨rfl, hb1⟩;have HB1 := hidH hb1;clear hb1;go_wp2_with fail;refine (load_walk (HPV.out.below HB1.out) HL1.out HL64.out).mono ?_;rintro e w2 hld;unfold Ld at hld;rw [if_neg (by rw [hlong]; simp)] at hld;obtain ⟨dv, D, rfl, hd2, hb2, hD2⟩ := hld;have HDK2 := hidH hd2;have HB2 := hidH hb2;have HDL : Hid (∀ x, D x → w1.heap.size ≤ x ∧ x < w2.heap.size) := fun x hx => ⟨hD2 x hx, hd2.lt hx⟩;obtain ⟨sb, hsb⟩ : ∃ sb, dv = .pointer (some ⟨sb, 0, none⟩) := by obtain ⟨sb, gp, cap, e, _⟩ := hd2; exact ⟨sb, e⟩
 subst hsb;clear hd2 hb2 hD2;have HBW2 := hidH (below_trans HB1.out HB2.out);go_wp2_with fail;refine (rload_walk (HPV.out.below HBW2.out) HL1.out HL64.out).mono ?_;rintro e w3 hld;unfold Ld at hld;rw [if_neg (by rw [hlong]; simp)] at hld;obtain ⟨xv, D', rfl, hd3, hb3, hD3⟩ := hld;have HDX3 := hidH hd3;have HDK3 := hidH (HDK2.out.below hb3);have HDL' : Hid (∀ x, D' x → w2.heap.size ≤ x ∧ x < w3.heap.size) := fun x hx => ⟨hD3 x hx, hd3.lt hx⟩;have HBW3 := hidH (below_trans HBW2.out hb3);have HS23 : Hid (w.heap.size ≤ w1.heap.size ∧ w1.heap.size ≤ w2.heap.size ∧ w2.heap.size ≤ w3.heap.size) := ⟨HB1.out.size, HB2.out.size, hb3.size⟩;obtain ⟨xb, hxb⟩ : ∃ xb, xv = .pointer (some ⟨xb, 0, none⟩) := by obtain ⟨sb, gp, cap, e, _⟩ := hd3; exact ⟨sb, e⟩
 subst hxb;clear hd3 hb3 hD3 HDK2;go_wp2_with fail;refine (sopen_any HDK3.out (show (0 : Nat) < 1000000000 by omega) k).mono ?_;rintro e w4 ⟨S4, hr4, hc4, hcase⟩;have HC4 : Hid (Ch D w3 w4) := hc4;have HR4 : Hid (Rdd 9 (loadS ls) S4) := hr4;have HDX4 : Hid (Dsk 94 D' w4 (.pointer (some ⟨xb, 0, none⟩)) (loadS ls)) := HDX3.out.ch hc4 (fun x hx q => by have h1 := HDL.out x q; have h2 := HDL'.out x hx; omega);have HBW4 : Hid (Below w.heap.size w w4) := HBW3.out.trans (hc4.to_below (by have h2 := HS23.out; omega) (fun x hx => by have h1 := HDL.out x hx; have h2 := HS23.out; omega));clear hr4 hc4 HDX3 HDK3;rcases hcase with ⟨c, D1, rfl, hno, hdk, hd1⟩ | ⟨A, sp, P, m, Ls, rfl, hyes, hsp, hst, hA⟩
 ·have HNO : Hid (SoNo k (loadS ls) c) := hno;have hc0 := so_ne hno;have HDK4 := hidH hdk;have HD1 : Hid (∀ x, D1 x → (D x ∨ w3.heap.size ≤ x) ∧ x < w4.heap.size) := fun x hx => ⟨hd1 x hx, hdk.lt hx⟩;clear hno hdk hd1;go_wp2_with fail;refine (rsopen_any HDX4.out (show (0 : Nat) < 1000000000 by omega) k).mono ?_;rintro e w5 ⟨S5, hr5, hc5, hcase⟩;rcases hcase with ⟨c', D2, rfl, hno', hdk', hd2⟩ | ⟨A', tp, P', m', Ls', rfl, hyes', _⟩;rotate_left
  ·exact absurd hyes' (fun q => so_excl HNO.out q)
  have hcc := so_same HNO.out hno';subst hcc
  have HDK5 : Hid (Dsk 92 D1 w5 (.pointer (some ⟨sb, 0, none⟩)) S4) := HDK4.out.ch hc5 (fun x hx q => by
   have h1 := HD1.out x hx;have h2 := HDL'.out x q;rcases h1.1 with h3 | h3
   ·have := HDL.out x h3; omega
   ·omega)
  have HBW5 : Hid (Below w.heap.size w w5) := HBW4.out.trans (hc5.to_below (by have h2 := HS23.out; have h3 := HC4.out.size; omega) (fun x hx => by have h1 := HDL'.out x hx; have h2 := HS23.out; omega));clear hr5 hc5 hno' hdk' hd2;go_wp2_with fail;refine (told_nil _).mono ?_;rintro e w6 ⟨rfl, hb6⟩;have HDK6 := hidH (HDK5.out.below hb6);have HB6 := hidH (below_trans HBW5.out hb6);clear hb6;go_wp2_with fail;refine (image_walk HDK6.out).mono ?_;rintro e w7 ⟨gi, ci, rfl, hgr, _, hb7⟩;have HBL : Hid (S4.bl = ls) := HR4.out.bl;have HPI : Hid (PvD w7 (.slice (some ⟨gi, 0, none⟩) S4.bl.length ci) S4.bl) := hgr.pv HDK6.out.good.byt;have HB7 := hidH (below_trans HB6.out hb7);clear hgr hb7;go_wp2_with fail;refine (images_walkS HPI.out (HPV.out.below HB7.out)).mono ?_;rw [decide_eq_true HBL.out];rintro e w8 ⟨rfl, hb8⟩;have HB8 := hidH (below_trans HB7.out hb8);clear hb8;go_wp2_with fail;go_loopw [13] (fun jv wr => ∃ i : Nat, i ≤ ks.length ∧ jv = .int .i64 i ∧ Below w.heap.size w wr) (fun jv _ => ks.length - (intOf jv).toNat)
  case atStart => exact ⟨0, Nat.zero_le _, rfl, HB8.out⟩
  case round =>
   obtain ⟨i, hi, rfl, hB⟩ := hrel;have HB := hidH hB;clear hB;by_cases hlt : i < ks.length;rotate_left
   ·have hlti : ¬ (i : Int) < (ks.length : Int) := by omega
    go_wp2_with fail;go_ret;exact ⟨rfl, HB.out⟩
   have hlti : (i : Int) < (ks.length : Int) := by omega
   by_cases h64 : i < 64;rotate_left
   ·have h64i : ¬ (i : Int) < 64 := by omega
    go_wp2_with fail;go_ret;exact ⟨rfl, HB.out⟩
   have h64i : (i : Int) < 64 := by omega
   obtain ⟨kb, koff, hka, _⟩ := kv_at HKV.out hlt;have HKA : Hid (ka = some ⟨kb, koff, none⟩) := hka;clear hka;go_wp2_with fail;go_loopw [14] (fun nv wr => ∃ n : Nat, n ≤ 6 ∧ nv = .int .i64 n ∧ Below w.heap.size w wr) (fun nv _ => (6 - intOf nv).toNat)
   case atStart => exact ⟨0, Nat.zero_le _, rfl, HB.out⟩
   case round =>
    obtain ⟨n, hn, rfl, hB⟩ := hrel;have HBn := hidH hB;clear hB;by_cases hn6 : n < 6
    ·have hn6i : (n : Int) < 6 := by omega
     obtain ⟨kb', koff', e1, q0⟩ := kv_at (HKV.out.below HBn.out) hlt;rw [HKA.out] at e1
     cases e1
     obtain ⟨key, hkey⟩ : ∃ key, key = ks[i] := ⟨_, rfl⟩;rw [← hkey] at q0;have HQ0 : Hid (wr.cell? ⟨kb, koff + i, none⟩ = some (.int .u64 key)) := q0;clear hkey;have hkae := HKA.out;subst hkae;go_wp2_with fail;refine (squery_nil _ key n).mono ?_;rintro e v1 ⟨rfl, hv1⟩;have HV1 : Hid (Below wr.heap.size wr (v1.alloc (Obj.cells #[.bool false, .int .u64 0] 53))) := below_trans hv1 (below_alloc _ _);have HZ1 : Hid (VZ (v1.alloc (Obj.cells #[.bool false, .int .u64 0] 53)) v1.heap.size) := vz_new v1;clear hv1 q0;go_upto_region 18 with fail
     generalize v1.heap.size = T15 at HZ1 ⊢;generalize v1.alloc (Obj.cells #[.bool false, .int .u64 0] 53) = v2 at HV1 HZ1 ⊢;have q0 : v2.cell? ⟨kb, koff + i, none⟩ = some (.int .u64 key) := by rw [HV1.out.cell (p := ⟨kb, koff + i, none⟩) (cell_lt HQ0.out)]; exact HQ0.out
     go_wp2_with fail;refine (rquery_nil _ key n).mono ?_;rintro e v3 ⟨rfl, hv3⟩;have HV3 : Hid (Below wr.heap.size wr (v3.alloc (Obj.cells #[.bool false, .int .u64 0] 53))) := below_trans HV1.out (below_trans hv3 (below_alloc _ _));have HZ3 : Hid (VZ (v3.alloc (Obj.cells #[.bool false, .int .u64 0] 53)) v3.heap.size) := vz_new v3;have HZA : Hid (VZ (v3.alloc (Obj.cells #[.bool false, .int .u64 0] 53)) T15) := HZ1.out.below (below_trans hv3 (below_alloc _ _));clear hv3 q0;go_upto_region 19 with fail
     generalize v3.heap.size = T17 at HZ3 ⊢;generalize v3.alloc (Obj.cells #[.bool false, .int .u64 0] 53) = v4 at HV3 HZ3 HZA ⊢;obtain ⟨r0, r1, _⟩ := HZA.out;obtain ⟨s0, s1, _⟩ := HZ3.out;have hq : ∀ wx : World, (binOp .neq 53 (.agg #[.bool false, .int .u64 0]) (.agg #[.bool false, .int .u64 0])).run Tryz.prog wx = .ok (.bool false) wx := neq_val noV;have HBX := hidH (below_trans HBn.out HV3.out);go_wp2_with fail;go_roundw
     case rel => exact ⟨n + 1, hn6, by simp, HBX.out⟩
     case measure => simp [intOf]; omega
    ·have hn6i : ¬ (n : Int) < 6 := by omega
     go_wp2_with fail;go_roundw
     case rel => exact ⟨i + 1, hlt, by simp, HBn.out⟩
     case measure => simp [intOf]; omega
 ·have HYES := hidH hyes;have HST4 := hidH hst;have HSP4 : Hid (w3.heap.size ≤ sp ∧ sp < w4.heap.size) := ⟨hsp, by obtain ⟨q, e, h1, _⟩ := hst.ptr; cases e; exact h1⟩;have HA4 : Hid (∀ x, A x → (D x ∨ w3.heap.size ≤ x) ∧ x < w4.heap.size) := fun x hx => ⟨hA x hx, hst.lt hx⟩;clear hyes hst hsp hA;go_wp2_with fail;refine (rsopen_any HDX4.out (show (0 : Nat) < 1000000000 by omega) k).mono ?_;rintro e w5 ⟨S5, hr5, hc5, hcase⟩;rcases hcase with ⟨c', D2, rfl, hno', _⟩ | ⟨A', tp, P', m', Ls', rfl, hyes', htp, hrt, hA'⟩
  ·exact absurd HYES.out (fun q => so_excl hno' q)
  obtain ⟨e1, e2, e3⟩ := so_one HYES.out hyes';subst e1;subst e2;subst e3
  have HFX : Hid (Fx A A' w.heap.size sp tp) := by
   refine ⟨fun x hx q => ?_, fun q => ?_, fun q => ?_, fun x hx => ?_⟩
   ·have h1 := HA4.out x hx;rcases hA' x q with h2 | h2
    ·have h3 := HDL'.out x h2;rcases h1.1 with h4 | h4
     ·have := HDL.out x h4; omega
     ·omega
    ·omega
   ·have := HA4.out tp q; omega
   ·rcases hA' sp q with h2 | h2
    ·have h3 := HDL'.out sp h2; have h4 := HSP4.out; omega
    ·have h4 := HSP4.out; omega
   ·have h5 := HS23.out;rcases hx with hx | hx
    ·rcases (HA4.out x hx).1 with h4 | h4
     ·have := HDL.out x h4; omega
     ·omega
    ·rcases hA' x hx with h2 | h2
     ·have h3 := HDL'.out x h2; omega
     ·have h6 := HC4.out.size; omega
  have HTW5 : Hid (Tx2 A A' sp tp (.pointer (some ⟨sb, 0, none⟩)) (.pointer (some ⟨xb, 0, none⟩)) k P' (loadS ls) 9 w5) := ⟨⟨S4, HST4.out.high hc5 (fun x hx q => by
   have h1 := HA4.out x hx;have h3 := HDL'.out x q;rcases h1.1 with h4 | h4
   ·have := HDL.out x h4; omega
   ·omega) (fun q => by have h3 := HDL'.out sp q; have h4 := HSP4.out; omega), HR4.out⟩, S5, hrt, hr5⟩
  have HBW5 : Hid (Below w.heap.size w w5) := HBW4.out.trans (hc5.to_below (by have h2 := HS23.out; have h3 := HC4.out.size; omega) (fun x hx => by have h1 := HDL'.out x hx; have h2 := HS23.out; omega));have HRG : Hid (Rg2 k P' (loadS ls) m' Ls') := so_rg HYES.out;clear hr5 hc5 hyes' htp hrt hA' HST4 HSP4 HA4 HDX4;go_wp2_with fail;refine (told_walk HTW5.out HFX.out HRG.out (show 0 + 9 < 1000000000 by omega)).mono ?_;rintro e w6 ⟨rfl, htw6, hc6⟩;have HTW6 := hidH htw6;have HLO : Hid (∀ {wa wb : World}, Ch (fun x => A x ∨ A' x) wa wb → w.heap.size ≤ wa.heap.size → Below w.heap.size wa wb) := fun hc hs => hc.to_below hs (fun x hx => HFX.out.lo x hx);have HB6 : Hid (Below w.heap.size w w6) := HBW5.out.trans (HLO.out hc6 HBW5.out.size);clear htw6 hc6;obtain ⟨⟨S6, hst6, hr6⟩, _⟩ := HTW6.out;obtain ⟨Dq, hdq, _⟩ := hst6.dsk;have HDQ := hidH hdq;have HBL : Hid (S6.bl = ls) := hr6.bl;clear hst6 hr6 hdq;go_wp2_with fail;refine (image_walk HDQ.out).mono ?_;rintro e w7 ⟨gi, ci, rfl, hgr, _, hb7⟩;have HPI : Hid (PvD w7 (.slice (some ⟨gi, 0, none⟩) S6.bl.length ci) S6.bl) := hgr.pv HDQ.out.good.byt;have HB7 := hidH (below_trans HB6.out hb7);have HTW7 := hidH (HTW6.out.below hb7);clear hgr hb7 HTW6;go_wp2_with fail;refine (images_walkS HPI.out (HPV.out.below HB7.out)).mono ?_;rw [decide_eq_true HBL.out];rintro e w8 ⟨rfl, hb8⟩;have HB8 := hidH (below_trans HB7.out hb8);have HTW8 := hidH (HTW7.out.below hb8);clear hb8 HTW7;go_wp2_with fail;go_loopw [13] (fun jv wr => ∃ i N : Nat, i ≤ ks.length ∧ jv = .int .i64 i ∧ N ≤ 100 + i * 72 ∧ Tx2 A A' sp tp (.pointer (some ⟨sb, 0, none⟩)) (.pointer (some ⟨xb, 0, none⟩)) k P' (loadS ls) N wr ∧ Below w.heap.size w wr) (fun jv _ => ks.length - (intOf jv).toNat)
  case atStart => exact ⟨0, 9 + 14, Nat.zero_le _, rfl, by omega, HTW8.out, HB8.out⟩
  case round =>
   clear HTW8;obtain ⟨i, N, hi, rfl, hNN, htw, hB⟩ := hrel;have HB := hidH hB;have HNN : Hid (N ≤ 100 + i * 72) := hNN;have HTW := hidH htw;clear hB hNN htw;by_cases hlt : i < ks.length;rotate_left
   ·have hlti : ¬ (i : Int) < (ks.length : Int) := by omega
    go_wp2_with fail;go_ret;exact ⟨rfl, HB.out⟩
   have hlti : (i : Int) < (ks.length : Int) := by omega
   by_cases h64 : i < 64;rotate_left
   ·have h64i : ¬ (i : Int) < 64 := by omega
    go_wp2_with fail;go_ret;exact ⟨rfl, HB.out⟩
   have h64i : (i : Int) < 64 := by omega
   obtain ⟨kb, koff, hka, _⟩ := kv_at HKV.out hlt;have HKA : Hid (ka = some ⟨kb, koff, none⟩) := hka;clear hka;go_wp2_with fail;go_loopw [14] (fun nv wr => ∃ n M : Nat, n ≤ 6 ∧ nv = .int .i64 n ∧ M ≤ N + n * 12 ∧ Tx2 A A' sp tp (.pointer (some ⟨sb, 0, none⟩)) (.pointer (some ⟨xb, 0, none⟩)) k P' (loadS ls) M wr ∧ Below w.heap.size w wr) (fun nv _ => (6 - intOf nv).toNat)
   case atStart => exact ⟨0, N, Nat.zero_le _, rfl, by omega, HTW.out, HB.out⟩
   case round =>
    clear HTW;obtain ⟨n, M, hn, rfl, hMM, htw, hB⟩ := hrel;have HBn := hidH hB;have HMM : Hid (M ≤ N + n * 12) := hMM;have HMS : Hid (M < 100000) := by have h1 := HNN.out; show _ < _; omega
    have HTW := hidH htw;clear hB hMM htw;by_cases hn6 : n < 6
    ·have hn6i : (n : Int) < 6 := by omega
     obtain ⟨kb', koff', e1, q0⟩ := kv_at (HKV.out.below HBn.out) hlt;rw [HKA.out] at e1
     cases e1
     obtain ⟨key, hkey⟩ : ∃ key, key = ks[i] := ⟨_, rfl⟩;rw [← hkey] at q0
     have HQW : Hid (w.cell? ⟨kb, koff + i, none⟩ = some (.int .u64 key)) := by
      obtain ⟨kb2, koff2, e2, q2⟩ := kv_at HKV.out hlt;rw [HKA.out] at e2
      cases e2
      rw [hkey];exact q2
     clear hkey;have hkae := HKA.out;subst hkae;have HAL : Hid (∀ x, A x ∨ A' x → x < wr.heap.size) := fun x hx => HTW.out.lt hx;go_wp2_with fail;obtain ⟨⟨S, hst, hrd⟩, X, hrt, hrx⟩ := HTW.out;have HSH : Hid (shutB P' S = false) := by rw [rdd_shut hrd]; exact HRG.out.sh
     refine (query_walk hst (Ls := Ls') (fun _ => by rw [rdd_decP hrd]; exact HRG.out.ce) (by have h1 := hrd.rd; have h2 : (loadS ls).rd = 0 := rfl; have h3 := HMS.out; omega) key n).mono ?_;rintro e v1 ⟨cc, V, S1, rfl, hcs, hst1, hr1, hc1⟩;rw [getB_ok HSH.out] at hst1
     have hcs2 : cc = 0 ∧ V = shRes Ls' key n := by
      rcases hcs with ⟨q, _⟩ | ⟨_, q⟩
      ·rw [HSH.out] at q; cases q
      ·exact q
     obtain ⟨rfl, hV⟩ := hcs2;have HV : Hid (V = shRes Ls' key n) := hV;have HTW1 : Hid (Tx2 A A' sp tp (.pointer (some ⟨sb, 0, none⟩)) (.pointer (some ⟨xb, 0, none⟩)) k P' (loadS ls) (M + 6) (v1.alloc (Obj.cells #[.bool V.h, .int .u64 V.b] 53))) := (HTW.out.prog HFX.out hst1 (hrd.trans hr1) hc1).below (below_alloc _ _);have HBV1 : Hid (Below w.heap.size w (v1.alloc (Obj.cells #[.bool V.h, .int .u64 V.b] 53))) := below_trans (HBn.out.trans (HLO.out (ch_l hc1) HBn.out.size)) (below_alloc _ _);have HZ1 : Hid ((v1.alloc (Obj.cells #[.bool V.h, .int .u64 V.b] 53)).cell? ⟨v1.heap.size, 0, none⟩ = some (.bool V.h) ∧ (v1.alloc (Obj.cells #[.bool V.h, .int .u64 V.b] 53)).cell? ⟨v1.heap.size, 1, none⟩ = some (.int .u64 V.b)) := ⟨by simp [go_sem], by simp [go_sem]⟩;have HT15 : Hid (wr.heap.size ≤ v1.heap.size) := hc1.size;clear hst hrd hrt hrx hcs hst1 hr1 hc1 hV q0 HSH;go_upto_region 18 with fail
     generalize v1.heap.size = T15 at HZ1 HT15 ⊢;generalize v1.alloc (Obj.cells #[.bool V.h, .int .u64 V.b] 53) = v2 at HTW1 HBV1 HZ1 ⊢;have q0 : v2.cell? ⟨kb, koff + i, none⟩ = some (.int .u64 key) := by rw [HBV1.out.cell (p := ⟨kb, koff + i, none⟩) (cell_lt HQW.out)]; exact HQW.out
     go_wp2_with fail;obtain ⟨⟨S, hst, hrd⟩, X, hrt, hrx⟩ := HTW1.out;have HXH : Hid (shutB P' X = false) := by rw [rdd_shut hrx]; exact HRG.out.sh
     have HXP : Hid (decP P' X 6 = some Ls') := by show _ = _; rw [rdd_decP hrx]; exact HRG.out.ce
     refine (rquery_ok hrt HXH.out (by have h1 := hrx.rd; have h2 : (loadS ls).rd = 0 := rfl; have h3 := HMS.out; omega) key n).mono ?_;unfold RqGot;rw [res_same HXP.out, ← HV.out];rintro e v3 ⟨X1, rfl, hrt1, hrx1, hc1⟩;have HTW3 : Hid (Tx2 A A' sp tp (.pointer (some ⟨sb, 0, none⟩)) (.pointer (some ⟨xb, 0, none⟩)) k P' (loadS ls) (M + 6 + 6) (v3.alloc (Obj.cells #[.bool V.h, .int .u64 V.b] 53))) := (HTW1.out.ref HFX.out hrt1 (hrx.trans hrx1) hc1).below (below_alloc _ _);have HBV3 : Hid (Below w.heap.size w (v3.alloc (Obj.cells #[.bool V.h, .int .u64 V.b] 53))) := below_trans (HBV1.out.trans (HLO.out (ch_r hc1) HBV1.out.size)) (below_alloc _ _);have HZ3 : Hid ((v3.alloc (Obj.cells #[.bool V.h, .int .u64 V.b] 53)).cell? ⟨v3.heap.size, 0, none⟩ = some (.bool V.h) ∧ (v3.alloc (Obj.cells #[.bool V.h, .int .u64 V.b] 53)).cell? ⟨v3.heap.size, 1, none⟩ = some (.int .u64 V.b)) := ⟨by simp [go_sem], by simp [go_sem]⟩
     have HZA : Hid ((v3.alloc (Obj.cells #[.bool V.h, .int .u64 V.b] 53)).cell? ⟨T15, 0, none⟩ = some (.bool V.h) ∧ (v3.alloc (Obj.cells #[.bool V.h, .int .u64 V.b] 53)).cell? ⟨T15, 1, none⟩ = some (.int .u64 V.b)) :=
      two_box (two_box HZ1.out hc1 (fun q => by have h1 := HAL.out T15 (.inr q); have h2 := HT15.out; omega)) (D := fun _ => False) (Ch.of_below (below_alloc _ _)) (fun q => q)
     clear hst hrd hrt hrx hrt1 hrx1 hc1 q0 HXH HXP HTW1 HBV1 HZ1;go_upto_region 19 with fail
     generalize v3.heap.size = T17 at HZ3 ⊢;generalize v3.alloc (Obj.cells #[.bool V.h, .int .u64 V.b] 53) = v4 at HTW3 HBV3 HZ3 HZA ⊢;obtain ⟨r0, r1⟩ := HZA.out;obtain ⟨s0, s1⟩ := HZ3.out;have hq : ∀ wx : World, (binOp .neq 53 (.agg #[.bool V.h, .int .u64 V.b]) (.agg #[.bool V.h, .int .u64 V.b])).run Tryz.prog wx = .ok (.bool false) wx := neq_val V;go_wp2_with fail;go_roundw
     case rel => exact ⟨n + 1, M + 6 + 6, hn6, by simp, by have := HMM.out; omega, HTW3.out, HBV3.out⟩
     case measure => simp [intOf]; omega
    ·have hn6i : ¬ (n : Int) < 6 := by omega
     go_wp2_with fail;go_roundw
     case rel => exact ⟨i + 1, M, hlt, by simp, by have h1 := HMM.out; have h2 := HNN.out; omega, HTW.out, HBn.out⟩
     case measure => simp [intOf]; omega
end Go.Proofs.YtcmklbibehnloaaGreat
