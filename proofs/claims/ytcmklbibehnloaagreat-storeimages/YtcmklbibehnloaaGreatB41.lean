/- The reference's right. -/
import Derived.Test.YtcmklbibehnloaaGreatB40
set_option maxRecDepth 100000
set_option maxHeartbeats 16000000
namespace Go.Proofs.YtcmklbibehnloaaGreat
open Go.RowKit
section
def badB (k : Int) (m : Mk) (c : Cl) (seen : List Nat) : Bool := !(celB k m c) || decide (c.k ∈ seen)
def OkL (k : Int) (m : Mk) (l : List Cl) : Prop := (∀ c ∈ l, celB k m c = true) ∧ l.Pairwise (fun a b => a.k ≠ b.k)
theorem okL_snoc {k : Int} {m : Mk} {l : List Cl} {c : Cl} (h : OkL k m l) (hb : badB k m c (l.map (·.k)) = false) : OkL k m (l ++ [c]) := by
 unfold badB at hb;simp at hb;refine ⟨fun x hx => ?_, ?_⟩
 ·rcases List.mem_append.1 hx with q | q
  ·exact h.1 x q
  ·simp at q; subst q; exact hb.1
 ·rw [List.pairwise_append];refine ⟨h.2, by simp, fun a ha b hb2 => ?_⟩;simp at hb2;subst hb2;exact hb.2 a ha
theorem okL_bad {k : Int} {m : Mk} {l r : List Cl} {c : Cl} (hb : badB k m c (l.map (·.k)) = true) : ¬ OkL k m (l ++ c :: r) := by
 rintro ⟨h1, h2⟩;unfold badB at hb;simp at hb;rcases hb with q | ⟨a, ha, q⟩
 ·have := h1 c (by simp);rw [q] at this
  cases this
 ·rw [List.pairwise_append] at h2;exact h2.2.2 a ha c (by simp) q
def RgYes (k : Int) (P : Bo) (S : Dk) : Prop := ∃ m Ls, decM (getL P S 0) = (m, 0) ∧ decP P S 6 = some Ls ∧ OkS k m Ls
def RrGot (A : Nat → Prop) (w : World) (sv dv : Value) (k : Int) (P : Bo) (S : Dk) (e : Ending) (w' : World) : Prop :=
 ∃ (b : Bool) (S' : Dk), e = .returned (.bool b) ∧ (b = true ↔ RgYes k P S) ∧ RT A w' sv dv k P S' ∧ Rdd 7 S S' ∧ Ch A w w'
theorem RT.high {A : Nat → Prop} {w w1 : World} {sp : Nat} {dv : Value} {k : Int} {P : Bo} {S : Dk} (h : RT A w (.pointer (some ⟨sp, 0, none⟩)) dv k P S) {E : Nat → Prop} (hc : Ch E w w1) (hA : ∀ x, A x → ¬ E x) (hs : ¬ E sp) : RT A w1 (.pointer (some ⟨sp, 0, none⟩)) dv k P S := by
 obtain ⟨sp', bv, e, h1, h2, h3, h4⟩ := h
 cases e
 have hl := (Array.getElem?_eq_some_iff.1 h1).1;exact ⟨sp, bv, rfl, by rw [hc.block sp hl hs]; exact h1, h2, h3.ch hc hA, h4⟩
theorem RT.kind {A : Nat → Prop} {w : World} {sp : Nat} {dv : Value} {k : Int} {P : Bo} {S : Dk} (h : RT A w (.pointer (some ⟨sp, 0, none⟩)) dv k P S) : w.cell? ⟨sp, 1, none⟩ = some (.int .i64 k) := by
 obtain ⟨sp', bv, e, h1, _⟩ := h
 cases e
 rw [cell_of_row w sp 1 _ _ (0, 0) h1]; rfl
structure Rx (A : Nat → Prop) (w : World) (B sp : Nat) (dv : Value) (k : Int) (P : Bo) (S' : Dk) (m : Mk) (X : Nat) (kv qv : Value) (seen : List Nat) (wr : World) : Prop where
 rt : RT A wr (.pointer (some ⟨sp, 0, none⟩)) dv k P S'
 mb : MB wr X m.b m.a kv
 kk : Kv wr kv m.k
 sn : wr.ownsRow B 37 1 qv seen.length ((ib seen).map (Value.int .u64))
 ch : Ch A w wr
 bl : B ≤ wr.heap.size
 low : (∀ x, A x → x < B) ∧ sp < B ∧ X < B ∧ (∀ x, kv.ownBlock = some x → x < B) ∧ w.heap.size ≤ B
section

variable {A : Nat → Prop} {w wr wx : World} {B sp X : Nat} {dv : Value} {k : Int} {P : Bo} {S' S2 : Dk} {m : Mk} {kv qv qv' : Value} {seen seen' : List Nat}

theorem Rx.below (h : Rx A w B sp dv k P S' m X kv qv seen wr) (hb : Below wr.heap.size wr wx) : Rx A w B sp dv k P S' m X kv qv seen wx :=
 ⟨h.rt.below hb, h.mb.keep hb, h.kk.below hb, own_belowC h.sn hb, h.ch.self (Ch.of_below hb), Nat.le_trans h.bl hb.size, h.low⟩
theorem Rx.read (h : Rx A w B sp dv k P S' m X kv qv seen wr) (hr : RT A wx (.pointer (some ⟨sp, 0, none⟩)) dv k P S2) (hc : Ch A wr wx) (hX : ¬ A X) (hK : ∀ x, kv.ownBlock = some x → ¬ A x) : Rx A w B sp dv k P S2 m X kv qv seen wx :=
 ⟨hr, h.mb.ch hc hX, kv_ch h.kk hc hK, own_ch h.sn hc h.low.1, h.ch.self hc, Nat.le_trans h.bl hc.size, h.low⟩
theorem Rx.grow (h : Rx A w B sp dv k P S' m X kv qv seen wr) (hb : Below B wr wx) (ho : wx.ownsRow B 37 1 qv' seen'.length ((ib seen').map (Value.int .u64))) : Rx A w B sp dv k P S' m X kv qv' seen' wx := by
 have hc : Ch (fun x => B ≤ x) wr wx := ⟨hb.os, hb.tape, hb.output, hb.size, fun x _ hx => hb.block x (by omega)⟩;refine ⟨h.rt.high hc (fun x hx e => by have := h.low.1 x hx; omega) (by have := h.low.2.1; omega), h.mb.ch hc (by have := h.low.2.2.1; omega), kv_ch h.kk hc (fun x hx e => by have := h.low.2.2.2.1 x hx; omega), ho, h.ch.trans hc (fun x hx => .inr (Nat.le_trans h.low.2.2.2.2 hx)), Nat.le_trans h.bl hb.size, h.low⟩
end

theorem flat_snoc (l : List (List Cl)) (x : List Cl) : (l ++ [x]).flatten = l.flatten ++ x := by simp
theorem keys_len (l : List Cl) : (l.map (·.k)).length = l.length := by simp
theorem pages_len {P : Bo} {S : Dk} : ∀ {n : Nat} {l : List (List Cl)}, decP P S n = some l → (∀ p, ∀ c ∈ getL P S p, c < 256) → l.flatten.length ≤ 16 * n ∧ ∀ c ∈ l.flatten, c.okB := by
 intro n
 induction n with
 | zero => intro l h _; cases h; simp
 | succ n ih =>
  intro l h hb;unfold decP at h
  cases hp : decP P S n with
  | none => rw [hp] at h; cases h
  | some l0 =>
   rw [hp] at h;simp only at h
   split at h
   ·cases h
    obtain ⟨h1, h2⟩ := ih hp hb;obtain ⟨h3, h4⟩ := form_back (hb _) (by assumption)
    have h5 : (decode (getL P S (1 + (n : Int)))).1.length ≤ 16 := by
     have : (encode (decode (getL P S (1 + (n : Int)))).1).2 = 0 := by rw [h3]
     unfold encode at this
     split at this
     ·simp at this
     ·omega
    rw [flat_snoc];refine ⟨by rw [List.length_append]; omega, fun c hc => ?_⟩;rcases List.mem_append.1 hc with q | q
    ·exact h2 c q
    ·exact h4 c q
   ·cases h
def RrR (A : Nat → Prop) (w : World) (B sp : Nat) (dv : Value) (k : Int) (P : Bo) (S : Dk) (m : Mk) (X : Nat) (kv qv iv : Value) (wr : World) : Prop :=
 ∃ (i : Nat) (l : List (List Cl)) (S' : Dk), iv = .int .i64 i ∧ 1 ≤ i ∧ i ≤ 7 ∧ decP P S (i - 1) = some l ∧ OkL k m l.flatten ∧ Rx A w B sp dv k P S' m X kv qv (l.flatten.map (·.k)) wr ∧ Rdd i S S'
def RrI (A : Nat → Prop) (w : World) (B sp : Nat) (dv : Value) (k : Int) (P : Bo) (S6 : Dk) (m : Mk) (X : Nat) (kv cv : Value) (l : List (List Cl)) (D : List Cl) (qv jv : Value) (wr : World) : Prop :=
 ∃ j : Nat, j ≤ D.length ∧ jv = .int .i64 j ∧ OkL k m (l.flatten ++ D.take j) ∧ Rx A w B sp dv k P S6 m X kv qv ((l.flatten ++ D.take j).map (·.k)) wr ∧ wr.ownsRow B 114 6 cv D.length (flatC D)
theorem decP_pre {P : Bo} {S : Dk} {Ls : List (List Cl)} {n : Nat} : decP P S 6 = some Ls → n ≤ 6 → ∃ r, decP P S n = some (Ls.take n) ∧ Ls = Ls.take n ++ r := by
 intro h hn;refine ⟨Ls.drop n, ?_, by simp⟩;have hl := decP_len h
 suffices q : ∀ d n, n + d = 6 → decP P S n = some (Ls.take n) from q (6 - n) n (by omega)
 intro d
 induction d with
 | zero =>
  intro n e;obtain rfl : n = 6 := by omega
  rw [h, List.take_of_length_le (by omega)]
 | succ d ih =>
  intro n e;have h1 := ih (n + 1) (by omega);unfold decP at h1
  cases hp : decP P S n with
  | none => rw [hp] at h1; cases h1
  | some l0 =>
   rw [hp] at h1;simp only at h1
   split at h1
   ·have hl0 := decP_len hp;have h2 := Option.some.inj h1;have h3 := congrArg (List.take n) h2;rw [List.take_left' hl0, List.take_take, Nat.min_eq_left (by omega)] at h3;rw [h3]
   ·cases h1
theorem rsright_walk {A : Nat → Prop} {w : World} {sv dv : Value} {k : Int} {P : Bo} {S : Dk} (h : RT A w sv dv k P S) (hs : shutB P S = false) (hrd : S.rd < 4611686018427387000) : Calls Tryz.prog 53 #[sv] w (RrGot A w sv dv k P S) := by
 have HRD := hidH hrd;have HS : Hid (shutB P S = false) := hs;have HLT : Hid (∀ p, ∀ c ∈ getL P S p, c < 256) := fun p => (rgetL_lt h p).2;have HAL : Hid (∀ x, A x → x < w.heap.size) := fun x hx => h.lt hx;obtain ⟨sp, bv, rfl, h1, h2, h3, h4⟩ := h;have H1 : Hid (w.heap[sp]? = some (.cells #[bv, .int .i64 k] 102 (0, 0))) := h1;have H2 : Hid (¬ A sp) := h2;have H4 : Hid (P.tab.length = 7) := h4;have HSP : Hid (sp < w.heap.size) := (Array.getElem?_eq_some_iff.1 h1).1;have HQ0 : Hid (BQ A w bv dv P S) := h3;have m0 : w.cell? ⟨sp, 0, none⟩ = some bv := by rw [cell_of_row _ sp 0 _ _ (0, 0) h1]; rfl
 obtain ⟨D, pb, tv, hbv, _⟩ := h3;subst hbv;clear h1 h2 h4 hrd hs;go_in;go_wp2_with fail;refine (rget_walk HQ0.out 0 (by have := HRD.out; omega)).mono ?_;unfold Gt;rw [getB_ok HS.out];rintro e w2 ⟨r, rfl, ho, hb2, hc2⟩;have HV2 : Hid (Bv w2 r (getL P S 0)) := own_bv ho (HLT.out 0);obtain ⟨⟨m, E⟩, hD⟩ : ∃ D, decM (getL P S 0) = D := ⟨_, rfl⟩;have HD : Hid (decM (getL P S 0) = (m, E)) := hD;have HC2 : Hid (Ch A w w2) := hc2
 have HT2 : Hid (RT A w2 (.pointer (some ⟨sp, 0, none⟩)) dv k P (getS P S 0)) :=
  ⟨sp, _, rfl, by rw [hc2.block sp HSP.out H2.out]; exact H1.out, H2.out, hb2, H4.out⟩
 have HR2 : Hid (Rdd 1 S (getS P S 0)) := getS_rdd;generalize getS P S 0 = S2 at HT2 HR2;clear ho hb2 hc2 hD m0 HQ0 H1;go_wp2_with fail;refine (rmdec_walk HV2.out).mono ?_;unfold DGot;rw [HD.out];rintro e w3 ⟨kv, rfl, ho3, hB3⟩;have HT3 := hidH (HT2.out.below hB3);have HC3 : Hid (Ch A w w3) := HC2.out.self (Ch.of_below hB3);have HKV : Hid (Kv w3 kv m.k) := own_sv ho3;have HKB : Hid (∀ x, kv.ownBlock = some x → w.heap.size ≤ x ∧ x < w3.heap.size) := fun x hx => ⟨Nat.le_trans HC2.out.size (ho3.lt x hx).1, (ho3.lt x hx).2⟩;obtain ⟨ka, kn, kc, rfl⟩ := sv_any HKV.out;clear ho3 hB3 HT2 HC2 HV2;by_cases hE : E = 0;rotate_left
 ·have hEi : ¬ (E : Int) = 0 := by omega
  have HNO : Hid (¬ RgYes k P S) := by
   rintro ⟨m', Ls, q, _⟩;rw [HD.out] at q
   cases q
   exact hE rfl
  go_wp2_with fail;go_ret;exact ⟨false, S2, rfl, ⟨fun q => (by cases q), fun q => absurd q HNO.out⟩, HT3.out.below (below_alloc _ _), HR2.out.mono (by omega), HC3.out.self (Ch.of_below (below_alloc _ _))⟩
 subst hE;go_upto_region 3 with fail
 have HT4 : Hid (RT A (w3.alloc (Obj.cells #[.int .i64 m.b, .int .i64 m.a, .slice ka kn kc] 65)) (.pointer (some ⟨sp, 0, none⟩)) dv k P S2) := HT3.out.below (below_alloc _ _);have HC4 : Hid (Ch A w (w3.alloc (Obj.cells #[.int .i64 m.b, .int .i64 m.a, .slice ka kn kc] 65))) := HC3.out.self (Ch.of_below (below_alloc _ _));have HK4 : Hid (Kv (w3.alloc (Obj.cells #[.int .i64 m.b, .int .i64 m.a, .slice ka kn kc] 65)) (.slice ka kn kc) m.k) := HKV.out.below (below_alloc _ _);have HM4 : Hid (MB (w3.alloc (Obj.cells #[.int .i64 m.b, .int .i64 m.a, .slice ka kn kc] 65)) w3.heap.size m.b m.a (.slice ka kn kc)) := mb_new w3 m.b m.a (.slice ka kn kc);have HX4 : Hid (w.heap.size ≤ w3.heap.size ∧ w3.heap.size < (w3.alloc (Obj.cells #[.int .i64 m.b, .int .i64 m.a, .slice ka kn kc] 65)).heap.size) := ⟨HC3.out.size, by simp⟩;have HKB4 : Hid (∀ x, (Value.slice ka kn kc).ownBlock = some x → w.heap.size ≤ x ∧ x < (w3.alloc (Obj.cells #[.int .i64 m.b, .int .i64 m.a, .slice ka kn kc] 65)).heap.size) := fun x hx => ⟨(HKB.out x hx).1, Nat.lt_of_lt_of_le (HKB.out x hx).2 (by simp)⟩;clear HKV HKB;generalize w3.heap.size = X at HM4 HX4 ⊢;generalize w3.alloc (Obj.cells #[.int .i64 m.b, .int .i64 m.a, .slice ka kn kc] 65) = w4 at HT4 HC4 HK4 HM4 HX4 HKB4 ⊢;clear HT3 HC3;obtain ⟨B, hB⟩ : ∃ B, B = w4.heap.size := ⟨_, rfl⟩;have HBE : Hid (B = w4.heap.size) := hB
 have HLOW : Hid ((∀ x, A x → x < B) ∧ sp < B ∧ X < B ∧ (∀ x, (Value.slice ka kn kc).ownBlock = some x → x < B) ∧ w.heap.size ≤ B) := by
  have hs := HC4.out.size;refine ⟨fun x hx => ?_, ?_, ?_, fun x hx => ?_, ?_⟩
  ·have := HAL.out x hx; omega
  ·have := HSP.out; omega
  ·have := HX4.out.2; omega
  ·have := (HKB4.out x hx).2; omega
  ·omega
 have HNX : Hid (¬ A X ∧ ∀ x, (Value.slice ka kn kc).ownBlock = some x → ¬ A x) := ⟨fun q => by have h1 := HAL.out X q; have h2 := HX4.out.1; omega, fun x hx q => by have h1 := HAL.out x q; have h2 := (HKB4.out x hx).1; omega⟩
 have HRX : Hid (Rx A w B sp dv k P S2 m X (.slice ka kn kc) (.slice (some ⟨B, 0, none⟩) 0 0) [] (w4.alloc (Obj.cells #[] 37))) := by
  refine ⟨HT4.out.below (below_alloc _ _), HM4.out.keep (below_alloc _ _), HK4.out.below (below_alloc _ _), ?_, HC4.out.self (Ch.of_below (below_alloc _ _)), by rw [hB]; simp, HLOW.out⟩;rw [hB];exact World.ownsRow_made w4 #[] 0 (Nat.le_refl _) (by simp [maxLen]) rfl
 have HST : Hid (RrR A w B sp dv k P S m X (.slice ka kn kc) (.slice (some ⟨B, 0, none⟩) 0 0) (.int .i64 1) (w4.alloc (Obj.cells #[] 37))) :=
  ⟨1, [], S2, rfl, by omega, by omega, rfl, ⟨by simp, by simp⟩, HRX.out, HR2.out⟩
 clear HRX;go_wp2_with fail;rw [← hB];clear hB;go_loopw [7, 8] (fun qv iv wr => RrR A w B sp dv k P S m X (.slice ka kn kc) qv iv wr) (fun _ iv _ => 7 - (intOf iv).toNat)
 case atStart => exact HST.out
 case round =>
  clear HST;obtain ⟨i, l, S', rfl, hi1, hi, hdp, hok, hrx, hrdd⟩ := hrel;have HDP : Hid (decP P S (i - 1) = some l) := hdp;have HOKL : Hid (OkL k m l.flatten) := hok;have HRX := hidH hrx;have HRD' : Hid (Rdd i S S') := hrdd;obtain ⟨qo, qc, hqv⟩ := own_form8 hrx.sn;rw [keys_len] at hqv;subst hqv;have hst := hrx.rt;clear hdp hok hrx hrdd;by_cases hlt : i < 7
  ·have hle : (i : Int) ≤ 6 := by omega
   obtain ⟨sp', bv, hee, h1, h2, h3, h4⟩ := hst
   cases hee
   have HBQ : Hid (BQ A wr bv dv P S') := h3;have H1 : Hid (wr.heap[sp]? = some (.cells #[bv, .int .i64 k] 102 (0, 0))) := h1;have m0 : wr.cell? ⟨sp, 0, none⟩ = some bv := by rw [cell_of_row wr sp 0 _ _ (0, 0) h1]; rfl
   obtain ⟨D0, pb', tv', hbv, _⟩ := h3;subst hbv;clear h1 h2 h4;go_wp2_with fail;refine (rget_walk HBQ.out (i : Int) (by have h1 := HRD'.out.rd; have h2 := HRD.out; omega)).mono ?_;unfold Gt;rw [getB_ok (by rw [rdd_shut HRD'.out]; exact HS.out), rdd_getL HRD'.out];rintro e w6 ⟨r, rfl, ho, hb2, hc2⟩;have hst2 : RT A w6 (.pointer (some ⟨sp, 0, none⟩)) dv k P (getS P S' (i : Int)) := ⟨sp, _, rfl, by rw [hc2.block sp (Array.getElem?_eq_some_iff.1 H1.out).1 H2.out]; exact H1.out, H2.out, hb2, H4.out⟩;have HV2 : Hid (Bv w6 r (getL P S (i : Int))) := own_bv ho (HLT.out _);have HRX6 : Hid (Rx A w B sp dv k P (getS P S' (i : Int)) m X (.slice ka kn kc) (.slice qo l.flatten.length qc) (l.flatten.map (·.k)) w6) := HRX.out.read hst2 hc2 HNX.out.1 HNX.out.2;have HRD2 : Hid (Rdd (i + 1) S (getS P S' (i : Int))) := HRD'.out.trans (getS_rdd (P := P) (p := (i : Int)));generalize getS P S' (i : Int) = S6 at HRX6 HRD2;clear ho hst2 hb2 hc2 m0 HRX HRD' HBQ H1;go_wp2_with fail;refine (rdecode_walk HV2.out).mono ?_;obtain ⟨Dc, hD⟩ : ∃ D, D = decode (getL P S (i : Int)) := ⟨_, rfl⟩;have HDc : Hid (Dc = decode (getL P S (i : Int))) := hD;clear hD;unfold DecGot;rw [← HDc.out];rintro e w7 ⟨v7, rfl, ho7, hB7⟩;have HRX7 := hidH (HRX6.out.below hB7);have HOV7 : Hid (w7.ownsRow B 114 6 v7 Dc.1.length (flatC Dc.1)) := own_baseC ho7 HRX6.out.bl;obtain ⟨va, vc, hvv⟩ := (own_cv ho7).1.form;subst hvv;clear ho7 hB7 HRX6 HV2;obtain ⟨ii, hii⟩ : ∃ ii, i = ii + 1 := ⟨i - 1, by omega⟩;have HII : Hid (i = ii + 1) := hii;have HGI : Hid (getL P S (i : Int) = getL P S (1 + (ii : Int))) := by show _ = _; rw [hii]; congr 1; omega
   have HDI : Hid (decP P S ii = some l) := by have h := HDP.out; rw [hii] at h; exact h
   clear hii;by_cases hE : Dc.2 = 0;rotate_left
   ·have hEi : ¬ (Dc.2 : Int) = 0 := by omega
    have HNO : Hid (¬ RgYes k P S) := by
     rintro ⟨m', Ls, _, q, _⟩;rw [decP_bad (by have := HII.out; omega) HDI.out (by rw [← HGI.out, ← HDc.out]; exact hE)] at q
     cases q
    go_wp2_with fail;go_ret;exact ⟨false, S6, rfl, ⟨fun q => (by cases q), fun q => absurd q HNO.out⟩, HRX7.out.rt, HRD2.out.mono (by omega), HRX7.out.ch⟩
   have HE0 : Hid (Dc.2 = 0) := hE
   have HNEXT : Hid (decP P S (ii + 1) = some (l ++ [Dc.1])) := by
    have h := decP_ok HDI.out (by rw [← HGI.out, ← HDc.out]; exact hE);rw [← HGI.out, ← HDc.out] at h;exact h
   obtain ⟨N, hN⟩ : ∃ N, N = Dc.1.length := ⟨_, rfl⟩;have HN : Hid (N = Dc.1.length) := hN;have hBIG := pages_len HNEXT.out HLT.out;rw [flat_snoc] at hBIG;have HBIG := hidH hBIG
   have hNi : (N : Int) ≤ 1000 := by
    have := hBIG.1;rw [List.length_append, ← hN] at this;have := HII.out;omega
   rw [← hN, hE];clear hN hE hBIG;go_wp2_with fail;go_loopw [7, 13] (fun qv jv wr => RrI A w B sp dv k P S6 m X (.slice ka kn kc) (.slice va N vc) l Dc.1 qv jv wr) (fun _ jv _ => N - (intOf jv).toNat)
   case atStart => exact ⟨0, Nat.zero_le _, rfl, by simpa using HOKL.out, by simpa using HRX7.out, by rw [HN.out]; exact HOV7.out⟩
   case round =>
    clear HRX7 HOV7;obtain ⟨j, hj, rfl, hokj, hrxj, hovj⟩ := hrel;obtain ⟨seen, hseen⟩ : ∃ seen, seen = (l.flatten ++ Dc.1.take j).map (·.k) := ⟨_, rfl⟩;have HSEEN : Hid (seen = (l.flatten ++ Dc.1.take j).map (·.k)) := hseen;rw [← hseen] at hrxj;have HOKJ := hidH hokj;have HRXJ := hidH hrxj;have HOVJ := hidH hovj;obtain ⟨qo, qc, hqv⟩ := own_form8 hrxj.sn;obtain ⟨sl, hsl⟩ : ∃ sl, sl = seen.length := ⟨_, rfl⟩;rw [← hsl] at hqv;subst hqv;have HSL : Hid (sl = seen.length) := hsl;clear hseen hokj hrxj hovj hsl;by_cases hlj : j < N
    ·have hjl : j < Dc.1.length := by have := HN.out; omega
     have hcv := (own_cv HOVJ.out).1;rcases cv_cases hcv with ⟨h0, _⟩ | ⟨b, off, cap, hve, _, _, _, hca⟩
     ·rw [h0] at hjl; simp at hjl
     have hab : va = some ⟨b, off, none⟩ := by simp at hve; exact hve.1
     subst hab;have hc0 := hca j hjl;obtain ⟨c, hc⟩ : ∃ c, c = Dc.1[j] := ⟨_, rfl⟩;rw [← hc] at hc0;have HC : Hid (c = Dc.1[j]) := hc;have HOK : Hid c.okB := HBIG.out.2 c (by rw [hc]; simp);have HBLT : Hid (b < wr.heap.size) := hc0.lt;obtain ⟨a0, a1, a2, a3, a4, a5⟩ := hc0;clear hcv hca hve hc;go_upto_region 17 with fail
     clear a0 a1 a2 a3 a4 a5;have HCB : Hid (CB (wr.alloc (Obj.cells #[.int .u64 c.k, .bool c.p.h, .int .u64 c.p.b, .bool c.c.h, .int .u64 c.c.b, .int .i64 c.n] 114)) wr.heap.size c) := cb_new wr c;have HBC : Hid (Below wr.heap.size wr (wr.alloc (Obj.cells #[.int .u64 c.k, .bool c.p.h, .int .u64 c.p.b, .bool c.c.h, .int .u64 c.c.b, .int .i64 c.n] 114))) := below_alloc _ _;have HYW : Hid (wr.heap.size < (wr.alloc (Obj.cells #[.int .u64 c.k, .bool c.p.h, .int .u64 c.p.b, .bool c.c.h, .int .u64 c.c.b, .int .i64 c.n] 114)).heap.size) := by show _ < _; simp
     generalize hYY : wr.heap.size = Y at HCB HYW ⊢;have HYY : Hid (wr.heap.size = Y) := hYY;clear hYY;generalize (wr.alloc (Obj.cells #[.int .u64 c.k, .bool c.p.h, .int .u64 c.p.b, .bool c.c.h, .int .u64 c.c.b, .int .i64 c.n] 114)) = w5 at HCB HBC HYW ⊢;have HRX5 := hidH (HRXJ.out.below HBC.out);have HOV5 : Hid (w5.ownsRow B 114 6 (.slice (some ⟨b, off, none⟩) N vc) Dc.1.length (flatC Dc.1)) := own_belowC HOVJ.out HBC.out;have HK5 : Hid (Kv w5 (.slice ka kn kc) m.k) := HRX5.out.kk;have HSV5 : Hid (Kv w5 (.slice qo sl qc) seen) := own_sv HRX5.out.sn;obtain ⟨sB, hsB⟩ : ∃ sB, sB = decide (c.k ∈ seen) := ⟨_, rfl⟩;have HSB : Hid (sB = decide (c.k ∈ seen)) := hsB;clear hsB;go_cut [99] (fun v wx => v = .bool (badB k m c seen) ∧ Below w5.heap.size w5 wx)
     case first =>
      have d0 := fun wx h => (HCB.out.below (w' := wx) h HYW.out).c0;have d1 := fun wx h => (HCB.out.below (w' := wx) h HYW.out).c1;have d2 := fun wx h => (HCB.out.below (w' := wx) h HYW.out).c2;have d3 := fun wx h => (HCB.out.below (w' := wx) h HYW.out).c3;have d4 := fun wx h => (HCB.out.below (w' := wx) h HYW.out).c4;have d5 := fun wx h => (HCB.out.below (w' := wx) h HYW.out).c5;have kf : ∀ wx, Below w5.heap.size w5 wx → wx.cell? ⟨sp, 1, none⟩ = some (.int .i64 k) := fun wx h => (HRX5.out.rt.below h).kind;have x0 := fun wx h => (HRX5.out.mb.keep (w' := wx) h).c0;have x1 := fun wx h => (HRX5.out.mb.keep (w' := wx) h).c1;have x2 := fun wx h => (HRX5.out.mb.keep (w' := wx) h).c2
      cases hf : fitC k c
      ·have HRES : Hid (badB k m c seen = true) := by show _ = _; unfold badB celB; rw [hf]; rfl
       refine wp_region_noPanic ?_;refine wp_region_held_drew (S := fun wx => Below w5.heap.size w5 wx) (by kernel_rfl) ?_ fun hHeld => ?_
       ·exact (Below.refl _ _).drew
       refine tkS 0 61 rfl hHeld ?_;refine tkS 1 62 rfl hHeld ?_;refine tkS 2 63 rfl hHeld ?_;refine tkS 3 64 rfl hHeld ?_;refine tkS 4 65 rfl hHeld ?_;refine rdH 5 66 rfl fun K hK => ?_;go_simp;refine (rcfit_walk k (c := c) ⟨HOK.out.2.1, HOK.out.2.2.1⟩ _).mono ?_;rw [hf];rintro e y1 ⟨rfl, hY1⟩;refine hK.out _ _ ?_ fun hHeld => ?_
       ·exact below_trans hHeld hY1
       clear hK K;try simp only [Act.put, zz]
       refine tkS 6 67 rfl hHeld ?_;refine tkS 7 68 rfl hHeld ?_;refine tuH 8 69 rfl hHeld ?_;try simp only [Act.put, zz]
       refine tuH 9 70 rfl hHeld ?_;try simp only [Act.put, zz]
       refine tkS 10 71 rfl hHeld ?_;refine tkS 11 72 rfl hHeld ?_;refine tuH 12 73 rfl hHeld ?_;try simp only [Act.put, zz]
       refine tuH 13 74 rfl hHeld ?_;try simp only [Act.put, zz]
       refine tuH 14 75 rfl hHeld ?_;try simp only [Act.put, zz]
       refine tuH 15 76 rfl hHeld ?_;try simp only [Act.put, zz]
       refine tuH 16 77 rfl hHeld ?_;try simp only [Act.put, zz]
       refine tkS 17 78 rfl hHeld ?_;refine tkS 18 79 rfl hHeld ?_;refine tuH 19 80 rfl hHeld ?_;try simp only [Act.put, zz]
       refine tuH 20 81 rfl hHeld ?_;try simp only [Act.put, zz]
       refine tuH 21 82 rfl hHeld ?_;try simp only [Act.put, zz]
       refine tuH 22 83 rfl hHeld ?_;try simp only [Act.put, zz]
       refine tuH 23 84 rfl hHeld ?_;try simp only [Act.put, zz]
       refine tuH 24 85 rfl hHeld ?_;try simp only [Act.put, zz]
       refine tuH 25 86 rfl hHeld ?_;try simp only [Act.put, zz]
       refine tuH 26 87 rfl hHeld ?_;try simp only [Act.put, zz]
       refine tuH 27 88 rfl hHeld ?_;try simp only [Act.put, zz]
       refine tuH 28 89 rfl hHeld ?_;try simp only [Act.put, zz]
       refine tuH 29 90 rfl hHeld ?_;try simp only [Act.put, zz]
       refine tuH 30 91 rfl hHeld ?_;try simp only [Act.put, zz]
       refine tkS 31 92 rfl hHeld ?_;refine tkS 32 93 rfl hHeld ?_;refine tuH 33 94 rfl hHeld ?_;try simp only [Act.put, zz]
       refine tuH 34 95 rfl hHeld ?_;try simp only [Act.put, zz]
       refine tuH 35 96 rfl hHeld ?_;try simp only [Act.put, zz]
       refine tuH 36 97 rfl hHeld ?_;try simp only [Act.put, zz]
       refine tuH 37 98 rfl hHeld ?_;try simp only [Act.put, zz]
       refine tkS 38 99 rfl hHeld ?_;refine wpAnyH_done (by kernel_rfl) ?_ _;refine NoPanic.normal ?_;go_wp2_with fail;go_meet;exact ⟨by rw [HRES.out], hHeld⟩
      cases hm : empC c
      rotate_left
      ·have HRES : Hid (badB k m c seen = true) := by show _ = _; unfold badB celB; rw [hf, hm]; rfl
       refine wp_region_noPanic ?_;refine wp_region_held_drew (S := fun wx => Below w5.heap.size w5 wx) (by kernel_rfl) ?_ fun hHeld => ?_
       ·exact (Below.refl _ _).drew
       refine tkS 0 61 rfl hHeld ?_;refine tkS 1 62 rfl hHeld ?_;refine tkS 2 63 rfl hHeld ?_;refine tkS 3 64 rfl hHeld ?_;refine tkS 4 65 rfl hHeld ?_;refine rdH 5 66 rfl fun K hK => ?_;go_simp;refine (rcfit_walk k (c := c) ⟨HOK.out.2.1, HOK.out.2.2.1⟩ _).mono ?_;rw [hf];rintro e y1 ⟨rfl, hY1⟩;refine hK.out _ _ ?_ fun hHeld => ?_
       ·exact below_trans hHeld hY1
       clear hK K;try simp only [Act.put, zz]
       refine tkS 6 67 rfl hHeld ?_;refine tkS 7 68 rfl hHeld ?_;refine tkS 8 69 rfl hHeld ?_;refine rdH 9 70 rfl fun K hK => ?_;go_simp;refine (rempty_walk c _).mono ?_;rw [hm];rintro e y2 ⟨rfl, hY2⟩;refine hK.out _ _ ?_ fun hHeld => ?_
       ·exact below_trans hHeld hY2
       clear hK K;try simp only [Act.put, zz]
       refine tkS 10 71 rfl hHeld ?_;refine tkS 11 72 rfl hHeld ?_;refine tuH 12 73 rfl hHeld ?_;try simp only [Act.put, zz]
       refine tuH 13 74 rfl hHeld ?_;try simp only [Act.put, zz]
       refine tuH 14 75 rfl hHeld ?_;try simp only [Act.put, zz]
       refine tuH 15 76 rfl hHeld ?_;try simp only [Act.put, zz]
       refine tuH 16 77 rfl hHeld ?_;try simp only [Act.put, zz]
       refine tkS 17 78 rfl hHeld ?_;refine tkS 18 79 rfl hHeld ?_;refine tuH 19 80 rfl hHeld ?_;try simp only [Act.put, zz]
       refine tuH 20 81 rfl hHeld ?_;try simp only [Act.put, zz]
       refine tuH 21 82 rfl hHeld ?_;try simp only [Act.put, zz]
       refine tuH 22 83 rfl hHeld ?_;try simp only [Act.put, zz]
       refine tuH 23 84 rfl hHeld ?_;try simp only [Act.put, zz]
       refine tuH 24 85 rfl hHeld ?_;try simp only [Act.put, zz]
       refine tuH 25 86 rfl hHeld ?_;try simp only [Act.put, zz]
       refine tuH 26 87 rfl hHeld ?_;try simp only [Act.put, zz]
       refine tuH 27 88 rfl hHeld ?_;try simp only [Act.put, zz]
       refine tuH 28 89 rfl hHeld ?_;try simp only [Act.put, zz]
       refine tuH 29 90 rfl hHeld ?_;try simp only [Act.put, zz]
       refine tuH 30 91 rfl hHeld ?_;try simp only [Act.put, zz]
       refine tkS 31 92 rfl hHeld ?_;refine tkS 32 93 rfl hHeld ?_;refine tuH 33 94 rfl hHeld ?_;try simp only [Act.put, zz]
       refine tuH 34 95 rfl hHeld ?_;try simp only [Act.put, zz]
       refine tuH 35 96 rfl hHeld ?_;try simp only [Act.put, zz]
       refine tuH 36 97 rfl hHeld ?_;try simp only [Act.put, zz]
       refine tuH 37 98 rfl hHeld ?_;try simp only [Act.put, zz]
       refine tkS 38 99 rfl hHeld ?_;refine wpAnyH_done (by kernel_rfl) ?_ _;refine NoPanic.normal ?_;go_wp2_with fail;go_meet;exact ⟨by rw [HRES.out], hHeld⟩
      by_cases hgt : m.b < c.n
      ·have hg1 : decide (m.b < c.n) = true := decide_eq_true hgt
       have HRES : Hid (badB k m c seen = true) := by
        show _ = _;unfold badB celB besB;rw [hf, hm, decide_eq_false (show ¬ c.n < m.b by omega), decide_eq_false (show ¬ c.n = m.b by omega)];rfl
       refine wp_region_noPanic ?_;refine wp_region_held_drew (S := fun wx => Below w5.heap.size w5 wx) (by kernel_rfl) ?_ fun hHeld => ?_
       ·exact (Below.refl _ _).drew
       refine tkS 0 61 rfl hHeld ?_;refine tkS 1 62 rfl hHeld ?_;refine tkS 2 63 rfl hHeld ?_;refine tkS 3 64 rfl hHeld ?_;refine tkS 4 65 rfl hHeld ?_;refine rdH 5 66 rfl fun K hK => ?_;go_simp;refine (rcfit_walk k (c := c) ⟨HOK.out.2.1, HOK.out.2.2.1⟩ _).mono ?_;rw [hf];rintro e y1 ⟨rfl, hY1⟩;refine hK.out _ _ ?_ fun hHeld => ?_
       ·exact below_trans hHeld hY1
       clear hK K;try simp only [Act.put, zz]
       refine tkS 6 67 rfl hHeld ?_;refine tkS 7 68 rfl hHeld ?_;refine tkS 8 69 rfl hHeld ?_;refine rdH 9 70 rfl fun K hK => ?_;go_simp;refine (rempty_walk c _).mono ?_;rw [hm];rintro e y2 ⟨rfl, hY2⟩;refine hK.out _ _ ?_ fun hHeld => ?_
       ·exact below_trans hHeld hY2
       clear hK K;try simp only [Act.put, zz]
       refine tkS 10 71 rfl hHeld ?_;refine tkS 11 72 rfl hHeld ?_;refine tkS 12 73 rfl hHeld ?_;refine tkS 13 74 rfl hHeld ?_;refine tkS 14 75 rfl hHeld ?_;refine tkS 15 76 rfl hHeld ?_;refine tkS 16 77 rfl hHeld ?_;refine tkS 17 78 rfl hHeld ?_;refine tkS 18 79 rfl hHeld ?_;refine tuH 19 80 rfl hHeld ?_;try simp only [Act.put, zz]
       refine tuH 20 81 rfl hHeld ?_;try simp only [Act.put, zz]
       refine tuH 21 82 rfl hHeld ?_;try simp only [Act.put, zz]
       refine tuH 22 83 rfl hHeld ?_;try simp only [Act.put, zz]
       refine tuH 23 84 rfl hHeld ?_;try simp only [Act.put, zz]
       refine tuH 24 85 rfl hHeld ?_;try simp only [Act.put, zz]
       refine tuH 25 86 rfl hHeld ?_;try simp only [Act.put, zz]
       refine tuH 26 87 rfl hHeld ?_;try simp only [Act.put, zz]
       refine tuH 27 88 rfl hHeld ?_;try simp only [Act.put, zz]
       refine tuH 28 89 rfl hHeld ?_;try simp only [Act.put, zz]
       refine tuH 29 90 rfl hHeld ?_;try simp only [Act.put, zz]
       refine tuH 30 91 rfl hHeld ?_;try simp only [Act.put, zz]
       refine tkS 31 92 rfl hHeld ?_;refine tkS 32 93 rfl hHeld ?_;refine tuH 33 94 rfl hHeld ?_;try simp only [Act.put, zz]
       refine tuH 34 95 rfl hHeld ?_;try simp only [Act.put, zz]
       refine tuH 35 96 rfl hHeld ?_;try simp only [Act.put, zz]
       refine tuH 36 97 rfl hHeld ?_;try simp only [Act.put, zz]
       refine tuH 37 98 rfl hHeld ?_;try simp only [Act.put, zz]
       refine tkS 38 99 rfl hHeld ?_;refine wpAnyH_done (by kernel_rfl) ?_ _;refine NoPanic.normal ?_;go_wp2_with fail;go_meet;exact ⟨by rw [HRES.out], hHeld⟩
      have hg1 : decide (m.b < c.n) = false := decide_eq_false hgt;by_cases heq : c.n = m.b
      ·have he1 : (c.n == m.b) = true := by rw [heq]; simp
       have HEQ : Hid (c.n = m.b) := heq;clear heq
       cases hin : decide (c.k ∈ m.k)
       ·have HRES : Hid (badB k m c seen = true) := by
         show _ = _;unfold badB celB besB;rw [hf, hm, hin, decide_eq_false (show ¬ c.n < m.b by have := HEQ.out; omega)];simp
        refine wp_region_noPanic ?_;refine wp_region_held_drew (S := fun wx => Below w5.heap.size w5 wx) (by kernel_rfl) ?_ fun hHeld => ?_
        ·exact (Below.refl _ _).drew
        refine tkS 0 61 rfl hHeld ?_;refine tkS 1 62 rfl hHeld ?_;refine tkS 2 63 rfl hHeld ?_;refine tkS 3 64 rfl hHeld ?_;refine tkS 4 65 rfl hHeld ?_;refine rdH 5 66 rfl fun K hK => ?_;go_simp;refine (rcfit_walk k (c := c) ⟨HOK.out.2.1, HOK.out.2.2.1⟩ _).mono ?_;rw [hf];rintro e y1 ⟨rfl, hY1⟩;refine hK.out _ _ ?_ fun hHeld => ?_
        ·exact below_trans hHeld hY1
        clear hK K;try simp only [Act.put, zz]
        refine tkS 6 67 rfl hHeld ?_;refine tkS 7 68 rfl hHeld ?_;refine tkS 8 69 rfl hHeld ?_;refine rdH 9 70 rfl fun K hK => ?_;go_simp;refine (rempty_walk c _).mono ?_;rw [hm];rintro e y2 ⟨rfl, hY2⟩;refine hK.out _ _ ?_ fun hHeld => ?_
        ·exact below_trans hHeld hY2
        clear hK K;try simp only [Act.put, zz]
        refine tkS 10 71 rfl hHeld ?_;refine tkS 11 72 rfl hHeld ?_;refine tkS 12 73 rfl hHeld ?_;refine tkS 13 74 rfl hHeld ?_;refine tkS 14 75 rfl hHeld ?_;refine tkS 15 76 rfl hHeld ?_;refine tkS 16 77 rfl hHeld ?_;refine tkS 17 78 rfl hHeld ?_;refine tkS 18 79 rfl hHeld ?_;refine tkS 19 80 rfl hHeld ?_;refine tkS 20 81 rfl hHeld ?_;refine tkS 21 82 rfl hHeld ?_;refine tkS 22 83 rfl hHeld ?_;refine tkS 23 84 rfl hHeld ?_;refine tkS 24 85 rfl hHeld ?_;refine tkS 25 86 rfl hHeld ?_;refine tkS 26 87 rfl hHeld ?_;refine tkS 27 88 rfl hHeld ?_;refine rdH 28 89 rfl fun K hK => ?_;go_simp;refine (rhas_walk (HK5.out.below hHeld) m.b m.a c.k).mono ?_;rw [hin];rintro e y3 ⟨rfl, hY3⟩;refine hK.out _ _ ?_ fun hHeld => ?_
        ·exact below_trans hHeld hY3
        clear hK K;try simp only [Act.put, zz]
        refine tkS 29 90 rfl hHeld ?_;refine tkS 30 91 rfl hHeld ?_;refine tkS 31 92 rfl hHeld ?_;refine tkS 32 93 rfl hHeld ?_;refine tuH 33 94 rfl hHeld ?_;try simp only [Act.put, zz]
        refine tuH 34 95 rfl hHeld ?_;try simp only [Act.put, zz]
        refine tuH 35 96 rfl hHeld ?_;try simp only [Act.put, zz]
        refine tuH 36 97 rfl hHeld ?_;try simp only [Act.put, zz]
        refine tuH 37 98 rfl hHeld ?_;try simp only [Act.put, zz]
        refine tkS 38 99 rfl hHeld ?_;refine wpAnyH_done (by kernel_rfl) ?_ _;refine NoPanic.normal ?_;go_wp2_with fail;go_meet;exact ⟨by rw [HRES.out], hHeld⟩
       ·have HRES : Hid (badB k m c seen = sB) := by
         show _ = _;unfold badB celB besB;rw [hf, hm, hin, decide_eq_true HEQ.out, ← HSB.out];simp
        refine wp_region_noPanic ?_;refine wp_region_held_drew (S := fun wx => Below w5.heap.size w5 wx) (by kernel_rfl) ?_ fun hHeld => ?_
        ·exact (Below.refl _ _).drew
        refine tkS 0 61 rfl hHeld ?_;refine tkS 1 62 rfl hHeld ?_;refine tkS 2 63 rfl hHeld ?_;refine tkS 3 64 rfl hHeld ?_;refine tkS 4 65 rfl hHeld ?_;refine rdH 5 66 rfl fun K hK => ?_;go_simp;refine (rcfit_walk k (c := c) ⟨HOK.out.2.1, HOK.out.2.2.1⟩ _).mono ?_;rw [hf];rintro e y1 ⟨rfl, hY1⟩;refine hK.out _ _ ?_ fun hHeld => ?_
        ·exact below_trans hHeld hY1
        clear hK K;try simp only [Act.put, zz]
        refine tkS 6 67 rfl hHeld ?_;refine tkS 7 68 rfl hHeld ?_;refine tkS 8 69 rfl hHeld ?_;refine rdH 9 70 rfl fun K hK => ?_;go_simp;refine (rempty_walk c _).mono ?_;rw [hm];rintro e y2 ⟨rfl, hY2⟩;refine hK.out _ _ ?_ fun hHeld => ?_
        ·exact below_trans hHeld hY2
        clear hK K;try simp only [Act.put, zz]
        refine tkS 10 71 rfl hHeld ?_;refine tkS 11 72 rfl hHeld ?_;refine tkS 12 73 rfl hHeld ?_;refine tkS 13 74 rfl hHeld ?_;refine tkS 14 75 rfl hHeld ?_;refine tkS 15 76 rfl hHeld ?_;refine tkS 16 77 rfl hHeld ?_;refine tkS 17 78 rfl hHeld ?_;refine tkS 18 79 rfl hHeld ?_;refine tkS 19 80 rfl hHeld ?_;refine tkS 20 81 rfl hHeld ?_;refine tkS 21 82 rfl hHeld ?_;refine tkS 22 83 rfl hHeld ?_;refine tkS 23 84 rfl hHeld ?_;refine tkS 24 85 rfl hHeld ?_;refine tkS 25 86 rfl hHeld ?_;refine tkS 26 87 rfl hHeld ?_;refine tkS 27 88 rfl hHeld ?_;refine rdH 28 89 rfl fun K hK => ?_;go_simp;refine (rhas_walk (HK5.out.below hHeld) m.b m.a c.k).mono ?_;rw [hin];rintro e y3 ⟨rfl, hY3⟩;refine hK.out _ _ ?_ fun hHeld => ?_
        ·exact below_trans hHeld hY3
        clear hK K;try simp only [Act.put, zz]
        refine tkS 29 90 rfl hHeld ?_;refine tkS 30 91 rfl hHeld ?_;refine tkS 31 92 rfl hHeld ?_;refine tkS 32 93 rfl hHeld ?_;refine tkS 33 94 rfl hHeld ?_;refine tkS 34 95 rfl hHeld ?_;refine tkS 35 96 rfl hHeld ?_;refine tkS 36 97 rfl hHeld ?_;refine rdH 37 98 rfl fun K hK => ?_;go_simp;refine (rhas_walk (HSV5.out.below hHeld) 0 0 c.k).mono ?_;rw [← HSB.out];rintro e y4 ⟨rfl, hY4⟩;refine hK.out _ _ ?_ fun hHeld => ?_
        ·exact below_trans hHeld hY4
        clear hK K;try simp only [Act.put, zz]
        refine tkS 38 99 rfl hHeld ?_;refine wpAnyH_done (by kernel_rfl) ?_ _;refine NoPanic.normal ?_;go_wp2_with fail;go_meet;exact ⟨by rw [HRES.out], hHeld⟩
      ·have he1 : (c.n == m.b) = false := by rw [beq_eq_false_iff_ne]; exact heq
       have HRES : Hid (badB k m c seen = sB) := by
        show _ = _;unfold badB celB besB;rw [hf, hm, decide_eq_true (show c.n < m.b by omega), ← HSB.out];simp
       clear heq;refine wp_region_noPanic ?_;refine wp_region_held_drew (S := fun wx => Below w5.heap.size w5 wx) (by kernel_rfl) ?_ fun hHeld => ?_
       ·exact (Below.refl _ _).drew
       refine tkS 0 61 rfl hHeld ?_;refine tkS 1 62 rfl hHeld ?_;refine tkS 2 63 rfl hHeld ?_;refine tkS 3 64 rfl hHeld ?_;refine tkS 4 65 rfl hHeld ?_;refine rdH 5 66 rfl fun K hK => ?_;go_simp;refine (rcfit_walk k (c := c) ⟨HOK.out.2.1, HOK.out.2.2.1⟩ _).mono ?_;rw [hf];rintro e y1 ⟨rfl, hY1⟩;refine hK.out _ _ ?_ fun hHeld => ?_
       ·exact below_trans hHeld hY1
       clear hK K;try simp only [Act.put, zz]
       refine tkS 6 67 rfl hHeld ?_;refine tkS 7 68 rfl hHeld ?_;refine tkS 8 69 rfl hHeld ?_;refine rdH 9 70 rfl fun K hK => ?_;go_simp;refine (rempty_walk c _).mono ?_;rw [hm];rintro e y2 ⟨rfl, hY2⟩;refine hK.out _ _ ?_ fun hHeld => ?_
       ·exact below_trans hHeld hY2
       clear hK K;try simp only [Act.put, zz]
       refine tkS 10 71 rfl hHeld ?_;refine tkS 11 72 rfl hHeld ?_;refine tkS 12 73 rfl hHeld ?_;refine tkS 13 74 rfl hHeld ?_;refine tkS 14 75 rfl hHeld ?_;refine tkS 15 76 rfl hHeld ?_;refine tkS 16 77 rfl hHeld ?_;refine tkS 17 78 rfl hHeld ?_;refine tkS 18 79 rfl hHeld ?_;refine tkS 19 80 rfl hHeld ?_;refine tkS 20 81 rfl hHeld ?_;refine tkS 21 82 rfl hHeld ?_;refine tkS 22 83 rfl hHeld ?_;refine tkS 23 84 rfl hHeld ?_;refine tkS 24 85 rfl hHeld ?_;refine tuH 25 86 rfl hHeld ?_;try simp only [Act.put, zz]
       refine tuH 26 87 rfl hHeld ?_;try simp only [Act.put, zz]
       refine tuH 27 88 rfl hHeld ?_;try simp only [Act.put, zz]
       refine tuH 28 89 rfl hHeld ?_;try simp only [Act.put, zz]
       refine tuH 29 90 rfl hHeld ?_;try simp only [Act.put, zz]
       refine tkS 30 91 rfl hHeld ?_;refine tkS 31 92 rfl hHeld ?_;refine tkS 32 93 rfl hHeld ?_;refine tkS 33 94 rfl hHeld ?_;refine tkS 34 95 rfl hHeld ?_;refine tkS 35 96 rfl hHeld ?_;refine tkS 36 97 rfl hHeld ?_;refine rdH 37 98 rfl fun K hK => ?_;go_simp;refine (rhas_walk (HSV5.out.below hHeld) 0 0 c.k).mono ?_;rw [← HSB.out];rintro e y4 ⟨rfl, hY4⟩;refine hK.out _ _ ?_ fun hHeld => ?_
       ·exact below_trans hHeld hY4
       clear hK K;try simp only [Act.put, zz]
       refine tkS 38 99 rfl hHeld ?_;refine wpAnyH_done (by kernel_rfl) ?_ _;refine NoPanic.normal ?_;go_wp2_with fail;go_meet;exact ⟨by rw [HRES.out], hHeld⟩
     case rest =>
      rename_i wy
      obtain ⟨hdv, hb⟩ := hcut;have HBy := hidH hb;clear hb
      cases hbad : badB k m c seen
      rotate_left
      ·rw [hbad] at hdv;subst hdv
       have HNO : Hid (¬ RgYes k P S) := by
        rintro ⟨m', Ls, q1, q2, q3⟩;rw [HD.out] at q1
        cases q1
        have hbad2 := hbad;rw [HSEEN.out] at hbad2
        have hn1 : ¬ OkL k m (l.flatten ++ Dc.1) := by
         have h := okL_bad (r := Dc.1.drop (j + 1)) hbad2;rw [HC.out, List.append_assoc, ← List.drop_eq_getElem_cons hjl, List.take_append_drop] at h;exact h
        have hex := decP_pre q2 (n := ii + 1) (by have := HII.out; omega);rw [HNEXT.out] at hex;obtain ⟨r, hr1, hr2⟩ := hex;rw [← Option.some.inj hr1] at hr2;rw [hr2] at q3;unfold OkS at q3;rw [List.flatten_append] at q3;have hq3 : OkL k m ((l ++ [Dc.1]).flatten ++ r.flatten) := q3;rw [flat_snoc] at hq3;exact hn1 ⟨fun c hc => hq3.1 c (by simp only [List.mem_append] at hc ⊢; exact .inl hc), (List.pairwise_append.1 hq3.2).1⟩
       have HRXF := HRX5.out.below HBy.out;have HRXG := hidH HRXF;clear HRXF;go_wp2_with fail;go_ret;exact ⟨false, S6, rfl, ⟨fun q => (by cases q), fun q => absurd q HNO.out⟩, HRXG.out.rt, HRD2.out.mono (by omega), HRXG.out.ch⟩
      rw [hbad] at hdv;subst hdv;have HBAD : Hid (badB k m c seen = false) := hbad;clear hbad;have HRXC := hidH (HRX5.out.below HBy.out);have HOVC : Hid (wc.ownsRow B 114 6 (.slice (some ⟨b, off, none⟩) N vc) Dc.1.length (flatC Dc.1)) := own_belowC HOV5.out HBy.out;have HSNC : Hid (wc.ownsRow B 37 1 (.slice qo sl qc) seen.length ((ib seen).map (Value.int .u64))) := HRXC.out.sn
      have HSLN : Hid (seen.length ≤ 96) := by
       show _ ≤ _;rw [HSEEN.out, keys_len, List.length_append];have h1 := HBIG.out.1;rw [List.length_append] at h1;have h2 : (Dc.1.take j).length ≤ Dc.1.length := by rw [List.length_take]; omega
       have := HII.out;omega
      have e0 := (HCB.out.below HBy.out HYW.out).c0;go_upto_region 15 with (at_builtin; refine wpList_append_sv (by rfl) (.tmp 100) (.tmp 103) 38 (by rfl) B 37 .u64 8 Tryz.underlying38 info_u64M (.slice qo sl qc) seen.length _ (by rfl) (HSNC.out.alloc _) _ [_] (by rfl) (sv_one .u64 _ _ _) (by have := HSLN.out; simp only [maxLen, List.length_singleton]; omega) (by have := HSLN.out; simp only [List.length_singleton]; omega) (Nat.le_trans HRXC.out.bl (below_alloc _ _).size) ?_; intro v9 w9 hown9 hg9)
      clear e0;obtain ⟨o9, c9, hv9⟩ := own_form8 hown9;subst hv9
      have HB9 : Hid (Below B wc w9) := by
       have h8 : Below B wc (wc.alloc (Obj.cells #[.int .u64 c.k] 37)) := (below_alloc _ _).mono HRXC.out.bl;exact h8.grown hg9 (Nat.le_trans HRXC.out.bl h8.size) (fun x hx => (HSNC.out.lt x hx).1)
      have HRI : Hid (RrI A w B sp dv k P S6 m X (.slice ka kn kc) (.slice (some ⟨b, off, none⟩) N vc) l Dc.1 (.slice o9 (seen.length + 1) c9) (.int .i64 ((j : Int) + 1)) w9) := by
       have hk1 : l.flatten ++ Dc.1.take (j + 1) = (l.flatten ++ Dc.1.take j) ++ [c] := by rw [List.take_succ_eq_append_getElem hjl, ← HC.out, List.append_assoc]
       refine ⟨j + 1, by have := HN.out; omega, by simp, ?_, ?_, ?_⟩
       ·rw [hk1];exact okL_snoc HOKJ.out (by rw [← HSEEN.out]; exact HBAD.out)
       ·rw [hk1, List.map_append, ← HSEEN.out];refine HRXC.out.grow HB9.out ?_;have h := hown9;rw [List.length_append, ib_append, List.map_append];exact h
       ·have h8 : (wc.alloc (Obj.cells #[.int .u64 c.k] 37)).ownsRow B 114 6 (.slice (some ⟨b, off, none⟩) N vc) Dc.1.length (flatC Dc.1) := HOVC.out.alloc _;refine h8.kept hg9 ?_;rcases h8.2 with ⟨q, _⟩ | ⟨g1, cap1, cur1, q, _, p1, _⟩
        ·cases q
        ·simp at q;rcases (HSNC.out.alloc (Obj.cells #[.int .u64 c.k] 37)).2 with ⟨q2, _⟩ | ⟨g2, cap2, cur2, q2, _, p2, _⟩
         ·exact .inr (by rw [q2]; simp [Value.ownBlock])
         ·refine .inr ?_;rw [q2];intro hx;simp [Value.ownBlock] at hx;have e1 : g1 = g2 := by obtain ⟨⟨q1, _⟩, _⟩ := q; omega
          subst e1;rw [p1] at p2;simp at p2
      clear hown9 hg9;go_wp2_with fail;go_roundw
      case rel => exact HRI.out
      case measure => simp [intOf]; omega
    ·obtain rfl : j = N := by have := HN.out; omega
     have HREL : Hid (RrR A w B sp dv k P S m X (.slice ka kn kc) (.slice qo sl qc) (.int .i64 ((i : Int) + 1)) wr) := by
      refine ⟨i + 1, l ++ [Dc.1], S6, by simp, by omega, hlt, by rw [HII.out]; exact HNEXT.out, ?_, ?_, HRD2.out⟩
      ·rw [flat_snoc];have h := HOKJ.out;rw [HN.out, List.take_length] at h;exact h
      ·rw [flat_snoc];have h := HRXJ.out;rw [HSEEN.out, HN.out, List.take_length] at h;exact h
     go_wp2_with fail;go_roundw
     case rel => exact HREL.out
     case measure => simp [intOf]; omega
  ·have hle : ¬ (i : Int) ≤ 6 := by omega
   obtain rfl : i = 7 := by omega
   have HYES : Hid (RgYes k P S) := ⟨m, l, HD.out, HDP.out, HOKL.out⟩;go_wp2_with fail;go_ret;exact ⟨true, S', rfl, ⟨fun _ => HYES.out, fun _ => rfl⟩, HRX.out.rt, HRD'.out, HRX.out.ch⟩
end
end Go.Proofs.YtcmklbibehnloaaGreat
