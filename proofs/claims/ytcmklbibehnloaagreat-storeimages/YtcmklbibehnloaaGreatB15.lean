/- Contract of bucket's joined. -/
import Derived.Test.YtcmklbibehnloaaGreatB14
import Derived.Test.YtcmklbibehnloaaGreatB12
set_option maxRecDepth 100000
set_option maxHeartbeats 16000000
namespace Go.Proofs.YtcmklbibehnloaaGreat
open Go.RowKit
section
variable {M : Nat}

def DecGot (l : List Nat) (w : World) (e : Ending) (w' : World) : Prop :=
 ∃ v, e = .returned (.tuple #[v, .int .i64 ((decode l).2 : Nat)]) ∧ w'.ownsRow w.heap.size 114 6 v (decode l).1.length (flatC (decode l).1) ∧ Below w.heap.size w w'
theorem decgot_bad {l : List Nat} {w w' : World} {e : Nat} {x : Int} (h : decode l = ([], e)) (hx : x = e) (hb : Below w.heap.size w w') : DecGot l w (.returned (.tuple #[.slice none 0 0, .int .i64 x])) w' := by
 subst hx;exact ⟨_, by rw [h], by rw [h]; exact ⟨rfl, .inl ⟨rfl, rfl⟩⟩, hb⟩
theorem decgot_ok {l : List Nat} {acc : List Cl} {v : Value} {w w' : World} (h : decode l = (acc, 0)) (ho : w'.ownsRow w.heap.size 114 6 v acc.length (flatC acc)) (hb : Below w.heap.size w w') : DecGot l w (.returned (.tuple #[v, .int .i64 0])) w' :=
 ⟨v, by rw [h]; rfl, by rw [h]; exact ho, hb⟩
theorem rd_new {w : World} {v : Value} {l : List Nat} (h : Bv w v l) (hm : ∀ x, v.ownBlock = some x → x < w.heap.size) : RD w.heap.size (w.alloc (Obj.cells #[v, .int .i64 0] 191)) w.heap.size v l 0 :=
 ⟨by simp [go_sem], by simp [go_sem], by intro j; simp [go_sem], h.below (below_alloc _ _), hm⟩
theorem cv_one (w : World) (c : Cl) : Cv (w.alloc (Obj.cells #[.int .u64 c.k, .bool c.p.h, .int .u64 c.p.b, .bool c.c.h, .int .u64 c.c.b, .int .i64 c.n] 114)) (.slice (some ⟨w.heap.size, 0, none⟩) 1 1) [c] := by
 have := cb_new w c;obtain ⟨c0, c1, c2, c3, c4, c5, _⟩ := this
 have h := cv_of (w := w.alloc (Obj.cells #[.int .u64 c.k, .bool c.p.h, .int .u64 c.p.b, .bool c.c.h, .int .u64 c.c.b, .int .i64 c.n] 114)) (b := w.heap.size) (off := 0) (cap := 1) (l := [c]) (by simp) (by simp [maxLen]) (fun i hi => by
  have : i = 0 := by simp at hi; omega
  subst this;exact ⟨c0, c1, c2, c3, c4, c5⟩)
 simpa using h
theorem own_ch {D : Nat → Prop} {w w' : World} {base e size n : Nat} {v : Value} {xs : List Value} (h : w.ownsRow base e size v n xs) (hc : Ch D w w') (hd : ∀ x, D x → x < base) : w'.ownsRow base e size v n xs := by
 refine ⟨h.1, ?_⟩;rcases h.2 with h' | ⟨g, cap, cur, hv, hg, hh, r⟩
 ·exact .inl h'
 ·exact .inr ⟨g, cap, cur, hv, hg, by rw [hc.block g ((Array.getElem?_eq_some_iff.1 hh).1) (fun e => by have := hd g e; omega)]; exact hh, r⟩
theorem own_baseC {w : World} {base base' e size n : Nat} {v : Value} {xs : List Value} (h : w.ownsRow base e size v n xs) (hb : base' ≤ base) : w.ownsRow base' e size v n xs := by
 refine ⟨h.1, ?_⟩;rcases h.2 with h' | ⟨g, cap, cur, hv, hg, hh, r⟩
 ·exact .inl h'
 ·exact .inr ⟨g, cap, cur, hv, Nat.le_trans hb hg, hh, r⟩
theorem size_allocC (w : World) (o : Obj) : (w.alloc o).heap.size = w.heap.size + 1 := by simp [go_sem]
def DecAt (D : Nat × List Cl × List Nat) (n i : Nat) (acc : List Cl) (l : List Nat) (f : Nat) : Prop :=
 (f = 0 ∧ acc.length = i ∧ D.1 = (decS (n - i) (lastK acc) l).1 ∧ (D.1 = 0 → D.2.1 = acc ++ (decS (n - i) (lastK acc) l).2.1 ∧ D.2.2 = (decS (n - i) (lastK acc) l).2.2)) ∨ (f ≠ 0 ∧ D.1 = f)
theorem decat_start (n : Nat) (l : List Nat) : DecAt (decS n none l) n 0 [] l 0 := .inl ⟨rfl, rfl, rfl, fun _ => ⟨rfl, rfl⟩⟩
theorem decat_step {D : Nat × List Cl × List Nat} {n i : Nat} {acc : List Cl} {l : List Nat} (h : DecAt D n i acc l 0) (hi : i < n) : DecAt D n (i + 1) (acc ++ [celX l]) (numL (celL3 l)) (celF (lastK acc) l 0) := by
 rcases h with ⟨_, h1, h2, h3⟩ | ⟨h, _⟩
 ·obtain ⟨c1, c2⟩ := cel_one (lastK acc) l;have en : n - i = (n - (i + 1)) + 1 := by omega
  rw [en] at h2 h3;simp only [decS] at h2 h3;by_cases q : (oneC (lastK acc) l).1 = 0
  ·obtain ⟨c3, c4⟩ := c2 q;rw [if_neg (by omega)] at h2 h3;rw [c1, q, c3, c4];refine .inl ⟨rfl, by simp [h1], ?_⟩;rw [lastK_snoc];by_cases q2 : (decS (n - (i + 1)) (some (oneC (lastK acc) l).2.1.k) (oneC (lastK acc) l).2.2).1 = 0
   ·rw [if_neg (by omega)] at h2 h3;refine ⟨by rw [h2, q2], fun hD => ?_⟩;obtain ⟨a, b⟩ := h3 hD;exact ⟨by rw [a]; simp, b⟩
   ·rw [if_pos q2] at h2 h3;exact ⟨h2, fun hD => absurd (h2.symm.trans hD) q2⟩
  ·rw [if_pos q] at h2;rw [c1];exact .inr ⟨q, h2⟩
 ·exact absurd rfl h
theorem decode_go {l : List Nat} {x n : Nat} (ht : Wm.take l = (x, n, 0)) (h0 : l.length ≠ 0) (h1 : x ≠ 0) (h2 : x ≤ 16) : decode l = decT x (l.drop n) := by
 unfold decode;rw [if_neg h0, ht, if_neg (by simp), if_neg h1, if_neg (by simp; omega)]
theorem decT_fault {n e : Nat} {l : List Nat} (h : (decS n none l).1 = e) (h0 : e ≠ 0) : decT n l = ([], e) := by
 unfold decT; rw [h, if_pos h0]
theorem decT_tail {n : Nat} {l : List Nat} (h : (decS n none l).1 = 0) (h0 : (decS n none l).2.2.length ≠ 0) : decT n l = ([], 5) := by
 unfold decT; rw [if_neg (by omega), if_pos h0]
theorem decT_ok {n : Nat} {l : List Nat} (h : (decS n none l).1 = 0) (h0 : (decS n none l).2.2.length = 0) : decT n l = ((decS n none l).2.1, 0) := by
 unfold decT; rw [if_neg (by omega), if_neg (by omega)]
theorem decode_err {l : List Nat} {e : Nat} (ht : Wm.take l = (0, 0, e)) (h0 : l.length ≠ 0) (he : e ≠ 0) : decode l = ([], e) := by
 unfold decode; rw [if_neg h0, ht, if_pos he]
theorem decode_none {l : List Nat} {n : Nat} (ht : Wm.take l = (0, n, 0)) (h0 : l.length ≠ 0) : decode l = ([], 4) := by
 unfold decode; rw [if_neg h0, ht, if_neg (by simp), if_pos rfl]
theorem decode_far {l : List Nat} {x n : Nat} (ht : Wm.take l = (x, n, 0)) (h0 : l.length ≠ 0) (hx : 16 < x) : decode l = ([], 6) := by
 unfold decode; rw [if_neg h0, ht, if_neg (by simp), if_neg (by simp; omega), if_pos hx]
theorem decode_void (ao : Option Addr) (cap : Nat) (w : World) : Calls Tryz.prog 96 #[.slice ao 0 cap] w (DecGot [] w) := by
 go_in;go_wp2_with fail;go_ret2;exact decgot_bad (e := 0) rfl rfl (Below.refl _ _)
def DecRel (n : Nat) (l0 : List Nat) (w : World) (cv iv : Value) (wr : World) : Prop :=
 ∃ (i : Nat) (acc : List Cl) (v : Value) (l : List Nat) (f : Nat), iv = .int .u64 i ∧ i ≤ n ∧ acc.length ≤ i ∧ DecAt (decS n none l0) n i acc l f ∧ RD w.heap.size wr w.heap.size v l f ∧ wr.ownsRow (w.heap.size + 1) 114 6 cv acc.length (flatC acc) ∧ Ch (fun x => x = w.heap.size) w wr
theorem decode_some (l : List Nat) (b off cap : Nat) (w : World) (hp : 0 < l.length) (hv : Bv w (.slice (some ⟨b, off, none⟩) l.length cap) l) (hb : b < w.heap.size) :
  Calls Tryz.prog 96 #[.slice (some ⟨b, off, none⟩) l.length cap] w (DecGot l w) := by
 have hl0 : ((l.length : Int) == 0) = false := by rw [beq_eq_false_iff_ne]; omega
 have HL0 : Hid (l.length ≠ 0) := by show _ ≠ _; omega
 have hT := Wm.take_form l hv.2;obtain ⟨R, hR⟩ : ∃ R, R = w.heap.size := ⟨_, rfl⟩
 have HR0 : Hid (RD R (w.alloc (Obj.cells #[.slice (some ⟨b, off, none⟩) l.length cap, .int .i64 0] 191)) R (.slice (some ⟨b, off, none⟩) l.length cap) l 0) := by
  rw [hR]; exact rd_new hv (fun x hx => by cases hx; exact hb)
 have HC0 : Hid (Ch (fun x => x = R) w (w.alloc (Obj.cells #[.slice (some ⟨b, off, none⟩) l.length cap, .int .i64 0] 191))) := Ch.of_below (below_alloc _ _);clear hp hv hb;go_in;go_upto_region 4 with fail
 rw [← hR];generalize w.alloc (Obj.cells #[.slice (some ⟨b, off, none⟩) l.length cap, .int .i64 0] 191) = w0 at HR0 HC0 ⊢;have HRW : Hid (R = w.heap.size) := hR;clear hR;go_wp2_with fail;refine (number_walk HR0.out).mono ?_;rintro e9 w1 ⟨rfl, ⟨v1, hR1⟩, hC1⟩;have HC1 : Hid (Ch (fun x => x = R) w w1) := HC0.out.self hC1;have HR1 := hidH hR1;clear hR1 hC1 HC0 HR0;rcases hT with ⟨e, ht, h34⟩ | ⟨x, n, ht, hx, hn1, hn2, hn3⟩
 ·have e1 : (Wm.take l).1 = 0 := by rw [ht]
  have en : numF l 0 = e := by unfold numF; rw [ht]; exact refu_true (by simp; omega)
  have HNE : Hid (e ≠ 0) := by show _ ≠ _; omega
  have HD : Hid (decode l = ([], e)) := decode_err ht HL0.out HNE.out;clear ht h34;rw [e1] at *;have HRA : Hid (RD R w1 R v1 (numL l) e) := by show RD _ _ _ _ _ _; rw [← en]; exact HR1.out
  clear HR1;go_wp2_with fail;refine (refuse_walk HRA.out true 4).mono ?_;rw [show refu true 4 e = e from refu_old HNE.out];rintro e9 w2 ⟨rfl, hR2, hC2⟩;have HR2 := hidH hR2;have HC2 : Hid (Ch (fun x => x = R) w w2) := HC1.out.self hC2;clear hR2 hC2 HRA HC1;go_wp2_with fail;refine (refuse_walk HR2.out false 6).mono ?_;rw [show refu false 6 e = e from refu_no _ _];rintro e9 w3 ⟨rfl, hR3, hC3⟩;have HR4 : Hid (RD R (w3.alloc (Obj.cells #[] 114)) R v1 (numL l) e) := hR3.below (below_alloc _ _);have HC4 : Hid (Ch (fun x => x = R) w (w3.alloc (Obj.cells #[] 114))) := (HC2.out.self hC3).self (Ch.of_below (below_alloc _ _));clear hR3 hC3 HR2 HC2;go_upto_region 8 with fail
  generalize w3.alloc (Obj.cells #[] 114) = w4 at HR4 HC4 ⊢;have t1 := HR4.out.c1;go_wp2_with fail;refine wp_loop_rounds 1 ?_;rw [rounds_succ];obtain ⟨ao, ln, lc, hvv⟩ := bv_any HR4.out.bv;subst hvv;have s0 := HR4.out.c0;go_wp2_with fail;refine (refuse_walk HR4.out _ 5).mono ?_;rw [refu_old HNE.out];rintro e9 wz ⟨rfl, hz, hcz⟩;have HBZ : Hid (Below w.heap.size w wz) := (HC4.out.self hcz).to_below (Nat.le_refl _) (fun x hx => by rw [hx, HRW.out]; exact Nat.le_refl _);have s1 := hz.c1;have s2 : ∀ n, (wz.drewN n).cell? ⟨R, 1, none⟩ = some (.int .i64 (e : Nat)) := fun _ => s1;have hfi : (((e : Nat) : Int) != 0) = true := by rw [bne_iff_ne]; have h := HNE.out; omega
  clear hz hcz s0;go_wp2_with fail;go_quiet (fail);go_wp2_with fail;go_ret2;exact decgot_bad HD.out (by rfl) (below_trans HBZ.out (below_drewN _ _))
 ·have e1 : (Wm.take l).1 = x := by rw [ht]
  have en : numF l 0 = 0 := by unfold numF; rw [ht]; exact refu_false (by simp)
  by_cases hx0 : x = 0
  ·subst hx0;have HNE : Hid (4 ≠ 0) := by show _ ≠ _; omega
   have HD : Hid (decode l = ([], 4)) := decode_none ht HL0.out;clear ht hn1 hn2 hn3 hx;rw [e1] at *;have HRA : Hid (RD R w1 R v1 (numL l) 0) := by show RD _ _ _ _ _ _; rw [← en]; exact HR1.out
   clear HR1;go_wp2_with fail;refine (refuse_walk HRA.out true 4).mono ?_;rw [show refu true 4 0 = 4 from refu_yes 4];rintro e9 w2 ⟨rfl, hR2, hC2⟩;have HR2 := hidH hR2;have HC2 : Hid (Ch (fun x => x = R) w w2) := HC1.out.self hC2;clear hR2 hC2 HRA HC1;go_wp2_with fail;refine (refuse_walk HR2.out false 6).mono ?_;rw [show refu false 6 4 = 4 from refu_no _ _];rintro e9 w3 ⟨rfl, hR3, hC3⟩;have HR4 : Hid (RD R (w3.alloc (Obj.cells #[] 114)) R v1 (numL l) 4) := hR3.below (below_alloc _ _);have HC4 : Hid (Ch (fun x => x = R) w (w3.alloc (Obj.cells #[] 114))) := (HC2.out.self hC3).self (Ch.of_below (below_alloc _ _));clear hR3 hC3 HR2 HC2;go_upto_region 8 with fail
   generalize w3.alloc (Obj.cells #[] 114) = w4 at HR4 HC4 ⊢;have t1 := HR4.out.c1;go_wp2_with fail;refine wp_loop_rounds 1 ?_;rw [rounds_succ];obtain ⟨ao, ln, lc, hvv⟩ := bv_any HR4.out.bv;subst hvv;have s0 := HR4.out.c0;go_wp2_with fail;refine (refuse_walk HR4.out _ 5).mono ?_;rw [refu_old HNE.out];rintro e9 wz ⟨rfl, hz, hcz⟩;have HBZ : Hid (Below w.heap.size w wz) := (HC4.out.self hcz).to_below (Nat.le_refl _) (fun x hx => by rw [hx, HRW.out]; exact Nat.le_refl _);have s1 := hz.c1;have s2 : ∀ n, (wz.drewN n).cell? ⟨R, 1, none⟩ = some (.int .i64 (4 : Nat)) := fun _ => s1;have hfi : (((4 : Nat) : Int) != 0) = true := by rw [bne_iff_ne]; have h := HNE.out; omega
   clear hz hcz s0;go_wp2_with fail;go_quiet (fail);go_wp2_with fail;go_ret2;exact decgot_bad HD.out (by rfl) (below_trans HBZ.out (below_drewN _ _))
  ·have hx0i : ((x : Int) == 0) = false := by rw [beq_eq_false_iff_ne]; omega
   by_cases hx16 : 16 < x
   ·have hx16i : (16 : Int) < (x : Int) := by omega
    have hx1 : (0 : Int) < (x : Int) := by omega
    have hx16b : decide ((16 : Int) < (x : Int)) = true := decide_eq_true hx16i;have HNE : Hid (6 ≠ 0) := by show _ ≠ _; omega
    have HD : Hid (decode l = ([], 6)) := decode_far ht HL0.out hx16;clear ht hn1 hn2 hn3 hx hx16 hx0;rw [e1] at *;have HRA : Hid (RD R w1 R v1 (numL l) 0) := by show RD _ _ _ _ _ _; rw [← en]; exact HR1.out
    clear HR1;go_wp2_with fail;refine (refuse_walk HRA.out false 4).mono ?_;rw [show refu false 4 0 = 0 from refu_no _ _];rintro e9 w2 ⟨rfl, hR2, hC2⟩;have HR2 := hidH hR2;have HC2 : Hid (Ch (fun x => x = R) w w2) := HC1.out.self hC2;clear hR2 hC2 HRA HC1;go_wp2_with fail;refine (refuse_walk HR2.out true 6).mono ?_;rw [show refu true 6 0 = 6 from refu_yes 6];rintro e9 w3 ⟨rfl, hR3, hC3⟩;have HR4 : Hid (RD R (w3.alloc (Obj.cells #[] 114)) R v1 (numL l) 6) := hR3.below (below_alloc _ _);have HC4 : Hid (Ch (fun x => x = R) w (w3.alloc (Obj.cells #[] 114))) := (HC2.out.self hC3).self (Ch.of_below (below_alloc _ _));clear hR3 hC3 HR2 HC2;go_upto_region 8 with fail
    generalize w3.alloc (Obj.cells #[] 114) = w4 at HR4 HC4 ⊢;have t1 := HR4.out.c1;go_wp2_with fail;refine wp_loop_rounds 1 ?_;rw [rounds_succ];obtain ⟨ao, ln, lc, hvv⟩ := bv_any HR4.out.bv;subst hvv;have s0 := HR4.out.c0;go_wp2_with fail;refine (refuse_walk HR4.out _ 5).mono ?_;rw [refu_old HNE.out];rintro e9 wz ⟨rfl, hz, hcz⟩;have HBZ : Hid (Below w.heap.size w wz) := (HC4.out.self hcz).to_below (Nat.le_refl _) (fun x hx => by rw [hx, HRW.out]; exact Nat.le_refl _);have s1 := hz.c1;have s2 : ∀ n, (wz.drewN n).cell? ⟨R, 1, none⟩ = some (.int .i64 (6 : Nat)) := fun _ => s1;have hfi : (((6 : Nat) : Int) != 0) = true := by rw [bne_iff_ne]; have h := HNE.out; omega
    clear hz hcz s0;go_wp2_with fail;go_quiet (fail);go_wp2_with fail;go_ret2;exact decgot_bad HD.out (by rfl) (below_trans HBZ.out (below_drewN _ _))
   ·have hx16i : ¬ (16 : Int) < (x : Int) := by omega
    have hx16b : decide ((16 : Int) < (x : Int)) = false := decide_eq_false hx16i;have HX : Hid (x ≤ 16) := by show _ ≤ _; omega
    have HD : Hid (decode l = decT x (l.drop n)) := decode_go ht HL0.out hx0 (by omega);have HNL : Hid (numL l = l.drop n) := by show numL l = _; unfold numL; rw [ht]
    rw [e1] at *;have HRA : Hid (RD R w1 R v1 (l.drop n) 0) := by show RD _ _ _ _ _ _; rw [← HNL.out, ← en]; exact HR1.out
    obtain ⟨l0, hl0e⟩ : ∃ l0, l0 = l.drop n := ⟨_, rfl⟩;rw [← hl0e] at HD HRA;clear ht hn1 hn2 hn3 hx hx16 hx0 HR1 en HNL hl0e e1;go_wp2_with fail;refine (refuse_walk HRA.out false 4).mono ?_;rw [refu_no];rintro e9 w2 ⟨rfl, hR2, hC2⟩;have HR2 : Hid (RD R w2 R v1 l0 0) := hR2;have HC2 : Hid (Ch (fun x => x = R) w w2) := HC1.out.self hC2;clear hR2 hC2 HRA HC1;go_wp2_with fail;refine (refuse_walk HR2.out false 6).mono ?_;rw [refu_no];rintro e9 w3 ⟨rfl, hR3, hC3⟩;have HR4 : Hid (RD R (w3.alloc (Obj.cells #[] 114)) R v1 l0 0) := hR3.below (below_alloc _ _);have HC4 : Hid (Ch (fun x => x = R) w (w3.alloc (Obj.cells #[] 114))) := (HC2.out.self hC3).self (Ch.of_below (below_alloc _ _));have HRL : Hid (R < w3.heap.size) := cell_lt hR3.c0;have HO4 : Hid ((w3.alloc (Obj.cells #[] 114)).ownsRow (w.heap.size + 1) 114 6 (.slice (some ⟨w3.heap.size, 0, none⟩) 0 0) 0 []) := World.ownsRow_made w3 #[] 0 (by have h1 := HRL.out; rw [HRW.out] at h1; omega) (by simp [maxLen]) rfl;clear hR3 hC3 HR2 HC2;go_upto_region 8 with fail
    generalize w3.alloc (Obj.cells #[] 114) = w4 at HR4 HC4 HO4 ⊢;have HST : Hid (DecRel x l0 w (.slice (some ⟨w3.heap.size, 0, none⟩) 0 0) (.int .u64 0) w4) := ⟨0, [], v1, l0, 0, rfl, Nat.zero_le _, Nat.le_refl _, decat_start x l0, by rw [← HRW.out]; exact HR4.out, HO4.out, by rw [← HRW.out]; exact HC4.out⟩;clear HR4 HC4 HO4 HRL;have hxi : (x : Int) ≤ 16 := by omega
    go_wp2_with fail;go_loopw [6, 7] (fun cv iv wr => DecRel x l0 w cv iv wr) (fun _ iv _ => x - (intOf iv).toNat)
    case atStart => exact HST.out
    case round =>
     obtain ⟨i, acc, v, l', f, rfl, hi, hacc, hat, hrd, hown, hch⟩ := hrel;rw [← HRW.out] at hrd hch hown;have HAT := hidH hat;have HRD : Hid (RD R wr R v l' f) := hrd;have HOWN := hidH hown;have HCH : Hid (Ch (fun x => x = R) w wr) := hch;have HAC : Hid (acc.length ≤ i) := hacc;have r1 := hrd.c1;clear hat hrd hown hch hacc HST;by_cases hf : f = 0
     ·subst hf;by_cases hlt : i < x
      ·have hlti : (i : Int) < (x : Int) := by omega
       have HNX : Hid (DecAt (decS x none l0) x (i + 1) (acc ++ [celX l']) (numL (celL3 l')) (celF (lastK acc) l' 0)) := decat_step HAT.out hlt;obtain ⟨c, hc⟩ : ∃ c, c = celX l' := ⟨_, rfl⟩;rw [← hc] at HNX;go_wp2_with fail;refine (cell_walk (q := acc) HRD.out (fun w' h => (own_cv (own_ch HOWN.out h (fun x hx => by rw [hx]; omega))).1)).mono ?_;rw [← hc];rintro e9 w5 ⟨rfl, ⟨v5, hR5⟩, hC5⟩;have HR6 : Hid (RD R (w5.alloc (Obj.cells #[.int .u64 c.k, .bool c.p.h, .int .u64 c.p.b, .bool c.c.h, .int .u64 c.c.b, .int .i64 c.n] 114)) R v5 (numL (celL3 l')) (celF (lastK acc) l' 0)) := hR5.below (below_alloc _ _);have HO6 : Hid ((w5.alloc (Obj.cells #[.int .u64 c.k, .bool c.p.h, .int .u64 c.p.b, .bool c.c.h, .int .u64 c.c.b, .int .i64 c.n] 114)).ownsRow (R + 1) 114 6 u6 acc.length (flatC acc)) := (own_ch HOWN.out hC5 (fun x hx => by rw [hx]; omega)).alloc _;have HC6 : Hid (Ch (fun x => x = R) w (w5.alloc (Obj.cells #[.int .u64 c.k, .bool c.p.h, .int .u64 c.p.b, .bool c.c.h, .int .u64 c.c.b, .int .i64 c.n] 114))) := (HCH.out.self hC5).self (Ch.of_below (below_alloc _ _));have HV6 : Hid (Cv (w5.alloc (Obj.cells #[.int .u64 c.k, .bool c.p.h, .int .u64 c.p.b, .bool c.c.h, .int .u64 c.c.b, .int .i64 c.n] 114)) (.slice (some ⟨w5.heap.size, 0, none⟩) 1 1) [c]) := cv_one w5 c;have HS6 : Hid (R + 1 ≤ (w5.alloc (Obj.cells #[.int .u64 c.k, .bool c.p.h, .int .u64 c.p.b, .bool c.c.h, .int .u64 c.c.b, .int .i64 c.n] 114)).heap.size) := by have h1 : R < w5.heap.size := cell_lt hR5.c0; show _ ≤ _; rw [size_allocC]; omega
       have HLE : Hid (acc.length + 1 ≤ 17) := by have h1 := HAC.out; have h2 := HX.out; show _ ≤ _; omega
       clear hR5 hC5 r1 hc;go_wp2_with (at_builtin; refine wpList_append_cv (by rfl) (.tmp 37) (.tmp 41) (by rfl) (R + 1) _ _ _ (by rfl) HO6.out _ [c] (by rfl) HV6.out (by have := HLE.out; simp only [maxLen, List.length_singleton]; omega) (by have := HLE.out; simp only [List.length_singleton]; omega) HS6.out ?_; intro v7 w7 hown7 hgrow7);have HR7 : Hid (RD R w7 R v5 (numL (celL3 l')) (celF (lastK acc) l' 0)) := HR6.out.ch (Ch.of_grown (D := fun x => u6.ownBlock = some x) hgrow7 (fun x hx => hx)) (fun h => by have := (HO6.out.lt R h).1; omega) (fun x h => by have := (HO6.out.lt x h).1; omega);have HC7 : Hid (Ch (fun x => x = R) w w7) := HC6.out.trans (Ch.of_grown (D := fun x => u6.ownBlock = some x) hgrow7 (fun x hx => hx)) (fun x h => .inr (by have := (HO6.out.lt x h).1; rw [HRW.out] at this; omega))
       have HO7 : Hid (w7.ownsRow (w.heap.size + 1) 114 6 v7 (acc ++ [c]).length (flatC (acc ++ [c]))) := by
        show World.ownsRow _ _ _ _ _ _ _;rw [flatC_append, List.length_append, ← HRW.out]; exact hown7
       clear hown7 hgrow7 HO6 HR6 HC6 HV6 HS6 HOWN HRD HCH;have HREL : Hid (DecRel x l0 w v7 (.int .u64 ((i : Int) + 1)) w7) := ⟨i + 1, acc ++ [c], v5, _, _, rfl, hlt, by have := HAC.out; simp; omega, HNX.out, by rw [← HRW.out]; exact HR7.out, HO7.out, by rw [← HRW.out]; exact HC7.out⟩;go_wp2;go_roundw
       case rel => exact HREL.out
       case measure => simp [intOf]; omega
      ·have hlti : ¬ (i : Int) < (x : Int) := by omega
       obtain rfl : i = x := by omega
       have HFIN : Hid ((decS i none l0).1 = 0 ∧ (decS i none l0).2.1 = acc ∧ (decS i none l0).2.2 = l') := by
        rcases HAT.out with ⟨_, _, h2, h3⟩ | ⟨h, _⟩
        ·rw [Nat.sub_self] at h2 h3;simp only [decS] at h2 h3;obtain ⟨a, b⟩ := h3 h2;exact ⟨h2, by rw [a]; simp, b⟩
        ·exact absurd rfl h
       obtain ⟨ao, ln, lc, hvv⟩ := bv_any HRD.out.bv;subst hvv;obtain ⟨hln, _, _⟩ := bv_le HRD.out.bv;have HLN : Hid (ln = l'.length) := hln;clear hln;have s0 := HRD.out.c0;by_cases hll : ln = 0
       ·have HDE : Hid (decode l = (acc, 0)) := by
         show _ = _;rw [HD.out, decT_ok HFIN.out.1 (by rw [HFIN.out.2.2, ← HLN.out]; exact hll), HFIN.out.2.1]
        subst hll;go_wp2_with fail;refine (refuse_walk HRD.out false 5).mono ?_;rw [refu_no];rintro e9 wz ⟨rfl, hz, hcz⟩;have HBZ : Hid (Below w.heap.size w wz) := (HCH.out.self hcz).to_below (Nat.le_refl _) (fun x hx => by rw [hx, HRW.out]; exact Nat.le_refl _);have HOZ : Hid (wz.ownsRow w.heap.size 114 6 u6 acc.length (flatC acc)) := own_baseC (own_ch HOWN.out hcz (fun x hx => by rw [hx]; omega)) (by rw [HRW.out]; omega);have s1 := hz.c1;clear hz hcz s0;go_wp2_with fail;go_ret2;exact decgot_ok HDE.out HOZ.out HBZ.out
       ·have hlp : (0 : Int) < (ln : Int) := by omega
        have hlc : decide (0 < ln) = true := decide_eq_true (by omega)
        have HDE : Hid (decode l = ([], 5)) := by
         show _ = _;rw [HD.out, decT_tail HFIN.out.1 (by rw [HFIN.out.2.2, ← HLN.out]; exact hll)]
        go_wp2_with fail;try rw [hlc]
        refine (refuse_walk HRD.out true 5).mono ?_;rw [refu_yes];rintro e9 wz ⟨rfl, hz, hcz⟩;have HBZ : Hid (Below w.heap.size w wz) := (HCH.out.self hcz).to_below (Nat.le_refl _) (fun x hx => by rw [hx, HRW.out]; exact Nat.le_refl _);have s1 := hz.c1;have s2 : ∀ n, (wz.drewN n).cell? ⟨R, 1, none⟩ = some (.int .i64 5) := fun _ => s1;clear hz hcz s0;go_wp2_with fail;go_quiet (fail);go_wp2_with fail;go_ret2;exact decgot_bad HDE.out (by rfl) (below_trans HBZ.out (below_drewN _ _))
     ·have HNE : Hid (f ≠ 0) := hf;have hf0 : ((f : Int) == 0) = false := by rw [beq_eq_false_iff_ne]; omega
      have HDE : Hid (decode l = ([], f)) := by
       show _ = _;rcases HAT.out with ⟨h, _⟩ | ⟨_, h⟩
       ·exact absurd h hf
       ·rw [HD.out, decT_fault h HNE.out]
      by_cases hlt : i < x
      ·have hlti : (i : Int) < (x : Int) := by omega
       obtain ⟨ao, ln, lc, hvv⟩ := bv_any HRD.out.bv;subst hvv;have s0 := HRD.out.c0;go_wp2_with fail;refine (refuse_walk HRD.out _ 5).mono ?_;rw [refu_old HNE.out];rintro e9 wz ⟨rfl, hz, hcz⟩;have HBZ : Hid (Below w.heap.size w wz) := (HCH.out.self hcz).to_below (Nat.le_refl _) (fun x hx => by rw [hx, HRW.out]; exact Nat.le_refl _);have s1 := hz.c1;have s2 : ∀ n, (wz.drewN n).cell? ⟨R, 1, none⟩ = some (.int .i64 (f : Nat)) := fun _ => s1;have hfi : (((f : Nat) : Int) != 0) = true := by rw [bne_iff_ne]; have h := HNE.out; omega
       clear hz hcz s0;go_wp2_with fail;go_quiet (fail);go_wp2_with fail;go_ret2;exact decgot_bad HDE.out (by rfl) (below_trans HBZ.out (below_drewN _ _))
      ·have hlti : ¬ (i : Int) < (x : Int) := by omega
       obtain ⟨ao, ln, lc, hvv⟩ := bv_any HRD.out.bv;subst hvv;have s0 := HRD.out.c0;go_wp2_with fail;refine (refuse_walk HRD.out _ 5).mono ?_;rw [refu_old HNE.out];rintro e9 wz ⟨rfl, hz, hcz⟩;have HBZ : Hid (Below w.heap.size w wz) := (HCH.out.self hcz).to_below (Nat.le_refl _) (fun x hx => by rw [hx, HRW.out]; exact Nat.le_refl _);have s1 := hz.c1;have s2 : ∀ n, (wz.drewN n).cell? ⟨R, 1, none⟩ = some (.int .i64 (f : Nat)) := fun _ => s1;have hfi : (((f : Nat) : Int) != 0) = true := by rw [bne_iff_ne]; have h := HNE.out; omega
       clear hz hcz s0;go_wp2_with fail;go_quiet (fail);go_wp2_with fail;go_ret2;exact decgot_bad HDE.out (by rfl) (below_trans HBZ.out (below_drewN _ _))
theorem decode_walk {w : World} {v : Value} {l : List Nat} (h : Bv w v l) : Calls Tryz.prog 96 #[v] w (DecGot l w) := by
 rcases bv_cases h with ⟨rfl, ao, cap, rfl⟩ | ⟨b, off, cap, rfl, hp, h1, h2, h3⟩
 ·exact decode_void ao cap w
 ·exact decode_some l b off cap w hp h (cell_lt (h3 0 hp))
end
def Pc (w : World) (v : Value) (ls : List (List Cl)) : Prop :=
 ∃ ao cap, v = .slice ao ls.length cap ∧ ls.length ≤ cap ∧ cap ≤ maxLen ∧ (ao = none → cap = 0) ∧
  ∀ i, i < ls.length → ∃ b off u, ao = some ⟨b, off, none⟩ ∧ w.cell? ⟨b, off + i, none⟩ = some u ∧ Cv w u (ls.getD i [])
theorem flatK_le (ls : List (List Cl)) (k : Nat) : (ls.take k).flatten.length ≤ ls.flatten.length := by
 have : ls.flatten = (ls.take k).flatten ++ (ls.drop k).flatten := by rw [← List.flatten_append, List.take_append_drop]
 rw [this]; simp
theorem flatK_succ (ls : List (List Cl)) (k : Nat) (hk : k < ls.length) : (ls.take (k + 1)).flatten = (ls.take k).flatten ++ ls.getD k [] := by
 have e : ls.getD k [] = ls[k] := by simp [List.getD, List.getElem?_eq_getElem hk]
 rw [e, List.take_succ_eq_append_getElem hk, List.flatten_append, List.flatten_singleton]
def JcRel (ls : List (List Cl)) (H : Nat) (w : World) (v iv : Value) (wr : World) : Prop :=
 ∃ k : Nat, k ≤ ls.length ∧ iv = .int .i64 k ∧ wr.ownsRow H 114 6 v (ls.take k).flatten.length (flatC (ls.take k).flatten) ∧ Below H w wr
theorem jcrel_step {ls : List (List Cl)} {H k : Nat} {w wr w1 : World} {v v' : Value} {p : List Cl} (hp : ls.getD k [] = p) (hk : k < ls.length) (hH : H ≤ wr.heap.size) (hbel : Below H w wr)
  (hown : wr.ownsRow H 114 6 v (ls.take k).flatten.length (flatC (ls.take k).flatten))
  (hown' : w1.ownsRow H 114 6 v' ((ls.take k).flatten.length + p.length) (flatC (ls.take k).flatten ++ flatC p)) (hg : wr.grownBy w1 v.ownBlock) :
  JcRel ls H w v' (.int .i64 ((k : Int) + 1)) w1 := by
 refine ⟨k + 1, hk, rfl, ?_, hbel.trans (grown_belowC hown hg hH)⟩;rw [flatK_succ ls k hk, hp, List.length_append, flatC_append];exact hown'
theorem joined_some (ls : List (List Cl)) (b off cap : Nat) (w : World) (hl : ls.length ≤ cap) (hcap : cap ≤ maxLen) (hsz : ls.flatten.length * 48 ≤ 140737488355328)
  (hc : ∀ i, i < ls.length → ∃ u, w.cell? ⟨b, off + i, none⟩ = some u ∧ Cv w u (ls.getD i [])) :
  Calls Tryz.prog 189 #[.slice (some ⟨b, off, none⟩) ls.length cap] w fun e w' => ∃ v, e = .returned v ∧ w'.ownsRow w.heap.size 114 6 v ls.flatten.length (flatC ls.flatten) ∧ Below w.heap.size w w' := by
 unfold maxLen at hcap
 have HST : Hid (JcRel ls w.heap.size w (.slice (some ⟨w.heap.size, 0, none⟩) 0 0) (.int .i64 0) (w.alloc (.cells #[] 114))) :=
  ⟨0, Nat.zero_le _, rfl, World.ownsRow_made w #[] 0 (Nat.le_refl _) (by simp [maxLen]) rfl, below_alloc w _⟩
 have hli : (ls.length : Int) ≤ 9223372036854775807 := by omega
 have HSZ := hidH hsz;have HC : Hid (∀ i, i < ls.length → ∃ u, w.cell? ⟨b, off + i, none⟩ = some u ∧ Cv w u (ls.getD i [])) := hc;clear hcap hsz hc hl;go_in;go_wp2;go_loopw [3, 9] (fun v iv wr => JcRel ls w.heap.size w v iv wr) (fun _ iv _ => ls.length - (intOf iv).toNat)
 case atStart => exact HST.out
 case round =>
  obtain ⟨k, hk, rfl, hown, hbel⟩ := hrel;have hH : w.heap.size ≤ wr.heap.size := hbel.size;by_cases hlt : k < ls.length
  ·obtain ⟨u, hu, hbu⟩ := HC.out k hlt;obtain ⟨p, hp⟩ : ∃ p, ls.getD k [] = p := ⟨_, rfl⟩;rw [hp] at hbu;have HP : Hid (ls.getD k [] = p) := hp;have HB : Hid (Cv wr u p) := hbu.below hbel
   have HBD : Hid (((ls.take k).flatten.length + p.length) * 48 ≤ 140737488355328) := by
    have h1 := flatK_le ls (k + 1);rw [flatK_succ ls k hlt, List.length_append, hp] at h1;have h2 := HSZ.out;show _ ≤ _;omega
   obtain ⟨a, c, hcu⟩ := hbu.form;have hcell : wr.cell? ⟨b, off + k, none⟩ = some u := by rw [hbel.cell (p := ⟨b, off + k, none⟩) (cell_lt hu)]; exact hu
   subst hcu;clear hp hu hbu;go_wp2_with (at_builtin; refine wpList_append_cv (by rfl) (.tmp 13) (.tmp 14) (by rfl) w.heap.size _ _ _ (by rfl) hown _ p (by rfl) HB.out (by have := HBD.out; simp only [maxLen]; omega) (by have := HBD.out; omega) hH ?_; intro v' w1 hown' hgrow);have R := jcrel_step HP.out hlt hH hbel hown hown' hgrow;clear hown' hgrow;go_wp2;go_roundw
   case rel => exact R
   case measure => simp [intOf]; omega
  ·obtain rfl : k = ls.length := by omega
   have HO : Hid (wr.ownsRow w.heap.size 114 6 u3 ls.flatten.length (flatC ls.flatten)) := by
    have := hown;rwa [List.take_length] at this
   clear hown;go_wp2;go_ret;exact ⟨_, rfl, HO.out, hbel⟩
theorem joined_walk {w : World} {v : Value} {ls : List (List Cl)} (h : Pc w v ls) (h0 : 0 < ls.length) (hsz : ls.flatten.length * 48 ≤ 140737488355328) :
  Calls Tryz.prog 189 #[v] w fun e w' => ∃ v, e = .returned v ∧ w'.ownsRow w.heap.size 114 6 v ls.flatten.length (flatC ls.flatten) ∧ Below w.heap.size w w' := by
 obtain ⟨ao, cap, rfl, h1, h2, h3, h4⟩ := h;obtain ⟨b, off, u, rfl, _, _⟩ := h4 0 h0;refine joined_some ls b off cap w h1 h2 hsz fun i hi => ?_;obtain ⟨b', off', u', e1, e2, e3⟩ := h4 i hi
 cases e1
 exact ⟨u', e2, e3⟩
theorem pc_three {w : World} {a b c : Value} {la lb lc : List Cl} (t : TypeId) (ha : Cv w a la) (hb : Cv w b lb) (hc : Cv w c lc) :
  Pc (w.alloc (.cells #[a, b, c] t)) (.slice (some ⟨w.heap.size, 0, none⟩) 3 3) [la, lb, lc] := by
 refine ⟨_, 3, rfl, Nat.le_refl _, by simp [maxLen], by simp, fun i hi => ?_⟩;simp at hi;have : i = 0 ∨ i = 1 ∨ i = 2 := by omega
 rcases this with rfl | rfl | rfl
 ·exact ⟨_, _, a, rfl, by simp, ha.below (below_alloc _ _)⟩
 ·exact ⟨_, _, b, rfl, by simp, hb.below (below_alloc _ _)⟩
 ·exact ⟨_, _, c, rfl, by simp, hc.below (below_alloc _ _)⟩
end Go.Proofs.YtcmklbibehnloaaGreat
