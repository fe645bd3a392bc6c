/- Batch: the table of records. -/
import Derived.Test.YtofkhgokfdpdiabGreatB02
import Derived.Test.YtofkhgokfdpdiabGreatB45
import Derived.Test.YtofkhgokfdpdiabGreatB03
import Derived.Defers
import Derived.Recover
import Derived.Test.YtofkhgokfdpdiabGreatB35
set_option maxRecDepth 100000
set_option maxHeartbeats 16000000
namespace Go.Proofs.YtofkhgokfdpdiabGreat
section
open Go.RowKit

theorem uins_nil (w : World) : Calls Tryz.prog 149 #[.slice none 0 0, .int .i64 0, .int .i64 0] w fun e w' => e = .returned (.tuple #[]) ∧ w' = w := by
 go_in
 go_wp2
 refine wp_loop_rounds 1 ?_
 rw [rounds_succ]
 go_wp2
 go_end0
 exact ⟨rfl, rfl⟩
theorem updq_nil (m : Nat) (w : World) : Calls Tryz.prog 105 #[.slice none 0 0, .int .i64 0, .int .i64 0, .int .i64 m] w fun e w' => e = .returned (.tuple #[]) ∧ w' = w := by
 go_in
 go_wp2_with fail
 refine wp_loop_rounds 1 ?_
 rw [rounds_succ]
 go_wp2_with fail
 refine (uins_nil _).mono ?_
 rintro e w1 ⟨rfl, rfl⟩
 go_wp2_with fail
 refine bodyPost_ret (results_none rfl _ _ _) rfl ?_
 exact ⟨rfl, rfl⟩
theorem usort_nil (w : World) : Calls Tryz.prog 58 #[.slice none 0 0] w fun e w' => e = .returned (.tuple #[]) ∧ w' = w := by
 go_in
 go_wp2_with (go_at_call 106; refine (ulen_walk 0 (by omega) _).mono ?_; rintro e w9 ⟨⟨m, hm, rfl⟩, h9⟩; have h9 := h9.symm; subst h9)
 refine (updq_nil m _).mono ?_
 rintro e w1 ⟨rfl, rfl⟩
 go_wp2_with fail
 go_end0
 exact ⟨rfl, rfl⟩
theorem ib_keys (l : List Nat) : (ib l).map (Value.int .u64) = l.map fun k => Value.int .u64 (k : Nat) := by simp [ib]
def UGot (l : List Nat) (w : World) (e : Ending) (w' : World) : Prop :=
 ∃ v, e = .returned v ∧ w'.ownsRow w.heap.size 33 1 v (uniU l).length ((ib (uniU l)).map (Value.int .u64)) ∧ Below w.heap.size w w'
theorem union_walk {w : World} {a b : Value} {la lb : List Nat} (ha : Kv w a la) (hb : Kv w b lb) (hsz : (la ++ lb).length * 8 ≤ 140737488355328) :
  Calls Tryz.prog 26 #[a, b] w (UGot (la ++ lb) w) := by
 have HA : Hid (Kv w a la) := ha
 have HB : Hid (Kv w b lb) := hb
 obtain ⟨L, hL⟩ : ∃ L, L = la ++ lb := ⟨_, rfl⟩
 have HFL : Hid ([la, lb].flatten = L) := by show _ = _; rw [hL]; simp
 rw [← hL] at hsz ⊢
 have HSZ := hidH hsz
 clear hL
 obtain ⟨aa, ac, hav, _, _⟩ := kv_form ha
 obtain ⟨ba, bc, hbv, _, _⟩ := kv_form hb
 obtain ⟨an, han⟩ : ∃ n, n = la.length := ⟨_, rfl⟩
 obtain ⟨bn, hbn⟩ : ∃ n, n = lb.length := ⟨_, rfl⟩
 rw [← han] at hav
 rw [← hbn] at hbv
 subst hav hbv
 clear ha hb hsz han hbn
 go_in
 go_wp2_with fail
 refine (concat_walk (pk_two 30 HA.out HB.out) (by simp) (by rw [HFL.out]; exact HSZ.out)).mono ?_
 rintro e w2 ⟨v2, rfl, ho2, hB2⟩
 rw [HFL.out] at ho2
 have HB2 : Hid (Below w.heap.size w w2) := below_trans (below_alloc _ _) hB2
 have HO2 : Hid (w2.ownsRow w.heap.size 33 1 v2 L.length (L.map fun k => Value.int .u64 (k : Nat))) := by
  show World.ownsRow _ _ _ _ _ _ _
  rw [← ib_keys]; exact own_baseC ho2 (by rw [size_allocC]; omega)
 clear ho2 hB2
 rcases HO2.out.2 with ⟨hv, h0⟩ | ⟨g, cap, cur, hv, hg, hh, hnc, hcm, hcs, htk⟩
 ·have hL0 : L = [] := List.eq_nil_of_length_eq_zero h0
  have HU : Hid (uniU L = []) := by rw [hL0]; rfl
  subst hv
  clear h0 hL0
  go_wp2_with fail
  refine (usort_nil _).mono ?_
  rintro e w3 ⟨rfl, hw3⟩
  replace hw3 := hw3.symm
  subst hw3
  go_wp2_with fail
  refine (ucomp_empty none 0 _).mono ?_
  rintro e w3 ⟨rfl, hw3⟩
  replace hw3 := hw3.symm
  subst hw3
  go_wp2_with fail
  go_ret
  exact ⟨_, rfl, by rw [HU.out]; exact ⟨rfl, .inl ⟨rfl, rfl⟩⟩, HB2.out⟩
 ·obtain ⟨n, hn⟩ : ∃ n, n = L.length := ⟨_, rfl⟩
  have HN : Hid (n = L.length) := hn
  rw [← hn] at hv
  subst hv
  have HUN : Hid (Un w2 g 0 cap L.toArray) := own_un (by have q := HO2.out; rw [← HN.out] at q; exact q)
  have HG : Hid (w.heap.size ≤ g) := hg
  have HCM : Hid (cap ≤ maxLen) := hcm
  have HNC : Hid (n ≤ cap) := by show _ ≤ _; omega
  have HN8 : Hid (n ≤ 17592186044416) := by have := HSZ.out; show _ ≤ _; omega
  have HLS : Hid (L.toArray.size = n) := by show _ = _; rw [HN.out]; simp
  clear hg hh hnc hcm hcs htk hn HO2
  go_wp2_with fail
  refine (usort_walk HUN.out HLS.out (by have := HN8.out; omega)).mono ?_
  rintro e w3 ⟨rfl, d', hU, hPm, hSo⟩
  have HR3 : Hid (Un w3 g 0 cap d') := hU.row
  have HDS : Hid (d'.size = n) := hU.size
  have HCU : Hid (Lib.compactUpTo d' d'.size = uniU L) := comp_uni (d := L.toArray) (by simp) (by rw [hU.size, HLS.out]) (by rw [HLS.out]; exact hPm) (by rw [HLS.out]; exact hSo)
  have HB3 : Hid (Below w.heap.size w w3) := HB2.out.grown hU.grown HB2.out.size (by simp; exact HG.out)
  have HLE : Hid ((uniU L).length ≤ n) := by
   show _ ≤ _
   rw [← HCU.out, HDS.out, Lib.compactUpTo, List.length_map]
   refine Nat.le_trans (List.length_filter_le _ _) ?_
   simp
  clear hU hPm hSo
  go_wp2_with fail
  rw [← HDS.out]
  refine (ucomp_arr g 0 cap d' w3 (un_holds HR3.out) (by have h1 := HDS.out; have h2 := HN8.out; omega) (by have h1 := HDS.out; have h2 := HNC.out; omega) (by have := HCM.out; unfold maxLen at this; omega)).mono ?_
  rw [HCU.out]
  rintro e w4 ⟨rfl, q, hw4⟩
  have HO4 : Hid (w4.ownsRow w.heap.size 33 1 (.slice (some ⟨g, 0, none⟩) (uniU L).length cap) (uniU L).length ((ib (uniU L)).map (Value.int .u64))) := by
   show World.ownsRow _ _ _ _ _ _ _
   have h1 := HLE.out
   have h2 := HDS.out
   have := row_own (q := q) (k := (uniU L).length) (base := w.heap.size) (arr := (uniU L ++ List.replicate (d'.size - (uniU L).length) 0).toArray) HR3.out (by simp; omega) (by omega) HG.out HCM.out
   rw [← hw4] at this
   simpa using this
  have HB4 : Hid (Below w.heap.size w w4) := by show Below _ _ _; rw [hw4]; exact below_putRow HB3.out HG.out
  obtain ⟨m, hm⟩ : ∃ m, m = (uniU L).length := ⟨_, rfl⟩
  rw [← hm] at HO4 ⊢
  have HM : Hid (m = (uniU L).length) := hm
  clear hw4 hm
  go_wp2_with fail
  go_ret
  exact ⟨_, rfl, by rw [← HM.out]; exact HO4.out, HB4.out⟩
end
section
open Ieee Go.RowKit

attribute [local go_sem] run_store_float
def chkI (l : List Stp) : Int := if checkB l then 0 else 30
def Rng (w0 : World) (l : List Stp) (iv : Value) (wr : World) : Prop :=
 ∃ k : Nat, k ≤ l.length ∧ iv = .int .i64 k ∧ (∀ j, (h : j < l.length) → j < k → isB l[j] = true) ∧ Below w0.heap.size w0 wr
theorem check_long {l : List Stp} (h : 8 < l.length) : chkI l = 30 := by
 unfold chkI checkB
 rw [decide_eq_false (by omega)]; rfl
theorem check_bad {l : List Stp} {k : Nat} (hk : k < l.length) (h : isB l[k] = false) : chkI l = 30 := by
 unfold chkI checkB
 have : l.all isB = false := by
  rw [List.all_eq_false]
  exact ⟨l[k], List.getElem_mem hk, by simpa using h⟩
 rw [this, Bool.and_false]; rfl
theorem check_good {l : List Stp} (h : l.length ≤ 8) (ha : ∀ j, (h : j < l.length) → isB l[j] = true) : chkI l = 0 := by
 unfold chkI checkB
 have : l.all isB = true := by
  rw [List.all_eq_true]
  intro o ho
  obtain ⟨i, hi, rfl⟩ := List.getElem_of_mem ho
  exact ha i hi
 rw [this, Bool.and_true, decide_eq_true h]; rfl
theorem rng_step {w0 wr w1 : World} {l : List Stp} {k : Nat} (hk : k < l.length) (ha : ∀ j, (h : j < l.length) → j < k → isB l[j] = true) (hb : isB l[k] = true) (hB : Below w0.heap.size w0 wr) (h1 : Below wr.heap.size wr w1) :
  Rng w0 l (.int .i64 ((k : Int) + 1)) w1 := by
 refine ⟨k + 1, hk, by simp, fun j hj hjk => ?_, below_trans hB h1⟩
 rcases Nat.lt_or_ge j k with h | h
 ·exact ha j hj h
 ·obtain rfl : j = k := by omega
  exact hb
theorem check_walk {ao : Option Addr} {cap : Nat} {l : List Stp} {w : World} (hl : l.length ≤ maxLen) (ho : Ol w ao l) :
  Calls Tryz.prog 52 #[.slice ao l.length cap] w fun e w' => e = .returned (.int .i64 (chkI l)) ∧ Below w.heap.size w w' := by
 have hli : (l.length : Int) ≤ 9223372036854775807 := by simp only [maxLen] at hl; omega
 have HO : Hid (Ol w ao l) := ho
 clear ho hl
 by_cases h8 : (8 : Int) < (l.length : Int)
 ·go_in
  go_wp2_with fail
  go_ret
  exact ⟨ret_int (check_long (by omega)).symm, below_same _⟩
 ·have HL : Hid (l.length ≤ 8) := by show _ ≤ _; omega
  go_in
  go_wp2_with fail
  go_loopw [10] (fun iv wr => Rng w l iv wr) (fun iv _ => l.length - (intOf iv).toNat)
  case atStart => exact ⟨0, Nat.zero_le _, rfl, fun j hj h => by omega, below_same _⟩
  case round =>
   obtain ⟨k, hk, rfl, HA', hB'⟩ := hrel
   have HA : Hid (∀ j, (h : j < l.length) → j < k → isB l[j] = true) := HA'
   have HB := hidH hB'
   clear HA' hB'
   by_cases hlt : k < l.length
   ·obtain ⟨b, off, rfl, c0, c1, c2⟩ := HO.out.below HB.out k hlt
    obtain ⟨o, hoe⟩ : ∃ o, o = l[k] := ⟨_, rfl⟩
    rw [← hoe] at c0 c1 c2
    have HE : Hid (o = l[k]) := hoe
    clear hoe
    cases hb : isB o
    ·go_wp2_with fail
     refine (isStep_walk o _).mono ?_
     rw [hb]
     rintro e w1 ⟨rfl, hB1⟩
     go_wp2_with fail
     go_ret
     exact ⟨ret_int (check_bad hlt (by rw [← HE.out]; exact hb)).symm, below_trans HB.out (below_trans (below_alloc _ _) hB1)⟩
    ·go_wp2_with fail
     refine (isStep_walk o _).mono ?_
     rw [hb]
     rintro e w1 ⟨rfl, hB1⟩
     have R := rng_step hlt HA.out (by rw [← HE.out]; exact hb) HB.out (below_trans (below_alloc _ _) hB1)
     go_wp2_with fail
     go_roundw
     case rel => exact R
     case measure => simp [intOf]; omega
   ·go_wp2_with fail
    go_ret
    exact ⟨ret_int (check_good HL.out (fun j hj => HA.out j hj (by omega))).symm, HB.out⟩
end
section
open Ieee Go.RowKit

attribute [local go_sem] run_store_float
structure IB (w : World) (b : Nat) (f : Int) : Prop where
 c : w.cell? ⟨b, 0, none⟩ = some (.int .i64 f)
 z : w.frozen? ⟨b, 0, none⟩ = false
theorem IB.below {w w' : World} {b B : Nat} {f : Int} (h : IB w b f) (hb : Below B w w') (hl : b < B) : IB w' b f :=
 ⟨by rw [hb.cell (p := ⟨b, 0, none⟩) hl]; exact h.c, by rw [hb.frozen (p := ⟨b, 0, none⟩) hl]; exact h.z⟩
theorem catch_panicking {p q k x : Nat} {f : Int} (u : TypeId) (pv : Value) (older : List PanicEntry) (w : World) (h1 : RB w p k x) (h2 : IB w q f) (hne : ¬ q = p) :
  CallsD Tryz.prog 96 #[.pointer (some ⟨p, 0, none⟩), .pointer (some ⟨q, 0, none⟩)] (.panicking ({ v := .iface u pv, recovered := false } :: older)) w fun e u' w' =>
   e = .returned (.tuple #[]) ∧ u' = .panicking ({ v := .iface u pv, recovered := true } :: older) ∧ w' = ((w.setCell ⟨p, 0, none⟩ (.int .u64 0)).setCell ⟨p, 1, none⟩ (.float .f64 0)).setCell ⟨q, 0, none⟩ (.int .i64 3) := by
 obtain ⟨c0, c1, z0, z1⟩ := h1
 obtain ⟨d0, y0⟩ := h2
 refine callsD_of_wpS Tryz.func96 rfl fun c₀ cs hu => ?_
 apply wpS_seq
 apply wpS_region
 simp [wpOpsS, go_sem, recoverD, hu, Tryz.ntmps96, Exit.thenS]
 refine wpS_cond (t := true) (by simp [Act.eval, Array.replicate]) ?_
 simp only [if_true]
 apply wpS_region
 simp [wpOpsS, go_sem, c0, c1, z0, z1, d0, y0, bodyPostS, results, Tryz.results96]
theorem catch_idle (p q : Addr) (w : World) :
  CallsD Tryz.prog 96 #[.pointer (some p), .pointer (some q)] .returning w fun e u' w' => e = .returned (.tuple #[]) ∧ u' = .returning ∧ w' = w := by
 refine callsD_of_wpS Tryz.func96 rfl fun c₀ cs hu => ?_
 apply wpS_seq
 apply wpS_region
 simp [wpOpsS, go_sem, recoverD, hu, Tryz.ntmps96, Exit.thenS]
 refine wpS_cond (t := false) (by simp [Act.eval, Array.replicate]) ?_
 simp only [Bool.false_eq_true, if_false]
 refine wpS_of_wp (wp_skip ?_)
 cases c₀
 simp_all [bodyPostS, results, Tryz.results96]
theorem run_start {w w1 : World} {k x : Nat}
  (h : ((w.alloc (Obj.cells #[Value.int IntKind.u64 k, Value.float FloatKind.f64 x] 36)).alloc (Obj.cells #[Value.int IntKind.u64 0, Value.float FloatKind.f64 0] 36)).alloc (Obj.cells #[Value.int IntKind.i64 0] 3) = w1) :
  Hid (w1.heap.size = w.heap.size + 1 + 1 + 1) ∧ Hid (Below w.heap.size w w1) ∧ RB w1 w.heap.size k x ∧ RB w1 (w.heap.size + 1) 0 0 ∧ IB w1 (w.heap.size + 1 + 1) 0 := by
 subst h
 refine ⟨by simp [Hid, go_sem], ?_, ⟨?_, ?_, ?_, ?_⟩, ⟨?_, ?_, ?_, ?_⟩, ⟨?_, ?_⟩⟩
 ·exact ((below_alloc _ _).alloc (by simp [go_sem]) _).alloc (by simp [go_sem]; omega) _
 all_goals simp [go_sem]
set_option linter.unusedSimpArgs false in
theorem run_bad {ao : Option Addr} {cap : Nat} {l : List Stp} {w : World} (r : Rcd) (hl : l.length ≤ maxLen) (ho : Ol w ao l) (hc : checkB l = false) :
  Calls Tryz.prog 53 #[.slice ao l.length cap, .agg #[.int .u64 r.k, .float .f64 r.x]] w fun e w' => e = .returned (.tuple #[.agg #[.int .u64 0, .float .f64 0], .int .i64 0]) ∧ Below w.heap.size w w' := by
 have hmf : ∀ (fn : Fn) (first cap : Array Value) (w : World), (Instr.makeFunc fn first cap).run Tryz.prog w = .ok (.func fn first cap) w := fun _ _ _ _ => rfl
 have HO : Hid (Ol w ao l) := ho
 have HL : Hid (l.length ≤ maxLen) := hl
 have HC : Hid (chkI l = 30) := by show _ = _; unfold chkI; rw [hc]; rfl
 clear ho hl hc
 go_enter_defers Tryz.func53, Tryz.ntmps53
 go_wp2_with fail
 generalize hw1 : ((w.alloc (Obj.cells #[Value.int IntKind.u64 r.k, Value.float FloatKind.f64 r.x] 36)).alloc (Obj.cells #[Value.int IntKind.u64 0, Value.float FloatKind.f64 0] 36)).alloc (Obj.cells #[Value.int IntKind.i64 0] 3) = w1
 obtain ⟨HS, HB, R1, R2, I1⟩ := run_start hw1
 clear hw1
 refine (check_walk HL.out (HO.out.below HB.out)).mono ?_
 rw [HC.out]
 rintro e w2 ⟨rfl, hB⟩
 have hl : w.heap.size + 1 + 1 < w1.heap.size := by rw [HS.out]; omega
 obtain ⟨d0, d1, y0, y1⟩ := R2.below hB (by omega)
 obtain ⟨i0, x0⟩ := I1.below hB hl
 have HB2 := hidH (below_trans HB.out hB)
 clear hB R1 R2 I1
 go_wp2_with fail
 exact ⟨.tuple #[.agg #[.int .u64 0, .float .f64 0], .int .i64 0], by simp [results, Tryz.results53, go_sem, d0, d1, y0, y1, i0, x0], rfl,
  ((HB2.out.setCell (p := ⟨w.heap.size + 1, 0, none⟩) (by simp only; omega) _).setCell (p := ⟨w.heap.size + 1, 1, none⟩) (by simp only; omega) _).setCell (p := ⟨w.heap.size + 1 + 1, 0, none⟩) (by simp only; omega) _⟩
theorem RB.set {w : World} {b k x : Nat} (h : RB w b k x) (k' x' : Nat) : RB ((w.setCell ⟨b, 0, none⟩ (.int .u64 k')).setCell ⟨b, 1, none⟩ (.float .f64 x')) b k' x' := by
 obtain ⟨c0, c1, z0, z1⟩ := h
 refine ⟨?_, ?_, ?_, ?_⟩ <;> simp [go_sem, c0, c1, z0, z1]
theorem RB.set1 {w : World} {b k x : Nat} (h : RB w b k x) (x' : Nat) : RB (w.setCell ⟨b, 1, none⟩ (.float .f64 x')) b k x' := by
 obtain ⟨c0, c1, z0, z1⟩ := h
 refine ⟨?_, ?_, ?_, ?_⟩ <;> simp [go_sem, c0, c1, z0, z1]
theorem RB.other {w : World} {b k x : Nat} (h : RB w b k x) {p : Addr} (hne : b ≠ p.block) (v : Value) : RB (w.setCell p v) b k x := by
 have e := Below.heap_setCell w p v b hne
 obtain ⟨c0, c1, z0, z1⟩ := h
 exact ⟨by rw [World.cell?_of_block (w := w) e]; exact c0, by rw [World.cell?_of_block (w := w) e]; exact c1, by rw [World.frozen?_of_block (w := w) e]; exact z0, by rw [World.frozen?_of_block (w := w) e]; exact z1⟩
theorem IB.other {w : World} {b : Nat} {f : Int} (h : IB w b f) {p : Addr} (hne : b ≠ p.block) (v : Value) : IB (w.setCell p v) b f := by
 have e := Below.heap_setCell w p v b hne
 obtain ⟨c0, z0⟩ := h
 exact ⟨by rw [World.cell?_of_block (w := w) e]; exact c0, by rw [World.frozen?_of_block (w := w) e]; exact z0⟩
theorem RB.alloc {w : World} {b k x : Nat} (h : RB w b k x) (o : Obj) : RB (w.alloc o) b k x := h.below (below_alloc w o) (cell_lt h.c0)
theorem IB.alloc {w : World} {b : Nat} {f : Int} (h : IB w b f) (o : Obj) : IB (w.alloc o) b f := h.below (below_alloc w o) (cell_lt h.c)
def RunRel (w0 : World) (l : List Stp) (r0 : Rcd) (iv : Value) (wr : World) : Prop :=
 ∃ (k : Nat) (r : Rcd), k ≤ l.length ∧ iv = .int .i64 k ∧ r.ok ∧ goS l r0 = goS (l.drop k) r ∧ RB wr w0.heap.size r.k r.x ∧ RB wr (w0.heap.size + 1) 0 0 ∧ IB wr (w0.heap.size + 1 + 1) 0 ∧ Below w0.heap.size w0 wr
theorem runrel_start {w w2 : World} {l : List Stp} {r : Rcd} (hr : r.ok) (h1 : RB w2 w.heap.size r.k r.x) (h2 : RB w2 (w.heap.size + 1) 0 0) (h3 : IB w2 (w.heap.size + 1 + 1) 0) (hB : Below w.heap.size w w2) :
  RunRel w l (canR r) (.int .i64 0) (w2.setCell ⟨w.heap.size, 1, none⟩ (.float .f64 (canonW r.x))) :=
 ⟨0, canR r, Nat.zero_le _, rfl, canR_ok hr, rfl, h1.set1 _, h2.other (by simp only; omega) _, h3.other (by simp only; omega) _, hB.setCell (by simp only; omega) _⟩
theorem runrel_step {w wr w3 : World} {l : List Stp} {r0 r : Rcd} {k : Nat} (hlt : k < l.length) (hr : r.ok) (hg : goS l r0 = goS (l.drop k) r) (hf : fateI l[k] r.x = 1)
  (h1 : RB w3 w.heap.size r.k r.x) (h2 : RB w3 (w.heap.size + 1) 0 0) (h3 : IB w3 (w.heap.size + 1 + 1) 0) (hB : Below w.heap.size w wr) (hB3 : Below wr.heap.size wr w3) (o : Obj) :
  RunRel w l r0 (.int .i64 ((k : Int) + 1)) (((w3.alloc o).setCell ⟨w.heap.size, 0, none⟩ (.int .u64 (nextR l[k] r).k)).setCell ⟨w.heap.size, 1, none⟩ (.float .f64 (nextR l[k] r).x)) := by
 have hs : w.heap.size ≤ w3.heap.size := Nat.le_trans hB.size hB3.size
 refine ⟨k + 1, nextR l[k] r, hlt, by simp, nextR_ok hr, ?_, (h1.alloc o).set _ _, ((h2.alloc o).other (by simp only; omega) _).other (by simp only; omega) _, ((h3.alloc o).other (by simp only; omega) _).other (by simp only; omega) _, ?_⟩
 ·rw [hg, List.drop_eq_getElem_cons hlt, goS_keep hf]
 ·exact ((((below_trans hB hB3).alloc hs o)).setCell (by simp only; omega) _).setCell (by simp only; omega) _
theorem goS_end {l : List Stp} {r0 r : Rcd} {k : Nat} (hk : k ≤ l.length) (hlt : ¬ k < l.length) (hg : goS l r0 = goS (l.drop k) r) : goS l r0 = (1, r) := by
 rw [hg, List.drop_of_length_le (by omega)]; rfl
theorem check_all {l : List Stp} (h : checkB l = true) {k : Nat} (hk : k < l.length) : isB l[k] = true := by
 unfold checkB at h
 rw [Bool.and_eq_true] at h
 exact List.all_eq_true.1 h.2 _ (List.getElem_mem hk)
set_option linter.unusedSimpArgs false in
theorem run_good {ao : Option Addr} {cap : Nat} {l : List Stp} {w : World} (r : Rcd) (hr : r.ok) (hl : l.length ≤ maxLen) (ho : Ol w ao l) (hok : ∀ o ∈ l, o.ok) (hc : checkB l = true) (h11 : ∀ o ∈ l, o.K = 11) :
  Calls Tryz.prog 53 #[.slice ao l.length cap, .agg #[.int .u64 r.k, .float .f64 r.x]] w fun e w' =>
   e = .returned (.tuple #[.agg #[.int .u64 (goS l (canR r)).2.k, .float .f64 (goS l (canR r)).2.x], .int .i64 (goS l (canR r)).1]) ∧ Below w.heap.size w w' := by
 have hmf : ∀ (fn : Fn) (first cap : Array Value) (w : World), (Instr.makeFunc fn first cap).run Tryz.prog w = .ok (.func fn first cap) w := fun _ _ _ _ => rfl
 have hli : (l.length : Int) ≤ 9223372036854775807 := by simp only [maxLen] at hl; omega
 have HO : Hid (Ol w ao l) := ho
 have HK : Hid (∀ o ∈ l, o.ok) := hok
 have HL : Hid (l.length ≤ maxLen) := hl
 have HC : Hid (chkI l = 0) := by show _ = _; unfold chkI; rw [hc]; rfl
 have HA : Hid (checkB l = true) := hc
 have HR : Hid r.ok := hr
 have H11L : Hid (∀ o ∈ l, o.K = 11) := h11
 clear ho hl hc hok h11
 go_enter_defers Tryz.func53, Tryz.ntmps53
 go_wp2_with fail
 generalize hw1 : ((w.alloc (Obj.cells #[Value.int IntKind.u64 r.k, Value.float FloatKind.f64 r.x] 36)).alloc (Obj.cells #[Value.int IntKind.u64 0, Value.float FloatKind.f64 0] 36)).alloc (Obj.cells #[Value.int IntKind.i64 0] 3) = w1
 obtain ⟨HS, HB, R1, R2, I1⟩ := run_start hw1
 clear hw1
 refine (check_walk HL.out (HO.out.below HB.out)).mono ?_
 rw [HC.out]
 rintro e w2 ⟨rfl, hB⟩
 have hsz : w.heap.size + 1 + 1 < w1.heap.size := by rw [HS.out]; omega
 have HR1 : Hid (RB w2 w.heap.size r.k r.x) := R1.below hB (by omega)
 have HR2 : Hid (RB w2 (w.heap.size + 1) 0 0) := R2.below hB (by omega)
 have HI1 : Hid (IB w2 (w.heap.size + 1 + 1) 0) := I1.below hB hsz
 obtain ⟨c0, c1, z0, z1⟩ := HR1.out
 have HB2 := hidH (below_trans HB.out hB)
 clear hB R1 R2 I1
 go_wp2_with fail
 refine (canon_walk hr.2 _).mono ?_
 rintro e w' ⟨rfl, rfl⟩
 have R0 := runrel_start (l := l) HR.out HR1.out HR2.out HI1.out HB2.out
 go_wp2_with fail
 clear c0 c1 z0 z1
 go_loopw [21] (fun iv wr => RunRel w l (canR r) iv wr) (fun iv _ => l.length - (intOf iv).toNat)
 case atStart => exact R0
 case round =>
  clear R0 HR1 HR2 HI1 HB2 HB HS hsz
  obtain ⟨k, q, hk, rfl, hq, hg, h1, h2, h3, hB⟩ := hrel
  have HG : Hid (goS l (canR r) = goS (l.drop k) q) := hg
  have HR1 := hidH h1
  have HR2 := hidH h2
  have HI1 := hidH h3
  have HB := hidH hB
  have HQ : Hid q.ok := hq
  clear hg h1 h2 h3 hB hq
  by_cases hlt : k < l.length
  ·obtain ⟨b, off, rfl, o0, o1, o2⟩ := HO.out.below HB.out k hlt
   obtain ⟨o, hoe⟩ : ∃ o, o = l[k] := ⟨_, rfl⟩
   rw [← hoe] at o0 o1 o2
   have HE : Hid (o = l[k]) := hoe
   have HOK : Hid o.ok := by show o.ok; rw [hoe]; exact HK.out _ (List.getElem_mem hlt)
   have HBB : Hid (isB o = true) := by show _ = _; rw [hoe]; exact check_all HA.out hlt
   have H11 : Hid (o.K = 11) := by show _ = _; rw [hoe]; exact H11L.out _ (List.getElem_mem hlt)
   clear hoe
   have a0 : ∀ x : Obj, (wr.alloc x).cell? ⟨w.heap.size, 0, none⟩ = some (.int .u64 q.k) := fun x => (HR1.out.alloc x).c0
   have a1 : ∀ x : Obj, (wr.alloc x).cell? ⟨w.heap.size, 1, none⟩ = some (.float .f64 q.x) := fun x => (HR1.out.alloc x).c1
   ·have HF : Hid (fateI o q.x = 1) := fate_11 o q.x H11.out
    go_wp2_with fail
    refine (step_kept o q HOK.out HBB.out H11.out _).mono ?_
    rintro e w3 ⟨rfl, hB3⟩
    have HB3 : Hid (Below wr.heap.size wr w3) := below_trans (below_alloc _ _) hB3
    clear hB3 a0 a1 o0 o1 o2
    have HT1 : Hid (RB w3 w.heap.size q.k q.x) := HR1.out.below HB3.out (cell_lt HR1.out.c0)
    have HT2 : Hid (RB w3 (w.heap.size + 1) 0 0) := HR2.out.below HB3.out (cell_lt HR2.out.c0)
    have HJ1 : Hid (IB w3 (w.heap.size + 1 + 1) 0) := HI1.out.below HB3.out (cell_lt HI1.out.c)
    have a0 : ∀ x : Obj, (w3.alloc x).cell? ⟨w.heap.size, 0, none⟩ = some (.int .u64 q.k) := fun x => (HT1.out.alloc x).c0
    have a1 : ∀ x : Obj, (w3.alloc x).cell? ⟨w.heap.size, 1, none⟩ = some (.float .f64 q.x) := fun x => (HT1.out.alloc x).c1
    have a2 : ∀ x : Obj, (w3.alloc x).frozen? ⟨w.heap.size, 0, none⟩ = false := fun x => (HT1.out.alloc x).z0
    have a3 : ∀ x : Obj, (w3.alloc x).frozen? ⟨w.heap.size, 1, none⟩ = false := fun x => (HT1.out.alloc x).z1
    have R := runrel_step (w3 := w3) hlt HQ.out HG.out (by rw [← HE.out]; exact HF.out) HT1.out HT2.out HJ1.out HB.out HB3.out (Obj.cells #[Value.int IntKind.u64 (nextR o q).k, Value.float FloatKind.f64 (nextR o q).x] 36)
    rw [← HE.out] at R
    go_wp2_with fail
    go_roundw
    case rel => exact R
    case measure => simp [intOf]; omega
  ·obtain ⟨c0, c1, z0, z1⟩ := HR1.out
   obtain ⟨d0, d1, y0, y1⟩ := HR2.out
   obtain ⟨i0, x0⟩ := HI1.out
   go_wp2_with fail
   refine leaves_cons (f := 96) (args := #[.pointer (some ⟨w.heap.size + 1, 0, none⟩), .pointer (some ⟨w.heap.size + 1 + 1, 0, none⟩)]) (by simp) (by simp [go_sem]) ?_
   refine (catch_idle _ _ _).mono ?_
   rintro e u' w'' ⟨rfl, rfl, rfl⟩
   rw [goS_end hk hlt HG.out]
   exact ⟨.tuple #[.agg #[.int .u64 q.k, .float .f64 q.x], .int .i64 1], by simp [results, Tryz.results53, go_sem, d0, d1, y0, y1, i0, x0], rfl,
    ((HB.out.setCell (p := ⟨w.heap.size + 1, 0, none⟩) (by simp only; omega) _).setCell (p := ⟨w.heap.size + 1, 1, none⟩) (by simp only; omega) _).setCell (p := ⟨w.heap.size + 1 + 1, 0, none⟩) (by simp only; omega) _⟩
theorem run_walkO {v : Value} {l : List Stp} {w : World} (r : Rcd) (hr : r.ok) (ho : Ov w v l) (h11 : ∀ o ∈ l, o.K = 11) :
  Calls Tryz.prog 53 #[v, .agg #[.int .u64 r.k, .float .f64 r.x]] w fun e w' =>
   e = .returned (.tuple #[.agg #[.int .u64 (runS l r).2.k, .float .f64 (runS l r).2.x], .int .i64 (runS l r).1]) ∧ Below w.heap.size w w' := by
 obtain ⟨⟨ao, cap, rfl, h1, h2, h3, h4⟩, h5⟩ := ho
 unfold runS
 cases hc : checkB l
 ·exact run_bad r (by omega) h4 hc
 ·exact run_good r hr (by omega) h4 h5 hc h11
end
section
open Ieee Go.RowKit

attribute [local go_sem] run_store_float
theorem Rv.below {w w' : World} {v : Value} {l : List Rcd} (h : Rv w v l) (hb : Below w.heap.size w w') : Rv w' v l := by
 obtain ⟨⟨ao, cap, e, h1, h2, h3, h4⟩, h5⟩ := h
 exact ⟨⟨ao, cap, e, h1, h2, h3, h4.below hb⟩, h5⟩
theorem kept_ok {l : List Stp} {kind : Int} {recs : List Rcd} (h : ∀ r ∈ recs, r.ok) : okT (keptT l kind recs) := by
 intro p hp
 obtain ⟨r, hr, e⟩ := List.mem_filterMap.1 hp
 split at e
 ·cases e
  exact ⟨(runS_ok l (h r hr)).1, ofV_ok kind (runS_ok l (h r hr)).2⟩
 ·cases e
theorem kept_snoc (l : List Stp) (kind : Int) (recs : List Rcd) {i : Nat} (hi : i < recs.length) : keptT l kind (recs.take (i + 1)) = keptT l kind (recs.take i) ++ keptT l kind [recs[i]] := by
 rw [List.take_succ_eq_append_getElem hi, kept_append]
theorem kept_one {l : List Stp} {kind : Int} {r : Rcd} (h : (runS l r).1 = 1) : keptT l kind [r] = [⟨(runS l r).2.k, ofV kind (runS l r).2.x⟩] := by
 unfold keptT; simp [h]
theorem kept_none {l : List Stp} {kind : Int} {r : Rcd} (h : (runS l r).1 ≠ 1) : keptT l kind [r] = [] := by
 unfold keptT; simp [h]
theorem trap_snoc (l : List Stp) (recs : List Rcd) {i : Nat} (hi : i < recs.length) : trapN l (recs.take (i + 1)) = trapN l (recs.take i) + (if (runS l recs[i]).1 = 3 then 1 else 0) := by
 unfold trapN
 rw [List.take_succ_eq_append_getElem hi, List.countP_append, List.countP_singleton]
 simp
theorem trap_le (l : List Stp) (recs : List Rcd) : trapN l recs ≤ recs.length := List.countP_le_length
theorem kept_len (l : List Stp) (kind : Int) (recs : List Rcd) : (keptT l kind recs).length ≤ recs.length := List.length_filterMap_le _ _
theorem batch_len (l : List Stp) (kind : Int) (recs : List Rcd) : (batchT l kind recs).length ≤ recs.length := by
 have := adds_len kind [] (keptT l kind recs)
 have := kept_len l kind recs
 unfold batchT; simp at *; omega
theorem batch_ok {l : List Stp} {kind : Int} {recs : List Rcd} (h : ∀ r ∈ recs, r.ok) : okT (batchT l kind recs) := ok_adds ok_nil (kept_ok h)
def Bt (w : World) (mb : Nat) (l : List Stp) (kind : Int) (recs : List Rcd) (tv iv : Value) (wr : World) : Prop :=
 ∃ i : Nat, i ≤ recs.length ∧ iv = .int .i64 i ∧ tv = .int .i64 (trapN l (recs.take i)) ∧ Mp wr mb i (batchT l kind (recs.take i)) ∧ Below w.heap.size w wr
theorem bt_keep {w wr w1 w2 : World} {mb i : Nat} {l : List Stp} {kind : Int} {recs : List Rcd} (hi : i < recs.length) {r : Rcd} (hr : r = recs[i]) (hf : (runS l r).1 = 1) (hb : w.heap.size ≤ mb)
  (hB : Below w.heap.size w wr) (h1 : Below wr.heap.size wr w1) (hg : w1.grownBy w2 (some mb)) (hM : Mp w2 mb (i + 1) (withT kind (runS l r).2.k (ofV kind (runS l r).2.x) (batchT l kind (recs.take i)))) :
  Bt w mb l kind recs (.int .i64 (trapN l (recs.take i))) (.int .i64 ((i : Int) + 1)) w2 := by
 refine ⟨i + 1, hi, by simp, ?_, ?_, ?_⟩
 ·rw [trap_snoc l recs hi, ← hr, if_neg (by omega), Nat.add_zero]
 ·unfold batchT at hM ⊢
  rw [kept_snoc l kind recs hi, ← hr, kept_one hf, adds_snoc]
  exact hM
 ·have h2 := below_trans hB h1
  exact h2.grown hg h2.size (by simp; omega)
theorem bt_skip {w wr w1 : World} {mb i n : Nat} {l : List Stp} {kind : Int} {recs : List Rcd} (hi : i < recs.length) {r : Rcd} (hr : r = recs[i]) (hf : (runS l r).1 ≠ 1) (hn : n = if (runS l r).1 = 3 then 1 else 0)
  (hB : Below w.heap.size w wr) (h1 : Below wr.heap.size wr w1) (hM : Mp wr mb i (batchT l kind (recs.take i))) :
  Bt w mb l kind recs (.int .i64 ((trapN l (recs.take i) + n : Nat) : Int)) (.int .i64 ((i : Int) + 1)) w1 := by
 refine ⟨i + 1, hi, by simp, ?_, ?_, below_trans hB h1⟩
 ·rw [trap_snoc l recs hi, ← hr, hn]
 ·unfold batchT at hM ⊢
  rw [kept_snoc l kind recs hi, ← hr, kept_none hf, List.append_nil]
  exact (World.ownsMap.kept hM (grown_of_below h1) (by simp)).mono (Nat.le_succ _)
theorem take_ok {recs : List Rcd} (h : ∀ r ∈ recs, r.ok) (i : Nat) : ∀ r ∈ recs.take i, r.ok := fun r hr => h r (List.mem_of_mem_take hr)
theorem batch_good {lv rv : Value} {l : List Stp} {kind : Int} {recs : List Rcd} {w : World} (ho : Ov w lv l) (hr : Rv w rv recs) (hc : checkB l = true) (hk : knownB kind = true) (hsz : recs.length * 24 ≤ 281474976710656) (h11 : ∀ o ∈ l, o.K = 11) :
  Calls Tryz.prog 25 #[lv, .int .i64 kind, rv] w fun e w' => ∃ g, e = .returned (.tuple #[.slice (some ⟨g, 0, none⟩) (batchT l kind recs).length (batchT l kind recs).length, .int .i64 (trapN l recs), .int .i64 0]) ∧
   Mq w' g (batchT l kind recs) ∧ w.heap.size ≤ g ∧ g < w'.heap.size ∧ Below w.heap.size w w' := by
 have HV : Hid (Ov w lv l) := ho
 have H11 : Hid (∀ o ∈ l, o.K = 11) := h11
 clear h11
 obtain ⟨⟨ao, cap, rfl, h1, h2, h3, h4⟩, h5⟩ := ho
 obtain ⟨⟨ro, rcap, rfl, r1, r2, r3, r4⟩, r5⟩ := hr
 have HO : Hid (Ol w ao l) := h4
 have HRL : Hid (Rl w ro recs) := r4
 have HRO := hidH r5
 have HL : Hid (l.length ≤ maxLen) := Nat.le_trans h1 h2
 have HSZ := hidH hsz
 have hli : (recs.length : Int) ≤ 11728124029610 := by omega
 have HC : Hid (chkI l = 0) := by show _ = _; unfold chkI; rw [hc]; rfl
 clear h1 h2 h3 h4 h5 r1 r2 r3 r4 r5 hc hsz
 have hmm := @run_makeMap Tryz.prog
 go_in
 go_wp2_with fail
 refine (check_walk HL.out HO.out).mono ?_
 rw [HC.out]
 rintro e w1 ⟨rfl, hB⟩
 have HB1 := hidH hB
 clear hB
 go_wp2_with (go_at_call 6; refine (known_walk _ _).mono ?_; rw [hk]; rintro e w9 ⟨rfl, h9⟩; have h9 := h9.symm; subst h9)
 have R0 : Bt w w1.heap.size l kind recs (.int .i64 0) (.int .i64 0) (w1.alloc (.map #[] 0)) :=
  ⟨0, Nat.zero_le _, rfl, by simp [trapN], World.ownsMap_made w1 _ _ _, below_trans HB1.out (below_alloc _ _)⟩
 have HMB : Hid (w.heap.size ≤ w1.heap.size) := HB1.out.size
 clear hmm
 go_loopw [11, 27] (fun tv iv wr => Bt w w1.heap.size l kind recs tv iv wr) (fun _ iv _ => recs.length - (intOf iv).toNat)
 case atStart => exact R0
 case round =>
  clear R0
  obtain ⟨i, hi, rfl, rfl, hM, hB⟩ := hrel
  have HM := hidH hM
  have HB := hidH hB
  clear hM hB
  by_cases hlt : i < recs.length
  ·obtain ⟨b, off, rfl, c0, c1⟩ := HRL.out.below HB.out i hlt
   obtain ⟨r, hre⟩ : ∃ r, r = recs[i] := ⟨_, rfl⟩
   rw [← hre] at c0 c1
   have HE : Hid (r = recs[i]) := hre
   have HROK : Hid r.ok := by rw [hre]; exact HRO.out _ (List.getElem_mem hlt)
   clear hre
   obtain ⟨R, hR⟩ : ∃ R, R = runS l r := ⟨_, rfl⟩
   have HR : Hid (R = runS l r) := hR
   have HKO : Hid R.2.ok := by show R.2.ok; rw [hR]; exact runS_ok l HROK.out
   clear hR
   go_wp2_with fail
   refine (run_walkO r HROK.out (HV.out.below (below_trans HB.out (below_alloc _ _))) H11.out).mono ?_
   rw [← HR.out]
   rintro e w3 ⟨rfl, hB3⟩
   have HB3 : Hid (Below wr.heap.size wr w3) := below_trans (below_alloc _ _) hB3
   clear hB3
   by_cases hf1 : R.1 = 1
   ·have HF : Hid (R.1 = 1) := hf1
    rw [hf1]
    clear hf1 c0 c1
    have HFF : Hid ((runS l r).1 = 1) := by show _ = _; rw [← HR.out]; exact HF.out
    go_wp2_with fail
    generalize hg5 : w3.alloc (Obj.cells #[.int .u64 R.2.k, .float .f64 R.2.x] 36) = w5
    have HRB : Hid (RB w5 w3.heap.size R.2.k R.2.x) := by show RB _ _ _ _; rw [← hg5]; refine ⟨?_, ?_, ?_, ?_⟩ <;> simp [go_sem]
    have HB5 : Hid (Below wr.heap.size wr w5) := by show Below _ _ _; rw [← hg5]; exact below_trans HB3.out (below_alloc _ _)
    clear hg5
    obtain ⟨q0, q1, _, _⟩ := HRB.out
    have HNM : Hid (i < maxLen) := by show _ < _; simp only [maxLen]; omega
    go_region_with (first
     | (go_at_call 55; refine (aof_walk kind HKO.out.2 _).mono ?_; rintro e w9 ⟨rfl, hB9⟩; have hS9 : Below w5.heap.size w5 w9 := below_trans (by first | assumption | exact (Below.refl _ _).drew) hB9; obtain ⟨d0, d1, _, _⟩ := HRB.out.below hS9 (cell_lt HRB.out.c0))
     | (go_at_call 54; refine (put_walkF kind _ (World.ownsMap.kept HM.out (grown_of_below (below_trans HB5.out (by assumption))) (by simp)) (rise_batch _ _ _) (batch_ok (take_ok HRO.out i)) HNM.out HKO.out.1 (ofV_ok kind HKO.out.2)).mono ?_; rintro e w10 ⟨rfl, hM10, hg10⟩; have R' := bt_keep hlt HE.out HFF.out HMB.out HB.out (below_trans HB5.out hS9) hg10 (by rw [← HR.out]; exact hM10)))
    all_goals go_wp2_with fail
    all_goals go_roundw
    all_goals first
     | exact R'
     | (simp [intOf]; omega)
   ·have HF : Hid ((runS l r).1 ≠ 1) := by show (runS l r).1 ≠ 1; rw [← HR.out]; exact hf1
    have hf1b : (R.1 == 1) = false := by simpa using hf1
    by_cases hf3 : R.1 = 3
    ·have R' := bt_skip (n := 1) hlt HE.out HF.out (by rw [← HR.out, if_pos hf3]) HB.out (below_trans HB3.out (below_alloc w3 (Obj.cells #[.int .u64 R.2.k, .float .f64 R.2.x] 36))) HM.out
     rw [hf3]
     clear hf1 hf1b hf3
     have htr : ((trapN l (recs.take i) : Nat) : Int) ≤ 11728124029610 := by have := trap_le l (recs.take i); simp at this; omega
     go_wp2_with fail
     go_roundw
     case rel => simpa using R'
     case measure => simp [intOf]; omega
    ·have R' := bt_skip (n := 0) hlt HE.out HF.out (by rw [← HR.out, if_neg hf3]) HB.out (below_trans HB3.out (below_alloc w3 (Obj.cells #[.int .u64 R.2.k, .float .f64 R.2.x] 36))) HM.out
     have hf3b : (R.1 == 3) = false := by simpa using hf3
     clear hf1 hf3
     go_wp2_with fail
     go_roundw
     case rel => simpa using R'
     case measure => simp [intOf]; omega
  ·have e : i = recs.length := by omega
   have HT : Hid (recs.take i = recs) := by show _ = _; rw [e]; simp
   have HME : Hid (Mp wr w1.heap.size i (batchT l kind recs)) := by have := HM.out; rw [HT.out] at this; exact this
   have HTR : Hid (trapN l (recs.take i) = trapN l recs) := by show _ = _; rw [HT.out]
   clear e
   go_wp2_with fail
   refine (sorted_walk _ HME.out (rise_batch _ _ _) (batch_ok HRO.out) (by have := batch_len l kind recs; have := HSZ.out; omega)).mono ?_
   rintro e w5 ⟨rfl, hM5, hB5, hl5⟩
   go_wp2_with fail
   refine bodyPost_ret (v := .tuple #[.slice (some ⟨wr.heap.size, 0, none⟩) (batchT l kind recs).length (batchT l kind recs).length, .int .i64 (trapN l (recs.take i)), .int .i64 0]) (by simp [results, Tryz.results25, go_sem]) rfl ?_
   exact ⟨_, by rw [HTR.out], hM5, HB.out.size, hl5, below_trans HB.out hB5⟩
end
end Go.Proofs.YtofkhgokfdpdiabGreat
