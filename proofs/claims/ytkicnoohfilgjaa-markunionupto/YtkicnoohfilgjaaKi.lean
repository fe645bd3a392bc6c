/- Contracts of mark's Union, Has, Judge, the reference's Compare, Judge, Has. -/
import Derived.Test.YtkicnoohfilgjaaKh

namespace Go.Proofs.Ytkicnoohfilgjaa

open Go.RowKit



set_option maxRecDepth 100000 in
theorem uins_nil (w : World) : Calls Try.prog 44 #[.slice none 0 0, .int .i64 0, .int .i64 0] w fun e w' => e = .returned (.tuple #[]) ∧ w' = w := by
  go_enter Try.func44, Try.ntmps44
  go_wp2
  refine wp_loop_rounds 1 ?_
  rw [rounds_succ]
  go_wp2
  go_end0
  exact ⟨rfl, rfl⟩
set_option maxRecDepth 100000 in
theorem updq_nil (m : Nat) (w : World) : Calls Try.prog 39 #[.slice none 0 0, .int .i64 0, .int .i64 0, .int .i64 m] w fun e w' => e = .returned (.tuple #[]) ∧ w' = w := by
  go_enter Try.func39, Try.ntmps39
  go_wp2_with fail
  refine wp_loop_rounds 1 ?_
  rw [rounds_succ]
  go_wp2_with fail
  refine (uins_nil _).mono ?_
  rintro e w1 ⟨rfl, rfl⟩
  go_wp2_with fail
  refine bodyPost_ret (results_none rfl _ _ _) rfl ?_
  exact ⟨rfl, rfl⟩
set_option maxRecDepth 100000 in
theorem usort_nil (w : World) : Calls Try.prog 29 #[.slice none 0 0] w fun e w' => e = .returned (.tuple #[]) ∧ w' = w := by
  go_enter Try.func29, Try.ntmps29
  go_wp2_with (go_at_call 40; refine (ulen_walk 0 (by omega) _).mono ?_; rintro e w9 ⟨⟨m, hm, rfl⟩, h9⟩; have h9 := h9.symm; subst h9)
  refine (updq_nil m _).mono ?_
  rintro e w1 ⟨rfl, rfl⟩
  go_wp2_with fail
  go_end0
  exact ⟨rfl, rfl⟩


theorem ib_keys (l : List Nat) : (ib l).map (Value.int .u64) = l.map fun k => Value.int .u64 (k : Nat) := by simp [ib]
/-- What Union leaves. -/
def UGot (l : List Nat) (w : World) (e : Ending) (w' : World) : Prop :=
  ∃ v, e = .returned v ∧ w'.ownsRow w.heap.size 32 1 v (uniU l).length ((ib (uniU l)).map (Value.int .u64)) ∧ Below w.heap.size w w'


set_option maxRecDepth 100000 in
set_option maxHeartbeats 2000000 in
theorem union_walk {w : World} {a b : Value} {la lb : List Nat} (ha : Kv w a la) (hb : Kv w b lb) (hsz : (la ++ lb).length * 8 ≤ 140737488355328) :
    Calls Try.prog 12 #[a, b] w (UGot (la ++ lb) w) := by
  have HA : Hid (Kv w a la) := ha
  have HB : Hid (Kv w b lb) := hb
  obtain ⟨L, hL⟩ : ∃ L, L = la ++ lb := ⟨_, rfl⟩
  have HFL : Hid ([la, lb].flatten = L) := by show _ = _; rw [hL]; simp
  rw [← hL] at hsz ⊢
  have HSZ : Hid (L.length * 8 ≤ 140737488355328) := hsz
  clear hL
  obtain ⟨aa, ac, hav, _, _⟩ := kv_form ha
  obtain ⟨ba, bc, hbv, _, _⟩ := kv_form hb
  obtain ⟨an, han⟩ : ∃ n, n = la.length := ⟨_, rfl⟩
  obtain ⟨bn, hbn⟩ : ∃ n, n = lb.length := ⟨_, rfl⟩
  rw [← han] at hav
  rw [← hbn] at hbv
  subst hav hbv
  clear ha hb hsz han hbn
  go_enter Try.func12, Try.ntmps12
  go_wp2_with fail
  refine (concat_walk (pk_two 24 HA.out HB.out) (by simp) (by rw [HFL.out]; exact HSZ.out)).mono ?_
  rintro e w2 ⟨v2, rfl, ho2, hB2⟩
  rw [HFL.out] at ho2
  have HB2 : Hid (Below w.heap.size w w2) := below_trans (below_alloc _ _) hB2
  have HO2 : Hid (w2.ownsRow w.heap.size 32 1 v2 L.length (L.map fun k => Value.int .u64 (k : Nat))) := by
    show World.ownsRow _ _ _ _ _ _ _
    rw [← ib_keys]; exact own_baseC ho2 (by rw [size_allocC]; omega)
  clear ho2 hB2
  rcases HO2.out.2 with ⟨hv, h0⟩ | ⟨g, cap, cur, hv, hg, hh, hnc, hcm, hcs, htk⟩
  · have hL0 : L = [] := List.eq_nil_of_length_eq_zero h0
    have HU : Hid (uniU L = []) := by rw [hL0]; rfl
    subst hv
    clear h0 hL0
    go_wp2_with fail
    refine (usort_nil _).mono ?_
    rintro e w3 ⟨rfl, hw3⟩
    replace hw3 := hw3.symm
    subst hw3
    go_wp2_with fail
    refine (ucomp_empty none 0 _).mono ?_
    rintro e w3 ⟨rfl, hw3⟩
    replace hw3 := hw3.symm
    subst hw3
    go_wp2_with fail
    go_ret
    exact ⟨_, rfl, by rw [HU.out]; exact ⟨rfl, .inl ⟨rfl, rfl⟩⟩, HB2.out⟩
  · obtain ⟨n, hn⟩ : ∃ n, n = L.length := ⟨_, rfl⟩
    have HN : Hid (n = L.length) := hn
    rw [← hn] at hv
    subst hv
    have HUN : Hid (Un w2 g 0 cap L.toArray) := own_un (by have q := HO2.out; rw [← HN.out] at q; exact q)
    have HG : Hid (w.heap.size ≤ g) := hg
    have HCM : Hid (cap ≤ maxLen) := hcm
    have HNC : Hid (n ≤ cap) := by show _ ≤ _; omega
    have HN8 : Hid (n ≤ 17592186044416) := by have := HSZ.out; show _ ≤ _; omega
    have HLS : Hid (L.toArray.size = n) := by show _ = _; rw [HN.out]; simp
    clear hg hh hnc hcm hcs htk hn HO2
    go_wp2_with fail
    refine (usort_walk HUN.out HLS.out (by have := HN8.out; omega)).mono ?_
    rintro e w3 ⟨rfl, d', hU, hPm, hSo⟩
    have HR3 : Hid (Un w3 g 0 cap d') := hU.row
    have HDS : Hid (d'.size = n) := hU.size
    have HCU : Hid (Lib.compactUpTo d' d'.size = uniU L) := comp_uni (d := L.toArray) (by simp) (by rw [hU.size, HLS.out]) (by rw [HLS.out]; exact hPm) (by rw [HLS.out]; exact hSo)
    have HB3 : Hid (Below w.heap.size w w3) := HB2.out.grown hU.grown HB2.out.size (by simp; exact HG.out)
    have HLE : Hid ((uniU L).length ≤ n) := by
      show _ ≤ _
      rw [← HCU.out, HDS.out, Lib.compactUpTo, List.length_map]
      refine Nat.le_trans (List.length_filter_le _ _) ?_
      simp
    clear hU hPm hSo
    go_wp2_with fail
    rw [← HDS.out]
    refine (ucomp_arr g 0 cap d' w3 (un_holds HR3.out) (by have h1 := HDS.out; have h2 := HN8.out; omega) (by have h1 := HDS.out; have h2 := HNC.out; omega) (by have := HCM.out; unfold maxLen at this; omega)).mono ?_
    rw [HCU.out]
    rintro e w4 ⟨rfl, q, hw4⟩
    have HO4 : Hid (w4.ownsRow w.heap.size 32 1 (.slice (some ⟨g, 0, none⟩) (uniU L).length cap) (uniU L).length ((ib (uniU L)).map (Value.int .u64))) := by
      show World.ownsRow _ _ _ _ _ _ _
      have h1 := HLE.out
      have h2 := HDS.out
      have := row_own (q := q) (k := (uniU L).length) (base := w.heap.size) (arr := (uniU L ++ List.replicate (d'.size - (uniU L).length) 0).toArray) HR3.out (by simp; omega) (by omega) HG.out HCM.out
      rw [← hw4] at this
      simpa using this
    have HB4 : Hid (Below w.heap.size w w4) := by show Below _ _ _; rw [hw4]; exact below_putRow HB3.out HG.out
    obtain ⟨m, hm⟩ : ∃ m, m = (uniU L).length := ⟨_, rfl⟩
    rw [← hm] at HO4 ⊢
    have HM : Hid (m = (uniU L).length) := hm
    clear hw4 hm
    go_wp2_with fail
    go_ret
    exact ⟨_, rfl, by rw [← HM.out]; exact HO4.out, HB4.out⟩
end Go.Proofs.Ytkicnoohfilgjaa


