/- ScriptReads, walked. -/
import Derived.Test.YtkiplcmndpdifaaGreatDoorRh

import Derived.Test.YtkiplcmndpdifaaGreatDoorTh

namespace Go.Proofs.YtkiplcmndpdifaaGreatDoor

open Go.RowKit

attribute [local go_sem] run_store_float


theorem sv_nil (w : World) : SVw w (.slice none 0 0) [] := ⟨none, 0, rfl, Nat.le_refl _, by simp [maxLen], fun _ => rfl, fun i hi => by simp at hi⟩


set_option maxRecDepth 100000 in
set_option maxHeartbeats 8000000 in
theorem reads_walk {T : Bs} {w : World} (htb : Tb w) : Calls Tryz.prog 3 #[S T] w fun e w' => e = .returned (.bool true) ∧ Below w.heap.size w w' := by
  have HT : Hid (Tb w) := htb
  obtain ⟨t, ht⟩ : ∃ t : ByteArray, t = ⟨T.toArray⟩ := ⟨_, rfl⟩
  show Calls _ _ #[.string _] _ _
  rw [← ht]
  have HPW : Hid (∀ wx, Tb wx → Calls Tryz.prog 6 #[.string t] wx (ParseGot (parseT T) wx)) := by
    intro wx hx
    rw [ht]
    exact parse_walk T wx hx
  have HRW : Hid (∀ wx, Calls Tryz.prog 7 #[.string t] wx (ParseGot (parseT T) wx)) := by
    intro wx
    rw [ht]
    exact rparse_walk T wx
  clear ht htb
  go_enter Tryz.func3, Tryz.ntmps3
  go_wp2_with fail
  refine (awake_walk HT.out).mono ?_
  rintro e9 w1 ⟨rfl, hB1⟩
  have HB1 : Hid (Below w.heap.size w w1) := hB1
  clear hB1
  go_wp2_with fail
  refine (HPW.out w1 (HT.out.below HB1.out)).mono ?_
  intro e9 w2 h
  cases hA : parseT T with
  | error x =>
    obtain ⟨k, e⟩ := x
    rw [hA] at h HRW
    obtain ⟨rfl, hB2⟩ := h
    have HB2 : Hid (Below w.heap.size w w2) := below_trans HB1.out hB2
    simp only [PlV, Pl.zero]
    clear hB2 hA HPW
    have hee : (e == e) = true := by simp
    have hkk : (((k : Nat) : Int) == ((k : Nat) : Int)) = true := by simp
    go_wp2_with fail
    refine (HRW.out _).mono ?_
    rintro e9 w3 ⟨rfl, hB3⟩
    have HB3 : Hid (Below w.heap.size w w3) := below_trans (below_trans HB2.out (below_alloc _ _)) hB3
    have hgl : w2.heap.size < w3.heap.size := by have h1 := hB3.size; rw [alloc_sz] at h1; omega
    obtain ⟨g, hg⟩ : ∃ g, g = w2.heap.size := ⟨_, rfl⟩
    have hgb : w3.heap[g]? = some (.cells #[.int .i64 0, .int .i64 0, .int .i64 0, .slice none 0 0, .int .i64 0, .int .i64 0, .int .i64 0, .int .i64 0] 25 (0, 0)) := blk_below (alloc_at hg) hB3
    obtain ⟨c0, c1, c2, c3, c4, c5, c6, c7⟩ := pl_cells9 hgb
    rw [← hg] at hgl ⊢
    have hgn : ¬ g = w3.heap.size := by omega
    simp only [PlV, Pl.zero]
    clear hB3 hgb hg
    go_wp2_with fail
    refine (plans_walk (p := Pl.zero) (l := []) (ov_nil _) (ov_nil _)).mono ?_
    rintro e9 w4 ⟨rfl, hB4⟩
    have HB4 : Hid (Below w.heap.size w w4) := below_trans (below_trans HB3.out (below_alloc _ _)) hB4
    clear hB4 c0 c1 c2 c3 c4 c5 c6 c7
    go_wp2_with fail
    refine (same_walk (l := []) (sv_nil _) (sv_nil _)).mono ?_
    rintro e9 w5 ⟨rfl, hB5⟩
    have HB5 : Hid (Below w.heap.size w w5) := below_trans HB4.out hB5
    clear hB5
    go_wp2_with fail
    go_ret
    exact ⟨rfl, HB5.out⟩
  | ok s =>
    rw [hA] at h HRW
    obtain ⟨ov, sv, rfl, ho, hs, _, hB2⟩ := h
    have HB2 : Hid (Below w.heap.size w w2) := below_trans HB1.out hB2
    have HO : Hid (OVw w2 ov s.ops) := own_gv (f := opF) (n := 3) (l := s.ops) (fun _ => rfl) ho
    have HS : Hid (SVw w2 sv s.sts) := own_gv (f := stF) (n := 5) (l := s.sts) (fun _ => rfl) hs
    obtain ⟨oa, oc, rfl, _, _⟩ := own_form21 ho
    obtain ⟨sa, sc, rfl, _, _⟩ := own_form21 hs
    obtain ⟨p, hp⟩ : ∃ p, p = s.p := ⟨_, rfl⟩
    obtain ⟨ops, hops⟩ : ∃ p, p = s.ops := ⟨_, rfl⟩
    obtain ⟨sts, hsts⟩ : ∃ p, p = s.sts := ⟨_, rfl⟩
    have HEQ : Hid (p = s.p ∧ ops = s.ops ∧ sts = s.sts) := ⟨hp, hops, hsts⟩
    rw [← hops] at HO ⊢
    rw [← hsts] at HS ⊢
    rw [← hp]
    simp only [PlV]
    clear ho hs hB2 hA HPW hp hops hsts
    go_wp2_with fail
    refine (HRW.out _).mono ?_
    rintro e9 w3 ⟨ov2, sv2, rfl, ho2, hs2, _, hB3⟩
    have HO2 : Hid (OVw w3 ov2 s.ops) := own_gv (f := opF) (n := 3) (l := s.ops) (fun _ => rfl) ho2
    have HS2 : Hid (SVw w3 sv2 s.sts) := own_gv (f := stF) (n := 5) (l := s.sts) (fun _ => rfl) hs2
    obtain ⟨oa2, oc2, rfl, _, _⟩ := own_form21 ho2
    obtain ⟨sa2, sc2, rfl, _, _⟩ := own_form21 hs2
    rw [← HEQ.out.2.1] at HO2 ⊢
    rw [← HEQ.out.2.2] at HS2 ⊢
    rw [← HEQ.out.1]
    have HB3 : Hid (Below w2.heap.size w2 w3) := below_trans (below_alloc _ _) hB3
    have hgl : w2.heap.size < w3.heap.size := by have h1 := hB3.size; rw [alloc_sz] at h1; omega
    obtain ⟨g, hg⟩ : ∃ g, g = w2.heap.size := ⟨_, rfl⟩
    have hgb : w3.heap[g]? = some (.cells #[.int .i64 p.P, .int .i64 p.S, .int .i64 p.W, .slice oa ops.length oc, .int .i64 p.A, .int .i64 p.B, .int .i64 p.N, .int .i64 p.G] 25 (0, 0)) := blk_below (alloc_at hg) hB3
    obtain ⟨c0, c1, c2, c3, c4, c5, c6, c7⟩ := pl_cells9 hgb
    rw [← hg] at hgl ⊢
    have hgn : ¬ g = w3.heap.size := by omega
    simp only [PlV]
    clear hB3 hgb hg ho2 hs2
    go_wp2_with fail
    have HPL := plans_walk (p := p) (l := ops) (av := .slice oa ops.length oc) (bv := .slice oa2 ops.length oc2) (w := w3.alloc (.cells #[.int .i64 p.P, .int .i64 p.S, .int .i64 p.W, .slice oa2 ops.length oc2, .int .i64 p.A, .int .i64 p.B, .int .i64 p.N, .int .i64 p.G] 25)) (HO.out.below (fun _ => rfl) (below_trans HB3.out (below_alloc _ _))) (HO2.out.below (fun _ => rfl) (below_alloc _ _))
    simp only [PlV] at HPL
    refine HPL.mono ?_
    rintro e9 w4 ⟨rfl, hB4⟩
    have HB4 : Hid (Below w3.heap.size w3 w4) := below_trans (below_alloc _ _) hB4
    clear hB4 HPL c0 c1 c2 c3 c4 c5 c6 c7
    go_wp2_with fail
    refine (same_walk (l := sts) (HS.out.below (fun _ => rfl) (below_trans HB3.out HB4.out)) (HS2.out.below (fun _ => rfl) HB4.out)).mono ?_
    rintro e9 w5 ⟨rfl, hB5⟩
    have HB5 : Hid (Below w.heap.size w w5) := below_trans (below_trans HB2.out (below_trans HB3.out HB4.out)) hB5
    clear hB5
    go_wp2_with fail
    go_ret
    exact ⟨rfl, HB5.out⟩
end Go.Proofs.YtkiplcmndpdifaaGreatDoor


