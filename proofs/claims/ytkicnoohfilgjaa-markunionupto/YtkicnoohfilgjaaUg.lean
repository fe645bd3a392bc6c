/- Where the row is parted; patterns broken: the choice. -/
import Derived.Test.YtkicnoohfilgjaaUf

namespace Go.Proofs.Ytkicnoohfilgjaa

open Go.RowKit Go.Shelf



theorem Un.alloc {w : World} {g o cap : Nat} {d : Array Nat} (h : Un w g o cap d) (x : Obj) : Un (w.alloc x) g o cap d := h.kept (by have := (World.grownBy_alloc w x none).block g h.lt (by simp); exact this)
theorem ct_new (w : World) (t : TypeId) : Ct (w.alloc (Obj.cells #[.int .i64 0] t)) w.heap.size 0 := by
  refine ⟨?_, ?_⟩ <;> simp [go_sem]
theorem grown_new {w w1 w2 : World} {x : Obj} (h1 : w1 = w.alloc x) (h2 : w1.grownBy w2 (some w.heap.size)) : w.grownBy w2 none := by
  subst h1
  exact ((World.grownBy_alloc w x none).andThen h2 (fun j hj => Or.inl (by cases hj; exact Nat.le_refl _)))


set_option maxRecDepth 100000 in
theorem upiv_walk {w : World} {g o cap n a b : Nat} {d : Array Nat} (h : Un w g o cap d) (hn : d.size = n) (hab : a + 12 < b) (hb : b ≤ n) (hsz : n ≤ 2305843009213693951) :
    Calls Try.prog 47 #[.slice (some ⟨g, o, none⟩) n cap, .int .i64 a, .int .i64 b] w fun e w' => ∃ p hint : Nat, e = .returned (.tuple #[.int .i64 p, .int .i64 hint]) ∧ a ≤ p ∧ p < b ∧ hint ≤ 2 ∧ w.grownBy w' none := by
  obtain ⟨L, hL⟩ : ∃ L, L = b - a := ⟨_, rfl⟩
  obtain ⟨q, hq⟩ : ∃ q, q = L / 4 := ⟨_, rfl⟩
  obtain ⟨I, hI⟩ : ∃ I, I = a + q := ⟨_, rfl⟩
  obtain ⟨J, hJ⟩ : ∃ J, J = a + q * 2 := ⟨_, rfl⟩
  obtain ⟨K, hK⟩ : ∃ K, K = a + q * 3 := ⟨_, rfl⟩
  have rL : (b : Int) - (a : Int) = (L : Int) := by omega
  have rq : (L : Int).tdiv 4 = (q : Int) := by rw [Int.tdiv_eq_ediv_of_nonneg (by omega)]; omega
  have rI : (a : Int) + (q : Int) = (I : Int) := by omega
  have rJ : (a : Int) + (q : Int) * 2 = (J : Int) := by omega
  have rK : (a : Int) + (q : Int) * 3 = (K : Int) := by omega
  have hqn : q < n := by omega
  have hLn : L ≤ n := by omega
  have hL8 : 8 ≤ L := by omega
  have HI : Hid (a + 3 ≤ I ∧ I + 1 < b) := by show _ ∧ _; omega
  have HJ : Hid (a + 3 ≤ J ∧ J + 1 < b) := by show _ ∧ _; omega
  have HK : Hid (a + 3 ≤ K ∧ K + 1 < b) := by show _ ∧ _; omega
  have HB : Hid (b ≤ n) := hb
  have HU : Hid (Un w g o cap d) := h
  have HN : Hid (d.size = n) := hn
  have HGN : Hid (g ≠ w.heap.size) := by have := h.lt; show g ≠ _; omega
  clear h hn hL hq hI hJ hK
  go_enter Try.func47, Try.ntmps47
  by_cases h50 : 50 ≤ L
  · go_wp2_with fail
    generalize hw0 : w.alloc (Obj.cells #[.int .i64 0] 3) = w0
    have HW0 : Hid (w0 = w.alloc (Obj.cells #[.int .i64 0] 3)) := hw0.symm
    have HC0 : Hid (Ct w0 w.heap.size 0) := by show Ct _ _ _; rw [← hw0]; exact ct_new _ _
    have HU0 : Hid (Un w0 g o cap d) := by show Un _ _ _ _ _; rw [← hw0]; exact HU.out.alloc _
    clear hw0
    refine (uadj_walk HU0.out HN.out (by have := HI.out; omega) (by have := HI.out; omega) hsz HC0.out (by omega) HGN.out).mono ?_
    rintro e w1 ⟨i1, c1, rfl, hi1, hi2, hc1, hC1, hg1⟩
    have HC1 : Hid (Ct w1 w.heap.size c1) := hC1
    have HG1 : Hid (w0.grownBy w1 (some w.heap.size)) := hg1
    have HR1 : Hid (I ≤ i1 + 1 ∧ i1 ≤ I + 1) := ⟨hi1, hi2⟩
    have HU1 : Hid (Un w1 g o cap d) := HU0.out.grown hg1 HGN.out
    clear hC1 hg1 hi1 hi2
    go_wp2_with fail
    refine (uadj_walk HU1.out HN.out (by have := HJ.out; omega) (by have := HJ.out; omega) hsz HC1.out (by omega) HGN.out).mono ?_
    rintro e w2 ⟨j1, c2, rfl, hj1, hj2, hc2, hC2, hg2⟩
    have HC2 : Hid (Ct w2 w.heap.size c2) := hC2
    have HG2 : Hid (w0.grownBy w2 (some w.heap.size)) := grown_trans HG1.out hg2
    have HR2 : Hid (J ≤ j1 + 1 ∧ j1 ≤ J + 1) := ⟨hj1, hj2⟩
    have HU2 : Hid (Un w2 g o cap d) := HU1.out.grown hg2 HGN.out
    clear hC2 hg2 hj1 hj2
    go_wp2_with fail
    refine (uadj_walk HU2.out HN.out (by have := HK.out; omega) (by have := HK.out; omega) hsz HC2.out (by omega) HGN.out).mono ?_
    rintro e w3 ⟨k1, c3, rfl, hk1, hk2, hc3, hC3, hg3⟩
    have HC3 : Hid (Ct w3 w.heap.size c3) := hC3
    have HG3 : Hid (w0.grownBy w3 (some w.heap.size)) := grown_trans HG2.out hg3
    have HR3 : Hid (K ≤ k1 + 1 ∧ k1 ≤ K + 1) := ⟨hk1, hk2⟩
    have HU3 : Hid (Un w3 g o cap d) := HU2.out.grown hg3 HGN.out
    clear hC3 hg3 hk1 hk2
    go_wp2_with fail
    refine (umed_walk HU3.out HN.out (by have := HI.out; have := HR1.out; omega) (by have := HJ.out; have := HR2.out; omega) (by have := HK.out; have := HR3.out; omega) HC3.out (by omega) HGN.out).mono ?_
    rintro e w4 ⟨y, c4, rfl, hy, hc4, hC4, hg4⟩
    have HG4 : Hid (w.grownBy w4 none) := grown_new HW0.out (grown_trans HG3.out hg4)
    have HR : Hid (a ≤ y ∧ y < b) := by
      have := HI.out; have := HJ.out; have := HK.out; have := HR1.out; have := HR2.out; have := HR3.out
      show _ ∧ _
      omega
    obtain ⟨q1, q2⟩ := hC4
    clear hg4 hy HR1 HR2 HR3 HC1 HC2 HC3
    go_wp2_with fail
    all_goals go_ret2
    all_goals first | exact ⟨y, 1, rfl, HR.out.1, HR.out.2, by omega, HG4.out⟩ | exact ⟨y, 2, rfl, HR.out.1, HR.out.2, by omega, HG4.out⟩ | exact ⟨y, 0, rfl, HR.out.1, HR.out.2, by omega, HG4.out⟩
  · go_wp2_with fail
    generalize hw0 : w.alloc (Obj.cells #[.int .i64 0] 3) = w0
    have HW0 : Hid (w0 = w.alloc (Obj.cells #[.int .i64 0] 3)) := hw0.symm
    have HC0 : Hid (Ct w0 w.heap.size 0) := by show Ct _ _ _; rw [← hw0]; exact ct_new _ _
    have HU0 : Hid (Un w0 g o cap d) := by show Un _ _ _ _ _; rw [← hw0]; exact HU.out.alloc _
    clear hw0
    refine (umed_walk HU0.out HN.out (by have := HI.out; omega) (by have := HJ.out; omega) (by have := HK.out; omega) HC0.out (by omega) HGN.out).mono ?_
    rintro e w4 ⟨y, c4, rfl, hy, hc4, hC4, hg4⟩
    have HG4 : Hid (w.grownBy w4 none) := grown_new HW0.out hg4
    have HR : Hid (a ≤ y ∧ y < b) := by
      have := HI.out; have := HJ.out; have := HK.out
      show _ ∧ _
      omega
    obtain ⟨q1, q2⟩ := hC4
    clear hg4 hy
    go_wp2_with fail
    all_goals go_ret2
    all_goals first | exact ⟨y, 1, rfl, HR.out.1, HR.out.2, by omega, HG4.out⟩ | exact ⟨y, 2, rfl, HR.out.1, HR.out.2, by omega, HG4.out⟩ | exact ⟨y, 0, rfl, HR.out.1, HR.out.2, by omega, HG4.out⟩
end Go.Proofs.Ytkicnoohfilgjaa


