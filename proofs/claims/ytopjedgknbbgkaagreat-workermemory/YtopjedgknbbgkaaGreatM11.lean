/- Contracts of plan's Nodes, Kind, WorkerOf, StoreOf, of the reference's. -/
import Derived.Test.YtopjedgknbbgkaaGreatM07
namespace Go.Proofs.YtopjedgknbbgkaaGreat

open Go.RowKit



/-- A plan's numbers and its steps. -/
structure Pn where
  P : Int
  S : Int
  W : Int
  A : Int
  B : Int
  N : Int
  G : Int
  l : List Stp


def btw (x a b : Int) : Bool := decide (a ≤ x) && decide (x ≤ b)
def Pn.siz (p : Pn) : Bool := btw p.P 1 4 && btw p.S 1 4 && btw p.W 1 4
def Pn.pac (p : Pn) : Bool := btw p.B 1 16 && btw p.N 1 4 && btw p.G 8 64
def Pn.num (p : Pn) : Bool := p.siz && knownB p.A && p.pac
/-- What Check answers. -/
def Pn.chk (p : Pn) : Int := if p.num then chkI p.l else 140
def Pn.is (p : Pn) : Bool := p.num && checkB p.l
def Pn.v (p : Pn) (ov : Value) : Value := .agg #[.int .i64 p.P, .int .i64 p.S, .int .i64 p.W, ov, .int .i64 p.A, .int .i64 p.B, .int .i64 p.N, .int .i64 p.G]
def Pn.nodes (p : Pn) : Int := if p.is then 1 + p.W + p.S else 0
def Pn.kind (p : Pn) (n : Int) : Int := if n < 0 ∨ p.nodes ≤ n then 0 else if n < 1 then 1 else if n < 1 + p.W then 2 else 3
def Pn.worker (p : Pn) (a : Int) : Int := if p.is && decide (1 ≤ a) then 1 + a % p.W else -1
def Pn.place (p : Pn) (k : Nat) : Nat := k % p.S.toNat
def Pn.store (p : Pn) (k : Nat) : Int := if p.is then 1 + p.W + (p.place k : Int) else -1


theorem Pn.chk_is (p : Pn) : (p.chk == 0) = p.is := by
  unfold Pn.chk Pn.is chkI
  cases p.num <;> cases checkB p.l <;> rfl
theorem Pn.chk_ok {p : Pn} (h : p.is = true) : p.chk = 0 := by
  have := p.chk_is
  rw [h] at this
  simpa using this
theorem Pn.chk_no {p : Pn} (h : p.is = false) : (p.chk == 0) = false := by rw [p.chk_is, h]
theorem Pn.is_num {p : Pn} (h : p.is = true) : (1 ≤ p.P ∧ p.P ≤ 4) ∧ (1 ≤ p.S ∧ p.S ≤ 4) ∧ (1 ≤ p.W ∧ p.W ≤ 4) ∧ (1 ≤ p.A ∧ p.A ≤ 4) ∧ (1 ≤ p.B ∧ p.B ≤ 16) ∧ (1 ≤ p.N ∧ p.N ≤ 4) ∧ 8 ≤ p.G ∧ p.G ≤ 64 := by
  unfold Pn.is Pn.num Pn.siz Pn.pac knownB btw at h
  simp only [Bool.and_eq_true, decide_eq_true_eq] at h
  omega


/-- A box g with a plan in it. -/
structure Bx (w : World) (g : Nat) (p : Pn) (ov : Value) : Prop where
  c0 : w.cell? ⟨g, 0, none⟩ = some (.int .i64 p.P)
  c1 : w.cell? ⟨g, 1, none⟩ = some (.int .i64 p.S)
  c2 : w.cell? ⟨g, 2, none⟩ = some (.int .i64 p.W)
  c3 : w.cell? ⟨g, 3, none⟩ = some ov
  c4 : w.cell? ⟨g, 4, none⟩ = some (.int .i64 p.A)
  c5 : w.cell? ⟨g, 5, none⟩ = some (.int .i64 p.B)
  c6 : w.cell? ⟨g, 6, none⟩ = some (.int .i64 p.N)
  c7 : w.cell? ⟨g, 7, none⟩ = some (.int .i64 p.G)
theorem Bx.below {w w' : World} {g B : Nat} {p : Pn} {ov : Value} (h : Bx w g p ov) (hb : Below B w w') (hg : g < B) : Bx w' g p ov :=
  ⟨by rw [hb.cell (p := ⟨g, 0, none⟩) hg]; exact h.c0, by rw [hb.cell (p := ⟨g, 1, none⟩) hg]; exact h.c1, by rw [hb.cell (p := ⟨g, 2, none⟩) hg]; exact h.c2, by rw [hb.cell (p := ⟨g, 3, none⟩) hg]; exact h.c3, by rw [hb.cell (p := ⟨g, 4, none⟩) hg]; exact h.c4, by rw [hb.cell (p := ⟨g, 5, none⟩) hg]; exact h.c5, by rw [hb.cell (p := ⟨g, 6, none⟩) hg]; exact h.c6, by rw [hb.cell (p := ⟨g, 7, none⟩) hg]; exact h.c7⟩
theorem box_new (w : World) (p : Pn) (ov : Value) : Bx (w.alloc (.cells #[.int .i64 p.P, .int .i64 p.S, .int .i64 p.W, ov, .int .i64 p.A, .int .i64 p.B, .int .i64 p.N, .int .i64 p.G] 24)) w.heap.size p ov := by
  constructor <;> simp [go_sem]
theorem box_then {w w' : World} {p : Pn} {ov : Value} (hb : Below (w.alloc (.cells #[.int .i64 p.P, .int .i64 p.S, .int .i64 p.W, ov, .int .i64 p.A, .int .i64 p.B, .int .i64 p.N, .int .i64 p.G] 24)).heap.size (w.alloc (.cells #[.int .i64 p.P, .int .i64 p.S, .int .i64 p.W, ov, .int .i64 p.A, .int .i64 p.B, .int .i64 p.N, .int .i64 p.G] 24)) w') : Bx w' w.heap.size p ov := (box_new w p ov).below hb (by simp)


theorem within_walk (x a b : Int) (w : World) : Calls Tryz.prog 61 #[.int .i64 x, .int .i64 a, .int .i64 b] w fun e w' => e = .returned (.bool (btw x a b)) ∧ w' = w := by
  go_enter Tryz.func61, Tryz.ntmps61
  go_wp2
  all_goals (go_ret; exact ⟨ret_bool (by unfold btw; simp <;> omega), rfl⟩)


theorem sized_walk (p : Pn) (ov : Value) (w : World) : Calls Tryz.prog 30 #[.agg #[.int .i64 p.P, .int .i64 p.S, .int .i64 p.W, ov, .int .i64 p.A, .int .i64 p.B, .int .i64 p.N, .int .i64 p.G]] w fun e w' => e = .returned (.bool p.siz) ∧ Below w.heap.size w w' := by
  have HS : Hid (p.siz = (btw p.P 1 4 && btw p.S 1 4 && btw p.W 1 4)) := rfl
  cases h1 : btw p.P 1 4 <;> cases h2 : btw p.S 1 4 <;> cases h3 : btw p.W 1 4
  all_goals
    rw [HS.out, h1, h2, h3]
    clear HS
    go_enter Tryz.func30, Tryz.ntmps30
    go_wp2_with (go_at_call 61; refine (within_walk _ _ _ _).mono ?_; simp only [h1, h2, h3]; rintro e w9 ⟨rfl, h9⟩; replace h9 := h9.symm; subst h9)
    go_ret
    exact ⟨rfl, below_alloc _ _⟩
theorem paced_walk (p : Pn) (ov : Value) (w : World) : Calls Tryz.prog 32 #[.agg #[.int .i64 p.P, .int .i64 p.S, .int .i64 p.W, ov, .int .i64 p.A, .int .i64 p.B, .int .i64 p.N, .int .i64 p.G]] w fun e w' => e = .returned (.bool p.pac) ∧ Below w.heap.size w w' := by
  have HS : Hid (p.pac = (btw p.B 1 16 && btw p.N 1 4 && btw p.G 8 64)) := rfl
  cases h1 : btw p.B 1 16 <;> cases h2 : btw p.N 1 4 <;> cases h3 : btw p.G 8 64
  all_goals
    rw [HS.out, h1, h2, h3]
    clear HS
    go_enter Tryz.func32, Tryz.ntmps32
    go_wp2_with (go_at_call 61; refine (within_walk _ _ _ _).mono ?_; simp only [h1, h2, h3]; rintro e w9 ⟨rfl, h9⟩; replace h9 := h9.symm; subst h9)
    go_ret
    exact ⟨rfl, below_alloc _ _⟩
theorem first_walk {p : Pn} (ov : Value) (h : p.is = true) (w : World) : Calls Tryz.prog 51 #[.agg #[.int .i64 p.P, .int .i64 p.S, .int .i64 p.W, ov, .int .i64 p.A, .int .i64 p.B, .int .i64 p.N, .int .i64 p.G]] w fun e w' => e = .returned (.int .i64 (1 + p.W)) ∧ Below w.heap.size w w' := by
  obtain ⟨_, _, ⟨w1, w2⟩, _⟩ := Pn.is_num h
  go_enter Tryz.func51, Tryz.ntmps51
  go_wp2_with fail
  go_ret
  exact ⟨rfl, below_alloc _ _⟩


section

variable {p : Pn} {ao : Option Addr} {n cap : Nat} {w : World}

theorem pcheck_walk {ov : Value} (ho : Ov w ov p.l) : Calls Tryz.prog 7 #[.agg #[.int .i64 p.P, .int .i64 p.S, .int .i64 p.W, ov, .int .i64 p.A, .int .i64 p.B, .int .i64 p.N, .int .i64 p.G]] w fun e w' => e = .returned (.int .i64 p.chk) ∧ Below w.heap.size w w' := by
  obtain ⟨⟨ao, cap, rfl, o1, o2, o3, o4⟩, _⟩ := ho
  have HO : Hid (Ol w ao p.l) := o4
  have HL : Hid (p.l.length ≤ maxLen) := Nat.le_trans o1 o2
  clear o1 o2 o3 o4
  have HC : Hid (p.chk = if (p.siz && knownB p.A && p.pac) then chkI p.l else 140) := rfl
  cases h1 : p.siz
  · rw [HC.out, h1]
    go_enter Tryz.func7, Tryz.ntmps7
    go_wp2_with fail
    refine (sized_walk p _ _).mono ?_
    rw [h1]
    rintro e w1 ⟨rfl, hB1⟩
    go_wp2_with fail
    go_ret
    exact ⟨rfl, below_trans (below_alloc _ _) hB1⟩
  cases h2 : knownB p.A
  · rw [HC.out, h1, h2]
    go_enter Tryz.func7, Tryz.ntmps7
    go_wp2_with fail
    refine (sized_walk p _ _).mono ?_
    rw [h1]
    rintro e w1 ⟨rfl, hB1⟩
    have HB1 : Hid (Below w.heap.size w w1) := below_trans (below_alloc _ _) hB1
    obtain ⟨c0, c1, c2, c3, c4, c5, c6, c7⟩ := box_then hB1
    clear hB1
    go_wp2_with (go_at_call 31; refine (known_walk _ _).mono ?_; rw [h2]; rintro e w9 ⟨rfl, h9⟩; replace h9 := h9.symm; subst h9)
    go_ret
    exact ⟨rfl, HB1.out⟩
  cases h3 : p.pac
  · rw [HC.out, h1, h2, h3]
    go_enter Tryz.func7, Tryz.ntmps7
    go_wp2_with fail
    refine (sized_walk p _ _).mono ?_
    rw [h1]
    rintro e w1 ⟨rfl, hB1⟩
    have HB1 : Hid (Below w.heap.size w w1) := below_trans (below_alloc _ _) hB1
    obtain ⟨c0, c1, c2, c3, c4, c5, c6, c7⟩ := box_then hB1
    clear hB1
    go_wp2_with (go_at_call 31; refine (known_walk _ _).mono ?_; rw [h2]; rintro e w9 ⟨rfl, h9⟩; replace h9 := h9.symm; subst h9)
    refine (paced_walk p _ _).mono ?_
    rw [h3]
    rintro e w2 ⟨rfl, hB2⟩
    go_wp2_with fail
    go_ret
    exact ⟨rfl, below_trans HB1.out hB2⟩
  · rw [HC.out, h1, h2, h3]
    go_enter Tryz.func7, Tryz.ntmps7
    go_wp2_with fail
    refine (sized_walk p _ _).mono ?_
    rw [h1]
    rintro e w1 ⟨rfl, hB1⟩
    have HB1 : Hid (Below w.heap.size w w1) := below_trans (below_alloc _ _) hB1
    have HX : Hid (Bx w1 w.heap.size p (.slice ao p.l.length cap)) := box_then hB1
    have HX1 : Hid (w.heap.size < w1.heap.size) := by
      have := hB1.size
      show _ < _
      simp at this
      omega
    obtain ⟨c0, c1, c2, c3, c4, c5, c6, c7⟩ := box_then hB1
    clear hB1
    go_wp2_with (go_at_call 31; refine (known_walk _ _).mono ?_; rw [h2]; rintro e w9 ⟨rfl, h9⟩; replace h9 := h9.symm; subst h9)
    refine (paced_walk p _ _).mono ?_
    rw [h3]
    rintro e w2 ⟨rfl, hB2⟩
    have HB2 : Hid (Below w.heap.size w w2) := below_trans HB1.out hB2
    clear c0 c1 c2 c3 c4 c5 c6 c7
    obtain ⟨c0, c1, c2, c3, c4, c5, c6, c7⟩ := HX.out.below hB2 HX1.out
    clear hB2
    go_wp2_with fail
    refine (check_walk HL.out (HO.out.below HB2.out)).mono ?_
    rintro e w3 ⟨rfl, hB3⟩
    go_wp2_with fail
    go_ret
    exact ⟨rfl, below_trans HB2.out hB3⟩
theorem isplan_walk {ov : Value} (ho : Ov w ov p.l) : Calls Tryz.prog 50 #[.agg #[.int .i64 p.P, .int .i64 p.S, .int .i64 p.W, ov, .int .i64 p.A, .int .i64 p.B, .int .i64 p.N, .int .i64 p.G]] w fun e w' => e = .returned (.bool p.is) ∧ Below w.heap.size w w' := by
  have HO : Hid (Ov w ov p.l) := ho
  clear ho
  go_enter Tryz.func50, Tryz.ntmps50
  go_wp2_with fail
  refine (pcheck_walk (HO.out.below (below_alloc _ _))).mono ?_
  rintro e w1 ⟨rfl, hB1⟩
  go_wp2_with fail
  go_ret
  exact ⟨ret_bool p.chk_is, below_trans (below_alloc _ _) hB1⟩
end

end Go.Proofs.YtopjedgknbbgkaaGreat

namespace Go.Proofs.YtopjedgknbbgkaaGreat

open Go.RowKit



theorem Bx.all {w1 : World} {g : Nat} {p : Pn} {ov : Value} (h : Bx w1 g p ov) (hg : g < w1.heap.size) : ∀ wx, Below w1.heap.size w1 wx → Bx wx g p ov := fun _ hb => h.below hb hg
theorem box_lt {w w1 : World} {p : Pn} {ov : Value} (hb : Below (w.alloc (.cells #[.int .i64 p.P, .int .i64 p.S, .int .i64 p.W, ov, .int .i64 p.A, .int .i64 p.B, .int .i64 p.N, .int .i64 p.G] 24)).heap.size (w.alloc (.cells #[.int .i64 p.P, .int .i64 p.S, .int .i64 p.W, ov, .int .i64 p.A, .int .i64 p.B, .int .i64 p.N, .int .i64 p.G] 24)) w1) : w.heap.size < w1.heap.size := by
  have := hb.size
  simp at this
  omega


section

variable {p : Pn} {w : World} {ov : Value}

theorem nodes_walk (ho : Ov w ov p.l) : Calls Tryz.prog 71 #[.agg #[.int .i64 p.P, .int .i64 p.S, .int .i64 p.W, ov, .int .i64 p.A, .int .i64 p.B, .int .i64 p.N, .int .i64 p.G]] w fun e w' => e = .returned (.int .i64 p.nodes) ∧ Below w.heap.size w w' := by
  have HO : Hid (Ov w ov p.l) := ho
  clear ho
  have HN : Hid (p.nodes = if p.is then 1 + p.W + p.S else 0) := rfl
  cases hp : p.is
  · rw [HN.out, hp]
    go_enter Tryz.func71, Tryz.ntmps71
    go_wp2_with fail
    refine (isplan_walk (HO.out.below (below_alloc _ _))).mono ?_
    rw [hp]
    rintro e w1 ⟨rfl, hB1⟩
    go_wp2_with fail
    go_ret
    exact ⟨rfl, below_trans (below_alloc _ _) hB1⟩
  · rw [HN.out, hp]
    obtain ⟨_, ⟨s1, s2⟩, ⟨w1, w2⟩, _⟩ := Pn.is_num hp
    go_enter Tryz.func71, Tryz.ntmps71
    go_wp2_with fail
    refine (isplan_walk (HO.out.below (below_alloc _ _))).mono ?_
    rw [hp]
    rintro e w1 ⟨rfl, hB1⟩
    have HB1 : Hid (Below w.heap.size w w1) := below_trans (below_alloc _ _) hB1
    have HX := (box_then hB1).all (box_lt hB1)
    have c0 := fun wx h => (HX wx h).c0
    have c1 := fun wx h => (HX wx h).c1
    have c2 := fun wx h => (HX wx h).c2
    have c3 := fun wx h => (HX wx h).c3
    have c4 := fun wx h => (HX wx h).c4
    have c5 := fun wx h => (HX wx h).c5
    have c6 := fun wx h => (HX wx h).c6
    have c7 := fun wx h => (HX wx h).c7
    clear hB1 HX
    go_wp2_with fail
    refine wp_region_noPanic ?_
    refine wp_region_held_drew (S := fun wx => Below w1.heap.size w1 wx) (by kernel_rfl) ?_ (fun hHeld => ?_)
    · exact below_drw _
    refine wpAnyH_take (i := 0) (oi := ⟨some 6, _, _, _, _, _⟩) (v := ?_) rfl (by kernel_rfl) (by kernel_rfl) (by kernel_rfl) (fun _ _ _ h => h) (Or.inl ⟨by rfl, ?_⟩) hHeld ?_
    rotate_left
    · intro w hSw; (try dsimp only at hSw); go_simp; all_goals (with_reducible rfl)
    try simp only [Act.put, List.setIfInBounds_toArray, List.set_cons_zero, List.set_cons_succ]
    refine wpAnyH_take (i := 2) (oi := ⟨some 8, _, _, _, _, _⟩) (v := ?_) rfl (by kernel_rfl) (by kernel_rfl) (by kernel_rfl) (fun _ _ _ h => h) (Or.inl ⟨by rfl, ?_⟩) hHeld ?_
    rotate_left
    · intro w hSw; (try dsimp only at hSw); go_simp; all_goals (with_reducible rfl)
    try simp only [Act.put, List.setIfInBounds_toArray, List.set_cons_zero, List.set_cons_succ]
    refine wpAnyH_take (i := 3) (oi := ⟨some 9, _, _, _, _, _⟩) (v := ?_) rfl (by kernel_rfl) (by kernel_rfl) (by kernel_rfl) (fun _ _ _ h => h) (Or.inl ⟨by rfl, ?_⟩) hHeld ?_
    rotate_left
    · intro w hSw; (try dsimp only at hSw); go_simp; all_goals (with_reducible rfl)
    try simp only [Act.put, List.setIfInBounds_toArray, List.set_cons_zero, List.set_cons_succ]
    refine wpAnyH_ready (rs := [1]) (by kernel_rfl) (by simp) ?_
    refine AllReadyH.cons (o := ⟨some 7, _, _, _, _, _⟩) rfl (fun K hK => ?_) AllReadyH.nil
    go_simp
    refine (first_walk _ hp _).mono ?_
    rintro e w2 ⟨rfl, hB2⟩
    refine hK.out _ _ ?_ (fun hHeld => ?_)
    · exact below_trans hHeld hB2
    clear hK K
    try simp only [Act.put, List.setIfInBounds_toArray, List.set_cons_zero, List.set_cons_succ]
    refine wpAnyH_take (i := 4) (oi := ⟨some 10, _, _, _, _, _⟩) (v := ?_) rfl (by kernel_rfl) (by kernel_rfl) (by kernel_rfl) (fun _ _ _ h => h) (Or.inl ⟨by rfl, ?_⟩) hHeld ?_
    rotate_left
    · intro w hSw; (try dsimp only at hSw); go_simp; all_goals (with_reducible rfl)
    try simp only [Act.put, List.setIfInBounds_toArray, List.set_cons_zero, List.set_cons_succ]
    refine wpAnyH_take (i := 5) (oi := ⟨some 2, _, _, _, _, _⟩) (v := ?_) rfl (by kernel_rfl) (by kernel_rfl) (by kernel_rfl) (fun _ _ _ h => h) (Or.inl ⟨by rfl, ?_⟩) hHeld ?_
    rotate_left
    · intro w hSw; (try dsimp only at hSw); go_simp; all_goals (with_reducible rfl)
    try simp only [Act.put, List.setIfInBounds_toArray, List.set_cons_zero, List.set_cons_succ]
    refine wpAnyH_done (by kernel_rfl) ?_ _
    refine NoPanic.normal ?_
    go_wp2_with fail
    go_ret
    exact ⟨ret_int (by rw [IntKind.wrap_i64]; omega), below_trans HB1.out hHeld⟩
theorem kind_in {n : Int} (h0 : ¬ n < 0) (hn : ¬ p.nodes ≤ n) : p.is = true := by
  cases h : p.is
  · unfold Pn.nodes at hn
    rw [h] at hn
    simp at hn
    omega
  · rfl
theorem kind_walk (n : Int) (ho : Ov w ov p.l) : Calls Tryz.prog 39 #[.agg #[.int .i64 p.P, .int .i64 p.S, .int .i64 p.W, ov, .int .i64 p.A, .int .i64 p.B, .int .i64 p.N, .int .i64 p.G], .int .i64 n] w fun e w' => e = .returned (.int .i64 (p.kind n)) ∧ Below w.heap.size w w' := by
  have HO : Hid (Ov w ov p.l) := ho
  clear ho
  have HN : Hid (p.kind n = if n < 0 ∨ p.nodes ≤ n then 0 else if n < 1 then 1 else if n < 1 + p.W then 2 else 3) := rfl
  by_cases h0 : n < 0
  · rw [HN.out, if_pos (.inl h0)]
    go_enter Tryz.func39, Tryz.ntmps39
    go_wp2_with fail
    go_ret
    exact ⟨rfl, below_alloc _ _⟩
  by_cases h1 : p.nodes ≤ n
  · rw [HN.out, if_pos (.inr h1)]
    go_enter Tryz.func39, Tryz.ntmps39
    go_wp2_with fail
    refine (nodes_walk (HO.out.below (below_alloc _ _))).mono ?_
    rintro e w1 ⟨rfl, hB1⟩
    go_wp2_with fail
    go_ret
    exact ⟨rfl, below_trans (below_alloc _ _) hB1⟩
  have hp := kind_in h0 h1
  have HP : Hid (p.is = true) := hp
  obtain ⟨_, ⟨s1, s2⟩, ⟨w1, w2⟩, _⟩ := Pn.is_num hp
  clear hp
  rw [HN.out, if_neg (by omega)]
  clear HN
  by_cases h2 : n < 1
  · rw [if_pos h2]
    go_enter Tryz.func39, Tryz.ntmps39
    go_wp2_with fail
    refine (nodes_walk (HO.out.below (below_alloc _ _))).mono ?_
    rintro e w1 ⟨rfl, hB1⟩
    go_wp2_with fail
    go_ret
    exact ⟨rfl, below_trans (below_alloc _ _) hB1⟩
  rw [if_neg h2]
  by_cases h3 : n < 1 + p.W
  · rw [if_pos h3]
    go_enter Tryz.func39, Tryz.ntmps39
    go_wp2_with fail
    refine (nodes_walk (HO.out.below (below_alloc _ _))).mono ?_
    rintro e w1 ⟨rfl, hB1⟩
    have HB1 : Hid (Below w.heap.size w w1) := below_trans (below_alloc _ _) hB1
    obtain ⟨c0, c1, c2, c3, c4, c5, c6, c7⟩ := box_then hB1
    clear hB1
    go_wp2_with fail
    refine (first_walk _ HP.out _).mono ?_
    rintro e w2 ⟨rfl, hB2⟩
    go_wp2_with fail
    go_ret
    exact ⟨rfl, below_trans HB1.out hB2⟩
  · rw [if_neg h3]
    go_enter Tryz.func39, Tryz.ntmps39
    go_wp2_with fail
    refine (nodes_walk (HO.out.below (below_alloc _ _))).mono ?_
    rintro e w1 ⟨rfl, hB1⟩
    have HB1 : Hid (Below w.heap.size w w1) := below_trans (below_alloc _ _) hB1
    obtain ⟨c0, c1, c2, c3, c4, c5, c6, c7⟩ := box_then hB1
    clear hB1
    go_wp2_with fail
    refine (first_walk _ HP.out _).mono ?_
    rintro e w2 ⟨rfl, hB2⟩
    go_wp2_with fail
    go_ret
    exact ⟨rfl, below_trans HB1.out hB2⟩
theorem place_walk (k : Nat) (hk : k < 18446744073709551616) (hp : p.is = true) : Calls Tryz.prog 52 #[.agg #[.int .i64 p.P, .int .i64 p.S, .int .i64 p.W, ov, .int .i64 p.A, .int .i64 p.B, .int .i64 p.N, .int .i64 p.G], .int .u64 k] w fun e w' => e = .returned (.int .i64 (p.place k)) ∧ Below w.heap.size w w' := by
  obtain ⟨_, ⟨s1, s2⟩, ⟨w1, w2⟩, _⟩ := Pn.is_num hp
  have HP : Hid (p.place k = k % p.S.toNat) := rfl
  have hlt : p.place k < p.S.toNat := by rw [HP.out]; exact Nat.mod_lt _ (by omega)
  obtain ⟨r, hr⟩ : ∃ r : Nat, r = p.place k := ⟨_, rfl⟩
  have hm : (k : Int) % p.S = r := by
    rw [hr, HP.out, show p.S = ((p.S.toNat : Nat) : Int) by omega]
    simp
  have hm' : (k : Int).tmod p.S = r := by rw [Int.tmod_eq_emod_of_nonneg (by omega)]; exact hm
  have hr4 : r < 4 := by omega
  rw [← hr]
  have hw0 : ¬ p.S = 0 := by omega
  have HR : Hid (r = p.place k) := hr
  clear hr hlt
  go_enter Tryz.func52, Tryz.ntmps52
  go_wp2_with fail
  go_ret
  exact ⟨rfl, below_alloc _ _⟩
end

end Go.Proofs.YtopjedgknbbgkaaGreat
