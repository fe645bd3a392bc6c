/- PlanShares: what its loops count. -/
import Derived.Test.YtlblpjookbomjaaOj

namespace Go.Proofs.Ytlblpjookbomjaa

open Go.RowKit



/-- Block A has the numbers f 0, f 1, .. -/
def AtF (w : World) (A n : Nat) (f : Nat → Nat) : Prop := ∀ j, j < n → w.cell? ⟨A, j, none⟩ = some (.int .i64 (f j)) ∧ w.frozen? ⟨A, j, none⟩ = false
theorem AtF.below {w w' : World} {A n B : Nat} {f : Nat → Nat} (h : AtF w A n f) (hb : Below B w w') (hA : A < B) : AtF w' A n f := fun j hj =>
  ⟨by rw [hb.cell (p := ⟨A, j, none⟩) hA]; exact (h j hj).1, by rw [hb.frozen (p := ⟨A, j, none⟩) hA]; exact (h j hj).2⟩
theorem AtF.set {w : World} {A n i : Nat} {f : Nat → Nat} (h : AtF w A n f) (x : Nat) : AtF (w.setCell ⟨A, i, none⟩ (.int .i64 x)) A n (setF f i x) := by
  intro j hj
  obtain ⟨h1, h2⟩ := h j hj
  by_cases e : j = i
  · subst e
    rw [setF_at]
    exact ⟨by simp [go_sem, h1], by simpa [go_sem] using h2⟩
  · rw [setF_ne _ _ e]
    exact ⟨by rw [World.cell?_setCell_other _ _ _ _ (by intro q; cases q; exact e rfl)]; exact h1, by simpa [go_sem] using h2⟩
theorem info_int : (Try.prog.info? 3).map (fun i => (i.zero, i.size, i.bytes)) = some (some (.int .i64 0), 1, 8) := by kernel_rfl
theorem make_at {p : Pn} (hp : p.is = true) : ∀ wx : World, (Instr.makeSlice 39 (.int .i64 p.S) (.int .i64 p.S)).run Try.prog wx = .ok (.slice (some ⟨wx.heap.size, 0, none⟩) p.S.toNat p.S.toNat) (wx.alloc (.cells (madeCells #[.int .i64 0] (p.S.toNat * 1)) 3)) := fun wx => by
  obtain ⟨_, ⟨s1, s2⟩, _⟩ := Pn.is_num hp
  obtain ⟨i0, hi0, hz0, hz1, hz2⟩ := info_partsQ info_int
  have := run_make (P := Try.prog) wx 39 3 i0 (.int .i64 0) Try.underlying39 hi0 hz0 .i64 .i64 p.S p.S (by omega) (Int.le_refl _) (by rw [hz2]; omega) (by omega)
  rw [hz1] at this
  exact this
theorem frozen_row {w : World} {g j e : Nat} {cur : Array Value} (hg : w.heap[g]? = some (.cells cur e (0, 0))) : w.frozen? ⟨g, j, none⟩ = false := by simp [World.frozen?, hg]
theorem made_at (w : World) {q : Nat} : AtF (w.alloc (.cells (madeCells #[.int .i64 0] (q * 1)) 3)) w.heap.size q (fun _ => 0) := by
  have hg : (w.alloc (.cells (madeCells #[.int .i64 0] (q * 1)) 3)).heap[w.heap.size]? = some (.cells (madeCells #[.int .i64 0] (q * 1)) 3 (0, 0)) := heap_alloc_new w _
  intro j hj
  refine ⟨?_, frozen_row hg⟩
  rw [cell_of_row _ _ _ _ _ (0, 0) hg]
  simp [madeCells, hj, Nat.mod_one]
theorem deal_split (p : Pn) (t : List Pr) {i K : Nat} (hi : i < t.length) (hK : K = p.place t[i].k) : dealF p t K = dealF p (t.take i) K ++ t[i] :: dealF p (t.drop (i + 1)) K := by
  have e : dealF p (t.take i ++ t.drop i) K = dealF p (t.take i) K ++ dealF p (t.drop i) K := List.filter_append _ _
  rw [List.take_append_drop] at e
  rw [e, List.drop_eq_getElem_cons hi]
  have h : dealF p (t[i] :: t.drop (i + 1)) K = t[i] :: dealF p (t.drop (i + 1)) K := by
    unfold dealF
    rw [List.filter_cons, if_pos (by simp [hK])]
  rw [h]
theorem deal_at {p : Pn} {t : List Pr} {i A : Nat} (hi : i < t.length) (hA : A = p.place t[i].k) : ∃ h : (dealF p (t.take i) A).length < (dealF p t A).length, (dealF p t A)[(dealF p (t.take i) A).length] = t[i] := by
  have e := deal_split p t hi hA
  refine ⟨by rw [e]; simp, ?_⟩
  simp [e]


/-- What node a - 2 is. -/
def kd (W S a : Nat) : Nat := if a < 2 ∨ 3 + W + S ≤ a then 0 else if a < 3 then 1 else if a < 3 + W then 2 else 3
def cntK (W S m : Nat) (j : Nat) : Nat := ((List.range m).filter fun a => kd W S a == j).length
theorem kd_lt (W S a : Nat) : kd W S a < 4 := by unfold kd; repeat' split
                                                 all_goals omega
theorem kind_kd {p : Pn} (hp : p.is = true) (a : Nat) : p.kind ((a : Int) - 2) = kd p.W.toNat p.S.toNat a := by
  obtain ⟨_, ⟨s1, s2⟩, ⟨w1, w2⟩, _⟩ := Pn.is_num hp
  have hn : p.nodes = 1 + p.W + p.S := by unfold Pn.nodes; rw [hp]; rfl
  unfold Pn.kind kd
  rw [hn]
  repeat' split
  all_goals omega
theorem cnt_step (W S m : Nat) : cntK W S (m + 1) = setF (cntK W S m) (kd W S m) (cntK W S m (kd W S m) + 1) := by
  funext j
  unfold cntK
  rw [List.range_succ, List.filter_append, List.length_append]
  by_cases h : j = kd W S m
  · subst h
    rw [setF_at]
    simp
  · rw [setF_ne _ _ h]
    have : (kd W S m == j) = false := by simpa using fun e => h e.symm
    simp [this]
theorem cnt_all : ∀ W, W < 5 → ∀ S, S < 5 → 1 ≤ W → 1 ≤ S → cntK W S 14 1 = 1 ∧ cntK W S 14 2 = W ∧ cntK W S 14 3 = S := by decide
theorem cnt_le (W S m j : Nat) : cntK W S m j ≤ m := by
  unfold cntK
  have := List.length_filter_le (fun a => kd W S a == j) (List.range m)
  simpa using this
theorem store_is {p : Pn} (hp : p.is = true) (k : Nat) : p.store k = 1 + p.W + (p.place k : Int) := by unfold Pn.store; rw [hp]; rfl
theorem kind_store {p : Pn} (hp : p.is = true) (k : Nat) : p.kind (p.store k) = 3 := by
  obtain ⟨_, ⟨s1, s2⟩, ⟨w1, w2⟩, _⟩ := Pn.is_num hp
  have hn : p.nodes = 1 + p.W + p.S := by unfold Pn.nodes; rw [hp]; rfl
  have := (place_lt k hp).2
  rw [store_is hp]
  unfold Pn.kind
  rw [hn, if_neg (by omega), if_neg (by omega), if_neg (by omega)]
theorem kind_worker {p : Pn} (hp : p.is = true) {a : Int} (ha : 1 ≤ a) : p.kind (p.worker a) = 2 := by
  obtain ⟨_, ⟨s1, s2⟩, ⟨w1, w2⟩, _⟩ := Pn.is_num hp
  have hn : p.nodes = 1 + p.W + p.S := by unfold Pn.nodes; rw [hp]; rfl
  have hw : p.worker a = 1 + a % p.W := by unfold Pn.worker; rw [hp, decide_eq_true ha]; rfl
  have h1 : 0 ≤ a % p.W := Int.emod_nonneg _ (by omega)
  have h2 : a % p.W < p.W := Int.emod_lt_of_pos _ (by omega)
  rw [hw]
  unfold Pn.kind
  rw [hn, if_neg (by omega), if_neg (by omega), if_pos (by omega)]
end Go.Proofs.Ytlblpjookbomjaa


