/- A slice of slices of bytes among the arguments, opened; and how much it holds under the second form's bound. -/
import Derived.Test.YtiglkmdeokmnhabWz
import Derived.Test.YtiglkmdeokmnhabWj
import Derived.Test.YtiglkmdeokmnhabWu
namespace Go.Proofs.Ytiglkmdeokmnhab
open Go.ChangeShapes Go.WideShapes Go.ChangeAt Go.RowKit

theorem cells_bytes : Try.prog.cellsOf 25 = 1 := by kernel_rfl

/-- A datum of a slice of bytes and its list. -/
def FitB {H : Type} (d : DataW H) (l : List Nat) : Prop := (d = .nil ∧ l = []) ∨ ∃ elems spare, d = .slice elems spare ∧ elems.length = l.length

theorem fit_bulk {H : Type} {d : DataW H} {l : List Nat} (h : FitB d l) : l.length + 1 ≤ Rows.uptoBulk d := by
  rcases h with ⟨rfl, rfl⟩ | ⟨el, sp, rfl, h⟩
  · have := bulk_one (DataW.nil (H := H)); simpa using this
  · have h1 := bulk_slice el sp
    have h2 := bulk_len el
    omega

theorem fit_bulks {H : Type} (idx : List Nat) (D : Nat → DataW H) (L : Nat → List Nat) (h : ∀ i ∈ idx, FitB (D i) (L i)) : (idx.map L).flatten.length + idx.length ≤ Rows.uptoBulkAll (idx.map D) := by
  induction idx with
  | nil => simp [Rows.uptoBulkAll]
  | cons i idx ih =>
    have h1 := fit_bulk (h i (by simp))
    have h2 := ih (fun j hj => h j (by simp [hj]))
    simp only [List.map_cons, List.flatten_cons, List.length_append, List.length_cons, Rows.uptoBulkAll]
    omega

/-- A slice of slices of bytes among the arguments, opened. -/
theorem open_pv {H : Type} {enc : TypeId × Value → H} {W : World} {v : Value} {d : DataW H} {p : List MemPlace} {base : Nat}
    (hv : Value.okWide Try.prog W .any base 22 v) (h : DataW.Trod enc Try.prog W 0 (fun _ => true) true 22 v d p) :
    ∃ ls : List (List Nat), Pv W v ls ∧ (ls = [] ∨ ls.flatten.length + ls.length ≤ Rows.uptoBulk d) := by
  obtain ⟨ao, len0, cap0, rfl⟩ := okWide_slice Try.underlying22 hv
  obtain ⟨fuel, hf⟩ := h
  rcases Go.Deep.open_slice1 (cs := [.slice ao len0 cap0]) Try.underlying22 cells_bytes hf with ⟨hcs, hx⟩ | ⟨a, len, cap, m, n, V, D, Pl, hcs, _, hl, hm, hmm, hx, hel⟩
  · simp only [List.cons.injEq, and_true, Value.slice.injEq] at hcs
    obtain ⟨rfl, rfl, rfl⟩ := hcs
    exact ⟨[], ⟨none, 0, rfl, Nat.le_refl _, by simp [maxLen], fun _ => rfl, fun i hi => by simp at hi⟩, .inl rfl⟩
  · simp only [List.cons.injEq, and_true, Value.slice.injEq] at hcs
    obtain ⟨rfl, rfl, rfl⟩ := hcs
    simp only [if_true] at hmm
    simp only [Prod.mk.injEq] at hx
    have each : ∀ i, ∃ l : List Nat, i < len0 → W.cell? (a.add i) = some (V i) ∧ Bv W (V i) l ∧ FitB (D i) l := by
      intro i
      by_cases hi : i < len0
      · obtain ⟨h1, h2⟩ := hel i (by omega)
        obtain ⟨l, g1, g2, g3⟩ := open_sv_raw Try.underlying25 Try.underlying5 cells_u8 h2
        obtain ⟨r, g4, g5⟩ := bytes_of g1 g2
        refine ⟨r, fun _ => ⟨h1, g4, ?_⟩⟩
        rcases g3 with ⟨e1, rfl⟩ | ⟨el, sp, e1, e2⟩
        · exact .inl ⟨e1, List.eq_nil_of_length_eq_zero (by simpa using g5)⟩
        · exact .inr ⟨el, sp, e1, by rw [e2, g5]⟩
      · exact ⟨[], fun h => absurd h hi⟩
    obtain ⟨L, hL⟩ : ∃ L : Nat → List Nat, ∀ i, i < len0 → W.cell? (a.add i) = some (V i) ∧ Bv W (V i) (L i) ∧ FitB (D i) (L i) := ⟨fun i => (each i).choose, fun i => (each i).choose_spec⟩
    clear each hel
    refine ⟨(List.range len0).map L, ⟨some a, cap0, by simp, by simpa using hl, hm, by simp, ?_⟩, .inr ?_⟩
    · intro i hi
      simp at hi
      have h0 := (hL 0 (by omega)).1
      obtain ⟨h1, h2, h3⟩ := hL i hi
      obtain ⟨b, off, spot⟩ := a
      have hs1 : spot = none := by simpa [Addr.add] using World.cell?_spot h0
      subst hs1
      refine ⟨b, off, V i, rfl, ?_, ?_⟩
      · rw [WideShapes.add_plain] at h1; exact h1
      · simpa [List.getD, hi] using h2
    · have h1 := fit_bulks (List.range len0) D L (fun i hi => (hL i (List.mem_range.1 hi)).2.2)
      have h2 := bulk_slice ((List.range len0).map D) ((List.range (m - len0)).map fun j => D (len0 + j))
      rw [← hx.1] at h2
      rw [List.length_map]
      omega

theorem small_pv {H : Type} {l : List (DataW H)} {d : DataW H} {ls : List (List Nat)} (hk : Rows.uptoSmall H l = true) (h : d ∈ l) (hz : ls = [] ∨ ls.flatten.length + ls.length ≤ Rows.uptoBulk d) : ls.flatten.length + ls.length ≤ 1048576 := by
  rcases hz with rfl | hz
  · simp
  · exact Nat.le_trans hz (bulk_arg hk h)
end Go.Proofs.Ytiglkmdeokmnhab
