/- Rows of cells as lists: what they hold in a world, that it stays, cuts of them, appends. -/
import Derived.Test.YtjcmmhonidamoaaBa
import Derived.Test.YtjcmmhonidamoaaWp
import Derived.Lib.Hide
import Derived.Maps.AppendAt
namespace Go.Proofs.Ytjcmmhonidamoaa
open Go.RowKit

/-- The cells behind ao hold the list l, n cells an element. -/
def Gl {α : Type} (w : World) (ao : Option Addr) (n : Nat) (f : α → List Value) (l : List α) : Prop :=
  ∀ i, (h : i < l.length) → ∃ b off, ao = some ⟨b, off, none⟩ ∧ ∀ j, j < n → w.cell? ⟨b, off + (i * n + j), none⟩ = (f l[i])[j]?

/-- The value v is a slice that holds the list l. -/
def Gv {α : Type} (w : World) (v : Value) (n : Nat) (f : α → List Value) (l : List α) : Prop :=
  ∃ ao cap, v = .slice ao l.length cap ∧ l.length ≤ cap ∧ cap ≤ maxLen ∧ (ao = none → cap = 0) ∧ Gl w ao n f l

theorem Gl.below {α : Type} {w w' : World} {ao : Option Addr} {n : Nat} {f : α → List Value} {l : List α} (hf : ∀ a, (f a).length = n) (h : Gl w ao n f l) (hb : Below w.heap.size w w') : Gl w' ao n f l := by
  intro i hi
  obtain ⟨b, off, e, hc⟩ := h i hi
  refine ⟨b, off, e, fun j hj => ?_⟩
  have h1 := hc j hj
  have h2 : (f l[i])[j]? = some ((f l[i])[j]'(by rw [hf]; exact hj)) := List.getElem?_eq_getElem _
  rw [h2] at h1 ⊢
  rw [hb.cell (p := ⟨b, off + (i * n + j), none⟩) (cell_lt h1)]
  exact h1

def clF (c : Cl) : List Value := [.int .u64 c.k, .bool c.p.h, .int .u64 c.p.b, .bool c.c.h, .int .u64 c.c.b, .int .i64 c.n]
def flatC (l : List Cl) : List Value := l.flatMap clF
theorem clF_len (c : Cl) : (clF c).length = 6 := rfl
theorem flatC_len (l : List Cl) : (flatC l).length = l.length * 6 := by
  induction l with
  | nil => rfl
  | cons c r ih => simp only [flatC, List.flatMap_cons, List.length_append, List.length_cons] at ih ⊢; rw [ih, clF_len]; omega
theorem flatC_append (l r : List Cl) : flatC (l ++ r) = flatC l ++ flatC r := by simp [flatC]
theorem flatC_one (c : Cl) : flatC [c] = clF c := by simp [flatC]
theorem flatC_get (l : List Cl) (i j : Nat) (hi : i < l.length) (hj : j < 6) : (flatC l)[i * 6 + j]? = (clF l[i])[j]? := by
  induction l generalizing i with
  | nil => simp at hi
  | cons c r ih =>
    have e : flatC (c :: r) = clF c ++ flatC r := rfl
    rw [e]
    cases i with
    | zero => rw [List.getElem?_append_left (by rw [clF_len]; omega)]; simp
    | succ i =>
      rw [List.getElem?_append_right (by rw [clF_len]; omega), clF_len, show (i + 1) * 6 + j - 6 = i * 6 + j from by omega, ih i (by simpa using hi)]
      simp
theorem flatC_one' {l : List Cl} {u : Value} (h : u ∈ flatC l) : u.oneCell' = true := by
  simp only [flatC, List.mem_flatMap] at h
  obtain ⟨c, _, hu⟩ := h
  simp only [clF, List.mem_cons, List.not_mem_nil, or_false] at hu
  rcases hu with rfl | rfl | rfl | rfl | rfl | rfl <;> rfl

/-- A slice of cells. -/
abbrev Cv (w : World) (v : Value) (l : List Cl) : Prop := Gv w v 6 clF l

theorem Cv.below {w w' : World} {v : Value} {l : List Cl} (h : Cv w v l) (hb : Below w.heap.size w w') : Cv w' v l := by
  obtain ⟨ao, cap, e, h1, h2, h3, h4⟩ := h
  exact ⟨ao, cap, e, h1, h2, h3, h4.below clF_len hb⟩
theorem Cv.form {w : World} {v : Value} {l : List Cl} (h : Cv w v l) : ∃ ao cap, v = .slice ao l.length cap := by
  obtain ⟨ao, cap, e, _⟩ := h; exact ⟨ao, cap, e⟩
theorem Cv.nil (w : World) : Cv w (.slice none 0 0) [] := ⟨none, 0, rfl, by simp, by simp [maxLen], by simp, fun i hi => by simp at hi⟩
theorem Cv.len_le {w : World} {v : Value} {l : List Cl} (h : Cv w v l) : l.length ≤ maxLen := by
  obtain ⟨ao, cap, e, h1, h2, _⟩ := h; omega

/-- A cell of a row. -/
structure CA (w : World) (b o : Nat) (c : Cl) : Prop where
  c0 : w.cell? ⟨b, o, none⟩ = some (.int .u64 c.k)
  c1 : w.cell? ⟨b, o + 1, none⟩ = some (.bool c.p.h)
  c2 : w.cell? ⟨b, o + 2, none⟩ = some (.int .u64 c.p.b)
  c3 : w.cell? ⟨b, o + 3, none⟩ = some (.bool c.c.h)
  c4 : w.cell? ⟨b, o + 4, none⟩ = some (.int .u64 c.c.b)
  c5 : w.cell? ⟨b, o + 5, none⟩ = some (.int .i64 c.n)

theorem CA.below {w w' : World} {b o B : Nat} {c : Cl} (h : CA w b o c) (hb : Below B w w') (hl : b < B) : CA w' b o c :=
  ⟨by rw [hb.cell (p := ⟨b, o, none⟩) hl]; exact h.c0, by rw [hb.cell (p := ⟨b, o + 1, none⟩) hl]; exact h.c1, by rw [hb.cell (p := ⟨b, o + 2, none⟩) hl]; exact h.c2, by rw [hb.cell (p := ⟨b, o + 3, none⟩) hl]; exact h.c3, by rw [hb.cell (p := ⟨b, o + 4, none⟩) hl]; exact h.c4, by rw [hb.cell (p := ⟨b, o + 5, none⟩) hl]; exact h.c5⟩
theorem CA.lt {w : World} {b o : Nat} {c : Cl} (h : CA w b o c) : b < w.heap.size := cell_lt h.c0
theorem CA.keep {w w' : World} {b o : Nat} {c : Cl} (h : CA w b o c) (hb : Below w.heap.size w w') : CA w' b o c := h.below hb h.lt

theorem cv_cases {w : World} {v : Value} {l : List Cl} (h : Cv w v l) :
    (l = [] ∧ ∃ ao cap, v = .slice ao 0 cap) ∨ ∃ b off cap, v = .slice (some ⟨b, off, none⟩) l.length cap ∧ 0 < l.length ∧ l.length ≤ cap ∧ cap ≤ maxLen ∧
      ∀ i, (hi : i < l.length) → CA w b (off + i * 6) l[i] := by
  obtain ⟨ao, cap, rfl, h1, h2, h3, h4⟩ := h
  by_cases h0 : l = []
  · subst h0; exact .inl ⟨rfl, ao, cap, rfl⟩
  · have hp := List.length_pos_iff.2 h0
    obtain ⟨b, off, rfl, _⟩ := h4 0 hp
    refine .inr ⟨b, off, cap, rfl, hp, h1, h2, fun i hi => ?_⟩
    obtain ⟨b', off', e1, e2⟩ := h4 i hi
    cases e1
    exact ⟨by simpa [clF, Nat.add_assoc] using e2 0 (by omega), by simpa [clF, Nat.add_assoc] using e2 1 (by omega), by simpa [clF, Nat.add_assoc] using e2 2 (by omega), by simpa [clF, Nat.add_assoc] using e2 3 (by omega), by simpa [clF, Nat.add_assoc] using e2 4 (by omega), by simpa [clF, Nat.add_assoc] using e2 5 (by omega)⟩
theorem cv_of {w : World} {b off cap : Nat} {l : List Cl} (h1 : l.length ≤ cap) (h2 : cap ≤ maxLen) (h : ∀ i, (hi : i < l.length) → CA w b (off + i * 6) l[i]) : Cv w (.slice (some ⟨b, off, none⟩) l.length cap) l := by
  refine ⟨_, cap, rfl, h1, h2, by simp, fun i hi => ⟨b, off, rfl, fun j hj => ?_⟩⟩
  obtain ⟨c0, c1, c2, c3, c4, c5⟩ := h i hi
  have : j = 0 ∨ j = 1 ∨ j = 2 ∨ j = 3 ∨ j = 4 ∨ j = 5 := by omega
  rcases this with rfl | rfl | rfl | rfl | rfl | rfl
  · simpa [clF, Nat.add_assoc] using c0
  · simpa [clF, Nat.add_assoc] using c1
  · simpa [clF, Nat.add_assoc] using c2
  · simpa [clF, Nat.add_assoc] using c3
  · simpa [clF, Nat.add_assoc] using c4
  · simpa [clF, Nat.add_assoc] using c5
theorem Cv.at {w : World} {b off n cap : Nat} {l : List Cl} (h : Cv w (.slice (some ⟨b, off, none⟩) n cap) l) (i : Nat) (hi : i < l.length) : CA w b (off + i * 6) l[i] := by
  rcases cv_cases h with ⟨rfl, _⟩ | ⟨b', off', cap', e, _, _, _, h4⟩
  · simp at hi
  · cases e; exact h4 i hi

/-- What a row that the call owns holds. -/
theorem own_cv {w : World} {base e n : Nat} {v : Value} {l : List Cl} (h : w.ownsRow base e 6 v n (flatC l)) : Cv w v l ∧ n = l.length := by
  obtain ⟨h1, h2⟩ := h
  rw [flatC_len] at h1
  have hn : n = l.length := by omega
  subst hn
  refine ⟨?_, rfl⟩
  rcases h2 with ⟨rfl, h0⟩ | ⟨g, cap, cur, rfl, hb, hg, hnc, hcm, hcs, htake⟩
  · have : l = [] := List.eq_nil_of_length_eq_zero h0
    subst this
    exact Cv.nil w
  · refine ⟨_, cap, rfl, hnc, hcm, by simp, fun i hi => ⟨g, 0, rfl, fun j hj => ?_⟩⟩
    rw [Nat.zero_add, cell_of_row w g (i * 6 + j) cur e (0, 0) hg, ← flatC_get l i j hi hj, ← htake, List.getElem?_take, if_pos (by omega), Array.getElem?_toList]

theorem cap_cut {cap lo : Nat} {c : Prop} [Decidable c] (hc : c ↔ cap = lo) {ao : Option Addr} (h3 : ao = none → cap = 0) (hn : (if c then ao else ao.map (·.add (lo * 6))) = none) : cap - lo = 0 := by
  by_cases hcc : c
  · have := hc.1 hcc; omega
  · rw [if_neg hcc] at hn
    cases ao with
    | none => have := h3 rfl; omega
    | some p => simp at hn

/-- The cut v[lo:hi] of a slice that holds l. -/
theorem Cv.cut {w : World} {ao : Option Addr} {cap : Nat} {l : List Cl} (h : Cv w (.slice ao l.length cap) l) (lo hi : Nat) (hlh : lo ≤ hi) (hh : hi ≤ l.length) (c : Prop) [Decidable c] (hc : c ↔ cap = lo) :
    Cv w (.slice (if c then ao else ao.map (·.add (lo * 6))) (hi - lo) (cap - lo)) ((l.drop lo).take (hi - lo)) := by
  obtain ⟨ao', cap', e, h1, h2, h3, h4⟩ := h
  simp only [Value.slice.injEq] at e
  obtain ⟨rfl, _, rfl⟩ := e
  refine ⟨if c then ao else ao.map (·.add (lo * 6)), cap - lo, ?_, ?_, by omega, cap_cut hc h3, ?_⟩
  · simp; omega
  · simp; omega
  · intro i hi'
    have hlt : i < hi - lo := by simp at hi'; omega
    obtain ⟨b, off, e, hcell⟩ := h4 (lo + i) (by omega)
    subst e
    refine ⟨b, off + lo * 6, ?_, fun j hj => ?_⟩
    · rw [if_neg (fun hcc => by have := hc.1 hcc; omega)]; simp [WideShapes.add_plain]
    · have := hcell j hj
      rw [show off + lo * 6 + (i * 6 + j) = off + ((lo + i) * 6 + j) from by omega, this]
      simp
/-- The cut v[:hi]. -/
theorem Cv.upto {w : World} {ao : Option Addr} {n cap : Nat} {l : List Cl} (h : Cv w (.slice ao n cap) l) (hi : Nat) (hh : hi ≤ l.length) : Cv w (.slice ao hi cap) (l.take hi) := by
  obtain ⟨ao', cap', e, h1, h2, h3, h4⟩ := h
  simp only [Value.slice.injEq] at e
  obtain ⟨rfl, _, rfl⟩ := e
  refine ⟨ao, cap, by simp; omega, by simp; omega, h2, h3, fun i hi' => ?_⟩
  have hlt : i < hi := by simp at hi'; omega
  obtain ⟨b, off, e, hcell⟩ := h4 i (by omega)
  exact ⟨b, off, e, fun j hj => by rw [hcell j hj]; simp⟩
/-- The cut v[lo:]. -/
theorem Cv.from {w : World} {ao : Option Addr} {cap : Nat} {l : List Cl} (h : Cv w (.slice ao l.length cap) l) (lo : Nat) (hlo : lo ≤ l.length) (hne : ¬ cap = lo) : Cv w (.slice (ao.map (·.add (lo * 6))) (l.length - lo) (cap - lo)) (l.drop lo) := by
  have := h.cut lo l.length hlo (Nat.le_refl _) False (by simp [hne])
  rw [List.take_of_length_le (by rw [List.length_drop]; omega)] at this
  simpa using this
theorem Cv.void {w : World} {ao : Option Addr} {l : List Cl} {lo : Nat} (h : l.length ≤ lo) : Cv w (.slice ao 0 0) (l.drop lo) := by
  rw [List.drop_eq_nil_of_le h]
  exact ⟨ao, 0, rfl, by simp, by simp [maxLen], by simp, fun i hi => by simp at hi⟩

theorem info_cell : (Try.prog.info? 37).map (fun i => (i.zero, i.size, i.bytes)) = some (some (.agg #[.int .u64 0, .bool false, .int .u64 0, .bool false, .int .u64 0, .int .i64 0]), 6, 48) := by kernel_rfl

theorem info_partsV {P : Program} {e : TypeId} {z : Option Value} {s b : Nat} (h : (P.info? e).map (fun i => (i.zero, i.size, i.bytes)) = some (z, s, b)) : ∃ i, P.info? e = some i ∧ i.zero = z ∧ i.size = s ∧ i.bytes = b := by
  cases hi : P.info? e with
  | none => rw [hi] at h; cases h
  | some i =>
    rw [hi] at h
    simp at h
    exact ⟨i, rfl, h.1, h.2.1, h.2.2⟩

theorem cells_at {w : World} {b off : Nat} {l : List Cl} (h : ∀ i, (hi : i < l.length) → ∀ j, j < 6 → w.cell? ⟨b, off + (i * 6 + j), none⟩ = (clF l[i])[j]?) (j : Nat) (u : Value) (hj : (flatC l)[j]? = some u) : w.cell? ((⟨b, off, none⟩ : Addr).add j) = some u := by
  have hl : j < l.length * 6 := by
    rcases Nat.lt_or_ge j (flatC l).length with h | h
    · rwa [flatC_len] at h
    · rw [List.getElem?_eq_none h] at hj; cases hj
  have e : j = j / 6 * 6 + j % 6 := by omega
  have hi : j / 6 < l.length := by omega
  rw [WideShapes.add_plain]
  show w.cell? ⟨b, off + j, none⟩ = some u
  rw [e, h _ hi _ (by omega), ← flatC_get l _ _ hi (by omega), ← e, hj]

/-- APPEND of a slice of cells onto a row of the call's own. -/
theorem wpList_append_cv {w : World} {ops : Array Oper} {rest : List Oper} {o : Oper} {a : Act} {Q : Exit → Act → World → Prop} (hgd : o.guard = none) (s x : Operand)
    (ho : o.op = .call { callee := .builtin .append, args := #[s, x], argTypes := #[22, 22] })
    (base : Nat) (v : Value) (n : Nat) (xs : List Value) (hs : a.eval s = v) (hown : w.ownsRow base 37 6 v n xs)
    (y : Value) (l : List Cl) (hx : a.eval x = y) (hy : Cv w y l)
    (h63 : n + l.length ≤ maxLen) (hbytes : (n + l.length) * 48 ≤ 140737488355328) (hbase : base ≤ w.heap.size)
    (h : ∀ v' w', w'.ownsRow base 37 6 v' (n + l.length) (xs ++ flatC l) → w.grownBy w' v.ownBlock → wpList Try.prog ops Q rest (a.put o.dst v') w') : wpList Try.prog ops Q (o :: rest) a w := by
  obtain ⟨i0, hi, hz0, hz1, hz2⟩ := info_partsV info_cell
  obtain ⟨ao, cap, rfl, hc1, hc2, hnone, hcells⟩ := hy
  cases ao with
  | none =>
    obtain rfl := hnone rfl
    have hl0 : l.length = 0 := by omega
    have hl : l = [] := List.eq_nil_of_length_eq_zero hl0
    subst hl
    refine wpList_append_own_none hgd s x 22 ho base 37 i0 6 Try.underlying22 hi v n xs hs hown hx ?_
    exact h v w (by simpa [flatC] using hown) ⟨rfl, rfl, rfl, Nat.le_refl _, fun _ _ _ => rfl⟩
  | some p =>
    refine wpList_append_own w hgd s x 22 ho base 37 i0 (.agg #[.int .u64 0, .bool false, .int .u64 0, .bool false, .int .u64 0, .int .i64 0]) 6 48 Try.underlying22 hi hz0 hz1 hz2 rfl (by decide) v n xs hs hown p l.length cap (flatC l) hx (flatC_len l) ?_ (fun u hu => flatC_one' hu) h63 hbytes hbase
      (fun v' w' h1 h2 _ => h v' w' h1 h2)
    by_cases h0 : l = []
    · subst h0; intro j u hj; simp [flatC] at hj
    · obtain ⟨b, off, e, _⟩ := hcells 0 (List.length_pos_iff.2 h0)
      cases e
      exact fun j u hj => cells_at (fun i hi j hj => by obtain ⟨b', off', e1, e2⟩ := hcells i hi; cases e1; exact e2 j hj) j u hj

theorem grown_belowC {B : Nat} {w w' : World} {v : Value} {e n s : Nat} {xs : List Value} (hown : w.ownsRow B e s v n xs) (hg : w.grownBy w' v.ownBlock) (hB : B ≤ w.heap.size) : Below B w w' :=
  (Below.refl B w).grown hg hB (fun k hk => (hown.lt k hk).1)

/-- A cell's block. -/
structure CB (w : World) (b : Nat) (c : Cl) : Prop where
  c0 : w.cell? ⟨b, 0, none⟩ = some (.int .u64 c.k)
  c1 : w.cell? ⟨b, 1, none⟩ = some (.bool c.p.h)
  c2 : w.cell? ⟨b, 2, none⟩ = some (.int .u64 c.p.b)
  c3 : w.cell? ⟨b, 3, none⟩ = some (.bool c.c.h)
  c4 : w.cell? ⟨b, 4, none⟩ = some (.int .u64 c.c.b)
  c5 : w.cell? ⟨b, 5, none⟩ = some (.int .i64 c.n)
  z : ∀ j, w.frozen? ⟨b, j, none⟩ = false

theorem CB.below {w w' : World} {b B : Nat} {c : Cl} (h : CB w b c) (hb : Below B w w') (hl : b < B) : CB w' b c :=
  ⟨by rw [hb.cell (p := ⟨b, 0, none⟩) hl]; exact h.c0, by rw [hb.cell (p := ⟨b, 1, none⟩) hl]; exact h.c1, by rw [hb.cell (p := ⟨b, 2, none⟩) hl]; exact h.c2, by rw [hb.cell (p := ⟨b, 3, none⟩) hl]; exact h.c3, by rw [hb.cell (p := ⟨b, 4, none⟩) hl]; exact h.c4, by rw [hb.cell (p := ⟨b, 5, none⟩) hl]; exact h.c5, fun j => by rw [hb.frozen (p := ⟨b, j, none⟩) hl]; exact h.z j⟩
theorem CB.keep {w w' : World} {b : Nat} {c : Cl} (h : CB w b c) (hb : Below w.heap.size w w') : CB w' b c := h.below hb (cell_lt h.c0)
theorem cb_new (w : World) (c : Cl) : CB (w.alloc (Obj.cells #[.int .u64 c.k, .bool c.p.h, .int .u64 c.p.b, .bool c.c.h, .int .u64 c.c.b, .int .i64 c.n] 37)) w.heap.size c := by
  constructor <;> simp [go_sem]
theorem below_two (w : World) (o p : Obj) : Below w.heap.size w ((w.alloc o).alloc p) := below_trans (below_alloc _ _) (below_alloc _ _)
end Go.Proofs.Ytjcmmhonidamoaa
