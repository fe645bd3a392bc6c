/- Steps, records and pipelines as numbers: what a step makes of a record, what becomes of it, what a pipeline does. -/
import Derived.Test.YtjkhegekojflhabW4
import Derived.Test.YtjkhegekojflhabFi
namespace Go.Proofs.Ytjkhegekojflhab
open Ieee

/-- A step's three fields. -/
structure Stp where
  K : Int
  N : Int
  X : Nat

/-- A record's two fields. -/
structure Rcd where
  k : Nat
  x : Nat

def Stp.ok (o : Stp) : Prop := (-9223372036854775808 ≤ o.K ∧ o.K < 9223372036854775808) ∧ (-9223372036854775808 ≤ o.N ∧ o.N < 9223372036854775808) ∧ o.X < 18446744073709551616
def Rcd.ok (r : Rcd) : Prop := r.k < 18446744073709551616 ∧ r.x < 18446744073709551616
def Stp.v (o : Stp) : Value := .agg #[.int .i64 o.K, .int .i64 o.N, .float .f64 o.X]
def Rcd.v (r : Rcd) : Value := .agg #[.int .u64 r.k, .float .f64 r.x]

/-- Is it a step? -/
def isB (o : Stp) : Bool := if o.K = 7 then decide (-2200 ≤ o.N ∧ o.N ≤ 2200) else if o.K = 11 then decide (1 ≤ o.N) else decide (1 ≤ o.K ∧ o.K ≤ 12)
def checkB (l : List Stp) : Bool := decide (l.length ≤ 8) && l.all isB

/-- The other sign. -/
def negW (x : Nat) : Nat := Op.negFloat .f64 x
theorem unary_negW (x : Nat) : Op.unary .neg (.float .f64 x) = pure (.float .f64 (negW x)) := rfl
/-- 1 by x. -/
def invW (x : Nat) : Nat := (Ieee.double.div 4607182418800017408 x).getD 9221120237041090561
/-- Below, nought, above, NaN. -/
def sideN (x : Nat) : Nat := if nanB x then 3 else if key x < 0 then 0 else if key x = 0 then 1 else 2
def perI (n w : Int) : Int := RowKit.wrap64 (n.tdiv w)

/-- What a step that turns the value makes of it. -/
def turnW (o : Stp) (x : Nat) : Nat :=
  if o.K = 4 then negW x else if o.K = 5 then rung x else if o.K = 6 then floorW x else if o.K = 7 then scaleR x o.N else if o.K = 8 then invW x else if o.K = 10 then ofW (perI o.N (wholeI x)) else x

def ltB (x y : Nat) : Bool := FloatKind.f64.format.order x y == some .lt
def gtB (x y : Nat) : Bool := FloatKind.f64.format.order x y == some .gt

/-- What becomes of the record: 1 kept, 2 dropped, 3 trapped. -/
def fateI (o : Stp) (x : Nat) : Int :=
  if o.K = 1 then (if ltB x o.X then 1 else 2) else if o.K = 2 then (if gtB x o.X then 1 else 2) else if o.K = 3 then (if nanB x then 2 else 1)
  else if o.K = 9 then (if 9218868437227405312 ≤ rung x then 3 else 1) else if o.K = 10 then (if wholeI x = 0 then 3 else 1) else 1

def nextR (o : Stp) (r : Rcd) : Rcd :=
  if o.K = 11 then ⟨r.k % o.N.toNat, r.x⟩ else if o.K = 12 then ⟨r.k % 4611686018427387904 * 4 + sideN r.x, r.x⟩
  else if o.K = 1 ∨ o.K = 2 ∨ o.K = 3 ∨ o.K = 9 then r else ⟨r.k, canonW (turnW o r.x)⟩

def zeroR : Rcd := ⟨0, 0⟩
def canR (r : Rcd) : Rcd := ⟨r.k, canonW r.x⟩

/-- A list of steps behind one another. -/
def goS : List Stp → Rcd → Int × Rcd
  | [], r => (1, r)
  | o :: l, r => if fateI o r.x = 1 then goS l (nextR o r) else (fateI o r.x, zeroR)
theorem goS_keep {o : Stp} {l : List Stp} {r : Rcd} (h : fateI o r.x = 1) : goS (o :: l) r = goS l (nextR o r) := if_pos h
theorem goS_stop {o : Stp} {l : List Stp} {r : Rcd} (h : ¬ fateI o r.x = 1) : goS (o :: l) r = (fateI o r.x, zeroR) := if_neg h
def runS (l : List Stp) (r : Rcd) : Int × Rcd := if checkB l then goS l (canR r) else (0, zeroR)
def oneS (o : Stp) (r : Rcd) : Int × Rcd := runS [o] r

theorem canon_canon (x : Nat) : canonW (canonW x) = canonW x := by
  cases h : nanB x
  · have : canonW x = x := by unfold canonW; rw [h]; rfl
    rw [this, this]
  · have : canonW x = 9221120237041090561 := by unfold canonW; rw [h]; rfl
    rw [this]; decide
theorem canon_num {x : Nat} (h : nanB x = false) : canonW x = x := by unfold canonW; rw [h]; rfl
theorem canon_nan {x : Nat} (h : nanB x = true) : canonW x = 9221120237041090561 := by unfold canonW; rw [h]; rfl
theorem nan_canon (x : Nat) : nanB (canonW x) = nanB x := by
  cases h : nanB x
  · rw [canon_num h, h]
  · rw [canon_nan h]; decide

theorem negW_eq (x : Nat) : negW x = x ^^^ 9223372036854775808 := rfl
theorem xor63_lo {y : Nat} (hy : y < 2 ^ 63) : y ^^^ 2 ^ 63 = 2 ^ 63 + y := by
  have e : 2 ^ 63 + y = 2 ^ 63 ||| y := by
    have := Nat.two_pow_add_eq_or_of_lt hy 1
    rwa [Nat.mul_one] at this
  rw [e]
  apply Nat.eq_of_testBit_eq
  intro i
  rw [Nat.testBit_xor, Nat.testBit_or, Nat.testBit_two_pow]
  by_cases hi : 63 = i
  · subst hi
    rw [Nat.testBit_lt_two_pow hy]; rfl
  · rw [decide_eq_false hi]; simp
theorem negW_cases {x : Nat} (hx : x < 18446744073709551616) : negW x = if negB x then x - 9223372036854775808 else x + 9223372036854775808 := by
  rw [negW_eq, show (9223372036854775808 : Nat) = 2 ^ 63 from rfl]
  cases h : negB x
  · have h' := neg_f h
    rw [xor63_lo h']
    simp; omega
  · have h' := neg_t h
    obtain ⟨y, hyx⟩ : ∃ y, x = 2 ^ 63 + y := ⟨x - 9223372036854775808, by omega⟩
    have hy' : y < 2 ^ 63 := by omega
    subst hyx
    rw [← xor63_lo hy', Nat.xor_assoc, Nat.xor_self, Nat.xor_zero, xor63_lo hy']
    simp
theorem negW_lt {x : Nat} (hx : x < 18446744073709551616) : negW x < 18446744073709551616 := by
  rw [negW_cases hx]; cases h : negB x
  · have := neg_f h; simp; omega
  · simp; omega
theorem rung_negW {x : Nat} (hx : x < 18446744073709551616) : rung (negW x) = rung x := by
  rw [negW_cases hx]; unfold rung; cases h : negB x
  · have := neg_f h; simp
  · have := neg_t h; simp; omega
theorem nan_negW {x : Nat} (hx : x < 18446744073709551616) : nanB (negW x) = nanB x := by unfold nanB; rw [rung_negW hx]
theorem neg_negW {x : Nat} (hx : x < 18446744073709551616) : negB (negW x) = !negB x := by
  rw [negW_cases hx]; cases h : negB x
  · have := neg_f h; simp only [Bool.false_eq_true, if_false, negB]; simp
  · have := neg_t h; simp only [if_true, negB]; simp; omega
theorem negW_negW (x : Nat) : negW (negW x) = x := by
  rw [negW_eq, negW_eq, Nat.xor_assoc, Nat.xor_self, Nat.xor_zero]

theorem scaleR_lt {x : Nat} (n : Int) (hx : x < 18446744073709551616) : scaleR x n < 18446744073709551616 := by
  rw [← ldW_canon]; exact canon_lt (ldW_lt hx)

theorem read_one : Ieee.double.read 4607182418800017408 = .number false 4503599627370496 (-52) := by decide

theorem inv_nan {x : Nat} (hx : x < 18446744073709551616) (h : nanB x = true) : Ieee.double.div 4607182418800017408 x = none := by
  unfold Format.div
  rw [read_one, read_nan hx (nan_t h)]; rfl
theorem inv_inf {x : Nat} (hx : x < 18446744073709551616) (h : rung x = 9218868437227405312) : Ieee.double.div 4607182418800017408 x = some (Ieee.double.word (negB x) 0) := by
  unfold Format.div
  rw [read_one, read_inf hx h]
  show some (Ieee.double.nearest (false ^^ negB x) 0 0) = _
  rw [nearest_zero, Bool.false_xor]
theorem inv_zero {x : Nat} (hx : x < 18446744073709551616) (h : rung x = 0) : Ieee.double.div 4607182418800017408 x = some (Ieee.double.word (negB x) 9218868437227405312) := by
  unfold Format.div
  rw [read_one, read_num hx (by omega), h, show mag 0 = 0 from rfl]
  unfold Datum.quotient
  simp only [if_pos, Bool.false_xor]
  rw [if_neg (by omega)]
  simp only [Option.map_some]
  show some (Ieee.double.word (negB x) Ieee.double.infRung) = _
  rw [ir]
theorem inv_some {x : Nat} (hx : x < 18446744073709551616) (h : nanB x = false) :
    ∃ r, Ieee.double.div 4607182418800017408 x = some r ∧ nanB r = false ∧ r < 18446744073709551616 ∧ negB r = negB x := by
  have hr := nan_f h
  by_cases h1 : rung x = 9218868437227405312
  · refine ⟨_, inv_inf hx h1, ?_, word_lt64 _ (by omega), neg_word _ (by omega)⟩
    unfold nanB; rw [rung_word _ (by omega)]; rfl
  by_cases h0 : rung x = 0
  · refine ⟨_, inv_zero hx h0, ?_, word_lt64 _ (by omega), neg_word _ (by omega)⟩
    unfold nanB; rw [rung_word _ (by omega)]; rfl
  · have hm := mag_ne h0
    unfold Format.div
    rw [read_one, read_num hx (by omega)]
    unfold Datum.quotient
    simp only
    rw [if_neg hm, Bool.false_xor]
    exact ⟨_, rfl, nearest_nan _ _ _, nearest_lt64 _ _ _, nearest_neg _ _ _⟩
theorem invW_num {x r : Nat} (h : Ieee.double.div 4607182418800017408 x = some r) : invW x = r := by unfold invW; rw [h]; rfl
theorem invW_nan {x : Nat} (h : Ieee.double.div 4607182418800017408 x = none) : invW x = 9221120237041090561 := by unfold invW; rw [h]; rfl

theorem side_lt (x : Nat) : sideN x < 4 := by unfold sideN; split <;> (try split) <;> (try split) <;> omega
theorem turnW_lt (o : Stp) {x : Nat} (hx : x < 18446744073709551616) : canonW (turnW o x) < 18446744073709551616 := by
  apply canon_lt
  unfold turnW
  split
  · exact negW_lt hx
  split
  · have := rung_lt x; omega
  split
  · cases h : nanB x
    · exact (floorW_nan hx h).2
    · unfold floorW; rw [h]; simp
  split
  · exact scaleR_lt _ hx
  split
  · cases h : nanB x
    · obtain ⟨r, e1, _, e3, _⟩ := inv_some hx h
      rw [invW_num e1]; exact e3
    · rw [invW_nan (inv_nan hx h)]; omega
  split
  · exact of_lt _
  · exact hx
theorem nextR_ok {o : Stp} {r : Rcd} (hr : r.ok) : (nextR o r).ok := by
  obtain ⟨h1, h2⟩ := hr
  unfold nextR
  split
  · exact ⟨Nat.lt_of_le_of_lt (Nat.mod_le _ _) h1, h2⟩
  split
  · refine ⟨?_, h2⟩
    have := side_lt r.x
    have := Nat.mod_lt r.k (show 4611686018427387904 > 0 by omega)
    simp only; omega
  split
  · exact ⟨h1, h2⟩
  · exact ⟨h1, turnW_lt o h2⟩
theorem nextR_can {o : Stp} {r : Rcd} (h : canonW r.x = r.x) : canonW (nextR o r).x = (nextR o r).x := by
  unfold nextR
  split
  · exact h
  split
  · exact h
  split
  · exact h
  · exact canon_canon _
theorem canR_ok {r : Rcd} (hr : r.ok) : (canR r).ok := ⟨hr.1, canon_lt hr.2⟩
theorem zeroR_ok : zeroR.ok := ⟨by decide, by decide⟩
theorem goS_ok (l : List Stp) : ∀ {r : Rcd}, r.ok → (goS l r).2.ok := by
  induction l with
  | nil => intro r h; exact h
  | cons o l ih =>
    intro r h
    simp only [goS]
    split
    · exact ih (nextR_ok h)
    · exact zeroR_ok
theorem runS_ok (l : List Stp) {r : Rcd} (h : r.ok) : (runS l r).2.ok := by
  unfold runS; split
  · exact goS_ok l (canR_ok h)
  · exact zeroR_ok
theorem goS_can (l : List Stp) : ∀ {r : Rcd}, canonW r.x = r.x → canonW (goS l r).2.x = (goS l r).2.x := by
  induction l with
  | nil => intro r h; exact h
  | cons o l ih =>
    intro r h
    by_cases hf : fateI o r.x = 1
    · rw [goS_keep hf]; exact ih (nextR_can h)
    · rw [goS_stop hf]; show canonW 0 = 0; decide
theorem goS_append (l m : List Stp) : ∀ (r : Rcd), goS (l ++ m) r = if (goS l r).1 = 1 then goS m (goS l r).2 else goS l r := by
  induction l with
  | nil => intro r; simp [goS]
  | cons o l ih =>
    intro r
    by_cases h : fateI o r.x = 1
    · rw [List.cons_append, goS_keep h, goS_keep h, ih]
    · rw [List.cons_append, goS_stop h, goS_stop h, if_neg h]
theorem canR_can {r : Rcd} (h : canonW r.x = r.x) : canR r = r := by unfold canR; rw [h]
end Go.Proofs.Ytjkhegekojflhab
