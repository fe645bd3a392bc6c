/- All calls of both sides at a disk or at none (printed by gen_ed.py). -/
import Derived.Test.YtninkhijnicbjaaEb
import Derived.Test.YtninkhijnicbjaaEc
namespace Go.Proofs.Ytninkhijnicbjaa
open Go.RowKit

/-- The value v is the disk o, or none. -/
def DO (T : TypeId) (D : Nat → Prop) (w : World) (v : Value) : Option Dk → Prop
  | none => v = .pointer none
  | some S => Dsk T D w v S
def owI (o : Option Dk) (i : Int) (b : List Nat) : Int := o.elim 2 fun S => writeI S i b
def owS (o : Option Dk) (i : Int) (b : List Nat) : Option Dk := o.map fun S => writeS S i b
def orI (o : Option Dk) (i : Int) : Int := o.elim 2 fun S => refI S i
def orL (o : Option Dk) (i : Int) : List Nat := o.elim [] fun S => readL S i
def orS (o : Option Dk) (i : Int) : Option Dk := o.map fun S => readS S i
def ocS (o : Option Dk) (n : Int) : Option Dk := o.map fun S => cutS S n
def odB (o : Option Dk) : Bool := o.elim false fun S => S.down
def obN (o : Option Dk) : Nat := o.elim 0 fun S => S.bl.length
def orN (o : Option Dk) : Nat := o.elim 0 fun S => S.rd
def owN (o : Option Dk) : Nat := o.elim 0 fun S => S.wr
/-- The counts stay below the greatest int. -/
def Low (o : Option Dk) : Prop := orN o < 9223372036854775807 ∧ owN o < 9223372036854775807

section
variable {D E : Nat → Prop} {T : TypeId} {w w' : World} {v : Value} {o : Option Dk}
theorem DO.ch (h : DO T D w v o) (hc : Ch E w w') (hE : ∀ x, D x → ¬ E x) : DO T D w' v o := by
  cases o with
  | none => exact h
  | some S => exact Dsk.ch h hc hE
theorem DO.below (h : DO T D w v o) (hb : Below w.heap.size w w') : DO T D w' v o := by
  cases o with
  | none => exact h
  | some S => exact Dsk.below h hb
theorem DO.form (h : DO T D w v o) : (o = none ∧ v = .pointer none) ∨ ∃ b, v = .pointer (some ⟨b, 0, none⟩) := by
  cases o with
  | none => exact .inl ⟨rfl, h⟩
  | some S =>
    obtain ⟨sb, _, _, e, _⟩ := h
    exact .inr ⟨sb, e⟩

/-! The program's. -/
theorem zwrite (h : DO T D w v o) (hl : ∀ x, D x → x < w.heap.size) (i : Int) {bv : Value} {b : List Nat} (hb : Bv w bv b) (hlow : Low o) : Calls Try.prog 20 #[v, .int .i64 i, bv] w fun e w' =>
    e = .returned (.int .i64 (owI o i b)) ∧ (∃ D' : Nat → Prop, DO T D' w' v (owS o i b) ∧ (∀ x, D' x → x < w'.heap.size) ∧ ∀ x, D' x → D x ∨ w.heap.size ≤ x) ∧ Ch D w w' := by
  cases o with
  | none =>
    obtain rfl : v = .pointer none := h
    refine (write_nil i bv).mono ?_
    rintro e w1 ⟨rfl, rfl⟩
    exact ⟨rfl, ⟨D, rfl, hl, fun _ hx => .inl hx⟩, Ch.refl _ _⟩
  | some S =>
    refine (write_walk h i hb hlow.2).mono ?_
    rintro e w1 ⟨rfl, ⟨D', h1, h2⟩, h3⟩
    exact ⟨rfl, ⟨D', h1, fun x hx => h1.lt hx, h2⟩, h3⟩
theorem zread (h : DO T D w v o) (i : Int) (hlow : Low o) : Calls Try.prog 21 #[v, .int .i64 i] w fun e w' =>
    ∃ r, e = .returned (.tuple #[r, .int .i64 (orI o i)]) ∧ w'.ownsRow w.heap.size 5 1 r (orL o i).length (cb (orL o i)) ∧ DO T D w' v (orS o i) ∧ Ch D w w' := by
  cases o with
  | none =>
    obtain rfl : v = .pointer none := h
    refine (read_nil i).mono ?_
    rintro e w1 ⟨rfl, rfl⟩
    exact ⟨_, rfl, World.ownsRow_nil _ _ _ _, rfl, Ch.refl _ _⟩
  | some S =>
    refine (read_walk h i hlow.1).mono ?_
    rintro e w1 ⟨r, rfl, h1, h2, h3⟩
    exact ⟨r, rfl, h1, h2, h3⟩
theorem zcut (h : DO T D w v o) {n : Int} (hn : n < 9223372036854775808) : Calls Try.prog 17 #[v, .int .i64 n] w fun e w' => e = .returned (.tuple #[]) ∧ DO T D w' v (ocS o n) ∧ Ch D w w' := by
  cases o with
  | none =>
    obtain rfl : v = .pointer none := h
    refine (cut_nil n).mono ?_
    rintro e w1 ⟨rfl, rfl⟩
    exact ⟨rfl, rfl, Ch.refl _ _⟩
  | some S => exact cut_walk h hn
theorem zoff (h : DO T D w v o) : Calls Try.prog 25 #[v] w fun e w' => e = .returned (.tuple #[]) ∧ DO T D w' v (o.map offS) ∧ Ch D w w' := by
  cases o with
  | none =>
    obtain rfl : v = .pointer none := h
    refine off_nil.mono ?_
    rintro e w1 ⟨rfl, rfl⟩
    exact ⟨rfl, rfl, Ch.refl _ _⟩
  | some S => exact off_walk h
theorem zon (h : DO T D w v o) : Calls Try.prog 23 #[v] w fun e w' => e = .returned (.tuple #[]) ∧ DO T D w' v (o.map onS) ∧ Ch D w w' := by
  cases o with
  | none =>
    obtain rfl : v = .pointer none := h
    refine on_nil.mono ?_
    rintro e w1 ⟨rfl, rfl⟩
    exact ⟨rfl, rfl, Ch.refl _ _⟩
  | some S => exact on_walk h
theorem zdown (h : DO T D w v o) : Calls Try.prog 19 #[v] w fun e w' => e = .returned (.bool (odB o)) ∧ w' = w := by
  cases o with
  | none =>
    obtain rfl : v = .pointer none := h
    exact down_nil
  | some S => exact down_walk h
theorem zblocks (h : DO T D w v o) : Calls Try.prog 24 #[v] w fun e w' => e = .returned (.int .i64 (obN o)) ∧ w' = w := by
  cases o with
  | none =>
    obtain rfl : v = .pointer none := h
    exact blocks_nil
  | some S => exact blocks_walk h
theorem zreads (h : DO T D w v o) : Calls Try.prog 26 #[v] w fun e w' => e = .returned (.int .i64 (orN o)) ∧ w' = w := by
  cases o with
  | none =>
    obtain rfl : v = .pointer none := h
    exact reads_nil
  | some S => exact reads_walk h
theorem zwrites (h : DO T D w v o) : Calls Try.prog 22 #[v] w fun e w' => e = .returned (.int .i64 (owN o)) ∧ w' = w := by
  cases o with
  | none =>
    obtain rfl : v = .pointer none := h
    exact writes_nil
  | some S => exact writes_walk h
theorem zimage (h : DO T D w v o) : Calls Try.prog 15 #[v] w fun e w' => ∃ r, e = .returned r ∧ Pv w' r (o.elim [] fun S => S.bl) ∧ Below w.heap.size w w' := by
  cases o with
  | none =>
    obtain rfl : v = .pointer none := h
    refine image_nil.mono ?_
    rintro e w1 ⟨rfl, rfl⟩
    exact ⟨_, rfl, ⟨none, 0, rfl, Nat.le_refl _, by simp [maxLen], fun _ => rfl, fun i hi => by simp at hi⟩, below_same _⟩
  | some S =>
    refine (image_walk h).mono ?_
    rintro e w1 ⟨g, cap, rfl, h1, _, h2⟩
    exact ⟨_, rfl, h1.pv (Dsk.good h).byt, h2⟩

/-! The reference's. -/
theorem ywrite (h : DO T D w v o) (hl : ∀ x, D x → x < w.heap.size) (i : Int) {bv : Value} {b : List Nat} (hb : Bv w bv b) (hlow : Low o) : Calls Try.prog 29 #[v, .int .i64 i, bv] w fun e w' =>
    e = .returned (.int .i64 (owI o i b)) ∧ (∃ D' : Nat → Prop, DO T D' w' v (owS o i b) ∧ (∀ x, D' x → x < w'.heap.size) ∧ ∀ x, D' x → D x ∨ w.heap.size ≤ x) ∧ Ch D w w' := by
  cases o with
  | none =>
    obtain rfl : v = .pointer none := h
    refine (rwrite_nil i bv).mono ?_
    rintro e w1 ⟨rfl, rfl⟩
    exact ⟨rfl, ⟨D, rfl, hl, fun _ hx => .inl hx⟩, Ch.refl _ _⟩
  | some S =>
    refine (rwrite_walk h i hb hlow.2).mono ?_
    rintro e w1 ⟨rfl, ⟨D', h1, h2⟩, h3⟩
    exact ⟨rfl, ⟨D', h1, fun x hx => h1.lt hx, h2⟩, h3⟩
theorem yread (h : DO T D w v o) (i : Int) (hlow : Low o) : Calls Try.prog 30 #[v, .int .i64 i] w fun e w' =>
    ∃ r, e = .returned (.tuple #[r, .int .i64 (orI o i)]) ∧ w'.ownsRow w.heap.size 5 1 r (orL o i).length (cb (orL o i)) ∧ DO T D w' v (orS o i) ∧ Ch D w w' := by
  cases o with
  | none =>
    obtain rfl : v = .pointer none := h
    refine (rread_nil i).mono ?_
    rintro e w1 ⟨rfl, rfl⟩
    exact ⟨_, rfl, World.ownsRow_nil _ _ _ _, rfl, Ch.refl _ _⟩
  | some S =>
    refine (rread_walk h i hlow.1).mono ?_
    rintro e w1 ⟨r, rfl, h1, h2, h3⟩
    exact ⟨r, rfl, h1, h2, h3⟩
theorem ycut (h : DO T D w v o) {n : Int} (hn : n < 9223372036854775808) : Calls Try.prog 31 #[v, .int .i64 n] w fun e w' => e = .returned (.tuple #[]) ∧ DO T D w' v (ocS o n) ∧ Ch D w w' := by
  cases o with
  | none =>
    obtain rfl : v = .pointer none := h
    refine (rcut_nil n).mono ?_
    rintro e w1 ⟨rfl, rfl⟩
    exact ⟨rfl, rfl, Ch.refl _ _⟩
  | some S => exact rcut_walk h hn
theorem yoff (h : DO T D w v o) : Calls Try.prog 32 #[v] w fun e w' => e = .returned (.tuple #[]) ∧ DO T D w' v (o.map offS) ∧ Ch D w w' := by
  cases o with
  | none =>
    obtain rfl : v = .pointer none := h
    refine roff_nil.mono ?_
    rintro e w1 ⟨rfl, rfl⟩
    exact ⟨rfl, rfl, Ch.refl _ _⟩
  | some S => exact roff_walk h
theorem yon (h : DO T D w v o) : Calls Try.prog 33 #[v] w fun e w' => e = .returned (.tuple #[]) ∧ DO T D w' v (o.map onS) ∧ Ch D w w' := by
  cases o with
  | none =>
    obtain rfl : v = .pointer none := h
    refine ron_nil.mono ?_
    rintro e w1 ⟨rfl, rfl⟩
    exact ⟨rfl, rfl, Ch.refl _ _⟩
  | some S => exact ron_walk h
theorem ydown (h : DO T D w v o) : Calls Try.prog 34 #[v] w fun e w' => e = .returned (.bool (odB o)) ∧ w' = w := by
  cases o with
  | none =>
    obtain rfl : v = .pointer none := h
    exact rdown_nil
  | some S => exact rdown_walk h
theorem yblocks (h : DO T D w v o) : Calls Try.prog 35 #[v] w fun e w' => e = .returned (.int .i64 (obN o)) ∧ w' = w := by
  cases o with
  | none =>
    obtain rfl : v = .pointer none := h
    exact rblocks_nil
  | some S => exact rblocks_walk h
theorem yreads (h : DO T D w v o) : Calls Try.prog 36 #[v] w fun e w' => e = .returned (.int .i64 (orN o)) ∧ w' = w := by
  cases o with
  | none =>
    obtain rfl : v = .pointer none := h
    exact rreads_nil
  | some S => exact rreads_walk h
theorem ywrites (h : DO T D w v o) : Calls Try.prog 37 #[v] w fun e w' => e = .returned (.int .i64 (owN o)) ∧ w' = w := by
  cases o with
  | none =>
    obtain rfl : v = .pointer none := h
    exact rwrites_nil
  | some S => exact rwrites_walk h
theorem yimage (h : DO T D w v o) : Calls Try.prog 16 #[v] w fun e w' => ∃ r, e = .returned r ∧ Pv w' r (o.elim [] fun S => S.bl) ∧ Below w.heap.size w w' := by
  cases o with
  | none =>
    obtain rfl : v = .pointer none := h
    refine rimage_nil.mono ?_
    rintro e w1 ⟨rfl, rfl⟩
    exact ⟨_, rfl, ⟨none, 0, rfl, Nat.le_refl _, by simp [maxLen], fun _ => rfl, fun i hi => by simp at hi⟩, below_same _⟩
  | some S =>
    refine (rimage_walk h).mono ?_
    rintro e w1 ⟨g, cap, rfl, h1, _, h2⟩
    exact ⟨_, rfl, h1.pv (Dsk.good h).byt, h2⟩
end
end Go.Proofs.Ytninkhijnicbjaa
