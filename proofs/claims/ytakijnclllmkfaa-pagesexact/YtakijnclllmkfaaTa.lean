/- A book or none, the program's and the reference's: all calls at either. -/
import Derived.Test.YtakijnclllmkfaaSg
namespace Go.Proofs.Ytakijnclllmkfaa
open Go.RowKit

/-- The value v is a book, as o says, on the disk dv that is S; or there is none, and the disk alone is there. All of it is of A. -/
def BO (F : Value → Value → Bo → Array Value) (TB TD : TypeId) (A : Nat → Prop) (w : World) (v dv : Value) (o : Option Bo) (S : Dk) : Prop :=
  (∃ P, o = some P ∧ Bk F TB TD A w v dv P S) ∨ (o = none ∧ v = .pointer none ∧ (∃ D, Dsk TD D w dv S ∧ ∀ x, D x → A x) ∧ ∀ x, A x → x < w.heap.size)
section
variable {F : Value → Value → Bo → Array Value} {TB TD : TypeId} {A E : Nat → Prop} {w w' : World} {v dv : Value} {o : Option Bo} {S : Dk}
theorem BO.lt (h : BO F TB TD A w v dv o S) {x : Nat} (hx : A x) : x < w.heap.size := by
  rcases h with ⟨P, _, h⟩ | ⟨_, _, _, h⟩
  · exact h.lt hx
  · exact h x hx
theorem BO.keep (h : BO F TB TD A w v dv o S) (hk : ∀ x, A x → w'.heap[x]? = w.heap[x]?) (hs : w.heap.size ≤ w'.heap.size) : BO F TB TD A w' v dv o S := by
  rcases h with ⟨P, e, h⟩ | ⟨e, e2, ⟨D, hD, hx⟩, hl⟩
  · exact .inl ⟨P, e, h.keep hk hs⟩
  · exact .inr ⟨e, e2, ⟨D, hD.keep (fun x h => hk x (hx x h)) hs, hx⟩, fun x h => Nat.lt_of_lt_of_le (hl x h) hs⟩
theorem BO.below (h : BO F TB TD A w v dv o S) (hb : Below w.heap.size w w') : BO F TB TD A w' v dv o S := h.keep (fun x hx => hb.block x (h.lt hx)) hb.size
theorem BO.ch (h : BO F TB TD A w v dv o S) (hc : Ch E w w') (hE : ∀ x, A x → ¬ E x) : BO F TB TD A w' v dv o S := h.keep (fun x hx => hc.block x (h.lt hx) (hE x hx)) hc.size
/-- Its disk, and the book behind a call of the disk. -/
theorem BO.disk (h : BO F TB TD A w v dv o S) : ∃ D, Dsk TD D w dv S ∧ (∀ x, D x → A x) ∧ ∀ D' w' S', Dsk TD D' w' dv S' → (∀ x, D' x → D x ∨ w.heap.size ≤ x) → Ch D w w' → S'.bl.length = S.bl.length → BO F TB TD (fun x => A x ∨ D' x) w' v dv o S' := by
  rcases h with ⟨P, e, h⟩ | ⟨e, e2, ⟨D, hD, hx⟩, hl⟩
  · obtain ⟨D, h1, h2, h3⟩ := h.disk
    exact ⟨D, h1, h2, fun D' w' S' a b c d => .inl ⟨P, e, h3 D' w' S' a b c d⟩⟩
  · refine ⟨D, hD, hx, fun D' w' S' a b c d => .inr ⟨e, e2, ⟨D', a, fun x h => .inr h⟩, fun x h => ?_⟩⟩
    rcases h with h | h
    · exact Nat.lt_of_lt_of_le (hl x h) c.size
    · exact a.lt h
theorem BO.form (h : BO F TB TD A w v dv o S) : (o = none ∧ v = .pointer none) ∨ ((∃ P, o = some P) ∧ ∃ pb, v = .pointer (some ⟨pb, 0, none⟩)) := by
  rcases h with ⟨P, e, h⟩ | ⟨e, e2, _⟩
  · exact .inr ⟨⟨P, e⟩, h.form.1⟩
  · exact .inl ⟨e, e2⟩
/-- What Open and Format answer, as a book or none. -/
theorem ob_bo {D : Nat → Prop} {c : Int} {e : Ending} (h : Ob F TB TD D w dv c o S e w') : ∃ v A', e = .returned (.tuple #[v, .int .i64 c]) ∧ BO F TB TD A' w' v dv o S ∧ (∀ x, A' x → D x ∨ w.heap.size ≤ x) ∧ Ch D w w' := by
  obtain ⟨v, he, hno, hso, hC⟩ := h
  cases o with
  | none =>
    obtain ⟨e2, D', hD, hx⟩ := hno rfl
    exact ⟨v, D', he, .inr ⟨rfl, e2, ⟨D', hD, fun x h => h⟩, fun x h => hD.lt h⟩, hx, hC⟩
  | some P =>
    obtain ⟨A', hK, hx⟩ := hso P rfl
    exact ⟨v, A', he, .inl ⟨P, rfl, hK⟩, hx, hC⟩
end

/-- What the calls answer at a book or none. -/
def zI (o : Option Bo) (S : Dk) (p : Int) : Int := match o with | none => 2 | some P => getI P S p
def zL (o : Option Bo) (S : Dk) (p : Int) : List Nat := match o with | none => [] | some P => getL P S p
def zB (o : Option Bo) (S : Dk) : Option Bo := match o with | none => none | some P => some (getB P S)
def zS (o : Option Bo) (S : Dk) (p : Int) : Dk := match o with | none => S | some P => getS P S p
def zU (o : Option Bo) : Nat := match o with | none => 0 | some P => usedN P.tab
def zN (o : Option Bo) : Nat := match o with | none => 0 | some P => P.tab.length
def zE (o : Option Bo) : Bool := match o with | none => false | some P => P.over
def zO (o : Option Bo) (S : Dk) (ps : List (Int × List Nat)) : Int × Option Bo × Dk := match o with | none => (2, none, S) | some P => ((putO P S ps).1, some (putO P S ps).2.1, (putO P S ps).2.2)

def Zg (F : Value → Value → Bo → Array Value) (TB TD : TypeId) (A : Nat → Prop) (w : World) (v dv : Value) (o : Option Bo) (S : Dk) (p : Int) (e : Ending) (w' : World) : Prop :=
  ∃ r, e = .returned (.tuple #[r, .int .i64 (zI o S p)]) ∧ w'.ownsRow w.heap.size 5 1 r (zL o S p).length (cb (zL o S p)) ∧ BO F TB TD A w' v dv (zB o S) (zS o S p) ∧ Ch A w w'
def Zp (F : Value → Value → Bo → Array Value) (TB TD : TypeId) (A : Nat → Prop) (w : World) (v dv : Value) (o : Option Bo) (S : Dk) (ps : List (Int × List Nat)) (e : Ending) (w' : World) : Prop :=
  e = .returned (.int .i64 (zO o S ps).1) ∧ (∃ A', BO F TB TD A' w' v dv (zO o S ps).2.1 (zO o S ps).2.2 ∧ ∀ x, A' x → A x ∨ w.heap.size ≤ x) ∧ Ch A w w'
abbrev OP := BO hdP 77 81
abbrev OQ := BO hdR 87 83

section
variable {A : Nat → Prop} {w : World} {v dv lv : Value} {o : Option Bo} {S : Dk} {ps : List (Int × List Nat)}
theorem zget_nil (p : Int) : Calls Try.prog 18 #[.pointer none, .int .i64 p] w fun e w' => e = .returned (.tuple #[.slice none 0 0, .int .i64 2]) ∧ w' = w := by
  go_enter Try.func18, Try.ntmps18
  go_wp2_with fail
  refine prefuses_nil.mono ?_
  rintro e w9 ⟨rfl, h9⟩
  have h9 := h9.symm
  subst h9
  go_wp2_with fail
  go_ret2
  exact ⟨rfl, rfl⟩
theorem zget_walk (h : OP A w v dv o S) (p : Int) (hrd : S.rd < 9223372036854775807) : Calls Try.prog 18 #[v, .int .i64 p] w fun e w' => Zg hdP 77 81 A w v dv o S p e w' := by
  rcases h with ⟨P, rfl, h⟩ | ⟨rfl, rfl, hD, hl⟩
  · refine (get_walk h p hrd).mono ?_
    rintro e w' ⟨r, a, b, c, d⟩
    exact ⟨r, a, b, .inl ⟨_, rfl, c⟩, d⟩
  · refine (zget_nil p).mono ?_
    rintro e w' ⟨rfl, rfl⟩
    exact ⟨_, rfl, World.ownsRow_nil _ _ _ _, .inr ⟨rfl, rfl, hD, hl⟩, Ch.refl _ _⟩
theorem yget_walk (h : OQ A w v dv o S) (p : Int) (hrd : S.rd < 9223372036854775807) : Calls Try.prog 19 #[v, .int .i64 p] w fun e w' => Zg hdR 87 83 A w v dv o S p e w' := by
  rcases h with ⟨P, rfl, h⟩ | ⟨rfl, rfl, hD, hl⟩
  · refine (rget_walk h p hrd).mono ?_
    rintro e w' ⟨r, a, b, c, d⟩
    exact ⟨r, a, b, .inl ⟨_, rfl, c⟩, d⟩
  · refine (rget_nil p).mono ?_
    rintro e w' ⟨rfl, rfl⟩
    exact ⟨_, rfl, World.ownsRow_nil _ _ _ _, .inr ⟨rfl, rfl, hD, hl⟩, Ch.refl _ _⟩
theorem zput_walk (h : OP A w v dv o S) (hl : Tx A w lv ps) (hwr : S.wr < 4611686018427387904) : Calls Try.prog 16 #[v, lv] w fun e w' => Zp hdP 77 81 A w v dv o S ps e w' := by
  rcases h with ⟨P, rfl, h⟩ | ⟨rfl, rfl, ⟨D, hD, hx⟩, hl⟩
  · refine (put_walk9 h hl hwr).mono ?_
    rintro e w' ⟨a, ⟨A', b, c⟩, d⟩
    exact ⟨a, ⟨A', .inl ⟨_, rfl, b⟩, c⟩, d⟩
  · refine put_nil.mono ?_
    rintro e w' ⟨rfl, hB⟩
    exact ⟨rfl, ⟨A, .inr ⟨rfl, rfl, ⟨D, hD.below hB, hx⟩, fun x h => Nat.lt_of_lt_of_le (hl x h) hB.size⟩, fun x h => .inl h⟩, Ch.of_below hB⟩
theorem yput_walk (h : OQ A w v dv o S) (hl : Tx A w lv ps) (hwr : S.wr < 4611686018427387904) : Calls Try.prog 17 #[v, lv] w fun e w' => Zp hdR 87 83 A w v dv o S ps e w' := by
  rcases h with ⟨P, rfl, h⟩ | ⟨rfl, rfl, hD, hl⟩
  · refine (rput_walk9 h hl hwr).mono ?_
    rintro e w' ⟨a, ⟨A', b, c⟩, d⟩
    exact ⟨a, ⟨A', .inl ⟨_, rfl, b⟩, c⟩, d⟩
  · refine rput_nil9.mono ?_
    rintro e w' ⟨rfl, rfl⟩
    exact ⟨rfl, ⟨A, .inr ⟨rfl, rfl, hD, hl⟩, fun x h => .inl h⟩, Ch.refl _ _⟩
theorem zused_walk (h : OP A w v dv o S) : Calls Try.prog 27 #[v] w fun e w' => e = .returned (.int .i64 (zU o : Nat)) ∧ w' = w := by
  rcases h with ⟨P, rfl, h⟩ | ⟨rfl, rfl, _, _⟩
  · exact used_walk h
  · exact used_nil
theorem yused_walk (h : OQ A w v dv o S) : Calls Try.prog 28 #[v] w fun e w' => e = .returned (.int .i64 (zU o : Nat)) ∧ w' = w := by
  rcases h with ⟨P, rfl, h⟩ | ⟨rfl, rfl, _, _⟩
  · exact rused_walk h
  · exact rused_nil
theorem zpages_walk (h : OP A w v dv o S) : Calls Try.prog 29 #[v] w fun e w' => e = .returned (.int .i64 (zN o : Nat)) ∧ w' = w := by
  rcases h with ⟨P, rfl, h⟩ | ⟨rfl, rfl, _, _⟩
  · exact pages_walk h
  · exact pages_nil
theorem ypages_walk (h : OQ A w v dv o S) : Calls Try.prog 30 #[v] w fun e w' => e = .returned (.int .i64 (zN o : Nat)) ∧ w' = w := by
  rcases h with ⟨P, rfl, h⟩ | ⟨rfl, rfl, _, _⟩
  · exact rpages_walk h
  · exact rpages_nil
theorem zended_walk (h : OP A w v dv o S) : Calls Try.prog 31 #[v] w fun e w' => e = .returned (.bool (zE o)) ∧ w' = w := by
  rcases h with ⟨P, rfl, h⟩ | ⟨rfl, rfl, _, _⟩
  · exact ended_walk h
  · exact ended_nil
theorem yended_walk (h : OQ A w v dv o S) : Calls Try.prog 32 #[v] w fun e w' => e = .returned (.bool (zE o)) ∧ w' = w := by
  rcases h with ⟨P, rfl, h⟩ | ⟨rfl, rfl, _, _⟩
  · exact rended_walk h
  · exact rended_nil
theorem more_tx (hA : ∀ x, A x → x < w.heap.size) : Tx A ((w.alloc (.cells #[.int .u8 109, .int .u8 111, .int .u8 114, .int .u8 101] 5 (4, 5))).alloc (.cells #[.int .i64 0, .slice (some ⟨w.heap.size, 0, none⟩) 4 4] 56)) (.slice (some ⟨w.heap.size + 1, 0, none⟩) 1 1) [(0, [109, 111, 114, 101])] := by
  have h1 : Bv (w.alloc (.cells #[.int .u8 109, .int .u8 111, .int .u8 114, .int .u8 101] 5 (4, 5))) (.slice (some ⟨w.heap.size, 0, none⟩) 4 4) [109, 111, 114, 101] := lit_bv w [109, 111, 114, 101] _ _ (by simp [maxLen]) (by simp)
  have := lit_one (A := A) (p := 0) (h1.bxA (fun e => by have := hA _ e; omega)) (fun x hx => by have := hA x hx; simp; omega) (by omega)
  simp at this
  exact this
end
end Go.Proofs.Ytakijnclllmkfaa
