/- Floats' digits; steps, plans, lines: what a script's reading and its writing come to. -/
import Derived.Test.YtkiplcmndpdifaaGreatDoorSa

namespace Go.Proofs.YtkiplcmndpdifaaGreatDoor

open Go.RowKit



def hexd (n : Nat) : UInt8 := if n < 10 then UInt8.ofNat (48 + n) else UInt8.ofNat (87 + n)


/-- The last m hexadecimal digits of u. -/
def hexRow (u : Nat) : Nat → List UInt8
  | 0 => []
  | i + 1 => hexd (u / 16 ^ i % 16) :: hexRow u i


theorem hexRow_length (u m : Nat) : (hexRow u m).length = m := by
  induction m with
  | zero => rfl
  | succ m ih => simp [hexRow, ih]


theorem hexRow_get (u m j : Nat) (h : j < (hexRow u m).length) : (hexRow u m)[j] = hexd (u / 16 ^ (m - 1 - j) % 16) := by
  induction m generalizing j with
  | zero => simp [hexRow] at h
  | succ m ih =>
    cases j with
    | zero => simp [hexRow]
    | succ j =>
      simp only [hexRow, List.getElem_cons_succ]
      rw [ih, show m + 1 - 1 - (j + 1) = m - 1 - j by omega]


theorem hexRow_pad {u m : Nat} (h : u < 16 ^ m) (j : Nat) : hexRow u (m + j) = List.replicate j 48 ++ hexRow u m := by
  induction j with
  | zero => simp
  | succ j ih =>
    have e : u / 16 ^ (m + j) = 0 := Nat.div_eq_of_lt (Nat.lt_of_lt_of_le h (Nat.pow_le_pow_right (by omega) (by omega)))
    rw [show m + (j + 1) = m + j + 1 by omega, hexRow, e, ih, List.replicate_succ]
    rfl


def hexN (c : UInt8) : Option Nat :=
  if 48 ≤ c.toNat ∧ c.toNat ≤ 57 then some (c.toNat - 48) else if 97 ≤ c.toNat ∧ c.toNat ≤ 102 then some (c.toNat - 87) else none


def hexV : Nat → Bs → Option Nat
  | n, [] => some n
  | n, c :: l => match hexN c with
    | some d => hexV (n * 16 + d) l
    | none => none


def fltP (w : Bs) : Option Nat := if w.length = 16 then hexV 0 w else none


theorem hexN_of : ∀ d, d < 16 → hexN (hexd d) = some d := by
  intro d hd
  have : ∀ i : Fin 16, hexN (hexd i.val) = some i.val := by decide +kernel
  exact this ⟨d, hd⟩


theorem hexN_back {c : UInt8} {d : Nat} (h : hexN c = some d) : d < 16 ∧ hexd d = c := by
  unfold hexN at h
  split at h
  · rename_i hc
    simp only [Option.some.injEq] at h
    refine ⟨by omega, ?_⟩
    unfold hexd
    rw [if_pos (by omega), show 48 + d = c.toNat by omega]
    exact byte_of rfl
  · split at h
    · rename_i hc
      simp only [Option.some.injEq] at h
      refine ⟨by omega, ?_⟩
      unfold hexd
      rw [if_neg (by omega), show 87 + d = c.toNat by omega]
      exact byte_of rfl
    · simp at h


theorem hexRow_add (a u : Nat) : ∀ i, hexRow (a * 16 ^ i + u) i = hexRow u i := by
  have key : ∀ i j, j ≤ i → hexRow (a * 16 ^ i + u) j = hexRow u j := by
    intro i j
    induction j with
    | zero => intro _; rfl
    | succ j ih =>
      intro hj
      simp only [hexRow]
      rw [ih (by omega)]
      congr 2
      obtain ⟨k, rfl⟩ : ∃ k, i = j + 1 + k := ⟨i - (j + 1), by omega⟩
      have e : a * 16 ^ (j + 1 + k) + u = u + 16 ^ j * (a * 16 ^ k * 16) := by
        rw [Nat.pow_add, Nat.pow_succ]
        have : a * (16 ^ j * 16 * 16 ^ k) = 16 ^ j * (a * 16 ^ k * 16) := by
          rw [Nat.mul_assoc, Nat.mul_left_comm, Nat.mul_left_comm a, Nat.mul_comm 16 (a * 16 ^ k)]
        omega
      rw [e, Nat.add_mul_div_left _ _ (Nat.pow_pos (by omega))]
      omega
  exact fun i => key i i (Nat.le_refl _)


theorem hexV_iff : ∀ (l : Bs) (a n : Nat), hexV a l = some n ↔ ∃ v, v < 16 ^ l.length ∧ n = a * 16 ^ l.length + v ∧ l = hexRow v l.length := by
  intro l
  induction l with
  | nil =>
    intro a n
    simp only [hexV, List.length_nil, Nat.pow_zero, hexRow, Option.some.injEq]
    constructor
    · rintro rfl; exact ⟨0, by omega, by omega, by simp⟩
    · rintro ⟨v, h1, h2, _⟩; omega
  | cons c l ih =>
    intro a n
    simp only [hexV, List.length_cons, hexRow]
    constructor
    · intro h
      cases hc : hexN c with
      | none => rw [hc] at h; simp at h
      | some d =>
        rw [hc] at h
        simp only at h
        obtain ⟨hd, e⟩ := hexN_back hc
        obtain ⟨v, h1, h2, h3⟩ := (ih _ _).1 h
        refine ⟨d * 16 ^ l.length + v, ?_, ?_, ?_⟩
        · rw [Nat.pow_succ]
          have : d * 16 ^ l.length ≤ 15 * 16 ^ l.length := Nat.mul_le_mul_right _ (by omega)
          omega
        · rw [h2, Nat.add_mul, Nat.pow_succ]
          have : a * 16 * 16 ^ l.length = a * (16 ^ l.length * 16) := by rw [Nat.mul_assoc, Nat.mul_comm 16]
          omega
        · rw [hexRow_add, ← h3]
          congr 1
          rw [Nat.add_comm, Nat.add_mul_div_right _ _ (Nat.pow_pos (by omega)), Nat.div_eq_of_lt h1, Nat.zero_add, Nat.mod_eq_of_lt hd, e]
    · rintro ⟨v, h1, h2, h3⟩
      rw [List.cons.injEq] at h3
      obtain ⟨e1, e2⟩ := h3
      rw [e1, hexN_of _ (Nat.mod_lt _ (by omega))]
      simp only
      refine (ih _ _).2 ⟨v % 16 ^ l.length, Nat.mod_lt _ (Nat.pow_pos (by omega)), ?_, ?_⟩
      · have hd : v / 16 ^ l.length < 16 := by
          rw [Nat.div_lt_iff_lt_mul (Nat.pow_pos (by omega))]
          rw [Nat.pow_succ] at h1
          omega
        rw [h2, Nat.mod_eq_of_lt hd, Nat.add_mul, Nat.pow_succ]
        have h4 := Nat.div_add_mod v (16 ^ l.length)
        have h5 : a * 16 * 16 ^ l.length = a * (16 ^ l.length * 16) := by rw [Nat.mul_assoc, Nat.mul_comm 16]
        have h6 : 16 ^ l.length * (v / 16 ^ l.length) = v / 16 ^ l.length * 16 ^ l.length := Nat.mul_comm _ _
        omega
      · rw [e2]
        have h4 := Nat.div_add_mod v (16 ^ l.length)
        have h7 := hexRow_add (v / 16 ^ l.length) (v % 16 ^ l.length) l.length
        rw [show v / 16 ^ l.length * 16 ^ l.length + v % 16 ^ l.length = v by rw [Nat.mul_comm]; exact h4] at h7
        rw [hexRow_length]
        exact h7


theorem fltP_iff (w : Bs) (b : Nat) : fltP w = some b ↔ b < 18446744073709551616 ∧ w = hexRow b 16 := by
  unfold fltP
  constructor
  · intro h
    split at h
    · rename_i hl
      obtain ⟨v, h1, h2, h3⟩ := (hexV_iff _ _ _).1 h
      rw [hl] at h1 h2 h3
      have : b = v := by omega
      subst this
      exact ⟨h1, h3⟩
    · simp at h
  · rintro ⟨h1, rfl⟩
    rw [if_pos (hexRow_length _ _)]
    refine (hexV_iff _ _ _).2 ⟨b, ?_, ?_, ?_⟩
    · rw [hexRow_length]; exact h1
    · omega
    · rw [hexRow_length]

/-! ### Steps, plans, lines -/
/-- A step of a pipeline. -/
structure Og where
  K : Int
  N : Int
  X : Nat
  deriving DecidableEq


/-- A step of a script. -/
structure Sp where
  K : Int
  D : Int
  N : Int
  k : Nat
  x : Nat
  deriving DecidableEq


/-- A plan's numbers. -/
structure Pl where
  P : Int
  S : Int
  W : Int
  A : Int
  B : Int
  N : Int
  G : Int
  deriving DecidableEq


def Pl.zero : Pl := ⟨0, 0, 0, 0, 0, 0, 0⟩
def In64 (x : Int) : Prop := -9223372036854775808 ≤ x ∧ x < 9223372036854775808
def Og.ok (o : Og) : Prop := In64 o.K ∧ In64 o.N ∧ o.X < 18446744073709551616
def Sp.ok (s : Sp) : Prop := In64 s.K ∧ In64 s.D ∧ In64 s.N ∧ s.k < 18446744073709551616 ∧ s.x < 18446744073709551616
def Pl.ok (p : Pl) : Prop := In64 p.P ∧ In64 p.S ∧ In64 p.W ∧ In64 p.A ∧ In64 p.B ∧ In64 p.N ∧ In64 p.G


/-- How a kind of step is written. -/
structure Fm where
  K : Int
  w : Bs
  g : Int
  deriving DecidableEq


def formL : List Fm := [⟨1, [112, 114, 111, 100, 117, 99, 101], 13⟩, ⟨2, [115, 119, 105, 116, 99, 104], 3⟩, ⟨3, [116, 105, 99, 107], 0⟩, ⟨4, [100, 101, 108, 105, 118, 101, 114], 2⟩, ⟨5, [100, 114, 111, 112], 2⟩, ⟨6, [99, 111, 112, 121], 2⟩, ⟨7, [99, 117, 116], 3⟩, ⟨8, [99, 114, 97, 115, 104], 1⟩, ⟨9, [114, 101, 115, 116, 97, 114, 116], 1⟩, ⟨10, [113, 117, 101, 114, 121], 4⟩, ⟨11, [114, 111, 117, 110, 100], 0⟩]


def fN (g : Int) : Bool := g == 13 || g == 3 || g == 1
def fK (g : Int) : Bool := g == 3 || g == 2
def fU (g : Int) : Bool := g == 13 || g == 4
def fV (g : Int) : Bool := g == 13


def formW (w : Bs) : Option Fm := formL.find? fun f => f.w == w
def formK (k : Int) : Option Fm := formL.find? fun f => f.K == k


def planW : Bs := [112, 108, 97, 110]
def opW : Bs := [111, 112]


/-- The next argument, as a number, a key, a float. -/
def nm : List Bs → Option (Int × List Bs)
  | [] => none
  | w :: r => match numP w with | some x => some (x, r) | none => none
def ky : List Bs → Option (Nat × List Bs)
  | [] => none
  | w :: r => match keyP w with | some x => some (x, r) | none => none
def fl : List Bs → Option (Nat × List Bs)
  | [] => none
  | w :: r => match fltP w with | some x => some (x, r) | none => none


/-- n numbers. -/
def nms : Nat → List Bs → Option (List Int × List Bs)
  | 0, ws => some ([], ws)
  | n + 1, ws => match nm ws with
    | none => none
    | some (x, r) => match nms n r with
      | none => none
      | some (l, r') => some (x :: l, r')


def plOf : List Int → Pl
  | [a, b, c, d, e, f, g] => ⟨a, b, c, d, e, f, g⟩
  | _ => Pl.zero


def opA (ws : List Bs) : Option (Og × List Bs) :=
  match nm ws with
  | none => none
  | some (k, r) => match nm r with
    | none => none
    | some (n, r) => match fl r with
      | none => none
      | some (x, r) => some (⟨k, n, x⟩, r)


def onlyI (b : Bool) (ws : List Bs) : Option (Int × List Bs) := if b then nm ws else some (0, ws)
def onlyK (b : Bool) (ws : List Bs) : Option (Nat × List Bs) := if b then ky ws else some (0, ws)
def onlyF (b : Bool) (ws : List Bs) : Option (Nat × List Bs) := if b then fl ws else some (0, ws)


def stA (f : Fm) (ws : List Bs) : Option (Sp × List Bs) :=
  match onlyI (fN f.g) ws with
  | none => none
  | some (d, r) => match onlyI (fK f.g) r with
    | none => none
    | some (n, r) => match onlyK (fU f.g) r with
      | none => none
      | some (k, r) => match onlyF (fV f.g) r with
        | none => none
        | some (x, r) => some (⟨f.K, d, n, k, x⟩, r)


/-- What has been read. -/
structure Rs where
  pd : Bool
  p : Pl
  ops : List Og
  sts : List Sp
  deriving DecidableEq


def Rs.zero : Rs := ⟨false, Pl.zero, [], []⟩


/-- A line that isn't skipped: its word, its arguments. -/
def lineR (s : Rs) (w : Bs) (ws : List Bs) : Except Int Rs :=
  if s.pd = false then
    if w ≠ planW then .error 210 else match nms 7 ws with
      | none => .error 211
      | some (l, r) => if r ≠ [] then .error 211 else .ok { s with pd := true, p := plOf l }
  else if w = opW ∧ s.sts = [] then match opA ws with
    | none => .error 211
    | some (o, r) => if r ≠ [] then .error 211 else .ok { s with ops := s.ops ++ [o] }
  else if s.sts.length = 4096 then .error 212
  else match formW w with
    | none => .error 210
    | some f => match stA f ws with
      | none => .error 211
      | some (t, r) => if r ≠ [] then .error 211 else .ok { s with sts := s.sts ++ [t] }


def skipB : Bs → Bool
  | [] => true
  | c :: _ => c == 35


def readLine (s : Rs) (l : Bs) : Except Int Rs :=
  if skipB l then .ok s else match splitB 32 l with
    | [] => .ok s
    | w :: ws => lineR s w ws


def readL : Nat → List Bs → Rs → Except (Nat × Int) Rs
  | _, [], s => .ok s
  | n, l :: r, s => match readLine s l with
    | .error e => .error (n, e)
    | .ok s' => readL (n + 1) r s'


def parseT (t : Bs) : Except (Nat × Int) Rs :=
  if 262144 < t.length then .error (0, 6) else match readL 1 (splitB 10 t) Rs.zero with
    | .error x => .error x
    | .ok s => if s.pd = false then .error ((splitB 10 t).length, 210) else .ok s

/-! ### Writing -/
def lineT (w : Bs) (args : List Bs) : Bs := w ++ joinB 32 args ++ [10]
def planA (p : Pl) : List Bs := [Lib.itoa p.P, Lib.itoa p.S, Lib.itoa p.W, Lib.itoa p.A, Lib.itoa p.B, Lib.itoa p.N, Lib.itoa p.G]
def planT (p : Pl) : Bs := lineT planW (planA p)
def opT (o : Og) : Bs := lineT opW [Lib.itoa o.K, Lib.itoa o.N, hexRow o.X 16]
def onlyL (b : Bool) (w : Bs) : List Bs := if b then [w] else []
def stArgs (g : Int) (s : Sp) : List Bs := onlyL (fN g) (Lib.itoa s.D) ++ onlyL (fK g) (Lib.itoa s.N) ++ onlyL (fU g) (Lib.decDigits s.k) ++ onlyL (fV g) (hexRow s.x 16)
def formD (k : Int) : Fm := (formK k).getD ⟨0, [], 0⟩
def stT (s : Sp) : Bs := lineT (formD s.K).w (stArgs (formD s.K).g s)
def bareB (g : Int) (s : Sp) : Bool := (fN g || s.D == 0) && (fK g || s.N == 0) && (fU g || s.k == 0) && (fV g || s.x == 0)
def stE (s : Sp) : Int := match formK s.K with
  | none => 200
  | some f => if bareB f.g s then 0 else 1
def stEs : List Sp → Int
  | [] => 0
  | s :: r => if stE s = 0 then stEs r else stE s
def bodyT (p : Pl) (ops : List Og) (sts : List Sp) : Bs := planT p ++ ops.flatMap opT ++ sts.flatMap stT
def printE (p : Pl) (ops : List Og) (sts : List Sp) : Int :=
  if 4096 < sts.length then 212 else if stEs sts ≠ 0 then stEs sts else if 262144 < (bodyT p ops sts).length then 6 else 0
def printT (p : Pl) (ops : List Og) (sts : List Sp) : Bs := if printE p ops sts = 0 then bodyT p ops sts else []
end Go.Proofs.YtkiplcmndpdifaaGreatDoor


