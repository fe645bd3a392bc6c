/- Wm Wb Wp Wj -/
import Derived.Test.YtpndafieknddcaaChecked
import Derived.WalkKit
import Derived.Laws.BytesArg
import Derived.Laws.AppendOwnNone
import Derived.Deep.Draws
import Derived.Deep.Slices
import Derived.Laws.BitsAllLaws
namespace Go.Proofs.Ytpndafieknddcaa.Wm



/-- A number's bytes, fuel k. -/
def encF : Nat → Nat → List Nat
  | 0, x => [x]
  | k + 1, x => if x < 128 then [x] else (x % 128 + 128) :: encF k (x / 128)


/-- A number's bytes (below 2^70). -/
def enc (x : Nat) : List Nat := encF 9 x


/-- Take's answer: the number, how many bytes, the error. -/
def tk : List Nat → Nat → Nat → Nat × Nat × Nat
  | [], _, _ => (0, 0, 3)
  | c :: l, i, x =>
    if (0 < i ∧ c = 0) ∨ (i = 9 ∧ 1 < c) then (0, 0, 4)
    else if c < 128 then (x + c * 128 ^ i, i + 1, 0)
    else tk l (i + 1) (x + (c - 128) * 128 ^ i)


def take (l : List Nat) : Nat × Nat × Nat := tk l 0 0


theorem encF_len (k x : Nat) : 1 ≤ (encF k x).length ∧ (encF k x).length ≤ k + 1 := by
  induction k generalizing x with
  | zero => simp [encF]
  | succ k ih =>
    have := ih (x / 128)
    unfold encF
    split
    · simp
    · simp; omega


theorem enc_len (x : Nat) : 1 ≤ (enc x).length ∧ (enc x).length ≤ 10 := encF_len 9 x


theorem encF_lt (k x : Nat) (hx : x < 128 ^ (k + 1)) : ∀ c ∈ encF k x, c < 256 := by
  induction k generalizing x with
  | zero => intro c hc; simp [encF] at hc; simp at hx; omega
  | succ k ih =>
    intro c hc
    unfold encF at hc
    split at hc
    · simp at hc; omega
    · simp only [List.mem_cons] at hc
      rcases hc with rfl | hc
      · omega
      · exact ih (x / 128) (by rw [Nat.pow_succ] at hx; omega) c hc


theorem enc_lt (x : Nat) (hx : x < 18446744073709551616) : ∀ c ∈ enc x, c < 256 := by
  apply encF_lt 9 x; omega


/-- Put's bytes read again, whatever stands behind. -/
theorem tk_encF (k : Nat) : ∀ (x i y : Nat) (r : List Nat), i + k = 9 → x * 128 ^ i < 18446744073709551616 → (0 < i → 0 < x) →
    tk (encF k x ++ r) i y = (y + x * 128 ^ i, i + (encF k x).length, 0) := by
  induction k with
  | zero =>
    intro x i y r hi hx h0
    obtain rfl : i = 9 := by omega
    have h1 := h0 (by omega)
    have h9 : (128 : Nat) ^ 9 = 9223372036854775808 := by decide
    rw [h9] at hx
    simp [encF, tk]
    have : x = 1 := by omega
    subst this
    simp
  | succ k ih =>
    intro x i y r hi hx h0
    have hi9 : i ≠ 9 := by omega
    unfold encF
    by_cases hs : x < 128
    · rw [if_pos hs]
      simp only [List.cons_append, List.nil_append, tk, List.length_cons, List.length_nil]
      rw [if_neg, if_pos hs]
      rintro (⟨h, rfl⟩ | ⟨h, _⟩)
      · have := h0 h; omega
      · exact hi9 h
    · rw [if_neg hs]
      simp only [List.cons_append, tk, List.length_cons]
      rw [if_neg (by rintro (⟨h, e⟩ | ⟨h, _⟩) <;> omega), if_neg (by omega)]
      have hpow : (128 : Nat) ^ (i + 1) = 128 ^ i * 128 := Nat.pow_succ ..
      have hsplit : x % 128 * 128 ^ i + x / 128 * 128 ^ (i + 1) = x * 128 ^ i := by
        rw [hpow, Nat.mul_comm (128 ^ i) 128, ← Nat.mul_assoc, ← Nat.add_mul]
        congr 1; omega
      rw [ih (x / 128) (i + 1) _ r (by omega) (by omega) (fun _ => by omega)]
      have e : x % 128 + 128 - 128 = x % 128 := by omega
      rw [e]
      refine Prod.ext ?_ (Prod.ext ?_ rfl)
      · simp only; omega
      · simp only; omega


theorem take_enc (x : Nat) (r : List Nat) (hx : x < 18446744073709551616) : take (enc x ++ r) = (x, (enc x).length, 0) := by
  have := tk_encF 9 x 0 0 r (by omega) (by simpa using hx) (by omega)
  simpa [take, enc] using this


/-- A beginning of a form is too short. -/
theorem tk_encF_short (k : Nat) : ∀ (x i y n : Nat), i + k = 9 → x * 128 ^ i < 18446744073709551616 → n < (encF k x).length →
    tk ((encF k x).take n) i y = (0, 0, 3) := by
  induction k with
  | zero =>
    intro x i y n hi hx hn
    simp [encF] at hn
    subst hn
    simp [tk]
  | succ k ih =>
    intro x i y n hi hx hn
    unfold encF at hn ⊢
    by_cases hs : x < 128
    · rw [if_pos hs] at hn ⊢
      simp at hn; subst hn; simp [tk]
    · rw [if_neg hs] at hn ⊢
      cases n with
      | zero => simp [tk]
      | succ n =>
        simp only [List.take_succ_cons, tk]
        rw [if_neg (by rintro (⟨h, e⟩ | ⟨h, _⟩) <;> omega), if_neg (by omega)]
        have hpow : (128 : Nat) ^ (i + 1) = 128 ^ i * 128 := Nat.pow_succ ..
        have hsplit : x % 128 * 128 ^ i + x / 128 * 128 ^ (i + 1) = x * 128 ^ i := by
          rw [hpow, Nat.mul_comm (128 ^ i) 128, ← Nat.mul_assoc, ← Nat.add_mul]
          congr 1; omega
        exact ih (x / 128) (i + 1) _ n (by omega) (by omega) (by simpa using hn)


theorem take_enc_short (x n : Nat) (hx : x < 18446744073709551616) (hn : n < (enc x).length) : take ((enc x).take n) = (0, 0, 3) :=
  tk_encF_short 9 x 0 0 n (by omega) (by simpa using hx) hn


/-- What tk answers: an error, or a form. -/
theorem tk_form (k : Nat) : ∀ (l : List Nat) (i y : Nat), i + k = 9 → (∀ c ∈ l, c < 256) →
    (∃ e, tk l i y = (0, 0, e) ∧ (e = 3 ∨ e = 4)) ∨
    (∃ x n, tk l i y = (y + x * 128 ^ i, i + n, 0) ∧ (0 < i → 0 < x) ∧ x * 128 ^ i < 18446744073709551616 ∧ 1 ≤ n ∧ n ≤ l.length ∧ encF k x = l.take n) := by
  induction k with
  | zero =>
    intro l i y hi hl
    obtain rfl : i = 9 := by omega
    cases l with
    | nil => left; exact ⟨3, rfl, .inl rfl⟩
    | cons c l =>
      by_cases h : (0 < 9 ∧ c = 0) ∨ ((9 : Nat) = 9 ∧ 1 < c)
      · left; exact ⟨4, by rw [tk, if_pos h], .inr rfl⟩
      · right
        have hc : c = 1 := by omega
        subst hc
        exact ⟨1, 1, by simp [tk], by omega, by decide, by omega, by simp, by simp [encF]⟩
  | succ k ih =>
    intro l i y hi hl
    cases l with
    | nil => left; exact ⟨3, rfl, .inl rfl⟩
    | cons c l =>
      by_cases h : (0 < i ∧ c = 0) ∨ (i = 9 ∧ 1 < c)
      · left; exact ⟨4, by simp only [tk]; rw [if_pos h], .inr rfl⟩
      · have hpi : (128 : Nat) ^ i ≤ 128 ^ 8 := Nat.pow_le_pow_right (by omega) (by omega)
        have hp8 : (128 : Nat) ^ 8 = 72057594037927936 := by decide
        by_cases hs : c < 128
        · right
          refine ⟨c, 1, by simp only [tk]; rw [if_neg h, if_pos hs], by omega, ?_, by omega, by simp, by simp [encF, hs]⟩
          have : c * 128 ^ i ≤ 127 * 128 ^ i := Nat.mul_le_mul_right _ (by omega)
          omega
        · have hc := hl c (by simp)
          have hstep : tk (c :: l) i y = tk l (i + 1) (y + (c - 128) * 128 ^ i) := by
            simp only [tk]; rw [if_neg h, if_neg hs]
          have hpow : (128 : Nat) ^ (i + 1) = 128 ^ i * 128 := Nat.pow_succ ..
          rcases ih l (i + 1) (y + (c - 128) * 128 ^ i) (by omega) (fun d hd => hl d (by simp [hd])) with ⟨e, he, h34⟩ | ⟨x, n, he, h0, hx, h1, h2, h3⟩
          · left; exact ⟨e, by rw [hstep, he], h34⟩
          · right
            have hx0 := h0 (by omega)
            have hsum : (c - 128 + 128 * x) * 128 ^ i = (c - 128) * 128 ^ i + x * 128 ^ (i + 1) := by
              rw [hpow, Nat.add_mul, Nat.mul_comm (128 ^ i) 128, ← Nat.mul_assoc, Nat.mul_comm x 128]
            refine ⟨c - 128 + 128 * x, n + 1, ?_, by omega, ?_, by omega, by simp; omega, ?_⟩
            · rw [hstep, he, hsum]
              refine Prod.ext ?_ (Prod.ext ?_ rfl) <;> simp only <;> omega
            · rw [hsum]
              -- x * 128^(i+1) is a multiple of 128^(i+1) below 2^64
              rcases Nat.lt_or_ge i 8 with h8 | h8
              · -- 128^(i+1) divides 2^64 - room: x * 128^(i+1) <= 2^64 - 128^(i+1)
                have hdv : ∃ q, 18446744073709551616 = q * 128 ^ (i + 1) := by
                  have : i = 0 ∨ i = 1 ∨ i = 2 ∨ i = 3 ∨ i = 4 ∨ i = 5 ∨ i = 6 ∨ i = 7 := by omega
                  rcases this with rfl | rfl | rfl | rfl | rfl | rfl | rfl | rfl
                  · exact ⟨144115188075855872, by decide⟩
                  · exact ⟨1125899906842624, by decide⟩
                  · exact ⟨8796093022208, by decide⟩
                  · exact ⟨68719476736, by decide⟩
                  · exact ⟨536870912, by decide⟩
                  · exact ⟨4194304, by decide⟩
                  · exact ⟨32768, by decide⟩
                  · exact ⟨256, by decide⟩
                obtain ⟨q, hq⟩ := hdv
                have hlt : x < q := by
                  rcases Nat.lt_or_ge x q with h | h
                  · exact h
                  · have := Nat.mul_le_mul_right (128 ^ (i + 1)) h; omega
                have h1' : (x + 1) * 128 ^ (i + 1) ≤ q * 128 ^ (i + 1) := Nat.mul_le_mul_right _ hlt
                have h2' : (c - 128) * 128 ^ i ≤ 127 * 128 ^ i := Nat.mul_le_mul_right _ (by omega)
                have h3' : 0 < 128 ^ i := Nat.pow_pos (by omega)
                rw [Nat.add_mul] at h1'
                omega
              · obtain rfl : i = 8 := by omega
                have h9 : (128 : Nat) ^ (8 + 1) = 9223372036854775808 := by decide
                rw [h9] at hx ⊢
                rw [hp8]
                have hx1 : x = 1 := by omega
                have hc1 : c - 128 ≤ 127 := by omega
                have hc2 : (c - 128) * 72057594037927936 ≤ 127 * 72057594037927936 := Nat.mul_le_mul_right _ hc1
                rw [hx1]
                exact Nat.lt_of_le_of_lt (Nat.add_le_add_right hc2 _) (by decide)
            · unfold encF
              rw [if_neg (by omega)]
              have e1 : (c - 128 + 128 * x) % 128 + 128 = c := by omega
              have e2 : (c - 128 + 128 * x) / 128 = x := by omega
              rw [e1, e2, h3]
              simp


/-- What Take takes is what Put makes of its answer. -/
theorem take_form (l : List Nat) (hl : ∀ c ∈ l, c < 256) :
    (∃ e, take l = (0, 0, e) ∧ (e = 3 ∨ e = 4)) ∨
    (∃ x n, take l = (x, n, 0) ∧ x < 18446744073709551616 ∧ 1 ≤ n ∧ n ≤ l.length ∧ enc x = l.take n) := by
  rcases tk_form 9 l 0 0 (by omega) hl with h | ⟨x, n, h, _, hx, h1, h2, h3⟩
  · exact .inl h
  · exact .inr ⟨x, n, by simpa [take] using h, by simpa using hx, h1, h2, h3⟩


theorem encF_mono (k : Nat) : ∀ x y : Nat, x ≤ y → (encF k x).length ≤ (encF k y).length := by
  induction k with
  | zero => intro x y _; simp [encF]
  | succ k ih =>
    intro x y h
    unfold encF
    by_cases hx : x < 128
    · rw [if_pos hx]
      split
      · simp
      · simp
    · rw [if_neg hx, if_neg (by omega)]
      have := ih (x / 128) (y / 128) (by omega)
      simp; omega


theorem enc_mono (x y : Nat) (h : x ≤ y) : (enc x).length ≤ (enc y).length := encF_mono 9 x y h


theorem encF_more (k x : Nat) (h : x < 128 ^ k) (h1 : 1 ≤ k) : encF k x = encF (k - 1) x := by
  induction k generalizing x with
  | zero => omega
  | succ k ih =>
    cases k with
    | zero => simp at h; simp [encF, h]
    | succ k =>
      have := ih (x / 128) (by rw [Nat.pow_succ] at h; omega) (by omega)
      simp only [Nat.add_sub_cancel] at this ⊢
      show (if x < 128 then [x] else (x % 128 + 128) :: encF (k + 1) (x / 128)) = (if x < 128 then [x] else (x % 128 + 128) :: encF k (x / 128))
      rw [this]


/-- Seven bits more are one byte more. -/
theorem enc_shift (x : Nat) (h0 : 0 < x) (h : x < 144115188075855872) : (enc (x * 128)).length = (enc x).length + 1 := by
  have e : enc x = encF 8 x := encF_more 9 x (by have : (128:Nat)^9 = 9223372036854775808 := by decide
                                                 omega) (by omega)
  rw [e]
  unfold enc
  rw [encF, if_neg (by omega)]
  have : x * 128 / 128 = x := by omega
  simp [this]


/-- A word's bytes: n of them. -/
def wdF : Nat → Nat → List Nat
  | 0, _ => []
  | k + 1, x => x % 256 :: wdF k (x / 256)


def wd (x : Nat) : List Nat := wdF 8 x


/-- The number of bytes, the lowest first. -/
def unw : List Nat → Nat
  | [] => 0
  | c :: l => c + 256 * unw l


theorem wdF_len (k x : Nat) : (wdF k x).length = k := by
  induction k generalizing x with
  | zero => rfl
  | succ k ih => simp [wdF, ih]


theorem wd_len (x : Nat) : (wd x).length = 8 := wdF_len 8 x


theorem wdF_lt (k x : Nat) : ∀ c ∈ wdF k x, c < 256 := by
  induction k generalizing x with
  | zero => intro c hc; simp [wdF] at hc
  | succ k ih =>
    intro c hc
    simp only [wdF, List.mem_cons] at hc
    rcases hc with rfl | hc
    · omega
    · exact ih _ c hc


theorem unw_wdF (k x : Nat) (h : x < 256 ^ k) : unw (wdF k x) = x := by
  induction k generalizing x with
  | zero => simp at h; simp [wdF, unw, h]
  | succ k ih =>
    simp only [wdF, unw]
    rw [ih (x / 256) (by rw [Nat.pow_succ] at h; omega)]
    omega


theorem unw_wd (x : Nat) (h : x < 18446744073709551616) : unw (wd x) = x := unw_wdF 8 x h


theorem unw_lt (l : List Nat) (h : ∀ c ∈ l, c < 256) : unw l < 256 ^ l.length := by
  induction l with
  | nil => simp [unw]
  | cons c l ih =>
    have := ih (fun d hd => h d (by simp [hd]))
    have := h c (by simp)
    simp only [unw, List.length_cons, Nat.pow_succ]
    omega


/-- TakeWord's answer. -/
def takeW (l : List Nat) : Nat × Nat := if l.length < 8 then (0, 3) else (unw (l.take 8), 0)


/-- TakeRun's answer: the bytes, how many of l, the error. -/
def takeRun (l : List Nat) : List Nat × Nat × Nat :=
  match take l with
  | (n, at', 0) => if l.length - at' < n then ([], 0, 3) else ((l.drop at').take n, at' + n, 0)
  | (_, _, e) => ([], 0, e)


/-- A list's numbers as bytes. -/
def encAll : List Nat → List Nat
  | [] => []
  | x :: l => enc x ++ encAll l


/-- n numbers of l, from place p on. -/
def tnums : Nat → List Nat → Nat → List Nat → List Nat × Nat × Nat
  | 0, _, p, acc => (acc, p, 0)
  | k + 1, l, p, acc =>
    match take (l.drop p) with
    | (x, n, 0) => if 4611686018427387904 < x then ([], 0, 4) else tnums k l (p + n) (acc ++ [x])
    | (_, _, e) => ([], 0, e)


/-- TakeNums' answer. -/
def takeNums (l : List Nat) (most : Int) : List Nat × Nat × Nat :=
  match take l with
  | (c, p, 0) => if most < (c : Int) then ([], 0, 6) else tnums c l p []
  | (_, _, e) => ([], 0, e)


end Go.Proofs.Ytpndafieknddcaa.Wm

namespace Go.Proofs.Ytpndafieknddcaa

open Go.RowKit



/-- The cells behind ao hold the numbers l, each of kind k. -/
def Sl (k : IntKind) (w : World) (ao : Option Addr) (l : List Int) : Prop :=
  ∀ i, i < l.length → ∃ b off, ao = some ⟨b, off, none⟩ ∧ w.cell? ⟨b, off + i, none⟩ = some (.int k (l.getD i 0))


/-- The value v is a slice of numbers of kind k that holds l. -/
def Sv (k : IntKind) (w : World) (v : Value) (l : List Int) : Prop :=
  ∃ ao cap, v = .slice ao l.length cap ∧ l.length ≤ cap ∧ cap ≤ maxLen ∧ (ao = none → cap = 0) ∧ Sl k w ao l


/-- Bytes as numbers. -/
def ib (l : List Nat) : List Int := l.map fun c : Nat => (c : Int)


theorem ib_len (l : List Nat) : (ib l).length = l.length := by simp [ib]
theorem ib_append (l r : List Nat) : ib (l ++ r) = ib l ++ ib r := by simp [ib]


/-- The value v is a slice of bytes that holds l. -/
def Bv (w : World) (v : Value) (l : List Nat) : Prop := Sv .u8 w v (ib l) ∧ ∀ c ∈ l, c < 256


theorem cell_lt {w : World} {a : Addr} {u : Value} (h : w.cell? a = some u) : a.block < w.heap.size := World.block_lt_of_cell? w a h


theorem Sl.below {k : IntKind} {w w' : World} {ao : Option Addr} {l : List Int} (h : Sl k w ao l) (hb : Below w.heap.size w w') : Sl k w' ao l := by
  intro i hi
  obtain ⟨b, off, e, hc⟩ := h i hi
  exact ⟨b, off, e, by rw [hb.cell (p := ⟨b, off + i, none⟩) (cell_lt hc)]; exact hc⟩


theorem Sv.below {k : IntKind} {w w' : World} {v : Value} {l : List Int} (h : Sv k w v l) (hb : Below w.heap.size w w') : Sv k w' v l := by
  obtain ⟨ao, cap, e, h1, h2, h3, h4⟩ := h
  exact ⟨ao, cap, e, h1, h2, h3, h4.below hb⟩


theorem Bv.below {w w' : World} {v : Value} {l : List Nat} (h : Bv w v l) (hb : Below w.heap.size w w') : Bv w' v l := ⟨h.1.below hb, h.2⟩


theorem below_alloc (w : World) (o : Obj) : Below w.heap.size w (w.alloc o) := (Below.refl _ _).alloc (Nat.le_refl _) o
theorem below_trans {w w1 w2 : World} (h : Below w.heap.size w w1) (k : Below w1.heap.size w1 w2) : Below w.heap.size w w2 :=
  h.trans (k.mono h.size)
theorem below_drew (w : World) : Below w.heap.size w w.drew := (Below.refl _ _).drew
theorem below_drewN (w : World) (n : Nat) : Below w.heap.size w (w.drewN n) := ⟨rfl, rfl, rfl, Nat.le_refl _, fun _ _ => rfl⟩


theorem Sv.nil (k : IntKind) (w : World) : Sv k w (.slice none 0 0) [] := ⟨none, 0, rfl, Nat.le_refl _, by simp [maxLen], fun _ => rfl, fun i hi => by simp at hi⟩
theorem Bv.nil (w : World) : Bv w (.slice none 0 0) [] := ⟨Sv.nil _ _, by simp⟩


theorem Sv.len_le {k : IntKind} {w : World} {v : Value} {l : List Int} (h : Sv k w v l) : l.length ≤ maxLen := by
  obtain ⟨ao, cap, e, h1, h2, h3, h4⟩ := h; omega
theorem Bv.len_le {w : World} {v : Value} {l : List Nat} (h : Bv w v l) : l.length ≤ maxLen := by
  have := h.1.len_le; rwa [ib_len] at this


/-- What a row that the call owns holds. -/
theorem own_sv {k : IntKind} {w : World} {base e n : Nat} {v : Value} {l : List Int} (h : w.ownsRow base e 1 v n (l.map (Value.int k))) : Sv k w v l := by
  obtain ⟨h1, h2⟩ := h
  have hn : l.length = n := by simpa using h1
  subst hn
  rcases h2 with ⟨rfl, h0⟩ | ⟨g, cap, cur, rfl, hb, hg, hnc, hcm, hcs, htake⟩
  · have : l = [] := List.eq_nil_of_length_eq_zero h0
    subst this
    exact Sv.nil k w
  · refine ⟨_, cap, rfl, hnc, hcm, by simp, fun i hi => ⟨g, 0, rfl, ?_⟩⟩
    rw [Nat.zero_add, cell_of_row w g i cur e (0, 0) hg]
    have hh : (cur.toList.take (l.length * 1))[i]? = (l.map (Value.int k))[i]? := by rw [htake]
    rw [List.getElem?_take, if_pos (by omega)] at hh
    rw [← Array.getElem?_toList, hh]
    simp [List.getElem?_eq_getElem hi, List.getD]


theorem own_bv {w : World} {base e n : Nat} {v : Value} {l : List Nat} (h : w.ownsRow base e 1 v n ((ib l).map (Value.int .u8))) (hl : ∀ c ∈ l, c < 256) : Bv w v l := ⟨own_sv h, hl⟩


theorem own_len {w : World} {base e n : Nat} {k : IntKind} {v : Value} {l : List Int} (h : w.ownsRow base e 1 v n (l.map (Value.int k))) : n = l.length := by
  have := h.1; simp at this; omega


/-- A new block that holds l, as a slice's literal lays it. -/
theorem sv_lit (k : IntKind) (w : World) (e : TypeId) (l : List Int) (hm : l.length ≤ maxLen) :
    Sv k (w.alloc (.cells (l.map (Value.int k)).toArray e)) (.slice (some ⟨w.heap.size, 0, none⟩) l.length l.length) l := by
  have := World.ownsRow_lit (base := w.heap.size) (e := e) (size := 1) w (l.map (Value.int k)).toArray l.length (Nat.le_refl _) hm (by simp)
  exact own_sv (by simpa using this)


/-- APPEND of a slice that holds l onto a row of the call's own. -/
theorem wpList_append_sv {P : Program} {w : World} {ops : Array Oper} {rest : List Oper} {o : Oper} {a : Act} {Q : Exit → Act → World → Prop} (hgd : o.guard = none) (s x : Operand) (t : TypeId)
    (ho : o.op = .call { callee := .builtin .append, args := #[s, x], argTypes := #[t, t] })
    (base : Nat) (e : TypeId) (k : IntKind) (bytes : Nat) (ht : P.underlying t = some (.slice e)) (hinf : (P.info? e).map (fun i => (i.zero, i.size, i.bytes)) = some (some (.int k 0), 1, bytes))
    (v : Value) (n : Nat) (xs : List Value) (hs : a.eval s = v) (hown : w.ownsRow base e 1 v n xs)
    (y : Value) (l : List Int) (hx : a.eval x = y) (hy : Sv k w y l)
    (h63 : n + l.length ≤ maxLen) (hbytes : (n + l.length) * bytes ≤ 140737488355328) (hbase : base ≤ w.heap.size)
    (h : ∀ v' w', w'.ownsRow base e 1 v' (n + l.length) (xs ++ l.map (Value.int k)) → w.grownBy w' v.ownBlock → wpList P ops Q rest (a.put o.dst v') w') : wpList P ops Q (o :: rest) a w := by
  obtain ⟨i0, hi, hz0, hz1, hz2⟩ := info_parts hinf
  obtain ⟨ao, cap, rfl, hc1, hc2, hnone, hcells⟩ := hy
  cases ao with
  | none =>
    obtain rfl := hnone rfl
    have hl0 : l.length = 0 := by omega
    have hl : l = [] := List.eq_nil_of_length_eq_zero hl0
    subst hl
    refine wpList_append_own_none hgd s x t ho base e i0 1 ht hi v n xs hs hown hx ?_
    exact h v w (by simpa using hown) ⟨rfl, rfl, rfl, Nat.le_refl _, fun _ _ _ => rfl⟩
  | some p =>
    refine wpList_append_own w hgd s x t ho base e i0 (.int k 0) 1 bytes ht hi hz0 hz1 hz2 rfl (by decide) v n xs hs hown p l.length cap (l.map (Value.int k)) hx (by simp) ?_ ?_ h63 hbytes hbase
      (fun v' w' h1 h2 _ => h v' w' h1 h2)
    · intro j u hj
      have hjl : j < l.length := by
        rcases Nat.lt_or_ge j l.length with h | h
        · exact h
        · simp [List.getElem?_eq_none (show (l.map (Value.int k)).length ≤ j by simpa using h)] at hj
      obtain ⟨b, off, e1, e2⟩ := hcells j hjl
      cases e1
      rw [WideShapes.add_plain, e2]
      simp [List.getElem?_eq_getElem hjl] at hj
      simp [List.getD, List.getElem?_eq_getElem hjl, hj]
    · intro u hu
      obtain ⟨z, _, rfl⟩ := List.mem_map.1 hu
      rfl


theorem grown_below {B : Nat} {w w' : World} {v : Value} {e n : Nat} {xs : List Value} (hown : w.ownsRow B e 1 v n xs) (hg : w.grownBy w' v.ownBlock) (hB : B ≤ w.heap.size) : Below B w w' :=
  (Below.refl B w).grown hg hB (fun k hk => (hown.lt k hk).1)


/-- A cut of a slice. -/
theorem Sl.cut {k : IntKind} {w : World} {ao : Option Addr} {l : List Int} (h : Sl k w ao l) (lo hi : Nat) (hlh : lo ≤ hi) (hh : hi ≤ l.length) (c : Prop) [Decidable c] (hc : lo < hi → ¬ c) :
    Sl k w (if c then ao else ao.map (·.add lo)) ((l.drop lo).take (hi - lo)) := by
  intro i hi'
  have hlt : i < hi - lo := by simp at hi'; omega
  obtain ⟨b, off, e, hcell⟩ := h (lo + i) (by omega)
  subst e
  refine ⟨b, off + lo, ?_, ?_⟩
  · rw [if_neg (hc (by omega))]; simp [WideShapes.add_plain]
  · rw [Nat.add_assoc, hcell]
    simp [List.getD, hlt, List.getElem?_drop]


theorem ib_drop_take (l : List Nat) (lo n : Nat) : ((ib l).drop lo).take n = ib ((l.drop lo).take n) := by
  simp [ib]


/-- The cut v[lo:hi] of a slice that holds l. -/
theorem Bv.cut {w : World} {ao : Option Addr} {cap : Nat} {l : List Nat} (h : Bv w (.slice ao l.length cap) l) (lo hi : Nat) (hlh : lo ≤ hi) (hh : hi ≤ l.length) (c : Prop) [Decidable c] (hc : c ↔ cap = lo) :
    Bv w (.slice (if c then ao else ao.map (·.add lo)) (hi - lo) (cap - lo)) ((l.drop lo).take (hi - lo)) := by
  obtain ⟨⟨ao', cap', e, h1, h2, h3, h4⟩, h5⟩ := h
  simp only [Value.slice.injEq, ib_len] at e
  obtain ⟨rfl, _, rfl⟩ := e
  rw [ib_len] at h1
  refine ⟨⟨if c then ao else ao.map (·.add lo), cap - lo, ?_, ?_, by omega, ?_, ?_⟩, ?_⟩
  · rw [ib_len]; simp; omega
  · rw [ib_len]; simp; omega
  · intro hn
    by_cases hcc : c
    · have := hc.1 hcc; omega
    · rw [if_neg hcc] at hn
      cases ao with
      | none => have := h3 rfl; omega
      | some p => simp at hn
  · rw [← ib_drop_take]
    exact h4.cut lo hi hlh (by rw [ib_len]; exact hh) c (fun hlt hcc => by have := hc.1 hcc; omega)
  · intro d hd; exact h5 d (List.mem_of_mem_drop (List.mem_of_mem_take hd))


/-- The string of the bytes l. -/
def str (l : List Nat) : ByteArray := strOfNums (ib l)


theorem str_inj {l r : List Nat} (hl : ∀ c ∈ l, c < 256) (hr : ∀ c ∈ r, c < 256) (h : str l = str r) : l = r := by
  have hd : (str l).data.toList = (str r).data.toList := by rw [h]
  simp only [str, strOfNums_data, ib, List.map_map] at hd
  have key : ∀ (l r : List Nat), (∀ c ∈ l, c < 256) → (∀ c ∈ r, c < 256) →
      l.map ((fun n : Int => UInt8.ofNat n.toNat) ∘ fun c : Nat => (c : Int)) = r.map ((fun n : Int => UInt8.ofNat n.toNat) ∘ fun c : Nat => (c : Int)) → l = r := by
    intro l
    induction l with
    | nil => intro r _ _ h; cases r with
      | nil => rfl
      | cons a r => simp at h
    | cons a l ih =>
      intro r hl hr h
      cases r with
      | nil => simp at h
      | cons b r =>
        simp only [List.map_cons, List.cons.injEq] at h
        obtain ⟨h1, h2⟩ := h
        have ha := hl a (by simp)
        have hb := hr b (by simp)
        have := congrArg UInt8.toNat h1
        simp at this
        rw [ih r (fun c hc => hl c (by simp [hc])) (fun c hc => hr c (by simp [hc])) h2]
        congr 1; omega
  exact key l r hl hr hd


/-- string(v). -/
theorem Bv.str {P : Program} {w : World} {v : Value} {l : List Nat} (h : Bv w v l) (src e dst : TypeId) (hs : P.underlying src = some (.slice e)) (he : P.underlying e = some (.int .u8)) (hd : P.underlying dst = some .string) :
    (convert src dst v).run P w = .ok (.string (str l)) w := by
  obtain ⟨⟨ao, cap, rfl, h1, h2, h3, h4⟩, h5⟩ := h
  by_cases h0 : l = []
  · subst h0
    cases ao with
    | none => rw [run_convert_bytes_nil w src e hs he _ _ dst hd]; rfl
    | some p =>
      obtain ⟨b, off, sp⟩ := p
      have hl : (loadCells ⟨b, off, sp⟩ 0).run P w = .ok (([] : List Int).map (Value.int .u8)).toArray w := by simp [loadCells, loadCellsFrom]
      rw [run_convert_bytes_string w src dst e _ _ cap hs he hd]
      exact run_bytesToString w _ 0 cap [] hl
  · obtain ⟨b, off, rfl, hc⟩ := h4 0 (by rw [ib_len]; exact List.length_pos_iff.2 h0)
    refine run_convert_bytes_arg w src e hs he b off _ cap (ib l) rfl (fun i hi => ?_) dst hd
    obtain ⟨b', off', e1, e2⟩ := h4 i hi
    cases e1
    exact e2


end Go.Proofs.Ytpndafieknddcaa

namespace Go.Proofs.Ytpndafieknddcaa

open Go.RowKit



theorem info_u8 : (Try.prog.info? 5).map (fun i => (i.zero, i.size, i.bytes)) = some (some (.int .u8 0), 1, 1) := by kernel_rfl
theorem info_i64 : (Try.prog.info? 3).map (fun i => (i.zero, i.size, i.bytes)) = some (some (.int .i64 0), 1, 8) := by kernel_rfl


theorem or128_fin : ∀ a : Fin 256, (a.val ||| 128) = a.val % 128 + 128 := by decide +kernel


theorem or128 (y : Nat) : bits .or .u8 ((y : Int) % 256) 128 = (y : Int) % 128 + 128 := by
  have h := u8_or_nat (y % 256) 128 (by omega) (by omega)
  have e := or128_fin ⟨y % 256, by omega⟩
  simp only at e
  rw [e] at h
  have e2 : ((y % 256 : Nat) : Int) = (y : Int) % 256 := by omega
  rw [e2] at h
  rw [show ((128 : Nat) : Int) = 128 from rfl] at h
  rw [h]
  omega


theorem wrap_u64_id {z : Int} (h0 : 0 ≤ z) (h1 : z < 18446744073709551616) : IntKind.u64.wrap z = z := by
  rw [IntKind.wrap_u64]; omega


/-- Put's loop: what has been written, and what is left. -/
def PutRel (x H : Nat) (w : World) (xv v : Value) (wr : World) : Prop :=
  ∃ (y k : Nat) (done : List Nat), xv = .int .u64 y ∧ y ≤ x ∧ y < 128 ^ (k + 1) ∧ done ++ Wm.encF k y = Wm.enc x ∧ done.length + k = 9 ∧
    wr.ownsRow H 5 1 v done.length ((ib done).map (Value.int .u8)) ∧ Below H w wr


theorem putrel_start (x : Nat) (hx : x < 18446744073709551616) (w : World) :
    PutRel x w.heap.size w (.int .u64 x) (.slice (some ⟨w.heap.size, 0, none⟩) 0 0) (w.alloc (.cells #[] 5)) :=
  ⟨x, 9, [], rfl, Nat.le_refl _, Nat.lt_of_lt_of_le hx (by decide), rfl, rfl, World.ownsRow_made w #[] 0 (Nat.le_refl _) (by simp [maxLen]) rfl, below_alloc w _⟩


theorem putrel_step {x H y k : Nat} {done : List Nat} {w wr w1 : World} {v v' : Value} {c : Int} (hge : (128 : Int) ≤ y) (hyx : y ≤ x) (hk : y < 128 ^ (k + 1)) (henc : done ++ Wm.encF k y = Wm.enc x) (hlen : done.length + k = 9)
    (hbel : Below H w wr) (hH : H ≤ wr.heap.size) (o : Obj) (hown : wr.ownsRow H 5 1 v done.length ((ib done).map (Value.int .u8)))
    (hown' : w1.ownsRow H 5 1 v' (done.length + 1) ((ib done).map (Value.int .u8) ++ [c].map (Value.int .u8))) (hg : (wr.alloc o).grownBy w1 v.ownBlock) (hc : c = (y : Int) % 128 + 128) :
    PutRel x H w (.int .u64 ((y : Int) / 128)) v' w1 := by
  cases k with
  | zero => simp at hk; omega
  | succ k =>
    refine ⟨y / 128, k, done ++ [y % 128 + 128], ?_, by omega, ?_, ?_, by simp; omega, ?_, ?_⟩
    · congr 1
    · rw [Nat.pow_succ] at hk; omega
    · rw [← henc]
      conv => rhs; rw [Wm.encF, if_neg (by omega)]
      simp
    · subst hc
      have e : (ib (done ++ [y % 128 + 128])) = ib done ++ [(y : Int) % 128 + 128] := by simp [ib]
      rw [e]
      simpa using hown'
    · exact hbel.trans (((below_alloc wr o).mono hH).trans (grown_below (hown.alloc o) hg (by simp; omega)))


theorem putrel_done {x H y k : Nat} {done : List Nat} {w wr w1 : World} {v v' : Value} {c : Int} (hge : (y : Int) < 128) (henc : done ++ Wm.encF k y = Wm.enc x)
    (hbel : Below H w wr) (hH : H ≤ wr.heap.size) (o : Obj) (hown : wr.ownsRow H 5 1 v done.length ((ib done).map (Value.int .u8)))
    (hown' : w1.ownsRow H 5 1 v' (done.length + 1) ((ib done).map (Value.int .u8) ++ [c].map (Value.int .u8))) (hg : (wr.alloc o).grownBy w1 v.ownBlock) (hc : c = (y : Int)) :
    w1.ownsRow H 5 1 v' (Wm.enc x).length ((ib (Wm.enc x)).map (Value.int .u8)) ∧ Below H w w1 := by
  have e : Wm.encF k y = [y] := by
    cases k with
    | zero => rfl
    | succ k => rw [Wm.encF, if_pos (by omega)]
  rw [e] at henc
  refine ⟨?_, hbel.trans (((below_alloc wr o).mono hH).trans (grown_below (hown.alloc o) hg (by simp; omega)))⟩
  rw [← henc]
  subst hc
  simpa [ib] using hown'


theorem sv_one (k : IntKind) (w : World) (e : TypeId) (c : Int) : Sv k (w.alloc (.cells #[.int k c] e)) (.slice (some ⟨w.heap.size, 0, none⟩) 1 1) [c] := sv_lit k w e [c] (by simp [maxLen])


set_option maxHeartbeats 1000000 in
theorem put_walk (x : Nat) (hx : x < 18446744073709551616) (w : World) :
    Calls Try.prog 86 #[.int .u64 x] w fun e w' => ∃ v, e = .returned v ∧ w'.ownsRow w.heap.size 5 1 v (Wm.enc x).length ((ib (Wm.enc x)).map (Value.int .u8)) ∧ Below w.heap.size w w' := by
  have hst := putrel_start x hx w
  have HST : Hid (PutRel x w.heap.size w (.int .u64 x) (.slice (some ⟨w.heap.size, 0, none⟩) 0 0) (w.alloc (.cells #[] 5))) := hst
  clear hst hx
  go_enter Try.func86, Try.ntmps86
  go_wp2
  go_loopw [0, 3] (fun xv v wr => PutRel x w.heap.size w xv v wr) (fun xv _ _ => (intOf xv).toNat)
  case atStart => exact HST.out
  case round =>
    obtain ⟨y, k, done, rfl, hyx, hk, henc, hlen, hown, hbel⟩ := hrel
    have HY : Hid (y ≤ x) := hyx
    have HK : Hid (y < 128 ^ (k + 1)) := hk
    have HE : Hid (done ++ Wm.encF k y = Wm.enc x) := henc
    have HL : Hid (done.length + k = 9) := hlen
    have hH : w.heap.size ≤ wr.heap.size := hbel.size
    have hor := or128 y
    clear hyx hk henc hlen HST
    by_cases hge : (128 : Int) ≤ (y : Int)
    · go_wp2_with (at_builtin; refine wpList_append_sv (by rfl) (.tmp 7) (.tmp 11) 121 (by rfl) w.heap.size 5 .u8 1 Try.underlying121 info_u8 _ _ _ (by rfl) (hown.alloc _) _ [_] (by rfl) (sv_one .u8 _ _ _) (by simp [maxLen]; have := HL.out; omega) (by simp; have := HL.out; omega) (by simp; omega) ?_; intro v' w1 hown' hgrow)
      have R := putrel_step hge HY.out HK.out HE.out HL.out hbel hH _ hown hown' hgrow rfl
      clear hown' hgrow
      go_wp2
      go_roundw
      case rel => exact R
      case measure => simp [intOf]; omega
    · go_wp2_with (at_builtin; refine wpList_append_sv (by rfl) (.tmp 15) (.tmp 18) 121 (by rfl) w.heap.size 5 .u8 1 Try.underlying121 info_u8 _ _ _ (by rfl) (hown.alloc _) _ [_] (by rfl) (sv_one .u8 _ _ _) (by simp [maxLen]; have := HL.out; omega) (by simp; have := HL.out; omega) (by simp; omega) ?_; intro v' w1 hown' hgrow)
      have R := putrel_done hge HE.out hbel hH _ hown hown' hgrow (by omega)
      clear hown' hgrow
      go_wp2
      go_ret
      exact ⟨_, rfl, R⟩


end Go.Proofs.Ytpndafieknddcaa

namespace Go.Proofs.Ytpndafieknddcaa

open Go.RowKit



/-- The value v is a slice of slices of bytes that hold ls. -/
def Pv (w : World) (v : Value) (ls : List (List Nat)) : Prop :=
  ∃ ao cap, v = .slice ao ls.length cap ∧ ls.length ≤ cap ∧ cap ≤ maxLen ∧ (ao = none → cap = 0) ∧
    ∀ i, i < ls.length → ∃ b off u, ao = some ⟨b, off, none⟩ ∧ w.cell? ⟨b, off + i, none⟩ = some u ∧ Bv w u (ls.getD i [])


theorem Pv.below {w w' : World} {v : Value} {ls : List (List Nat)} (h : Pv w v ls) (hb : Below w.heap.size w w') : Pv w' v ls := by
  obtain ⟨ao, cap, e, h1, h2, h3, h4⟩ := h
  refine ⟨ao, cap, e, h1, h2, h3, fun i hi => ?_⟩
  obtain ⟨b, off, u, e1, e2, e3⟩ := h4 i hi
  exact ⟨b, off, u, e1, by rw [hb.cell (p := ⟨b, off + i, none⟩) (cell_lt e2)]; exact e2, e3.below hb⟩


theorem flat_take_le (ls : List (List Nat)) (k : Nat) : (ls.take k).flatten.length ≤ ls.flatten.length := by
  have : ls.flatten = (ls.take k).flatten ++ (ls.drop k).flatten := by rw [← List.flatten_append, List.take_append_drop]
  rw [this]; simp


theorem flat_take_succ (ls : List (List Nat)) (k : Nat) (hk : k < ls.length) : (ls.take (k + 1)).flatten = (ls.take k).flatten ++ ls.getD k [] := by
  have e : ls.getD k [] = ls[k] := by simp [List.getD, List.getElem?_eq_getElem hk]
  rw [e, List.take_succ_eq_append_getElem hk, List.flatten_append, List.flatten_singleton]


/-- Join's loop: what has been joined. -/
def JoinRel (ls : List (List Nat)) (H : Nat) (w : World) (v iv : Value) (wr : World) : Prop :=
  ∃ k : Nat, k ≤ ls.length ∧ iv = .int .i64 k ∧ wr.ownsRow H 5 1 v (ls.take k).flatten.length ((ib (ls.take k).flatten).map (Value.int .u8)) ∧ Below H w wr


theorem joinrel_start (ls : List (List Nat)) (w : World) :
    JoinRel ls w.heap.size w (.slice (some ⟨w.heap.size, 0, none⟩) 0 0) (.int .i64 0) (w.alloc (.cells #[] 5)) :=
  ⟨0, Nat.zero_le _, rfl, World.ownsRow_made w #[] 0 (Nat.le_refl _) (by simp [maxLen]) rfl, below_alloc w _⟩


theorem joinrel_step {ls : List (List Nat)} {H k : Nat} {w wr w1 : World} {v v' : Value} {p : List Nat} (hp : ls.getD k [] = p) (hk : k < ls.length) (hH : H ≤ wr.heap.size) (hbel : Below H w wr)
    (hown : wr.ownsRow H 5 1 v (ls.take k).flatten.length ((ib (ls.take k).flatten).map (Value.int .u8)))
    (hown' : w1.ownsRow H 5 1 v' ((ls.take k).flatten.length + (ib p).length) ((ib (ls.take k).flatten).map (Value.int .u8) ++ (ib p).map (Value.int .u8))) (hg : wr.grownBy w1 v.ownBlock) :
    JoinRel ls H w v' (.int .i64 ((k : Int) + 1)) w1 := by
  refine ⟨k + 1, hk, rfl, ?_, hbel.trans (grown_below hown hg hH)⟩
  rw [flat_take_succ ls k hk, hp, List.length_append, ib_append, List.map_append]
  rw [ib_len] at hown'
  exact hown'












end Go.Proofs.Ytpndafieknddcaa
