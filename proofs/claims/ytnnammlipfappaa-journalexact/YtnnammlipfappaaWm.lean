/- The plain mathematics of wire: numbers as bytes, seven bits a byte (enc, tk), words (wd). Nothing of the program is said here. -/
namespace Go.Proofs.Ytnnammlipfappaa.Wm



/-- A number's bytes, fuel k. -/
def encF : Nat → Nat → List Nat
  | 0, x => [x]
  | k + 1, x => if x < 128 then [x] else (x % 128 + 128) :: encF k (x / 128)


/-- A number's bytes (below 2^70). -/
def enc (x : Nat) : List Nat := encF 9 x


/-- Take's answer: the number, how many bytes, the error. -/
def tk : List Nat → Nat → Nat → Nat × Nat × Nat
  | [], _, _ => (0, 0, 3)
  | c :: l, i, x =>
    if (0 < i ∧ c = 0) ∨ (i = 9 ∧ 1 < c) then (0, 0, 4)
    else if c < 128 then (x + c * 128 ^ i, i + 1, 0)
    else tk l (i + 1) (x + (c - 128) * 128 ^ i)


def take (l : List Nat) : Nat × Nat × Nat := tk l 0 0


theorem encF_len (k x : Nat) : 1 ≤ (encF k x).length ∧ (encF k x).length ≤ k + 1 := by
  induction k generalizing x with
  | zero => simp [encF]
  | succ k ih =>
    have := ih (x / 128)
    unfold encF
    split
    · simp
    · simp; omega


theorem enc_len (x : Nat) : 1 ≤ (enc x).length ∧ (enc x).length ≤ 10 := encF_len 9 x


theorem encF_lt (k x : Nat) (hx : x < 128 ^ (k + 1)) : ∀ c ∈ encF k x, c < 256 := by
  induction k generalizing x with
  | zero => intro c hc; simp [encF] at hc; simp at hx; omega
  | succ k ih =>
    intro c hc
    unfold encF at hc
    split at hc
    · simp at hc; omega
    · simp only [List.mem_cons] at hc
      rcases hc with rfl | hc
      · omega
      · exact ih (x / 128) (by rw [Nat.pow_succ] at hx; omega) c hc


theorem enc_lt (x : Nat) (hx : x < 18446744073709551616) : ∀ c ∈ enc x, c < 256 := by
  apply encF_lt 9 x; omega


/-- Put's bytes read again, whatever stands behind. -/
theorem tk_encF (k : Nat) : ∀ (x i y : Nat) (r : List Nat), i + k = 9 → x * 128 ^ i < 18446744073709551616 → (0 < i → 0 < x) →
    tk (encF k x ++ r) i y = (y + x * 128 ^ i, i + (encF k x).length, 0) := by
  induction k with
  | zero =>
    intro x i y r hi hx h0
    obtain rfl : i = 9 := by omega
    have h1 := h0 (by omega)
    have h9 : (128 : Nat) ^ 9 = 9223372036854775808 := by decide
    rw [h9] at hx
    simp [encF, tk]
    have : x = 1 := by omega
    subst this
    simp
  | succ k ih =>
    intro x i y r hi hx h0
    have hi9 : i ≠ 9 := by omega
    unfold encF
    by_cases hs : x < 128
    · rw [if_pos hs]
      simp only [List.cons_append, List.nil_append, tk, List.length_cons, List.length_nil]
      rw [if_neg, if_pos hs]
      rintro (⟨h, rfl⟩ | ⟨h, _⟩)
      · have := h0 h; omega
      · exact hi9 h
    · rw [if_neg hs]
      simp only [List.cons_append, tk, List.length_cons]
      rw [if_neg (by rintro (⟨h, e⟩ | ⟨h, _⟩) <;> omega), if_neg (by omega)]
      have hpow : (128 : Nat) ^ (i + 1) = 128 ^ i * 128 := Nat.pow_succ ..
      have hsplit : x % 128 * 128 ^ i + x / 128 * 128 ^ (i + 1) = x * 128 ^ i := by
        rw [hpow, Nat.mul_comm (128 ^ i) 128, ← Nat.mul_assoc, ← Nat.add_mul]
        congr 1; omega
      rw [ih (x / 128) (i + 1) _ r (by omega) (by omega) (fun _ => by omega)]
      have e : x % 128 + 128 - 128 = x % 128 := by omega
      rw [e]
      refine Prod.ext ?_ (Prod.ext ?_ rfl)
      · simp only; omega
      · simp only; omega


theorem take_enc (x : Nat) (r : List Nat) (hx : x < 18446744073709551616) : take (enc x ++ r) = (x, (enc x).length, 0) := by
  have := tk_encF 9 x 0 0 r (by omega) (by simpa using hx) (by omega)
  simpa [take, enc] using this


/-- A beginning of a form is too short. -/
theorem tk_encF_short (k : Nat) : ∀ (x i y n : Nat), i + k = 9 → x * 128 ^ i < 18446744073709551616 → n < (encF k x).length →
    tk ((encF k x).take n) i y = (0, 0, 3) := by
  induction k with
  | zero =>
    intro x i y n hi hx hn
    simp [encF] at hn
    subst hn
    simp [tk]
  | succ k ih =>
    intro x i y n hi hx hn
    unfold encF at hn ⊢
    by_cases hs : x < 128
    · rw [if_pos hs] at hn ⊢
      simp at hn; subst hn; simp [tk]
    · rw [if_neg hs] at hn ⊢
      cases n with
      | zero => simp [tk]
      | succ n =>
        simp only [List.take_succ_cons, tk]
        rw [if_neg (by rintro (⟨h, e⟩ | ⟨h, _⟩) <;> omega), if_neg (by omega)]
        have hpow : (128 : Nat) ^ (i + 1) = 128 ^ i * 128 := Nat.pow_succ ..
        have hsplit : x % 128 * 128 ^ i + x / 128 * 128 ^ (i + 1) = x * 128 ^ i := by
          rw [hpow, Nat.mul_comm (128 ^ i) 128, ← Nat.mul_assoc, ← Nat.add_mul]
          congr 1; omega
        exact ih (x / 128) (i + 1) _ n (by omega) (by omega) (by simpa using hn)


theorem take_enc_short (x n : Nat) (hx : x < 18446744073709551616) (hn : n < (enc x).length) : take ((enc x).take n) = (0, 0, 3) :=
  tk_encF_short 9 x 0 0 n (by omega) (by simpa using hx) hn


/-- What tk answers: an error, or a form. -/
theorem tk_form (k : Nat) : ∀ (l : List Nat) (i y : Nat), i + k = 9 → (∀ c ∈ l, c < 256) →
    (∃ e, tk l i y = (0, 0, e) ∧ (e = 3 ∨ e = 4)) ∨
    (∃ x n, tk l i y = (y + x * 128 ^ i, i + n, 0) ∧ (0 < i → 0 < x) ∧ x * 128 ^ i < 18446744073709551616 ∧ 1 ≤ n ∧ n ≤ l.length ∧ encF k x = l.take n) := by
  induction k with
  | zero =>
    intro l i y hi hl
    obtain rfl : i = 9 := by omega
    cases l with
    | nil => left; exact ⟨3, rfl, .inl rfl⟩
    | cons c l =>
      by_cases h : (0 < 9 ∧ c = 0) ∨ ((9 : Nat) = 9 ∧ 1 < c)
      · left; exact ⟨4, by rw [tk, if_pos h], .inr rfl⟩
      · right
        have hc : c = 1 := by omega
        subst hc
        exact ⟨1, 1, by simp [tk], by omega, by decide, by omega, by simp, by simp [encF]⟩
  | succ k ih =>
    intro l i y hi hl
    cases l with
    | nil => left; exact ⟨3, rfl, .inl rfl⟩
    | cons c l =>
      by_cases h : (0 < i ∧ c = 0) ∨ (i = 9 ∧ 1 < c)
      · left; exact ⟨4, by simp only [tk]; rw [if_pos h], .inr rfl⟩
      · have hpi : (128 : Nat) ^ i ≤ 128 ^ 8 := Nat.pow_le_pow_right (by omega) (by omega)
        have hp8 : (128 : Nat) ^ 8 = 72057594037927936 := by decide
        by_cases hs : c < 128
        · right
          refine ⟨c, 1, by simp only [tk]; rw [if_neg h, if_pos hs], by omega, ?_, by omega, by simp, by simp [encF, hs]⟩
          have : c * 128 ^ i ≤ 127 * 128 ^ i := Nat.mul_le_mul_right _ (by omega)
          omega
        · have hc := hl c (by simp)
          have hstep : tk (c :: l) i y = tk l (i + 1) (y + (c - 128) * 128 ^ i) := by
            simp only [tk]; rw [if_neg h, if_neg hs]
          have hpow : (128 : Nat) ^ (i + 1) = 128 ^ i * 128 := Nat.pow_succ ..
          rcases ih l (i + 1) (y + (c - 128) * 128 ^ i) (by omega) (fun d hd => hl d (by simp [hd])) with ⟨e, he, h34⟩ | ⟨x, n, he, h0, hx, h1, h2, h3⟩
          · left; exact ⟨e, by rw [hstep, he], h34⟩
          · right
            have hx0 := h0 (by omega)
            have hsum : (c - 128 + 128 * x) * 128 ^ i = (c - 128) * 128 ^ i + x * 128 ^ (i + 1) := by
              rw [hpow, Nat.add_mul, Nat.mul_comm (128 ^ i) 128, ← Nat.mul_assoc, Nat.mul_comm x 128]
            refine ⟨c - 128 + 128 * x, n + 1, ?_, by omega, ?_, by omega, by simp; omega, ?_⟩
            · rw [hstep, he, hsum]
              refine Prod.ext ?_ (Prod.ext ?_ rfl) <;> simp only <;> omega
            · rw [hsum]
              -- x * 128^(i+1) is a multiple of 128^(i+1) below 2^64
              rcases Nat.lt_or_ge i 8 with h8 | h8
              · -- 128^(i+1) divides 2^64 - room: x * 128^(i+1) <= 2^64 - 128^(i+1)
                have hdv : ∃ q, 18446744073709551616 = q * 128 ^ (i + 1) := by
                  have : i = 0 ∨ i = 1 ∨ i = 2 ∨ i = 3 ∨ i = 4 ∨ i = 5 ∨ i = 6 ∨ i = 7 := by omega
                  rcases this with rfl | rfl | rfl | rfl | rfl | rfl | rfl | rfl
                  · exact ⟨144115188075855872, by decide⟩
                  · exact ⟨1125899906842624, by decide⟩
                  · exact ⟨8796093022208, by decide⟩
                  · exact ⟨68719476736, by decide⟩
                  · exact ⟨536870912, by decide⟩
                  · exact ⟨4194304, by decide⟩
                  · exact ⟨32768, by decide⟩
                  · exact ⟨256, by decide⟩
                obtain ⟨q, hq⟩ := hdv
                have hlt : x < q := by
                  rcases Nat.lt_or_ge x q with h | h
                  · exact h
                  · have := Nat.mul_le_mul_right (128 ^ (i + 1)) h; omega
                have h1' : (x + 1) * 128 ^ (i + 1) ≤ q * 128 ^ (i + 1) := Nat.mul_le_mul_right _ hlt
                have h2' : (c - 128) * 128 ^ i ≤ 127 * 128 ^ i := Nat.mul_le_mul_right _ (by omega)
                have h3' : 0 < 128 ^ i := Nat.pow_pos (by omega)
                rw [Nat.add_mul] at h1'
                omega
              · obtain rfl : i = 8 := by omega
                have h9 : (128 : Nat) ^ (8 + 1) = 9223372036854775808 := by decide
                rw [h9] at hx ⊢
                rw [hp8]
                have hx1 : x = 1 := by omega
                have hc1 : c - 128 ≤ 127 := by omega
                have hc2 : (c - 128) * 72057594037927936 ≤ 127 * 72057594037927936 := Nat.mul_le_mul_right _ hc1
                rw [hx1]
                exact Nat.lt_of_le_of_lt (Nat.add_le_add_right hc2 _) (by decide)
            · unfold encF
              rw [if_neg (by omega)]
              have e1 : (c - 128 + 128 * x) % 128 + 128 = c := by omega
              have e2 : (c - 128 + 128 * x) / 128 = x := by omega
              rw [e1, e2, h3]
              simp


/-- What Take takes is what Put makes of its answer. -/
theorem take_form (l : List Nat) (hl : ∀ c ∈ l, c < 256) :
    (∃ e, take l = (0, 0, e) ∧ (e = 3 ∨ e = 4)) ∨
    (∃ x n, take l = (x, n, 0) ∧ x < 18446744073709551616 ∧ 1 ≤ n ∧ n ≤ l.length ∧ enc x = l.take n) := by
  rcases tk_form 9 l 0 0 (by omega) hl with h | ⟨x, n, h, _, hx, h1, h2, h3⟩
  · exact .inl h
  · exact .inr ⟨x, n, by simpa [take] using h, by simpa using hx, h1, h2, h3⟩


theorem encF_mono (k : Nat) : ∀ x y : Nat, x ≤ y → (encF k x).length ≤ (encF k y).length := by
  induction k with
  | zero => intro x y _; simp [encF]
  | succ k ih =>
    intro x y h
    unfold encF
    by_cases hx : x < 128
    · rw [if_pos hx]
      split
      · simp
      · simp
    · rw [if_neg hx, if_neg (by omega)]
      have := ih (x / 128) (y / 128) (by omega)
      simp; omega


theorem enc_mono (x y : Nat) (h : x ≤ y) : (enc x).length ≤ (enc y).length := encF_mono 9 x y h


theorem encF_more (k x : Nat) (h : x < 128 ^ k) (h1 : 1 ≤ k) : encF k x = encF (k - 1) x := by
  induction k generalizing x with
  | zero => omega
  | succ k ih =>
    cases k with
    | zero => simp at h; simp [encF, h]
    | succ k =>
      have := ih (x / 128) (by rw [Nat.pow_succ] at h; omega) (by omega)
      simp only [Nat.add_sub_cancel] at this ⊢
      show (if x < 128 then [x] else (x % 128 + 128) :: encF (k + 1) (x / 128)) = (if x < 128 then [x] else (x % 128 + 128) :: encF k (x / 128))
      rw [this]


/-- Seven bits more are one byte more. -/
theorem enc_shift (x : Nat) (h0 : 0 < x) (h : x < 144115188075855872) : (enc (x * 128)).length = (enc x).length + 1 := by
  have e : enc x = encF 8 x := encF_more 9 x (by have : (128:Nat)^9 = 9223372036854775808 := by decide
                                                 omega) (by omega)
  rw [e]
  unfold enc
  rw [encF, if_neg (by omega)]
  have : x * 128 / 128 = x := by omega
  simp [this]


/-- A word's bytes: n of them. -/
def wdF : Nat → Nat → List Nat
  | 0, _ => []
  | k + 1, x => x % 256 :: wdF k (x / 256)


def wd (x : Nat) : List Nat := wdF 8 x


/-- The number of bytes, the lowest first. -/
def unw : List Nat → Nat
  | [] => 0
  | c :: l => c + 256 * unw l


theorem wdF_len (k x : Nat) : (wdF k x).length = k := by
  induction k generalizing x with
  | zero => rfl
  | succ k ih => simp [wdF, ih]


theorem wd_len (x : Nat) : (wd x).length = 8 := wdF_len 8 x


theorem wdF_lt (k x : Nat) : ∀ c ∈ wdF k x, c < 256 := by
  induction k generalizing x with
  | zero => intro c hc; simp [wdF] at hc
  | succ k ih =>
    intro c hc
    simp only [wdF, List.mem_cons] at hc
    rcases hc with rfl | hc
    · omega
    · exact ih _ c hc


theorem unw_wdF (k x : Nat) (h : x < 256 ^ k) : unw (wdF k x) = x := by
  induction k generalizing x with
  | zero => simp at h; simp [wdF, unw, h]
  | succ k ih =>
    simp only [wdF, unw]
    rw [ih (x / 256) (by rw [Nat.pow_succ] at h; omega)]
    omega


theorem unw_wd (x : Nat) (h : x < 18446744073709551616) : unw (wd x) = x := unw_wdF 8 x h


theorem unw_lt (l : List Nat) (h : ∀ c ∈ l, c < 256) : unw l < 256 ^ l.length := by
  induction l with
  | nil => simp [unw]
  | cons c l ih =>
    have := ih (fun d hd => h d (by simp [hd]))
    have := h c (by simp)
    simp only [unw, List.length_cons, Nat.pow_succ]
    omega


/-- TakeWord's answer. -/
def takeW (l : List Nat) : Nat × Nat := if l.length < 8 then (0, 3) else (unw (l.take 8), 0)


/-- TakeRun's answer: the bytes, how many of l, the error. -/
def takeRun (l : List Nat) : List Nat × Nat × Nat :=
  match take l with
  | (n, at', 0) => if l.length - at' < n then ([], 0, 3) else ((l.drop at').take n, at' + n, 0)
  | (_, _, e) => ([], 0, e)


/-- A list's numbers as bytes. -/
def encAll : List Nat → List Nat
  | [] => []
  | x :: l => enc x ++ encAll l


/-- n numbers of l, from place p on. -/
def tnums : Nat → List Nat → Nat → List Nat → List Nat × Nat × Nat
  | 0, _, p, acc => (acc, p, 0)
  | k + 1, l, p, acc =>
    match take (l.drop p) with
    | (x, n, 0) => if 4611686018427387904 < x then ([], 0, 4) else tnums k l (p + n) (acc ++ [x])
    | (_, _, e) => ([], 0, e)


/-- TakeNums' answer. -/
def takeNums (l : List Nat) (most : Int) : List Nat × Nat × Nat :=
  match take l with
  | (c, p, 0) => if most < (c : Int) then ([], 0, 6) else tnums c l p []
  | (_, _, e) => ([], 0, e)


end Go.Proofs.Ytnnammlipfappaa.Wm


