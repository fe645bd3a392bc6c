/- What the words of binary64 stand for, as whole numbers: the order of two words is the order of their keys. Plain mathematics over the model's floats; no program. -/
import Derived.Test.YtofkhgokfdpdiabGreatChecked
import Derived.WalkKit
import Derived.Laws.BytesArg
import Derived.Laws.AppendOwnNone
import Derived.Deep.Draws
import Derived.Deep.Slices
import Derived.Laws.FloatArith
set_option maxRecDepth 100000
set_option maxHeartbeats 16000000
namespace Go.Proofs.YtofkhgokfdpdiabGreat.Wm

def encF : Nat → Nat → List Nat
 | 0, x => [x]
 | k + 1, x => if x < 128 then [x] else (x % 128 + 128) :: encF k (x / 128)
def enc (x : Nat) : List Nat := encF 9 x
def tk : List Nat → Nat → Nat → Nat × Nat × Nat
 | [], _, _ => (0, 0, 3)
 | c :: l, i, x =>
  if (0 < i ∧ c = 0) ∨ (i = 9 ∧ 1 < c) then (0, 0, 4)
  else if c < 128 then (x + c * 128 ^ i, i + 1, 0)
  else tk l (i + 1) (x + (c - 128) * 128 ^ i)
def take (l : List Nat) : Nat × Nat × Nat := tk l 0 0
theorem encF_len (k x : Nat) : 1 ≤ (encF k x).length ∧ (encF k x).length ≤ k + 1 := by
 induction k generalizing x with
 | zero => simp [encF]
 | succ k ih =>
  have := ih (x / 128)
  unfold encF
  split
  ·simp
  ·simp; omega
theorem enc_len (x : Nat) : 1 ≤ (enc x).length ∧ (enc x).length ≤ 10 := encF_len 9 x
theorem encF_lt (k x : Nat) (hx : x < 128 ^ (k + 1)) : ∀ c ∈ encF k x, c < 256 := by
 induction k generalizing x with
 | zero => intro c hc; simp [encF] at hc; simp at hx; omega
 | succ k ih =>
  intro c hc
  unfold encF at hc
  split at hc
  ·simp at hc; omega
  ·simp only [List.mem_cons] at hc
   rcases hc with rfl | hc
   ·omega
   ·exact ih (x / 128) (by rw [Nat.pow_succ] at hx; omega) c hc
theorem enc_lt (x : Nat) (hx : x < 18446744073709551616) : ∀ c ∈ enc x, c < 256 := by
 apply encF_lt 9 x; omega
theorem tk_encF (k : Nat) : ∀ (x i y : Nat) (r : List Nat), i + k = 9 → x * 128 ^ i < 18446744073709551616 → (0 < i → 0 < x) →
  tk (encF k x ++ r) i y = (y + x * 128 ^ i, i + (encF k x).length, 0) := by
 induction k with
 | zero =>
  intro x i y r hi hx h0
  obtain rfl : i = 9 := by omega
  have h1 := h0 (by omega)
  have h9 : (128 : Nat) ^ 9 = 9223372036854775808 := by decide
  rw [h9] at hx
  simp [encF, tk]
  have : x = 1 := by omega
  subst this
  simp
 | succ k ih =>
  intro x i y r hi hx h0
  have hi9 : i ≠ 9 := by omega
  unfold encF
  by_cases hs : x < 128
  ·rw [if_pos hs]
   simp only [List.cons_append, List.nil_append, tk, List.length_cons, List.length_nil]
   rw [if_neg, if_pos hs]
   rintro (⟨h, rfl⟩ | ⟨h, _⟩)
   ·have := h0 h; omega
   ·exact hi9 h
  ·rw [if_neg hs]
   simp only [List.cons_append, tk, List.length_cons]
   rw [if_neg (by rintro (⟨h, e⟩ | ⟨h, _⟩) <;> omega), if_neg (by omega)]
   have hpow : (128 : Nat) ^ (i + 1) = 128 ^ i * 128 := Nat.pow_succ ..
   have hsplit : x % 128 * 128 ^ i + x / 128 * 128 ^ (i + 1) = x * 128 ^ i := by
    rw [hpow, Nat.mul_comm (128 ^ i) 128, ← Nat.mul_assoc, ← Nat.add_mul]
    congr 1; omega
   rw [ih (x / 128) (i + 1) _ r (by omega) (by omega) (fun _ => by omega)]
   have e : x % 128 + 128 - 128 = x % 128 := by omega
   rw [e]
   refine Prod.ext ?_ (Prod.ext ?_ rfl)
   ·simp only; omega
   ·simp only; omega
theorem take_enc (x : Nat) (r : List Nat) (hx : x < 18446744073709551616) : take (enc x ++ r) = (x, (enc x).length, 0) := by
 have := tk_encF 9 x 0 0 r (by omega) (by simpa using hx) (by omega)
 simpa [take, enc] using this
theorem tk_form (k : Nat) : ∀ (l : List Nat) (i y : Nat), i + k = 9 → (∀ c ∈ l, c < 256) →
  (∃ e, tk l i y = (0, 0, e) ∧ (e = 3 ∨ e = 4)) ∨
  (∃ x n, tk l i y = (y + x * 128 ^ i, i + n, 0) ∧ (0 < i → 0 < x) ∧ x * 128 ^ i < 18446744073709551616 ∧ 1 ≤ n ∧ n ≤ l.length ∧ encF k x = l.take n) := by
 induction k with
 | zero =>
  intro l i y hi hl
  obtain rfl : i = 9 := by omega
  cases l with
  | nil => left; exact ⟨3, rfl, .inl rfl⟩
  | cons c l =>
   by_cases h : (0 < 9 ∧ c = 0) ∨ ((9 : Nat) = 9 ∧ 1 < c)
   ·left; exact ⟨4, by rw [tk, if_pos h], .inr rfl⟩
   ·right
    have hc : c = 1 := by omega
    subst hc
    exact ⟨1, 1, by simp [tk], by omega, by decide, by omega, by simp, by simp [encF]⟩
 | succ k ih =>
  intro l i y hi hl
  cases l with
  | nil => left; exact ⟨3, rfl, .inl rfl⟩
  | cons c l =>
   by_cases h : (0 < i ∧ c = 0) ∨ (i = 9 ∧ 1 < c)
   ·left; exact ⟨4, by simp only [tk]; rw [if_pos h], .inr rfl⟩
   ·have hpi : (128 : Nat) ^ i ≤ 128 ^ 8 := Nat.pow_le_pow_right (by omega) (by omega)
    have hp8 : (128 : Nat) ^ 8 = 72057594037927936 := by decide
    by_cases hs : c < 128
    ·right
     refine ⟨c, 1, by simp only [tk]; rw [if_neg h, if_pos hs], by omega, ?_, by omega, by simp, by simp [encF, hs]⟩
     have : c * 128 ^ i ≤ 127 * 128 ^ i := Nat.mul_le_mul_right _ (by omega)
     omega
    ·have hc := hl c (by simp)
     have hstep : tk (c :: l) i y = tk l (i + 1) (y + (c - 128) * 128 ^ i) := by
      simp only [tk]; rw [if_neg h, if_neg hs]
     have hpow : (128 : Nat) ^ (i + 1) = 128 ^ i * 128 := Nat.pow_succ ..
     rcases ih l (i + 1) (y + (c - 128) * 128 ^ i) (by omega) (fun d hd => hl d (by simp [hd])) with ⟨e, he, h34⟩ | ⟨x, n, he, h0, hx, h1, h2, h3⟩
     ·left; exact ⟨e, by rw [hstep, he], h34⟩
     ·right
      have hx0 := h0 (by omega)
      have hsum : (c - 128 + 128 * x) * 128 ^ i = (c - 128) * 128 ^ i + x * 128 ^ (i + 1) := by
       rw [hpow, Nat.add_mul, Nat.mul_comm (128 ^ i) 128, ← Nat.mul_assoc, Nat.mul_comm x 128]
      refine ⟨c - 128 + 128 * x, n + 1, ?_, by omega, ?_, by omega, by simp; omega, ?_⟩
      ·rw [hstep, he, hsum]
       refine Prod.ext ?_ (Prod.ext ?_ rfl) <;> simp only <;> omega
      ·rw [hsum]
       -- x * 128^(i+1) is a multiple of 128^(i+1) below 2^64
       rcases Nat.lt_or_ge i 8 with h8 | h8
       · -- 128^(i+1) divides 2^64 - room: x * 128^(i+1) <= 2^64 - 128^(i+1)
        have hdv : ∃ q, 18446744073709551616 = q * 128 ^ (i + 1) := by
         have : i = 0 ∨ i = 1 ∨ i = 2 ∨ i = 3 ∨ i = 4 ∨ i = 5 ∨ i = 6 ∨ i = 7 := by omega
         rcases this with rfl | rfl | rfl | rfl | rfl | rfl | rfl | rfl
         ·exact ⟨144115188075855872, by decide⟩
         ·exact ⟨1125899906842624, by decide⟩
         ·exact ⟨8796093022208, by decide⟩
         ·exact ⟨68719476736, by decide⟩
         ·exact ⟨536870912, by decide⟩
         ·exact ⟨4194304, by decide⟩
         ·exact ⟨32768, by decide⟩
         ·exact ⟨256, by decide⟩
        obtain ⟨q, hq⟩ := hdv
        have hlt : x < q := by
         rcases Nat.lt_or_ge x q with h | h
         ·exact h
         ·have := Nat.mul_le_mul_right (128 ^ (i + 1)) h; omega
        have h1' : (x + 1) * 128 ^ (i + 1) ≤ q * 128 ^ (i + 1) := Nat.mul_le_mul_right _ hlt
        have h2' : (c - 128) * 128 ^ i ≤ 127 * 128 ^ i := Nat.mul_le_mul_right _ (by omega)
        have h3' : 0 < 128 ^ i := Nat.pow_pos (by omega)
        rw [Nat.add_mul] at h1'
        omega
       ·obtain rfl : i = 8 := by omega
        have h9 : (128 : Nat) ^ (8 + 1) = 9223372036854775808 := by decide
        rw [h9] at hx ⊢
        rw [hp8]
        have hx1 : x = 1 := by omega
        have hc1 : c - 128 ≤ 127 := by omega
        have hc2 : (c - 128) * 72057594037927936 ≤ 127 * 72057594037927936 := Nat.mul_le_mul_right _ hc1
        rw [hx1]
        exact Nat.lt_of_le_of_lt (Nat.add_le_add_right hc2 _) (by decide)
      ·unfold encF
       rw [if_neg (by omega)]
       have e1 : (c - 128 + 128 * x) % 128 + 128 = c := by omega
       have e2 : (c - 128 + 128 * x) / 128 = x := by omega
       rw [e1, e2, h3]
       simp
theorem take_form (l : List Nat) (hl : ∀ c ∈ l, c < 256) :
  (∃ e, take l = (0, 0, e) ∧ (e = 3 ∨ e = 4)) ∨
  (∃ x n, take l = (x, n, 0) ∧ x < 18446744073709551616 ∧ 1 ≤ n ∧ n ≤ l.length ∧ enc x = l.take n) := by
 rcases tk_form 9 l 0 0 (by omega) hl with h | ⟨x, n, h, _, hx, h1, h2, h3⟩
 ·exact .inl h
 ·exact .inr ⟨x, n, by simpa [take] using h, by simpa using hx, h1, h2, h3⟩
def wdF : Nat → Nat → List Nat
 | 0, _ => []
 | k + 1, x => x % 256 :: wdF k (x / 256)
def wd (x : Nat) : List Nat := wdF 8 x
def unw : List Nat → Nat
 | [] => 0
 | c :: l => c + 256 * unw l
theorem wdF_len (k x : Nat) : (wdF k x).length = k := by
 induction k generalizing x with
 | zero => rfl
 | succ k ih => simp [wdF, ih]
theorem wd_len (x : Nat) : (wd x).length = 8 := wdF_len 8 x
theorem wdF_lt (k x : Nat) : ∀ c ∈ wdF k x, c < 256 := by
 induction k generalizing x with
 | zero => intro c hc; simp [wdF] at hc
 | succ k ih =>
  intro c hc
  simp only [wdF, List.mem_cons] at hc
  rcases hc with rfl | hc
  ·omega
  ·exact ih _ c hc
theorem unw_wdF (k x : Nat) (h : x < 256 ^ k) : unw (wdF k x) = x := by
 induction k generalizing x with
 | zero => simp at h; simp [wdF, unw, h]
 | succ k ih =>
  simp only [wdF, unw]
  rw [ih (x / 256) (by rw [Nat.pow_succ] at h; omega)]
  omega
theorem unw_wd (x : Nat) (h : x < 18446744073709551616) : unw (wd x) = x := unw_wdF 8 x h
theorem unw_lt (l : List Nat) (h : ∀ c ∈ l, c < 256) : unw l < 256 ^ l.length := by
 induction l with
 | nil => simp [unw]
 | cons c l ih =>
  have := ih (fun d hd => h d (by simp [hd]))
  have := h c (by simp)
  simp only [unw, List.length_cons, Nat.pow_succ]
  omega
def takeW (l : List Nat) : Nat × Nat := if l.length < 8 then (0, 3) else (unw (l.take 8), 0)
def takeRun (l : List Nat) : List Nat × Nat × Nat :=
 match take l with
 | (n, at', 0) => if l.length - at' < n then ([], 0, 3) else ((l.drop at').take n, at' + n, 0)
 | (_, _, e) => ([], 0, e)
def encAll : List Nat → List Nat
 | [] => []
 | x :: l => enc x ++ encAll l
def tnums : Nat → List Nat → Nat → List Nat → List Nat × Nat × Nat
 | 0, _, p, acc => (acc, p, 0)
 | k + 1, l, p, acc =>
  match take (l.drop p) with
  | (x, n, 0) => if 4611686018427387904 < x then ([], 0, 4) else tnums k l (p + n) (acc ++ [x])
  | (_, _, e) => ([], 0, e)
def takeNums (l : List Nat) (most : Int) : List Nat × Nat × Nat :=
 match take l with
 | (c, p, 0) => if most < (c : Int) then ([], 0, 6) else tnums c l p []
 | (_, _, e) => ([], 0, e)
end Go.Proofs.YtofkhgokfdpdiabGreat.Wm
namespace Go.Proofs.YtofkhgokfdpdiabGreat

open Go.RowKit

def Sl (k : IntKind) (w : World) (ao : Option Addr) (l : List Int) : Prop :=
 ∀ i, i < l.length → ∃ b off, ao = some ⟨b, off, none⟩ ∧ w.cell? ⟨b, off + i, none⟩ = some (.int k (l.getD i 0))
def Sv (k : IntKind) (w : World) (v : Value) (l : List Int) : Prop :=
 ∃ ao cap, v = .slice ao l.length cap ∧ l.length ≤ cap ∧ cap ≤ maxLen ∧ (ao = none → cap = 0) ∧ Sl k w ao l
def ib (l : List Nat) : List Int := l.map fun c : Nat => (c : Int)
theorem ib_len (l : List Nat) : (ib l).length = l.length := by simp [ib]
theorem ib_append (l r : List Nat) : ib (l ++ r) = ib l ++ ib r := by simp [ib]
def Bv (w : World) (v : Value) (l : List Nat) : Prop := Sv .u8 w v (ib l) ∧ ∀ c ∈ l, c < 256
theorem cell_lt {w : World} {a : Addr} {u : Value} (h : w.cell? a = some u) : a.block < w.heap.size := World.block_lt_of_cell? w a h
theorem Sl.below {k : IntKind} {w w' : World} {ao : Option Addr} {l : List Int} (h : Sl k w ao l) (hb : Below w.heap.size w w') : Sl k w' ao l := by
 intro i hi
 obtain ⟨b, off, e, hc⟩ := h i hi
 exact ⟨b, off, e, by rw [hb.cell (p := ⟨b, off + i, none⟩) (cell_lt hc)]; exact hc⟩
theorem Sv.below {k : IntKind} {w w' : World} {v : Value} {l : List Int} (h : Sv k w v l) (hb : Below w.heap.size w w') : Sv k w' v l := by
 obtain ⟨ao, cap, e, h1, h2, h3, h4⟩ := h
 exact ⟨ao, cap, e, h1, h2, h3, h4.below hb⟩
theorem Bv.below {w w' : World} {v : Value} {l : List Nat} (h : Bv w v l) (hb : Below w.heap.size w w') : Bv w' v l := ⟨h.1.below hb, h.2⟩
theorem below_alloc (w : World) (o : Obj) : Below w.heap.size w (w.alloc o) := (Below.refl _ _).alloc (Nat.le_refl _) o
theorem below_trans {w w1 w2 : World} (h : Below w.heap.size w w1) (k : Below w1.heap.size w1 w2) : Below w.heap.size w w2 :=
 h.trans (k.mono h.size)
theorem below_drew (w : World) : Below w.heap.size w w.drew := (Below.refl _ _).drew
theorem below_drewN (w : World) (n : Nat) : Below w.heap.size w (w.drewN n) := ⟨rfl, rfl, rfl, Nat.le_refl _, fun _ _ => rfl⟩
theorem Sv.nil (k : IntKind) (w : World) : Sv k w (.slice none 0 0) [] := ⟨none, 0, rfl, Nat.le_refl _, by simp [maxLen], fun _ => rfl, fun i hi => by simp at hi⟩
theorem Bv.nil (w : World) : Bv w (.slice none 0 0) [] := ⟨Sv.nil _ _, by simp⟩
theorem own_sv {k : IntKind} {w : World} {base e n : Nat} {v : Value} {l : List Int} (h : w.ownsRow base e 1 v n (l.map (Value.int k))) : Sv k w v l := by
 obtain ⟨h1, h2⟩ := h
 have hn : l.length = n := by simpa using h1
 subst hn
 rcases h2 with ⟨rfl, h0⟩ | ⟨g, cap, cur, rfl, hb, hg, hnc, hcm, hcs, htake⟩
 ·have : l = [] := List.eq_nil_of_length_eq_zero h0
  subst this
  exact Sv.nil k w
 ·refine ⟨_, cap, rfl, hnc, hcm, by simp, fun i hi => ⟨g, 0, rfl, ?_⟩⟩
  rw [Nat.zero_add, cell_of_row w g i cur e (0, 0) hg]
  have hh : (cur.toList.take (l.length * 1))[i]? = (l.map (Value.int k))[i]? := by rw [htake]
  rw [List.getElem?_take, if_pos (by omega)] at hh
  rw [← Array.getElem?_toList, hh]
  simp [List.getElem?_eq_getElem hi, List.getD]
theorem own_bv {w : World} {base e n : Nat} {v : Value} {l : List Nat} (h : w.ownsRow base e 1 v n ((ib l).map (Value.int .u8))) (hl : ∀ c ∈ l, c < 256) : Bv w v l := ⟨own_sv h, hl⟩
theorem sv_lit (k : IntKind) (w : World) (e : TypeId) (l : List Int) (hm : l.length ≤ maxLen) :
  Sv k (w.alloc (.cells (l.map (Value.int k)).toArray e)) (.slice (some ⟨w.heap.size, 0, none⟩) l.length l.length) l := by
 have := World.ownsRow_lit (base := w.heap.size) (e := e) (size := 1) w (l.map (Value.int k)).toArray l.length (Nat.le_refl _) hm (by simp)
 exact own_sv (by simpa using this)
theorem wpList_append_sv {P : Program} {w : World} {ops : Array Oper} {rest : List Oper} {o : Oper} {a : Act} {Q : Exit → Act → World → Prop} (hgd : o.guard = none) (s x : Operand) (t : TypeId)
  (ho : o.op = .call { callee := .builtin .append, args := #[s, x], argTypes := #[t, t] })
  (base : Nat) (e : TypeId) (k : IntKind) (bytes : Nat) (ht : P.underlying t = some (.slice e)) (hinf : (P.info? e).map (fun i => (i.zero, i.size, i.bytes)) = some (some (.int k 0), 1, bytes))
  (v : Value) (n : Nat) (xs : List Value) (hs : a.eval s = v) (hown : w.ownsRow base e 1 v n xs)
  (y : Value) (l : List Int) (hx : a.eval x = y) (hy : Sv k w y l)
  (h63 : n + l.length ≤ maxLen) (hbytes : (n + l.length) * bytes ≤ 140737488355328) (hbase : base ≤ w.heap.size)
  (h : ∀ v' w', w'.ownsRow base e 1 v' (n + l.length) (xs ++ l.map (Value.int k)) → w.grownBy w' v.ownBlock → wpList P ops Q rest (a.put o.dst v') w') : wpList P ops Q (o :: rest) a w := by
 obtain ⟨i0, hi, hz0, hz1, hz2⟩ := info_parts hinf
 obtain ⟨ao, cap, rfl, hc1, hc2, hnone, hcells⟩ := hy
 cases ao with
 | none =>
  obtain rfl := hnone rfl
  have hl0 : l.length = 0 := by omega
  have hl : l = [] := List.eq_nil_of_length_eq_zero hl0
  subst hl
  refine wpList_append_own_none hgd s x t ho base e i0 1 ht hi v n xs hs hown hx ?_
  exact h v w (by simpa using hown) ⟨rfl, rfl, rfl, Nat.le_refl _, fun _ _ _ => rfl⟩
 | some p =>
  refine wpList_append_own w hgd s x t ho base e i0 (.int k 0) 1 bytes ht hi hz0 hz1 hz2 rfl (by decide) v n xs hs hown p l.length cap (l.map (Value.int k)) hx (by simp) ?_ ?_ h63 hbytes hbase
   (fun v' w' h1 h2 _ => h v' w' h1 h2)
  ·intro j u hj
   have hjl : j < l.length := by
    rcases Nat.lt_or_ge j l.length with h | h
    ·exact h
    ·simp [List.getElem?_eq_none (show (l.map (Value.int k)).length ≤ j by simpa using h)] at hj
   obtain ⟨b, off, e1, e2⟩ := hcells j hjl
   cases e1
   rw [WideShapes.add_plain, e2]
   simp [List.getElem?_eq_getElem hjl] at hj
   simp [List.getD, List.getElem?_eq_getElem hjl, hj]
  ·intro u hu
   obtain ⟨z, _, rfl⟩ := List.mem_map.1 hu
   rfl
theorem grown_below {B : Nat} {w w' : World} {v : Value} {e n : Nat} {xs : List Value} (hown : w.ownsRow B e 1 v n xs) (hg : w.grownBy w' v.ownBlock) (hB : B ≤ w.heap.size) : Below B w w' :=
 (Below.refl B w).grown hg hB (fun k hk => (hown.lt k hk).1)
theorem Sl.cut {k : IntKind} {w : World} {ao : Option Addr} {l : List Int} (h : Sl k w ao l) (lo hi : Nat) (hlh : lo ≤ hi) (hh : hi ≤ l.length) (c : Prop) [Decidable c] (hc : lo < hi → ¬ c) :
  Sl k w (if c then ao else ao.map (·.add lo)) ((l.drop lo).take (hi - lo)) := by
 intro i hi'
 have hlt : i < hi - lo := by simp at hi'; omega
 obtain ⟨b, off, e, hcell⟩ := h (lo + i) (by omega)
 subst e
 refine ⟨b, off + lo, ?_, ?_⟩
 ·rw [if_neg (hc (by omega))]; simp [WideShapes.add_plain]
 ·rw [Nat.add_assoc, hcell]
  simp [List.getD, hlt, List.getElem?_drop]
theorem ib_drop_take (l : List Nat) (lo n : Nat) : ((ib l).drop lo).take n = ib ((l.drop lo).take n) := by
 simp [ib]
theorem Bv.cut {w : World} {ao : Option Addr} {cap : Nat} {l : List Nat} (h : Bv w (.slice ao l.length cap) l) (lo hi : Nat) (hlh : lo ≤ hi) (hh : hi ≤ l.length) (c : Prop) [Decidable c] (hc : c ↔ cap = lo) :
  Bv w (.slice (if c then ao else ao.map (·.add lo)) (hi - lo) (cap - lo)) ((l.drop lo).take (hi - lo)) := by
 obtain ⟨⟨ao', cap', e, h1, h2, h3, h4⟩, h5⟩ := h
 simp only [Value.slice.injEq, ib_len] at e
 obtain ⟨rfl, _, rfl⟩ := e
 rw [ib_len] at h1
 refine ⟨⟨if c then ao else ao.map (·.add lo), cap - lo, ?_, ?_, by omega, ?_, ?_⟩, ?_⟩
 ·rw [ib_len]; simp; omega
 ·rw [ib_len]; simp; omega
 ·intro hn
  by_cases hcc : c
  ·have := hc.1 hcc; omega
  ·rw [if_neg hcc] at hn
   cases ao with
   | none => have := h3 rfl; omega
   | some p => simp at hn
 ·rw [← ib_drop_take]
  exact h4.cut lo hi hlh (by rw [ib_len]; exact hh) c (fun hlt hcc => by have := hc.1 hcc; omega)
 ·intro d hd; exact h5 d (List.mem_of_mem_drop (List.mem_of_mem_take hd))
end Go.Proofs.YtofkhgokfdpdiabGreat
namespace Go.Proofs.YtofkhgokfdpdiabGreat

open Ieee

def rung (x : Nat) : Nat := x % 9223372036854775808
def negB (x : Nat) : Bool := decide (9223372036854775808 ≤ x)
def nanB (x : Nat) : Bool := decide (9218868437227405312 < rung x)
def mag (r : Nat) : Nat := if r < 4503599627370496 then r else 4503599627370496 + r % 4503599627370496
def sh (r : Nat) : Nat := r / 4503599627370496 - 1
def V (r : Nat) : Nat := mag r * 2 ^ sh r
def key (x : Nat) : Int := if negB x then -(rung x : Int) else rung x
theorem sw : Ieee.double.signWeight = 9223372036854775808 := by decide
theorem bn : Ieee.double.binade = 4503599627370496 := by decide
theorem ir : Ieee.double.infRung = 9218868437227405312 := by decide
theorem lp : Ieee.double.leastPlace = -1074 := by decide
theorem read_num {x : Nat} (hx : x < 18446744073709551616) (h : rung x < 9218868437227405312) :
  Ieee.double.read x = .number (negB x) (mag (rung x)) (-1074 + (sh (rung x) : Nat)) := by
 unfold Format.read
 simp only [sw, bn, ir, lp]
 have hn : (x / 9223372036854775808 % 2 == 1) = negB x := by
  unfold negB; rw [Bool.eq_iff_iff]; simp; omega
 rw [hn]
 change (if rung x < _ then _ else if rung x < _ then _ else _) = _
 by_cases h2 : rung x < 4503599627370496
 ·rw [if_pos h2]
  unfold mag sh
  rw [if_pos h2, Nat.div_eq_of_lt h2]; rfl
 ·rw [if_neg h2, if_pos h]
  unfold mag sh
  rw [if_neg h2]
  rfl
theorem read_inf {x : Nat} (hx : x < 18446744073709551616) (h : rung x = 9218868437227405312) :
  Ieee.double.read x = .infinity (negB x) := by
 unfold Format.read
 simp only [sw, bn, ir, lp]
 have hn : (x / 9223372036854775808 % 2 == 1) = negB x := by
  unfold negB; rw [Bool.eq_iff_iff]; simp; omega
 rw [hn]
 change (if rung x < _ then _ else if rung x < _ then _ else if rung x = _ then _ else _) = _
 rw [if_neg (by omega), if_neg (by omega), if_pos h]
theorem read_nan {x : Nat} (hx : x < 18446744073709551616) (h : 9218868437227405312 < rung x) :
  Ieee.double.read x = .nan (negB x) (rung x - 9218868437227405312) := by
 unfold Format.read
 simp only [sw, bn, ir, lp]
 have hn : (x / 9223372036854775808 % 2 == 1) = negB x := by
  unfold negB; rw [Bool.eq_iff_iff]; simp; omega
 rw [hn]
 change (if rung x < _ then _ else if rung x < _ then _ else if rung x = _ then _ else _) = _
 rw [if_neg (by omega), if_neg (by omega), if_neg (by omega)]
 rfl
theorem mag_lt (r : Nat) : mag r < 9007199254740992 := by unfold mag; split <;> omega
theorem V_small {r : Nat} (h : r < 9007199254740992) : V r = r := by
 unfold V mag sh
 by_cases h2 : r < 4503599627370496
 ·rw [if_pos h2, Nat.div_eq_of_lt h2]; simp
 ·rw [if_neg h2, show r / 4503599627370496 = 1 by omega]; simp; omega
theorem V_lt {r s : Nat} (h : r < s) : V r < V s := by
 by_cases hs : s < 9007199254740992
 ·rw [V_small hs, V_small (Nat.lt_trans h hs)]; exact h
 have ms : 4503599627370496 ≤ mag s := by unfold mag; split <;> omega
 by_cases hq : r / 4503599627370496 = s / 4503599627370496
 ·unfold V
  have : sh r = sh s := by unfold sh; rw [hq]
  rw [this]
  refine Nat.mul_lt_mul_of_pos_right ?_ (Nat.two_pow_pos _)
  unfold mag
  rw [if_neg (by omega), if_neg (by omega)]
  omega
 ·have h1 : sh r + 1 ≤ sh s := by unfold sh; omega
  have h2 : 2 ^ (sh r + 1) ≤ 2 ^ sh s := Nat.pow_le_pow_right (by omega) h1
  have h3 := mag_lt r
  have h4 : mag r * 2 ^ sh r < 9007199254740992 * 2 ^ sh r := Nat.mul_lt_mul_of_pos_right h3 (Nat.two_pow_pos _)
  have h5 : 4503599627370496 * 2 ^ sh s ≤ mag s * 2 ^ sh s := Nat.mul_le_mul_right _ ms
  unfold V
  rw [Nat.pow_succ] at h2
  omega
theorem V_lt_iff {r s : Nat} : V r < V s ↔ r < s := by
 constructor
 ·intro h
  rcases Nat.lt_trichotomy r s with h1 | h1 | h1
  ·exact h1
  ·subst h1; omega
  ·have := V_lt h1; omega
 ·exact V_lt
def cmpI (a b : Int) : Ordering := if a < b then .lt else if a = b then .eq else .gt
theorem compare_int (a b : Int) : compare a b = cmpI a b := rfl
theorem cmpI_mul (a b : Int) (c : Int) (hc : 0 < c) : cmpI (a * c) (b * c) = cmpI a b := by
 unfold cmpI
 have h1 : a * c < b * c ↔ a < b := ⟨fun h => Int.lt_of_mul_lt_mul_right h (Int.le_of_lt hc), fun h => Int.mul_lt_mul_of_pos_right h hc⟩
 have h2 : a * c = b * c ↔ a = b := ⟨fun h => Int.eq_of_mul_eq_mul_right (by omega) h, fun h => by rw [h]⟩
 simp only [h1, h2]
theorem signed_mul (s : Bool) (m a c : Nat) (h : c ≤ a) : signed s m (a - c) * (2 ^ c : Nat) = if s then -((m * 2 ^ a : Nat) : Int) else ((m * 2 ^ a : Nat) : Int) := by
 unfold signed
 have : m <<< (a - c) * 2 ^ c = m * 2 ^ a := by
  rw [Nat.shiftLeft_eq, Nat.mul_assoc, ← Nat.pow_add]; congr 2; omega
 cases s
 ·simp only [Bool.false_eq_true, if_false]; rw [← Int.natCast_mul, this]
 ·simp only [if_true]; rw [Int.neg_mul, ← Int.natCast_mul, this]
theorem order_numbers (s t : Bool) (m n a b : Nat) :
  (Datum.number s m (-1074 + (a : Nat))).order (.number t n (-1074 + (b : Nat))) = some (cmpI (if s then -((m * 2 ^ a : Nat) : Int) else ((m * 2 ^ a : Nat) : Int)) (if t then -((n * 2 ^ b : Nat) : Int) else ((n * 2 ^ b : Nat) : Int))) := by
 have e1 : ((-1074 + (a : Int)) - min (-1074 + (a : Int)) (-1074 + (b : Int))).toNat = a - min a b := by omega
 have e2 : ((-1074 + (b : Int)) - min (-1074 + (a : Int)) (-1074 + (b : Int))).toNat = b - min a b := by omega
 simp only [Datum.order, e1, e2, compare_int]
 congr 1
 rw [← signed_mul s m a (min a b) (by omega), ← signed_mul t n b (min a b) (by omega)]
 exact (cmpI_mul _ _ _ (by have := Nat.two_pow_pos (min a b); omega)).symm
theorem cmpI_keys (s t : Bool) (r q : Nat) :
  cmpI (if s then -((V r : Nat) : Int) else ((V r : Nat) : Int)) (if t then -((V q : Nat) : Int) else ((V q : Nat) : Int)) = cmpI (if s then -(r : Int) else r) (if t then -(q : Int) else q) := by
 have v0 : V 0 = 0 := by decide
 have h1 := @V_lt_iff r q
 have h2 := @V_lt_iff q r
 have h3 := @V_lt_iff 0 r
 have h4 := @V_lt_iff 0 q
 rw [v0] at h3 h4
 unfold cmpI
 cases s <;> cases t <;> simp only [Bool.false_eq_true, if_false, if_true] <;> (repeat' split) <;> first | rfl | (exfalso; omega)
theorem order_key {x y : Nat} (hx : x < 18446744073709551616) (hy : y < 18446744073709551616) (nx : nanB x = false) (ny : nanB y = false) :
  Ieee.double.order x y = some (cmpI (key x) (key y)) := by
 have nx' : ¬ 9218868437227405312 < rung x := by simpa [nanB] using nx
 have ny' : ¬ 9218868437227405312 < rung y := by simpa [nanB] using ny
 unfold Format.order
 by_cases ix : rung x = 9218868437227405312 <;> by_cases iy : rung y = 9218868437227405312
 ·rw [read_inf hx ix, read_inf hy iy]
  unfold key
  rw [ix, iy]
  cases negB x <;> cases negB y <;> rfl
 ·rw [read_inf hx ix, read_num hy (by omega)]
  have : rung y < 9218868437227405312 := by omega
  unfold key cmpI
  rw [ix]
  cases negB x <;> cases negB y <;> simp only [Datum.order, Bool.false_eq_true, if_false, if_true] <;> refine congrArg some ?_ <;> (repeat' split) <;> first | rfl | (exfalso; omega)
 ·rw [read_inf hy iy, read_num hx (by omega)]
  have : rung x < 9218868437227405312 := by omega
  unfold key cmpI
  rw [iy]
  cases negB x <;> cases negB y <;> simp only [Datum.order, Bool.false_eq_true, if_false, if_true] <;> refine congrArg some ?_ <;> (repeat' split) <;> first | rfl | (exfalso; omega)
 ·rw [read_num hx (by omega), read_num hy (by omega), order_numbers]
  congr 1
  exact cmpI_keys _ _ _ _
theorem order_nan_left {x y : Nat} (hx : x < 18446744073709551616) (nx : nanB x = true) : Ieee.double.order x y = none := by
 have nx' : 9218868437227405312 < rung x := by simpa [nanB] using nx
 unfold Format.order
 rw [read_nan hx nx']; rfl
theorem order_nan_right {x y : Nat} (hy : y < 18446744073709551616) (ny : nanB y = true) : Ieee.double.order x y = none := by
 have ny' : 9218868437227405312 < rung y := by simpa [nanB] using ny
 unfold Format.order
 rw [read_nan hy ny']
 generalize Ieee.double.read x = d
 generalize rung y - 9218868437227405312 = f
 cases d <;> rfl
theorem order_self {x : Nat} (hx : x < 18446744073709551616) : (Ieee.double.order x x != some .eq) = nanB x := by
 cases h : nanB x
 ·rw [order_key hx hx h h]; simp [cmpI]
 ·rw [order_nan_left hx h]; rfl
def rank (x : Nat) : Int := if nanB x then 9223372036854775807 else if negB x then -1 - ((x : Int) - 9223372036854775808) else x
def ordI (a b : Nat) : Int := if rank a < rank b then -1 else if rank b < rank a then 1 else 0
def canonW (x : Nat) : Nat := if nanB x then 9221120237041090561 else x
def leastW (a b : Nat) : Nat := if rank a ≤ rank b then canonW a else canonW b
def mostW (a b : Nat) : Nat := if rank b ≤ rank a then canonW a else canonW b
theorem neg_t {x : Nat} (h : negB x = true) : 9223372036854775808 ≤ x := by simpa [negB] using h
theorem neg_f {x : Nat} (h : negB x = false) : x < 9223372036854775808 := by simpa [negB] using h
theorem nan_t {x : Nat} (h : nanB x = true) : 9218868437227405312 < rung x := by simpa [nanB] using h
theorem nan_f {x : Nat} (h : nanB x = false) : rung x ≤ 9218868437227405312 := by simpa [nanB] using h
theorem rung_lt (x : Nat) : rung x < 9223372036854775808 := Nat.mod_lt _ (by omega)
theorem rung_of {x : Nat} (hx : x < 18446744073709551616) : rung x = if negB x then x - 9223372036854775808 else x := by
 unfold rung negB; simp only [decide_eq_true_eq]; split <;> omega
theorem ord_lt {a b : Nat} (ha : a < 18446744073709551616) (hb : b < 18446744073709551616) (h : Ieee.double.order a b = some .lt) : ordI a b = -1 := by
 cases na : nanB a
 ·cases nb : nanB b
  ·rw [order_key ha hb na nb] at h
   have hk : key a < key b := by
    unfold cmpI at h; split at h
    ·assumption
    ·split at h <;> cases h
   have ra := rung_of ha; have rb := rung_of hb
   unfold ordI rank; rw [na, nb]
   unfold key at hk
   cases sa : negB a <;> cases sb : negB b <;> (have ga := sa; have gb := sb; simp only [sa, sb, Bool.false_eq_true, if_false, if_true] at hk ra rb ⊢) <;> (first | replace ga := neg_t ga | replace ga := neg_f ga) <;> (first | replace gb := neg_t gb | replace gb := neg_f gb) <;> (rw [if_pos (by omega)])
  ·rw [order_nan_right hb nb] at h; cases h
 ·rw [order_nan_left ha na] at h; cases h
theorem ord_gt {a b : Nat} (ha : a < 18446744073709551616) (hb : b < 18446744073709551616) (h : Ieee.double.order a b = some .gt) : ordI a b = 1 := by
 cases na : nanB a
 ·cases nb : nanB b
  ·rw [order_key ha hb na nb] at h
   have hk : key b < key a := by
    unfold cmpI at h; split at h
    ·cases h
    ·split at h
     ·cases h
     ·omega
   have ra := rung_of ha; have rb := rung_of hb
   unfold ordI rank; rw [na, nb]
   unfold key at hk
   cases sa : negB a <;> cases sb : negB b <;> (have ga := sa; have gb := sb; simp only [sa, sb, Bool.false_eq_true, if_false, if_true] at hk ra rb ⊢) <;> (first | replace ga := neg_t ga | replace ga := neg_f ga) <;> (first | replace gb := neg_t gb | replace gb := neg_f gb) <;> (rw [if_neg (by omega), if_pos (by omega)])
  ·rw [order_nan_right hb nb] at h; cases h
 ·rw [order_nan_left ha na] at h; cases h
theorem ord_eq {a b : Nat} (ha : a < 18446744073709551616) (hb : b < 18446744073709551616) (h : Ieee.double.order a b = some .eq) :
  ordI a b = if negB a = negB b then 0 else if negB a then -1 else 1 := by
 cases na : nanB a
 ·cases nb : nanB b
  ·rw [order_key ha hb na nb] at h
   have hk : key a = key b := by
    unfold cmpI at h; split at h
    ·cases h
    ·split at h
     ·assumption
     ·cases h
   have ra := rung_of ha; have rb := rung_of hb
   unfold ordI rank; rw [na, nb]
   unfold key at hk
   cases sa : negB a <;> cases sb : negB b <;> (have ga := sa; have gb := sb; simp only [sa, sb, Bool.false_eq_true, if_false, if_true] at hk ra rb ⊢) <;> (first | replace ga := neg_t ga | replace ga := neg_f ga) <;> (first | replace gb := neg_t gb | replace gb := neg_f gb) <;> (try simp only [reduceCtorEq, if_false]) <;> (repeat' split) <;> omega
  ·rw [order_nan_right hb nb] at h; cases h
 ·rw [order_nan_left ha na] at h; cases h
theorem ord_none {a b : Nat} (ha : a < 18446744073709551616) (hb : b < 18446744073709551616) (h : Ieee.double.order a b = none) :
  ordI a b = if nanB a = nanB b then 0 else if nanB b then -1 else 1 := by
 have ra := rung_of ha; have rb := rung_of hb
 have la := rung_lt a; have lb := rung_lt b
 cases na : nanB a <;> cases nb : nanB b
 ·rw [order_key ha hb na nb] at h; cases h
 ·unfold ordI rank; rw [na, nb]
  unfold nanB at na nb; simp only [decide_eq_true_eq, decide_eq_false_iff_not] at na nb
  cases sa : negB a <;> (have ga := sa; simp only [sa, Bool.false_eq_true, if_false, if_true] at ra ⊢) <;> (first | replace ga := neg_t ga | replace ga := neg_f ga) <;> (simp; omega)
 ·unfold ordI rank; rw [na, nb]
  unfold nanB at na nb; simp only [decide_eq_true_eq, decide_eq_false_iff_not] at na nb
  cases sb : negB b <;> (have gb := sb; simp only [sb, Bool.false_eq_true, if_false, if_true] at rb ⊢) <;> (first | replace gb := neg_t gb | replace gb := neg_f gb) <;> (simp; omega)
 ·unfold ordI rank; rw [na, nb]; simp
end Go.Proofs.YtofkhgokfdpdiabGreat
