/- Rows of cells as lists: what they hold in a world, that it stays, cuts of them, appends. -/
import Derived.Test.YtofkhgokfdpdiabGreatB05
import Derived.Test.YtofkhgokfdpdiabGreatB02
import Derived.Test.YtofkhgokfdpdiabGreatB01
import Derived.Laws.BitsAllLaws
import Derived.Test.YtofkhgokfdpdiabGreatB03
import Derived.Lib.Hide
import Derived.Maps.AppendAt
set_option maxRecDepth 100000
set_option maxHeartbeats 16000000
namespace Go.Proofs.YtofkhgokfdpdiabGreat
section
open Ieee Go.RowKit
end
section
open Ieee Go.RowKit

theorem eq_valN (n : Nat) (v : Vl) (w : World) : (Op.equalIn (n + 1 + 1) 58 (.agg #[.bool v.h, .int .u64 v.b]) (.agg #[.bool v.h, .int .u64 v.b])).run Tryz.prog w = .ok true w := by
 have u0 := Tryz.underlying4
 have u1 := Tryz.underlying33
 have a0 := Tryz.isAgg4
 have a1 := Tryz.isAgg33
 have z0 := Tryz.sizeOf4
 have z1 := Tryz.sizeOf33
 have hS : Tryz.prog.underlying 58 = some (.struct (Tryz.prog.fieldsOf 58)) := by kernel_rfl
 have hp : Tryz.prog.stoodInHeld 58 = false := by kernel_rfl
 rw [run_equalIn_agg w (n + 1) 58 _ _ hS hp]
 simp only [Program.fieldsOf, Tryz.underlying58]
 go_simp
theorem eq_cell (c : Cl) (w : World) : (Op.equalIn 10000 63 (.agg #[.int .u64 c.k, .bool c.p.h, .int .u64 c.p.b, .bool c.c.h, .int .u64 c.c.b, .int .i64 c.n]) (.agg #[.int .u64 c.k, .bool c.p.h, .int .u64 c.p.b, .bool c.c.h, .int .u64 c.c.b, .int .i64 c.n])).run Tryz.prog w = .ok true w := by
 have u1 := Tryz.underlying33
 have u3 := Tryz.underlying3
 have a1 := Tryz.isAgg33
 have a2 := Tryz.isAgg58
 have a3 := Tryz.isAgg3
 have z1 := Tryz.sizeOf33
 have z2 := Tryz.sizeOf58
 have z3 := Tryz.sizeOf3
 have hv : ∀ w, (Op.equalIn 9999 58 (.agg #[.bool c.p.h, .int .u64 c.p.b]) (.agg #[.bool c.p.h, .int .u64 c.p.b])).run Tryz.prog w = .ok true w := eq_valN 9997 c.p
 have hu : ∀ w, (Op.equalIn 9999 58 (.agg #[.bool c.c.h, .int .u64 c.c.b]) (.agg #[.bool c.c.h, .int .u64 c.c.b])).run Tryz.prog w = .ok true w := eq_valN 9997 c.c
 have hS : Tryz.prog.underlying 63 = some (.struct (Tryz.prog.fieldsOf 63)) := by kernel_rfl
 have hp : Tryz.prog.stoodInHeld 63 = false := by kernel_rfl
 rw [show (10000 : Nat) = 9999 + 1 from rfl, run_equalIn_agg w 9999 63 _ _ hS hp]
 simp only [Program.fieldsOf, Tryz.underlying63]
 go_simp
theorem neq_cell (c : Cl) (w : World) : (binOp .neq 63 (.agg #[.int .u64 c.k, .bool c.p.h, .int .u64 c.p.b, .bool c.c.h, .int .u64 c.c.b, .int .i64 c.n]) (.agg #[.int .u64 c.k, .bool c.p.h, .int .u64 c.p.b, .bool c.c.h, .int .u64 c.c.b, .int .i64 c.n])).run Tryz.prog w = .ok (.bool false) w := by
 rw [run_neq_struct, eq_cell]; rfl
end
section
open Ieee Go.RowKit

def Gl {α : Type} (w : World) (ao : Option Addr) (n : Nat) (f : α → List Value) (l : List α) : Prop :=
 ∀ i, (h : i < l.length) → ∃ b off, ao = some ⟨b, off, none⟩ ∧ ∀ j, j < n → w.cell? ⟨b, off + (i * n + j), none⟩ = (f l[i])[j]?
def Gv {α : Type} (w : World) (v : Value) (n : Nat) (f : α → List Value) (l : List α) : Prop :=
 ∃ ao cap, v = .slice ao l.length cap ∧ l.length ≤ cap ∧ cap ≤ maxLen ∧ (ao = none → cap = 0) ∧ Gl w ao n f l
theorem Gl.below {α : Type} {w w' : World} {ao : Option Addr} {n : Nat} {f : α → List Value} {l : List α} (hf : ∀ a, (f a).length = n) (h : Gl w ao n f l) (hb : Below w.heap.size w w') : Gl w' ao n f l := by
 intro i hi
 obtain ⟨b, off, e, hc⟩ := h i hi
 refine ⟨b, off, e, fun j hj => ?_⟩
 have h1 := hc j hj
 have h2 : (f l[i])[j]? = some ((f l[i])[j]'(by rw [hf]; exact hj)) := List.getElem?_eq_getElem _
 rw [h2] at h1 ⊢
 rw [hb.cell (p := ⟨b, off + (i * n + j), none⟩) (cell_lt h1)]
 exact h1
structure At where
 a : Int
 b : Int
 v : Vl
structure Ro where
 p : Vl
 w : Vl
 f : Bool
 m : Bool
end
section
def Cl.okB (c : Cl) : Prop := c.k < 18446744073709551616 ∧ c.p.ok ∧ c.c.ok ∧ -9223372036854775808 ≤ c.n ∧ c.n < 9223372036854775808
def plainB (v : Vl) : Bool := v.h || decide (v.b = 0)
def writB (c : Cl) : Bool := decide (0 ≤ c.n) && decide (c.n ≤ 1099511627776) && plainB c.p && plainB c.c
def folB (o : Option Nat) (k : Nat) : Bool := match o with
 | none => true
 | some j => decide (j < k)
def encE : Option Nat → List Cl → Nat
 | _, [] => 0
 | o, c :: r => if folB o c.k = false then 7 else if writB c = false then 1 else encE (some c.k) r
def valB (v : Vl) : List Nat := if v.h = true then Wm.wd v.b else []
def flagN (c : Cl) : Nat := (if c.p.h = true then 1 else 0) + (if c.c.h = true then 2 else 0)
def cellBB (c : Cl) : List Nat := Wm.enc c.k ++ ([flagN c] ++ (valB c.p ++ (valB c.c ++ Wm.enc c.n.toNat)))
def allB : List Cl → List Nat
 | [] => []
 | c :: r => cellBB c ++ allB r
def encode (l : List Cl) : List Nat × Nat :=
 if 16 < l.length then ([], 6) else if l.length = 0 then ([], 0) else
 if encE none l = 0 then (Wm.enc l.length ++ allB l, 0) else ([], encE none l)
def oneV (t : Bool) (l : List Nat) : Nat × Vl × List Nat :=
 if t = false then (0, noV, l) else if l.length < 8 then (3, noV, []) else (0, ⟨true, Wm.unw (l.take 8)⟩, l.drop 8)
def oneN (k : Nat) (p c : Vl) (l : List Nat) : Nat × Cl × List Nat :=
 if (Wm.take l).2.2 ≠ 0 then ((Wm.take l).2.2, zeroC, []) else if 1099511627776 < (Wm.take l).1 then (4, zeroC, []) else (0, ⟨k, p, c, (Wm.take l).1⟩, l.drop (Wm.take l).2.1)
def oneW (k h : Nat) (l : List Nat) : Nat × Cl × List Nat :=
 if (oneV (decide (h % 2 = 1)) l).1 ≠ 0 then ((oneV (decide (h % 2 = 1)) l).1, zeroC, []) else
 if (oneV (decide (2 ≤ h)) (oneV (decide (h % 2 = 1)) l).2.2).1 ≠ 0 then ((oneV (decide (2 ≤ h)) (oneV (decide (h % 2 = 1)) l).2.2).1, zeroC, []) else
 oneN k (oneV (decide (h % 2 = 1)) l).2.1 (oneV (decide (2 ≤ h)) (oneV (decide (h % 2 = 1)) l).2.2).2.1 (oneV (decide (2 ≤ h)) (oneV (decide (h % 2 = 1)) l).2.2).2.2
def oneH (k : Nat) : List Nat → Nat × Cl × List Nat
 | [] => (3, zeroC, [])
 | h :: r => if 3 < h then (4, zeroC, []) else oneW k h r
def oneC (o : Option Nat) (l : List Nat) : Nat × Cl × List Nat :=
 if (Wm.take l).2.2 ≠ 0 then ((Wm.take l).2.2, zeroC, []) else if folB o (Wm.take l).1 = false then (7, zeroC, []) else oneH (Wm.take l).1 (l.drop (Wm.take l).2.1)
def decS : Nat → Option Nat → List Nat → Nat × List Cl × List Nat
 | 0, _, l => (0, [], l)
 | n + 1, o, l => if (oneC o l).1 ≠ 0 then ((oneC o l).1, [], []) else
   if (decS n (some (oneC o l).2.1.k) (oneC o l).2.2).1 ≠ 0 then ((decS n (some (oneC o l).2.1.k) (oneC o l).2.2).1, [], []) else
   (0, (oneC o l).2.1 :: (decS n (some (oneC o l).2.1.k) (oneC o l).2.2).2.1, (decS n (some (oneC o l).2.1.k) (oneC o l).2.2).2.2)
def decT (n : Nat) (l : List Nat) : List Cl × Nat :=
 if (decS n none l).1 ≠ 0 then ([], (decS n none l).1) else if (decS n none l).2.2.length ≠ 0 then ([], 5) else ((decS n none l).2.1, 0)
def decode (l : List Nat) : List Cl × Nat :=
 if l.length = 0 then ([], 0) else if (Wm.take l).2.2 ≠ 0 then ([], (Wm.take l).2.2) else if (Wm.take l).1 = 0 then ([], 4) else if 16 < (Wm.take l).1 then ([], 6) else
 decT (Wm.take l).1 (l.drop (Wm.take l).2.1)
theorem flag_le (c : Cl) : flagN c ≤ 3 := by unfold flagN; split <;> split <;> omega
theorem flag_odd (c : Cl) : decide (flagN c % 2 = 1) = c.p.h := by
 unfold flagN; cases c.p.h <;> cases c.c.h <;> simp
theorem flag_two (c : Cl) : decide (2 ≤ flagN c) = c.c.h := by
 unfold flagN; cases c.p.h <;> cases c.c.h <;> simp
theorem wd_lt (x : Nat) : ∀ c ∈ Wm.wd x, c < 256 := Wm.wdF_lt 8 x
theorem valB_lt (v : Vl) : ∀ c ∈ valB v, c < 256 := by
 unfold valB; split
 ·exact wd_lt _
 ·simp
theorem valB_len (v : Vl) : (valB v).length ≤ 8 := by
 unfold valB; split
 ·rw [Wm.wd_len]; omega
 ·simp
theorem writ_parts {c : Cl} (h : writB c = true) : 0 ≤ c.n ∧ c.n ≤ 1099511627776 ∧ plainB c.p = true ∧ plainB c.c = true := by
 simp only [writB, Bool.and_eq_true, decide_eq_true_eq] at h
 exact ⟨h.1.1.1, h.1.1.2, h.1.2, h.2⟩
theorem num_lt {c : Cl} (h : writB c = true) : c.n.toNat < 18446744073709551616 := by
 have := writ_parts h; omega
theorem cellB_lt {c : Cl} (hc : c.okB) (hw : writB c = true) : ∀ x ∈ cellBB c, x < 256 := by
 intro x hx
 simp only [cellBB, List.mem_append, List.mem_singleton] at hx
 rcases hx with h | rfl | h | h | h
 ·exact Wm.enc_lt _ hc.1 x h
 ·have := flag_le c; omega
 ·exact valB_lt _ x h
 ·exact valB_lt _ x h
 ·exact Wm.enc_lt _ (num_lt hw) x h
theorem cellB_len (c : Cl) : 1 ≤ (cellBB c).length ∧ (cellBB c).length ≤ 37 := by
 simp only [cellBB, List.length_append, List.length_singleton]
 have h1 := Wm.enc_len c.k
 have h2 := Wm.enc_len c.n.toNat
 have h3 := valB_len c.p
 have h4 := valB_len c.c
 omega
theorem allB_len (l : List Cl) : l.length ≤ (allB l).length ∧ (allB l).length ≤ 37 * l.length := by
 induction l with
 | nil => simp [allB]
 | cons c r ih => have := cellB_len c; simp only [allB, List.length_append, List.length_cons]; omega
theorem allB_append (l r : List Cl) : allB (l ++ r) = allB l ++ allB r := by
 induction l with
 | nil => rfl
 | cons c t ih => simp [allB, ih]
theorem oneV_of {v : Vl} (hv : v.ok) (hp : plainB v = true) (r : List Nat) : oneV v.h (valB v ++ r) = (0, v, r) := by
 obtain ⟨h, b⟩ := v
 cases h
 ·simp [plainB] at hp; subst hp; simp [oneV, valB, noV]
 ·have hl := Wm.wd_len b
  have : ¬ (valB ⟨true, b⟩ ++ r).length < 8 := by simp only [valB, if_true, List.length_append]; omega
  simp only [oneV, if_neg this]
  simp [valB, List.take_append_of_le_length (Nat.le_of_eq hl.symm), List.drop_append_of_le_length (Nat.le_of_eq hl.symm), List.take_of_length_le (Nat.le_of_eq hl), List.drop_of_length_le (Nat.le_of_eq hl), Wm.unw_wd b hv]
theorem wdF_unw (l : List Nat) (h : ∀ c ∈ l, c < 256) : Wm.wdF l.length (Wm.unw l) = l := by
 induction l with
 | nil => rfl
 | cons c r ih =>
  have h0 := h c (by simp)
  have e1 : (c + 256 * Wm.unw r) % 256 = c := by omega
  have e2 : (c + 256 * Wm.unw r) / 256 = Wm.unw r := by omega
  simp only [Wm.unw, List.length_cons, Wm.wdF, e1, e2, ih (fun d hd => h d (by simp [hd]))]
theorem oneV_back {t : Bool} {l r : List Nat} {v : Vl} (hl : ∀ c ∈ l, c < 256) (h : oneV t l = (0, v, r)) : l = valB v ++ r ∧ v.h = t ∧ plainB v = true ∧ v.ok := by
 cases t
 ·simp [oneV] at h
  obtain ⟨rfl, rfl⟩ := h
  simp [valB, noV, plainB, Vl.ok]
 ·by_cases h8 : l.length < 8
  ·simp [oneV, h8] at h
  ·simp [oneV, h8] at h
   obtain ⟨rfl, rfl⟩ := h
   have e : (l.take 8).length = 8 := by simp; omega
   have hlt : ∀ c ∈ l.take 8, c < 256 := fun c hc => hl c (List.mem_of_mem_take hc)
   refine ⟨?_, rfl, rfl, ?_⟩
   ·have := wdF_unw (l.take 8) hlt
    rw [e] at this
    simp only [valB, if_true, Wm.wd, this, List.take_append_drop]
   ·have := Wm.unw_lt (l.take 8) hlt
    rw [e] at this
    simpa [Vl.ok] using this
theorem oneN_of {c : Cl} (hw : writB c = true) (r : List Nat) : oneN c.k c.p c.c (Wm.enc c.n.toNat ++ r) = (0, c, r) := by
 have hp := writ_parts hw
 simp only [oneN, Wm.take_enc _ _ (num_lt hw)]
 rw [if_neg (by simp), if_neg (by omega)]
 have : ((c.n.toNat : Nat) : Int) = c.n := by omega
 simp [this]
theorem oneW_of {c : Cl} (hc : c.okB) (hw : writB c = true) (r : List Nat) : oneW c.k (flagN c) (valB c.p ++ (valB c.c ++ (Wm.enc c.n.toNat ++ r))) = (0, c, r) := by
 have hp := writ_parts hw
 simp only [oneW, flag_odd, flag_two, oneV_of hc.2.1 hp.2.2.1, oneV_of hc.2.2.1 hp.2.2.2]
 simp [oneN_of hw]
theorem oneC_of {o : Option Nat} {c : Cl} (hc : c.okB) (hw : writB c = true) (hf : folB o c.k = true) (r : List Nat) : oneC o (cellBB c ++ r) = (0, c, r) := by
 have e : cellBB c ++ r = Wm.enc c.k ++ (flagN c :: (valB c.p ++ (valB c.c ++ (Wm.enc c.n.toNat ++ r)))) := by simp [cellBB]
 rw [e]
 simp only [oneC, Wm.take_enc _ _ hc.1]
 rw [if_neg (by simp), if_neg (by simp [hf])]
 have : ¬ 3 < flagN c := by have := flag_le c; omega
 simp only [List.drop_append_of_le_length (Nat.le_refl _), List.drop_length, List.nil_append, oneH, if_neg this, oneW_of hc hw]
theorem take_cut {l : List Nat} {x n : Nat} (hl : ∀ c ∈ l, c < 256) (h : Wm.take l = (x, n, 0)) : l = Wm.enc x ++ l.drop n ∧ x < 18446744073709551616 ∧ n = (Wm.enc x).length := by
 rcases Wm.take_form l hl with ⟨e, h1, h2⟩ | ⟨y, m, h1, h2, h3, h4, h5⟩
 ·rw [h] at h1; simp at h1; omega
 ·rw [h] at h1
  simp at h1
  obtain ⟨rfl, rfl⟩ := h1
  refine ⟨by rw [h5, List.take_append_drop], h2, by rw [h5]; simp; omega⟩
theorem oneN_back {k : Nat} {p c : Vl} {d : Cl} {l r : List Nat} (hl : ∀ c ∈ l, c < 256) (h : oneN k p c l = (0, d, r)) : ∃ n : Nat, d = ⟨k, p, c, n⟩ ∧ n ≤ 1099511627776 ∧ l = Wm.enc n ++ r := by
 obtain ⟨x, n, e, ht⟩ : ∃ x n e, Wm.take l = (x, n, e) := ⟨_, _, _, rfl⟩
 simp only [oneN, ht] at h
 split at h
 ·rename_i h0; simp at h; omega
 ·rename_i h0
  have h0 : e = 0 := by omega
  subst h0
  split at h
  ·simp at h
  ·rename_i h1
   simp at h
   obtain ⟨rfl, rfl⟩ := h
   exact ⟨x, rfl, by omega, (take_cut hl ht).1⟩
theorem flag_of {h : Nat} {k : Nat} {p c : Vl} {n : Int} (h3 : h ≤ 3) (hp : p.h = decide (h % 2 = 1)) (hc : c.h = decide (2 ≤ h)) : flagN ⟨k, p, c, n⟩ = h := by
 simp only [flagN, hp, hc, decide_eq_true_eq]
 split <;> split <;> omega
theorem oneW_back {k h : Nat} {d : Cl} {l r : List Nat} (hl : ∀ c ∈ l, c < 256) (h3 : h ≤ 3) (hk : oneW k h l = (0, d, r)) :
  d.k = k ∧ flagN d = h ∧ d.p.ok ∧ d.c.ok ∧ writB d = true ∧ d.n < 9223372036854775808 ∧ l = valB d.p ++ (valB d.c ++ (Wm.enc d.n.toNat ++ r)) := by
 obtain ⟨e1, p, l1, E1⟩ : ∃ a b c, oneV (decide (h % 2 = 1)) l = (a, b, c) := ⟨_, _, _, rfl⟩
 simp only [oneW, E1] at hk
 obtain ⟨e2, c, l2, E2⟩ : ∃ a b c, oneV (decide (2 ≤ h)) l1 = (a, b, c) := ⟨_, _, _, rfl⟩
 simp only [E2] at hk
 split at hk
 ·simp at hk; omega
 ·rename_i q1
  split at hk
  ·simp at hk; omega
  ·rename_i q2
   have q1 : e1 = 0 := by omega
   have q2 : e2 = 0 := by omega
   subst q1 q2
   obtain ⟨a1, a2, a3, a4⟩ := oneV_back hl E1
   have hl1 : ∀ c ∈ l1, c < 256 := fun c hc => hl c (by rw [a1]; simp [hc])
   obtain ⟨b1, b2, b3, b4⟩ := oneV_back hl1 E2
   have hl2 : ∀ c ∈ l2, c < 256 := fun c hc => hl1 c (by rw [b1]; simp [hc])
   obtain ⟨n, rfl, hn, c1⟩ := oneN_back hl2 hk
   refine ⟨rfl, flag_of h3 a2 b2, a4, b4, ?_, by show (n : Int) < _; omega, ?_⟩
   ·simp only [writB, a3, b3, Bool.and_true, Bool.and_eq_true, decide_eq_true_eq]; omega
   ·show l = valB p ++ (valB c ++ (Wm.enc (n : Int).toNat ++ r))
    rw [Int.toNat_natCast, ← c1, ← b1, ← a1]
theorem oneC_back {o : Option Nat} {c : Cl} {l r : List Nat} (hl : ∀ c ∈ l, c < 256) (h : oneC o l = (0, c, r)) : l = cellBB c ++ r ∧ folB o c.k = true ∧ writB c = true ∧ c.okB := by
 obtain ⟨x, n, e, ht⟩ : ∃ x n e, Wm.take l = (x, n, e) := ⟨_, _, _, rfl⟩
 simp only [oneC, ht] at h
 split at h
 ·simp at h; omega
 ·rename_i h0
  have h0 : e = 0 := by omega
  subst h0
  obtain ⟨t1, t2, _⟩ := take_cut hl ht
  have hl1 : ∀ c ∈ l.drop n, c < 256 := fun c hc => hl c (List.mem_of_mem_drop hc)
  split at h
  ·simp at h
  ·rename_i h1
   cases hd : l.drop n with
   | nil => rw [hd] at h; simp [oneH] at h
   | cons f q =>
    rw [hd] at h t1 hl1
    simp only [oneH] at h
    split at h
    ·simp at h
    ·rename_i h2
     obtain ⟨a1, a2, a3, a4, a5, a6, a7⟩ := oneW_back (fun c hc => hl1 c (by simp [hc])) (by omega) h
     have hw := writ_parts a5
     refine ⟨?_, by rw [a1]; simpa using h1, a5, by rw [a1]; exact t2, a3, a4, by omega, a6⟩
     rw [t1, a7, cellBB, a1, a2]
     simp
end
section
open Go.RowKit

theorem info_u8 : (Tryz.prog.info? 5).map (fun i => (i.zero, i.size, i.bytes)) = some (some (.int .u8 0), 1, 1) := by kernel_rfl
theorem info_i64 : (Tryz.prog.info? 3).map (fun i => (i.zero, i.size, i.bytes)) = some (some (.int .i64 0), 1, 8) := by kernel_rfl
theorem or128_fin : ∀ a : Fin 256, (a.val ||| 128) = a.val % 128 + 128 := by decide +kernel
theorem or128 (y : Nat) : bits .or .u8 ((y : Int) % 256) 128 = (y : Int) % 128 + 128 := by
 have h := u8_or_nat (y % 256) 128 (by omega) (by omega)
 have e := or128_fin ⟨y % 256, by omega⟩
 simp only at e
 rw [e] at h
 have e2 : ((y % 256 : Nat) : Int) = (y : Int) % 256 := by omega
 rw [e2] at h
 rw [show ((128 : Nat) : Int) = 128 from rfl] at h
 rw [h]
 omega
theorem wrap_u64_id {z : Int} (h0 : 0 ≤ z) (h1 : z < 18446744073709551616) : IntKind.u64.wrap z = z := by
 rw [IntKind.wrap_u64]; omega
def PutRel (x H : Nat) (w : World) (xv v : Value) (wr : World) : Prop :=
 ∃ (y k : Nat) (done : List Nat), xv = .int .u64 y ∧ y ≤ x ∧ y < 128 ^ (k + 1) ∧ done ++ Wm.encF k y = Wm.enc x ∧ done.length + k = 9 ∧
  wr.ownsRow H 5 1 v done.length ((ib done).map (Value.int .u8)) ∧ Below H w wr
theorem putrel_start (x : Nat) (hx : x < 18446744073709551616) (w : World) :
  PutRel x w.heap.size w (.int .u64 x) (.slice (some ⟨w.heap.size, 0, none⟩) 0 0) (w.alloc (.cells #[] 5)) :=
 ⟨x, 9, [], rfl, Nat.le_refl _, Nat.lt_of_lt_of_le hx (by decide), rfl, rfl, World.ownsRow_made w #[] 0 (Nat.le_refl _) (by simp [maxLen]) rfl, below_alloc w _⟩
theorem putrel_step {x H y k : Nat} {done : List Nat} {w wr w1 : World} {v v' : Value} {c : Int} (hge : (128 : Int) ≤ y) (hyx : y ≤ x) (hk : y < 128 ^ (k + 1)) (henc : done ++ Wm.encF k y = Wm.enc x) (hlen : done.length + k = 9)
  (hbel : Below H w wr) (hH : H ≤ wr.heap.size) (o : Obj) (hown : wr.ownsRow H 5 1 v done.length ((ib done).map (Value.int .u8)))
  (hown' : w1.ownsRow H 5 1 v' (done.length + 1) ((ib done).map (Value.int .u8) ++ [c].map (Value.int .u8))) (hg : (wr.alloc o).grownBy w1 v.ownBlock) (hc : c = (y : Int) % 128 + 128) :
  PutRel x H w (.int .u64 ((y : Int) / 128)) v' w1 := by
 cases k with
 | zero => simp at hk; omega
 | succ k =>
  refine ⟨y / 128, k, done ++ [y % 128 + 128], ?_, by omega, ?_, ?_, by simp; omega, ?_, ?_⟩
  ·congr 1
  ·rw [Nat.pow_succ] at hk; omega
  ·rw [← henc]
   conv => rhs; rw [Wm.encF, if_neg (by omega)]
   simp
  ·subst hc
   have e : (ib (done ++ [y % 128 + 128])) = ib done ++ [(y : Int) % 128 + 128] := by simp [ib]
   rw [e]
   simpa using hown'
  ·exact hbel.trans (((below_alloc wr o).mono hH).trans (grown_below (hown.alloc o) hg (by simp; omega)))
theorem putrel_done {x H y k : Nat} {done : List Nat} {w wr w1 : World} {v v' : Value} {c : Int} (hge : (y : Int) < 128) (henc : done ++ Wm.encF k y = Wm.enc x)
  (hbel : Below H w wr) (hH : H ≤ wr.heap.size) (o : Obj) (hown : wr.ownsRow H 5 1 v done.length ((ib done).map (Value.int .u8)))
  (hown' : w1.ownsRow H 5 1 v' (done.length + 1) ((ib done).map (Value.int .u8) ++ [c].map (Value.int .u8))) (hg : (wr.alloc o).grownBy w1 v.ownBlock) (hc : c = (y : Int)) :
  w1.ownsRow H 5 1 v' (Wm.enc x).length ((ib (Wm.enc x)).map (Value.int .u8)) ∧ Below H w w1 := by
 have e : Wm.encF k y = [y] := by
  cases k with
  | zero => rfl
  | succ k => rw [Wm.encF, if_pos (by omega)]
 rw [e] at henc
 refine ⟨?_, hbel.trans (((below_alloc wr o).mono hH).trans (grown_below (hown.alloc o) hg (by simp; omega)))⟩
 rw [← henc]
 subst hc
 simpa [ib] using hown'
theorem sv_one (k : IntKind) (w : World) (e : TypeId) (c : Int) : Sv k (w.alloc (.cells #[.int k c] e)) (.slice (some ⟨w.heap.size, 0, none⟩) 1 1) [c] := sv_lit k w e [c] (by simp [maxLen])
theorem put_walk (x : Nat) (hx : x < 18446744073709551616) (w : World) :
  Calls Tryz.prog 122 #[.int .u64 x] w fun e w' => ∃ v, e = .returned v ∧ w'.ownsRow w.heap.size 5 1 v (Wm.enc x).length ((ib (Wm.enc x)).map (Value.int .u8)) ∧ Below w.heap.size w w' := by
 have hst := putrel_start x hx w
 have HST := hidH hst
 clear hst hx
 go_in
 go_wp2
 go_loopw [0, 3] (fun xv v wr => PutRel x w.heap.size w xv v wr) (fun xv _ _ => (intOf xv).toNat)
 case atStart => exact HST.out
 case round =>
  obtain ⟨y, k, done, rfl, hyx, hk, henc, hlen, hown, hbel⟩ := hrel
  have HY : Hid (y ≤ x) := hyx
  have HK : Hid (y < 128 ^ (k + 1)) := hk
  have HE : Hid (done ++ Wm.encF k y = Wm.enc x) := henc
  have HL : Hid (done.length + k = 9) := hlen
  have hH : w.heap.size ≤ wr.heap.size := hbel.size
  have hor := or128 y
  clear hyx hk henc hlen HST
  by_cases hge : (128 : Int) ≤ (y : Int)
  ·go_wp2_with (at_builtin; refine wpList_append_sv (by rfl) (.tmp 7) (.tmp 11) 78 (by rfl) w.heap.size 5 .u8 1 Tryz.underlying78 info_u8 _ _ _ (by rfl) (hown.alloc _) _ [_] (by rfl) (sv_one .u8 _ _ _) (by simp [maxLen]; have := HL.out; omega) (by simp; have := HL.out; omega) (by simp; omega) ?_; intro v' w1 hown' hgrow)
   have R := putrel_step hge HY.out HK.out HE.out HL.out hbel hH _ hown hown' hgrow rfl
   clear hown' hgrow
   go_wp2
   go_roundw
   case rel => exact R
   case measure => simp [intOf]; omega
  ·go_wp2_with (at_builtin; refine wpList_append_sv (by rfl) (.tmp 15) (.tmp 18) 78 (by rfl) w.heap.size 5 .u8 1 Tryz.underlying78 info_u8 _ _ _ (by rfl) (hown.alloc _) _ [_] (by rfl) (sv_one .u8 _ _ _) (by simp [maxLen]; have := HL.out; omega) (by simp; have := HL.out; omega) (by simp; omega) ?_; intro v' w1 hown' hgrow)
   have R := putrel_done hge HE.out hbel hH _ hown hown' hgrow (by omega)
   clear hown' hgrow
   go_wp2
   go_ret
   exact ⟨_, rfl, R⟩
end
section
open Go.RowKit

def clF (c : Cl) : List Value := [.int .u64 c.k, .bool c.p.h, .int .u64 c.p.b, .bool c.c.h, .int .u64 c.c.b, .int .i64 c.n]
def flatC (l : List Cl) : List Value := l.flatMap clF
theorem clF_len (c : Cl) : (clF c).length = 6 := rfl
theorem flatC_len (l : List Cl) : (flatC l).length = l.length * 6 := by
 induction l with
 | nil => rfl
 | cons c r ih => simp only [flatC, List.flatMap_cons, List.length_append, List.length_cons] at ih ⊢; rw [ih, clF_len]; omega
theorem flatC_append (l r : List Cl) : flatC (l ++ r) = flatC l ++ flatC r := by simp [flatC]
theorem flatC_get (l : List Cl) (i j : Nat) (hi : i < l.length) (hj : j < 6) : (flatC l)[i * 6 + j]? = (clF l[i])[j]? := by
 induction l generalizing i with
 | nil => simp at hi
 | cons c r ih =>
  have e : flatC (c :: r) = clF c ++ flatC r := rfl
  rw [e]
  cases i with
  | zero => rw [List.getElem?_append_left (by rw [clF_len]; omega)]; simp
  | succ i =>
   rw [List.getElem?_append_right (by rw [clF_len]; omega), clF_len, show (i + 1) * 6 + j - 6 = i * 6 + j from by omega, ih i (by simpa using hi)]
   simp
theorem flatC_one' {l : List Cl} {u : Value} (h : u ∈ flatC l) : u.oneCell' = true := by
 simp only [flatC, List.mem_flatMap] at h
 obtain ⟨c, _, hu⟩ := h
 simp only [clF, List.mem_cons, List.not_mem_nil, or_false] at hu
 rcases hu with rfl | rfl | rfl | rfl | rfl | rfl <;> rfl
abbrev Cv (w : World) (v : Value) (l : List Cl) : Prop := Gv w v 6 clF l
theorem Cv.below {w w' : World} {v : Value} {l : List Cl} (h : Cv w v l) (hb : Below w.heap.size w w') : Cv w' v l := by
 obtain ⟨ao, cap, e, h1, h2, h3, h4⟩ := h
 exact ⟨ao, cap, e, h1, h2, h3, h4.below clF_len hb⟩
theorem Cv.form {w : World} {v : Value} {l : List Cl} (h : Cv w v l) : ∃ ao cap, v = .slice ao l.length cap := by
 obtain ⟨ao, cap, e, _⟩ := h; exact ⟨ao, cap, e⟩
theorem Cv.nil (w : World) : Cv w (.slice none 0 0) [] := ⟨none, 0, rfl, by simp, by simp [maxLen], by simp, fun i hi => by simp at hi⟩
theorem Cv.len_le {w : World} {v : Value} {l : List Cl} (h : Cv w v l) : l.length ≤ maxLen := by
 obtain ⟨ao, cap, e, h1, h2, _⟩ := h; omega
structure CA (w : World) (b o : Nat) (c : Cl) : Prop where
 c0 : w.cell? ⟨b, o, none⟩ = some (.int .u64 c.k)
 c1 : w.cell? ⟨b, o + 1, none⟩ = some (.bool c.p.h)
 c2 : w.cell? ⟨b, o + 2, none⟩ = some (.int .u64 c.p.b)
 c3 : w.cell? ⟨b, o + 3, none⟩ = some (.bool c.c.h)
 c4 : w.cell? ⟨b, o + 4, none⟩ = some (.int .u64 c.c.b)
 c5 : w.cell? ⟨b, o + 5, none⟩ = some (.int .i64 c.n)
theorem CA.below {w w' : World} {b o B : Nat} {c : Cl} (h : CA w b o c) (hb : Below B w w') (hl : b < B) : CA w' b o c :=
 ⟨by rw [hb.cell (p := ⟨b, o, none⟩) hl]; exact h.c0, by rw [hb.cell (p := ⟨b, o + 1, none⟩) hl]; exact h.c1, by rw [hb.cell (p := ⟨b, o + 2, none⟩) hl]; exact h.c2, by rw [hb.cell (p := ⟨b, o + 3, none⟩) hl]; exact h.c3, by rw [hb.cell (p := ⟨b, o + 4, none⟩) hl]; exact h.c4, by rw [hb.cell (p := ⟨b, o + 5, none⟩) hl]; exact h.c5⟩
theorem CA.lt {w : World} {b o : Nat} {c : Cl} (h : CA w b o c) : b < w.heap.size := cell_lt h.c0
theorem CA.keep {w w' : World} {b o : Nat} {c : Cl} (h : CA w b o c) (hb : Below w.heap.size w w') : CA w' b o c := h.below hb h.lt
theorem cv_cases {w : World} {v : Value} {l : List Cl} (h : Cv w v l) :
  (l = [] ∧ ∃ ao cap, v = .slice ao 0 cap) ∨ ∃ b off cap, v = .slice (some ⟨b, off, none⟩) l.length cap ∧ 0 < l.length ∧ l.length ≤ cap ∧ cap ≤ maxLen ∧
   ∀ i, (hi : i < l.length) → CA w b (off + i * 6) l[i] := by
 obtain ⟨ao, cap, rfl, h1, h2, h3, h4⟩ := h
 by_cases h0 : l = []
 ·subst h0; exact .inl ⟨rfl, ao, cap, rfl⟩
 ·have hp := List.length_pos_iff.2 h0
  obtain ⟨b, off, rfl, _⟩ := h4 0 hp
  refine .inr ⟨b, off, cap, rfl, hp, h1, h2, fun i hi => ?_⟩
  obtain ⟨b', off', e1, e2⟩ := h4 i hi
  cases e1
  exact ⟨by simpa [clF, Nat.add_assoc] using e2 0 (by omega), by simpa [clF, Nat.add_assoc] using e2 1 (by omega), by simpa [clF, Nat.add_assoc] using e2 2 (by omega), by simpa [clF, Nat.add_assoc] using e2 3 (by omega), by simpa [clF, Nat.add_assoc] using e2 4 (by omega), by simpa [clF, Nat.add_assoc] using e2 5 (by omega)⟩
theorem cv_of {w : World} {b off cap : Nat} {l : List Cl} (h1 : l.length ≤ cap) (h2 : cap ≤ maxLen) (h : ∀ i, (hi : i < l.length) → CA w b (off + i * 6) l[i]) : Cv w (.slice (some ⟨b, off, none⟩) l.length cap) l := by
 refine ⟨_, cap, rfl, h1, h2, by simp, fun i hi => ⟨b, off, rfl, fun j hj => ?_⟩⟩
 obtain ⟨c0, c1, c2, c3, c4, c5⟩ := h i hi
 have : j = 0 ∨ j = 1 ∨ j = 2 ∨ j = 3 ∨ j = 4 ∨ j = 5 := by omega
 rcases this with rfl | rfl | rfl | rfl | rfl | rfl
 ·simpa [clF, Nat.add_assoc] using c0
 ·simpa [clF, Nat.add_assoc] using c1
 ·simpa [clF, Nat.add_assoc] using c2
 ·simpa [clF, Nat.add_assoc] using c3
 ·simpa [clF, Nat.add_assoc] using c4
 ·simpa [clF, Nat.add_assoc] using c5
theorem own_cv {w : World} {base e n : Nat} {v : Value} {l : List Cl} (h : w.ownsRow base e 6 v n (flatC l)) : Cv w v l ∧ n = l.length := by
 obtain ⟨h1, h2⟩ := h
 rw [flatC_len] at h1
 have hn : n = l.length := by omega
 subst hn
 refine ⟨?_, rfl⟩
 rcases h2 with ⟨rfl, h0⟩ | ⟨g, cap, cur, rfl, hb, hg, hnc, hcm, hcs, htake⟩
 ·have : l = [] := List.eq_nil_of_length_eq_zero h0
  subst this
  exact Cv.nil w
 ·refine ⟨_, cap, rfl, hnc, hcm, by simp, fun i hi => ⟨g, 0, rfl, fun j hj => ?_⟩⟩
  rw [Nat.zero_add, cell_of_row w g (i * 6 + j) cur e (0, 0) hg, ← flatC_get l i j hi hj, ← htake, List.getElem?_take, if_pos (by omega), Array.getElem?_toList]
theorem cap_cut {cap lo : Nat} {c : Prop} [Decidable c] (hc : c ↔ cap = lo) {ao : Option Addr} (h3 : ao = none → cap = 0) (hn : (if c then ao else ao.map (·.add (lo * 6))) = none) : cap - lo = 0 := by
 by_cases hcc : c
 ·have := hc.1 hcc; omega
 ·rw [if_neg hcc] at hn
  cases ao with
  | none => have := h3 rfl; omega
  | some p => simp at hn
theorem Cv.cut {w : World} {ao : Option Addr} {cap : Nat} {l : List Cl} (h : Cv w (.slice ao l.length cap) l) (lo hi : Nat) (hlh : lo ≤ hi) (hh : hi ≤ l.length) (c : Prop) [Decidable c] (hc : c ↔ cap = lo) :
  Cv w (.slice (if c then ao else ao.map (·.add (lo * 6))) (hi - lo) (cap - lo)) ((l.drop lo).take (hi - lo)) := by
 obtain ⟨ao', cap', e, h1, h2, h3, h4⟩ := h
 simp only [Value.slice.injEq] at e
 obtain ⟨rfl, _, rfl⟩ := e
 refine ⟨if c then ao else ao.map (·.add (lo * 6)), cap - lo, ?_, ?_, by omega, cap_cut hc h3, ?_⟩
 ·simp; omega
 ·simp; omega
 ·intro i hi'
  have hlt : i < hi - lo := by simp at hi'; omega
  obtain ⟨b, off, e, hcell⟩ := h4 (lo + i) (by omega)
  subst e
  refine ⟨b, off + lo * 6, ?_, fun j hj => ?_⟩
  ·rw [if_neg (fun hcc => by have := hc.1 hcc; omega)]; simp [WideShapes.add_plain]
  ·have := hcell j hj
   rw [show off + lo * 6 + (i * 6 + j) = off + ((lo + i) * 6 + j) from by omega, this]
   simp
theorem Cv.upto {w : World} {ao : Option Addr} {n cap : Nat} {l : List Cl} (h : Cv w (.slice ao n cap) l) (hi : Nat) (hh : hi ≤ l.length) : Cv w (.slice ao hi cap) (l.take hi) := by
 obtain ⟨ao', cap', e, h1, h2, h3, h4⟩ := h
 simp only [Value.slice.injEq] at e
 obtain ⟨rfl, _, rfl⟩ := e
 refine ⟨ao, cap, by simp; omega, by simp; omega, h2, h3, fun i hi' => ?_⟩
 have hlt : i < hi := by simp at hi'; omega
 obtain ⟨b, off, e, hcell⟩ := h4 i (by omega)
 exact ⟨b, off, e, fun j hj => by rw [hcell j hj]; simp⟩
theorem Cv.from {w : World} {ao : Option Addr} {cap : Nat} {l : List Cl} (h : Cv w (.slice ao l.length cap) l) (lo : Nat) (hlo : lo ≤ l.length) (hne : ¬ cap = lo) : Cv w (.slice (ao.map (·.add (lo * 6))) (l.length - lo) (cap - lo)) (l.drop lo) := by
 have := h.cut lo l.length hlo (Nat.le_refl _) False (by simp [hne])
 rw [List.take_of_length_le (by rw [List.length_drop]; omega)] at this
 simpa using this
theorem Cv.void {w : World} {ao : Option Addr} {l : List Cl} {lo : Nat} (h : l.length ≤ lo) : Cv w (.slice ao 0 0) (l.drop lo) := by
 rw [List.drop_eq_nil_of_le h]
 exact ⟨ao, 0, rfl, by simp, by simp [maxLen], by simp, fun i hi => by simp at hi⟩
theorem info_cell : (Tryz.prog.info? 63).map (fun i => (i.zero, i.size, i.bytes)) = some (some (.agg #[.int .u64 0, .bool false, .int .u64 0, .bool false, .int .u64 0, .int .i64 0]), 6, 48) := by kernel_rfl
theorem info_partsVB {P : Program} {e : TypeId} {z : Option Value} {s b : Nat} (h : (P.info? e).map (fun i => (i.zero, i.size, i.bytes)) = some (z, s, b)) : ∃ i, P.info? e = some i ∧ i.zero = z ∧ i.size = s ∧ i.bytes = b := by
 cases hi : P.info? e with
 | none => rw [hi] at h; cases h
 | some i =>
  rw [hi] at h
  simp at h
  exact ⟨i, rfl, h.1, h.2.1, h.2.2⟩
theorem cells_at {w : World} {b off : Nat} {l : List Cl} (h : ∀ i, (hi : i < l.length) → ∀ j, j < 6 → w.cell? ⟨b, off + (i * 6 + j), none⟩ = (clF l[i])[j]?) (j : Nat) (u : Value) (hj : (flatC l)[j]? = some u) : w.cell? ((⟨b, off, none⟩ : Addr).add j) = some u := by
 have hl : j < l.length * 6 := by
  rcases Nat.lt_or_ge j (flatC l).length with h | h
  ·rwa [flatC_len] at h
  ·rw [List.getElem?_eq_none h] at hj; cases hj
 have e : j = j / 6 * 6 + j % 6 := by omega
 have hi : j / 6 < l.length := by omega
 rw [WideShapes.add_plain]
 show w.cell? ⟨b, off + j, none⟩ = some u
 rw [e, h _ hi _ (by omega), ← flatC_get l _ _ hi (by omega), ← e, hj]
theorem wpList_append_cv {w : World} {ops : Array Oper} {rest : List Oper} {o : Oper} {a : Act} {Q : Exit → Act → World → Prop} (hgd : o.guard = none) (s x : Operand)
  (ho : o.op = .call { callee := .builtin .append, args := #[s, x], argTypes := #[46, 46] })
  (base : Nat) (v : Value) (n : Nat) (xs : List Value) (hs : a.eval s = v) (hown : w.ownsRow base 63 6 v n xs)
  (y : Value) (l : List Cl) (hx : a.eval x = y) (hy : Cv w y l)
  (h63 : n + l.length ≤ maxLen) (hbytes : (n + l.length) * 48 ≤ 140737488355328) (hbase : base ≤ w.heap.size)
  (h : ∀ v' w', w'.ownsRow base 63 6 v' (n + l.length) (xs ++ flatC l) → w.grownBy w' v.ownBlock → wpList Tryz.prog ops Q rest (a.put o.dst v') w') : wpList Tryz.prog ops Q (o :: rest) a w := by
 obtain ⟨i0, hi, hz0, hz1, hz2⟩ := info_partsVB info_cell
 obtain ⟨ao, cap, rfl, hc1, hc2, hnone, hcells⟩ := hy
 cases ao with
 | none =>
  obtain rfl := hnone rfl
  have hl0 : l.length = 0 := by omega
  have hl : l = [] := List.eq_nil_of_length_eq_zero hl0
  subst hl
  refine wpList_append_own_none hgd s x 46 ho base 63 i0 6 Tryz.underlying46 hi v n xs hs hown hx ?_
  exact h v w (by simpa [flatC] using hown) ⟨rfl, rfl, rfl, Nat.le_refl _, fun _ _ _ => rfl⟩
 | some p =>
  refine wpList_append_own w hgd s x 46 ho base 63 i0 (.agg #[.int .u64 0, .bool false, .int .u64 0, .bool false, .int .u64 0, .int .i64 0]) 6 48 Tryz.underlying46 hi hz0 hz1 hz2 rfl (by decide) v n xs hs hown p l.length cap (flatC l) hx (flatC_len l) ?_ (fun u hu => flatC_one' hu) h63 hbytes hbase
   (fun v' w' h1 h2 _ => h v' w' h1 h2)
  by_cases h0 : l = []
  ·subst h0; intro j u hj; simp [flatC] at hj
  ·obtain ⟨b, off, e, _⟩ := hcells 0 (List.length_pos_iff.2 h0)
   cases e
   exact fun j u hj => cells_at (fun i hi j hj => by obtain ⟨b', off', e1, e2⟩ := hcells i hi; cases e1; exact e2 j hj) j u hj
theorem grown_belowC {B : Nat} {w w' : World} {v : Value} {e n s : Nat} {xs : List Value} (hown : w.ownsRow B e s v n xs) (hg : w.grownBy w' v.ownBlock) (hB : B ≤ w.heap.size) : Below B w w' :=
 (Below.refl B w).grown hg hB (fun k hk => (hown.lt k hk).1)
theorem CB.keep {w w' : World} {b : Nat} {c : Cl} (h : CB w b c) (hb : Below w.heap.size w w') : CB w' b c := h.below hb (cell_lt h.c0)
end
end Go.Proofs.YtofkhgokfdpdiabGreat
