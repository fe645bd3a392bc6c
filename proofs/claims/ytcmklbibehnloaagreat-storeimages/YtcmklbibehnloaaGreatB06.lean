/- The plain mathematics of mark: marks as bytes and back. Nothing of the program is said here. -/
import Derived.Test.YtcmklbibehnloaaGreatB05
import Derived.Laws.StructEq
set_option maxRecDepth 100000
set_option maxHeartbeats 16000000
namespace Go.Proofs.YtcmklbibehnloaaGreat
open Go.RowKit
section
open Ieee Go.RowKit

attribute [local go_sem] run_bits run_frombits
theorem rfit_walk (k : Int) {v : Vl} (hv : v.ok) (w : World) :
  Calls Tryz.prog 125 #[.int .i64 k, .agg #[.bool v.h, .int .u64 v.b]] w fun e w' => e = .returned (.agg #[.bool (fitV k v).h, .int .u64 (fitV k v).b]) ∧ Below w.heap.size w w' := by
 obtain ⟨h, b⟩ := v
 cases hk : knownB k
 ·have hu := unknown_kind hk
  have e : fitV k ⟨h, b⟩ = noV := by
   unfold fitV
   split
   ·rfl
   rw [if_neg (by omega), if_neg (by omega)]
  rw [e];clear hu e;go_in;go_wp2_with (go_at_call 47; refine (rknown_walk _ _).mono ?_; rintro e w' ⟨rfl, rfl⟩);all_goals (refine bodyPost_ret (v := .agg #[.bool false, .int .u64 0]) (by simp [results, Tryz.results125, go_sem]) rfl ⟨rfl, ?_⟩; exact below_two _ _ _)
 have hk' := known_kind.1 hk
 cases h
 ·have e : fitV k ⟨false, b⟩ = noV := by unfold fitV; rw [if_pos rfl]
  rw [e];clear hk' e;go_in;go_wp2_with (go_at_call 47; refine (rknown_walk _ _).mono ?_; rintro e w' ⟨rfl, rfl⟩);all_goals (refine bodyPost_ret (v := .agg #[.bool false, .int .u64 0]) (by simp [results, Tryz.results125, go_sem]) rfl ⟨rfl, ?_⟩; exact below_two _ _ _)
 by_cases h12 : k = 1 ∨ k = 2
 ·have e : fitV k ⟨true, b⟩ = ⟨true, b⟩ := by unfold fitV; rw [if_neg (by simp), if_pos h12]
  rw [e];clear hk' e;rcases h12 with rfl | rfl
  all_goals
   go_in;go_wp2_with (go_at_call 47; refine (rknown_walk _ _).mono ?_; rintro e w' ⟨rfl, rfl⟩);refine bodyPost_ret (v := .agg #[.bool true, .int .u64 b]) (by simp [results, Tryz.results125, go_sem]) rfl ⟨rfl, ?_⟩;exact below_two _ _ _
 have h34 : k = 3 ∨ k = 4 := by omega
 have e : fitV k ⟨true, b⟩ = ofV k b := by
  unfold fitV ofV;rw [if_neg (by simp), if_neg h12, if_pos h34, if_neg (by omega), if_neg (by omega)]
 rw [e];clear hk' e h12;rcases h34 with rfl | rfl
 all_goals
  go_in
  go_wp2_with (first
   | (go_at_call 47; refine (rknown_walk _ _).mono ?_; rintro e w' ⟨rfl, rfl⟩)
   | (go_at_call 178; refine (from_walk _ _).mono ?_; rintro e w' ⟨rfl, rfl⟩))
  refine (rof_walk _ hv _).mono ?_;rintro e w1 ⟨rfl, hB⟩;obtain ⟨c0, c1, z0, z1⟩ := (vb_zero (w.alloc (Obj.cells #[Value.bool true, Value.int IntKind.u64 (b : Int)] 53))).below hB (by simp [go_sem]);have HB : Hid (Below w.heap.size w w1) := below_trans (below_two _ _ _) hB;clear hB;rw [size_alloc] at c0 c1 z0 z1;go_wp2_with fail;refine bodyPost_ret (by simp [results, Tryz.results125, go_sem, c0, c1]) rfl ⟨rfl, ?_⟩;exact keep_store HB.out _ (Nat.le_succ _) _ _
end
section
open Ieee Go.RowKit

structure Cl where
 k : Nat
 p : Vl
 c : Vl
 n : Int
def Cl.ok (c : Cl) : Prop := c.p.ok ∧ c.c.ok
def revC (c : Cl) (b : Int) : Cl := if b < 1 ∨ b ≠ c.n then c else ⟨c.k, c.p, c.p, c.n - 1⟩
def resC (c : Cl) (m : Int) : Vl := if c.n ≤ m then c.c else c.p
def empC (c : Cl) : Bool := !c.p.h && !c.c.h
def eqV (a b : Vl) : Bool := (a.h == b.h) && (a.b == b.b)
def fitC (k : Int) (c : Cl) : Bool := knownB k && eqV (fitV k c.p) c.p && eqV (fitV k c.c) c.c && decide (0 ≤ c.n) && decide (c.n ≤ 1099511627776)
def zeroC : Cl := ⟨0, noV, noV, 0⟩
def appI (k : Int) (c : Cl) (b : Int) : Int := if knownB k = false ∨ b < 1 then 1 else if b < c.n then 100 else 0
def aheadC (c : Cl) (b : Int) : Vl := if c.n < b then c.c else c.p
def appC (k : Int) (c : Cl) (b : Int) (v : Vl) : Cl := if appI k c b = 0 then ⟨c.k, aheadC c b, mergeV k (aheadC c b) v, b⟩ else zeroC
theorem sub_one {b : Int} (h : 1 ≤ b) (hb : b ≤ 9223372036854775807) : IntKind.i64.wrap (b - 1) = b - 1 := by
 rw [IntKind.wrap_i64];omega
theorem revert_walk (c : Cl) {b : Int} (hb : b ≤ 9223372036854775807) (w : World) :
  Calls Tryz.prog 182 #[.agg #[.int .u64 c.k, .bool c.p.h, .int .u64 c.p.b, .bool c.c.h, .int .u64 c.c.b, .int .i64 c.n], .int .i64 b] w fun e w' => e = .returned (.agg #[.int .u64 (revC c b).k, .bool (revC c b).p.h, .int .u64 (revC c b).p.b, .bool (revC c b).c.h, .int .u64 (revC c b).c.b, .int .i64 (revC c b).n]) ∧ Below w.heap.size w w' := by
 by_cases h : b < 1 ∨ b ≠ c.n
 ·have e : revC c b = c := if_pos h;rw [e];clear e;go_in;go_wp2_with fail
  all_goals first
   | (exfalso; simp_all; done)
   | (exfalso; simp_all; omega)
   | (refine bodyPost_ret (by simp [results, Tryz.results182, go_sem]) rfl ⟨rfl, ?_⟩; exact below_two _ _ _)
 ·have e : revC c b = ⟨c.k, c.p, c.p, c.n - 1⟩ := if_neg h;rw [e];clear e;have h1 : 1 ≤ b := by omega
  have h2 : b = c.n := by omega
  subst h2;have hs := sub_one h1 hb;clear h;go_in;go_wp2_with fail
  all_goals first
   | (exfalso; simp_all; done)
   | (exfalso; simp_all; omega)
   | (refine bodyPost_ret (by simp [results, Tryz.results182, go_sem]) rfl ⟨rfl, ?_⟩; exact below_two _ _ _)
theorem resolve_walk (c : Cl) (m : Int) (w : World) :
  Calls Tryz.prog 134 #[.agg #[.int .u64 c.k, .bool c.p.h, .int .u64 c.p.b, .bool c.c.h, .int .u64 c.c.b, .int .i64 c.n], .int .i64 m] w fun e w' => e = .returned (.agg #[.bool (resC c m).h, .int .u64 (resC c m).b]) ∧ Below w.heap.size w w' := by
 go_in;go_wp2_with fail
 ·rw [show resC c m = c.c from if_pos (by assumption)];exact bodyPost_ret (by simp [results, Tryz.results134, go_sem]) rfl ⟨rfl, below_two _ _ _⟩
 ·rw [show resC c m = c.p from if_neg (by omega)];exact bodyPost_ret (by simp [results, Tryz.results134, go_sem]) rfl ⟨rfl, below_two _ _ _⟩
theorem rresolve_walk (c : Cl) (m : Int) (w : World) :
  Calls Tryz.prog 67 #[.agg #[.int .u64 c.k, .bool c.p.h, .int .u64 c.p.b, .bool c.c.h, .int .u64 c.c.b, .int .i64 c.n], .int .i64 m] w fun e w' => e = .returned (.agg #[.bool (resC c m).h, .int .u64 (resC c m).b]) ∧ Below w.heap.size w w' := by
 go_in;go_wp2_with fail
 ·rw [show resC c m = c.c from if_pos (by assumption)];exact bodyPost_ret (by simp [results, Tryz.results67, go_sem]) rfl ⟨rfl, below_two _ _ _⟩
 ·rw [show resC c m = c.p from if_neg (by omega)];exact bodyPost_ret (by simp [results, Tryz.results67, go_sem]) rfl ⟨rfl, below_two _ _ _⟩
theorem empty_walk (c : Cl) (w : World) :
  Calls Tryz.prog 98 #[.agg #[.int .u64 c.k, .bool c.p.h, .int .u64 c.p.b, .bool c.c.h, .int .u64 c.c.b, .int .i64 c.n]] w fun e w' => e = .returned (.bool (empC c)) ∧ Below w.heap.size w w' := by
 unfold empC
 cases c.p.h <;> cases c.c.h
 all_goals
  go_in;go_wp2_with fail;go_ret;exact ⟨rfl, below_alloc _ _⟩
theorem rempty_walk (c : Cl) (w : World) :
  Calls Tryz.prog 115 #[.agg #[.int .u64 c.k, .bool c.p.h, .int .u64 c.p.b, .bool c.c.h, .int .u64 c.c.b, .int .i64 c.n]] w fun e w' => e = .returned (.bool (empC c)) ∧ Below w.heap.size w w' := by
 unfold empC
 cases c.p.h <;> cases c.c.h
 all_goals
  go_in;go_wp2_with fail;go_ret;exact ⟨rfl, below_alloc _ _⟩
theorem eql_gen (a b : Vl) (w : World) : (binOp .eql 53 (.agg #[.bool a.h, .int .u64 a.b]) (.agg #[.bool b.h, .int .u64 b.b])).run Tryz.prog w = .ok (.bool (eqV a b)) w := by
 have u0 := Tryz.underlying4;have u1 := Tryz.underlying37;have a0 := Tryz.isAgg4;have a1 := Tryz.isAgg37;have z0 := Tryz.sizeOf4;have z1 := Tryz.sizeOf37;have hS : Tryz.prog.underlying 53 = some (.struct (Tryz.prog.fieldsOf 53)) := by kernel_rfl
 have hp : Tryz.prog.stoodInHeld 53 = false := by kernel_rfl
 rw [run_eql_struct, show (10000 : Nat) = 9999 + 1 from rfl, run_equalIn_agg w 9999 53 _ _ hS hp];simp only [Program.fieldsOf, Tryz.underlying53];unfold eqV;by_cases h0 : a.h = b.h
 ·by_cases h1 : a.b = b.b
  ·rw [h0, h1];go_simp
  ·have h2 : (a.b == b.b) = false := by simpa using h1
   rw [h0, h2];go_simp;omega
 ·have h2 : (a.h == b.h) = false := by simpa using h0
  rw [h2];go_simp
end
def Cl.okB (c : Cl) : Prop := c.k < 18446744073709551616 ∧ c.p.ok ∧ c.c.ok ∧ -9223372036854775808 ≤ c.n ∧ c.n < 9223372036854775808
def plainB (v : Vl) : Bool := v.h || decide (v.b = 0)
def writB (c : Cl) : Bool := decide (0 ≤ c.n) && decide (c.n ≤ 1099511627776) && plainB c.p && plainB c.c
def folB (o : Option Nat) (k : Nat) : Bool := match o with
 | none => true
 | some j => decide (j < k)
def encE : Option Nat → List Cl → Nat
 | _, [] => 0
 | o, c :: r => if folB o c.k = false then 7 else if writB c = false then 1 else encE (some c.k) r
def valB (v : Vl) : List Nat := if v.h = true then Wm.wd v.b else []
def flagN (c : Cl) : Nat := (if c.p.h = true then 1 else 0) + (if c.c.h = true then 2 else 0)
def cellBB (c : Cl) : List Nat := Wm.enc c.k ++ ([flagN c] ++ (valB c.p ++ (valB c.c ++ Wm.enc c.n.toNat)))
def allB : List Cl → List Nat
 | [] => []
 | c :: r => cellBB c ++ allB r
def encode (l : List Cl) : List Nat × Nat :=
 if 16 < l.length then ([], 6) else if l.length = 0 then ([], 0) else
 if encE none l = 0 then (Wm.enc l.length ++ allB l, 0) else ([], encE none l)
def oneV (t : Bool) (l : List Nat) : Nat × Vl × List Nat :=
 if t = false then (0, noV, l) else if l.length < 8 then (3, noV, []) else (0, ⟨true, Wm.unw (l.take 8)⟩, l.drop 8)
def oneN (k : Nat) (p c : Vl) (l : List Nat) : Nat × Cl × List Nat :=
 if (Wm.take l).2.2 ≠ 0 then ((Wm.take l).2.2, zeroC, []) else if 1099511627776 < (Wm.take l).1 then (4, zeroC, []) else (0, ⟨k, p, c, (Wm.take l).1⟩, l.drop (Wm.take l).2.1)
def oneW (k h : Nat) (l : List Nat) : Nat × Cl × List Nat :=
 if (oneV (decide (h % 2 = 1)) l).1 ≠ 0 then ((oneV (decide (h % 2 = 1)) l).1, zeroC, []) else
 if (oneV (decide (2 ≤ h)) (oneV (decide (h % 2 = 1)) l).2.2).1 ≠ 0 then ((oneV (decide (2 ≤ h)) (oneV (decide (h % 2 = 1)) l).2.2).1, zeroC, []) else
 oneN k (oneV (decide (h % 2 = 1)) l).2.1 (oneV (decide (2 ≤ h)) (oneV (decide (h % 2 = 1)) l).2.2).2.1 (oneV (decide (2 ≤ h)) (oneV (decide (h % 2 = 1)) l).2.2).2.2
def oneH (k : Nat) : List Nat → Nat × Cl × List Nat
 | [] => (3, zeroC, [])
 | h :: r => if 3 < h then (4, zeroC, []) else oneW k h r
def oneC (o : Option Nat) (l : List Nat) : Nat × Cl × List Nat :=
 if (Wm.take l).2.2 ≠ 0 then ((Wm.take l).2.2, zeroC, []) else if folB o (Wm.take l).1 = false then (7, zeroC, []) else oneH (Wm.take l).1 (l.drop (Wm.take l).2.1)
def decS : Nat → Option Nat → List Nat → Nat × List Cl × List Nat
 | 0, _, l => (0, [], l)
 | n + 1, o, l => if (oneC o l).1 ≠ 0 then ((oneC o l).1, [], []) else
   if (decS n (some (oneC o l).2.1.k) (oneC o l).2.2).1 ≠ 0 then ((decS n (some (oneC o l).2.1.k) (oneC o l).2.2).1, [], []) else
   (0, (oneC o l).2.1 :: (decS n (some (oneC o l).2.1.k) (oneC o l).2.2).2.1, (decS n (some (oneC o l).2.1.k) (oneC o l).2.2).2.2)
def decT (n : Nat) (l : List Nat) : List Cl × Nat :=
 if (decS n none l).1 ≠ 0 then ([], (decS n none l).1) else if (decS n none l).2.2.length ≠ 0 then ([], 5) else ((decS n none l).2.1, 0)
def decode (l : List Nat) : List Cl × Nat :=
 if l.length = 0 then ([], 0) else if (Wm.take l).2.2 ≠ 0 then ([], (Wm.take l).2.2) else if (Wm.take l).1 = 0 then ([], 4) else if 16 < (Wm.take l).1 then ([], 6) else
 decT (Wm.take l).1 (l.drop (Wm.take l).2.1)
theorem flag_le (c : Cl) : flagN c ≤ 3 := by unfold flagN; split <;> split <;> omega
theorem flag_odd (c : Cl) : decide (flagN c % 2 = 1) = c.p.h := by
 unfold flagN; cases c.p.h <;> cases c.c.h <;> simp
theorem flag_two (c : Cl) : decide (2 ≤ flagN c) = c.c.h := by
 unfold flagN; cases c.p.h <;> cases c.c.h <;> simp
theorem wd_lt (x : Nat) : ∀ c ∈ Wm.wd x, c < 256 := Wm.wdF_lt 8 x
theorem valB_lt (v : Vl) : ∀ c ∈ valB v, c < 256 := by
 unfold valB; split
 ·exact wd_lt _
 ·simp
theorem valB_len (v : Vl) : (valB v).length ≤ 8 := by
 unfold valB; split
 ·rw [Wm.wd_len]; omega
 ·simp
theorem writ_parts {c : Cl} (h : writB c = true) : 0 ≤ c.n ∧ c.n ≤ 1099511627776 ∧ plainB c.p = true ∧ plainB c.c = true := by
 simp only [writB, Bool.and_eq_true, decide_eq_true_eq] at h;exact ⟨h.1.1.1, h.1.1.2, h.1.2, h.2⟩
theorem num_lt {c : Cl} (h : writB c = true) : c.n.toNat < 18446744073709551616 := by
 have := writ_parts h; omega
theorem cellB_lt {c : Cl} (hc : c.okB) (hw : writB c = true) : ∀ x ∈ cellBB c, x < 256 := by
 intro x hx;simp only [cellBB, List.mem_append, List.mem_singleton] at hx;rcases hx with h | rfl | h | h | h
 ·exact Wm.enc_lt _ hc.1 x h
 ·have := flag_le c; omega
 ·exact valB_lt _ x h
 ·exact valB_lt _ x h
 ·exact Wm.enc_lt _ (num_lt hw) x h
theorem cellB_len (c : Cl) : 1 ≤ (cellBB c).length ∧ (cellBB c).length ≤ 37 := by
 simp only [cellBB, List.length_append, List.length_singleton];have h1 := Wm.enc_len c.k;have h2 := Wm.enc_len c.n.toNat;have h3 := valB_len c.p;have h4 := valB_len c.c;omega
theorem allB_len (l : List Cl) : l.length ≤ (allB l).length ∧ (allB l).length ≤ 37 * l.length := by
 induction l with
 | nil => simp [allB]
 | cons c r ih => have := cellB_len c; simp only [allB, List.length_append, List.length_cons]; omega
theorem allB_append (l r : List Cl) : allB (l ++ r) = allB l ++ allB r := by
 induction l with
 | nil => rfl
 | cons c t ih => simp [allB, ih]
theorem oneV_of {v : Vl} (hv : v.ok) (hp : plainB v = true) (r : List Nat) : oneV v.h (valB v ++ r) = (0, v, r) := by
 obtain ⟨h, b⟩ := v
 cases h
 ·simp [plainB] at hp; subst hp; simp [oneV, valB, noV]
 ·have hl := Wm.wd_len b;have : ¬ (valB ⟨true, b⟩ ++ r).length < 8 := by simp only [valB, if_true, List.length_append]; omega
  simp only [oneV, if_neg this];simp [valB, List.take_append_of_le_length (Nat.le_of_eq hl.symm), List.drop_append_of_le_length (Nat.le_of_eq hl.symm), List.take_of_length_le (Nat.le_of_eq hl), List.drop_of_length_le (Nat.le_of_eq hl), Wm.unw_wd b hv]
theorem wdF_unw (l : List Nat) (h : ∀ c ∈ l, c < 256) : Wm.wdF l.length (Wm.unw l) = l := by
 induction l with
 | nil => rfl
 | cons c r ih =>
  have h0 := h c (by simp);have e1 : (c + 256 * Wm.unw r) % 256 = c := by omega
  have e2 : (c + 256 * Wm.unw r) / 256 = Wm.unw r := by omega
  simp only [Wm.unw, List.length_cons, Wm.wdF, e1, e2, ih (fun d hd => h d (by simp [hd]))]
theorem oneV_back {t : Bool} {l r : List Nat} {v : Vl} (hl : ∀ c ∈ l, c < 256) (h : oneV t l = (0, v, r)) : l = valB v ++ r ∧ v.h = t ∧ plainB v = true ∧ v.ok := by
 cases t
 ·simp [oneV] at h;obtain ⟨rfl, rfl⟩ := h;simp [valB, noV, plainB, Vl.ok]
 ·by_cases h8 : l.length < 8
  ·simp [oneV, h8] at h
  ·simp [oneV, h8] at h;obtain ⟨rfl, rfl⟩ := h;have e : (l.take 8).length = 8 := by simp; omega
   have hlt : ∀ c ∈ l.take 8, c < 256 := fun c hc => hl c (List.mem_of_mem_take hc);refine ⟨?_, rfl, rfl, ?_⟩
   ·have := wdF_unw (l.take 8) hlt;rw [e] at this;simp only [valB, if_true, Wm.wd, this, List.take_append_drop]
   ·have := Wm.unw_lt (l.take 8) hlt;rw [e] at this;simpa [Vl.ok] using this
theorem oneN_of {c : Cl} (hw : writB c = true) (r : List Nat) : oneN c.k c.p c.c (Wm.enc c.n.toNat ++ r) = (0, c, r) := by
 have hp := writ_parts hw;simp only [oneN, Wm.take_enc _ _ (num_lt hw)];rw [if_neg (by simp), if_neg (by omega)];have : ((c.n.toNat : Nat) : Int) = c.n := by omega
 simp [this]
theorem oneW_of {c : Cl} (hc : c.okB) (hw : writB c = true) (r : List Nat) : oneW c.k (flagN c) (valB c.p ++ (valB c.c ++ (Wm.enc c.n.toNat ++ r))) = (0, c, r) := by
 have hp := writ_parts hw;simp only [oneW, flag_odd, flag_two, oneV_of hc.2.1 hp.2.2.1, oneV_of hc.2.2.1 hp.2.2.2];simp [oneN_of hw]
theorem oneC_of {o : Option Nat} {c : Cl} (hc : c.okB) (hw : writB c = true) (hf : folB o c.k = true) (r : List Nat) : oneC o (cellBB c ++ r) = (0, c, r) := by
 have e : cellBB c ++ r = Wm.enc c.k ++ (flagN c :: (valB c.p ++ (valB c.c ++ (Wm.enc c.n.toNat ++ r)))) := by simp [cellBB]
 rw [e];simp only [oneC, Wm.take_enc _ _ hc.1];rw [if_neg (by simp), if_neg (by simp [hf])];have : ¬ 3 < flagN c := by have := flag_le c; omega
 simp only [List.drop_append_of_le_length (Nat.le_refl _), List.drop_length, List.nil_append, oneH, if_neg this, oneW_of hc hw]
theorem take_cut {l : List Nat} {x n : Nat} (hl : ∀ c ∈ l, c < 256) (h : Wm.take l = (x, n, 0)) : l = Wm.enc x ++ l.drop n ∧ x < 18446744073709551616 ∧ n = (Wm.enc x).length := by
 rcases Wm.take_form l hl with ⟨e, h1, h2⟩ | ⟨y, m, h1, h2, h3, h4, h5⟩
 ·rw [h] at h1; simp at h1; omega
 ·rw [h] at h1;simp at h1;obtain ⟨rfl, rfl⟩ := h1;refine ⟨by rw [h5, List.take_append_drop], h2, by rw [h5]; simp; omega⟩
theorem oneN_back {k : Nat} {p c : Vl} {d : Cl} {l r : List Nat} (hl : ∀ c ∈ l, c < 256) (h : oneN k p c l = (0, d, r)) : ∃ n : Nat, d = ⟨k, p, c, n⟩ ∧ n ≤ 1099511627776 ∧ l = Wm.enc n ++ r := by
 obtain ⟨x, n, e, ht⟩ : ∃ x n e, Wm.take l = (x, n, e) := ⟨_, _, _, rfl⟩;simp only [oneN, ht] at h
 split at h
 ·rename_i h0; simp at h; omega
 ·rename_i h0
  have h0 : e = 0 := by omega
  subst h0
  split at h
  ·simp at h
  ·rename_i h1
   simp at h;obtain ⟨rfl, rfl⟩ := h;exact ⟨x, rfl, by omega, (take_cut hl ht).1⟩
theorem flag_of {h : Nat} {k : Nat} {p c : Vl} {n : Int} (h3 : h ≤ 3) (hp : p.h = decide (h % 2 = 1)) (hc : c.h = decide (2 ≤ h)) : flagN ⟨k, p, c, n⟩ = h := by
 simp only [flagN, hp, hc, decide_eq_true_eq]
 split <;> split <;> omega
theorem oneW_back {k h : Nat} {d : Cl} {l r : List Nat} (hl : ∀ c ∈ l, c < 256) (h3 : h ≤ 3) (hk : oneW k h l = (0, d, r)) :
  d.k = k ∧ flagN d = h ∧ d.p.ok ∧ d.c.ok ∧ writB d = true ∧ d.n < 9223372036854775808 ∧ l = valB d.p ++ (valB d.c ++ (Wm.enc d.n.toNat ++ r)) := by
 obtain ⟨e1, p, l1, E1⟩ : ∃ a b c, oneV (decide (h % 2 = 1)) l = (a, b, c) := ⟨_, _, _, rfl⟩;simp only [oneW, E1] at hk;obtain ⟨e2, c, l2, E2⟩ : ∃ a b c, oneV (decide (2 ≤ h)) l1 = (a, b, c) := ⟨_, _, _, rfl⟩;simp only [E2] at hk
 split at hk
 ·simp at hk; omega
 ·rename_i q1
  split at hk
  ·simp at hk; omega
  ·rename_i q2
   have q1 : e1 = 0 := by omega
   have q2 : e2 = 0 := by omega
   subst q1 q2;obtain ⟨a1, a2, a3, a4⟩ := oneV_back hl E1;have hl1 : ∀ c ∈ l1, c < 256 := fun c hc => hl c (by rw [a1]; simp [hc]);obtain ⟨b1, b2, b3, b4⟩ := oneV_back hl1 E2;have hl2 : ∀ c ∈ l2, c < 256 := fun c hc => hl1 c (by rw [b1]; simp [hc]);obtain ⟨n, rfl, hn, c1⟩ := oneN_back hl2 hk;refine ⟨rfl, flag_of h3 a2 b2, a4, b4, ?_, by show (n : Int) < _; omega, ?_⟩
   ·simp only [writB, a3, b3, Bool.and_true, Bool.and_eq_true, decide_eq_true_eq]; omega
   ·show l = valB p ++ (valB c ++ (Wm.enc (n : Int).toNat ++ r));rw [Int.toNat_natCast, ← c1, ← b1, ← a1]
theorem oneC_back {o : Option Nat} {c : Cl} {l r : List Nat} (hl : ∀ c ∈ l, c < 256) (h : oneC o l = (0, c, r)) : l = cellBB c ++ r ∧ folB o c.k = true ∧ writB c = true ∧ c.okB := by
 obtain ⟨x, n, e, ht⟩ : ∃ x n e, Wm.take l = (x, n, e) := ⟨_, _, _, rfl⟩;simp only [oneC, ht] at h
 split at h
 ·simp at h; omega
 ·rename_i h0
  have h0 : e = 0 := by omega
  subst h0;obtain ⟨t1, t2, _⟩ := take_cut hl ht;have hl1 : ∀ c ∈ l.drop n, c < 256 := fun c hc => hl c (List.mem_of_mem_drop hc)
  split at h
  ·simp at h
  ·rename_i h1
   cases hd : l.drop n with
   | nil => rw [hd] at h; simp [oneH] at h
   | cons f q =>
    rw [hd] at h t1 hl1;simp only [oneH] at h
    split at h
    ·simp at h
    ·rename_i h2
     obtain ⟨a1, a2, a3, a4, a5, a6, a7⟩ := oneW_back (fun c hc => hl1 c (by simp [hc])) (by omega) h;have hw := writ_parts a5;refine ⟨?_, by rw [a1]; simpa using h1, a5, by rw [a1]; exact t2, a3, a4, by omega, a6⟩;rw [t1, a7, cellBB, a1, a2];simp
structure Mk where
 b : Int
 a : Int
 k : List Nat
def zeroM : Mk := ⟨0, 0, []⟩
def keysOk (l : List Nat) : Prop := ∀ x ∈ l, x < 18446744073709551616
def folN (o : Option Nat) (k : Nat) : Bool := match o with
 | none => true
 | some j => decide (j < k)
def risE : Option Nat → List Nat → Bool
 | _, [] => true
 | o, c :: r => folN o c && risE (some c) r
def risB (l : List Nat) : Bool := risE none l
def cntB (x : Int) : Bool := decide (0 ≤ x) && decide (x ≤ 1099511627776)
def soundBM (m : Mk) : Bool := cntB m.b && (cntB m.a && (if m.b = 0 ∨ m.a = 0 then decide (m.b = m.a) && decide (m.k.length = 0) else decide (m.k.length ≤ 64) && risB m.k))
def bytesM (m : Mk) : List Nat := Wm.enc m.b.toNat ++ (Wm.enc m.a.toNat ++ (Wm.enc m.k.length ++ Wm.encAll m.k))
def encM (m : Mk) : List Nat × Nat := if soundBM m = true then (bytesM m, 0) else ([], 1)
def cntL (l : List Nat) : Nat × Nat × List Nat :=
 if (Wm.take l).2.2 ≠ 0 then ((Wm.take l).2.2, 0, []) else if 1099511627776 < (Wm.take l).1 then (4, 0, []) else (0, (Wm.take l).1, l.drop (Wm.take l).2.1)
def keyS : Nat → List Nat → Nat × List Nat × List Nat
 | 0, l => (0, [], l)
 | n + 1, l => if (Wm.take l).2.2 ≠ 0 then ((Wm.take l).2.2, [], []) else
   if (keyS n (l.drop (Wm.take l).2.1)).1 ≠ 0 then ((keyS n (l.drop (Wm.take l).2.1)).1, [], []) else
   (0, (Wm.take l).1 :: (keyS n (l.drop (Wm.take l).2.1)).2.1, (keyS n (l.drop (Wm.take l).2.1)).2.2)
def decE (b a : Nat) (r : Nat × List Nat × List Nat) : Mk × Nat :=
 if r.1 ≠ 0 then (zeroM, r.1) else if r.2.2.length ≠ 0 then (zeroM, 5) else if soundBM ⟨b, a, r.2.1⟩ = false then (zeroM, 1) else (⟨b, a, r.2.1⟩, 0)
def decK (b a : Nat) (l : List Nat) : Mk × Nat :=
 if (Wm.take l).2.2 ≠ 0 then (zeroM, (Wm.take l).2.2) else if 64 < (Wm.take l).1 then (zeroM, 6) else decE b a (keyS (Wm.take l).1 (l.drop (Wm.take l).2.1))
def decA (b : Nat) (l : List Nat) : Mk × Nat := if (cntL l).1 ≠ 0 then (zeroM, (cntL l).1) else decK b (cntL l).2.1 (cntL l).2.2
def decM (l : List Nat) : Mk × Nat := if (cntL l).1 ≠ 0 then (zeroM, (cntL l).1) else decA (cntL l).2.1 (cntL l).2.2
theorem drop_enc (x : Nat) (r : List Nat) : (Wm.enc x ++ r).drop (Wm.enc x).length = r := by simp
theorem cnt_parts {x : Int} (h : cntB x = true) : 0 ≤ x ∧ x ≤ 1099511627776 := by
 simpa [cntB] using h
theorem sound_parts {m : Mk} (h : soundBM m = true) : 0 ≤ m.b ∧ m.b ≤ 1099511627776 ∧ 0 ≤ m.a ∧ m.a ≤ 1099511627776 ∧ m.k.length ≤ 64 := by
 simp only [soundBM, Bool.and_eq_true] at h;obtain ⟨h1, h2, h3⟩ := h;have c1 := cnt_parts h1;have c2 := cnt_parts h2;refine ⟨c1.1, c1.2, c2.1, c2.2, ?_⟩
 split at h3
 ·simp at h3; rw [h3.2]; simp
 ·simp at h3; exact h3.1
theorem encAll_ltM (l : List Nat) (h : keysOk l) : ∀ c ∈ Wm.encAll l, c < 256 := by
 induction l with
 | nil => simp [Wm.encAll]
 | cons x l ih =>
  intro c hc;simp only [Wm.encAll, List.mem_append] at hc;rcases hc with hc | hc
  ·exact Wm.enc_lt x (h x (by simp)) c hc
  ·exact ih (fun y hy => h y (by simp [hy])) c hc
theorem bytesM_lt {m : Mk} (h : soundBM m = true) (hk : keysOk m.k) : ∀ c ∈ bytesM m, c < 256 := by
 have hp := sound_parts h;intro c hc;simp only [bytesM, List.mem_append] at hc;rcases hc with hc | hc | hc | hc
 ·exact Wm.enc_lt _ (by omega) c hc
 ·exact Wm.enc_lt _ (by omega) c hc
 ·exact Wm.enc_lt _ (by omega) c hc
 ·exact encAll_ltM _ hk c hc
theorem cnt_of {x : Nat} (h : x ≤ 1099511627776) (r : List Nat) : cntL (Wm.enc x ++ r) = (0, x, r) := by
 simp only [cntL, Wm.take_enc x r (by omega)];rw [if_neg (by simp), if_neg (by omega), drop_enc]
theorem key_of {ks : List Nat} : ∀ {r : List Nat}, keysOk ks → keyS ks.length (Wm.encAll ks ++ r) = (0, ks, r) := by
 induction ks with
 | nil => intro r _; rfl
 | cons x ks ih =>
  intro r hk;have hx := hk x (by simp);have e : Wm.encAll (x :: ks) ++ r = Wm.enc x ++ (Wm.encAll ks ++ r) := by simp [Wm.encAll]
  have i1 := ih (r := r) (fun y hy => hk y (by simp [hy]));rw [e];simp only [List.length_cons, keyS, Wm.take_enc x _ hx, drop_enc, i1];simp
theorem formM_there {m : Mk} (h : soundBM m = true) (hk : keysOk m.k) (r : List Nat) : decM (bytesM m ++ r) = if r.length ≠ 0 then (zeroM, 5) else (m, 0) := by
 have hp := sound_parts h;have e : bytesM m ++ r = Wm.enc m.b.toNat ++ (Wm.enc m.a.toNat ++ (Wm.enc m.k.length ++ (Wm.encAll m.k ++ r))) := by simp [bytesM]
 rw [e];simp only [decM, cnt_of (show m.b.toNat ≤ 1099511627776 by omega), decA, cnt_of (show m.a.toNat ≤ 1099511627776 by omega), decK, Wm.take_enc m.k.length _ (show m.k.length < 18446744073709551616 by omega), drop_enc, key_of hk, decE];have e1 : ((m.b.toNat : Nat) : Int) = m.b := by omega
 have e2 : ((m.a.toNat : Nat) : Int) = m.a := by omega
 rw [e1, e2, if_neg (by simp), if_neg (by simp), if_neg (by simp), if_neg (by omega), if_neg (by simp)]
 split
 ·rfl
 ·rw [if_neg (by have : soundBM ⟨m.b, m.a, m.k⟩ = true := h; simp [this])]
theorem cnt_back {l : List Nat} (hl : ∀ c ∈ l, c < 256) (h : (cntL l).1 = 0) : l = Wm.enc (cntL l).2.1 ++ (cntL l).2.2 ∧ (cntL l).2.1 ≤ 1099511627776 := by
 obtain ⟨x, n, e, ht⟩ : ∃ x n e, Wm.take l = (x, n, e) := ⟨_, _, _, rfl⟩;simp only [cntL, ht] at h ⊢;by_cases h0 : e = 0
 ·subst h0;rw [if_neg (by simp)] at h ⊢;by_cases h1 : 1099511627776 < x
  ·rw [if_pos h1] at h; simp at h
  ·rw [if_neg h1] at h ⊢;exact ⟨(take_cut hl ht).1, by show x ≤ _; omega⟩
 ·rw [if_pos h0] at h; simp at h; omega
theorem key_back {n : Nat} : ∀ {l : List Nat}, (∀ c ∈ l, c < 256) → (keyS n l).1 = 0 → l = Wm.encAll (keyS n l).2.1 ++ (keyS n l).2.2 ∧ (keyS n l).2.1.length = n ∧ keysOk (keyS n l).2.1 := by
 induction n with
 | zero => intro l hl _; simp [keyS, Wm.encAll, keysOk]
 | succ n ih =>
  intro l hl h;obtain ⟨x, q, e, ht⟩ : ∃ x n e, Wm.take l = (x, n, e) := ⟨_, _, _, rfl⟩;simp only [keyS, ht] at h ⊢;by_cases h0 : e = 0
  ·subst h0;rw [if_neg (by simp)] at h ⊢;by_cases h1 : (keyS n (l.drop q)).1 = 0
   ·rw [if_neg (by simpa using h1)] at h ⊢;obtain ⟨i1, i2, i3⟩ := ih (l := l.drop q) (fun c hc => hl c (List.mem_of_mem_drop hc)) h1;obtain ⟨t1, t2, _⟩ := take_cut hl ht;refine ⟨?_, by simp [i2], ?_⟩
    ·show l = Wm.enc x ++ Wm.encAll (keyS n (l.drop q)).2.1 ++ (keyS n (l.drop q)).2.2;rw [List.append_assoc, ← i1]; exact t1
    ·intro y hy;rcases List.mem_cons.1 hy with rfl | hy
     ·exact t2
     ·exact i3 y hy
   ·rw [if_pos h1] at h; exact absurd h h1
  ·rw [if_pos h0] at h; exact absurd h h0
theorem formM_back {l : List Nat} (hl : ∀ c ∈ l, c < 256) (h : (decM l).2 = 0) : soundBM (decM l).1 = true ∧ encM (decM l).1 = (l, 0) ∧ keysOk (decM l).1.k := by
 unfold decM at h ⊢;by_cases h1 : (cntL l).1 = 0
 ·rw [if_neg (by simpa using h1)] at h ⊢;obtain ⟨c1, c2⟩ := cnt_back hl h1;generalize (cntL l).2.1 = B at h c1 c2 ⊢;generalize (cntL l).2.2 = l1 at h c1 ⊢;have hl1 : ∀ c ∈ l1, c < 256 := fun c hc => hl c (by rw [c1]; simp [hc]);unfold decA at h ⊢;by_cases h2 : (cntL l1).1 = 0
  ·rw [if_neg (by simpa using h2)] at h ⊢;obtain ⟨d1, d2⟩ := cnt_back hl1 h2;generalize (cntL l1).2.1 = A at h d1 d2 ⊢;generalize (cntL l1).2.2 = l2 at h d1 ⊢;have hl2 : ∀ c ∈ l2, c < 256 := fun c hc => hl1 c (by rw [d1]; simp [hc]);obtain ⟨x, q, e, ht⟩ : ∃ x n e, Wm.take l2 = (x, n, e) := ⟨_, _, _, rfl⟩;simp only [decK, ht] at h ⊢;by_cases h3 : e = 0
   ·subst h3;rw [if_neg (by simp)] at h ⊢;obtain ⟨t1, t2, _⟩ := take_cut hl2 ht;by_cases h4 : 64 < x
    ·rw [if_pos h4] at h; simp at h
    ·rw [if_neg h4] at h ⊢;unfold decE at h ⊢;by_cases h5 : (keyS x (l2.drop q)).1 = 0
     ·rw [if_neg (by simpa using h5)] at h ⊢;obtain ⟨k1, k2, k3⟩ := key_back (l := l2.drop q) (fun c hc => hl2 c (List.mem_of_mem_drop hc)) h5;generalize (keyS x (l2.drop q)).2.1 = ks at h k1 k2 k3 ⊢;generalize (keyS x (l2.drop q)).2.2 = rest at h k1 ⊢;by_cases h6 : rest.length = 0
      ·rw [if_neg (by simpa using h6)] at h ⊢;have hr : rest = [] := List.eq_nil_of_length_eq_zero h6
       cases h7 : soundBM ⟨B, A, ks⟩
       ·rw [if_pos h7] at h; simp at h
       ·rw [if_neg (by simp)];refine ⟨h7, ?_, k3⟩;unfold encM;rw [if_pos h7];have e1 : bytesM ⟨B, A, ks⟩ = Wm.enc B ++ (Wm.enc A ++ (Wm.enc ks.length ++ Wm.encAll ks)) := by simp [bytesM]
        rw [e1, k2];have e2 : l2.drop q = Wm.encAll ks := by rw [k1, hr]; simp
        rw [← e2, ← t1, ← d1, ← c1]
      ·rw [if_pos h6] at h; simp at h
     ·rw [if_pos h5] at h; exact absurd h h5
   ·rw [if_pos h3] at h; exact absurd h h3
  ·rw [if_pos h2] at h; exact absurd h h2
 ·rw [if_pos h1] at h; exact absurd h h1
theorem decM_bad {l : List Nat} (h : (decM l).2 ≠ 0) : (decM l).1 = zeroM := by
 unfold decM decA decK decE at *
 repeat' split
 all_goals first | rfl | skip
 all_goals simp_all
end Go.Proofs.YtcmklbibehnloaaGreat
