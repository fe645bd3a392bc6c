/- Steps, pairs, plans as numbers; slices of steps and of pairs as lists; contracts of ops.Check, agg.Known and the reference's. -/
import Derived.Test.YtombjgfajbhbbaaGreatB06
import Derived.Test.YtombjgfajbhbbaaGreatRows
import Derived.OpenShut
import Derived.Carry
import Derived.Lib.SmallJoins
import Derived.OwnWalk
import Derived.Laws.StructEq
set_option maxRecDepth 100000
set_option maxHeartbeats 16000000
namespace Go.Proofs.YtombjgfajbhbbaaGreat
open Go.RowKit
section
open Go.ChangeShapes Go.WideShapes Go.ChangeAt Go.RowKit

theorem own_knob : ownKnob Tryz.prog.godebug = none := by kernel_rfl
theorem laid_out : laidOutB Tryz.prog = true := by kernel_rfl
theorem cells_op : Tryz.prog.cellsOf 80 = 3 := by kernel_rfl
theorem cells_int : Tryz.prog.cellsOf 3 = 1 := by kernel_rfl
theorem cells_i64 : Tryz.prog.cellsOf 2 = 1 := by kernel_rfl
theorem cells_u64 : Tryz.prog.cellsOf 40 = 1 := by kernel_rfl
theorem cells_f64 : Tryz.prog.cellsOf 41 = 1 := by kernel_rfl
theorem post_of_below {H : Type} {enc : TypeId × Value → H} {P : Program} {f : Func} {s : ChangeSpec} {apart fresh handsOn : Bool} {W W' : World} {args : Array Value} {v : Value} {ds gs : List (DataW H)} {before pa pv : List MemPlace}
  (hW : DataW.Whole enc P f.params.toList s.vars apart W args.toList ds gs before)
  (hres : ∀ (b : Nat) (sp : Nat → Bool) (hd : Bool), DataW.TrodAll enc P W' b sp hd f.resultTypes.toList (v.resultList f.resultTypes.size) (s.fn H (ds ++ gs)).results [])
  (hargs : ∀ sp : Nat → Bool, (∀ p ∈ before, sp p.block = true) → DataW.TrodAll enc P W' 0 sp true f.params.toList args.toList (s.fn H (ds ++ gs)).args pa)
  (hvars : ∀ sp : Nat → Bool, (∀ p ∈ before, sp p.block = true) → DataW.TrodVars enc P W' sp s.vars (s.fn H (ds ++ gs)).vars pv)
  (hps : before = pa ++ pv) (hb : Below W.heap.size W W') :
  s.post enc P f apart fresh handsOn false W args v W' := by
 have hold : ∀ p ∈ before, (fun b => decide (b < W.heap.size)) p.block = true := fun p hp => by simpa using hW.lt p hp
 refine ⟨ds, gs, before, [], pa, pv, hW, hres _ _ _, hargs _ hold, hvars _ hold, World.keptBut_mono (fun p hp => ⟨hp, ?_⟩) (hb.frame (· ∈ before)), fun h => by cases h⟩;rw [hps, List.mem_append] at hp;exact Or.inr hp
theorem again {H : Type} {enc : TypeId × Value → H} {W W' : World} {t : TypeId} {v : Value} {d : DataW H} {p : List MemPlace} {sp : Nat → Bool} (hr : Tryz.prog.readableRec t = true) (hrow : t < Tryz.prog.types.size)
  (h : DataW.Trod enc Tryz.prog W 0 (fun _ => true) true t v d p) (hb : Below W.heap.size W W') (hlt : ∀ x ∈ p, x.block < W.heap.size) (hsp : ∀ x ∈ p, sp x.block = true) :
  DataW.Trod enc Tryz.prog W' 0 sp true t v d p :=
 WideElems.Trod_stays laid_out hr hrow h (fun x hx => hb.same (hlt x hx)) hsp
theorem u64_of_wf {x : Int} (h : (Lit.int .u64 x).wf = true) : ∃ n : Nat, x = n ∧ n < 18446744073709551616 := by
 have h0 : 0 ≤ x ∧ x ≤ 18446744073709551615 := by simpa [Lit.wf, IntKind.min, IntKind.max, IntKind.signed, IntKind.bits] using h
 exact ⟨x.toNat, by omega, by omega⟩
theorem i64_of_wf {x : Int} (h : (Lit.int .i64 x).wf = true) : -9223372036854775808 ≤ x ∧ x < 9223372036854775808 := by
 have h0 : -9223372036854775808 ≤ x ∧ x ≤ 9223372036854775807 := by simpa [Lit.wf, IntKind.min, IntKind.max, IntKind.signed, IntKind.bits] using h
 omega
theorem f64_of_wf {x : Nat} (h : (Lit.float .f64 x).wf = true) : x < 18446744073709551616 := by simpa [Lit.wf] using h
section

variable {H : Type} {enc : TypeId × Value → H} {W : World} {sp : Nat → Bool} {held : Bool} {base : Nat}

theorem cell_i64 {t : TypeId} (ht : Tryz.prog.underlying t = some (.int .i64)) {n : Nat} {v : Value} {x : DataW H × List MemPlace} (h : DataW.trod enc Tryz.prog W base sp held n t [v] = some x) : ∃ a : Int, v = .int .i64 a ∧ (-9223372036854775808 ≤ a ∧ a < 9223372036854775808) := by
 cases n with
 | zero => simp [DataW.trod] at h
 | succ n =>
  simp only [DataW.trod, ht] at h
  cases v <;> simp at h
  rename_i k a
  obtain ⟨⟨rfl, hw⟩, _⟩ := h;exact ⟨a, rfl, i64_of_wf hw⟩
theorem cell_u64 {n : Nat} {v : Value} {x : DataW H × List MemPlace} (h : DataW.trod enc Tryz.prog W base sp held n 40 [v] = some x) : ∃ a : Nat, v = .int .u64 a ∧ a < 18446744073709551616 := by
 cases n with
 | zero => simp [DataW.trod] at h
 | succ n =>
  simp only [DataW.trod, Tryz.underlying40] at h
  cases v <;> simp at h
  rename_i k a
  obtain ⟨⟨rfl, hw⟩, _⟩ := h;obtain ⟨n, rfl, hn⟩ := u64_of_wf hw;exact ⟨n, rfl, hn⟩
theorem cell_f64 {n : Nat} {v : Value} {x : DataW H × List MemPlace} (h : DataW.trod enc Tryz.prog W base sp held n 41 [v] = some x) : ∃ a : Nat, v = .float .f64 a ∧ a < 18446744073709551616 := by
 cases n with
 | zero => simp [DataW.trod] at h
 | succ n =>
  simp only [DataW.trod, Tryz.underlying41] at h
  cases v <;> simp at h
  rename_i k a
  obtain ⟨⟨rfl, hw⟩, _⟩ := h;exact ⟨a, rfl, f64_of_wf hw⟩
theorem cells_of_op {n : Nat} {cs : List Value} {x : DataW H × List MemPlace} (hl : cs.length = 3) (h : DataW.trod enc Tryz.prog W base sp held n 80 cs = some x) :
  ∃ o : Stp, cs = [.int .i64 o.K, .int .i64 o.N, .float .f64 o.X] ∧ o.ok := by
 obtain ⟨y0, y1, y2, m, _, _, h0, h1, h2⟩ := Go.Deep.trod_struct3 Tryz.underlying80 h
 match cs, hl with
 | [a, b, c], _ =>
  simp only [cells_int, cells_i64, cells_f64, List.drop_zero, List.drop_succ_cons, List.take_succ_cons, List.take_zero] at h0 h1 h2;obtain ⟨K, rfl, hK⟩ := cell_i64 Tryz.underlying3 h0;obtain ⟨N, rfl, hN⟩ := cell_i64 Tryz.underlying2 h1;obtain ⟨X, rfl, hX⟩ := cell_f64 h2;exact ⟨⟨K, N, X⟩, rfl, hK, hN, hX⟩
theorem cells_of_rec {n : Nat} {cs : List Value} {x : DataW H × List MemPlace} (hl : cs.length = 2) (h : DataW.trod enc Tryz.prog W base sp held n 43 cs = some x) :
  ∃ r : Rcd, cs = [.int .u64 r.k, .float .f64 r.x] ∧ r.ok := by
 obtain ⟨y0, y1, m, _, _, h0, h1⟩ := trod_struct2 Tryz.underlying43 h
 match cs, hl with
 | [a, b], _ =>
  simp only [cells_u64, cells_f64, List.drop_zero, List.drop_succ_cons, List.take_succ_cons, List.take_zero] at h0 h1;obtain ⟨k, rfl, hk⟩ := cell_u64 h0;obtain ⟨x, rfl, hx⟩ := cell_f64 h1;exact ⟨⟨k, x⟩, rfl, hk, hx⟩
end

def Rl (w : World) (ao : Option Addr) (l : List Rcd) : Prop :=
 ∀ i, (h : i < l.length) → ∃ b off, ao = some ⟨b, off, none⟩ ∧ w.cell? ⟨b, off + i * 2, none⟩ = some (.int .u64 l[i].k) ∧ w.cell? ⟨b, off + i * 2 + 1, none⟩ = some (.float .f64 l[i].x)
def Rv (w : World) (v : Value) (l : List Rcd) : Prop :=
 (∃ ao cap, v = .slice ao l.length cap ∧ l.length ≤ cap ∧ cap ≤ maxLen ∧ (ao = none → cap = 0) ∧ Rl w ao l) ∧ ∀ r ∈ l, r.ok
theorem Rl.below {w w' : World} {ao : Option Addr} {l : List Rcd} (h : Rl w ao l) (hb : Below w.heap.size w w') : Rl w' ao l := by
 intro i hi;obtain ⟨b, off, e, h0, h1⟩ := h i hi;exact ⟨b, off, e, by rw [hb.cell (p := ⟨b, off + i * 2, none⟩) (cell_lt h0)]; exact h0, by rw [hb.cell (p := ⟨b, off + i * 2 + 1, none⟩) (cell_lt h1)]; exact h1⟩
end
section
open Ieee Go.RowKit

theorem fitV_no (k : Int) : fitV k noV = noV := by unfold fitV; rw [if_pos (show noV.h = false from rfl)]
theorem no_merge (k : Int) (a : Vl) : mergeV k noV a = fitV k a := by
 unfold mergeV joinV;rw [fitV_no, if_pos (show noV.h = false from rfl)]
end
section
open Ieee

structure Pr where
 k : Nat
 v : Vl
def Pr.ok (p : Pr) : Prop := p.k < 18446744073709551616 ∧ p.v.ok
def okT (t : List Pr) : Prop := ∀ p ∈ t, p.ok
def Rise (t : List Pr) : Prop := t.Pairwise (fun p q => p.k < q.k)
def hasT (t : List Pr) : Prop := ∀ p ∈ t, p.v.h = true
def getT (k : Nat) : List Pr → Vl
 | [] => noV
 | p :: t => if p.k = k then p.v else getT k t
def putT (k : Nat) (v : Vl) : List Pr → List Pr
 | [] => [⟨k, v⟩]
 | p :: t => if k < p.k then ⟨k, v⟩ :: p :: t else if k = p.k then ⟨k, v⟩ :: t else p :: putT k v t
def withT (kind : Int) (k : Nat) (v : Vl) (t : List Pr) : List Pr := putT k (mergeV kind (getT k t) v) t
def addsT (kind : Int) (t : List Pr) (l : List Pr) : List Pr := l.foldl (fun t p => withT kind p.k p.v t) t
def keptT (l : List Stp) (kind : Int) (recs : List Rcd) : List Pr := recs.filterMap (fun r => if (runS l r).1 = 1 then some ⟨(runS l r).2.k, ofV kind (runS l r).2.x⟩ else none)
def trapN (l : List Stp) (recs : List Rcd) : Nat := recs.countP (fun r => decide ((runS l r).1 = 3))
def batchT (l : List Stp) (kind : Int) (recs : List Rcd) : List Pr := addsT kind [] (keptT l kind recs)
theorem put_head (k : Nat) (v : Vl) (t : List Pr) : ∀ p ∈ putT k v t, p.k = k ∨ ∃ q ∈ t, q.k = p.k := by
 induction t with
 | nil => intro p hp; simp [putT] at hp; subst hp; exact Or.inl rfl
 | cons a t ih =>
  intro p hp;unfold putT at hp
  split at hp
  ·rcases List.mem_cons.1 hp with rfl | hp
   ·exact Or.inl rfl
   ·exact Or.inr ⟨p, hp, rfl⟩
  ·split at hp
   ·rcases List.mem_cons.1 hp with rfl | hp
    ·exact Or.inl rfl
    ·exact Or.inr ⟨p, List.mem_cons_of_mem _ hp, rfl⟩
   ·rcases List.mem_cons.1 hp with rfl | hp
    ·exact Or.inr ⟨p, by simp, rfl⟩
    ·rcases ih p hp with h | ⟨q, hq, h⟩
     ·exact Or.inl h
     ·exact Or.inr ⟨q, List.mem_cons_of_mem _ hq, h⟩
theorem rise_put {t : List Pr} (h : Rise t) (k : Nat) (v : Vl) : Rise (putT k v t) := by
 induction t with
 | nil => simp [putT, Rise]
 | cons a t ih =>
  obtain ⟨h1, h2⟩ := List.pairwise_cons.1 h;unfold putT
  split
  ·rename_i hlt
   refine List.pairwise_cons.2 ⟨fun q hq => ?_, h⟩;rcases List.mem_cons.1 hq with rfl | hq
   ·exact hlt
   ·exact Nat.lt_trans hlt (h1 q hq)
  ·split
   ·rename_i e
    exact List.pairwise_cons.2 ⟨fun q hq => by show k < q.k; rw [e]; exact h1 q hq, h2⟩
   ·refine List.pairwise_cons.2 ⟨fun q hq => ?_, ih h2⟩;rcases put_head k v t q hq with h | ⟨p, hp, h⟩
    ·rw [h]; omega
    ·rw [← h]; exact h1 p hp
theorem put_mem {k : Nat} {v : Vl} {t : List Pr} {p : Pr} (h : p ∈ putT k v t) : p = ⟨k, v⟩ ∨ p ∈ t := by
 induction t with
 | nil => simpa [putT] using h
 | cons a t ih =>
  unfold putT at h
  split at h
  ·rcases List.mem_cons.1 h with h | h
   ·exact Or.inl h
   ·exact Or.inr h
  ·split at h
   ·rcases List.mem_cons.1 h with h | h
    ·exact Or.inl h
    ·exact Or.inr (List.mem_cons_of_mem _ h)
   ·rcases List.mem_cons.1 h with h | h
    ·exact Or.inr (by rw [h]; simp)
    ·rcases ih h with h | h
     ·exact Or.inl h
     ·exact Or.inr (List.mem_cons_of_mem _ h)
theorem ok_put {k : Nat} {v : Vl} {t : List Pr} (ht : okT t) (hk : k < 18446744073709551616) (hv : v.ok) : okT (putT k v t) := fun p hp => by
 rcases put_mem hp with rfl | h
 ·exact ⟨hk, hv⟩
 ·exact ht p h
theorem put_len (k : Nat) (v : Vl) (t : List Pr) : (putT k v t).length ≤ t.length + 1 := by
 induction t with
 | nil => simp [putT]
 | cons a t ih =>
  unfold putT
  split
  ·simp
  ·split
   ·simp
   ·simp; exact ih
theorem get_ok {t : List Pr} (h : okT t) (k : Nat) : (getT k t).ok := by
 induction t with
 | nil => exact noV_ok
 | cons a t ih =>
  unfold getT
  split
  ·exact (h a (by simp)).2
  ·exact ih (fun p hp => h p (List.mem_cons_of_mem _ hp))
theorem get_none {t : List Pr} {k : Nat} (h : ∀ p ∈ t, p.k ≠ k) : getT k t = noV := by
 induction t with
 | nil => rfl
 | cons a t ih =>
  unfold getT;rw [if_neg (h a (by simp))];exact ih (fun p hp => h p (List.mem_cons_of_mem _ hp))
theorem adds_cons (kind : Int) (t : List Pr) (p : Pr) (l : List Pr) : addsT kind t (p :: l) = addsT kind (withT kind p.k p.v t) l := rfl
theorem adds_append (kind : Int) (t l m : List Pr) : addsT kind t (l ++ m) = addsT kind (addsT kind t l) m := by unfold addsT; rw [List.foldl_append]
theorem adds_snoc (kind : Int) (t l : List Pr) (p : Pr) : addsT kind t (l ++ [p]) = withT kind p.k p.v (addsT kind t l) := by rw [adds_append]; rfl
theorem rise_with {kind : Int} {t : List Pr} (h : Rise t) (k : Nat) (v : Vl) : Rise (withT kind k v t) := rise_put h k _
theorem rise_adds {kind : Int} {t : List Pr} (h : Rise t) (l : List Pr) : Rise (addsT kind t l) := by
 induction l generalizing t with
 | nil => exact h
 | cons p l ih => exact ih (rise_with h p.k p.v)
theorem ok_with {kind : Int} {t : List Pr} (h : okT t) {k : Nat} {v : Vl} (hk : k < 18446744073709551616) (hv : v.ok) : okT (withT kind k v t) := ok_put h hk (mergeV_ok kind (get_ok h k) hv)
theorem ok_adds {kind : Int} {t : List Pr} (h : okT t) {l : List Pr} (hl : okT l) : okT (addsT kind t l) := by
 induction l generalizing t with
 | nil => exact h
 | cons p l ih => exact ih (ok_with h (hl p (by simp)).1 (hl p (by simp)).2) (fun q hq => hl q (List.mem_cons_of_mem _ hq))
theorem adds_len (kind : Int) (t l : List Pr) : (addsT kind t l).length ≤ t.length + l.length := by
 induction l generalizing t with
 | nil => simp [addsT]
 | cons p l ih =>
  have h1 := ih (withT kind p.k p.v t);have h2 : (withT kind p.k p.v t).length ≤ t.length + 1 := put_len _ _ _;rw [adds_cons]; simp only [List.length_cons]; omega
theorem rise_nil : Rise [] := List.Pairwise.nil
theorem ok_nil : okT [] := fun p hp => by simp at hp
theorem kept_append (l : List Stp) (kind : Int) (a b : List Rcd) : keptT l kind (a ++ b) = keptT l kind a ++ keptT l kind b := by unfold keptT; rw [List.filterMap_append]
theorem rise_batch (l : List Stp) (kind : Int) (recs : List Rcd) : Rise (batchT l kind recs) := rise_adds rise_nil _
end
section
open Ieee Go.RowKit

def Ql (w : World) (ao : Option Addr) (l : List Pr) : Prop :=
 ∀ i, (h : i < l.length) → ∃ b off, ao = some ⟨b, off, none⟩ ∧ w.cell? ⟨b, off + i * 3, none⟩ = some (.int .u64 l[i].k) ∧ w.cell? ⟨b, off + i * 3 + 1, none⟩ = some (.bool l[i].v.h) ∧ w.cell? ⟨b, off + i * 3 + 2, none⟩ = some (.int .u64 l[i].v.b)
def Qv (w : World) (v : Value) (l : List Pr) : Prop :=
 (∃ ao cap, v = .slice ao l.length cap ∧ l.length ≤ cap ∧ cap ≤ maxLen ∧ (ao = none → cap = 0) ∧ Ql w ao l) ∧ ∀ o ∈ l, o.ok
theorem Ql.below {w w' : World} {ao : Option Addr} {l : List Pr} (h : Ql w ao l) (hb : Below w.heap.size w w') : Ql w' ao l := by
 intro i hi;obtain ⟨b, off, e, h0, h1, h2⟩ := h i hi;exact ⟨b, off, e, by rw [hb.cell (p := ⟨b, off + i * 3, none⟩) (cell_lt h0)]; exact h0, by rw [hb.cell (p := ⟨b, off + i * 3 + 1, none⟩) (cell_lt h1)]; exact h1, by rw [hb.cell (p := ⟨b, off + i * 3 + 2, none⟩) (cell_lt h2)]; exact h2⟩
theorem Qv.below {w w' : World} {v : Value} {l : List Pr} (h : Qv w v l) (hb : Below w.heap.size w w') : Qv w' v l := by
 obtain ⟨⟨ao, cap, e, h1, h2, h3, h4⟩, h5⟩ := h;exact ⟨⟨ao, cap, e, h1, h2, h3, h4.below hb⟩, h5⟩
def flatQ (l : List Pr) : List Value := l.flatMap fun o => [.int .u64 o.k, .bool o.v.h, .int .u64 o.v.b]
theorem flatQ_len (l : List Pr) : (flatQ l).length = l.length * 3 := by
 unfold flatQ
 induction l with
 | nil => rfl
 | cons o l ih => rw [List.flatMap_cons, List.length_append, ih]; simp; omega
theorem flatQ_append (l m : List Pr) : flatQ (l ++ m) = flatQ l ++ flatQ m := by unfold flatQ; exact List.flatMap_append
theorem flatQ_get (l : List Pr) : ∀ (i : Nat) (h : i < l.length), (flatQ l)[i * 3]? = some (.int .u64 l[i].k) ∧ (flatQ l)[i * 3 + 1]? = some (.bool l[i].v.h) ∧ (flatQ l)[i * 3 + 2]? = some (.int .u64 l[i].v.b) := by
 induction l with
 | nil => intro i h; simp at h
 | cons o l ih =>
  intro i h;have e : flatQ (o :: l) = .int .u64 o.k :: .bool o.v.h :: .int .u64 o.v.b :: flatQ l := rfl;rw [e]
  cases i with
  | zero => simp
  | succ i =>
   have := ih i (by simpa using h);rw [show (i + 1) * 3 = i * 3 + 1 + 1 + 1 by omega];simpa using this
theorem flatQ_mem {l : List Pr} {u : Value} (h : u ∈ flatQ l) : u.oneCell' = true := by
 unfold flatQ at h;obtain ⟨o, _, ho⟩ := List.mem_flatMap.1 h;simp at ho;rcases ho with rfl | rfl | rfl <;> rfl
def Mq (w : World) (g : Nat) (m : List Pr) : Prop :=
 ∀ i, (h : i < m.length) → (w.cell? ⟨g, i * 3, none⟩ = some (.int .u64 m[i].k) ∧ w.cell? ⟨g, i * 3 + 1, none⟩ = some (.bool m[i].v.h) ∧ w.cell? ⟨g, i * 3 + 2, none⟩ = some (.int .u64 m[i].v.b)) ∧
  (w.frozen? ⟨g, i * 3, none⟩ = false ∧ w.frozen? ⟨g, i * 3 + 1, none⟩ = false ∧ w.frozen? ⟨g, i * 3 + 2, none⟩ = false)
theorem Mq.below {w w' : World} {g B : Nat} {m : List Pr} (h : Mq w g m) (hb : Below B w w') (hl : g < B) : Mq w' g m := by
 intro i hi;obtain ⟨⟨a, b, c⟩, d, e, f⟩ := h i hi
 exact ⟨⟨by rw [hb.cell (p := ⟨g, i * 3, none⟩) hl]; exact a, by rw [hb.cell (p := ⟨g, i * 3 + 1, none⟩) hl]; exact b, by rw [hb.cell (p := ⟨g, i * 3 + 2, none⟩) hl]; exact c⟩,
  by rw [hb.frozen (p := ⟨g, i * 3, none⟩) hl]; exact d, by rw [hb.frozen (p := ⟨g, i * 3 + 1, none⟩) hl]; exact e, by rw [hb.frozen (p := ⟨g, i * 3 + 2, none⟩) hl]; exact f⟩
theorem own_mq {w : World} {base e n cap g : Nat} {m : List Pr} (h : w.ownsRow base e 3 (.slice (some ⟨g, 0, none⟩) n cap) n (flatQ m)) : Mq w g m := by
 obtain ⟨h1, h2⟩ := h;rw [flatQ_len] at h1;have hn : n = m.length := by omega
 subst hn;rcases h2 with ⟨h, _⟩ | ⟨g', cap', cur, e1, hb, hg, hnc, hcm, hcs, htake⟩
 ·cases h
 ·simp only [Value.slice.injEq, Option.some.injEq, Addr.mk.injEq] at e1;obtain ⟨⟨rfl, _⟩, _, rfl⟩ := e1
  have key : ∀ j u, j < m.length * 3 → (flatQ m)[j]? = some u → w.cell? ⟨g, j, none⟩ = some u := by
   intro j u hj hu;rw [cell_of_row w g j cur e (0, 0) hg, ← Array.getElem?_toList];rw [← htake, List.getElem?_take, if_pos hj] at hu;exact hu
  intro i hi;obtain ⟨a, b, c⟩ := flatQ_get m i hi;refine ⟨⟨key _ _ (by omega) a, key _ _ (by omega) b, key _ _ (by omega) c⟩, ?_, ?_, ?_⟩;all_goals simp [World.frozen?, hg]
theorem mq_qv {w : World} {g cap n : Nat} {m : List Pr} (h : Mq w g m) (hn : n ≤ m.length) (hc : m.length ≤ cap) (hm : cap ≤ maxLen) (hok : ∀ o ∈ m, o.ok) : Qv w (.slice (some ⟨g, 0, none⟩) n cap) (m.take n) := by
 have hl : (m.take n).length = n := by simp; omega
 refine ⟨⟨_, cap, by rw [hl], by omega, hm, by simp, fun i hi => ?_⟩, fun o ho => hok o (List.mem_of_mem_take ho)⟩;rw [hl] at hi;obtain ⟨⟨a, b, c⟩, _⟩ := h i (by omega);refine ⟨g, 0, rfl, ?_, ?_, ?_⟩
 ·simpa using a
 ·simpa using b
 ·simpa using c
theorem info_partsQ {P : Program} {e : TypeId} {z : Value} {s b : Nat} (h : (P.info? e).map (fun i => (i.zero, i.size, i.bytes)) = some (some z, s, b)) : ∃ i, P.info? e = some i ∧ i.zero = some z ∧ i.size = s ∧ i.bytes = b := by
 cases hi : P.info? e with
 | none => rw [hi] at h; cases h
 | some i =>
  rw [hi] at h;simp at h;exact ⟨i, rfl, h.1, h.2.1, h.2.2⟩
theorem wpList_append_qv {P : Program} {w : World} {ops : Array Oper} {rest : List Oper} {o : Oper} {a : Act} {Q : Exit → Act → World → Prop} (hgd : o.guard = none) (s x : Operand) (t : TypeId)
  (ho : o.op = .call { callee := .builtin .append, args := #[s, x], argTypes := #[t, t] })
  (base : Nat) (e : TypeId) (i0 : TypeInfo) (ht : P.underlying t = some (.slice e)) (hi : P.info? e = some i0) (hz1 : i0.size = 3)
  (g n cap : Nat) (m : List Pr) (hs : a.eval s = .slice (some ⟨g, 0, none⟩) n cap) (hown : w.ownsRow base e 3 (.slice (some ⟨g, 0, none⟩) n cap) n (flatQ m))
  (y : Value) (l : List Pr) (hx : a.eval x = y) (hy : Qv w y l) (hfit : n + l.length ≤ cap)
  (h : ∀ w', w'.ownsRow base e 3 (.slice (some ⟨g, 0, none⟩) (n + l.length) cap) (n + l.length) (flatQ (m ++ l)) → w.grownBy w' (some g) → wpList P ops Q rest (a.put o.dst (.slice (some ⟨g, 0, none⟩) (n + l.length) cap)) w') : wpList P ops Q (o :: rest) a w := by
 obtain ⟨⟨ao, c, rfl, hc1, hc2, hnone, hcells⟩, _⟩ := hy
 cases ao with
 | none =>
  obtain rfl := hnone rfl;have hl0 : l.length = 0 := by omega
  have hl : l = [] := List.eq_nil_of_length_eq_zero hl0;subst hl;refine wpList_append_own_none hgd s x t ho base e i0 3 ht hi _ n (flatQ m) hs hown hx ?_;have := h w (by simpa using hown) ⟨rfl, rfl, rfl, Nat.le_refl _, fun _ _ _ => rfl⟩;simpa using this
 | some p =>
  refine wpList_append_fits w hgd s x t ho base e i0 3 ht hi hz1 g n cap (flatQ m) hs hown p l.length c (flatQ l) hx (flatQ_len l) ?_ (fun u hu => flatQ_mem hu) hfit (by rw [← flatQ_append]; exact h);intro j u hj
  have hjl : j < l.length * 3 := by
   rcases Nat.lt_or_ge j (l.length * 3) with h | h
   ·exact h
   ·rw [List.getElem?_eq_none (by rw [flatQ_len]; exact h)] at hj; cases hj
  obtain ⟨b, off, e1, g0, g1, g2⟩ := hcells (j / 3) (by omega)
  cases e1
  obtain ⟨f0, f1, f2⟩ := flatQ_get l (j / 3) (by omega);rw [WideShapes.add_plain];have hmod : j % 3 = 0 ∨ j % 3 = 1 ∨ j % 3 = 2 := by omega
  rcases hmod with hm | hm | hm
  ·have e2 : j / 3 * 3 = j := by omega
   rw [e2] at f0 g0;rw [f0] at hj; rw [g0, hj]
  ·have e2 : j / 3 * 3 + 1 = j := by omega
   rw [Nat.add_assoc, e2] at g1;rw [e2] at f1;rw [f1] at hj; rw [g1, hj]
  ·have e2 : j / 3 * 3 + 2 = j := by omega
   rw [Nat.add_assoc, e2] at g2;rw [e2] at f2;rw [f2] at hj; rw [g2, hj]
theorem Qv.ql {w : World} {ao : Option Addr} {n cap : Nat} {l : List Pr} (h : Qv w (.slice ao n cap) l) : Ql w ao l := by
 obtain ⟨⟨ao', cap', e, _, _, _, h4⟩, _⟩ := h;simp only [Value.slice.injEq] at e;rw [e.1]; exact h4
theorem Mq.set {w : World} {g : Nat} {m : List Pr} (h : Mq w g m) {j : Nat} (hj : j < m.length) (o : Pr) :
  Mq (((w.setCell ⟨g, j * 3, none⟩ (.int .u64 o.k)).setCell ⟨g, j * 3 + 1, none⟩ (.bool o.v.h)).setCell ⟨g, j * 3 + 2, none⟩ (.int .u64 o.v.b)) g (m.set j o) := by
 obtain ⟨⟨a, b, c⟩, d, e, f⟩ := h j hj;intro i hi;rw [List.length_set] at hi;obtain ⟨⟨a', b', c'⟩, d', e', f'⟩ := h i hi;by_cases hij : j = i
 ·subst hij;rw [List.getElem_set_self];refine ⟨⟨?_, ?_, ?_⟩, ?_, ?_, ?_⟩ <;> simp [go_sem, a, b, c, d, e, f]
 ·rw [List.getElem_set_ne hij];have n0 : ¬ j * 3 = i * 3 := by omega
  have n1 : ¬ j * 3 = i * 3 + 1 := by omega
  have n2 : ¬ j * 3 = i * 3 + 2 := by omega
  have n3 : ¬ j * 3 + 1 = i * 3 := by omega
  have n4 : ¬ j * 3 + 1 = i * 3 + 1 := by omega
  have n5 : ¬ j * 3 + 1 = i * 3 + 2 := by omega
  have n6 : ¬ j * 3 + 2 = i * 3 := by omega
  have n7 : ¬ j * 3 + 2 = i * 3 + 1 := by omega
  have n8 : ¬ j * 3 + 2 = i * 3 + 2 := by omega
  have k0 : ∀ (p q : Nat) (v : Value) (w : World), ¬ p = q → (w.setCell ⟨g, p, none⟩ v).cell? ⟨g, q, none⟩ = w.cell? ⟨g, q, none⟩ := fun p q v w hne => World.cell?_setCell_other w _ _ v (by rintro ⟨⟩; exact hne rfl);refine ⟨⟨?_, ?_, ?_⟩, ?_, ?_, ?_⟩
  ·rw [k0 _ _ _ _ n6, k0 _ _ _ _ n3, k0 _ _ _ _ n0]; exact a'
  ·rw [k0 _ _ _ _ n7, k0 _ _ _ _ n4, k0 _ _ _ _ n1]; exact b'
  ·rw [k0 _ _ _ _ n8, k0 _ _ _ _ n5, k0 _ _ _ _ n2]; exact c'
  all_goals simp [go_sem, d', e', f']
end
section
open Ieee Go.RowKit

attribute [local go_sem] run_store_float
def chkI (l : List Stp) : Int := if checkB l then 0 else 30
def Rng (w0 : World) (l : List Stp) (iv : Value) (wr : World) : Prop :=
 ∃ k : Nat, k ≤ l.length ∧ iv = .int .i64 k ∧ (∀ j, (h : j < l.length) → j < k → isB l[j] = true) ∧ Below w0.heap.size w0 wr
theorem check_long {l : List Stp} (h : 8 < l.length) : chkI l = 30 := by
 unfold chkI checkB;rw [decide_eq_false (by omega)]; rfl
theorem check_bad {l : List Stp} {k : Nat} (hk : k < l.length) (h : isB l[k] = false) : chkI l = 30 := by
 unfold chkI checkB
 have : l.all isB = false := by
  rw [List.all_eq_false];exact ⟨l[k], List.getElem_mem hk, by simpa using h⟩
 rw [this, Bool.and_false]; rfl
theorem check_good {l : List Stp} (h : l.length ≤ 8) (ha : ∀ j, (h : j < l.length) → isB l[j] = true) : chkI l = 0 := by
 unfold chkI checkB
 have : l.all isB = true := by
  rw [List.all_eq_true];intro o ho;obtain ⟨i, hi, rfl⟩ := List.getElem_of_mem ho;exact ha i hi
 rw [this, Bool.and_true, decide_eq_true h]; rfl
theorem rng_step {w0 wr w1 : World} {l : List Stp} {k : Nat} (hk : k < l.length) (ha : ∀ j, (h : j < l.length) → j < k → isB l[j] = true) (hb : isB l[k] = true) (hB : Below w0.heap.size w0 wr) (h1 : Below wr.heap.size wr w1) :
  Rng w0 l (.int .i64 ((k : Int) + 1)) w1 := by
 refine ⟨k + 1, hk, by simp, fun j hj hjk => ?_, below_trans hB h1⟩;rcases Nat.lt_or_ge j k with h | h
 ·exact ha j hj h
 ·obtain rfl : j = k := by omega
  exact hb
theorem check_walk {ao : Option Addr} {cap : Nat} {l : List Stp} {w : World} (hl : l.length ≤ maxLen) (ho : Ol w ao l) :
  Calls Tryz.prog 24 #[.slice ao l.length cap] w fun e w' => e = .returned (.int .i64 (chkI l)) ∧ Below w.heap.size w w' := by
 have hli : (l.length : Int) ≤ 9223372036854775807 := by simp only [maxLen] at hl; omega
 have HO : Hid (Ol w ao l) := ho;clear ho hl;by_cases h8 : (8 : Int) < (l.length : Int)
 ·go_in;go_wp2_with fail;go_ret;exact ⟨ret_int (check_long (by omega)).symm, below_same _⟩
 ·have HL : Hid (l.length ≤ 8) := by show _ ≤ _; omega
  go_in;go_wp2_with fail;go_loopw [10] (fun iv wr => Rng w l iv wr) (fun iv _ => l.length - (intOf iv).toNat)
  case atStart => exact ⟨0, Nat.zero_le _, rfl, fun j hj h => by omega, below_same _⟩
  case round =>
   obtain ⟨k, hk, rfl, HA', hB'⟩ := hrel;have HA : Hid (∀ j, (h : j < l.length) → j < k → isB l[j] = true) := HA';have HB := hidH hB';clear HA' hB';by_cases hlt : k < l.length
   ·obtain ⟨b, off, rfl, c0, c1, c2⟩ := HO.out.below HB.out k hlt;obtain ⟨o, hoe⟩ : ∃ o, o = l[k] := ⟨_, rfl⟩;rw [← hoe] at c0 c1 c2;have HE : Hid (o = l[k]) := hoe;clear hoe
    cases hb : isB o
    ·go_wp2_with fail;refine (isStep_walk o _).mono ?_;rw [hb];rintro e w1 ⟨rfl, hB1⟩;go_wp2_with fail;go_ret;exact ⟨ret_int (check_bad hlt (by rw [← HE.out]; exact hb)).symm, below_trans HB.out (below_trans (below_alloc _ _) hB1)⟩
    ·go_wp2_with fail;refine (isStep_walk o _).mono ?_;rw [hb];rintro e w1 ⟨rfl, hB1⟩;have R := rng_step hlt HA.out (by rw [← HE.out]; exact hb) HB.out (below_trans (below_alloc _ _) hB1);go_wp2_with fail;go_roundw
     case rel => exact R
     case measure => simp [intOf]; omega
   ·go_wp2_with fail;go_ret;exact ⟨ret_int (check_good HL.out (fun j hj => HA.out j hj (by omega))).symm, HB.out⟩
end
section
theorem below_drw (w : World) : Below w.heap.size w w.drew := (Below.refl _ _).drew
attribute [local go_sem] run_store_float
theorem rstep_walk (o : Stp) (w : World) :
  Calls Tryz.prog 59 #[.agg #[.int .i64 o.K, .int .i64 o.N, .float .f64 o.X]] w fun e w' => e = .returned (.bool (isB o)) ∧ Below w.heap.size w w' := by
 obtain ⟨K, N, X⟩ := o;by_cases hk : 1 ≤ K ∧ K ≤ 12
 ·have : K = 1 ∨ K = 2 ∨ K = 3 ∨ K = 4 ∨ K = 5 ∨ K = 6 ∨ K = 7 ∨ K = 8 ∨ K = 9 ∨ K = 10 ∨ K = 11 ∨ K = 12 := by omega
  clear hk;rcases this with rfl | rfl | rfl | rfl | rfl | rfl | rfl | rfl | rfl | rfl | rfl | rfl
  all_goals
   go_in;go_wp2;all_goals (go_ret; exact ⟨ret_bool (by rw [Bool.eq_iff_iff]; unfold isB; simp <;> omega), below_alloc _ _⟩)
 ·have b1 : (K == 1) = false := by simp; omega
  have b2 : (K == 2) = false := by simp; omega
  have b3 : (K == 3) = false := by simp; omega
  have b4 : (K == 4) = false := by simp; omega
  have b5 : (K == 5) = false := by simp; omega
  have b6 : (K == 6) = false := by simp; omega
  have b7 : (K == 7) = false := by simp; omega
  have b8 : (K == 8) = false := by simp; omega
  have b9 : (K == 9) = false := by simp; omega
  have b10 : (K == 10) = false := by simp; omega
  have b11 : (K == 11) = false := by simp; omega
  have b12 : (K == 12) = false := by simp; omega
  have HE : Hid (isB ⟨K, N, X⟩ = false) := by
   show _ = _;unfold isB;simp only;rw [if_neg (by omega), if_neg (by omega), decide_eq_false hk]
  clear hk;go_in;go_wp2;go_ret;exact ⟨ret_bool HE.out.symm, below_alloc _ _⟩
theorem rcheck_walk {ao : Option Addr} {cap : Nat} {l : List Stp} {w : World} (hl : l.length ≤ maxLen) (ho : Ol w ao l) :
  Calls Tryz.prog 26 #[.slice ao l.length cap] w fun e w' => e = .returned (.int .i64 (chkI l)) ∧ Below w.heap.size w w' := by
 have hli : (l.length : Int) ≤ 9223372036854775807 := by simp only [maxLen] at hl; omega
 have HO : Hid (Ol w ao l) := ho;clear ho hl;by_cases h8 : (8 : Int) < (l.length : Int)
 ·go_in;go_wp2_with fail;go_ret;exact ⟨ret_int (check_long (by omega)).symm, below_same _⟩
 ·have HL : Hid (l.length ≤ 8) := by show _ ≤ _; omega
  go_in;go_wp2_with fail;go_loopw [3] (fun iv wr => Rng w l iv wr) (fun iv _ => l.length - (intOf iv).toNat)
  case atStart => exact ⟨0, Nat.zero_le _, rfl, fun j hj h => by omega, below_same _⟩
  case round =>
   obtain ⟨k, hk, rfl, HA', hB'⟩ := hrel;have HA : Hid (∀ j, (h : j < l.length) → j < k → isB l[j] = true) := HA';have HB := hidH hB';clear HA' hB';by_cases hlt : k < l.length
   ·obtain ⟨b, off, rfl, c0, c1, c2⟩ := HO.out.below HB.out k hlt;obtain ⟨o, hoe⟩ : ∃ o, o = l[k] := ⟨_, rfl⟩;rw [← hoe] at c0 c1 c2;have HE : Hid (o = l[k]) := hoe;clear hoe
    cases hb : isB o
    ·go_wp2_with fail;refine (rstep_walk o _).mono ?_;rw [hb];rintro e w1 ⟨rfl, hB1⟩;go_wp2_with fail;go_ret;exact ⟨ret_int (check_bad hlt (by rw [← HE.out]; exact hb)).symm, below_trans HB.out hB1⟩
    ·go_wp2_with fail;refine (rstep_walk o _).mono ?_;rw [hb];rintro e w1 ⟨rfl, hB1⟩;have R := rng_step hlt HA.out (by rw [← HE.out]; exact hb) HB.out hB1;go_wp2_with fail;go_roundw
     case rel => exact R
     case measure => simp [intOf]; omega
   ·go_wp2_with fail;go_ret;exact ⟨ret_int (check_good HL.out (fun j hj => HA.out j hj (by omega))).symm, HB.out⟩
end
end Go.Proofs.YtombjgfajbhbbaaGreat
