/- Run: the program's, with its deferred function. -/
import Derived.Test.YtombjgfajbhbbaaGreatB10
import Derived.Sort.Row
import Derived.CellFam
import Derived.Maps.RangeWalk
import Derived.Maps.OwnSet
import Derived.Defers
import Derived.Recover
set_option maxRecDepth 100000
set_option maxHeartbeats 16000000
namespace Go.Proofs.YtombjgfajbhbbaaGreat
open Go.RowKit
section
def dealF (p : Pn) (t : List Pr) (i : Nat) : List Pr := t.filter fun q => p.place q.k == i
def Pn.n (p : Pn) : Nat := if p.is then p.S.toNat else 0
def setF {α : Type} (f : Nat → α) (i : Nat) (x : α) : Nat → α := fun j => if j = i then x else f j
theorem setF_at {α : Type} (f : Nat → α) (i : Nat) (x : α) : setF f i x i = x := if_pos rfl
theorem setF_ne {α : Type} (f : Nat → α) {i j : Nat} (x : α) (h : j ≠ i) : setF f i x j = f j := if_neg h
theorem deal_ok {p : Pn} {t : List Pr} (h : okT t) (i : Nat) : okT (dealF p t i) := fun q hq => h q (List.mem_filter.1 hq).1
theorem deal_len (p : Pn) (t : List Pr) (i : Nat) : (dealF p t i).length ≤ t.length := List.length_filter_le _ _
theorem deal_step (p : Pn) (t : List Pr) {k : Nat} (hk : k < t.length) : dealF p (t.take (k + 1)) = setF (dealF p (t.take k)) (p.place t[k].k) (dealF p (t.take k) (p.place t[k].k) ++ [t[k]]) := by
 funext i;unfold dealF;rw [List.take_succ_eq_append_getElem hk, List.filter_append];by_cases h : i = p.place t[k].k
 ·subst h;rw [setF_at];simp
 ·rw [setF_ne _ _ h];have : (p.place t[k].k == i) = false := by simpa using fun e => h e.symm
  simp [this]
theorem range_set {vs : Nat → Value} {n i : Nat} {x : Value} : (List.range n).map (setF vs i x) = ((List.range n).map vs).set i x := by
 apply List.ext_getElem?;intro j;rw [List.getElem?_set];by_cases hj : j < n
 ·by_cases h : i = j
  ·subst h;simp [hj, setF_at]
  ·rw [if_neg h];simp [hj, setF_ne vs x (fun e => h e.symm)]
 ·by_cases h : i = j
  ·subst h;simp [hj]
  ·simp [hj, h]
theorem row_form {w : World} {base e s n : Nat} {v : Value} {xs : List Value} (h : w.ownsRow base e s v n xs) : ∃ ao cap, v = .slice ao n cap ∧ n ≤ cap ∧ cap ≤ maxLen := by
 rcases h.2 with ⟨rfl, rfl⟩ | ⟨g, cap, cur, rfl, hb, hg, h1, h2, _⟩
 ·exact ⟨none, 0, rfl, Nat.le_refl _, by simp [maxLen]⟩
 ·exact ⟨_, cap, rfl, h1, h2⟩
theorem own_base {w : World} {base base' e size n : Nat} {v : Value} {xs : List Value} (h : w.ownsRow base e size v n xs) (hb : base' ≤ base) : w.ownsRow base' e size v n xs := by
 obtain ⟨h1, h2⟩ := h;rcases h2 with ⟨rfl, h0⟩ | ⟨g', cap, cur, rfl, hg, k⟩
 ·exact ⟨h1, .inl ⟨rfl, h0⟩⟩
 ·exact ⟨h1, .inr ⟨g', cap, cur, rfl, Nat.le_trans hb hg, k⟩⟩
theorem own_set1 {w : World} {B e g n cap i : Nat} {xs : List Value} (u : Value) (h : w.ownsRow B e 1 (.slice (some ⟨g, 0, none⟩) n cap) n xs) : (w.setCell ⟨g, i, none⟩ u).ownsRow B e 1 (.slice (some ⟨g, 0, none⟩) n cap) n (xs.set i u) := by
 obtain ⟨h1, h2⟩ := h;rcases h2 with ⟨h, _⟩ | ⟨g', cap', cur, e1, hb, hg, hnc, hcm, hcs, ht⟩
 ·cases h
 ·cases e1
  refine ⟨by simpa using h1, .inr ⟨g, cap, cur.setIfInBounds i u, rfl, hb, ?_, hnc, hcm, by simpa using hcs, ?_⟩⟩
  ·rw [Sort.setCell_eq];simp [Sort.mapBlock, Array.getElem?_modify, hg, Sort.onCells]
  ·rw [← ht, Array.toList_setIfInBounds, List.take_set]
theorem row1_cell {w : World} {B e g n cap i : Nat} {vs : Nat → Value} (h : w.ownsRow B e 1 (.slice (some ⟨g, 0, none⟩) n cap) n ((List.range n).map vs)) (hi : i < n) : w.cell? ⟨g, i, none⟩ = some (vs i) ∧ w.frozen? ⟨g, i, none⟩ = false := by
 rcases h.2 with ⟨h, _⟩ | ⟨g', cap', cur, e1, hb, hg, hnc, hcm, hcs, ht⟩
 ·cases h
 ·cases e1
  refine ⟨?_, by simp [World.frozen?, hg]⟩;rw [cell_of_row w g i cur _ (0, 0) hg];have e := congrArg (fun x => x[i]?) ht;simp only [List.getElem?_take, Nat.mul_one, hi, if_true, Array.getElem?_toList] at e;rw [e];simp [hi]
def Ne (n : Nat) (vs : Nat → Value) : Prop := ∀ i j, i < n → j < n → i ≠ j → (vs i).ownBlock = none ∨ (vs i).ownBlock ≠ (vs j).ownBlock
theorem own_lt_ne {w : World} {B e s n k : Nat} {v : Value} {xs : List Value} (h : w.ownsRow B e s v n xs) (hk : w.heap.size ≤ k) : v.ownBlock ≠ some k := fun he => by
 have := (h.lt k he).2;omega
theorem sp_ne : (66 : Nat) ≠ 46 := by decide
section

variable {B g n : Nat} {w5 w8 w9 : World} {vs : Nat → Value} {ls : Nat → List Pr} {at_ : Nat} {q : Pr} {v9 : Value}

theorem Dl.step (h : Dl B w5 (.slice (some ⟨g, 0, none⟩) n n) n vs ls) (hne : Ne n vs) (ha : at_ < n) (hb : Below w5.heap.size w5 w8)
  (hown9 : w9.ownsRow B 66 3 v9 ((ls at_).length + 1) (flatQ (ls at_ ++ [q]))) (hg9 : w8.grownBy w9 (vs at_).ownBlock) (hat9 : v9.ownBlock = (vs at_).ownBlock ∨ v9.ownBlock = some w8.heap.size) :
  Dl B (w9.setCell ⟨g, at_, none⟩ v9) (.slice (some ⟨g, 0, none⟩) n n) n (setF vs at_ v9) (setF ls at_ (ls at_ ++ [q])) ∧ Ne n (setF vs at_ v9) := by
 have h8 := h.below hb;have hr9 : w9.ownsRow B 46 1 (.slice (some ⟨g, 0, none⟩) n n) n ((List.range n).map vs) := h8.row.kept hg9 (own_ne h8.row (h8.own at_ ha) sp_ne.symm)
 have nb : ∀ {v : Value} {m : Nat} {xs : List Value}, w9.ownsRow B 66 3 v m xs → v.ownBlock ≠ some g := by
  intro v m xs hv he;rcases own_ne hv hr9 sp_ne with k | k
  ·rw [k] at he; cases he
  ·exact k he
 have h9 : ∀ i, i < n → i ≠ at_ → w9.ownsRow B 66 3 (vs i) (ls i).length (flatQ (ls i)) := fun i hi hia => (h8.own i hi).kept hg9 (hne i at_ hi ha hia);refine ⟨⟨?_, fun i hi => ?_⟩, fun i j hi hj hij => ?_⟩
 ·rw [range_set];exact own_set1 v9 hr9
 ·by_cases hia : i = at_
  ·subst hia;rw [setF_at, setF_at, List.length_append];exact ownsRow_setCell_other hown9 (nb hown9) v9
  ·rw [setF_ne _ _ hia, setF_ne _ _ hia];exact ownsRow_setCell_other (h9 i hi hia) (nb (h9 i hi hia)) v9
 ·have old : ∀ k, k < n → (vs k).ownBlock ≠ some w8.heap.size := fun k hk => own_lt_ne (h8.own k hk) (Nat.le_refl _);by_cases hia : i = at_
  ·subst hia;rw [setF_at, setF_ne _ _ (fun e => hij e.symm)];rcases hat9 with k | k
   ·rw [k]; exact hne i j hi hj hij
   ·rw [k]; exact .inr (fun e => old j hj e.symm)
  ·rw [setF_ne _ _ hia];by_cases hja : j = at_
   ·subst hja;rw [setF_at];rcases hat9 with k | k
    ·rw [k]; exact hne i j hi hj hij
    ·rw [k]; exact .inr (old i hi)
   ·rw [setF_ne _ _ hja]; exact hne i j hi hj hij
end

theorem step_app_pr {ops : Array Oper} {o : Oper} {a : Act} {w : World} {K : Act → World → Prop} {Q : Exit → Act → World → Prop} {E : Prop}
  (hg : o.guard = none) (s x : Operand) (hop : o.op = Op.call { callee := Callee.builtin Builtin.append, args := #[s, x], argTypes := #[46, 46] })
  {base : Nat} (v : Value) (l : List Pr) (hs : a.eval s = v) (hown : w.ownsRow base 66 3 v l.length (flatQ l))
  (X : Nat) (q : Pr) (hx : a.eval x = .slice (some ⟨X, 0, none⟩) 1 1) (h0 : w.cell? ⟨X, 0, none⟩ = some (.int .u64 q.k)) (h1 : w.cell? ⟨X, 1, none⟩ = some (.bool q.v.h)) (h2 : w.cell? ⟨X, 2, none⟩ = some (.int .u64 q.v.b)) (hn : (l.length + 1) * 24 ≤ 140737488355328) (hb : base ≤ w.heap.size)
  (hK : ∀ v' w', w'.ownsRow base 66 3 v' (l.length + 1) (flatQ (l ++ [q])) → w.grownBy w' v.ownBlock → (v'.ownBlock = v.ownBlock ∨ v'.ownBlock = some w.heap.size) → K (a.put o.dst v') w') :
  if Region.wanted o (yielded ops a.tmps) = true then Oper.wp Tryz.prog o a w K Q else E := by
 have hw : Region.wanted o (yielded ops a.tmps) = true := by simp [Region.wanted, hg]
 rw [if_pos hw];obtain ⟨i0, hi, hz0, hz1, hz2⟩ := info_partsQ info_pair;obtain ⟨v', w', hrun, r1, r2, _, r3⟩ := run_append_own_at (P := Tryz.prog) w base 46 o.type 66 i0 (.agg #[.int .u64 0, .bool false, .int .u64 0]) 3 24 Tryz.underlying46 hi hz0 hz1 hz2 rfl (by decide) v l.length (flatQ l) hown ⟨X, 0, none⟩ 1 1 [.int .u64 q.k, .bool q.v.h, .int .u64 q.v.b] rfl (pair_cells h0 h1 h2) (by intro u hu; simp at hu; rcases hu with rfl | rfl | rfl <;> rfl) (by simp only [maxLen]; omega) hn hb;unfold Oper.wp;simp [execOp, hop, resolve, invoke, builtin, hs, hx, hrun, Result.andThen];exact hK v' w' (by rw [flatQ_append]; exact r1) r2 r3
theorem make_sp {p : Pn} (hp : p.is = true) : ∀ wx : World, (Instr.makeSlice 114 (.int .i64 p.S) (.int .i64 p.S)).run Tryz.prog wx = .ok (.slice (some ⟨wx.heap.size, 0, none⟩) p.S.toNat p.S.toNat) (wx.alloc (.cells (madeCells #[.slice none 0 0] (p.S.toNat * 1)) 46)) := fun wx => by
 obtain ⟨_, ⟨s1, s2⟩, _⟩ := Pn.is_num hp;obtain ⟨i0, hi0, hz0, hz1, hz2⟩ := info_partsQ info_sp;have := run_make (P := Tryz.prog) wx 114 46 i0 (.slice none 0 0) Tryz.underlying114 hi0 hz0 .i64 .i64 p.S p.S (by omega) (Int.le_refl _) (by rw [hz2]; omega) (by omega);rw [hz1] at this;exact this
theorem made_sp (w : World) {q : Nat} (hq : q ≤ 4) (p : Pn) : Dl w.heap.size (w.alloc (.cells (madeCells #[.slice none 0 0] (q * 1)) 46)) (.slice (some ⟨w.heap.size, 0, none⟩) q q) q (fun _ => .slice none 0 0) (dealF p ([] : List Pr)) := by
 have e : (madeCells #[(Value.slice none 0 0)] (q * 1)) = ((List.range q).map (fun _ => (Value.slice none 0 0))).toArray := by
  apply Array.ext_getElem?;intro i;by_cases hi : i < q
  ·simp [madeCells, hi, Nat.mod_one]
  ·rw [Array.getElem?_eq_none (by rw [size_madeCells]; omega), Array.getElem?_eq_none (by simp; omega)]
 refine ⟨?_, fun i hi => ?_⟩
 ·rw [e];have := World.ownsRow_lit (base := w.heap.size) (e := 46) (size := 1) w ((List.range q).map (fun _ => (Value.slice none 0 0))).toArray q (Nat.le_refl _) (by simp [maxLen]; omega) (by simp);simpa using this
 ·exact World.ownsRow_nil _ _ _ _
end
theorem grown_set (w : World) (g i : Nat) (u : Value) : w.grownBy (w.setCell ⟨g, i, none⟩ u) (some g) :=
 ⟨rfl, rfl, rfl, by simp [go_sem], fun k hk hne => by rw [Below.heap_setCell w _ _ k (by rintro rfl; exact hne rfl)]⟩
theorem wrapU {x : Int} (h0 : 0 ≤ x) (h1 : x < 9223372036854775808) : IntKind.i64.wrap x = x := by
 rw [IntKind.wrap_i64]; omega
section
open Ieee Go.RowKit

open Go.ChangeMaps (putKey notKey)

def RiseK (l : List Nat) : Prop := l.Pairwise (· < ·)
def insK (k : Nat) : List Nat → List Nat
 | [] => [k]
 | a :: l => if k < a then k :: a :: l else if k = a then a :: l else a :: insK k l
theorem mem_insK {k x : Nat} {l : List Nat} : x ∈ insK k l ↔ x = k ∨ x ∈ l := by
 induction l with
 | nil => simp [insK]
 | cons a l ih =>
  unfold insK
  split
  ·simp
  ·split
   ·rename_i h; subst h; simp
   ·simp only [List.mem_cons, ih];constructor
    ·rintro (h | h | h)
     ·exact .inr (.inl h)
     ·exact .inl h
     ·exact .inr (.inr h)
    ·rintro (h | h | h)
     ·exact .inr (.inl h)
     ·exact .inl h
     ·exact .inr (.inr h)
theorem rise_insK {k : Nat} {l : List Nat} (h : RiseK l) : RiseK (insK k l) := by
 induction l with
 | nil => simp [insK, RiseK]
 | cons a l ih =>
  obtain ⟨h1, h2⟩ := List.pairwise_cons.1 h;unfold insK
  split
  ·rename_i hk
   exact List.pairwise_cons.2 ⟨fun x hx => by rcases List.mem_cons.1 hx with rfl | hx; exact hk; exact Nat.lt_trans hk (h1 x hx), h⟩
  ·split
   ·exact h
   ·refine List.pairwise_cons.2 ⟨fun x hx => ?_, ih h2⟩;rcases mem_insK.1 hx with rfl | hx
    ·omega
    ·exact h1 x hx
theorem insK_old {k : Nat} {l : List Nat} (h : RiseK l) (hk : k ∈ l) : insK k l = l := by
 induction l with
 | nil => simp at hk
 | cons a l ih =>
  obtain ⟨h1, h2⟩ := List.pairwise_cons.1 h;unfold insK;rcases List.mem_cons.1 hk with rfl | hk
  ·rw [if_neg (by omega), if_pos rfl]
  ·have := h1 k hk;rw [if_neg (by omega), if_neg (by omega), ih h2 hk]
theorem insK_len {k : Nat} {l : List Nat} (hk : k ∉ l) : (insK k l).length = l.length + 1 := by
 induction l with
 | nil => rfl
 | cons a l ih =>
  unfold insK
  split
  ·simp
  ·split
   ·rename_i h; subst h; simp at hk
   ·simp [ih (fun h => hk (List.mem_cons_of_mem _ h))]
theorem rise_ext {l m : List Nat} (hl : RiseK l) (hm : RiseK m) (h : ∀ x, x ∈ l ↔ x ∈ m) : l = m := by
 induction l generalizing m with
 | nil => cases m with
  | nil => rfl
  | cons b m => have := (h b).2 (by simp); simp at this
 | cons a l ih =>
  obtain ⟨a1, a2⟩ := List.pairwise_cons.1 hl
  cases m with
  | nil => have := (h a).1 (by simp); simp at this
  | cons b m =>
   obtain ⟨b1, b2⟩ := List.pairwise_cons.1 hm
   have hab : a = b := by
    have ha := (h a).1 (by simp);have hb := (h b).2 (by simp);rcases List.mem_cons.1 ha with e | ha
    ·exact e
    ·rcases List.mem_cons.1 hb with e | hb
     ·exact e.symm
     ·have := b1 a ha; have := a1 b hb; omega
   subst hab;congr 1;refine ih a2 b2 fun x => ?_;constructor
   ·intro hx;rcases List.mem_cons.1 ((h x).1 (List.mem_cons_of_mem _ hx)) with e | hx'
    ·have := a1 x hx; omega
    ·exact hx'
   ·intro hx;rcases List.mem_cons.1 ((h x).2 (List.mem_cons_of_mem _ hx)) with e | hx'
    ·have := b1 x hx; omega
    ·exact hx'
def kK (k : Nat) : Lit := .int .u64 k
def dK (l : List Nat) : DataW Unit := .map (l.map fun k => (kK k, .agg []))
theorem kK_same (a b : Nat) : (kK a).sameKey (kK b) = decide (a = b) := by
 unfold kK Lit.sameKey;by_cases h : a = b
 ·subst h; simp
 ·have : ¬ ((a : Int) = b) := by omega
  simp [h, this]
theorem kK_before (a b : Nat) : (kK a).before (kK b) = decide (a < b) := by
 unfold kK Lit.before;by_cases h : a < b
 ·have : (a : Int) < b := by omega
  simp [h, this]
 ·have : ¬ ((a : Int) < b) := by omega
  simp [h, this]
theorem filter_aboveK {t : List Nat} {k : Nat} (h : ∀ p ∈ t, k < p) : (t.map fun p => (kK p, (DataW.agg [] : DataW Unit))).filter (notKey (kK k)) = t.map fun p => (kK p, .agg []) := by
 refine List.filter_eq_self.2 fun x hx => ?_;obtain ⟨p, hp, rfl⟩ := List.mem_map.1 hx;unfold notKey;rw [kK_same];have := h p hp;simp; omega
theorem insert_aboveK {t : List Nat} {k : Nat} (h : ∀ p ∈ t, k < p) : DataW.insert (kK k, (DataW.agg [] : DataW Unit)) (t.map fun p => (kK p, .agg [])) = (kK k, .agg []) :: t.map fun p => (kK p, .agg []) := by
 cases t with
 | nil => rfl
 | cons a t =>
  have := h a (by simp);simp only [List.map_cons, DataW.insert, kK_before];rw [if_pos (by simpa using this)]
theorem put_K {t : List Nat} (h : RiseK t) (k : Nat) : (dK t).put (kK k) (.agg []) = dK (insK k t) := by
 unfold dK;rw [DataW.put_eq];congr 1;unfold putKey
 induction t with
 | nil => rfl
 | cons a t ih =>
  obtain ⟨h1, h2⟩ := List.pairwise_cons.1 h;unfold insK
  split
  ·rename_i hlt
   have hall : ∀ p ∈ a :: t, k < p := fun p hp => by
    rcases List.mem_cons.1 hp with rfl | hp
    ·exact hlt
    ·exact Nat.lt_trans hlt (h1 p hp)
   rw [filter_aboveK hall, insert_aboveK hall]; rfl
  ·split
   ·rename_i hlt he
    subst he;rw [List.map_cons, List.filter_cons_of_neg (by unfold notKey; rw [kK_same]; simp), filter_aboveK h1, insert_aboveK h1]
   ·rename_i hlt he
    rw [List.map_cons, List.filter_cons_of_pos (by unfold notKey; rw [kK_same]; simp; omega), DataW.insert, if_neg (by rw [kK_before]; simp; omega), ih h2]; rfl
theorem size_K (t : List Nat) : Maps.size (dK t) = t.length := by simp [Maps.size, dK]
theorem has_K (t : List Nat) (k : Nat) : Maps.has (dK t) (kK k) = decide (k ∈ t) := by
 unfold dK;rw [Maps.has_eq]
 induction t with
 | nil => simp
 | cons a t ih =>
  rw [List.map_cons, List.any_cons, ih, kK_same];by_cases h : a = k
  ·subst h; simp
  ·have : ¬ k = a := fun e => h e.symm;simp [h, this]
theorem law_k : Maps.Keyed Tryz.prog 40 := Maps.int_keyed Tryz.underlying40
theorem key_k {k : Nat} (hk : k < 18446744073709551616) : keyOf Tryz.prog 40 (.int .u64 k) = some (kK k) := by
 refine Maps.keyOf_int_mk Tryz.underlying40 ?_;simp [Lit.wf, IntKind.min, IntKind.max, IntKind.signed, IntKind.bits];omega
def Ks (w : World) (b : Nat) (l : List Nat) : Prop := w.ownsMap Tryz.prog 40 unitElem b l.length (dK l)
theorem ks_tight {w : World} {b n : Nat} {l : List Nat} (h : w.ownsMap Tryz.prog 40 unitElem b n (dK l)) : Ks w b l := by
 obtain ⟨es, clock, hb, F, hs, hD⟩ := h;refine ⟨es, clock, hb, F, ?_, hD⟩;have h1 := length_read (P := Tryz.prog) (k := 40) (R0 := unitElem (H := Unit)) es
 have h2 : (l.map fun k => (kK k, (DataW.agg [] : DataW Unit))).length = es.size := by
  unfold dK at hD
  injection hD with e
  rw [e, h1]
 simp at h2;omega
theorem Ks.lt {w : World} {b : Nat} {l : List Nat} (h : Ks w b l) : b < w.heap.size := World.ownsMap.lt h
theorem Ks.kept {w w' : World} {b : Nat} {l : List Nat} (h : Ks w b l) (e : w'.heap[b]? = w.heap[b]?) : Ks w' b l := by
 obtain ⟨es, clock, hb, r⟩ := h;exact ⟨es, clock, by rw [e]; exact hb, r⟩
theorem ks_made (w : World) : Ks (w.alloc (.map #[] 0)) w.heap.size [] := World.ownsMap_made w _ _ _
theorem ks_look {w : World} {b : Nat} {l : List Nat} (h : Ks w b l) {k : Nat} (hk : k < 18446744073709551616) :
  (Instr.lookup 82 (.map (some b)) (.int .u64 k) true).run Tryz.prog w = .ok (.tuple #[.agg #[], .bool (decide (k ∈ l))]) w := by
 have hz : (zeroValue 105).run Tryz.prog w = .ok (.agg #[]) w := Tryz.zeroValue105 w;obtain ⟨v, ps, hrun, hv⟩ := World.ownsMap.look_ok h law_k Tryz.underlying82 hz unitElem_mk (key_k hk);obtain ⟨rfl, _⟩ := unitElem_inv hv;rw [has_K] at hrun;exact hrun
theorem ks_len {w : World} {b : Nat} {l : List Nat} (h : Ks w b l) (ty : TypeId) : (Builtin.len_ #[82] ty #[.map (some b)]).run Tryz.prog w = .ok (.int .i64 l.length) w := by
 have := World.ownsMap.len (w := w) h Tryz.underlying82 ty;rwa [size_K] at this
end
section
open Ieee Go.RowKit

attribute [local go_sem] run_store_float
structure IB (w : World) (b : Nat) (f : Int) : Prop where
 c : w.cell? ⟨b, 0, none⟩ = some (.int .i64 f)
 z : w.frozen? ⟨b, 0, none⟩ = false
theorem IB.below {w w' : World} {b B : Nat} {f : Int} (h : IB w b f) (hb : Below B w w') (hl : b < B) : IB w' b f :=
 ⟨by rw [hb.cell (p := ⟨b, 0, none⟩) hl]; exact h.c, by rw [hb.frozen (p := ⟨b, 0, none⟩) hl]; exact h.z⟩
theorem catch_panicking {p q k x : Nat} {f : Int} (u : TypeId) (pv : Value) (older : List PanicEntry) (w : World) (h1 : RB w p k x) (h2 : IB w q f) (hne : ¬ q = p) :
  CallsD Tryz.prog 107 #[.pointer (some ⟨p, 0, none⟩), .pointer (some ⟨q, 0, none⟩)] (.panicking ({ v := .iface u pv, recovered := false } :: older)) w fun e u' w' =>
   e = .returned (.tuple #[]) ∧ u' = .panicking ({ v := .iface u pv, recovered := true } :: older) ∧ w' = ((w.setCell ⟨p, 0, none⟩ (.int .u64 0)).setCell ⟨p, 1, none⟩ (.float .f64 0)).setCell ⟨q, 0, none⟩ (.int .i64 3) := by
 obtain ⟨c0, c1, z0, z1⟩ := h1;obtain ⟨d0, y0⟩ := h2;refine callsD_of_wpS Tryz.func107 rfl fun c₀ cs hu => ?_;apply wpS_seq;apply wpS_region;simp [wpOpsS, go_sem, recoverD, hu, Tryz.ntmps107, Exit.thenS];refine wpS_cond (t := true) (by simp [Act.eval, Array.replicate]) ?_;simp only [if_true];apply wpS_region;simp [wpOpsS, go_sem, c0, c1, z0, z1, d0, y0, bodyPostS, results, Tryz.results107]
theorem catch_idle (p q : Addr) (w : World) :
  CallsD Tryz.prog 107 #[.pointer (some p), .pointer (some q)] .returning w fun e u' w' => e = .returned (.tuple #[]) ∧ u' = .returning ∧ w' = w := by
 refine callsD_of_wpS Tryz.func107 rfl fun c₀ cs hu => ?_;apply wpS_seq;apply wpS_region;simp [wpOpsS, go_sem, recoverD, hu, Tryz.ntmps107, Exit.thenS];refine wpS_cond (t := false) (by simp [Act.eval, Array.replicate]) ?_;simp only [Bool.false_eq_true, if_false];refine wpS_of_wp (wp_skip ?_)
 cases c₀
 simp_all [bodyPostS, results, Tryz.results107]
theorem run_start {w w1 : World} {k x : Nat}
  (h : ((w.alloc (Obj.cells #[Value.int IntKind.u64 k, Value.float FloatKind.f64 x] 43)).alloc (Obj.cells #[Value.int IntKind.u64 0, Value.float FloatKind.f64 0] 43)).alloc (Obj.cells #[Value.int IntKind.i64 0] 3) = w1) :
  Hid (w1.heap.size = w.heap.size + 1 + 1 + 1) ∧ Hid (Below w.heap.size w w1) ∧ RB w1 w.heap.size k x ∧ RB w1 (w.heap.size + 1) 0 0 ∧ IB w1 (w.heap.size + 1 + 1) 0 := by
 subst h;refine ⟨by simp [Hid, go_sem], ?_, ⟨?_, ?_, ?_, ?_⟩, ⟨?_, ?_, ?_, ?_⟩, ⟨?_, ?_⟩⟩
 ·exact ((below_alloc _ _).alloc (by simp [go_sem]) _).alloc (by simp [go_sem]; omega) _
 all_goals simp [go_sem]
set_option linter.unusedSimpArgs false in
theorem run_bad {ao : Option Addr} {cap : Nat} {l : List Stp} {w : World} (r : Rcd) (hl : l.length ≤ maxLen) (ho : Ol w ao l) (hc : checkB l = false) :
  Calls Tryz.prog 84 #[.slice ao l.length cap, .agg #[.int .u64 r.k, .float .f64 r.x]] w fun e w' => e = .returned (.tuple #[.agg #[.int .u64 0, .float .f64 0], .int .i64 0]) ∧ Below w.heap.size w w' := by
 have hmf : ∀ (fn : Fn) (first cap : Array Value) (w : World), (Instr.makeFunc fn first cap).run Tryz.prog w = .ok (.func fn first cap) w := fun _ _ _ _ => rfl;have HO : Hid (Ol w ao l) := ho;have HL : Hid (l.length ≤ maxLen) := hl;have HC : Hid (chkI l = 30) := by show _ = _; unfold chkI; rw [hc]; rfl
 clear ho hl hc;go_enter_defers Tryz.func84, Tryz.ntmps84;go_wp2_with fail;generalize hw1 : ((w.alloc (Obj.cells #[Value.int IntKind.u64 r.k, Value.float FloatKind.f64 r.x] 43)).alloc (Obj.cells #[Value.int IntKind.u64 0, Value.float FloatKind.f64 0] 43)).alloc (Obj.cells #[Value.int IntKind.i64 0] 3) = w1;obtain ⟨HS, HB, R1, R2, I1⟩ := run_start hw1;clear hw1;refine (check_walk HL.out (HO.out.below HB.out)).mono ?_;rw [HC.out];rintro e w2 ⟨rfl, hB⟩;have hl : w.heap.size + 1 + 1 < w1.heap.size := by rw [HS.out]; omega
 obtain ⟨d0, d1, y0, y1⟩ := R2.below hB (by omega);obtain ⟨i0, x0⟩ := I1.below hB hl;have HB2 := hidH (below_trans HB.out hB);clear hB R1 R2 I1;go_wp2_with fail
 exact ⟨.tuple #[.agg #[.int .u64 0, .float .f64 0], .int .i64 0], by simp [results, Tryz.results84, go_sem, d0, d1, y0, y1, i0, x0], rfl,
  ((HB2.out.setCell (p := ⟨w.heap.size + 1, 0, none⟩) (by simp only; omega) _).setCell (p := ⟨w.heap.size + 1, 1, none⟩) (by simp only; omega) _).setCell (p := ⟨w.heap.size + 1 + 1, 0, none⟩) (by simp only; omega) _⟩
theorem RB.set {w : World} {b k x : Nat} (h : RB w b k x) (k' x' : Nat) : RB ((w.setCell ⟨b, 0, none⟩ (.int .u64 k')).setCell ⟨b, 1, none⟩ (.float .f64 x')) b k' x' := by
 obtain ⟨c0, c1, z0, z1⟩ := h;refine ⟨?_, ?_, ?_, ?_⟩ <;> simp [go_sem, c0, c1, z0, z1]
theorem RB.set1 {w : World} {b k x : Nat} (h : RB w b k x) (x' : Nat) : RB (w.setCell ⟨b, 1, none⟩ (.float .f64 x')) b k x' := by
 obtain ⟨c0, c1, z0, z1⟩ := h;refine ⟨?_, ?_, ?_, ?_⟩ <;> simp [go_sem, c0, c1, z0, z1]
theorem RB.other {w : World} {b k x : Nat} (h : RB w b k x) {p : Addr} (hne : b ≠ p.block) (v : Value) : RB (w.setCell p v) b k x := by
 have e := Below.heap_setCell w p v b hne;obtain ⟨c0, c1, z0, z1⟩ := h;exact ⟨by rw [World.cell?_of_block (w := w) e]; exact c0, by rw [World.cell?_of_block (w := w) e]; exact c1, by rw [World.frozen?_of_block (w := w) e]; exact z0, by rw [World.frozen?_of_block (w := w) e]; exact z1⟩
theorem IB.other {w : World} {b : Nat} {f : Int} (h : IB w b f) {p : Addr} (hne : b ≠ p.block) (v : Value) : IB (w.setCell p v) b f := by
 have e := Below.heap_setCell w p v b hne;obtain ⟨c0, z0⟩ := h;exact ⟨by rw [World.cell?_of_block (w := w) e]; exact c0, by rw [World.frozen?_of_block (w := w) e]; exact z0⟩
theorem RB.alloc {w : World} {b k x : Nat} (h : RB w b k x) (o : Obj) : RB (w.alloc o) b k x := h.below (below_alloc w o) (cell_lt h.c0)
theorem IB.alloc {w : World} {b : Nat} {f : Int} (h : IB w b f) (o : Obj) : IB (w.alloc o) b f := h.below (below_alloc w o) (cell_lt h.c)
def RunRel (w0 : World) (l : List Stp) (r0 : Rcd) (iv : Value) (wr : World) : Prop :=
 ∃ (k : Nat) (r : Rcd), k ≤ l.length ∧ iv = .int .i64 k ∧ r.ok ∧ goS l r0 = goS (l.drop k) r ∧ RB wr w0.heap.size r.k r.x ∧ RB wr (w0.heap.size + 1) 0 0 ∧ IB wr (w0.heap.size + 1 + 1) 0 ∧ Below w0.heap.size w0 wr
theorem runrel_start {w w2 : World} {l : List Stp} {r : Rcd} (hr : r.ok) (h1 : RB w2 w.heap.size r.k r.x) (h2 : RB w2 (w.heap.size + 1) 0 0) (h3 : IB w2 (w.heap.size + 1 + 1) 0) (hB : Below w.heap.size w w2) :
  RunRel w l (canR r) (.int .i64 0) (w2.setCell ⟨w.heap.size, 1, none⟩ (.float .f64 (canonW r.x))) :=
 ⟨0, canR r, Nat.zero_le _, rfl, canR_ok hr, rfl, h1.set1 _, h2.other (by simp only; omega) _, h3.other (by simp only; omega) _, hB.setCell (by simp only; omega) _⟩
theorem runrel_step {w wr w3 : World} {l : List Stp} {r0 r : Rcd} {k : Nat} (hlt : k < l.length) (hr : r.ok) (hg : goS l r0 = goS (l.drop k) r) (hf : fateI l[k] r.x = 1)
  (h1 : RB w3 w.heap.size r.k r.x) (h2 : RB w3 (w.heap.size + 1) 0 0) (h3 : IB w3 (w.heap.size + 1 + 1) 0) (hB : Below w.heap.size w wr) (hB3 : Below wr.heap.size wr w3) (o : Obj) :
  RunRel w l r0 (.int .i64 ((k : Int) + 1)) (((w3.alloc o).setCell ⟨w.heap.size, 0, none⟩ (.int .u64 (nextR l[k] r).k)).setCell ⟨w.heap.size, 1, none⟩ (.float .f64 (nextR l[k] r).x)) := by
 have hs : w.heap.size ≤ w3.heap.size := Nat.le_trans hB.size hB3.size;refine ⟨k + 1, nextR l[k] r, hlt, by simp, nextR_ok hr, ?_, (h1.alloc o).set _ _, ((h2.alloc o).other (by simp only; omega) _).other (by simp only; omega) _, ((h3.alloc o).other (by simp only; omega) _).other (by simp only; omega) _, ?_⟩
 ·rw [hg, List.drop_eq_getElem_cons hlt, goS_keep hf]
 ·exact ((((below_trans hB hB3).alloc hs o)).setCell (by simp only; omega) _).setCell (by simp only; omega) _
theorem goS_at {l : List Stp} {r0 r : Rcd} {k : Nat} (hlt : k < l.length) (hg : goS l r0 = goS (l.drop k) r) (hf : ¬ fateI l[k] r.x = 1) : goS l r0 = (fateI l[k] r.x, zeroR) := by
 rw [hg, List.drop_eq_getElem_cons hlt, goS_stop hf]
theorem goS_end {l : List Stp} {r0 r : Rcd} {k : Nat} (hk : k ≤ l.length) (hlt : ¬ k < l.length) (hg : goS l r0 = goS (l.drop k) r) : goS l r0 = (1, r) := by
 rw [hg, List.drop_of_length_le (by omega)]; rfl
theorem check_all {l : List Stp} (h : checkB l = true) {k : Nat} (hk : k < l.length) : isB l[k] = true := by
 unfold checkB at h;rw [Bool.and_eq_true] at h;exact List.all_eq_true.1 h.2 _ (List.getElem_mem hk)
set_option linter.unusedSimpArgs false in
theorem run_good {ao : Option Addr} {cap : Nat} {l : List Stp} {w : World} (r : Rcd) (hr : r.ok) (hl : l.length ≤ maxLen) (ho : Ol w ao l) (hok : ∀ o ∈ l, o.ok) (hc : checkB l = true) :
  Calls Tryz.prog 84 #[.slice ao l.length cap, .agg #[.int .u64 r.k, .float .f64 r.x]] w fun e w' =>
   e = .returned (.tuple #[.agg #[.int .u64 (goS l (canR r)).2.k, .float .f64 (goS l (canR r)).2.x], .int .i64 (goS l (canR r)).1]) ∧ Below w.heap.size w w' := by
 have hmf : ∀ (fn : Fn) (first cap : Array Value) (w : World), (Instr.makeFunc fn first cap).run Tryz.prog w = .ok (.func fn first cap) w := fun _ _ _ _ => rfl;have hli : (l.length : Int) ≤ 9223372036854775807 := by simp only [maxLen] at hl; omega
 have HO : Hid (Ol w ao l) := ho;have HK : Hid (∀ o ∈ l, o.ok) := hok;have HL : Hid (l.length ≤ maxLen) := hl;have HC : Hid (chkI l = 0) := by show _ = _; unfold chkI; rw [hc]; rfl
 have HA : Hid (checkB l = true) := hc;have HR : Hid r.ok := hr;clear ho hl hc hok;go_enter_defers Tryz.func84, Tryz.ntmps84;go_wp2_with fail;generalize hw1 : ((w.alloc (Obj.cells #[Value.int IntKind.u64 r.k, Value.float FloatKind.f64 r.x] 43)).alloc (Obj.cells #[Value.int IntKind.u64 0, Value.float FloatKind.f64 0] 43)).alloc (Obj.cells #[Value.int IntKind.i64 0] 3) = w1;obtain ⟨HS, HB, R1, R2, I1⟩ := run_start hw1;clear hw1;refine (check_walk HL.out (HO.out.below HB.out)).mono ?_;rw [HC.out];rintro e w2 ⟨rfl, hB⟩;have hsz : w.heap.size + 1 + 1 < w1.heap.size := by rw [HS.out]; omega
 have HR1 : Hid (RB w2 w.heap.size r.k r.x) := R1.below hB (by omega);have HR2 : Hid (RB w2 (w.heap.size + 1) 0 0) := R2.below hB (by omega);have HI1 : Hid (IB w2 (w.heap.size + 1 + 1) 0) := I1.below hB hsz;obtain ⟨c0, c1, z0, z1⟩ := HR1.out;have HB2 := hidH (below_trans HB.out hB);clear hB R1 R2 I1;go_wp2_with fail;refine (canon_walk hr.2 _).mono ?_;rintro e w' ⟨rfl, rfl⟩;have R0 := runrel_start (l := l) HR.out HR1.out HR2.out HI1.out HB2.out;go_wp2_with fail;clear c0 c1 z0 z1;go_loopw [21] (fun iv wr => RunRel w l (canR r) iv wr) (fun iv _ => l.length - (intOf iv).toNat)
 case atStart => exact R0
 case round =>
  clear R0 HR1 HR2 HI1 HB2 HB HS hsz;obtain ⟨k, q, hk, rfl, hq, hg, h1, h2, h3, hB⟩ := hrel;have HG : Hid (goS l (canR r) = goS (l.drop k) q) := hg;have HR1 := hidH h1;have HR2 := hidH h2;have HI1 := hidH h3;have HB := hidH hB;have HQ : Hid q.ok := hq;clear hg h1 h2 h3 hB hq;by_cases hlt : k < l.length
  ·obtain ⟨b, off, rfl, o0, o1, o2⟩ := HO.out.below HB.out k hlt;obtain ⟨o, hoe⟩ : ∃ o, o = l[k] := ⟨_, rfl⟩;rw [← hoe] at o0 o1 o2;have HE : Hid (o = l[k]) := hoe;have HOK : Hid o.ok := by show o.ok; rw [hoe]; exact HK.out _ (List.getElem_mem hlt)
   have HBB : Hid (isB o = true) := by show _ = _; rw [hoe]; exact check_all HA.out hlt
   clear hoe;have a0 : ∀ x : Obj, (wr.alloc x).cell? ⟨w.heap.size, 0, none⟩ = some (.int .u64 q.k) := fun x => (HR1.out.alloc x).c0;have a1 : ∀ x : Obj, (wr.alloc x).cell? ⟨w.heap.size, 1, none⟩ = some (.float .f64 q.x) := fun x => (HR1.out.alloc x).c1;rcases fate_cases o q.x with hf | hf | hf
   ·have HF : Hid (fateI o q.x = 1) := hf;clear hf;go_wp2_with fail;refine (step_kept o q HOK.out HQ.out HBB.out HF.out _).mono ?_;rintro e w3 ⟨rfl, hB3⟩;have HB3 : Hid (Below wr.heap.size wr w3) := below_trans (below_alloc _ _) hB3;clear hB3 a0 a1 o0 o1 o2;have HT1 : Hid (RB w3 w.heap.size q.k q.x) := HR1.out.below HB3.out (cell_lt HR1.out.c0);have HT2 : Hid (RB w3 (w.heap.size + 1) 0 0) := HR2.out.below HB3.out (cell_lt HR2.out.c0);have HJ1 : Hid (IB w3 (w.heap.size + 1 + 1) 0) := HI1.out.below HB3.out (cell_lt HI1.out.c);have a0 : ∀ x : Obj, (w3.alloc x).cell? ⟨w.heap.size, 0, none⟩ = some (.int .u64 q.k) := fun x => (HT1.out.alloc x).c0;have a1 : ∀ x : Obj, (w3.alloc x).cell? ⟨w.heap.size, 1, none⟩ = some (.float .f64 q.x) := fun x => (HT1.out.alloc x).c1;have a2 : ∀ x : Obj, (w3.alloc x).frozen? ⟨w.heap.size, 0, none⟩ = false := fun x => (HT1.out.alloc x).z0;have a3 : ∀ x : Obj, (w3.alloc x).frozen? ⟨w.heap.size, 1, none⟩ = false := fun x => (HT1.out.alloc x).z1;have R := runrel_step (w3 := w3) hlt HQ.out HG.out (by rw [← HE.out]; exact HF.out) HT1.out HT2.out HJ1.out HB.out HB3.out (Obj.cells #[Value.int IntKind.u64 (nextR o q).k, Value.float FloatKind.f64 (nextR o q).x] 43);rw [← HE.out] at R;go_wp2_with fail;go_roundw
    case rel => exact R
    case measure => simp [intOf]; omega
   ·have HF : Hid (fateI o q.x = 2) := hf;clear hf;go_wp2_with fail;refine (step_dropped o q HQ.out HBB.out HF.out _).mono ?_;rintro e w3 ⟨rfl, hB3⟩;have HB3 : Hid (Below wr.heap.size wr w3) := below_trans (below_alloc _ _) hB3;clear hB3 a0 a1 o0 o1 o2;have HT1 : Hid (RB w3 w.heap.size q.k q.x) := HR1.out.below HB3.out (cell_lt HR1.out.c0);have HT2 : Hid (RB w3 (w.heap.size + 1) 0 0) := HR2.out.below HB3.out (cell_lt HR2.out.c0);have HJ1 : Hid (IB w3 (w.heap.size + 1 + 1) 0) := HI1.out.below HB3.out (cell_lt HI1.out.c);have a0 : ∀ x : Obj, (w3.alloc x).cell? ⟨w.heap.size + 1, 0, none⟩ = some (.int .u64 0) := fun x => (HT2.out.alloc x).c0;have a1 : ∀ x : Obj, (w3.alloc x).cell? ⟨w.heap.size + 1, 1, none⟩ = some (.float .f64 0) := fun x => (HT2.out.alloc x).c1;have a2 : ∀ x : Obj, (w3.alloc x).frozen? ⟨w.heap.size + 1, 0, none⟩ = false := fun x => (HT2.out.alloc x).z0;have a3 : ∀ x : Obj, (w3.alloc x).frozen? ⟨w.heap.size + 1, 1, none⟩ = false := fun x => (HT2.out.alloc x).z1;have a4 : ∀ x : Obj, (w3.alloc x).cell? ⟨w.heap.size + 1 + 1, 0, none⟩ = some (.int .i64 0) := fun x => (HJ1.out.alloc x).c;have a5 : ∀ x : Obj, (w3.alloc x).frozen? ⟨w.heap.size + 1 + 1, 0, none⟩ = false := fun x => (HJ1.out.alloc x).z;go_wp2_with fail;refine leaves_cons (f := 107) (args := #[.pointer (some ⟨w.heap.size + 1, 0, none⟩), .pointer (some ⟨w.heap.size + 1 + 1, 0, none⟩)]) (by simp) (by simp [go_sem]) ?_;refine (catch_idle _ _ _).mono ?_;rintro e u' w'' ⟨rfl, rfl, rfl⟩;have hE := goS_at hlt HG.out (by rw [← HE.out, HF.out]; decide);rw [← HE.out, HF.out] at hE;rw [hE];have hs3 : w.heap.size ≤ w3.heap.size := Nat.le_trans HB.out.size HB3.out.size
    exact ⟨.tuple #[.agg #[.int .u64 0, .float .f64 0], .int .i64 2], by simp [results, Tryz.results84, go_sem, a0, a1, a2, a3, a4, a5], rfl,
     ((((below_trans HB.out HB3.out).alloc hs3 _).setCell (p := ⟨w.heap.size + 1, 0, none⟩) (by simp only; omega) _).setCell (p := ⟨w.heap.size + 1, 1, none⟩) (by simp only; omega) _).setCell (p := ⟨w.heap.size + 1 + 1, 0, none⟩) (by simp only; omega) _⟩
   ·have HF : Hid (fateI o q.x = 3) := hf;clear hf;go_wp2_with fail;refine (step_trapped o q HQ.out HBB.out HF.out _).mono ?_;rintro e w3 ⟨⟨u, pv, rfl⟩, hB3⟩;have HB3 : Hid (Below wr.heap.size wr w3) := below_trans (below_alloc _ _) hB3;clear hB3 a0 a1 o0 o1 o2;have HT1 : Hid (RB w3 w.heap.size q.k q.x) := HR1.out.below HB3.out (cell_lt HR1.out.c0);have HT2 : Hid (RB w3 (w.heap.size + 1) 0 0) := HR2.out.below HB3.out (cell_lt HR2.out.c0);have HJ1 : Hid (IB w3 (w.heap.size + 1 + 1) 0) := HI1.out.below HB3.out (cell_lt HI1.out.c);go_wp2_with fail;refine leaves_cons (f := 107) (args := #[.pointer (some ⟨w.heap.size + 1, 0, none⟩), .pointer (some ⟨w.heap.size + 1 + 1, 0, none⟩)]) (by simp) (by simp [go_sem]) ?_;refine (catch_panicking u pv [] w3 HT2.out HJ1.out (by omega)).mono ?_;rintro e u' w'' ⟨rfl, rfl, rfl⟩;have hE := goS_at hlt HG.out (by rw [← HE.out, HF.out]; decide);rw [← HE.out, HF.out] at hE;rw [hE];obtain ⟨d0, d1, y0, y1⟩ := HT2.out;obtain ⟨i0, x0⟩ := HJ1.out
    exact ⟨.tuple #[.agg #[.int .u64 0, .float .f64 0], .int .i64 3], by simp [results, Tryz.results84, go_sem, d0, d1, y0, y1, i0, x0], rfl,
     (((below_trans HB.out HB3.out).setCell (p := ⟨w.heap.size + 1, 0, none⟩) (by simp only; omega) _).setCell (p := ⟨w.heap.size + 1, 1, none⟩) (by simp only; omega) _).setCell (p := ⟨w.heap.size + 1 + 1, 0, none⟩) (by simp only; omega) _⟩
  ·obtain ⟨c0, c1, z0, z1⟩ := HR1.out;obtain ⟨d0, d1, y0, y1⟩ := HR2.out;obtain ⟨i0, x0⟩ := HI1.out;go_wp2_with fail;refine leaves_cons (f := 107) (args := #[.pointer (some ⟨w.heap.size + 1, 0, none⟩), .pointer (some ⟨w.heap.size + 1 + 1, 0, none⟩)]) (by simp) (by simp [go_sem]) ?_;refine (catch_idle _ _ _).mono ?_;rintro e u' w'' ⟨rfl, rfl, rfl⟩;rw [goS_end hk hlt HG.out]
   exact ⟨.tuple #[.agg #[.int .u64 q.k, .float .f64 q.x], .int .i64 1], by simp [results, Tryz.results84, go_sem, d0, d1, y0, y1, i0, x0], rfl,
    ((HB.out.setCell (p := ⟨w.heap.size + 1, 0, none⟩) (by simp only; omega) _).setCell (p := ⟨w.heap.size + 1, 1, none⟩) (by simp only; omega) _).setCell (p := ⟨w.heap.size + 1 + 1, 0, none⟩) (by simp only; omega) _⟩
theorem run_walk {v : Value} {l : List Stp} {w : World} (r : Rcd) (hr : r.ok) (ho : Ov w v l) :
  Calls Tryz.prog 84 #[v, .agg #[.int .u64 r.k, .float .f64 r.x]] w fun e w' =>
   e = .returned (.tuple #[.agg #[.int .u64 (runS l r).2.k, .float .f64 (runS l r).2.x], .int .i64 (runS l r).1]) ∧ Below w.heap.size w w' := by
 obtain ⟨⟨ao, cap, rfl, h1, h2, h3, h4⟩, h5⟩ := ho;unfold runS
 cases hc : checkB l
 ·exact run_bad r (by omega) h4 hc
 ·exact run_good r hr (by omega) h4 h5 hc
end
end Go.Proofs.YtombjgfajbhbbaaGreat
