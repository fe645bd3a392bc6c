/- The plain mathematics of msg: messages as bytes and back. Nothing of the program is said here. -/
import Derived.Test.YtopjedgknbbgkaaGreatM06
import Derived.BigQuiet
import Derived.Deep.QuietTactic
import Derived.Laws.AppendOwnNone
import Derived.OwnWalk
import Derived.Test.YtopjedgknbbgkaaGreatM04
import Derived.Test.YtopjedgknbbgkaaGreatM00
import Derived.Test.YtopjedgknbbgkaaGreatGb
import Derived.Test.YtopjedgknbbgkaaGreatM01
import Derived.Test.YtopjedgknbbgkaaGreatChecked
import Derived.WalkKit
import Derived.ProofKit
import Derived.Deep.Draws
import Derived.Deep.Slices
import Derived.WalkLawsBesides
import Derived.Deep.RegionHeld3
import Derived.Laws.StructEq
import Derived.Lib.Hide
namespace Go.Proofs.YtopjedgknbbgkaaGreat

open Ieee Go.RowKit



/-- The cells behind ao hold the pairs l. -/
def Ql (w : World) (ao : Option Addr) (l : List Pr) : Prop :=
  ∀ i, (h : i < l.length) → ∃ b off, ao = some ⟨b, off, none⟩ ∧ w.cell? ⟨b, off + i * 3, none⟩ = some (.int .u64 l[i].k) ∧ w.cell? ⟨b, off + i * 3 + 1, none⟩ = some (.bool l[i].v.h) ∧ w.cell? ⟨b, off + i * 3 + 2, none⟩ = some (.int .u64 l[i].v.b)


/-- The value v is a slice that holds the pairs l. -/
def Qv (w : World) (v : Value) (l : List Pr) : Prop :=
  (∃ ao cap, v = .slice ao l.length cap ∧ l.length ≤ cap ∧ cap ≤ maxLen ∧ (ao = none → cap = 0) ∧ Ql w ao l) ∧ ∀ o ∈ l, o.ok


theorem Ql.below {w w' : World} {ao : Option Addr} {l : List Pr} (h : Ql w ao l) (hb : Below w.heap.size w w') : Ql w' ao l := by
  intro i hi
  obtain ⟨b, off, e, h0, h1, h2⟩ := h i hi
  exact ⟨b, off, e, by rw [hb.cell (p := ⟨b, off + i * 3, none⟩) (cell_lt h0)]; exact h0, by rw [hb.cell (p := ⟨b, off + i * 3 + 1, none⟩) (cell_lt h1)]; exact h1, by rw [hb.cell (p := ⟨b, off + i * 3 + 2, none⟩) (cell_lt h2)]; exact h2⟩
theorem Qv.below {w w' : World} {v : Value} {l : List Pr} (h : Qv w v l) (hb : Below w.heap.size w w') : Qv w' v l := by
  obtain ⟨⟨ao, cap, e, h1, h2, h3, h4⟩, h5⟩ := h
  exact ⟨⟨ao, cap, e, h1, h2, h3, h4.below hb⟩, h5⟩


/-- The cells of pairs in a row. -/
def flatQ (l : List Pr) : List Value := l.flatMap fun o => [.int .u64 o.k, .bool o.v.h, .int .u64 o.v.b]
theorem flatQ_len (l : List Pr) : (flatQ l).length = l.length * 3 := by
  unfold flatQ
  induction l with
  | nil => rfl
  | cons o l ih => rw [List.flatMap_cons, List.length_append, ih]; simp; omega
theorem flatQ_append (l m : List Pr) : flatQ (l ++ m) = flatQ l ++ flatQ m := by unfold flatQ; exact List.flatMap_append
theorem flatQ_get (l : List Pr) : ∀ (i : Nat) (h : i < l.length), (flatQ l)[i * 3]? = some (.int .u64 l[i].k) ∧ (flatQ l)[i * 3 + 1]? = some (.bool l[i].v.h) ∧ (flatQ l)[i * 3 + 2]? = some (.int .u64 l[i].v.b) := by
  induction l with
  | nil => intro i h; simp at h
  | cons o l ih =>
    intro i h
    have e : flatQ (o :: l) = .int .u64 o.k :: .bool o.v.h :: .int .u64 o.v.b :: flatQ l := rfl
    rw [e]
    cases i with
    | zero => simp
    | succ i =>
      have := ih i (by simpa using h)
      rw [show (i + 1) * 3 = i * 3 + 1 + 1 + 1 by omega]
      simpa using this
theorem flatQ_mem {l : List Pr} {u : Value} (h : u ∈ flatQ l) : u.oneCell' = true := by
  unfold flatQ at h
  obtain ⟨o, _, ho⟩ := List.mem_flatMap.1 h
  simp at ho
  rcases ho with rfl | rfl | rfl <;> rfl


/-- Block g holds the pairs m, and nothing of it is frozen. -/
def Mq (w : World) (g : Nat) (m : List Pr) : Prop :=
  ∀ i, (h : i < m.length) → (w.cell? ⟨g, i * 3, none⟩ = some (.int .u64 m[i].k) ∧ w.cell? ⟨g, i * 3 + 1, none⟩ = some (.bool m[i].v.h) ∧ w.cell? ⟨g, i * 3 + 2, none⟩ = some (.int .u64 m[i].v.b)) ∧
    (w.frozen? ⟨g, i * 3, none⟩ = false ∧ w.frozen? ⟨g, i * 3 + 1, none⟩ = false ∧ w.frozen? ⟨g, i * 3 + 2, none⟩ = false)
theorem Mq.below {w w' : World} {g B : Nat} {m : List Pr} (h : Mq w g m) (hb : Below B w w') (hl : g < B) : Mq w' g m := by
  intro i hi
  obtain ⟨⟨a, b, c⟩, d, e, f⟩ := h i hi
  exact ⟨⟨by rw [hb.cell (p := ⟨g, i * 3, none⟩) hl]; exact a, by rw [hb.cell (p := ⟨g, i * 3 + 1, none⟩) hl]; exact b, by rw [hb.cell (p := ⟨g, i * 3 + 2, none⟩) hl]; exact c⟩,
    by rw [hb.frozen (p := ⟨g, i * 3, none⟩) hl]; exact d, by rw [hb.frozen (p := ⟨g, i * 3 + 1, none⟩) hl]; exact e, by rw [hb.frozen (p := ⟨g, i * 3 + 2, none⟩) hl]; exact f⟩


theorem own_mq {w : World} {base e n cap g : Nat} {m : List Pr} (h : w.ownsRow base e 3 (.slice (some ⟨g, 0, none⟩) n cap) n (flatQ m)) : Mq w g m := by
  obtain ⟨h1, h2⟩ := h
  rw [flatQ_len] at h1
  have hn : n = m.length := by omega
  subst hn
  rcases h2 with ⟨h, _⟩ | ⟨g', cap', cur, e1, hb, hg, hnc, hcm, hcs, htake⟩
  · cases h
  · simp only [Value.slice.injEq, Option.some.injEq, Addr.mk.injEq] at e1
    obtain ⟨⟨rfl, _⟩, _, rfl⟩ := e1
    have key : ∀ j u, j < m.length * 3 → (flatQ m)[j]? = some u → w.cell? ⟨g, j, none⟩ = some u := by
      intro j u hj hu
      rw [cell_of_row w g j cur e (0, 0) hg, ← Array.getElem?_toList]
      rw [← htake, List.getElem?_take, if_pos hj] at hu
      exact hu
    intro i hi
    obtain ⟨a, b, c⟩ := flatQ_get m i hi
    refine ⟨⟨key _ _ (by omega) a, key _ _ (by omega) b, key _ _ (by omega) c⟩, ?_, ?_, ?_⟩
    all_goals simp [World.frozen?, hg]


theorem mq_qv {w : World} {g cap n : Nat} {m : List Pr} (h : Mq w g m) (hn : n ≤ m.length) (hc : m.length ≤ cap) (hm : cap ≤ maxLen) (hok : ∀ o ∈ m, o.ok) : Qv w (.slice (some ⟨g, 0, none⟩) n cap) (m.take n) := by
  have hl : (m.take n).length = n := by simp; omega
  refine ⟨⟨_, cap, by rw [hl], by omega, hm, by simp, fun i hi => ?_⟩, fun o ho => hok o (List.mem_of_mem_take ho)⟩
  rw [hl] at hi
  obtain ⟨⟨a, b, c⟩, _⟩ := h i (by omega)
  refine ⟨g, 0, rfl, ?_, ?_, ?_⟩
  · simpa using a
  · simpa using b
  · simpa using c




theorem info_partsQ {P : Program} {e : TypeId} {z : Value} {s b : Nat} (h : (P.info? e).map (fun i => (i.zero, i.size, i.bytes)) = some (some z, s, b)) : ∃ i, P.info? e = some i ∧ i.zero = some z ∧ i.size = s ∧ i.bytes = b := by
  cases hi : P.info? e with
  | none => rw [hi] at h; cases h
  | some i =>
    rw [hi] at h
    simp at h
    exact ⟨i, rfl, h.1, h.2.1, h.2.2⟩




theorem wpList_append_qv {P : Program} {w : World} {ops : Array Oper} {rest : List Oper} {o : Oper} {a : Act} {Q : Exit → Act → World → Prop} (hgd : o.guard = none) (s x : Operand) (t : TypeId)
    (ho : o.op = .call { callee := .builtin .append, args := #[s, x], argTypes := #[t, t] })
    (base : Nat) (e : TypeId) (i0 : TypeInfo) (ht : P.underlying t = some (.slice e)) (hi : P.info? e = some i0) (hz1 : i0.size = 3)
    (g n cap : Nat) (m : List Pr) (hs : a.eval s = .slice (some ⟨g, 0, none⟩) n cap) (hown : w.ownsRow base e 3 (.slice (some ⟨g, 0, none⟩) n cap) n (flatQ m))
    (y : Value) (l : List Pr) (hx : a.eval x = y) (hy : Qv w y l) (hfit : n + l.length ≤ cap)
    (h : ∀ w', w'.ownsRow base e 3 (.slice (some ⟨g, 0, none⟩) (n + l.length) cap) (n + l.length) (flatQ (m ++ l)) → w.grownBy w' (some g) → wpList P ops Q rest (a.put o.dst (.slice (some ⟨g, 0, none⟩) (n + l.length) cap)) w') : wpList P ops Q (o :: rest) a w := by
  obtain ⟨⟨ao, c, rfl, hc1, hc2, hnone, hcells⟩, _⟩ := hy
  cases ao with
  | none =>
    obtain rfl := hnone rfl
    have hl0 : l.length = 0 := by omega
    have hl : l = [] := List.eq_nil_of_length_eq_zero hl0
    subst hl
    refine wpList_append_own_none hgd s x t ho base e i0 3 ht hi _ n (flatQ m) hs hown hx ?_
    have := h w (by simpa using hown) ⟨rfl, rfl, rfl, Nat.le_refl _, fun _ _ _ => rfl⟩
    simpa using this
  | some p =>
    refine wpList_append_fits w hgd s x t ho base e i0 3 ht hi hz1 g n cap (flatQ m) hs hown p l.length c (flatQ l) hx (flatQ_len l) ?_ (fun u hu => flatQ_mem hu) hfit (by rw [← flatQ_append]; exact h)
    intro j u hj
    have hjl : j < l.length * 3 := by
      rcases Nat.lt_or_ge j (l.length * 3) with h | h
      · exact h
      · rw [List.getElem?_eq_none (by rw [flatQ_len]; exact h)] at hj; cases hj
    obtain ⟨b, off, e1, g0, g1, g2⟩ := hcells (j / 3) (by omega)
    cases e1
    obtain ⟨f0, f1, f2⟩ := flatQ_get l (j / 3) (by omega)
    rw [WideShapes.add_plain]
    have hmod : j % 3 = 0 ∨ j % 3 = 1 ∨ j % 3 = 2 := by omega
    rcases hmod with hm | hm | hm
    · have e2 : j / 3 * 3 = j := by omega
      rw [e2] at f0 g0
      rw [f0] at hj; rw [g0, hj]
    · have e2 : j / 3 * 3 + 1 = j := by omega
      rw [Nat.add_assoc, e2] at g1
      rw [e2] at f1
      rw [f1] at hj; rw [g1, hj]
    · have e2 : j / 3 * 3 + 2 = j := by omega
      rw [Nat.add_assoc, e2] at g2
      rw [e2] at f2
      rw [f2] at hj; rw [g2, hj]


theorem Qv.ql {w : World} {ao : Option Addr} {n cap : Nat} {l : List Pr} (h : Qv w (.slice ao n cap) l) : Ql w ao l := by
  obtain ⟨⟨ao', cap', e, _, _, _, h4⟩, _⟩ := h
  simp only [Value.slice.injEq] at e
  rw [e.1]; exact h4




theorem Mq.other {w : World} {g : Nat} {m : List Pr} (h : Mq w g m) {p : Addr} (hne : g ≠ p.block) (v : Value) : Mq (w.setCell p v) g m := by
  have e := Below.heap_setCell w p v g hne
  intro i hi
  obtain ⟨⟨a, b, c⟩, d, f, k⟩ := h i hi
  exact ⟨⟨by rw [World.cell?_of_block (w := w) e]; exact a, by rw [World.cell?_of_block (w := w) e]; exact b, by rw [World.cell?_of_block (w := w) e]; exact c⟩,
    by rw [World.frozen?_of_block (w := w) e]; exact d, by rw [World.frozen?_of_block (w := w) e]; exact f, by rw [World.frozen?_of_block (w := w) e]; exact k⟩


/-- A pair laid into the row. -/
theorem Mq.set {w : World} {g : Nat} {m : List Pr} (h : Mq w g m) {j : Nat} (hj : j < m.length) (o : Pr) :
    Mq (((w.setCell ⟨g, j * 3, none⟩ (.int .u64 o.k)).setCell ⟨g, j * 3 + 1, none⟩ (.bool o.v.h)).setCell ⟨g, j * 3 + 2, none⟩ (.int .u64 o.v.b)) g (m.set j o) := by
  obtain ⟨⟨a, b, c⟩, d, e, f⟩ := h j hj
  intro i hi
  rw [List.length_set] at hi
  obtain ⟨⟨a', b', c'⟩, d', e', f'⟩ := h i hi
  by_cases hij : j = i
  · subst hij
    rw [List.getElem_set_self]
    refine ⟨⟨?_, ?_, ?_⟩, ?_, ?_, ?_⟩ <;> simp [go_sem, a, b, c, d, e, f]
  · rw [List.getElem_set_ne hij]
    have n0 : ¬ j * 3 = i * 3 := by omega
    have n1 : ¬ j * 3 = i * 3 + 1 := by omega
    have n2 : ¬ j * 3 = i * 3 + 2 := by omega
    have n3 : ¬ j * 3 + 1 = i * 3 := by omega
    have n4 : ¬ j * 3 + 1 = i * 3 + 1 := by omega
    have n5 : ¬ j * 3 + 1 = i * 3 + 2 := by omega
    have n6 : ¬ j * 3 + 2 = i * 3 := by omega
    have n7 : ¬ j * 3 + 2 = i * 3 + 1 := by omega
    have n8 : ¬ j * 3 + 2 = i * 3 + 2 := by omega
    have k0 : ∀ (p q : Nat) (v : Value) (w : World), ¬ p = q → (w.setCell ⟨g, p, none⟩ v).cell? ⟨g, q, none⟩ = w.cell? ⟨g, q, none⟩ := fun p q v w hne => World.cell?_setCell_other w _ _ v (by rintro ⟨⟩; exact hne rfl)
    refine ⟨⟨?_, ?_, ?_⟩, ?_, ?_, ?_⟩
    · rw [k0 _ _ _ _ n6, k0 _ _ _ _ n3, k0 _ _ _ _ n0]; exact a'
    · rw [k0 _ _ _ _ n7, k0 _ _ _ _ n4, k0 _ _ _ _ n1]; exact b'
    · rw [k0 _ _ _ _ n8, k0 _ _ _ _ n5, k0 _ _ _ _ n2]; exact c'
    all_goals simp [go_sem, d', e', f']


end Go.Proofs.YtopjedgknbbgkaaGreat

namespace Go.Proofs.YtopjedgknbbgkaaGreat

open Ieee Go.RowKit

attribute [local go_sem] run_store_float


def chkI (l : List Stp) : Int := if checkB l then 0 else 30


/-- The loops over a list: where they are, the world since. -/
def Rng (w0 : World) (l : List Stp) (iv : Value) (wr : World) : Prop :=
  ∃ k : Nat, k ≤ l.length ∧ iv = .int .i64 k ∧ (∀ j, (h : j < l.length) → j < k → isB l[j] = true) ∧ Below w0.heap.size w0 wr


theorem check_long {l : List Stp} (h : 8 < l.length) : chkI l = 30 := by
  unfold chkI checkB
  rw [decide_eq_false (by omega)]; rfl
theorem check_bad {l : List Stp} {k : Nat} (hk : k < l.length) (h : isB l[k] = false) : chkI l = 30 := by
  unfold chkI checkB
  have : l.all isB = false := by
    rw [List.all_eq_false]
    exact ⟨l[k], List.getElem_mem hk, by simpa using h⟩
  rw [this, Bool.and_false]; rfl
theorem check_good {l : List Stp} (h : l.length ≤ 8) (ha : ∀ j, (h : j < l.length) → isB l[j] = true) : chkI l = 0 := by
  unfold chkI checkB
  have : l.all isB = true := by
    rw [List.all_eq_true]
    intro o ho
    obtain ⟨i, hi, rfl⟩ := List.getElem_of_mem ho
    exact ha i hi
  rw [this, Bool.and_true, decide_eq_true h]; rfl
theorem rng_step {w0 wr w1 : World} {l : List Stp} {k : Nat} (hk : k < l.length) (ha : ∀ j, (h : j < l.length) → j < k → isB l[j] = true) (hb : isB l[k] = true) (hB : Below w0.heap.size w0 wr) (h1 : Below wr.heap.size wr w1) :
    Rng w0 l (.int .i64 ((k : Int) + 1)) w1 := by
  refine ⟨k + 1, hk, by simp, fun j hj hjk => ?_, below_trans hB h1⟩
  rcases Nat.lt_or_ge j k with h | h
  · exact ha j hj h
  · obtain rfl : j = k := by omega
    exact hb


theorem check_walk {ao : Option Addr} {cap : Nat} {l : List Stp} {w : World} (hl : l.length ≤ maxLen) (ho : Ol w ao l) :
    Calls Tryz.prog 33 #[.slice ao l.length cap] w fun e w' => e = .returned (.int .i64 (chkI l)) ∧ Below w.heap.size w w' := by
  have hli : (l.length : Int) ≤ 9223372036854775807 := by simp only [maxLen] at hl; omega
  have HO : Hid (Ol w ao l) := ho
  clear ho hl
  by_cases h8 : (8 : Int) < (l.length : Int)
  · go_enter Tryz.func33, Tryz.ntmps33
    go_wp2_with fail
    go_ret
    exact ⟨ret_int (check_long (by omega)).symm, below_same _⟩
  · have HL : Hid (l.length ≤ 8) := by show _ ≤ _; omega
    go_enter Tryz.func33, Tryz.ntmps33
    go_wp2_with fail
    go_loopw [10] (fun iv wr => Rng w l iv wr) (fun iv _ => l.length - (intOf iv).toNat)
    case atStart => exact ⟨0, Nat.zero_le _, rfl, fun j hj h => by omega, below_same _⟩
    case round =>
      obtain ⟨k, hk, rfl, HA', hB'⟩ := hrel
      have HA : Hid (∀ j, (h : j < l.length) → j < k → isB l[j] = true) := HA'
      have HB : Hid (Below w.heap.size w wr) := hB'
      clear HA' hB'
      by_cases hlt : k < l.length
      · obtain ⟨b, off, rfl, c0, c1, c2⟩ := HO.out.below HB.out k hlt
        obtain ⟨o, hoe⟩ : ∃ o, o = l[k] := ⟨_, rfl⟩
        rw [← hoe] at c0 c1 c2
        have HE : Hid (o = l[k]) := hoe
        clear hoe
        cases hb : isB o
        · go_wp2_with fail
          refine (isStep_walk o _).mono ?_
          rw [hb]
          rintro e w1 ⟨rfl, hB1⟩
          go_wp2_with fail
          go_ret
          exact ⟨ret_int (check_bad hlt (by rw [← HE.out]; exact hb)).symm, below_trans HB.out (below_trans (below_alloc _ _) hB1)⟩
        · go_wp2_with fail
          refine (isStep_walk o _).mono ?_
          rw [hb]
          rintro e w1 ⟨rfl, hB1⟩
          have R := rng_step hlt HA.out (by rw [← HE.out]; exact hb) HB.out (below_trans (below_alloc _ _) hB1)
          go_wp2_with fail
          go_roundw
          case rel => exact R
          case measure => simp [intOf]; omega
      · go_wp2_with fail
        go_ret
        exact ⟨ret_int (check_good HL.out (fun j hj => HA.out j hj (by omega))).symm, HB.out⟩
end Go.Proofs.YtopjedgknbbgkaaGreat

namespace Go.Proofs.YtopjedgknbbgkaaGreat

open Go.RowKit







theorem below_drw (w : World) : Below w.heap.size w w.drew := (Below.refl _ _).drew


attribute [local go_sem] run_store_float




















end Go.Proofs.YtopjedgknbbgkaaGreat

namespace Go.Proofs.YtopjedgknbbgkaaGreat

open Go.RowKit









































theorem grown_of_below {w w' : World} (h : Below w.heap.size w w') : w.grownBy w' none := ⟨h.os, h.tape, h.output, h.size, fun i hi _ => h.block i hi⟩
theorem own3_below {w w' : World} {B e n : Nat} {v : Value} {xs : List Value} (h : w.ownsRow B e 3 v n xs) (hb : Below w.heap.size w w') : w'.ownsRow B e 3 v n xs := by
  refine h.kept (grown_of_below hb) ?_
  cases hv : v.ownBlock
  · exact Or.inl rfl
  · exact Or.inr (by simp)
theorem cell_own {w w' : World} {row : Option Nat} {p : Addr} {u : Value} (h : w.cell? p = some u) (hg : w.grownBy w' row) (hne : ∀ m, row = some m → p.block ≠ m) : w'.cell? p = some u := by
  rw [World.cell?_of_block (w := w) (hg.block p.block (cell_lt h) (fun e => hne _ e.symm rfl))]; exact h
theorem pair_cells {w : World} {g k b : Nat} {c : Bool} (h0 : w.cell? ⟨g, 0, none⟩ = some (.int .u64 k)) (h1 : w.cell? ⟨g, 1, none⟩ = some (.bool c)) (h2 : w.cell? ⟨g, 2, none⟩ = some (.int .u64 b)) :
    ∀ (j : Nat) (u : Value), ([.int .u64 k, .bool c, .int .u64 b] : List Value)[j]? = some u → w.cell? ((⟨g, 0, none⟩ : Addr).add j) = some u := by
  intro j u hj
  have : j = 0 ∨ j = 1 ∨ j = 2 ∨ 3 ≤ j := by omega
  rcases this with rfl | rfl | rfl | h
  · simp at hj; subst hj; simpa [WideShapes.add_plain] using h0
  · simp at hj; subst hj; simpa [WideShapes.add_plain] using h1
  · simp at hj; subst hj; simpa [WideShapes.add_plain] using h2
  · rw [List.getElem?_eq_none (by simpa using h)] at hj; cases hj
end Go.Proofs.YtopjedgknbbgkaaGreat

namespace Go.Proofs.YtopjedgknbbgkaaGreat



/-- A mark: its batch, its attempt, its keys. -/
structure Mk where
  b : Int
  a : Int
  k : List Nat


def zeroM : Mk := ⟨0, 0, []⟩
def keysOk (l : List Nat) : Prop := ∀ x ∈ l, x < 18446744073709551616
def folN (o : Option Nat) (k : Nat) : Bool := match o with
  | none => true
  | some j => decide (j < k)
def risE : Option Nat → List Nat → Bool
  | _, [] => true
  | o, c :: r => folN o c && risE (some c) r
def risB (l : List Nat) : Bool := risE none l
def cntB (x : Int) : Bool := decide (0 ≤ x) && decide (x ≤ 1099511627776)
def soundBM (m : Mk) : Bool := cntB m.b && (cntB m.a && (if m.b = 0 ∨ m.a = 0 then decide (m.b = m.a) && decide (m.k.length = 0) else decide (m.k.length ≤ 64) && risB m.k))


def bytesM (m : Mk) : List Nat := Wm.enc m.b.toNat ++ (Wm.enc m.a.toNat ++ (Wm.enc m.k.length ++ Wm.encAll m.k))
def encM (m : Mk) : List Nat × Nat := if soundBM m = true then (bytesM m, 0) else ([], 1)


/-- A batch or an attempt: the error, the number, the bytes behind. -/
def cntL (l : List Nat) : Nat × Nat × List Nat :=
  if (Wm.take l).2.2 ≠ 0 then ((Wm.take l).2.2, 0, []) else if 1099511627776 < (Wm.take l).1 then (4, 0, []) else (0, (Wm.take l).1, l.drop (Wm.take l).2.1)
/-- n keys: the error, the keys, the bytes behind. -/
def keyS : Nat → List Nat → Nat × List Nat × List Nat
  | 0, l => (0, [], l)
  | n + 1, l => if (Wm.take l).2.2 ≠ 0 then ((Wm.take l).2.2, [], []) else
      if (keyS n (l.drop (Wm.take l).2.1)).1 ≠ 0 then ((keyS n (l.drop (Wm.take l).2.1)).1, [], []) else
      (0, (Wm.take l).1 :: (keyS n (l.drop (Wm.take l).2.1)).2.1, (keyS n (l.drop (Wm.take l).2.1)).2.2)
def decE (b a : Nat) (r : Nat × List Nat × List Nat) : Mk × Nat :=
  if r.1 ≠ 0 then (zeroM, r.1) else if r.2.2.length ≠ 0 then (zeroM, 5) else if soundBM ⟨b, a, r.2.1⟩ = false then (zeroM, 1) else (⟨b, a, r.2.1⟩, 0)
def decK (b a : Nat) (l : List Nat) : Mk × Nat :=
  if (Wm.take l).2.2 ≠ 0 then (zeroM, (Wm.take l).2.2) else if 64 < (Wm.take l).1 then (zeroM, 6) else decE b a (keyS (Wm.take l).1 (l.drop (Wm.take l).2.1))
def decA (b : Nat) (l : List Nat) : Mk × Nat := if (cntL l).1 ≠ 0 then (zeroM, (cntL l).1) else decK b (cntL l).2.1 (cntL l).2.2
def decM (l : List Nat) : Mk × Nat := if (cntL l).1 ≠ 0 then (zeroM, (cntL l).1) else decA (cntL l).2.1 (cntL l).2.2


theorem take_cut {l : List Nat} {x n : Nat} (hl : ∀ c ∈ l, c < 256) (h : Wm.take l = (x, n, 0)) : l = Wm.enc x ++ l.drop n ∧ x < 18446744073709551616 ∧ n = (Wm.enc x).length := by
  rcases Wm.take_form l hl with ⟨e, h1, h2⟩ | ⟨y, m, h1, h2, h3, h4, h5⟩
  · rw [h] at h1; simp at h1; omega
  · rw [h] at h1
    simp at h1
    obtain ⟨rfl, rfl⟩ := h1
    refine ⟨by rw [h5, List.take_append_drop], h2, by rw [h5]; simp; omega⟩
theorem take_app {α : Type} (a b : List α) (n : Nat) : (a ++ b).take n = if n < a.length then a.take n else a ++ b.take (n - a.length) := by
  split
  · rename_i h; rw [List.take_append_of_le_length (by omega)]
  · rename_i h
    have : n = a.length + (n - a.length) := by omega
    rw [this, List.take_length_add_append]
    simp
theorem drop_enc (x : Nat) (r : List Nat) : (Wm.enc x ++ r).drop (Wm.enc x).length = r := by simp


theorem cnt_parts {x : Int} (h : cntB x = true) : 0 ≤ x ∧ x ≤ 1099511627776 := by
  simpa [cntB] using h
theorem sound_parts {m : Mk} (h : soundBM m = true) : 0 ≤ m.b ∧ m.b ≤ 1099511627776 ∧ 0 ≤ m.a ∧ m.a ≤ 1099511627776 ∧ m.k.length ≤ 64 := by
  simp only [soundBM, Bool.and_eq_true] at h
  obtain ⟨h1, h2, h3⟩ := h
  have c1 := cnt_parts h1
  have c2 := cnt_parts h2
  refine ⟨c1.1, c1.2, c2.1, c2.2, ?_⟩
  split at h3
  · simp at h3; rw [h3.2]; simp
  · simp at h3; exact h3.1
theorem encAll_len (l : List Nat) : (Wm.encAll l).length ≤ 10 * l.length := by
  induction l with
  | nil => simp [Wm.encAll]
  | cons x l ih => have := Wm.enc_len x; simp only [Wm.encAll, List.length_append, List.length_cons]; omega
theorem encAll_lt (l : List Nat) (h : keysOk l) : ∀ c ∈ Wm.encAll l, c < 256 := by
  induction l with
  | nil => simp [Wm.encAll]
  | cons x l ih =>
    intro c hc
    simp only [Wm.encAll, List.mem_append] at hc
    rcases hc with hc | hc
    · exact Wm.enc_lt x (h x (by simp)) c hc
    · exact ih (fun y hy => h y (by simp [hy])) c hc
theorem encAll_append (l r : List Nat) : Wm.encAll (l ++ r) = Wm.encAll l ++ Wm.encAll r := by
  induction l with
  | nil => rfl
  | cons x l ih => simp [Wm.encAll, ih]
theorem bytesM_len {m : Mk} (h : soundBM m = true) : (bytesM m).length ≤ 670 := by
  have := (sound_parts h).2.2.2.2
  have h1 := Wm.enc_len m.b.toNat
  have h2 := Wm.enc_len m.a.toNat
  have h3 := Wm.enc_len m.k.length
  have h4 := encAll_len m.k
  simp only [bytesM, List.length_append]; omega
theorem bytesM_lt {m : Mk} (h : soundBM m = true) (hk : keysOk m.k) : ∀ c ∈ bytesM m, c < 256 := by
  have hp := sound_parts h
  intro c hc
  simp only [bytesM, List.mem_append] at hc
  rcases hc with hc | hc | hc | hc
  · exact Wm.enc_lt _ (by omega) c hc
  · exact Wm.enc_lt _ (by omega) c hc
  · exact Wm.enc_lt _ (by omega) c hc
  · exact encAll_lt _ hk c hc


theorem cnt_of {x : Nat} (h : x ≤ 1099511627776) (r : List Nat) : cntL (Wm.enc x ++ r) = (0, x, r) := by
  simp only [cntL, Wm.take_enc x r (by omega)]
  rw [if_neg (by simp), if_neg (by omega), drop_enc]
theorem cnt_short {x n : Nat} (h : x ≤ 1099511627776) (hn : n < (Wm.enc x).length) : (cntL ((Wm.enc x).take n)).1 = 3 := by
  simp [cntL, Wm.take_enc_short x n (by omega) hn]
theorem key_of {ks : List Nat} : ∀ {r : List Nat}, keysOk ks → keyS ks.length (Wm.encAll ks ++ r) = (0, ks, r) := by
  induction ks with
  | nil => intro r _; rfl
  | cons x ks ih =>
    intro r hk
    have hx := hk x (by simp)
    have e : Wm.encAll (x :: ks) ++ r = Wm.enc x ++ (Wm.encAll ks ++ r) := by simp [Wm.encAll]
    have i1 := ih (r := r) (fun y hy => hk y (by simp [hy]))
    rw [e]
    simp only [List.length_cons, keyS, Wm.take_enc x _ hx, drop_enc, i1]
    simp
theorem key_short {ks : List Nat} : ∀ {n : Nat}, keysOk ks → n < (Wm.encAll ks).length → (keyS ks.length ((Wm.encAll ks).take n)).1 = 3 := by
  induction ks with
  | nil => intro n _ hn; simp [Wm.encAll] at hn
  | cons x ks ih =>
    intro n hk hn
    have hx := hk x (by simp)
    simp only [Wm.encAll, List.length_append] at hn
    simp only [Wm.encAll, List.length_cons]
    rw [take_app]
    split
    · rename_i h
      simp [keyS, Wm.take_enc_short x n hx h]
    · rename_i h
      have i1 := ih (n := n - (Wm.enc x).length) (fun y hy => hk y (by simp [hy])) (by omega)
      simp only [keyS, Wm.take_enc x _ hx, drop_enc, i1]
      simp
theorem cntL_err {l : List Nat} (h : (cntL l).1 = 3) : decM l = (zeroM, 3) := by simp [decM, h]


theorem formM_there {m : Mk} (h : soundBM m = true) (hk : keysOk m.k) (r : List Nat) : decM (bytesM m ++ r) = if r.length ≠ 0 then (zeroM, 5) else (m, 0) := by
  have hp := sound_parts h
  have e : bytesM m ++ r = Wm.enc m.b.toNat ++ (Wm.enc m.a.toNat ++ (Wm.enc m.k.length ++ (Wm.encAll m.k ++ r))) := by simp [bytesM]
  rw [e]
  simp only [decM, cnt_of (show m.b.toNat ≤ 1099511627776 by omega), decA, cnt_of (show m.a.toNat ≤ 1099511627776 by omega), decK, Wm.take_enc m.k.length _ (show m.k.length < 18446744073709551616 by omega), drop_enc, key_of hk, decE]
  have e1 : ((m.b.toNat : Nat) : Int) = m.b := by omega
  have e2 : ((m.a.toNat : Nat) : Int) = m.a := by omega
  rw [e1, e2, if_neg (by simp), if_neg (by simp), if_neg (by simp), if_neg (by omega), if_neg (by simp)]
  split
  · rfl
  · rw [if_neg (by have : soundBM ⟨m.b, m.a, m.k⟩ = true := h; simp [this])]
theorem formM_cut {m : Mk} {n : Nat} (h : soundBM m = true) (hk : keysOk m.k) (hn : n < (bytesM m).length) : decM ((bytesM m).take n) = (zeroM, 3) := by
  have hp := sound_parts h
  have b1 : m.b.toNat ≤ 1099511627776 := by omega
  have b2 : m.a.toNat ≤ 1099511627776 := by omega
  have b3 : m.k.length < 18446744073709551616 := by omega
  unfold bytesM at hn ⊢
  rw [take_app]
  split
  · rename_i q; exact cntL_err (cnt_short b1 q)
  · rename_i q1
    simp only [decM, cnt_of b1]
    rw [if_neg (by simp), take_app]
    split
    · rename_i q; simp [decA, cnt_short b2 q]
    · rename_i q2
      simp only [decA, cnt_of b2]
      rw [if_neg (by simp), take_app]
      split
      · rename_i q; simp [decK, Wm.take_enc_short _ _ b3 q]
      · rename_i q3
        simp only [decK, Wm.take_enc _ _ b3, drop_enc]
        rw [if_neg (by simp), if_neg (by omega)]
        simp only [decE, key_short hk (show n - (Wm.enc m.b.toNat).length - (Wm.enc m.a.toNat).length - (Wm.enc m.k.length).length < (Wm.encAll m.k).length by simp only [List.length_append] at hn; omega)]
        simp


theorem cnt_back {l : List Nat} (hl : ∀ c ∈ l, c < 256) (h : (cntL l).1 = 0) : l = Wm.enc (cntL l).2.1 ++ (cntL l).2.2 ∧ (cntL l).2.1 ≤ 1099511627776 := by
  obtain ⟨x, n, e, ht⟩ : ∃ x n e, Wm.take l = (x, n, e) := ⟨_, _, _, rfl⟩
  simp only [cntL, ht] at h ⊢
  by_cases h0 : e = 0
  · subst h0
    rw [if_neg (by simp)] at h ⊢
    by_cases h1 : 1099511627776 < x
    · rw [if_pos h1] at h; simp at h
    · rw [if_neg h1] at h ⊢
      exact ⟨(take_cut hl ht).1, by show x ≤ _; omega⟩
  · rw [if_pos h0] at h; simp at h; omega
theorem key_back {n : Nat} : ∀ {l : List Nat}, (∀ c ∈ l, c < 256) → (keyS n l).1 = 0 → l = Wm.encAll (keyS n l).2.1 ++ (keyS n l).2.2 ∧ (keyS n l).2.1.length = n ∧ keysOk (keyS n l).2.1 := by
  induction n with
  | zero => intro l hl _; simp [keyS, Wm.encAll, keysOk]
  | succ n ih =>
    intro l hl h
    obtain ⟨x, q, e, ht⟩ : ∃ x n e, Wm.take l = (x, n, e) := ⟨_, _, _, rfl⟩
    simp only [keyS, ht] at h ⊢
    by_cases h0 : e = 0
    · subst h0
      rw [if_neg (by simp)] at h ⊢
      by_cases h1 : (keyS n (l.drop q)).1 = 0
      · rw [if_neg (by simpa using h1)] at h ⊢
        obtain ⟨i1, i2, i3⟩ := ih (l := l.drop q) (fun c hc => hl c (List.mem_of_mem_drop hc)) h1
        obtain ⟨t1, t2, _⟩ := take_cut hl ht
        refine ⟨?_, by simp [i2], ?_⟩
        · show l = Wm.enc x ++ Wm.encAll (keyS n (l.drop q)).2.1 ++ (keyS n (l.drop q)).2.2
          rw [List.append_assoc, ← i1]; exact t1
        · intro y hy
          rcases List.mem_cons.1 hy with rfl | hy
          · exact t2
          · exact i3 y hy
      · rw [if_pos h1] at h; exact absurd h h1
    · rw [if_pos h0] at h; exact absurd h h0
theorem formM_back {l : List Nat} (hl : ∀ c ∈ l, c < 256) (h : (decM l).2 = 0) : soundBM (decM l).1 = true ∧ encM (decM l).1 = (l, 0) ∧ keysOk (decM l).1.k := by
  unfold decM at h ⊢
  by_cases h1 : (cntL l).1 = 0
  · rw [if_neg (by simpa using h1)] at h ⊢
    obtain ⟨c1, c2⟩ := cnt_back hl h1
    generalize (cntL l).2.1 = B at h c1 c2 ⊢
    generalize (cntL l).2.2 = l1 at h c1 ⊢
    have hl1 : ∀ c ∈ l1, c < 256 := fun c hc => hl c (by rw [c1]; simp [hc])
    unfold decA at h ⊢
    by_cases h2 : (cntL l1).1 = 0
    · rw [if_neg (by simpa using h2)] at h ⊢
      obtain ⟨d1, d2⟩ := cnt_back hl1 h2
      generalize (cntL l1).2.1 = A at h d1 d2 ⊢
      generalize (cntL l1).2.2 = l2 at h d1 ⊢
      have hl2 : ∀ c ∈ l2, c < 256 := fun c hc => hl1 c (by rw [d1]; simp [hc])
      obtain ⟨x, q, e, ht⟩ : ∃ x n e, Wm.take l2 = (x, n, e) := ⟨_, _, _, rfl⟩
      simp only [decK, ht] at h ⊢
      by_cases h3 : e = 0
      · subst h3
        rw [if_neg (by simp)] at h ⊢
        obtain ⟨t1, t2, _⟩ := take_cut hl2 ht
        by_cases h4 : 64 < x
        · rw [if_pos h4] at h; simp at h
        · rw [if_neg h4] at h ⊢
          unfold decE at h ⊢
          by_cases h5 : (keyS x (l2.drop q)).1 = 0
          · rw [if_neg (by simpa using h5)] at h ⊢
            obtain ⟨k1, k2, k3⟩ := key_back (l := l2.drop q) (fun c hc => hl2 c (List.mem_of_mem_drop hc)) h5
            generalize (keyS x (l2.drop q)).2.1 = ks at h k1 k2 k3 ⊢
            generalize (keyS x (l2.drop q)).2.2 = rest at h k1 ⊢
            by_cases h6 : rest.length = 0
            · rw [if_neg (by simpa using h6)] at h ⊢
              have hr : rest = [] := List.eq_nil_of_length_eq_zero h6
              cases h7 : soundBM ⟨B, A, ks⟩
              · rw [if_pos h7] at h; simp at h
              · rw [if_neg (by simp)]
                refine ⟨h7, ?_, k3⟩
                unfold encM
                rw [if_pos h7]
                have e1 : bytesM ⟨B, A, ks⟩ = Wm.enc B ++ (Wm.enc A ++ (Wm.enc ks.length ++ Wm.encAll ks)) := by simp [bytesM]
                rw [e1, k2]
                have e2 : l2.drop q = Wm.encAll ks := by rw [k1, hr]; simp
                rw [← e2, ← t1, ← d1, ← c1]
            · rw [if_pos h6] at h; simp at h
          · rw [if_pos h5] at h; exact absurd h h5
      · rw [if_pos h3] at h; exact absurd h h3
    · rw [if_pos h2] at h; exact absurd h h2
  · rw [if_pos h1] at h; exact absurd h h1
theorem decM_bad {l : List Nat} (h : (decM l).2 ≠ 0) : (decM l).1 = zeroM := by
  unfold decM decA decK decE at *
  repeat' split
  all_goals first | rfl | skip
  all_goals simp_all
end Go.Proofs.YtopjedgknbbgkaaGreat

namespace Go.Proofs.YtopjedgknbbgkaaGreat





/-- Is the list a table? -/
def tabB : List Pr → Bool
  | [] => true
  | p :: t => p.v.h && (t.all fun q => decide (p.k < q.k)) && tabB t
theorem tab_has {t : List Pr} (h : tabB t = true) : ∀ p ∈ t, p.v.h = true := by
  induction t with
  | nil => simp
  | cons q t ih =>
    simp only [tabB, Bool.and_eq_true] at h
    intro p hp
    rcases List.mem_cons.1 hp with rfl | hp
    · exact h.1.1
    · exact ih h.2 p hp


/-- A message. -/
structure Ms where
  K : Int
  F : Int
  T : Int
  B : Int
  A : Int
  C : Int
  E : List Int
  Q : List Nat
  P : List Pr


def zeroMs : Ms := ⟨0, 0, 0, 0, 0, 0, [], [], []⟩
def in64 (x : Int) : Prop := -9223372036854775808 ≤ x ∧ x < 9223372036854775808
structure Ms.ok (m : Ms) : Prop where
  K : in64 m.K
  F : in64 m.F
  T : in64 m.T
  B : in64 m.B
  A : in64 m.A
  C : in64 m.C
  E : ∀ x ∈ m.E, in64 x
  Q : keysOk m.Q
  P : okT m.P


/-- What a kind asks for. -/
def fld (k : Int) : Nat := if k = 1 ∨ k = 2 ∨ k = 3 ∨ k = 8 then 1 else if k = 4 then 2 else if k = 6 then 3 else if k = 5 ∨ k = 7 then 4 else 0
def nodB (x : Int) : Bool := decide (0 ≤ x) && decide (x < 9)
def ctB (x : Int) : Bool := decide (1 ≤ x) && decide (x ≤ 1099511627776)
def endB (l : List Int) : Bool := decide (1 ≤ l.length) && decide (l.length ≤ 4) && l.all fun x => decide (0 ≤ x) && decide (x ≤ 256)
def bareB (f : Nat) (m : Ms) : Bool := (decide (f = 1) || decide (m.E.length = 0)) && ((decide (f = 2) || decide (m.Q.length = 0)) && ((decide (f = 3) || decide (m.P.length = 0)) && (decide (f = 4) || decide (m.C = 0))))
def askB (f : Nat) (m : Ms) : Bool :=
  if f = 1 then endB m.E else if f = 2 then decide (m.Q.length ≤ 64) && risB m.Q else if f = 3 then decide (m.P.length ≤ 64) && tabB m.P else if f = 4 then decide (0 ≤ m.C) && decide (m.C ≤ 1000) else false
def sndM (m : Ms) : Bool := nodB m.F && (nodB m.T && (ctB m.B && (ctB m.A && (bareB (fld m.K) m && askB (fld m.K) m))))


def pairL : List Pr → List Nat
  | [] => []
  | p :: t => Wm.enc p.k ++ (Wm.wd p.v.b ++ pairL t)
def headL (m : Ms) : List Nat := Wm.enc m.K.toNat ++ (Wm.enc m.F.toNat ++ (Wm.enc m.T.toNat ++ (Wm.enc m.B.toNat ++ Wm.enc m.A.toNat)))
def nats (l : List Int) : List Nat := l.map Int.toNat
def restL (m : Ms) : List Nat :=
  if fld m.K = 1 then Wm.enc m.E.length ++ Wm.encAll (nats m.E) else if fld m.K = 2 then Wm.enc m.Q.length ++ Wm.encAll m.Q else if fld m.K = 3 then Wm.enc m.P.length ++ pairL m.P else Wm.enc m.C.toNat
def bytS (m : Ms) : List Nat := headL m ++ restL m
def encS (m : Ms) : List Nat × Nat := if sndM m = true then (bytS m, 0) else ([], 150)


/-- The kind: the error, the number, the bytes behind. -/
def kndL (l : List Nat) : Nat × Nat × List Nat :=
  if (Wm.take l).2.2 ≠ 0 then ((Wm.take l).2.2, 0, []) else if (Wm.take l).1 < 1 ∨ 8 < (Wm.take l).1 then (150, 0, []) else (0, (Wm.take l).1, l.drop (Wm.take l).2.1)
/-- How many keys or pairs. -/
def manL (l : List Nat) : Nat × Nat × List Nat :=
  if (Wm.take l).2.2 ≠ 0 then ((Wm.take l).2.2, 0, []) else if 64 < (Wm.take l).1 then (6, 0, []) else (0, (Wm.take l).1, l.drop (Wm.take l).2.1)
/-- The ends. -/
def endL (l : List Nat) : Nat × List Nat × List Nat :=
  if (Wm.takeNums l 4).2.2 ≠ 0 then ((Wm.takeNums l 4).2.2, [], []) else (0, (Wm.takeNums l 4).1, l.drop (Wm.takeNums l 4).2.1)
/-- n pairs. -/
def pairS : Nat → List Nat → Nat × List Pr × List Nat
  | 0, l => (0, [], l)
  | n + 1, l => if (Wm.take l).2.2 ≠ 0 then ((Wm.take l).2.2, [], []) else
      if (Wm.takeW (l.drop (Wm.take l).2.1)).2 ≠ 0 then ((Wm.takeW (l.drop (Wm.take l).2.1)).2, [], []) else
      if (pairS n ((l.drop (Wm.take l).2.1).drop 8)).1 ≠ 0 then ((pairS n ((l.drop (Wm.take l).2.1).drop 8)).1, [], []) else
      (0, ⟨(Wm.take l).1, ⟨true, (Wm.takeW (l.drop (Wm.take l).2.1)).1⟩⟩ :: (pairS n ((l.drop (Wm.take l).2.1).drop 8)).2.1, (pairS n ((l.drop (Wm.take l).2.1).drop 8)).2.2)


/-- A head that has been read. -/
structure Hd where
  K : Nat
  F : Nat
  T : Nat
  B : Nat
  A : Nat
def Hd.ms (h : Hd) (c : Int) (e : List Int) (q : List Nat) (p : List Pr) : Ms := ⟨h.K, h.F, h.T, h.B, h.A, c, e, q, p⟩
/-- What the kind asks for: the error, the message, the bytes behind. -/
def bodL (h : Hd) (l : List Nat) : Nat × Ms × List Nat :=
  if fld h.K = 1 then (if (endL l).1 ≠ 0 then ((endL l).1, zeroMs, []) else (0, h.ms 0 ((endL l).2.1.map fun x : Nat => (x : Int)) [] [], (endL l).2.2)) else
  if fld h.K = 2 then (if (manL l).1 ≠ 0 then ((manL l).1, zeroMs, []) else if (keyS (manL l).2.1 (manL l).2.2).1 ≠ 0 then ((keyS (manL l).2.1 (manL l).2.2).1, zeroMs, []) else (0, h.ms 0 [] (keyS (manL l).2.1 (manL l).2.2).2.1 [], (keyS (manL l).2.1 (manL l).2.2).2.2)) else
  if fld h.K = 3 then (if (manL l).1 ≠ 0 then ((manL l).1, zeroMs, []) else if (pairS (manL l).2.1 (manL l).2.2).1 ≠ 0 then ((pairS (manL l).2.1 (manL l).2.2).1, zeroMs, []) else (0, h.ms 0 [] [] (pairS (manL l).2.1 (manL l).2.2).2.1, (pairS (manL l).2.1 (manL l).2.2).2.2)) else
  (if (cntL l).1 ≠ 0 then ((cntL l).1, zeroMs, []) else (0, h.ms (cntL l).2.1 [] [] [], (cntL l).2.2))
def decT (r : Nat × Ms × List Nat) : Ms × Nat :=
  if r.1 ≠ 0 then (zeroMs, r.1) else if r.2.2.length ≠ 0 then (zeroMs, 5) else if sndM r.2.1 = false then (zeroMs, 150) else (r.2.1, 0)
def dec5 (K F T B : Nat) (l : List Nat) : Ms × Nat := if (cntL l).1 ≠ 0 then (zeroMs, (cntL l).1) else decT (bodL ⟨K, F, T, B, (cntL l).2.1⟩ (cntL l).2.2)
def dec4 (K F T : Nat) (l : List Nat) : Ms × Nat := if (cntL l).1 ≠ 0 then (zeroMs, (cntL l).1) else dec5 K F T (cntL l).2.1 (cntL l).2.2
def dec3 (K F : Nat) (l : List Nat) : Ms × Nat := if (cntL l).1 ≠ 0 then (zeroMs, (cntL l).1) else dec4 K F (cntL l).2.1 (cntL l).2.2
def dec2 (K : Nat) (l : List Nat) : Ms × Nat := if (cntL l).1 ≠ 0 then (zeroMs, (cntL l).1) else dec3 K (cntL l).2.1 (cntL l).2.2
def decS (l : List Nat) : Ms × Nat := if (kndL l).1 ≠ 0 then (zeroMs, (kndL l).1) else dec2 (kndL l).2.1 (kndL l).2.2

/-! What a message that is sound has. -/
theorem fld_cases (k : Int) : fld k = 0 ∨ fld k = 1 ∨ fld k = 2 ∨ fld k = 3 ∨ fld k = 4 := by
  unfold fld
  repeat' split
  all_goals simp
theorem fld_range {k : Int} (h : fld k ≠ 0) : 1 ≤ k ∧ k ≤ 8 := by
  unfold fld at h
  repeat' split at h
  all_goals omega
theorem nod_parts {x : Int} (h : nodB x = true) : 0 ≤ x ∧ x < 9 := by simpa [nodB] using h
theorem ct_parts {x : Int} (h : ctB x = true) : 1 ≤ x ∧ x ≤ 1099511627776 := by simpa [ctB] using h
theorem ask_zero {m : Ms} : askB 0 m = false := by simp [askB]
structure SndP (m : Ms) : Prop where
  k : 1 ≤ m.K ∧ m.K ≤ 8
  f : 0 ≤ m.F ∧ m.F < 9
  t : 0 ≤ m.T ∧ m.T < 9
  b : 1 ≤ m.B ∧ m.B ≤ 1099511627776
  a : 1 ≤ m.A ∧ m.A ≤ 1099511627776
  bare : bareB (fld m.K) m = true
  ask : askB (fld m.K) m = true
  g : fld m.K ≠ 0
theorem snd_parts {m : Ms} (h : sndM m = true) : SndP m := by
  simp only [sndM, Bool.and_eq_true] at h
  obtain ⟨h1, h2, h3, h4, h5, h6⟩ := h
  have hg : fld m.K ≠ 0 := fun e => by rw [e, ask_zero] at h6; cases h6
  exact ⟨fld_range hg, nod_parts h1, nod_parts h2, ct_parts h3, ct_parts h4, h5, h6, hg⟩
theorem ends_parts {m : Ms} (h : askB (fld m.K) m = true) (hf : fld m.K = 1) : 1 ≤ m.E.length ∧ m.E.length ≤ 4 ∧ ∀ x ∈ m.E, 0 ≤ x ∧ x ≤ 256 := by
  rw [hf] at h
  simp [askB, endB] at h
  exact ⟨h.1.1, h.1.2, h.2⟩
theorem keys_parts {m : Ms} (h : askB (fld m.K) m = true) (hf : fld m.K = 2) : m.Q.length ≤ 64 ∧ risB m.Q = true := by
  rw [hf] at h; simpa [askB] using h
theorem pairs_parts {m : Ms} (h : askB (fld m.K) m = true) (hf : fld m.K = 3) : m.P.length ≤ 64 ∧ tabB m.P = true := by
  rw [hf] at h; simpa [askB] using h
theorem code_parts {m : Ms} (h : askB (fld m.K) m = true) (hf : fld m.K = 4) : 0 ≤ m.C ∧ m.C ≤ 1000 := by
  rw [hf] at h; simpa [askB] using h
theorem bare_parts {f : Nat} {m : Ms} (h : bareB f m = true) : (f = 1 ∨ m.E = []) ∧ (f = 2 ∨ m.Q = []) ∧ (f = 3 ∨ m.P = []) ∧ (f = 4 ∨ m.C = 0) := by
  simpa [bareB] using h

/-! Lengths. -/
theorem pairL_len (t : List Pr) : (pairL t).length ≤ 18 * t.length := by
  induction t with
  | nil => simp [pairL]
  | cons p t ih => have := Wm.enc_len p.k; have := Wm.wd_len p.v.b; simp only [pairL, List.length_append, List.length_cons]; omega
theorem pairL_lt {t : List Pr} (h : okT t) : ∀ c ∈ pairL t, c < 256 := by
  induction t with
  | nil => simp [pairL]
  | cons p t ih =>
    intro c hc
    simp only [pairL, List.mem_append] at hc
    rcases hc with hc | hc | hc
    · exact Wm.enc_lt p.k (h p (by simp)).1 c hc
    · exact Wm.wdF_lt 8 p.v.b c hc
    · exact ih (fun q hq => h q (by simp [hq])) c hc
theorem pairL_append (t r : List Pr) : pairL (t ++ r) = pairL t ++ pairL r := by
  induction t with
  | nil => rfl
  | cons p t ih => simp [pairL, ih]
theorem headL_len (m : Ms) : (headL m).length ≤ 50 := by
  have h1 := Wm.enc_len m.K.toNat; have h2 := Wm.enc_len m.F.toNat; have h3 := Wm.enc_len m.T.toNat; have h4 := Wm.enc_len m.B.toNat; have h5 := Wm.enc_len m.A.toNat
  simp only [headL, List.length_append]; omega
theorem restL_len {m : Ms} (h : sndM m = true) : (restL m).length ≤ 1200 := by
  have hp := snd_parts h
  unfold restL
  split
  · rename_i hf
    have := (ends_parts hp.ask hf).2.1
    have h1 := Wm.enc_len m.E.length; have h2 := encAll_len (nats m.E)
    simp only [List.length_append, nats, List.length_map] at *; omega
  · split
    · rename_i hf
      have := (keys_parts hp.ask hf).1
      have h1 := Wm.enc_len m.Q.length; have h2 := encAll_len m.Q
      simp only [List.length_append]; omega
    · split
      · rename_i hf
        have := (pairs_parts hp.ask hf).1
        have h1 := Wm.enc_len m.P.length; have h2 := pairL_len m.P
        simp only [List.length_append]; omega
      · have := Wm.enc_len m.C.toNat; omega
theorem bytS_len {m : Ms} (h : sndM m = true) : (bytS m).length ≤ 1250 := by
  have h1 := headL_len m; have h2 := restL_len h
  simp only [bytS, List.length_append]; omega
theorem nats_ok {l : List Int} (h : ∀ x ∈ l, 0 ≤ x ∧ x ≤ 256) : keysOk (nats l) := by
  intro y hy
  obtain ⟨x, hx, rfl⟩ := List.mem_map.1 hy
  have := h x hx
  omega
theorem headL_lt {m : Ms} (h : sndM m = true) : ∀ c ∈ headL m, c < 256 := by
  have hp := snd_parts h
  have := hp.k; have := hp.f; have := hp.t; have := hp.b; have := hp.a
  intro c hc
  simp only [headL, List.mem_append] at hc
  rcases hc with hc | hc | hc | hc | hc <;> exact Wm.enc_lt _ (by omega) c hc
theorem restL_lt {m : Ms} (h : sndM m = true) (hk : m.ok) : ∀ c ∈ restL m, c < 256 := by
  have hp := snd_parts h
  intro c hc
  unfold restL at hc
  split at hc
  · rename_i hf
    have hh := ends_parts hp.ask hf
    rcases List.mem_append.1 hc with hc | hc
    · exact Wm.enc_lt _ (by omega) c hc
    · exact encAll_lt _ (nats_ok hh.2.2) c hc
  · split at hc
    · rename_i hf
      have hh := keys_parts hp.ask hf
      rcases List.mem_append.1 hc with hc | hc
      · exact Wm.enc_lt _ (by omega) c hc
      · exact encAll_lt _ hk.Q c hc
    · split at hc
      · rename_i hf
        have hh := pairs_parts hp.ask hf
        rcases List.mem_append.1 hc with hc | hc
        · exact Wm.enc_lt _ (by omega) c hc
        · exact pairL_lt hk.P c hc
      · rename_i h1 h2 h3
        have hf : fld m.K = 4 := by rcases fld_cases m.K with h | h | h | h | h <;> first | exact h | exact absurd h hp.g | exact absurd h h1 | exact absurd h h2 | exact absurd h h3
        have hh := code_parts hp.ask hf
        exact Wm.enc_lt _ (by omega) c hc
theorem bytS_lt {m : Ms} (h : sndM m = true) (hk : m.ok) : ∀ c ∈ bytS m, c < 256 := by
  intro c hc
  rcases List.mem_append.1 hc with hc | hc
  · exact headL_lt h c hc
  · exact restL_lt h hk c hc

/-! Read again. -/
theorem knd_of {x : Nat} (h : 1 ≤ x ∧ x ≤ 8) (r : List Nat) : kndL (Wm.enc x ++ r) = (0, x, r) := by
  simp only [kndL, Wm.take_enc x r (by omega)]
  rw [if_neg (by simp), if_neg (by omega), drop_enc]
theorem knd_short {x n : Nat} (h : x ≤ 8) (hn : n < (Wm.enc x).length) : (kndL ((Wm.enc x).take n)).1 = 3 := by
  simp [kndL, Wm.take_enc_short x n (by omega) hn]
theorem man_of {x : Nat} (h : x ≤ 64) (r : List Nat) : manL (Wm.enc x ++ r) = (0, x, r) := by
  simp only [manL, Wm.take_enc x r (by omega)]
  rw [if_neg (by simp), if_neg (by omega), drop_enc]
theorem man_short {x n : Nat} (h : x ≤ 64) (hn : n < (Wm.enc x).length) : (manL ((Wm.enc x).take n)).1 = 3 := by
  simp [manL, Wm.take_enc_short x n (by omega) hn]
theorem takeW_wd (x : Nat) (h : x < 18446744073709551616) (r : List Nat) : Wm.takeW (Wm.wd x ++ r) = (x, 0) := by
  have hl := Wm.wd_len x
  unfold Wm.takeW
  rw [if_neg (by rw [List.length_append]; omega), List.take_append_of_le_length (by omega), List.take_of_length_le (by omega), Wm.unw_wd x h]
theorem drop_wd (x : Nat) (r : List Nat) : (Wm.wd x ++ r).drop 8 = r := by
  rw [List.drop_append_of_le_length (by rw [Wm.wd_len]; omega), List.drop_of_length_le (by rw [Wm.wd_len]; omega), List.nil_append]
theorem takeW_short {l : List Nat} (h : l.length < 8) : Wm.takeW l = (0, 3) := by unfold Wm.takeW; rw [if_pos h]
theorem takeW_ok {l : List Nat} (h : ¬ l.length < 8) : Wm.takeW l = (Wm.unw (l.take 8), 0) := by unfold Wm.takeW; rw [if_neg h]
theorem pair_of {t : List Pr} : ∀ {r : List Nat}, okT t → (∀ p ∈ t, p.v.h = true) → pairS t.length (pairL t ++ r) = (0, t, r) := by
  induction t with
  | nil => intro r _ _; rfl
  | cons p t ih =>
    intro r hk hh
    have hx := hk p (by simp)
    have e : pairL (p :: t) ++ r = Wm.enc p.k ++ (Wm.wd p.v.b ++ (pairL t ++ r)) := by simp [pairL]
    have i1 := ih (r := r) (fun y hy => hk y (by simp [hy])) (fun y hy => hh y (by simp [hy]))
    have hb : p = ⟨p.k, ⟨true, p.v.b⟩⟩ := by have := hh p (by simp); rcases p with ⟨k, ⟨h, b⟩⟩; simp at this; subst this; rfl
    rw [e]
    simp only [List.length_cons, pairS, Wm.take_enc p.k _ hx.1, drop_enc, takeW_wd p.v.b hx.2, drop_wd, i1]
    simp
    exact hb.symm
theorem pair_short {t : List Pr} : ∀ {n : Nat}, okT t → n < (pairL t).length → (pairS t.length ((pairL t).take n)).1 = 3 := by
  induction t with
  | nil => intro n _ hn; simp [pairL] at hn
  | cons p t ih =>
    intro n hk hn
    have hx := hk p (by simp)
    have hw := Wm.wd_len p.v.b
    simp only [pairL, List.length_append] at hn
    simp only [pairL, List.length_cons]
    rw [take_app]
    split
    · rename_i h
      simp [pairS, Wm.take_enc_short p.k n hx.1 h]
    · rename_i h
      rw [take_app]
      split
      · rename_i h2
        have e : Wm.takeW ((Wm.wd p.v.b).take (n - (Wm.enc p.k).length)) = (0, 3) := takeW_short (by simp; omega)
        simp only [pairS, Wm.take_enc p.k _ hx.1, drop_enc, e]
        simp
      · rename_i h2
        have i1 := ih (n := n - (Wm.enc p.k).length - (Wm.wd p.v.b).length) (fun y hy => hk y (by simp [hy])) (by omega)
        simp only [pairS, Wm.take_enc p.k _ hx.1, drop_enc, takeW_wd p.v.b hx.2, drop_wd, i1]
        simp

/-! The ends: a list of numbers. -/
theorem tn_stop {l : List Nat} {p e : Nat} (k : Nat) (acc : List Nat) (h : (Wm.take (l.drop p)).2.2 = e) (h0 : e ≠ 0) : Wm.tnums (k + 1) l p acc = ([], 0, e) := by
  rw [Wm.tnums]
  obtain ⟨x, n, e', ht⟩ : ∃ x n e, Wm.take (l.drop p) = (x, n, e) := ⟨_, _, _, rfl⟩
  rw [ht] at h ⊢
  simp only at h
  subst h
  cases e' with
  | zero => exact absurd rfl h0
  | succ e => rfl
theorem tn_go {l : List Nat} {p x n : Nat} (k : Nat) (acc : List Nat) (h : Wm.take (l.drop p) = (x, n, 0)) : Wm.tnums (k + 1) l p acc = if 4611686018427387904 < x then ([], 0, 4) else Wm.tnums k l (p + n) (acc ++ [x]) := by
  rw [Wm.tnums, h]; simp only
theorem tn_of (xs : List Nat) : ∀ (pre acc r : List Nat), (∀ x ∈ xs, x ≤ 4611686018427387904) →
    Wm.tnums xs.length (pre ++ (Wm.encAll xs ++ r)) pre.length acc = (acc ++ xs, pre.length + (Wm.encAll xs).length, 0) := by
  induction xs with
  | nil => intro pre acc r _; simp [Wm.tnums, Wm.encAll]
  | cons x xs ih =>
    intro pre acc r hx
    have hd : (pre ++ (Wm.encAll (x :: xs) ++ r)).drop pre.length = Wm.enc x ++ (Wm.encAll xs ++ r) := by simp [Wm.encAll]
    have hx0 := hx x (by simp)
    have ht := Wm.take_enc x (Wm.encAll xs ++ r) (by omega)
    have h := ih (pre ++ Wm.enc x) (acc ++ [x]) r (fun y hy => hx y (by simp [hy]))
    have e1 : pre ++ Wm.enc x ++ (Wm.encAll xs ++ r) = pre ++ (Wm.encAll (x :: xs) ++ r) := by simp [Wm.encAll]
    rw [e1, List.length_append] at h
    rw [List.length_cons, tn_go _ _ (by rw [hd]; exact ht), if_neg (by omega), h]
    simp [Wm.encAll, Nat.add_assoc]
theorem tn_short (xs : List Nat) : ∀ (pre acc : List Nat) (n : Nat), (∀ x ∈ xs, x ≤ 4611686018427387904) → n < (Wm.encAll xs).length →
    Wm.tnums xs.length (pre ++ (Wm.encAll xs).take n) pre.length acc = ([], 0, 3) := by
  induction xs with
  | nil => intro pre acc n _ hn; simp [Wm.encAll] at hn
  | cons x xs ih =>
    intro pre acc n hx hn
    have hx0 := hx x (by simp)
    simp only [Wm.encAll, List.length_append] at hn
    simp only [Wm.encAll, List.length_cons]
    rw [take_app]
    split
    · rename_i h
      exact tn_stop _ _ (by simp [Wm.take_enc_short x n (by omega) h]) (by decide)
    · rename_i h
      have ht := Wm.take_enc x ((Wm.encAll xs).take (n - (Wm.enc x).length)) (by omega)
      have h := ih (pre ++ Wm.enc x) (acc ++ [x]) (n - (Wm.enc x).length) (fun y hy => hx y (by simp [hy])) (by omega)
      rw [List.length_append, List.append_assoc] at h
      rw [tn_go _ _ (by simpa using ht), if_neg (by omega), h]
theorem tn_back (k : Nat) : ∀ (l : List Nat) (p : Nat) (acc q : List Nat) (z : Nat), (∀ c ∈ l, c < 256) → p ≤ l.length → Wm.tnums k l p acc = (q, z, 0) →
    ∃ xs, q = acc ++ xs ∧ xs.length = k ∧ (∀ x ∈ xs, x ≤ 4611686018427387904) ∧ z ≤ l.length ∧ l.drop p = Wm.encAll xs ++ l.drop z := by
  induction k with
  | zero =>
    intro l p acc q z hl hp h
    simp only [Wm.tnums, Prod.mk.injEq] at h
    obtain ⟨rfl, rfl, _⟩ := h
    exact ⟨[], by simp, rfl, by simp, hp, by simp [Wm.encAll]⟩
  | succ k ih =>
    intro l p acc q z hl hp h
    obtain ⟨x, n, e, ht⟩ : ∃ x n e, Wm.take (l.drop p) = (x, n, e) := ⟨_, _, _, rfl⟩
    by_cases h0 : e = 0
    · subst h0
      rw [tn_go _ _ ht] at h
      by_cases hb : 4611686018427387904 < x
      · rw [if_pos hb] at h; simp at h
      · rw [if_neg hb] at h
        have hc := take_cut (l := l.drop p) (fun c hc => hl c (List.mem_of_mem_drop hc)) ht
        have hle : p + n ≤ l.length := by
          have h1 := congrArg List.length hc.1
          rw [List.length_append, List.length_drop, List.length_drop, List.length_drop, ← hc.2.2] at h1
          have h2 := Wm.enc_len x
          rw [← hc.2.2] at h2
          omega
        obtain ⟨xs, i1, i2, i3, i4, i5⟩ := ih l (p + n) (acc ++ [x]) q z hl hle h
        refine ⟨x :: xs, by rw [i1]; simp, by simp [i2], ?_, i4, ?_⟩
        · intro y hy
          rcases List.mem_cons.1 hy with rfl | hy
          · omega
          · exact i3 y hy
        · rw [Wm.encAll, List.append_assoc, ← i5, ← List.drop_drop]
          exact hc.1
    · rw [tn_stop k acc (by rw [ht]) h0] at h
      simp at h
      exact absurd h.2.2 h0
theorem tn_go4 {l : List Nat} {c p : Nat} (h : Wm.take l = (c, p, 0)) : Wm.takeNums l 4 = if 4 < c then ([], 0, 6) else Wm.tnums c l p [] := by
  unfold Wm.takeNums
  rw [h]
  simp only
  by_cases hc : 4 < c
  · rw [if_pos (by omega), if_pos hc]
  · rw [if_neg (by omega), if_neg hc]
theorem tn_err4 {l : List Nat} (h : (Wm.take l).2.2 ≠ 0) : Wm.takeNums l 4 = ([], 0, (Wm.take l).2.2) := by
  unfold Wm.takeNums
  obtain ⟨x, n, e, ht⟩ : ∃ x n e, Wm.take l = (x, n, e) := ⟨_, _, _, rfl⟩
  rw [ht] at h ⊢
  cases e with
  | zero => exact absurd rfl h
  | succ e => rfl
theorem end_of {xs : List Nat} (hl : xs.length ≤ 4) (h : ∀ x ∈ xs, x ≤ 4611686018427387904) (r : List Nat) : endL (Wm.enc xs.length ++ (Wm.encAll xs ++ r)) = (0, xs, r) := by
  have e : Wm.takeNums (Wm.enc xs.length ++ (Wm.encAll xs ++ r)) 4 = (xs, (Wm.enc xs.length).length + (Wm.encAll xs).length, 0) := by
    rw [tn_go4 (Wm.take_enc xs.length _ (by omega)), if_neg (by omega), tn_of xs _ [] r h]
    simp
  unfold endL
  rw [e]
  simp only
  rw [if_neg (by simp)]
  simp
theorem end_short {xs : List Nat} {n : Nat} (hl : xs.length ≤ 4) (h : ∀ x ∈ xs, x ≤ 4611686018427387904) (hn : n < (Wm.enc xs.length ++ Wm.encAll xs).length) : (endL ((Wm.enc xs.length ++ Wm.encAll xs).take n)).1 = 3 := by
  have e : (Wm.takeNums ((Wm.enc xs.length ++ Wm.encAll xs).take n) 4).2.2 = 3 := by
    rw [take_app]
    split
    · rename_i q
      rw [tn_err4 (by rw [Wm.take_enc_short _ _ (by omega) q]; simp), Wm.take_enc_short _ _ (by omega) q]
    · rename_i q
      rw [List.length_append] at hn
      rw [tn_go4 (Wm.take_enc xs.length _ (by omega)), if_neg (by omega), tn_short xs _ [] _ h (by omega)]
  unfold endL
  rw [e]
  simp
theorem end_back {l : List Nat} (hl : ∀ c ∈ l, c < 256) (h : (endL l).1 = 0) : l = Wm.enc (endL l).2.1.length ++ (Wm.encAll (endL l).2.1 ++ (endL l).2.2) ∧ (endL l).2.1.length ≤ 4 ∧ ∀ x ∈ (endL l).2.1, x ≤ 4611686018427387904 := by
  unfold endL at h ⊢
  obtain ⟨q, z, e, hq⟩ : ∃ q z e, Wm.takeNums l 4 = (q, z, e) := ⟨_, _, _, rfl⟩
  rw [hq] at h ⊢
  simp only at h ⊢
  by_cases h0 : e = 0
  · subst h0
    rw [if_neg (by simp)]
    obtain ⟨x, n, e, ht⟩ : ∃ x n e, Wm.take l = (x, n, e) := ⟨_, _, _, rfl⟩
    by_cases h1 : e = 0
    · subst h1
      rw [tn_go4 ht] at hq
      by_cases h4 : 4 < x
      · rw [if_pos h4] at hq; simp at hq
      · rw [if_neg h4] at hq
        have hc := take_cut hl ht
        have hn : n ≤ l.length := by have h1 := congrArg List.length hc.1; rw [List.length_append, ← hc.2.2] at h1; omega
        obtain ⟨xs, i1, i2, i3, _, i5⟩ := tn_back x l n [] q z hl hn hq
        simp only [List.nil_append] at i1
        subst i1
        exact ⟨by rw [i2, ← i5]; exact hc.1, by simp only; omega, i3⟩
    · rw [tn_err4 (by rw [ht]; exact h1), ht] at hq
      simp at hq
      exact absurd hq.2.2 h1
  · rw [if_pos h0] at h; exact absurd h h0
theorem knd_back {l : List Nat} (hl : ∀ c ∈ l, c < 256) (h : (kndL l).1 = 0) : l = Wm.enc (kndL l).2.1 ++ (kndL l).2.2 ∧ 1 ≤ (kndL l).2.1 ∧ (kndL l).2.1 ≤ 8 := by
  obtain ⟨x, n, e, ht⟩ : ∃ x n e, Wm.take l = (x, n, e) := ⟨_, _, _, rfl⟩
  simp only [kndL, ht] at h ⊢
  by_cases h0 : e = 0
  · subst h0
    rw [if_neg (by simp)] at h ⊢
    by_cases h1 : x < 1 ∨ 8 < x
    · rw [if_pos h1] at h; simp at h
    · rw [if_neg h1] at h ⊢
      exact ⟨(take_cut hl ht).1, by simp only; omega, by simp only; omega⟩
  · rw [if_pos h0] at h; simp at h; omega
theorem man_back {l : List Nat} (hl : ∀ c ∈ l, c < 256) (h : (manL l).1 = 0) : l = Wm.enc (manL l).2.1 ++ (manL l).2.2 ∧ (manL l).2.1 ≤ 64 := by
  obtain ⟨x, n, e, ht⟩ : ∃ x n e, Wm.take l = (x, n, e) := ⟨_, _, _, rfl⟩
  simp only [manL, ht] at h ⊢
  by_cases h0 : e = 0
  · subst h0
    rw [if_neg (by simp)] at h ⊢
    by_cases h1 : 64 < x
    · rw [if_pos h1] at h; simp at h
    · rw [if_neg h1] at h ⊢
      exact ⟨(take_cut hl ht).1, by simp only; omega⟩
  · rw [if_pos h0] at h; simp at h; omega
theorem wd_unw {l : List Nat} (h8 : l.length = 8) (hl : ∀ c ∈ l, c < 256) : Wm.wd (Wm.unw l) = l := by
  have key : ∀ (n : Nat) (l : List Nat), l.length = n → (∀ c ∈ l, c < 256) → Wm.wdF n (Wm.unw l) = l := by
    intro n
    induction n with
    | zero => intro l h _; rw [List.eq_nil_of_length_eq_zero h]; rfl
    | succ n ih =>
      intro l h hl
      cases l with
      | nil => simp at h
      | cons c l =>
        have hc := hl c (by simp)
        have i1 := ih l (by simpa using h) (fun d hd => hl d (by simp [hd]))
        simp only [Wm.unw, Wm.wdF]
        rw [show (c + 256 * Wm.unw l) % 256 = c by omega, show (c + 256 * Wm.unw l) / 256 = Wm.unw l by omega, i1]
  exact key 8 l h8 hl
theorem pair_back {n : Nat} : ∀ {l : List Nat}, (∀ c ∈ l, c < 256) → (pairS n l).1 = 0 → l = pairL (pairS n l).2.1 ++ (pairS n l).2.2 ∧ (pairS n l).2.1.length = n ∧ okT (pairS n l).2.1 := by
  induction n with
  | zero => intro l hl _; simp [pairS, pairL, okT]
  | succ n ih =>
    intro l hl h
    obtain ⟨x, q, e, ht⟩ : ∃ x n e, Wm.take l = (x, n, e) := ⟨_, _, _, rfl⟩
    simp only [pairS, ht] at h ⊢
    by_cases h0 : e = 0
    · subst h0
      rw [if_neg (by simp)] at h ⊢
      have hl1 : ∀ c ∈ l.drop q, c < 256 := fun c hc => hl c (List.mem_of_mem_drop hc)
      by_cases h2 : (l.drop q).length < 8
      · rw [takeW_short h2] at h; simp at h
      · rw [takeW_ok h2] at h ⊢
        simp only at h ⊢
        rw [if_neg (by simp)] at h ⊢
        by_cases h1 : (pairS n ((l.drop q).drop 8)).1 = 0
        · rw [if_neg (by simpa using h1)] at h ⊢
          obtain ⟨i1, i2, i3⟩ := ih (l := (l.drop q).drop 8) (fun c hc => hl1 c (List.mem_of_mem_drop hc)) h1
          obtain ⟨t1, t2, _⟩ := take_cut hl ht
          have h8 : ((l.drop q).take 8).length = 8 := by rw [List.length_take]; omega
          have hl8 : ∀ c ∈ (l.drop q).take 8, c < 256 := fun c hc => hl1 c (List.mem_of_mem_take hc)
          refine ⟨?_, by rw [List.length_cons, i2], ?_⟩
          · show l = (Wm.enc x ++ (Wm.wd (Wm.unw ((l.drop q).take 8)) ++ pairL (pairS n ((l.drop q).drop 8)).2.1)) ++ (pairS n ((l.drop q).drop 8)).2.2
            rw [wd_unw h8 hl8, List.append_assoc, List.append_assoc, ← i1, List.take_append_drop]; exact t1
          · intro y hy
            rcases List.mem_cons.1 hy with rfl | hy
            · refine ⟨t2, ?_⟩
              have := Wm.unw_lt _ hl8
              rw [h8] at this
              exact this
            · exact i3 y hy
        · rw [if_pos h1] at h; exact absurd h h1
    · rw [if_pos h0] at h; exact absurd h h0
theorem decS_bad {l : List Nat} (h : (decS l).2 ≠ 0) : (decS l).1 = zeroMs := by
  have key : ∀ r, (decT r).2 ≠ 0 → (decT r).1 = zeroMs := by
    intro r h
    unfold decT at h ⊢
    repeat' split
    all_goals first | rfl | skip
    all_goals simp_all
  unfold decS dec2 dec3 dec4 dec5 at h ⊢
  repeat' split
  all_goals first | rfl | skip
  all_goals simp_all
end Go.Proofs.YtopjedgknbbgkaaGreat
