/- takeNum, TakeNums and its reference. -/
import Derived.Test.YtonnlhehbhiiiaaWr

import Derived.Test.YtonnlhehbhiiiaaWn

import Derived.Lib.Hide

namespace Go.Proofs.Ytonnlhehbhiiiaa

open Go.RowKit

theorem t3_lit {r : Nat × Nat × Nat} {a b c : Nat} (h : r = (a, b, c)) : t3 r = .tuple #[.int .u64 a, .int .i64 b, .int .i64 c] := by subst h; rfl
theorem Bv.le_cap {w : World} {ao : Option Addr} {cap : Nat} {l : List Nat} (h : Bv w (.slice ao l.length cap) l) : l.length ≤ cap := by
  obtain ⟨⟨ao', cap', e, h1, _⟩, _⟩ := h
  simp only [Value.slice.injEq] at e
  obtain ⟨_, _, rfl⟩ := e
  rwa [ib_len] at h1




/-- One number of a list, read. -/
def tnum (l : List Nat) : Nat × Nat × Nat := match Wm.take l with
  | (x, n, 0) => if 4611686018427387904 < x then (0, 0, 4) else (x, n, 0)
  | (_, _, e) => (0, 0, e)


def t3i (r : Nat × Nat × Nat) : Value := .tuple #[.int .i64 (r.1 : Nat), .int .i64 (r.2.1 : Nat), .int .i64 (r.2.2 : Nat)]
theorem t3i_lit {r : Nat × Nat × Nat} {a b c : Nat} (h : r = (a, b, c)) : t3i r = .tuple #[.int .i64 a, .int .i64 b, .int .i64 c] := by subst h; rfl


theorem tnum_err {l : List Nat} {e : Nat} (h : Wm.take l = (0, 0, e)) (h34 : e = 3 ∨ e = 4) : tnum l = (0, 0, e) := by
  unfold tnum; rw [h]; rcases h34 with rfl | rfl <;> rfl
theorem tnum_big {l : List Nat} {x n : Nat} (h : Wm.take l = (x, n, 0)) (hb : 4611686018427387904 < x) : tnum l = (0, 0, 4) := by
  unfold tnum; rw [h]; simp only; rw [if_pos hb]
theorem tnum_ok {l : List Nat} {x n : Nat} (h : Wm.take l = (x, n, 0)) (hb : ¬ 4611686018427387904 < x) : tnum l = (x, n, 0) := by
  unfold tnum; rw [h]; simp only; rw [if_neg hb]


/-- What one number's reading says. -/
theorem tnum_form (l : List Nat) (hl : ∀ c ∈ l, c < 256) :
    (∃ e, tnum l = (0, 0, e) ∧ (e = 3 ∨ e = 4) ∧ ∀ k p (b : List Nat) acc, b.drop p = l → Wm.tnums (k + 1) b p acc = ([], 0, e)) ∨
    (∃ x n, tnum l = (x, n, 0) ∧ x ≤ 4611686018427387904 ∧ 1 ≤ n ∧ n ≤ l.length ∧ ∀ k p (b : List Nat) acc, b.drop p = l → Wm.tnums (k + 1) b p acc = Wm.tnums k b (p + n) (acc ++ [x])) := by
  rcases Wm.take_form l hl with ⟨e, he, h34⟩ | ⟨x, n, hx, _, h1, h2, _⟩
  · refine .inl ⟨e, tnum_err he h34, h34, fun k p b acc hb => ?_⟩
    rw [Wm.tnums, hb, he]
    rcases h34 with rfl | rfl <;> rfl
  · by_cases hb : 4611686018427387904 < x
    · refine .inl ⟨4, tnum_big hx hb, .inr rfl, fun k p b acc hd => ?_⟩
      rw [Wm.tnums, hd, hx]
      simp only
      rw [if_pos hb]
    · refine .inr ⟨x, n, tnum_ok hx hb, by omega, h1, h2, fun k p b acc hd => ?_⟩
      rw [Wm.tnums, hd, hx]
      simp only
      rw [if_neg hb]




theorem sv_one_int (w : World) (e : TypeId) (x : Int) : Sv .i64 (w.alloc (.cells #[.int .i64 x] e)) (.slice (some ⟨w.heap.size, 0, none⟩) 1 1) [x] := sv_one .i64 w e x


theorem sv_form {k : IntKind} {w : World} {v : Value} {l : List Int} (h : Sv k w v l) : ∃ ao cap, v = .slice ao l.length cap := by
  obtain ⟨ao, cap, rfl, _⟩ := h
  exact ⟨ao, cap, rfl⟩


/-- What TakeNums leaves: r is its answer. -/
def NumsGot (r : List Nat × Nat × Nat) (w : World) (e : Ending) (w' : World) : Prop :=
  ∃ ao cap, e = .returned (.tuple #[.slice ao (ib r.1).length cap, .int .i64 (r.2.1 : Nat), .int .i64 (r.2.2 : Nat)]) ∧ w'.ownsRow w.heap.size 3 1 (.slice ao (ib r.1).length cap) r.1.length ((ib r.1).map (Value.int .i64)) ∧ Below w.heap.size w w'


theorem numsgot_none {r : List Nat × Nat × Nat} {w w' : World} {e : Nat} {c : Int} (h : r = ([], 0, e)) (hc : c = e) (hB : Below w.heap.size w w') : NumsGot r w (.returned (.tuple #[.slice none 0 0, .int .i64 0, .int .i64 c])) w' := by
  subst h hc
  exact ⟨none, 0, rfl, ⟨rfl, .inl ⟨rfl, rfl⟩⟩, hB⟩


theorem numsgot_some {r : List Nat × Nat × Nat} {w w' : World} {n p : Nat} {acc : List Nat} {v : Value} {c : Int} (h : r = (acc, p, 0)) (hown : w'.ownsRow w.heap.size 3 1 v n ((ib acc).map (Value.int .i64))) (hB : Below w.heap.size w w') (hc : c = p) :
    NumsGot r w (.returned (.tuple #[v, .int .i64 c, .int .i64 0])) w' := by
  subst h hc
  obtain ⟨ao, cap, rfl⟩ := sv_form (own_sv hown)
  have hn : n = acc.length := by have := own_len hown; rw [ib_len] at this; exact this
  subst hn
  exact ⟨ao, cap, rfl, hown, hB⟩


/-- The loop: k numbers of c have been read, p bytes are behind. -/
def TNRel (l : List Nat) (c : Nat) (r : List Nat × Nat × Nat) (H : Nat) (w : World) (pv v kv : Value) (kk : IntKind) (wr : World) : Prop :=
  ∃ (k p : Nat) (acc : List Nat), kv = .int kk k ∧ k ≤ c ∧ pv = .int .i64 p ∧ p ≤ l.length ∧ k ≤ p ∧ acc.length = k ∧ Wm.tnums (c - k) l p acc = r ∧
    wr.ownsRow H 3 1 v k ((ib acc).map (Value.int .i64)) ∧ Below H w wr


theorem tnrel_start {l : List Nat} {c p : Nat} {r : List Nat × Nat × Nat} {w : World} (kk : IntKind) (hp : p ≤ l.length) (h : Wm.tnums c l p [] = r) :
    TNRel l c r w.heap.size w (.int .i64 p) (.slice (some ⟨w.heap.size, 0, none⟩) 0 0) (.int kk 0) kk (w.alloc (.cells #[] 3)) :=
  ⟨0, p, [], rfl, Nat.zero_le _, rfl, hp, Nat.zero_le _, rfl, h, World.ownsRow_made w #[] 0 (Nat.le_refl _) (by simp [maxLen]) rfl, below_alloc w _⟩


theorem tnrel_step {l : List Nat} {c k p x n H : Nat} {r : List Nat × Nat × Nat} {acc : List Nat} {w wr w1 : World} {v v' : Value} (kk : IntKind) (hk : k < c) (hpn : p + n ≤ l.length) (hkp : k ≤ p) (hn : 1 ≤ n) (hacc : acc.length = k)
    (ht : Wm.tnums (c - k) l p acc = r) (hstep : ∀ j q (b : List Nat) a, b.drop q = l.drop p → Wm.tnums (j + 1) b q a = Wm.tnums j b (q + n) (a ++ [x])) (hbel : Below H w wr) (hH : H ≤ wr.heap.size) (o : Obj)
    (hown : wr.ownsRow H 3 1 v k ((ib acc).map (Value.int .i64))) (hown' : w1.ownsRow H 3 1 v' (k + 1) ((ib acc).map (Value.int .i64) ++ [(x : Int)].map (Value.int .i64))) (hg : (wr.alloc o).grownBy w1 v.ownBlock) :
    TNRel l c r H w (.int .i64 ((p : Int) + (n : Int))) v' (.int kk ((k : Int) + 1)) kk w1 := by
  refine ⟨k + 1, p + n, acc ++ [x], rfl, hk, by congr 1, hpn, by omega, by simp [hacc], ?_, ?_, hbel.trans (((below_alloc wr o).mono hH).trans (grown_below (hown.alloc o) hg (by simp; omega)))⟩
  · rw [← hstep (c - (k + 1)) p l acc rfl, ← ht]
    congr 1; omega
  · rw [ib_append, List.map_append]
    exact hown'


theorem Bv.cutFrom {w : World} {ao : Option Addr} {cap : Nat} {l : List Nat} (h : Bv w (.slice ao l.length cap) l) (p : Nat) (hp : p ≤ l.length) (hne : ¬ cap = p) :
    Bv w (.slice (ao.map fun a => a.add p) (l.length - p) (cap - p)) (l.drop p) := by
  have := h.cut p l.length hp (Nat.le_refl _) False (by simp [hne])
  have e : (l.drop p).take (l.length - p) = l.drop p := List.take_of_length_le (by rw [List.length_drop]; omega)
  rw [e] at this
  simpa using this


theorem Bv.cutEnd {w : World} {ao : Option Addr} {l : List Nat} {p : Nat} (hp : l.length ≤ p) : Bv w (.slice ao 0 0) (l.drop p) := by
  rw [List.drop_eq_nil_of_le hp]
  exact ⟨⟨ao, 0, rfl, Nat.le_refl _, by simp [maxLen], fun _ => rfl, fun i hi => by simp [ib] at hi⟩, by simp⟩


theorem takeNums_err {l : List Nat} {e : Nat} (most : Int) (h : Wm.take l = (0, 0, e)) (h34 : e = 3 ∨ e = 4) : Wm.takeNums l most = ([], 0, e) := by
  unfold Wm.takeNums; rw [h]; rcases h34 with rfl | rfl <;> rfl
theorem takeNums_long {l : List Nat} {c p : Nat} {most : Int} (h : Wm.take l = (c, p, 0)) (hm : most < (c : Int)) : Wm.takeNums l most = ([], 0, 6) := by
  unfold Wm.takeNums; rw [h]; simp only; rw [if_pos hm]
theorem takeNums_go {l : List Nat} {c p : Nat} {most : Int} (h : Wm.take l = (c, p, 0)) (hm : ¬ most < (c : Int)) : Wm.takeNums l most = Wm.tnums c l p [] := by
  unfold Wm.takeNums; rw [h]; simp only; rw [if_neg hm]


end Go.Proofs.Ytonnlhehbhiiiaa


