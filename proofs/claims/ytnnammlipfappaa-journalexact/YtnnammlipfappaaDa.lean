/- Blocks of bytes: rows of slices of bytes, and what of them stays; bytes.Clone and the reference's copied. -/
import Derived.Test.YtnnammlipfappaaWp

import Derived.Test.YtnnammlipfappaaWn

import Derived.Test.YtnnammlipfappaaWb

import Derived.Laws.AppendOwnNone

import Derived.Maps.AppendAt

import Derived.Deep.RegionLaw

import Derived.Deep.RegionHeld3

import Derived.OwnWalk

import Derived.Lib.SliceRun

import Derived.Lib.SlBytesConst

import Derived.Lib.Hide

import Derived.Lib.SmallJoins

import Derived.CellFam

import Derived.Deep.DeepCutAuto

import Derived.BigQuiet

import Derived.Deep.QuietTactic

import Derived.Maps.RangeWalk

import Derived.ProofKit

import Derived.WalkLawsBesides

import Derived.Sort.Row

namespace Go.Proofs.Ytnnammlipfappaa

open Go.RowKit



theorem info_row : (Try.prog.info? 57).map (fun i => (i.zero, i.size, i.bytes)) = some (some (.slice none 0 0), 1, 24) := by kernel_rfl
theorem info_partsV {P : Program} {e : TypeId} {z : Value} {s b : Nat} (h : (P.info? e).map (fun i => (i.zero, i.size, i.bytes)) = some (some z, s, b)) : ∃ i, P.info? e = some i ∧ i.zero = some z ∧ i.size = s ∧ i.bytes = b := by
  obtain ⟨i, h1, h2⟩ := Option.map_eq_some_iff.1 h
  simp only [Prod.mk.injEq] at h2
  exact ⟨i, h1, h2.1, h2.2.1, h2.2.2⟩
theorem below_same (w : World) : Below w.heap.size w w := Below.refl _ _
theorem grown_set (w : World) (g i : Nat) (u : Value) : w.grownBy (w.setCell ⟨g, i, none⟩ u) (some g) :=
  ⟨rfl, rfl, rfl, by simp [go_sem], fun k hk hne => by rw [Below.heap_setCell w _ _ k (by rintro rfl; exact hne rfl)]⟩
theorem grown_trans {a b c : World} {g : Nat} (h : a.grownBy b (some g)) (k : b.grownBy c (some g)) : a.grownBy c (some g) := h.andThen k (fun _ hj => Or.inr hj)
theorem wrapU {x : Int} (h0 : 0 ≤ x) (h1 : x < 9223372036854775808) : IntKind.i64.wrap x = x := by
  rw [IntKind.wrap_i64]; omega
theorem row_keep {w w' : World} {base e s n : Nat} {v : Value} {xs : List Value} (h : w.ownsRow base e s v n xs) (hk : ∀ x, v.ownBlock = some x → w'.heap[x]? = w.heap[x]?) : w'.ownsRow base e s v n xs := by
  refine ⟨h.1, ?_⟩
  rcases h.2 with h0 | ⟨g, cap, cur, rfl, hb, hg, r⟩
  · exact .inl h0
  · exact .inr ⟨g, cap, cur, rfl, hb, by rw [hk g rfl]; exact hg, r⟩
theorem row_base {w : World} {base b' e s n : Nat} {v : Value} {xs : List Value} (h : w.ownsRow base e s v n xs) (hb : ∀ x, v.ownBlock = some x → b' ≤ x) : w.ownsRow b' e s v n xs := by
  refine ⟨h.1, ?_⟩
  rcases h.2 with h0 | ⟨g, cap, cur, rfl, _, r⟩
  · exact .inl h0
  · exact .inr ⟨g, cap, cur, rfl, hb g rfl, r⟩
theorem row_form {w : World} {base e s n : Nat} {v : Value} {xs : List Value} (h : w.ownsRow base e s v n xs) : ∃ ao cap, v = .slice ao n cap ∧ n ≤ cap ∧ cap ≤ maxLen := by
  rcases h.2 with ⟨rfl, rfl⟩ | ⟨g, cap, cur, rfl, hb, hg, h1, h2, _⟩
  · exact ⟨none, 0, rfl, Nat.le_refl _, by simp [maxLen]⟩
  · exact ⟨_, cap, rfl, h1, h2⟩
theorem bv_formD {w : World} {v : Value} {l : List Nat} (h : Bv w v l) : ∃ ao cap, v = .slice ao l.length cap ∧ l.length ≤ cap ∧ cap ≤ maxLen := by
  obtain ⟨⟨ao, cap, rfl, h1, h2, _⟩, _⟩ := h
  rw [ib_len] at h1 ⊢
  exact ⟨ao, cap, rfl, h1, h2⟩
theorem Bv.keep {w w' : World} {v : Value} {l : List Nat} (h : Bv w v l) (hk : ∀ x, v.ownBlock = some x → w'.heap[x]? = w.heap[x]?) : Bv w' v l := by
  obtain ⟨⟨ao, cap, rfl, h1, h2, h3, h4⟩, h5⟩ := h
  refine ⟨⟨ao, cap, rfl, h1, h2, h3, fun i hi => ?_⟩, h5⟩
  obtain ⟨b, off, rfl, c⟩ := h4 i hi
  exact ⟨b, off, rfl, by rw [World.cell?_of_block (w := w) (a := ⟨b, off + i, none⟩) (hk b rfl)]; exact c⟩


/-- The world has turned in blocks of D alone. -/
structure Ch (D : Nat → Prop) (w w' : World) : Prop where
  os : w'.os = w.os
  tape : w'.tape = w.tape
  output : w'.output = w.output
  size : w.heap.size ≤ w'.heap.size
  block : ∀ k, k < w.heap.size → ¬ D k → w'.heap[k]? = w.heap[k]?
theorem Ch.refl (D : Nat → Prop) (w : World) : Ch D w w := ⟨rfl, rfl, rfl, Nat.le_refl _, fun _ _ _ => rfl⟩
theorem Ch.trans {D E : Nat → Prop} {a b c : World} (h : Ch D a b) (k : Ch E b c) (he : ∀ x, E x → D x ∨ a.heap.size ≤ x) : Ch D a c :=
  ⟨k.os.trans h.os, k.tape.trans h.tape, k.output.trans h.output, Nat.le_trans h.size k.size, fun x hx hd => by
    rw [k.block x (Nat.lt_of_lt_of_le hx h.size) (fun e => by rcases he x e with q | q; exact hd q; omega), h.block x hx hd]⟩
theorem Ch.of_below {D : Nat → Prop} {w w' : World} (h : Below w.heap.size w w') : Ch D w w' := ⟨h.os, h.tape, h.output, h.size, fun k hk _ => h.block k hk⟩
theorem Ch.to_below {D : Nat → Prop} {w w' : World} {B : Nat} (h : Ch D w w') (hB : B ≤ w.heap.size) (hd : ∀ x, D x → B ≤ x) : Below B w w' := ⟨h.os, h.tape, h.output, h.size, fun k hk => h.block k (by omega) (fun e => by have := hd k e; omega)⟩
theorem Ch.of_grown {D : Nat → Prop} {w w' : World} {r : Option Nat} (h : w.grownBy w' r) (hr : ∀ x, r = some x → D x) : Ch D w w' := ⟨h.os, h.tape, h.output, h.size, fun k hk hd => h.block k hk (fun e => hd (hr k e.symm))⟩


/-- The cells of bytes in a row. -/
abbrev cb (l : List Nat) : List Value := (ib l).map (Value.int .u8)
def bk (ls : List (List Nat)) (i : Nat) : List Nat := ls.getD i []
theorem bk_at {ls : List (List Nat)} {i : Nat} (h : i < ls.length) : bk ls i = ls[i] := by unfold bk; rw [List.getD_eq_getElem?_getD, List.getElem?_eq_getElem h]; rfl
theorem bk_mem {ls : List (List Nat)} {i : Nat} (h : i < ls.length) : bk ls i ∈ ls := by rw [bk_at h]; exact List.getElem_mem h
theorem bk_ext {a b : List (List Nat)} (h : a.length = b.length) (hn : ∀ i, i < a.length → bk a i = bk b i) : a = b := by
  refine List.ext_getElem h fun i h1 h2 => ?_
  have := hn i h1
  rwa [bk_at h1, bk_at h2] at this
theorem bk_set {ls : List (List Nat)} {i j : Nat} (hj : j < ls.length) (b : List Nat) : bk (ls.set i b) j = if i = j then b else bk ls j := by
  rw [bk_at (by simpa using hj), List.getElem_set, bk_at hj]


/-- The value v is a slice of slices of bytes that hold ls. -/
def PvD (w : World) (v : Value) (ls : List (List Nat)) : Prop :=
  ∃ ao cap, v = .slice ao ls.length cap ∧ ls.length ≤ cap ∧ cap ≤ maxLen ∧ (ao = none → cap = 0) ∧
    ∀ i, i < ls.length → ∃ b off u, ao = some ⟨b, off, none⟩ ∧ w.cell? ⟨b, off + i, none⟩ = some u ∧ Bv w u (bk ls i)
theorem PvD.below {w w' : World} {v : Value} {ls : List (List Nat)} (h : PvD w v ls) (hb : Below w.heap.size w w') : PvD w' v ls := by
  obtain ⟨ao, cap, e, h1, h2, h3, h4⟩ := h
  refine ⟨ao, cap, e, h1, h2, h3, fun i hi => ?_⟩
  obtain ⟨b, off, u, e1, e2, e3⟩ := h4 i hi
  exact ⟨b, off, u, e1, by rw [hb.cell (p := ⟨b, off + i, none⟩) (cell_lt e2)]; exact e2, e3.below hb⟩
theorem PvD.form {w : World} {v : Value} {ls : List (List Nat)} (h : PvD w v ls) : ∃ ao cap, v = .slice ao ls.length cap ∧ ls.length ≤ cap ∧ cap ≤ maxLen := by
  obtain ⟨ao, cap, e, h1, h2, h3, h4⟩ := h
  exact ⟨ao, cap, e, h1, h2⟩
theorem PvD.bytes {w : World} {v : Value} {ls : List (List Nat)} (h : PvD w v ls) : ∀ b ∈ ls, ∀ c ∈ b, c < 256 := by
  obtain ⟨ao, cap, e, h1, h2, h3, h4⟩ := h
  intro b hb
  obtain ⟨i, hi, rfl⟩ := List.getElem_of_mem hb
  obtain ⟨_, _, _, _, _, e3⟩ := h4 i hi
  rw [bk_at hi] at e3
  exact e3.2


/-- Bytes in a row of their own. -/
def Oc (w : World) (u : Value) (b : List Nat) : Prop := w.ownsRow 0 5 1 u b.length (cb b)
theorem Oc.bv {w : World} {u : Value} {b : List Nat} (h : Oc w u b) (hb : ∀ c ∈ b, c < 256) : Bv w u b := own_bv h hb
theorem Oc.nil (w : World) : Oc w (.slice none 0 0) [] := World.ownsRow_nil _ _ _ _
theorem Oc.keep {w w' : World} {u : Value} {b : List Nat} (h : Oc w u b) (hk : ∀ x, u.ownBlock = some x → w'.heap[x]? = w.heap[x]?) : Oc w' u b := row_keep h hk
theorem Oc.block {w : World} {u : Value} {b : List Nat} (h : Oc w u b) {x : Nat} (hx : u.ownBlock = some x) : ∃ cur, w.heap[x]? = some (.cells cur 5 (0, 0)) := by
  rcases h.2 with ⟨rfl, _⟩ | ⟨g, cap, cur, rfl, hb, hg, r⟩
  · cases hx
  · simp [Value.ownBlock] at hx; subst hx; exact ⟨cur, hg⟩
theorem Oc.below {w w' : World} {u : Value} {b : List Nat} (h : Oc w u b) (hb : Below w.heap.size w w') : Oc w' u b := own_below h hb


/-- Block g is a row of cap slices of bytes, the first of them ls, each in a block of E that is its own. -/
def Gr (E : Nat → Prop) (w : World) (g cap : Nat) (ls : List (List Nat)) : Prop :=
  (∃ cur, w.heap[g]? = some (.cells cur 57 (0, 0)) ∧ cur.size = cap ∧ ∀ i, i < ls.length → ∃ u, cur[i]? = some u ∧ Oc w u (bk ls i) ∧ ∀ x, u.ownBlock = some x → E x) ∧ ls.length ≤ cap ∧ cap ≤ maxLen
/-- The value u is a slice of bytes that holds b, apart from D. -/
def Bx (D : Nat → Prop) (w : World) (u : Value) (b : List Nat) : Prop := Bv w u b ∧ (b = [] ∨ ∀ x, u.ownBlock = some x → ¬ D x)
theorem Bv.any {w w' : World} {u : Value} (h : Bv w u []) : Bv w' u [] := by
  obtain ⟨⟨ao, cap, e, h1, h2, h3, h4⟩, h5⟩ := h
  exact ⟨⟨ao, cap, e, h1, h2, h3, fun i hi => by simp [ib] at hi⟩, h5⟩
theorem Bv.lt {w : World} {u : Value} {b : List Nat} (h : Bv w u b) (hb : b ≠ []) {x : Nat} (hx : u.ownBlock = some x) : x < w.heap.size := by
  obtain ⟨⟨ao, cap, rfl, h1, h2, h3, h4⟩, h5⟩ := h
  obtain ⟨b', off, rfl, c⟩ := h4 0 (by rw [ib_len]; exact List.length_pos_iff.2 hb)
  simp [Value.ownBlock] at hx
  subst hx
  exact cell_lt c
theorem Bv.bx {w : World} {u : Value} {b : List Nat} (h : Bv w u b) : Bx (fun x => w.heap.size ≤ x) w u b := by
  refine ⟨h, ?_⟩
  by_cases hb : b = []
  · exact .inl hb
  · exact .inr fun x hx => by have := h.lt hb hx; omega
theorem Bx.mono {D D' : Nat → Prop} {w : World} {u : Value} {b : List Nat} (h : Bx D w u b) (hd : ∀ x, D' x → D x) : Bx D' w u b := ⟨h.1, h.2.imp id (fun k x hx e => k x hx (hd x e))⟩
theorem Bx.ch {D D' : Nat → Prop} {w w' : World} {u : Value} {b : List Nat} (h : Bx D w u b) (hc : Ch D w w') (hd : ∀ x, D' x → D x ∨ w.heap.size ≤ x) : Bx D' w' u b := by
  by_cases hb : b = []
  · subst hb; exact ⟨h.1.any, .inl rfl⟩
  · have hn : ∀ x, u.ownBlock = some x → ¬ D x := h.2.resolve_left hb
    refine ⟨h.1.keep (fun x hx => hc.block x (h.1.lt hb hx) (hn x hx)), .inr fun x hx e => ?_⟩
    rcases hd x e with q | q
    · exact hn x hx q
    · have := h.1.lt hb hx; omega
theorem Bx.below {D : Nat → Prop} {w w' : World} {u : Value} {b : List Nat} (h : Bx D w u b) (hb : Below w.heap.size w w') : Bx D w' u b := ⟨h.1.below hb, h.2⟩
theorem own_bx {D : Nat → Prop} {w : World} {base n : Nat} {u : Value} {b : List Nat} (h : w.ownsRow base 5 1 u n (cb b)) (hb : ∀ c ∈ b, c < 256) (hd : ∀ x, D x → x < base) : Bx D w u b :=
  ⟨own_bv h hb, .inr fun x hx e => by have h1 := (h.lt x hx).1; have h2 := hd x e; omega⟩
/-- Block g is a row of slices of bytes ls, all apart from D. -/
def Gw (D : Nat → Prop) (w : World) (g : Nat) (ls : List (List Nat)) : Prop :=
  (∃ cur, w.heap[g]? = some (.cells cur 57 (0, 0)) ∧ cur.size = ls.length ∧ ∀ i, i < ls.length → ∃ u, cur[i]? = some u ∧ Bx (fun x => D x ∨ x = g) w u (bk ls i)) ∧ ¬ D g


section

variable {E : Nat → Prop} {w w' : World} {g cap : Nat} {ls : List (List Nat)}

theorem Gr.lt (h : Gr E w g cap ls) : g < w.heap.size := by
  obtain ⟨⟨cur, h1, _⟩, _⟩ := h
  exact (Array.getElem?_eq_some_iff.1 h1).1
theorem Gw.lt (h : Gw E w g ls) : g < w.heap.size := by
  obtain ⟨⟨cur, h1, _⟩, _⟩ := h
  exact (Array.getElem?_eq_some_iff.1 h1).1
theorem Gr.keep (h : Gr E w g cap ls) (hg : w'.heap[g]? = w.heap[g]?) (hk : ∀ x, E x → x < w.heap.size → x ≠ g → w'.heap[x]? = w.heap[x]?) : Gr E w' g cap ls := by
  obtain ⟨⟨cur, h1, h2, h3⟩, h4⟩ := h
  refine ⟨⟨cur, by rw [hg]; exact h1, h2, fun i hi => ?_⟩, h4⟩
  obtain ⟨u, a, b, c⟩ := h3 i hi
  refine ⟨u, a, b.keep (fun x hx => hk x (c x hx) (b.lt x hx).2 ?_), c⟩
  rintro rfl
  obtain ⟨cur2, e⟩ := b.block hx
  rw [h1] at e; simp at e
theorem Gr.below (h : Gr E w g cap ls) (hb : Below w.heap.size w w') : Gr E w' g cap ls := h.keep (hb.block g h.lt) (fun x _ hx _ => hb.block x hx)
theorem Gr.mono {E' : Nat → Prop} (h : Gr E w g cap ls) (he : ∀ x, E x → E' x) : Gr E' w g cap ls := by
  obtain ⟨⟨cur, h1, h2, h3⟩, h4⟩ := h
  refine ⟨⟨cur, h1, h2, fun i hi => ?_⟩, h4⟩
  obtain ⟨u, a, b, c⟩ := h3 i hi
  exact ⟨u, a, b, fun x hx => he x (c x hx)⟩
theorem Gr.at (h : Gr E w g cap ls) {i : Nat} (hi : i < ls.length) : ∃ u, w.cell? ⟨g, i, none⟩ = some u ∧ Oc w u (bk ls i) ∧ ∀ x, u.ownBlock = some x → E x ∧ x ≠ g := by
  obtain ⟨⟨cur, h1, h2, h3⟩, h4⟩ := h
  obtain ⟨u, a, b, c⟩ := h3 i hi
  refine ⟨u, by rw [cell_of_row w g i cur _ (0, 0) h1]; exact a, b, fun x hx => ⟨c x hx, ?_⟩⟩
  rintro rfl
  obtain ⟨cur2, e⟩ := b.block hx
  rw [h1] at e; simp at e
theorem Gr.soft (h : Gr E w g cap ls) (i : Nat) : w.frozen? ⟨g, i, none⟩ = false := by
  obtain ⟨⟨cur, h1, _⟩, _⟩ := h
  simp [World.frozen?, h1]
theorem Gw.soft (h : Gw E w g ls) (i : Nat) : w.frozen? ⟨g, i, none⟩ = false := by
  obtain ⟨⟨cur, h1, _⟩, _⟩ := h
  simp [World.frozen?, h1]
theorem set_row {cur : Array Value} {t : TypeId} (h : w.heap[g]? = some (.cells cur t (0, 0))) (i : Nat) (u : Value) : (w.setCell ⟨g, i, none⟩ u).heap[g]? = some (.cells (cur.setIfInBounds i u) t (0, 0)) := by
  rw [Sort.setCell_eq]
  simp [Sort.mapBlock, Array.getElem?_modify, h, Sort.onCells]
theorem set_other (i : Nat) (u : Value) {x : Nat} (hx : x ≠ g) : (w.setCell ⟨g, i, none⟩ u).heap[x]? = w.heap[x]? := Below.heap_setCell w _ _ x hx
theorem Gr.set (h : Gr E w g cap ls) {i : Nat} (hi : i < ls.length) {u : Value} {b : List Nat} (hu : Oc w u b) (hE : ∀ x, u.ownBlock = some x → E x) : Gr E (w.setCell ⟨g, i, none⟩ u) g cap (ls.set i b) := by
  obtain ⟨⟨cur, h1, h2, h3⟩, h4, h5⟩ := h
  have ng : ∀ {u : Value} {b : List Nat}, Oc w u b → ∀ x, u.ownBlock = some x → x ≠ g := by
    intro u b hu x hx e
    subst e
    obtain ⟨cur2, e⟩ := hu.block hx
    rw [h1] at e; simp at e
  refine ⟨⟨cur.setIfInBounds i u, set_row h1 i u, by simpa using h2, fun j hj => ?_⟩, by simpa using h4, h5⟩
  rw [List.length_set] at hj
  rw [bk_set hj]
  by_cases e : i = j
  · subst e
    rw [if_pos rfl]
    exact ⟨u, by rw [Array.getElem?_setIfInBounds, if_pos rfl, if_pos (by omega)], hu.keep (fun x hx => set_other i u (ng hu x hx)), hE⟩
  · rw [if_neg e]
    obtain ⟨v, a, b, c⟩ := h3 j hj
    exact ⟨v, by rw [Array.getElem?_setIfInBounds, if_neg e]; exact a, b.keep (fun x hx => set_other i u (ng b x hx)), c⟩
theorem Gr.pv (h : Gr E w g cap ls) (hb : ∀ b ∈ ls, ∀ c ∈ b, c < 256) : PvD w (.slice (some ⟨g, 0, none⟩) ls.length cap) ls := by
  refine ⟨_, cap, rfl, h.2.1, h.2.2, by simp, fun i hi => ?_⟩
  obtain ⟨u, a, b, c⟩ := h.at hi
  exact ⟨g, 0, u, rfl, by rw [Nat.zero_add]; exact a, b.bv (hb _ (bk_mem hi))⟩


theorem Gw.ch {D D' : Nat → Prop} (h : Gw D w g ls) (hc : Ch D w w') (hd : ∀ x, D' x → D x ∨ w.heap.size ≤ x) : Gw D' w' g ls := by
  have hlt := h.lt
  obtain ⟨⟨cur, h1, h2, h3⟩, h4⟩ := h
  refine ⟨⟨cur, by rw [hc.block g hlt h4]; exact h1, h2, fun i hi => ?_⟩, fun e => by rcases hd g e with q | q; exact h4 q; omega⟩
  obtain ⟨u, a, b⟩ := h3 i hi
  refine ⟨u, a, b.ch (⟨hc.os, hc.tape, hc.output, hc.size, fun k hk hn => hc.block k hk (fun e => hn (.inl e))⟩) (fun x hx => ?_)⟩
  rcases hx with hx | hx
  · rcases hd x hx with q | q
    · exact .inl (.inl q)
    · exact .inr q
  · exact .inl (.inr hx)
theorem Gw.below {D : Nat → Prop} (h : Gw D w g ls) (hb : Below w.heap.size w w') : Gw D w' g ls := h.ch (Ch.of_below hb) (fun _ hx => .inl hx)
theorem Gw.at (h : Gw E w g ls) {i : Nat} (hi : i < ls.length) : ∃ u, w.cell? ⟨g, i, none⟩ = some u ∧ Bv w u (bk ls i) := by
  obtain ⟨⟨cur, h1, h2, h3⟩, h4⟩ := h
  obtain ⟨u, a, b⟩ := h3 i hi
  exact ⟨u, by rw [cell_of_row w g i cur _ (0, 0) h1]; exact a, b.1⟩
theorem Gw.set {D : Nat → Prop} (h : Gw D w g ls) {i : Nat} (hi : i < ls.length) {u : Value} {b : List Nat} (hu : Bx (fun x => D x ∨ x = g) w u b) : Gw D (w.setCell ⟨g, i, none⟩ u) g (ls.set i b) := by
  obtain ⟨⟨cur, h1, h2, h3⟩, h4⟩ := h
  have hc : Ch (fun x => D x ∨ x = g) w (w.setCell ⟨g, i, none⟩ u) := Ch.of_grown (grown_set w g i u) (fun x hx => by cases hx; exact .inr rfl)
  refine ⟨⟨cur.setIfInBounds i u, set_row h1 i u, by simpa using h2, fun j hj => ?_⟩, h4⟩
  rw [List.length_set] at hj
  rw [bk_set hj]
  by_cases e : i = j
  · subst e
    rw [if_pos rfl]
    exact ⟨u, by rw [Array.getElem?_setIfInBounds, if_pos rfl, if_pos (by omega)], hu.ch hc (fun _ hx => .inl hx)⟩
  · rw [if_neg e]
    obtain ⟨v, a, b⟩ := h3 j hj
    exact ⟨v, by rw [Array.getElem?_setIfInBounds, if_neg e]; exact a, b.ch hc (fun _ hx => .inl hx)⟩
theorem Gw.pv {cap : Nat} (h : Gw E w g ls) (hl : ls.length ≤ cap) (hm : cap ≤ maxLen) : PvD w (.slice (some ⟨g, 0, none⟩) ls.length cap) ls := by
  refine ⟨_, cap, rfl, hl, hm, by simp, fun i hi => ?_⟩
  obtain ⟨u, a, b⟩ := h.at hi
  exact ⟨g, 0, u, rfl, by rw [Nat.zero_add]; exact a, b⟩


end



set_option maxRecDepth 100000 in
/-- bytes.Clone. -/
theorem clone_walk {v : Value} {l : List Nat} {w : World} (ho : Bv w v l) (hl : l.length ≤ 140737488355328) :
    Calls Try.prog 56 #[v] w fun e w' => ∃ v', e = .returned v' ∧ w'.ownsRow w.heap.size 5 1 v' l.length (cb l) ∧ Below w.heap.size w w' := by
  have HO : Hid (Bv w v l) := ho
  obtain ⟨⟨ao, cap, rfl, h1, h2, h3, _⟩, _⟩ := ho
  rw [ib_len] at h1
  rw [ib_len] at HO ⊢
  have HL : Hid (l.length ≤ 140737488355328) := hl
  have H3 : Hid (ao = none → cap = 0) := h3
  have H1 : Hid (l.length ≤ cap) := h1
  have q : ∀ (w : World) (a : Option Addr) (n c : Nat), (binOp .eql 57 (.slice a n c) (.slice none 0 0)).run Try.prog w = .ok (.bool a.isNone) w := fun w a n c => Lib.run_eql_slice_nil w 57 5 a n c 0 0 Try.underlying57
  clear hl h1 h2 h3
  cases ao with
  | none =>
    have hc := H3.out rfl
    subst hc
    have hl0 : l.length = 0 := by have := H1.out; omega
    have hl : l = [] := List.eq_nil_of_length_eq_zero hl0
    subst hl
    rw [List.length_nil]
    go_enter Try.func56, Try.ntmps56
    go_wp2_with fail
    go_ret
    exact ⟨_, rfl, World.ownsRow_nil _ _ _ _, below_same _⟩
  | some p =>
    go_enter Try.func56, Try.ntmps56
    go_wp2_with (at_builtin; refine wpList_append_sv (by rfl) _ _ 57 (by rfl) w.heap.size 5 .u8 1 Try.underlying57 info_u8 _ 0 [] (by rfl) (World.ownsRow_made w #[] 0 (Nat.le_refl _) (by simp [maxLen]) (by simp)) _ (ib l) (by rfl) (HO.out.below (below_alloc _ _)).1 (by have := HL.out; rw [ib_len]; simp [maxLen]; omega) (by have := HL.out; rw [ib_len]; omega) (by simp) ?_; intro v' w2 hown hgrow; go_frame)
    go_ret
    refine ⟨_, rfl, by rw [ib_len] at hown; simpa using hown, ?_⟩
    exact (below_alloc w (Obj.cells #[] 5)).grown hgrow (by simp) (by simp [Value.ownBlock])


set_option maxRecDepth 100000 in
/-- The reference's copied. -/
theorem rclone_walk {v : Value} {l : List Nat} {w : World} (ho : Bv w v l) (hl : l.length ≤ 140737488355328) :
    Calls Try.prog 63 #[v] w fun e w' => ∃ v', e = .returned v' ∧ w'.ownsRow w.heap.size 5 1 v' l.length (cb l) ∧ Below w.heap.size w w' := by
  have HO : Hid (Bv w v l) := ho
  obtain ⟨⟨ao, cap, rfl, h1, h2, h3, _⟩, _⟩ := ho
  rw [ib_len] at h1
  rw [ib_len] at HO ⊢
  have HL : Hid (l.length ≤ 140737488355328) := hl
  clear hl h1 h2 h3
  go_enter Try.func63, Try.ntmps63
  go_wp2_with (at_builtin; refine wpList_append_sv (by rfl) _ _ 57 (by rfl) w.heap.size 5 .u8 1 Try.underlying57 info_u8 _ 0 [] (by rfl) (World.ownsRow_made w #[] 0 (Nat.le_refl _) (by simp [maxLen]) (by simp)) _ (ib l) (by rfl) (HO.out.below (below_alloc _ _)).1 (by have := HL.out; rw [ib_len]; simp [maxLen]; omega) (by have := HL.out; rw [ib_len]; omega) (by simp) ?_; intro v' w2 hown hgrow; go_frame)
  go_ret
  refine ⟨_, rfl, by rw [ib_len] at hown; simpa using hown, ?_⟩
  exact (below_alloc w (Obj.cells #[] 5)).grown hgrow (by simp) (by simp [Value.ownBlock])
end Go.Proofs.Ytnnammlipfappaa


