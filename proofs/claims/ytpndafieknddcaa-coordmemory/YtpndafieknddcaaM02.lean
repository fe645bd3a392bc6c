/- Wn Da Db Dc Dd De -/
import Derived.Test.YtpndafieknddcaaM00
import Derived.Test.YtpndafieknddcaaWt
import Derived.Laws.AppendOwnNone
import Derived.Maps.AppendAt
import Derived.Deep.RegionLaw
import Derived.Deep.RegionHeld3
import Derived.OwnWalk
import Derived.Lib.SliceRun
import Derived.Lib.SlBytesConst
import Derived.Lib.Hide
import Derived.Lib.SmallJoins
import Derived.CellFam
import Derived.Deep.DeepCutAuto
import Derived.BigQuiet
import Derived.Deep.QuietTactic
import Derived.Maps.RangeWalk
import Derived.ProofKit
import Derived.WalkLawsBesides
import Derived.Sort.Row
namespace Go.Proofs.Ytpndafieknddcaa

open Go.RowKit



theorem own_below {w w' : World} {base e size n : Nat} {v : Value} {xs : List Value} (h : w.ownsRow base e size v n xs) (hb : Below w.heap.size w w') : w'.ownsRow base e size v n xs := by
  refine ⟨h.1, ?_⟩
  rcases h.2 with h' | ⟨g, cap, cur, hv, hg, hh, r⟩
  · exact .inl h'
  · exact .inr ⟨g, cap, cur, hv, hg, by rw [hb.block g (Array.getElem?_eq_some_iff.1 hh).1]; exact hh, r⟩


theorem bv_form {w : World} {v : Value} {l : List Nat} (h : Bv w v l) : ∃ ao cap, v = .slice ao l.length cap := by
  obtain ⟨⟨ao, cap, rfl, _⟩, _⟩ := h
  exact ⟨ao, cap, by rw [ib_len]⟩


theorem own_base {w : World} {base base' e size n : Nat} {v : Value} {xs : List Value} (h : w.ownsRow base e size v n xs) (hb : base' ≤ base) : w.ownsRow base' e size v n xs := by
  refine ⟨h.1, ?_⟩
  rcases h.2 with h' | ⟨g, cap, cur, hv, hg, hh, r⟩
  · exact .inl h'
  · exact .inr ⟨g, cap, cur, hv, Nat.le_trans hb hg, hh, r⟩


theorem pv_two {w : World} {u v : Value} {l r : List Nat} (t : TypeId) (hu : Bv w u l) (hv : Bv w v r) :
    Pv (w.alloc (.cells #[u, v] t)) (.slice (some ⟨w.heap.size, 0, none⟩) 2 2) [l, r] := by
  refine ⟨_, 2, rfl, Nat.le_refl _, by simp [maxLen], by simp, fun i hi => ?_⟩
  simp at hi
  have : i = 0 ∨ i = 1 := by omega
  rcases this with rfl | rfl
  · exact ⟨_, _, u, rfl, by simp, hu.below (below_alloc _ _)⟩
  · exact ⟨_, _, v, rfl, by simp, hv.below (below_alloc _ _)⟩


theorem pv_one {w : World} {u : Value} {l : List Nat} (t : TypeId) (hu : Bv w u l) :
    Pv (w.alloc (.cells #[u] t)) (.slice (some ⟨w.heap.size, 0, none⟩) 1 1) [l] := by
  refine ⟨_, 1, rfl, Nat.le_refl _, by simp [maxLen], by simp, fun i hi => ?_⟩
  simp at hi
  subst hi
  exact ⟨_, _, u, rfl, by simp, hu.below (below_alloc _ _)⟩


/-- s as a run. -/
def runOf (l : List Nat) : List Nat := Wm.enc l.length ++ l


theorem runOf_len (l : List Nat) : (runOf l).length ≤ 10 + l.length := by
  have := (Wm.enc_len l.length).2
  unfold runOf; rw [List.length_append]; omega
theorem flat_two (a b : List Nat) : [a, b].flatten = a ++ b := by simp




end Go.Proofs.Ytpndafieknddcaa

namespace Go.Proofs.Ytpndafieknddcaa

open Go.RowKit



theorem info_row : (Try.prog.info? 121).map (fun i => (i.zero, i.size, i.bytes)) = some (some (.slice none 0 0), 1, 24) := by kernel_rfl
theorem info_partsV {P : Program} {e : TypeId} {z : Value} {s b : Nat} (h : (P.info? e).map (fun i => (i.zero, i.size, i.bytes)) = some (some z, s, b)) : ∃ i, P.info? e = some i ∧ i.zero = some z ∧ i.size = s ∧ i.bytes = b := by
  obtain ⟨i, h1, h2⟩ := Option.map_eq_some_iff.1 h
  simp only [Prod.mk.injEq] at h2
  exact ⟨i, h1, h2.1, h2.2.1, h2.2.2⟩
theorem below_same (w : World) : Below w.heap.size w w := Below.refl _ _
theorem grown_set (w : World) (g i : Nat) (u : Value) : w.grownBy (w.setCell ⟨g, i, none⟩ u) (some g) :=
  ⟨rfl, rfl, rfl, by simp [go_sem], fun k hk hne => by rw [Below.heap_setCell w _ _ k (by rintro rfl; exact hne rfl)]⟩
theorem grown_trans {a b c : World} {g : Nat} (h : a.grownBy b (some g)) (k : b.grownBy c (some g)) : a.grownBy c (some g) := h.andThen k (fun _ hj => Or.inr hj)
theorem wrapU {x : Int} (h0 : 0 ≤ x) (h1 : x < 9223372036854775808) : IntKind.i64.wrap x = x := by
  rw [IntKind.wrap_i64]; omega
theorem row_keep {w w' : World} {base e s n : Nat} {v : Value} {xs : List Value} (h : w.ownsRow base e s v n xs) (hk : ∀ x, v.ownBlock = some x → w'.heap[x]? = w.heap[x]?) : w'.ownsRow base e s v n xs := by
  refine ⟨h.1, ?_⟩
  rcases h.2 with h0 | ⟨g, cap, cur, rfl, hb, hg, r⟩
  · exact .inl h0
  · exact .inr ⟨g, cap, cur, rfl, hb, by rw [hk g rfl]; exact hg, r⟩
theorem row_base {w : World} {base b' e s n : Nat} {v : Value} {xs : List Value} (h : w.ownsRow base e s v n xs) (hb : ∀ x, v.ownBlock = some x → b' ≤ x) : w.ownsRow b' e s v n xs := by
  refine ⟨h.1, ?_⟩
  rcases h.2 with h0 | ⟨g, cap, cur, rfl, _, r⟩
  · exact .inl h0
  · exact .inr ⟨g, cap, cur, rfl, hb g rfl, r⟩
theorem row_form {w : World} {base e s n : Nat} {v : Value} {xs : List Value} (h : w.ownsRow base e s v n xs) : ∃ ao cap, v = .slice ao n cap ∧ n ≤ cap ∧ cap ≤ maxLen := by
  rcases h.2 with ⟨rfl, rfl⟩ | ⟨g, cap, cur, rfl, hb, hg, h1, h2, _⟩
  · exact ⟨none, 0, rfl, Nat.le_refl _, by simp [maxLen]⟩
  · exact ⟨_, cap, rfl, h1, h2⟩
theorem bv_formD {w : World} {v : Value} {l : List Nat} (h : Bv w v l) : ∃ ao cap, v = .slice ao l.length cap ∧ l.length ≤ cap ∧ cap ≤ maxLen := by
  obtain ⟨⟨ao, cap, rfl, h1, h2, _⟩, _⟩ := h
  rw [ib_len] at h1 ⊢
  exact ⟨ao, cap, rfl, h1, h2⟩
theorem Bv.keep {w w' : World} {v : Value} {l : List Nat} (h : Bv w v l) (hk : ∀ x, v.ownBlock = some x → w'.heap[x]? = w.heap[x]?) : Bv w' v l := by
  obtain ⟨⟨ao, cap, rfl, h1, h2, h3, h4⟩, h5⟩ := h
  refine ⟨⟨ao, cap, rfl, h1, h2, h3, fun i hi => ?_⟩, h5⟩
  obtain ⟨b, off, rfl, c⟩ := h4 i hi
  exact ⟨b, off, rfl, by rw [World.cell?_of_block (w := w) (a := ⟨b, off + i, none⟩) (hk b rfl)]; exact c⟩


/-- The world has turned in blocks of D alone. -/
structure Ch (D : Nat → Prop) (w w' : World) : Prop where
  os : w'.os = w.os
  tape : w'.tape = w.tape
  output : w'.output = w.output
  size : w.heap.size ≤ w'.heap.size
  block : ∀ k, k < w.heap.size → ¬ D k → w'.heap[k]? = w.heap[k]?
theorem Ch.refl (D : Nat → Prop) (w : World) : Ch D w w := ⟨rfl, rfl, rfl, Nat.le_refl _, fun _ _ _ => rfl⟩
theorem Ch.trans {D E : Nat → Prop} {a b c : World} (h : Ch D a b) (k : Ch E b c) (he : ∀ x, E x → D x ∨ a.heap.size ≤ x) : Ch D a c :=
  ⟨k.os.trans h.os, k.tape.trans h.tape, k.output.trans h.output, Nat.le_trans h.size k.size, fun x hx hd => by
    rw [k.block x (Nat.lt_of_lt_of_le hx h.size) (fun e => by rcases he x e with q | q; exact hd q; omega), h.block x hx hd]⟩
theorem Ch.of_below {D : Nat → Prop} {w w' : World} (h : Below w.heap.size w w') : Ch D w w' := ⟨h.os, h.tape, h.output, h.size, fun k hk _ => h.block k hk⟩
theorem Ch.to_below {D : Nat → Prop} {w w' : World} {B : Nat} (h : Ch D w w') (hB : B ≤ w.heap.size) (hd : ∀ x, D x → B ≤ x) : Below B w w' := ⟨h.os, h.tape, h.output, h.size, fun k hk => h.block k (by omega) (fun e => by have := hd k e; omega)⟩
theorem Ch.of_grown {D : Nat → Prop} {w w' : World} {r : Option Nat} (h : w.grownBy w' r) (hr : ∀ x, r = some x → D x) : Ch D w w' := ⟨h.os, h.tape, h.output, h.size, fun k hk hd => h.block k hk (fun e => hd (hr k e.symm))⟩


/-- The cells of bytes in a row. -/
abbrev cb (l : List Nat) : List Value := (ib l).map (Value.int .u8)
def bk (ls : List (List Nat)) (i : Nat) : List Nat := ls.getD i []
theorem bk_at {ls : List (List Nat)} {i : Nat} (h : i < ls.length) : bk ls i = ls[i] := by unfold bk; rw [List.getD_eq_getElem?_getD, List.getElem?_eq_getElem h]; rfl
theorem bk_mem {ls : List (List Nat)} {i : Nat} (h : i < ls.length) : bk ls i ∈ ls := by rw [bk_at h]; exact List.getElem_mem h
theorem bk_ext {a b : List (List Nat)} (h : a.length = b.length) (hn : ∀ i, i < a.length → bk a i = bk b i) : a = b := by
  refine List.ext_getElem h fun i h1 h2 => ?_
  have := hn i h1
  rwa [bk_at h1, bk_at h2] at this
theorem bk_set {ls : List (List Nat)} {i j : Nat} (hj : j < ls.length) (b : List Nat) : bk (ls.set i b) j = if i = j then b else bk ls j := by
  rw [bk_at (by simpa using hj), List.getElem_set, bk_at hj]


/-- The value v is a slice of slices of bytes that hold ls. -/
def PvD (w : World) (v : Value) (ls : List (List Nat)) : Prop :=
  ∃ ao cap, v = .slice ao ls.length cap ∧ ls.length ≤ cap ∧ cap ≤ maxLen ∧ (ao = none → cap = 0) ∧
    ∀ i, i < ls.length → ∃ b off u, ao = some ⟨b, off, none⟩ ∧ w.cell? ⟨b, off + i, none⟩ = some u ∧ Bv w u (bk ls i)
theorem PvD.below {w w' : World} {v : Value} {ls : List (List Nat)} (h : PvD w v ls) (hb : Below w.heap.size w w') : PvD w' v ls := by
  obtain ⟨ao, cap, e, h1, h2, h3, h4⟩ := h
  refine ⟨ao, cap, e, h1, h2, h3, fun i hi => ?_⟩
  obtain ⟨b, off, u, e1, e2, e3⟩ := h4 i hi
  exact ⟨b, off, u, e1, by rw [hb.cell (p := ⟨b, off + i, none⟩) (cell_lt e2)]; exact e2, e3.below hb⟩
theorem PvD.form {w : World} {v : Value} {ls : List (List Nat)} (h : PvD w v ls) : ∃ ao cap, v = .slice ao ls.length cap ∧ ls.length ≤ cap ∧ cap ≤ maxLen := by
  obtain ⟨ao, cap, e, h1, h2, h3, h4⟩ := h
  exact ⟨ao, cap, e, h1, h2⟩
theorem PvD.bytes {w : World} {v : Value} {ls : List (List Nat)} (h : PvD w v ls) : ∀ b ∈ ls, ∀ c ∈ b, c < 256 := by
  obtain ⟨ao, cap, e, h1, h2, h3, h4⟩ := h
  intro b hb
  obtain ⟨i, hi, rfl⟩ := List.getElem_of_mem hb
  obtain ⟨_, _, _, _, _, e3⟩ := h4 i hi
  rw [bk_at hi] at e3
  exact e3.2


/-- Bytes in a row of their own. -/
def Oc (w : World) (u : Value) (b : List Nat) : Prop := w.ownsRow 0 5 1 u b.length (cb b)
theorem Oc.bv {w : World} {u : Value} {b : List Nat} (h : Oc w u b) (hb : ∀ c ∈ b, c < 256) : Bv w u b := own_bv h hb
theorem Oc.nil (w : World) : Oc w (.slice none 0 0) [] := World.ownsRow_nil _ _ _ _
theorem Oc.keep {w w' : World} {u : Value} {b : List Nat} (h : Oc w u b) (hk : ∀ x, u.ownBlock = some x → w'.heap[x]? = w.heap[x]?) : Oc w' u b := row_keep h hk
theorem Oc.block {w : World} {u : Value} {b : List Nat} (h : Oc w u b) {x : Nat} (hx : u.ownBlock = some x) : ∃ cur, w.heap[x]? = some (.cells cur 5 (0, 0)) := by
  rcases h.2 with ⟨rfl, _⟩ | ⟨g, cap, cur, rfl, hb, hg, r⟩
  · cases hx
  · simp [Value.ownBlock] at hx; subst hx; exact ⟨cur, hg⟩
theorem Oc.below {w w' : World} {u : Value} {b : List Nat} (h : Oc w u b) (hb : Below w.heap.size w w') : Oc w' u b := own_below h hb


/-- Block g is a row of cap slices of bytes, the first of them ls, each in a block of E that is its own. -/
def Gr (E : Nat → Prop) (w : World) (g cap : Nat) (ls : List (List Nat)) : Prop :=
  (∃ cur, w.heap[g]? = some (.cells cur 121 (0, 0)) ∧ cur.size = cap ∧ ∀ i, i < ls.length → ∃ u, cur[i]? = some u ∧ Oc w u (bk ls i) ∧ ∀ x, u.ownBlock = some x → E x) ∧ ls.length ≤ cap ∧ cap ≤ maxLen
/-- The value u is a slice of bytes that holds b, apart from D. -/
def Bx (D : Nat → Prop) (w : World) (u : Value) (b : List Nat) : Prop := Bv w u b ∧ (b = [] ∨ ∀ x, u.ownBlock = some x → ¬ D x)
theorem Bv.any {w w' : World} {u : Value} (h : Bv w u []) : Bv w' u [] := by
  obtain ⟨⟨ao, cap, e, h1, h2, h3, h4⟩, h5⟩ := h
  exact ⟨⟨ao, cap, e, h1, h2, h3, fun i hi => by simp [ib] at hi⟩, h5⟩
theorem Bv.lt {w : World} {u : Value} {b : List Nat} (h : Bv w u b) (hb : b ≠ []) {x : Nat} (hx : u.ownBlock = some x) : x < w.heap.size := by
  obtain ⟨⟨ao, cap, rfl, h1, h2, h3, h4⟩, h5⟩ := h
  obtain ⟨b', off, rfl, c⟩ := h4 0 (by rw [ib_len]; exact List.length_pos_iff.2 hb)
  simp [Value.ownBlock] at hx
  subst hx
  exact cell_lt c
theorem Bv.bx {w : World} {u : Value} {b : List Nat} (h : Bv w u b) : Bx (fun x => w.heap.size ≤ x) w u b := by
  refine ⟨h, ?_⟩
  by_cases hb : b = []
  · exact .inl hb
  · exact .inr fun x hx => by have := h.lt hb hx; omega
theorem Bx.mono {D D' : Nat → Prop} {w : World} {u : Value} {b : List Nat} (h : Bx D w u b) (hd : ∀ x, D' x → D x) : Bx D' w u b := ⟨h.1, h.2.imp id (fun k x hx e => k x hx (hd x e))⟩
theorem Bx.ch {D D' : Nat → Prop} {w w' : World} {u : Value} {b : List Nat} (h : Bx D w u b) (hc : Ch D w w') (hd : ∀ x, D' x → D x ∨ w.heap.size ≤ x) : Bx D' w' u b := by
  by_cases hb : b = []
  · subst hb; exact ⟨h.1.any, .inl rfl⟩
  · have hn : ∀ x, u.ownBlock = some x → ¬ D x := h.2.resolve_left hb
    refine ⟨h.1.keep (fun x hx => hc.block x (h.1.lt hb hx) (hn x hx)), .inr fun x hx e => ?_⟩
    rcases hd x e with q | q
    · exact hn x hx q
    · have := h.1.lt hb hx; omega
theorem Bx.below {D : Nat → Prop} {w w' : World} {u : Value} {b : List Nat} (h : Bx D w u b) (hb : Below w.heap.size w w') : Bx D w' u b := ⟨h.1.below hb, h.2⟩
theorem own_bx {D : Nat → Prop} {w : World} {base n : Nat} {u : Value} {b : List Nat} (h : w.ownsRow base 5 1 u n (cb b)) (hb : ∀ c ∈ b, c < 256) (hd : ∀ x, D x → x < base) : Bx D w u b :=
  ⟨own_bv h hb, .inr fun x hx e => by have h1 := (h.lt x hx).1; have h2 := hd x e; omega⟩
/-- Block g is a row of slices of bytes ls, all apart from D. -/
def Gw (D : Nat → Prop) (w : World) (g : Nat) (ls : List (List Nat)) : Prop :=
  (∃ cur, w.heap[g]? = some (.cells cur 121 (0, 0)) ∧ cur.size = ls.length ∧ ∀ i, i < ls.length → ∃ u, cur[i]? = some u ∧ Bx (fun x => D x ∨ x = g) w u (bk ls i)) ∧ ¬ D g


section

variable {E : Nat → Prop} {w w' : World} {g cap : Nat} {ls : List (List Nat)}

theorem Gr.lt (h : Gr E w g cap ls) : g < w.heap.size := by
  obtain ⟨⟨cur, h1, _⟩, _⟩ := h
  exact (Array.getElem?_eq_some_iff.1 h1).1
theorem Gw.lt (h : Gw E w g ls) : g < w.heap.size := by
  obtain ⟨⟨cur, h1, _⟩, _⟩ := h
  exact (Array.getElem?_eq_some_iff.1 h1).1
theorem Gr.keep (h : Gr E w g cap ls) (hg : w'.heap[g]? = w.heap[g]?) (hk : ∀ x, E x → x < w.heap.size → x ≠ g → w'.heap[x]? = w.heap[x]?) : Gr E w' g cap ls := by
  obtain ⟨⟨cur, h1, h2, h3⟩, h4⟩ := h
  refine ⟨⟨cur, by rw [hg]; exact h1, h2, fun i hi => ?_⟩, h4⟩
  obtain ⟨u, a, b, c⟩ := h3 i hi
  refine ⟨u, a, b.keep (fun x hx => hk x (c x hx) (b.lt x hx).2 ?_), c⟩
  rintro rfl
  obtain ⟨cur2, e⟩ := b.block hx
  rw [h1] at e; simp at e
theorem Gr.below (h : Gr E w g cap ls) (hb : Below w.heap.size w w') : Gr E w' g cap ls := h.keep (hb.block g h.lt) (fun x _ hx _ => hb.block x hx)
theorem Gr.mono {E' : Nat → Prop} (h : Gr E w g cap ls) (he : ∀ x, E x → E' x) : Gr E' w g cap ls := by
  obtain ⟨⟨cur, h1, h2, h3⟩, h4⟩ := h
  refine ⟨⟨cur, h1, h2, fun i hi => ?_⟩, h4⟩
  obtain ⟨u, a, b, c⟩ := h3 i hi
  exact ⟨u, a, b, fun x hx => he x (c x hx)⟩
theorem Gr.at (h : Gr E w g cap ls) {i : Nat} (hi : i < ls.length) : ∃ u, w.cell? ⟨g, i, none⟩ = some u ∧ Oc w u (bk ls i) ∧ ∀ x, u.ownBlock = some x → E x ∧ x ≠ g := by
  obtain ⟨⟨cur, h1, h2, h3⟩, h4⟩ := h
  obtain ⟨u, a, b, c⟩ := h3 i hi
  refine ⟨u, by rw [cell_of_row w g i cur _ (0, 0) h1]; exact a, b, fun x hx => ⟨c x hx, ?_⟩⟩
  rintro rfl
  obtain ⟨cur2, e⟩ := b.block hx
  rw [h1] at e; simp at e
theorem Gr.soft (h : Gr E w g cap ls) (i : Nat) : w.frozen? ⟨g, i, none⟩ = false := by
  obtain ⟨⟨cur, h1, _⟩, _⟩ := h
  simp [World.frozen?, h1]
theorem Gw.soft (h : Gw E w g ls) (i : Nat) : w.frozen? ⟨g, i, none⟩ = false := by
  obtain ⟨⟨cur, h1, _⟩, _⟩ := h
  simp [World.frozen?, h1]
theorem set_row {cur : Array Value} {t : TypeId} (h : w.heap[g]? = some (.cells cur t (0, 0))) (i : Nat) (u : Value) : (w.setCell ⟨g, i, none⟩ u).heap[g]? = some (.cells (cur.setIfInBounds i u) t (0, 0)) := by
  rw [Sort.setCell_eq]
  simp [Sort.mapBlock, Array.getElem?_modify, h, Sort.onCells]
theorem set_other (i : Nat) (u : Value) {x : Nat} (hx : x ≠ g) : (w.setCell ⟨g, i, none⟩ u).heap[x]? = w.heap[x]? := Below.heap_setCell w _ _ x hx
theorem Gr.set (h : Gr E w g cap ls) {i : Nat} (hi : i < ls.length) {u : Value} {b : List Nat} (hu : Oc w u b) (hE : ∀ x, u.ownBlock = some x → E x) : Gr E (w.setCell ⟨g, i, none⟩ u) g cap (ls.set i b) := by
  obtain ⟨⟨cur, h1, h2, h3⟩, h4, h5⟩ := h
  have ng : ∀ {u : Value} {b : List Nat}, Oc w u b → ∀ x, u.ownBlock = some x → x ≠ g := by
    intro u b hu x hx e
    subst e
    obtain ⟨cur2, e⟩ := hu.block hx
    rw [h1] at e; simp at e
  refine ⟨⟨cur.setIfInBounds i u, set_row h1 i u, by simpa using h2, fun j hj => ?_⟩, by simpa using h4, h5⟩
  rw [List.length_set] at hj
  rw [bk_set hj]
  by_cases e : i = j
  · subst e
    rw [if_pos rfl]
    exact ⟨u, by rw [Array.getElem?_setIfInBounds, if_pos rfl, if_pos (by omega)], hu.keep (fun x hx => set_other i u (ng hu x hx)), hE⟩
  · rw [if_neg e]
    obtain ⟨v, a, b, c⟩ := h3 j hj
    exact ⟨v, by rw [Array.getElem?_setIfInBounds, if_neg e]; exact a, b.keep (fun x hx => set_other i u (ng b x hx)), c⟩
theorem Gr.pv (h : Gr E w g cap ls) (hb : ∀ b ∈ ls, ∀ c ∈ b, c < 256) : PvD w (.slice (some ⟨g, 0, none⟩) ls.length cap) ls := by
  refine ⟨_, cap, rfl, h.2.1, h.2.2, by simp, fun i hi => ?_⟩
  obtain ⟨u, a, b, c⟩ := h.at hi
  exact ⟨g, 0, u, rfl, by rw [Nat.zero_add]; exact a, b.bv (hb _ (bk_mem hi))⟩


theorem Gw.ch {D D' : Nat → Prop} (h : Gw D w g ls) (hc : Ch D w w') (hd : ∀ x, D' x → D x ∨ w.heap.size ≤ x) : Gw D' w' g ls := by
  have hlt := h.lt
  obtain ⟨⟨cur, h1, h2, h3⟩, h4⟩ := h
  refine ⟨⟨cur, by rw [hc.block g hlt h4]; exact h1, h2, fun i hi => ?_⟩, fun e => by rcases hd g e with q | q; exact h4 q; omega⟩
  obtain ⟨u, a, b⟩ := h3 i hi
  refine ⟨u, a, b.ch (⟨hc.os, hc.tape, hc.output, hc.size, fun k hk hn => hc.block k hk (fun e => hn (.inl e))⟩) (fun x hx => ?_)⟩
  rcases hx with hx | hx
  · rcases hd x hx with q | q
    · exact .inl (.inl q)
    · exact .inr q
  · exact .inl (.inr hx)
theorem Gw.below {D : Nat → Prop} (h : Gw D w g ls) (hb : Below w.heap.size w w') : Gw D w' g ls := h.ch (Ch.of_below hb) (fun _ hx => .inl hx)
theorem Gw.at (h : Gw E w g ls) {i : Nat} (hi : i < ls.length) : ∃ u, w.cell? ⟨g, i, none⟩ = some u ∧ Bv w u (bk ls i) := by
  obtain ⟨⟨cur, h1, h2, h3⟩, h4⟩ := h
  obtain ⟨u, a, b⟩ := h3 i hi
  exact ⟨u, by rw [cell_of_row w g i cur _ (0, 0) h1]; exact a, b.1⟩
theorem Gw.set {D : Nat → Prop} (h : Gw D w g ls) {i : Nat} (hi : i < ls.length) {u : Value} {b : List Nat} (hu : Bx (fun x => D x ∨ x = g) w u b) : Gw D (w.setCell ⟨g, i, none⟩ u) g (ls.set i b) := by
  obtain ⟨⟨cur, h1, h2, h3⟩, h4⟩ := h
  have hc : Ch (fun x => D x ∨ x = g) w (w.setCell ⟨g, i, none⟩ u) := Ch.of_grown (grown_set w g i u) (fun x hx => by cases hx; exact .inr rfl)
  refine ⟨⟨cur.setIfInBounds i u, set_row h1 i u, by simpa using h2, fun j hj => ?_⟩, h4⟩
  rw [List.length_set] at hj
  rw [bk_set hj]
  by_cases e : i = j
  · subst e
    rw [if_pos rfl]
    exact ⟨u, by rw [Array.getElem?_setIfInBounds, if_pos rfl, if_pos (by omega)], hu.ch hc (fun _ hx => .inl hx)⟩
  · rw [if_neg e]
    obtain ⟨v, a, b⟩ := h3 j hj
    exact ⟨v, by rw [Array.getElem?_setIfInBounds, if_neg e]; exact a, b.ch hc (fun _ hx => .inl hx)⟩
theorem Gw.pv {cap : Nat} (h : Gw E w g ls) (hl : ls.length ≤ cap) (hm : cap ≤ maxLen) : PvD w (.slice (some ⟨g, 0, none⟩) ls.length cap) ls := by
  refine ⟨_, cap, rfl, hl, hm, by simp, fun i hi => ?_⟩
  obtain ⟨u, a, b⟩ := h.at hi
  exact ⟨g, 0, u, rfl, by rw [Nat.zero_add]; exact a, b⟩


end



set_option maxRecDepth 100000 in
/-- bytes.Clone. -/
theorem clone_walk {v : Value} {l : List Nat} {w : World} (ho : Bv w v l) (hl : l.length ≤ 140737488355328) :
    Calls Try.prog 84 #[v] w fun e w' => ∃ v', e = .returned v' ∧ w'.ownsRow w.heap.size 5 1 v' l.length (cb l) ∧ Below w.heap.size w w' := by
  have HO : Hid (Bv w v l) := ho
  obtain ⟨⟨ao, cap, rfl, h1, h2, h3, _⟩, _⟩ := ho
  rw [ib_len] at h1
  rw [ib_len] at HO ⊢
  have HL : Hid (l.length ≤ 140737488355328) := hl
  have H3 : Hid (ao = none → cap = 0) := h3
  have H1 : Hid (l.length ≤ cap) := h1
  have q : ∀ (w : World) (a : Option Addr) (n c : Nat), (binOp .eql 121 (.slice a n c) (.slice none 0 0)).run Try.prog w = .ok (.bool a.isNone) w := fun w a n c => Lib.run_eql_slice_nil w 121 5 a n c 0 0 Try.underlying121
  clear hl h1 h2 h3
  cases ao with
  | none =>
    have hc := H3.out rfl
    subst hc
    have hl0 : l.length = 0 := by have := H1.out; omega
    have hl : l = [] := List.eq_nil_of_length_eq_zero hl0
    subst hl
    rw [List.length_nil]
    go_enter Try.func84, Try.ntmps84
    go_wp2_with fail
    go_ret
    exact ⟨_, rfl, World.ownsRow_nil _ _ _ _, below_same _⟩
  | some p =>
    go_enter Try.func84, Try.ntmps84
    go_wp2_with (at_builtin; refine wpList_append_sv (by rfl) _ _ 121 (by rfl) w.heap.size 5 .u8 1 Try.underlying121 info_u8 _ 0 [] (by rfl) (World.ownsRow_made w #[] 0 (Nat.le_refl _) (by simp [maxLen]) (by simp)) _ (ib l) (by rfl) (HO.out.below (below_alloc _ _)).1 (by have := HL.out; rw [ib_len]; simp [maxLen]; omega) (by have := HL.out; rw [ib_len]; omega) (by simp) ?_; intro v' w2 hown hgrow; go_frame)
    go_ret
    refine ⟨_, rfl, by rw [ib_len] at hown; simpa using hown, ?_⟩
    exact (below_alloc w (Obj.cells #[] 5)).grown hgrow (by simp) (by simp [Value.ownBlock])


end Go.Proofs.Ytpndafieknddcaa

namespace Go.Proofs.Ytpndafieknddcaa

open Go.RowKit



/-- The first k of ls, the rest empty. -/
def part (ls : List (List Nat)) (k : Nat) : List (List Nat) := ls.take k ++ List.replicate (ls.length - k) []
theorem part_len {ls : List (List Nat)} {k : Nat} (h : k ≤ ls.length) : (part ls k).length = ls.length := by unfold part; simp; omega
theorem part_zero (ls : List (List Nat)) : part ls 0 = List.replicate ls.length [] := by simp [part]
theorem part_all (ls : List (List Nat)) : part ls ls.length = ls := by simp [part]
theorem part_set {ls : List (List Nat)} {k : Nat} (h : k < ls.length) : (part ls k).set k (bk ls k) = part ls (k + 1) := by
  have e : List.replicate (ls.length - k) ([] : List Nat) = [] :: List.replicate (ls.length - (k + 1)) [] := by
    rw [← List.replicate_succ]; congr 1; omega
  unfold part
  rw [e, bk_at h, List.take_succ_eq_append_getElem h]
  rw [List.set_append_right _ _ (by simp; omega)]
  have hz : k - (ls.take k).length = 0 := by simp; omega
  rw [hz, List.set_cons_zero, List.append_assoc, List.singleton_append]


theorem make_rows {q : Nat} (hq : q ≤ 64) : ∀ wx : World, (Instr.makeSlice 115 (.int .i64 q) (.int .i64 q)).run Try.prog wx = .ok (.slice (some ⟨wx.heap.size, 0, none⟩) q q) (wx.alloc (.cells (madeCells #[.slice none 0 0] (q * 1)) 121)) := fun wx => by
  obtain ⟨i0, hi0, hz0, hz1, hz2⟩ := info_partsV info_row
  have := run_make (P := Try.prog) wx 115 121 i0 (.slice none 0 0) Try.underlying115 hi0 hz0 .i64 .i64 q q (by omega) (Int.le_refl _) (by rw [hz2]; omega) (by omega)
  rw [hz1] at this
  simp only [Int.toNat_natCast] at this
  exact this
theorem made_at {q i : Nat} (hi : i < q) : (madeCells #[.slice none 0 0] (q * 1))[i]? = some (.slice none 0 0) := by simp [madeCells, hi, Nat.mod_one]
theorem bk_rep (q i : Nat) : bk (List.replicate q []) i = [] := by unfold bk; rw [List.getD_eq_getElem?_getD, List.getElem?_replicate]; split <;> rfl
theorem made_gr (E : Nat → Prop) (w : World) {q : Nat} (hq : q ≤ 64) {Z : Array Value} (hZ : Z = madeCells #[.slice none 0 0] (q * 1)) : Gr E (w.alloc (.cells Z 121)) w.heap.size q (List.replicate q []) := by
  subst hZ
  refine ⟨⟨_, heap_alloc_new w _, by rw [size_madeCells]; omega, fun i hi => ?_⟩, by simp, by simp [maxLen]; omega⟩
  rw [List.length_replicate] at hi
  exact ⟨_, made_at hi, by rw [bk_rep]; exact Oc.nil _, fun x hx => by cases hx⟩
theorem made_gw (D : Nat → Prop) (w : World) {q : Nat} {Z : Array Value} (hZ : Z = madeCells #[.slice none 0 0] (q * 1)) (hD : ¬ D w.heap.size) : Gw D (w.alloc (.cells Z 121)) w.heap.size (List.replicate q []) := by
  subst hZ
  refine ⟨⟨_, heap_alloc_new w _, by rw [size_madeCells]; simp, fun i hi => ?_⟩, hD⟩
  rw [List.length_replicate] at hi
  exact ⟨_, made_at hi, by rw [bk_rep]; exact ⟨Bv.nil _, .inl rfl⟩⟩


/-- Where copied stands. -/
def CpRel (ls : List (List Nat)) (w : World) (iv : Value) (wr : World) : Prop :=
  ∃ k : Nat, k ≤ ls.length ∧ iv = .int .i64 k ∧ Gr (fun x => w.heap.size ≤ x) wr w.heap.size ls.length (part ls k) ∧ Below w.heap.size w wr
theorem cprel_start {ls : List (List Nat)} (w : World) (h : ls.length ≤ 64) {Z : Array Value} (hZ : Z = madeCells #[.slice none 0 0] (ls.length * 1)) : CpRel ls w (.int .i64 0) (w.alloc (.cells Z 121)) :=
  ⟨0, Nat.zero_le _, rfl, by rw [part_zero]; exact made_gr _ w h hZ, below_alloc w _⟩
theorem cprel_step {ls : List (List Nat)} {w wr wC : World} {k : Nat} {b : List Nat} {u : Value} (hb : bk ls k = b) (hk : k < ls.length) (hg : Gr (fun x => w.heap.size ≤ x) wr w.heap.size ls.length (part ls k)) (hB : Below w.heap.size w wr)
    (ho : wC.ownsRow wr.heap.size 5 1 u b.length (cb b)) (hC : Below wr.heap.size wr wC) : CpRel ls w (.int .i64 ((k : Int) + 1)) (wC.setCell ⟨w.heap.size, k, none⟩ u) := by
  refine ⟨k + 1, hk, rfl, ?_, (below_trans hB hC).setCell (p := ⟨w.heap.size, k, none⟩) (Nat.le_refl _) _⟩
  rw [← part_set hk, hb]
  exact (hg.below hC).set (by rw [part_len (Nat.le_of_lt hk)]; exact hk) (own_base ho (Nat.zero_le _)) (fun x hx => Nat.le_trans hB.size (ho.lt x hx).1)


end Go.Proofs.Ytpndafieknddcaa

namespace Go.Proofs.Ytpndafieknddcaa

open Go.RowKit



/-- The value v is a row of the call's own (behind base) of slices of bytes ls, each a row of its own behind base. -/
def Rr (base : Nat) (w : World) (v : Value) (ls : List (List Nat)) : Prop :=
  ∃ us : List Value, w.ownsRow base 121 1 v ls.length us ∧ ∀ i u, us[i]? = some u → Oc w u (bk ls i) ∧ ∀ x, u.ownBlock = some x → base ≤ x


section

variable {base : Nat} {w w' : World} {v v' u : Value} {ls : List (List Nat)} {b : List Nat}

theorem Rr.nil (base : Nat) (w : World) : Rr base w (.slice none 0 0) [] := ⟨[], World.ownsRow_nil _ _ _ _, fun i u h => by simp at h⟩
theorem Rr.block (h : Rr base w v ls) {g : Nat} (hg : v.ownBlock = some g) : ∃ cur, w.heap[g]? = some (.cells cur 121 (0, 0)) := by
  obtain ⟨us, h1, _⟩ := h
  rcases h1.2 with ⟨rfl, _⟩ | ⟨g', cap, cur, rfl, hb, hh, r⟩
  · cases hg
  · simp [Value.ownBlock] at hg; subst hg; exact ⟨cur, hh⟩
theorem Rr.apart (h : Rr base w v ls) (hu : Oc w u b) {x : Nat} (hx : u.ownBlock = some x) : v.ownBlock ≠ some x := by
  intro hv
  obtain ⟨c1, e1⟩ := h.block hv
  obtain ⟨c2, e2⟩ := hu.block hx
  rw [e1] at e2; simp at e2
theorem Rr.below (h : Rr base w v ls) (hb : Below w.heap.size w w') : Rr base w' v ls := by
  obtain ⟨us, h1, h2⟩ := h
  exact ⟨us, own_below h1 hb, fun i u hu => ⟨(h2 i u hu).1.below hb, (h2 i u hu).2⟩⟩
theorem Rr.lt (h : Rr base w v ls) {g : Nat} (hg : v.ownBlock = some g) : base ≤ g ∧ g < w.heap.size := by
  obtain ⟨us, h1, _⟩ := h
  exact h1.lt g hg
theorem Rr.form (h : Rr base w v ls) : ∃ ao cap, v = .slice ao ls.length cap := by
  obtain ⟨us, h1, _⟩ := h
  obtain ⟨ao, cap, e, _⟩ := row_form h1
  exact ⟨ao, cap, e⟩
theorem bk_snoc {i : Nat} (b : List Nat) (hi : i < ls.length) : bk (ls ++ [b]) i = bk ls i := by
  rw [bk_at (by simp; omega), bk_at hi, List.getElem_append_left hi]
theorem bk_last (ls : List (List Nat)) (b : List Nat) : bk (ls ++ [b]) ls.length = b := by rw [bk_at (by simp)]; simp
/-- One more block. -/
theorem Rr.snoc {us : List Value} (hs : ∀ i u, us[i]? = some u → Oc w u (bk ls i) ∧ ∀ x, u.ownBlock = some x → base ≤ x) (hown : w.ownsRow base 121 1 v ls.length us) (hown' : w'.ownsRow base 121 1 v' (ls.length + 1) (us ++ [u])) (hg : w.grownBy w' v.ownBlock)
    (hu : Oc w u b) (hub : ∀ x, u.ownBlock = some x → base ≤ x) : Rr base w' v' (ls ++ [b]) := by
  have hl : us.length = ls.length := by have := hown.1; simpa using this
  have ap := fun {u : Value} {b : List Nat} (hu : Oc w u b) (x : Nat) (hx : u.ownBlock = some x) => Rr.apart (base := base) (ls := ls) ⟨us, hown, hs⟩ hu hx
  have kp : ∀ {u : Value} {b : List Nat}, Oc w u b → Oc w' u b := fun hu => hu.keep (fun x hx => hg.block x (hu.lt x hx).2 (fun e => ap hu x hx e.symm))
  refine ⟨us ++ [u], by rw [List.length_append]; exact hown', fun i y hy => ?_⟩
  by_cases hi : i < us.length
  · rw [List.getElem?_append_left hi] at hy
    obtain ⟨a, c⟩ := hs i y hy
    rw [bk_snoc b (by omega)]
    exact ⟨kp a, c⟩
  · have hi2 : i = us.length := by
      have : i < (us ++ [u]).length := by
        rcases Nat.lt_or_ge i (us ++ [u]).length with h | h
        · exact h
        · rw [List.getElem?_eq_none h] at hy; cases hy
      simp at this; omega
    subst hi2
    rw [List.getElem?_append_right (Nat.le_refl _)] at hy
    simp at hy
    subst hy
    rw [hl, bk_last]
    exact ⟨kp hu, hub⟩
theorem Rr.gr (h : Rr base w v ls) (h1 : 1 ≤ ls.length) : ∃ g cap, v = .slice (some ⟨g, 0, none⟩) ls.length cap ∧ base ≤ g ∧ Gr (fun x => base ≤ x) w g cap ls := by
  obtain ⟨us, ho, hs⟩ := h
  have hl : us.length = ls.length := by have := ho.1; simpa using this
  rcases ho.2 with ⟨rfl, h0⟩ | ⟨g, cap, cur, rfl, hb, hg, hnc, hcm, hcs, htake⟩
  · omega
  · refine ⟨g, cap, rfl, hb, ⟨cur, hg, by omega, fun i hi => ?_⟩, hnc, hcm⟩
    obtain ⟨u, hu⟩ : ∃ u, us[i]? = some u := ⟨_, List.getElem?_eq_getElem (by omega)⟩
    obtain ⟨a, c⟩ := hs i u hu
    refine ⟨u, ?_, a, c⟩
    have e := congrArg (fun l => l[i]?) htake
    simp only [List.getElem?_take, Nat.mul_one, if_pos hi] at e
    rw [← Array.getElem?_toList, e]; exact hu
theorem Rr.pv (h : Rr base w v ls) (hb : ∀ b ∈ ls, ∀ c ∈ b, c < 256) : PvD w v ls := by
  by_cases h1 : 1 ≤ ls.length
  · obtain ⟨g, cap, rfl, _, hg⟩ := h.gr h1
    exact hg.pv hb
  · have h0 : ls = [] := List.eq_nil_of_length_eq_zero (by omega)
    subst h0
    obtain ⟨us, ho, hs⟩ := h
    rcases ho.2 with ⟨rfl, _⟩ | ⟨g, cap, cur, rfl, _, hg, hnc, hcm, hcs, _⟩
    · exact ⟨none, 0, rfl, Nat.le_refl _, by simp [maxLen], fun _ => rfl, fun i hi => by simp at hi⟩
    · exact ⟨_, cap, rfl, hnc, hcm, by simp, fun i hi => by simp at hi⟩
end



/-- APPEND of one block's slice onto a row of the call's own. -/
theorem wpList_append_row {P : Program} {w : World} {ops : Array Oper} {rest : List Oper} {o : Oper} {a : Act} {Q : Exit → Act → World → Prop} (hgd : o.guard = none) (s x : Operand) (t : TypeId)
    (ho : o.op = .call { callee := .builtin .append, args := #[s, x], argTypes := #[t, t] })
    (base : Nat) (ht : P.underlying t = some (.slice 121)) (hinf : (P.info? 121).map (fun i => (i.zero, i.size, i.bytes)) = some (some (.slice none 0 0), 1, 24))
    (v : Value) (ls : List (List Nat)) (hs : a.eval s = v) (hown : Rr base w v ls)
    (g : Nat) (u : Value) (b : List Nat) (hx : a.eval x = .slice (some ⟨g, 0, none⟩) 1 1) (hc : w.cell? ⟨g, 0, none⟩ = some u) (hu : Oc w u b) (hub : ∀ x, u.ownBlock = some x → base ≤ x) (h63 : (ls.length + 1) * 24 ≤ 140737488355328) (hbase : base ≤ w.heap.size)
    (h : ∀ v' w', Rr base w' v' (ls ++ [b]) → w.grownBy w' v.ownBlock → wpList P ops Q rest (a.put o.dst v') w') : wpList P ops Q (o :: rest) a w := by
  obtain ⟨i0, hi, hz0, hz1, hz2⟩ := info_partsV hinf
  obtain ⟨us, hro, hse⟩ := hown
  obtain ⟨ao, cap, hform, _⟩ := row_form hu
  refine wpList_append_own w hgd s x t ho base 121 i0 (.slice none 0 0) 1 24 ht hi hz0 hz1 hz2 rfl (by decide) v ls.length us hs hro ⟨g, 0, none⟩ 1 1 [u] hx (by simp) ?_ ?_ (by simp only [maxLen]; omega) h63 hbase (fun v' w' h1 h2 _ => h v' w' (Rr.snoc hse hro h1 h2 hu hub) h2)
  · intro j y hj
    cases j with
    | zero => simp at hj; subst hj; simpa [WideShapes.add_plain] using hc
    | succ j => simp at hj
  · intro y hy
    simp at hy
    subst hy
    rw [hform]; rfl


/-- Where the reference's copies stands. -/
def RcRel (ls : List (List Nat)) (w : World) (v iv : Value) (wr : World) : Prop :=
  ∃ k : Nat, k ≤ ls.length ∧ iv = .int .i64 k ∧ Rr w.heap.size wr v (ls.take k) ∧ Below w.heap.size w wr
theorem rcrel_start (ls : List (List Nat)) (w : World) : RcRel ls w (.slice (some ⟨w.heap.size, 0, none⟩) 0 0) (.int .i64 0) (w.alloc (.cells #[] 121)) :=
  ⟨0, Nat.zero_le _, rfl, ⟨[], by rw [List.take_zero]; exact World.ownsRow_made w #[] 0 (Nat.le_refl _) (by simp [maxLen]) rfl, fun i u h => by simp at h⟩, below_alloc w _⟩
theorem take_snoc {ls : List (List Nat)} {k : Nat} (h : k < ls.length) : ls.take k ++ [bk ls k] = ls.take (k + 1) := by rw [bk_at h, List.take_succ_eq_append_getElem h]
theorem Rr.grownB {base B : Nat} {w w' : World} {v : Value} {ls : List (List Nat)} (h : Rr base w v ls) (hg : w.grownBy w' v.ownBlock) (hB : B ≤ w.heap.size) (hb : B ≤ base) : Below B w w' :=
  (Below.refl B w).grown hg hB (fun _ hk => Nat.le_trans hb (h.lt hk).1)




end Go.Proofs.Ytpndafieknddcaa

namespace Go.Proofs.Ytpndafieknddcaa

open Go.RowKit



theorem cut_bv {w : World} {ao : Option Addr} {cap n : Nat} {l : List Nat} (h : Bv w (.slice ao l.length cap) l) (hn : n ≤ l.length) : Bv w (.slice ao n cap) (l.take n) := by
  obtain ⟨⟨ao', cap', e, h1, h2, h3, h4⟩, h5⟩ := h
  simp only [Value.slice.injEq, ib_len] at e
  obtain ⟨rfl, _, rfl⟩ := e
  rw [ib_len] at h1
  refine ⟨⟨ao, cap, by rw [ib_len]; simp; omega, by rw [ib_len]; simp; omega, h2, h3, fun i hi => ?_⟩, fun c hc => h5 c (List.mem_of_mem_take hc)⟩
  rw [ib_len] at hi
  simp at hi
  obtain ⟨b, off, e, hc⟩ := h4 i (by rw [ib_len]; omega)
  refine ⟨b, off, e, ?_⟩
  rw [hc]
  have i1 : i < n := by omega
  unfold ib
  rw [List.map_take]
  simp [List.getD, i1]




theorem str_of {w : World} {v : Value} {l : List Nat} (h : Bv w v l) : (convert 121 9 v).run Try.prog w = .ok (.string (str l)) w :=
  h.str 121 5 9 Try.underlying121 Try.underlying5 Try.underlying9
theorem str_ne {a b : List Nat} (ha : ∀ c ∈ a, c < 256) (hb : ∀ c ∈ b, c < 256) (h : a ≠ b) : str a ≠ str b := fun e => h (str_inj ha hb e)


theorem str_beq {a b : List Nat} (ha : ∀ c ∈ a, c < 256) (hb : ∀ c ∈ b, c < 256) : ((str a).toList == (str b).toList) = decide (a = b) := by
  rw [ByteArray.toList_eq, ByteArray.toList_eq]
  by_cases h : a = b
  · subst h; simp
  · rw [decide_eq_false h, beq_eq_false_iff_ne]
    exact fun e => str_ne ha hb h (ByteArray.ext (Array.toList_inj.mp e))






def ImRel (la lb : List (List Nat)) (w : World) (iv : Value) (wr : World) : Prop :=
  ∃ k : Nat, k ≤ la.length ∧ iv = .int .i64 k ∧ (∀ i, i < k → bk la i = bk lb i) ∧ Below w.heap.size w wr




end Go.Proofs.Ytpndafieknddcaa

namespace Go.Proofs.Ytpndafieknddcaa

open Go.RowKit



structure Dk where
  bl : List (List Nat)
  down : Bool
  left : Int
  rd : Nat
  wr : Nat


structure Dk.ok (S : Dk) : Prop where
  n1 : 1 ≤ S.bl.length
  n64 : S.bl.length ≤ 64
  len : ∀ b ∈ S.bl, b.length ≤ 1024
  byt : ∀ b ∈ S.bl, ∀ c ∈ b, c < 256
  l0 : -1 ≤ S.left
  l1 : S.left < 9223372036854775808


/-- The cells of a disk's own block. -/
def hd (gp cap : Nat) (S : Dk) : Array Value := #[.slice (some ⟨gp, 0, none⟩) S.bl.length cap, .bool S.down, .int .i64 S.left, .int .i64 S.rd, .int .i64 S.wr]


/-- The disk S lies in the blocks sb (itself), gp (its row of blocks) and the blocks' own; all of them are of D. -/
structure DM (T : TypeId) (D : Nat → Prop) (w : World) (sb gp cap : Nat) (S : Dk) : Prop where
  head : w.heap[sb]? = some (.cells (hd gp cap S) T (0, 0))
  row : Gr (fun x => D x ∧ x ≠ sb) w gp cap S.bl
  a1 : gp ≠ sb
  d1 : D sb
  d2 : D gp
  dl : ∀ x, D x → x < w.heap.size


/-- The value v is a disk that is S; its memory is of D. -/
def Dsk (T : TypeId) (D : Nat → Prop) (w : World) (v : Value) (S : Dk) : Prop := ∃ sb gp cap, v = .pointer (some ⟨sb, 0, none⟩) ∧ DM T D w sb gp cap S ∧ S.ok


section

variable {T : TypeId} {D : Nat → Prop} {w w' : World} {v : Value} {sb gp cap : Nat} {S : Dk}

theorem DM.keep (h : DM T D w sb gp cap S) (hk : ∀ x, D x → w'.heap[x]? = w.heap[x]?) (hs : w.heap.size ≤ w'.heap.size) : DM T D w' sb gp cap S :=
  ⟨by rw [hk _ h.d1]; exact h.head, h.row.keep (hk _ h.d2) (fun x hx _ _ => hk x hx.1), h.a1, h.d1, h.d2, fun x hx => Nat.lt_of_lt_of_le (h.dl x hx) hs⟩
theorem Dsk.keep (h : Dsk T D w v S) (hk : ∀ x, D x → w'.heap[x]? = w.heap[x]?) (hs : w.heap.size ≤ w'.heap.size) : Dsk T D w' v S := by
  obtain ⟨sb, gp, cap, e, h1, h2⟩ := h
  exact ⟨sb, gp, cap, e, h1.keep hk hs, h2⟩
theorem Dsk.lt (h : Dsk T D w v S) {x : Nat} (hx : D x) : x < w.heap.size := by
  obtain ⟨sb, gp, cap, e, h1, h2⟩ := h
  exact h1.dl x hx
theorem Dsk.good (h : Dsk T D w v S) : S.ok := by
  obtain ⟨sb, gp, cap, e, h1, h2⟩ := h
  exact h2
theorem DM.below (h : DM T D w sb gp cap S) (hb : Below w.heap.size w w') : DM T D w' sb gp cap S := h.keep (fun x hx => hb.block x (h.dl x hx)) hb.size
theorem Dsk.below (h : Dsk T D w v S) (hb : Below w.heap.size w w') : Dsk T D w' v S := h.keep (fun x hx => hb.block x (h.lt hx)) hb.size
/-- Another's turn leaves it. -/
theorem Dsk.ch {E : Nat → Prop} (h : Dsk T D w v S) (hc : Ch E w w') (hE : ∀ x, D x → ¬ E x) : Dsk T D w' v S := h.keep (fun x hx => hc.block x (h.lt hx) (hE x hx)) hc.size


theorem DM.cell (h : DM T D w sb gp cap S) (i : Nat) : w.cell? ⟨sb, i, none⟩ = (hd gp cap S)[i]? := cell_of_row w sb i _ _ (0, 0) h.head
theorem DM.c0 (h : DM T D w sb gp cap S) : w.cell? ⟨sb, 0, none⟩ = some (.slice (some ⟨gp, 0, none⟩) S.bl.length cap) := by rw [h.cell]; rfl
theorem DM.c1 (h : DM T D w sb gp cap S) : w.cell? ⟨sb, 1, none⟩ = some (.bool S.down) := by rw [h.cell]; rfl
theorem DM.c2 (h : DM T D w sb gp cap S) : w.cell? ⟨sb, 2, none⟩ = some (.int .i64 S.left) := by rw [h.cell]; rfl
theorem DM.c3 (h : DM T D w sb gp cap S) : w.cell? ⟨sb, 3, none⟩ = some (.int .i64 S.rd) := by rw [h.cell]; rfl
theorem DM.c4 (h : DM T D w sb gp cap S) : w.cell? ⟨sb, 4, none⟩ = some (.int .i64 S.wr) := by rw [h.cell]; rfl
theorem DM.soft (h : DM T D w sb gp cap S) (i : Nat) : w.frozen? ⟨sb, i, none⟩ = false := by simp [World.frozen?, h.head]
/-- A cell of its own block is written. -/
theorem DM.put (h : DM T D w sb gp cap S) (i : Nat) (u : Value) {S' : Dk} (hb : S'.bl = S.bl) (hc : (hd gp cap S).setIfInBounds i u = hd gp cap S') : DM T D (w.setCell ⟨sb, i, none⟩ u) sb gp cap S' := by
  refine ⟨by rw [set_row h.head, hc], ?_, h.a1, h.d1, h.d2, fun x hx => by have := h.dl x hx; simpa [go_sem] using this⟩
  rw [hb]
  exact h.row.keep (set_other i u h.a1) (fun x hx _ _ => set_other i u hx.2)
theorem ch_put (i : Nat) (u : Value) (hd : D sb) : Ch D w (w.setCell ⟨sb, i, none⟩ u) := Ch.of_grown (grown_set w sb i u) (fun x hx => by cases hx; exact hd)
theorem Ch.self {w1 w2 w3 : World} (h : Ch D w1 w2) (k : Ch D w2 w3) : Ch D w1 w3 := h.trans k (fun _ hx => .inl hx)
end



/-- What refuses answers. -/
def refI (S : Dk) (i : Int) : Int := if S.down = true then 80 else if i < 0 ∨ (S.bl.length : Int) ≤ i then 81 else 0
def readL (S : Dk) (i : Int) : List Nat := if refI S i = 0 then bk S.bl i.toNat else []
def readS (S : Dk) (i : Int) : Dk := if refI S i = 0 then { S with rd := S.rd + 1 } else S
def offS (S : Dk) : Dk := { S with down := true, left := -1 }
def onS (S : Dk) : Dk := { S with down := false, left := -1 }
def cutS (S : Dk) (n : Int) : Dk := { S with left := if n < 0 then -1 else n }
def decL (x : Int) : Int := if x = -1 then -1 else x - 1
def putS (S : Dk) (i : Nat) (b : List Nat) : Dk := { S with bl := S.bl.set i b, left := decL S.left, wr := S.wr + 1 }
def writeI (S : Dk) (i : Int) (b : List Nat) : Int := if refI S i ≠ 0 then refI S i else if 1024 < b.length then 6 else if S.left = 0 then 80 else 0
def writeS (S : Dk) (i : Int) (b : List Nat) : Dk := if refI S i ≠ 0 then S else if 1024 < b.length then S else if S.left = 0 then offS S else putS S i.toNat b


theorem ref_ok {S : Dk} {i : Int} (h : refI S i = 0) : S.down = false ∧ ∃ k : Nat, i = k ∧ k < S.bl.length := by
  unfold refI at h
  split at h
  · omega
  · rename_i hd
    split at h
    · omega
    · rename_i hi
      exact ⟨by simpa using hd, i.toNat, by omega, by omega⟩
theorem ok_off {S : Dk} (h : S.ok) : (offS S).ok := ⟨h.n1, h.n64, h.len, h.byt, Int.le_refl _, by show (-1 : Int) < _; omega⟩
theorem ok_on {S : Dk} (h : S.ok) : (onS S).ok := ⟨h.n1, h.n64, h.len, h.byt, Int.le_refl _, by show (-1 : Int) < _; omega⟩
theorem ok_cut {S : Dk} (h : S.ok) {n : Int} (hn : n < 9223372036854775808) : (cutS S n).ok := by
  refine ⟨h.n1, h.n64, h.len, h.byt, ?_, ?_⟩
  · show -1 ≤ (if n < 0 then (-1 : Int) else n); split <;> omega
  · show (if n < 0 then (-1 : Int) else n) < _; split <;> omega
theorem ok_rd {S : Dk} (h : S.ok) (n : Nat) : ({ S with rd := n } : Dk).ok := ⟨h.n1, h.n64, h.len, h.byt, h.l0, h.l1⟩
theorem ok_read {S : Dk} (h : S.ok) (i : Int) : (readS S i).ok := by unfold readS; split; exact ok_rd h _; exact h
theorem ok_put {S : Dk} (h : S.ok) (i : Nat) {b : List Nat} (hb : b.length ≤ 1024) (hc : ∀ c ∈ b, c < 256) : (putS S i b).ok := by
  refine ⟨by simpa [putS] using h.n1, by simpa [putS] using h.n64, ?_, ?_, ?_, ?_⟩
  · intro x hx
    rcases List.mem_or_eq_of_mem_set hx with h1 | h1
    · exact h.len x h1
    · rw [h1]; exact hb
  · intro x hx
    rcases List.mem_or_eq_of_mem_set hx with h1 | h1
    · exact h.byt x h1
    · rw [h1]; exact hc
  · have := h.l0
    show -1 ≤ decL S.left
    unfold decL; split <;> omega
  · have := h.l1
    show decL S.left < _
    unfold decL; split <;> omega


section

variable {T : TypeId} {D : Nat → Prop} {w w' : World} {v : Value} {sb gp cap : Nat} {S : Dk}

theorem refuses_nil (i : Int) : Calls Try.prog 82 #[.pointer none, .int .i64 i] w fun e w' => e = .returned (.int .i64 2) ∧ w' = w := by
  go_enter Try.func82, Try.ntmps82
  go_wp2_with fail
  go_ret
  exact ⟨rfl, rfl⟩
theorem refuses_walk (h : DM T D w sb gp cap S) (hok : S.ok) (i : Int) : Calls Try.prog 82 #[.pointer (some ⟨sb, 0, none⟩), .int .i64 i] w fun e w' => e = .returned (.int .i64 (refI S i)) ∧ w' = w := by
  have c0 := h.c0
  have c1 := h.c1
  have h64 := hok.n64
  clear h hok
  cases hd : S.down
  · rw [hd] at c1
    by_cases h0 : i < 0
    · have HL : Hid (refI S i = 81) := by show _ = _; unfold refI; rw [hd, if_neg (by simp), if_pos (.inl h0)]
      rw [HL.out]
      clear hd
      go_enter Try.func82, Try.ntmps82
      go_wp2_with fail
      go_ret
      exact ⟨rfl, rfl⟩
    · by_cases h1 : (S.bl.length : Int) ≤ i
      · have HL : Hid (refI S i = 81) := by show _ = _; unfold refI; rw [hd, if_neg (by simp), if_pos (.inr h1)]
        rw [HL.out]
        clear hd
        go_enter Try.func82, Try.ntmps82
        go_wp2_with fail
        go_ret
        exact ⟨rfl, rfl⟩
      · have HL : Hid (refI S i = 0) := by show _ = _; unfold refI; rw [hd, if_neg (by simp), if_neg (by omega)]
        rw [HL.out]
        clear hd
        go_enter Try.func82, Try.ntmps82
        go_wp2_with fail
        go_ret
        exact ⟨rfl, rfl⟩
  · rw [hd] at c1
    have HL : Hid (refI S i = 80) := by show _ = _; unfold refI; rw [hd, if_pos rfl]
    rw [HL.out]
    clear hd
    go_enter Try.func82, Try.ntmps82
    go_wp2_with fail
    go_ret
    exact ⟨rfl, rfl⟩




theorem off_nil : Calls Try.prog 83 #[.pointer none] w fun e w' => e = .returned (.tuple #[]) ∧ w' = w := by
  go_enter Try.func83, Try.ntmps83
  go_wp2_with fail
  refine bodyPost_ret (results_none rfl _ _ _) rfl ?_
  exact ⟨rfl, rfl⟩
theorem off_walk (h : Dsk T D w v S) : Calls Try.prog 83 #[v] w fun e w' => e = .returned (.tuple #[]) ∧ Dsk T D w' v (offS S) ∧ Ch D w w' := by
  obtain ⟨sb, gp, cap, rfl, h, hok⟩ := h
  have HM : Hid (DM T D w sb gp cap S) := h
  have HK : Hid S.ok := hok
  have c1 := h.c1
  have c2 := h.c2
  have f1 := h.soft 1
  have f2 := h.soft 2
  clear h hok
  go_enter Try.func83, Try.ntmps83
  go_wp2_with fail
  refine bodyPost_end (results_none rfl _ _ _) rfl ?_
  exact ⟨rfl, ⟨sb, gp, cap, rfl, (HM.out.put 1 (.bool true) (S' := { S with down := true }) rfl rfl).put 2 (.int .i64 (-1)) rfl rfl, ok_off HK.out⟩, (ch_put _ _ HM.out.d1).self (ch_put _ _ HM.out.d1)⟩






theorem down_nil : Calls Try.prog 40 #[.pointer none] w fun e w' => e = .returned (.bool false) ∧ w' = w := by
  go_enter Try.func40, Try.ntmps40
  go_wp2_with fail
  go_ret
  exact ⟨rfl, rfl⟩
theorem down_walk (h : Dsk T D w v S) : Calls Try.prog 40 #[v] w fun e w' => e = .returned (.bool S.down) ∧ w' = w := by
  obtain ⟨sb, gp, cap, rfl, h, hok⟩ := h
  have c1 := h.c1
  clear h hok
  go_enter Try.func40, Try.ntmps40
  go_wp2_with fail
  go_ret
  exact ⟨rfl, rfl⟩
theorem blocks_nil : Calls Try.prog 68 #[.pointer none] w fun e w' => e = .returned (.int .i64 0) ∧ w' = w := by
  go_enter Try.func68, Try.ntmps68
  go_wp2_with fail
  go_ret
  exact ⟨rfl, rfl⟩
theorem blocks_walk (h : Dsk T D w v S) : Calls Try.prog 68 #[v] w fun e w' => e = .returned (.int .i64 S.bl.length) ∧ w' = w := by
  obtain ⟨sb, gp, cap, rfl, h, hok⟩ := h
  have c0 := h.c0
  clear h hok
  go_enter Try.func68, Try.ntmps68
  go_wp2_with fail
  go_ret
  exact ⟨rfl, rfl⟩


end

end Go.Proofs.Ytpndafieknddcaa
