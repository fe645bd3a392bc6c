/- The reader of a message's bytes in memory; contracts of refuse, number, kind, count, many, ends, value. -/
import Derived.Test.YtonnlhehbhiiiaaJc

import Derived.Test.YtonnlhehbhiiiaaWt

import Derived.Test.YtonnlhehbhiiiaaWx

import Derived.Test.YtonnlhehbhiiiaaWk

import Derived.Laws.ResultCell

import Derived.Deep.CutBlock

namespace Go.Proofs.Ytonnlhehbhiiiaa

open Go.RowKit

theorem own_belowC {w w' : World} {base e size n : Nat} {v : Value} {xs : List Value} (h : w.ownsRow base e size v n xs) (hb : Below w.heap.size w w') : w'.ownsRow base e size v n xs := by
  refine ⟨h.1, ?_⟩
  rcases h.2 with h' | ⟨g, cap, cur, hv, hg, hh, r⟩
  · exact .inl h'
  · exact .inr ⟨g, cap, cur, hv, hg, by rw [hb.block g ((Array.getElem?_eq_some_iff.1 hh).1)]; exact hh, r⟩
theorem own_baseC {w : World} {base base' e size n : Nat} {v : Value} {xs : List Value} (h : w.ownsRow base e size v n xs) (hb : base' ≤ base) : w.ownsRow base' e size v n xs := by
  refine ⟨h.1, ?_⟩
  rcases h.2 with h' | ⟨g, cap, cur, hv, hg, hh, r⟩
  · exact .inl h'
  · exact .inr ⟨g, cap, cur, hv, Nat.le_trans hb hg, hh, r⟩
theorem grown_belowC {B : Nat} {w w' : World} {v : Value} {e n s : Nat} {xs : List Value} (hown : w.ownsRow B e s v n xs) (hg : w.grownBy w' v.ownBlock) (hB : B ≤ w.heap.size) : Below B w w' :=
  (Below.refl B w).grown hg hB (fun k hk => (hown.lt k hk).1)
theorem size_allocC (w : World) (o : Obj) : (w.alloc o).heap.size = w.heap.size + 1 := by simp [go_sem]
theorem bv_any {w : World} {v : Value} {l : List Nat} (h : Bv w v l) : ∃ a n q, v = .slice a n q := by
  obtain ⟨⟨ao, cap, e, _⟩, _⟩ := h
  exact ⟨ao, _, cap, e⟩
theorem sv_any {k : IntKind} {w : World} {v : Value} {l : List Int} (h : Sv k w v l) : ∃ a n q, v = .slice a n q := by
  obtain ⟨a, q, e, _⟩ := h; exact ⟨a, _, q, e⟩
/-- Nothing but the blocks of D has turned. -/
structure Ch (D : Nat → Prop) (w w' : World) : Prop where
  os : w'.os = w.os
  tape : w'.tape = w.tape
  output : w'.output = w.output
  size : w.heap.size ≤ w'.heap.size
  block : ∀ k, k < w.heap.size → ¬ D k → w'.heap[k]? = w.heap[k]?
theorem Ch.refl (D : Nat → Prop) (w : World) : Ch D w w := ⟨rfl, rfl, rfl, Nat.le_refl _, fun _ _ _ => rfl⟩
theorem Ch.trans {D E : Nat → Prop} {a b c : World} (h : Ch D a b) (k : Ch E b c) (he : ∀ x, E x → D x ∨ a.heap.size ≤ x) : Ch D a c :=
  ⟨k.os.trans h.os, k.tape.trans h.tape, k.output.trans h.output, Nat.le_trans h.size k.size, fun x hx hd => by
    rw [k.block x (Nat.lt_of_lt_of_le hx h.size) (fun e => by rcases he x e with q | q; exact hd q; omega), h.block x hx hd]⟩
theorem Ch.self {D : Nat → Prop} {a b c : World} (h : Ch D a b) (k : Ch D b c) : Ch D a c := h.trans k (fun _ hx => .inl hx)
theorem Ch.of_below {D : Nat → Prop} {w w' : World} (h : Below w.heap.size w w') : Ch D w w' := ⟨h.os, h.tape, h.output, h.size, fun k hk _ => h.block k hk⟩
theorem Ch.to_below {D : Nat → Prop} {w w' : World} {B : Nat} (h : Ch D w w') (hB : B ≤ w.heap.size) (hd : ∀ x, D x → B ≤ x) : Below B w w' := ⟨h.os, h.tape, h.output, h.size, fun k hk => h.block k (by omega) (fun e => by have := hd k e; omega)⟩
theorem Ch.of_grown {D : Nat → Prop} {w w' : World} {r : Option Nat} (h : w.grownBy w' r) (hr : ∀ x, r = some x → D x) : Ch D w w' := ⟨h.os, h.tape, h.output, h.size, fun k hk hd => h.block k hk (fun e => hd (hr k e.symm))⟩
theorem grown_setK (w : World) (g i : Nat) (u : Value) : w.grownBy (w.setCell ⟨g, i, none⟩ u) (some g) :=
  ⟨rfl, rfl, rfl, by simp [go_sem], fun k hk hne => by rw [Below.heap_setCell w _ _ k (by rintro rfl; exact hne rfl)]⟩
theorem ch_set (w : World) (g i : Nat) (u : Value) : Ch (fun x => x = g) w (w.setCell ⟨g, i, none⟩ u) := Ch.of_grown (grown_setK w g i u) (fun x hx => by cases hx; rfl)
theorem Ch.cell {D : Nat → Prop} {w w' : World} {p : Addr} {u : Value} (h : Ch D w w') (hp : w.cell? p = some u) (hd : ¬ D p.block) : w'.cell? p = some u := by
  have := h.block p.block (cell_lt hp) hd
  have e : w'.cell? p = w.cell? p := by simp only [World.cell?, this]
  rw [e, hp]


/-- A write over what is no byte leaves bytes as they are. -/
theorem Bv.set {w : World} {v : Value} {l : List Nat} (h : Bv w v l) {p : Addr} {u : Value} (hp : w.cell? p = some u) (hu : ∀ x, u ≠ .int .u8 x) (u' : Value) : Bv (w.setCell p u') v l := by
  obtain ⟨⟨ao, cap, e, h1, h2, h3, h4⟩, h5⟩ := h
  refine ⟨⟨ao, cap, e, h1, h2, h3, fun i hi => ?_⟩, h5⟩
  obtain ⟨b, off, e1, e2⟩ := h4 i hi
  refine ⟨b, off, e1, ?_⟩
  rw [World.cell?_setCell_other _ _ _ _ (by rintro rfl; rw [e2] at hp; exact hu _ (Option.some.inj hp).symm)]
  exact e2
/-- So does a turn of blocks that hold none of its cells. -/
theorem Bv.ch {D : Nat → Prop} {w w' : World} {v : Value} {l : List Nat} (h : Bv w v l) (hc : Ch D w w') (hd : ∀ x y j, D x → w.cell? ⟨x, j, none⟩ ≠ some (.int .u8 y)) : Bv w' v l := by
  obtain ⟨⟨ao, cap, e, h1, h2, h3, h4⟩, h5⟩ := h
  refine ⟨⟨ao, cap, e, h1, h2, h3, fun i hi => ?_⟩, h5⟩
  obtain ⟨b, off, e1, e2⟩ := h4 i hi
  exact ⟨b, off, e1, hc.cell e2 (fun hx => hd b _ _ hx e2)⟩


/-- A reader in memory: block R, the bytes left, the fault. -/
structure RD (M : Nat) (w : World) (R : Nat) (v : Value) (l : List Nat) (f : Nat) : Prop where
  c0 : w.cell? ⟨R, 0, none⟩ = some v
  c1 : w.cell? ⟨R, 1, none⟩ = some (.int .i64 f)
  z : ∀ j, w.frozen? ⟨R, j, none⟩ = false
  bv : Bv w v l
  m : ∀ x, v.ownBlock = some x → l ≠ [] → x < M


theorem own_cut0 {ao : Option Addr} {n c n' c' : Nat} : (Value.slice ao n c).ownBlock = (Value.slice ao n' c').ownBlock := by rcases ao with _ | ⟨b, o, _ | s⟩ <;> rfl
theorem own_cutm {ao : Option Addr} {k n c n' c' : Nat} : (Value.slice (ao.map fun a => a.add k) n c).ownBlock = (Value.slice ao n' c').ownBlock := by
  cases ao with
  | none => rfl
  | some a => simp only [Option.map_some, Value.ownBlock, Addr.add]; split <;> rfl
variable {M : Nat}

theorem bv_notu8 {w : World} {v : Value} {l : List Nat} (h : Bv w v l) : ∀ x, v ≠ .int .u8 x := by
  obtain ⟨⟨ao, cap, rfl, _⟩, _⟩ := h
  intro x e; cases e
theorem RD.set1 {w : World} {R : Nat} {v : Value} {l : List Nat} {f : Nat} (h : RD M w R v l f) (e : Nat) : RD M (w.setCell ⟨R, 1, none⟩ (.int .i64 e)) R v l e :=
  ⟨by rw [World.cell?_setCell_other _ _ _ _ (by rintro ⟨⟩)]; exact h.c0, by simp [go_sem, h.c1], fun j => by simpa [go_sem] using h.z j, h.bv.set h.c1 (by intro x e; cases e) _, h.m⟩
theorem RD.set0 {w : World} {R : Nat} {v v' : Value} {l l' : List Nat} {f : Nat} (h : RD M w R v l f) (hb : Bv w v' l') (hm : v'.ownBlock = v.ownBlock) (hl : ∃ k, l' = l.drop k := by exact ⟨_, rfl⟩) : RD M (w.setCell ⟨R, 0, none⟩ v') R v' l' f :=
  ⟨by simp [go_sem, h.c0], by rw [World.cell?_setCell_other _ _ _ _ (by rintro ⟨⟩)]; exact h.c1, fun j => by simpa [go_sem] using h.z j, hb.set h.c0 (bv_notu8 h.bv) _, fun x hx hne => h.m x (by rw [← hm]; exact hx) (fun e => hne (by obtain ⟨k, rfl⟩ := hl; rw [e]; simp))⟩
theorem RD.below {w w' : World} {R : Nat} {v : Value} {l : List Nat} {f : Nat} (h : RD M w R v l f) (hb : Below w.heap.size w w') : RD M w' R v l f := by
  have hR : R < w.heap.size := cell_lt h.c0
  exact ⟨by rw [hb.cell (p := ⟨R, 0, none⟩) hR]; exact h.c0, by rw [hb.cell (p := ⟨R, 1, none⟩) hR]; exact h.c1, fun j => by rw [hb.frozen (p := ⟨R, j, none⟩) hR]; exact h.z j, h.bv.below hb, h.m⟩


/-- A reader stays where nothing of its own turns. -/
theorem RD.ch {D : Nat → Prop} {w w' : World} {R : Nat} {v : Value} {l : List Nat} {f : Nat} (h : RD M w R v l f) (hc : Ch D w w') (hd : ¬ D R) (hM : ∀ x, D x → M ≤ x) : RD M w' R v l f := by
  have hz : ∀ j, w'.frozen? ⟨R, j, none⟩ = w.frozen? ⟨R, j, none⟩ := fun j => by
    have := hc.block R (cell_lt h.c0) hd
    simp only [World.frozen?, this]
  refine ⟨hc.cell h.c0 hd, hc.cell h.c1 hd, fun j => by rw [hz j]; exact h.z j, ?_, h.m⟩
  obtain ⟨⟨ao, cap, e, h1, h2, h3, h4⟩, h5⟩ := h.bv
  refine ⟨⟨ao, cap, e, h1, h2, h3, fun i hi => ?_⟩, h5⟩
  obtain ⟨b, off, e1, e2⟩ := h4 i hi
  have hb : b < M := h.m b (by rw [e, e1]; rfl) (fun e0 => by simp [e0, ib] at hi)
  exact ⟨b, off, e1, hc.cell e2 (fun hx => by have := hM b hx; omega)⟩


theorem cut_any {w : World} {v : Value} {l : List Nat} {ao : Option Addr} {cap : Nat} (h : Bv w v l) (hv : v = .slice ao l.length cap) (n : Nat) (hn : n ≤ l.length) (hc : ¬ cap = n) : Bv w (.slice (ao.map fun a => a.add n) (l.length - n) (cap - n)) (l.drop n) := by
  subst hv
  have := h.cut n l.length hn (Nat.le_refl _) False (by simp [hc])
  rw [List.take_of_length_le (by rw [List.length_drop]; omega)] at this
  simpa using this
theorem cut_end {w : World} {ao : Option Addr} {l : List Nat} {p : Nat} (hp : l.length ≤ p) : Bv w (.slice ao 0 0) (l.drop p) := by
  rw [List.drop_eq_nil_of_le hp]
  exact ⟨⟨ao, 0, rfl, Nat.le_refl _, by simp [maxLen], fun _ => rfl, fun i hi => by simp [ib] at hi⟩, by simp⟩
theorem bv_le {w : World} {ao : Option Addr} {n cap : Nat} {l : List Nat} (h : Bv w (.slice ao n cap) l) : n = l.length ∧ l.length ≤ cap ∧ cap ≤ maxLen := by
  obtain ⟨⟨ao', cap', e, h1, h2, _⟩, _⟩ := h
  rw [ib_len] at e h1
  cases e
  exact ⟨rfl, h1, h2⟩
theorem t3_litB {r : Nat × Nat × Nat} {a b c : Nat} (h : r = (a, b, c)) : t3 r = .tuple #[.int .u64 a, .int .i64 b, .int .i64 c] := by subst h; rfl


theorem RD.setB {w : World} {R B j : Nat} {v u : Value} {l : List Nat} {f : Nat} (h : RD M w R v l f) (hne : B ≠ R) (hp : w.cell? ⟨B, j, none⟩ = some u) (hu : ∀ x, u ≠ .int .u8 x) (u' : Value) : RD M (w.setCell ⟨B, j, none⟩ u') R v l f :=
  ⟨by rw [World.cell?_setCell_other _ _ _ _ (by rintro ⟨⟩; exact hne rfl)]; exact h.c0, by rw [World.cell?_setCell_other _ _ _ _ (by rintro ⟨⟩; exact hne rfl)]; exact h.c1, fun k => by simpa [go_sem] using h.z k, h.bv.set hp hu _, h.m⟩
theorem own_ch {D : Nat → Prop} {w w' : World} {base e size n : Nat} {v : Value} {xs : List Value} (h : w.ownsRow base e size v n xs) (hc : Ch D w w') (hd : ∀ x, D x → x < base) : w'.ownsRow base e size v n xs := by
  refine ⟨h.1, ?_⟩
  rcases h.2 with h' | ⟨g, cap, cur, hv, hg, hh, r⟩
  · exact .inl h'
  · exact .inr ⟨g, cap, cur, hv, hg, by rw [hc.block g ((Array.getElem?_eq_some_iff.1 hh).1) (fun e => by have := hd g e; omega)]; exact hh, r⟩
theorem bv_block {w : World} {v : Value} {l : List Nat} (hv : Bv w v l) : ∀ x, v.ownBlock = some x → l ≠ [] → x < w.heap.size := by
  intro x hx hne
  obtain ⟨⟨ao, cap, e, h1, h2, h3, h4⟩, h5⟩ := hv
  obtain ⟨b, off, e1, e2⟩ := h4 0 (by rw [ib_len]; cases l with | nil => exact absurd rfl hne | cons _ _ => simp)
  subst e1
  subst e
  cases hx
  exact cell_lt e2
theorem info_u64 : (Try.prog.info? 56).map (fun i => (i.zero, i.size, i.bytes)) = some (some (.int .u64 0), 1, 8) := by kernel_rfl


theorem slice_notu8 {ao : Option Addr} {n cap : Nat} : ∀ x, Value.slice ao n cap ≠ .int .u8 x := by intro x e; cases e
/-- The reading was given up with fault er. -/
def Bad (R er : Nat) (w : World) (e : Ending) (w' : World) : Prop :=
  (∃ u pv, e = .panicked [{ v := .iface u pv, recovered := false }]) ∧ w'.cell? ⟨R, 1, none⟩ = some (.int .i64 er) ∧ Ch (fun x => x = R) w w'
theorem Bad.from {R er : Nat} {w w1 w' : World} {e : Ending} (h : Bad R er w1 e w') (hc : Ch (fun x => x = R) w w1) : Bad R er w e w' := ⟨h.1, h.2.1, hc.self h.2.2⟩




/-- What a reading call leaves: its answer is y, the bytes l' are left. -/
def Good (M R : Nat) (y : Value) (l' : List Nat) (f : Nat) (w : World) (e : Ending) (w' : World) : Prop :=
  e = .returned y ∧ (∃ v', RD M w' R v' l' f) ∧ Ch (fun x => x = R) w w'


end Go.Proofs.Ytonnlhehbhiiiaa


