/- Rows of BucketBook: keys and cells that are written into, acts that are handed in. -/
import Derived.Test.YtjcmmhonidamoaaHa
import Derived.Test.YtjcmmhonidamoaaBq
import Derived.Test.YtjcmmhonidamoaaCc
namespace Go.Proofs.Ytjcmmhonidamoaa
open Go.RowKit

theorem info_u64 : (Try.prog.info? 33).map (fun i => (i.zero, i.size, i.bytes)) = some (some (.int .u64 0), 1, 8) := by kernel_rfl
/-- The keys of cells, as numbers. -/
def ik (l : List Cl) : List Int := l.map fun c => (c.k : Int)
theorem ik_len (l : List Cl) : (ik l).length = l.length := by simp [ik]
theorem ik_get (l : List Cl) (i : Nat) (hi : i < l.length) : ((ik l).map (Value.int .u64))[i]? = some (.int .u64 (l[i].k : Nat)) := by simp [ik, hi]
theorem ik_set (l : List Cl) (i : Nat) (c : Cl) : ((ik l).map (Value.int .u64)).set i (.int .u64 (c.k : Nat)) = (ik (l.set i c)).map (Value.int .u64) := by simp [ik, List.map_set]
theorem ik_append (l r : List Cl) : ik (l ++ r) = ik l ++ ik r := by simp [ik]
theorem ik_take (l : List Cl) (n : Nat) : ((ik l).map (Value.int .u64)).take n = (ik (l.take n)).map (Value.int .u64) := by simp [ik, List.map_take]
theorem ik_same {l : List Cl} {k : Nat} (hk : k < l.length) {c : Cl} (h : l[k].k = c.k) : ik (l.set k c) = ik l := by
  unfold ik
  rw [List.map_set]
  refine List.ext_getElem (by simp) (fun i h1 h2 => ?_)
  rw [List.getElem_set]
  split
  · rename_i e; subst e; simp [h]
  · rfl
theorem flatC_take (l : List Cl) (n : Nat) : (flatC l).take (n * 6) = flatC (l.take n) := by
  induction l generalizing n with
  | nil => simp [flatC]
  | cons c r ih =>
    cases n with
    | zero => simp [flatC]
    | succ n =>
      have e : flatC (c :: r) = clF c ++ flatC r := rfl
      have e2 : flatC ((c :: r).take (n + 1)) = clF c ++ flatC (r.take n) := rfl
      rw [e, e2, ← ih, List.take_append, List.take_of_length_le (by rw [clF_len]; omega), clF_len, show (n + 1) * 6 - 6 = n * 6 by omega]
def sixL (xs : List Value) (k : Nat) (c : Cl) : List Value := (((((xs.set (k * 6) (.int .u64 c.k)).set (k * 6 + 1) (.bool c.p.h)).set (k * 6 + 2) (.int .u64 c.p.b)).set (k * 6 + 3) (.bool c.c.h)).set (k * 6 + 4) (.int .u64 c.c.b)).set (k * 6 + 5) (.int .i64 c.n)
theorem six_right (a b : List Value) (k : Nat) (c : Cl) (ha : a.length = 6) : sixL (a ++ b) (k + 1) c = a ++ sixL b k c := by
  have s : ∀ (y : List Value) (j : Nat) (u : Value), (a ++ y).set ((k + 1) * 6 + j) u = a ++ y.set (k * 6 + j) u := fun y j u => by
    rw [List.set_append_right _ _ (by omega), ha, show (k + 1) * 6 + j - 6 = k * 6 + j by omega]
  unfold sixL
  rw [show (a ++ b).set ((k + 1) * 6) (.int .u64 c.k) = a ++ b.set (k * 6) (.int .u64 c.k) from s b 0 _, s, s, s, s, s]
theorem six_flat (l : List Cl) (k : Nat) (c : Cl) (hk : k < l.length) : sixL (flatC l) k c = flatC (l.set k c) := by
  induction l generalizing k with
  | nil => simp at hk
  | cons d r ih =>
    have e : flatC (d :: r) = clF d ++ flatC r := rfl
    cases k with
    | zero => rw [e]; rfl
    | succ k =>
      rw [e, six_right _ _ _ _ (clF_len d), ih k (by simpa using hk)]
      rfl

theorem own_keep {w w' : World} {B e s n : Nat} {v : Value} {xs : List Value} (h : w.ownsRow B e s v n xs) (hk : ∀ x, v.ownBlock = some x → w'.heap[x]? = w.heap[x]?) : w'.ownsRow B e s v n xs := by
  refine ⟨h.1, ?_⟩
  rcases h.2 with h' | ⟨g, cap, cur, hv, hg, hh, r⟩
  · exact .inl h'
  · exact .inr ⟨g, cap, cur, hv, hg, by rw [hk g (by rw [hv]; rfl)]; exact hh, r⟩
theorem own_grown {w w' : World} {B e s n : Nat} {v y : Value} {xs : List Value} (h : w.ownsRow B e s v n xs) (hg : w.grownBy w' y.ownBlock) (hne : ∀ x, v.ownBlock = some x → y.ownBlock ≠ some x) : w'.ownsRow B e s v n xs :=
  own_keep h fun x hx => hg.block x (h.lt x hx).2 (fun e => hne x hx e.symm)
/-- Rows of different kinds are different blocks. -/
theorem own_ne {w : World} {B e s n B' e' s' n' : Nat} {v y : Value} {xs ys : List Value} (h : w.ownsRow B e s v n xs) (k : w.ownsRow B' e' s' y n' ys) (he : e ≠ e') : ∀ x, v.ownBlock = some x → y.ownBlock ≠ some x := by
  intro x hx hy
  rcases h.2 with ⟨hv, _⟩ | ⟨g, cap, cur, hv, _, hh, _⟩
  · rw [hv] at hx; simp [Value.ownBlock] at hx
  · rcases k.2 with ⟨hv', _⟩ | ⟨g', cap', cur', hv', _, hh', _⟩
    · rw [hv'] at hy; simp [Value.ownBlock] at hy
    · have e1 : g = x := by rw [hv] at hx; simpa [Value.ownBlock] using hx
      have e2 : g' = x := by rw [hv'] at hy; simpa [Value.ownBlock] using hy
      subst e1 e2
      rw [hh] at hh'
      simp at hh'
      exact he hh'.2
def sixW (w : World) (g k : Nat) (c : Cl) : World := (((((w.setCell ⟨g, k * 6, none⟩ (.int .u64 c.k)).setCell ⟨g, k * 6 + 1, none⟩ (.bool c.p.h)).setCell ⟨g, k * 6 + 2, none⟩ (.int .u64 c.p.b)).setCell ⟨g, k * 6 + 3, none⟩ (.bool c.c.h)).setCell ⟨g, k * 6 + 4, none⟩ (.int .u64 c.c.b)).setCell ⟨g, k * 6 + 5, none⟩ (.int .i64 c.n)
theorem own_six {w : World} {B g n cap k : Nat} {l : List Cl} (h : w.ownsRow B 37 6 (.slice (some ⟨g, 0, none⟩) n cap) n (flatC l)) (hk : k < l.length) (c : Cl) :
    (sixW w g k c).ownsRow B 37 6 (.slice (some ⟨g, 0, none⟩) n cap) n (flatC (l.set k c)) := by
  rw [← six_flat l k c hk]
  exact ((((((h.stored (k * 6) (.int .u64 c.k)).1.stored (k * 6 + 1) (.bool c.p.h)).1.stored (k * 6 + 2) (.int .u64 c.p.b)).1.stored (k * 6 + 3) (.bool c.c.h)).1.stored (k * 6 + 4) (.int .u64 c.c.b)).1.stored (k * 6 + 5) (.int .i64 c.n)).1
theorem heap_six (w : World) (g k : Nat) (c : Cl) (x : Nat) (hx : x ≠ g) : (sixW w g k c).heap[x]? = w.heap[x]? := by
  unfold sixW
  rw [Below.heap_setCell _ _ _ x hx, Below.heap_setCell _ _ _ x hx, Below.heap_setCell _ _ _ x hx, Below.heap_setCell _ _ _ x hx, Below.heap_setCell _ _ _ x hx, Below.heap_setCell _ _ _ x hx]
theorem below_sixW {B : Nat} {w w1 : World} {g k : Nat} {c : Cl} (h : Below B w w1) (hg : B ≤ g) : Below B w (sixW w1 g k c) :=
  (((((h.setCell (p := ⟨g, k * 6, none⟩) hg _).setCell (p := ⟨g, k * 6 + 1, none⟩) hg _).setCell (p := ⟨g, k * 6 + 2, none⟩) hg _).setCell (p := ⟨g, k * 6 + 3, none⟩) hg _).setCell (p := ⟨g, k * 6 + 4, none⟩) hg _).setCell (p := ⟨g, k * 6 + 5, none⟩) hg _
theorem six_eq (w : World) (g k : Nat) (c : Cl) : (((((w.setCell ⟨g, k * 6, none⟩ (.int .u64 c.k)).setCell ⟨g, k * 6 + 1, none⟩ (.bool c.p.h)).setCell ⟨g, k * 6 + 2, none⟩ (.int .u64 c.p.b)).setCell ⟨g, k * 6 + 3, none⟩ (.bool c.c.h)).setCell ⟨g, k * 6 + 4, none⟩ (.int .u64 c.c.b)).setCell ⟨g, k * 6 + 5, none⟩ (.int .i64 c.n) = sixW w g k c := rfl
/-- A row cut to its first m. -/
theorem own_cutC {w : World} {B e s g n cap m : Nat} {xs : List Value} (h : w.ownsRow B e s (.slice (some ⟨g, 0, none⟩) n cap) n xs) (hm : m ≤ n) : w.ownsRow B e s (.slice (some ⟨g, 0, none⟩) m cap) m (xs.take (m * s)) := by
  obtain ⟨h1, h2⟩ := h
  rcases h2 with ⟨h, _⟩ | ⟨g', cap', cur, e1, hb, hg, hnc, hcm, hcs, htk⟩
  · cases h
  · cases e1
    have hms : m * s ≤ n * s := Nat.mul_le_mul_right s hm
    refine ⟨by rw [List.length_take, h1]; omega, .inr ⟨g, cap, cur, rfl, hb, hg, by omega, hcm, hcs, ?_⟩⟩
    rw [← htk, List.take_take, Nat.min_eq_left hms]
theorem heap_set1 (w : World) (g i : Nat) (u : Value) (x : Nat) (hx : x ≠ g) : (w.setCell ⟨g, i, none⟩ u).heap[x]? = w.heap[x]? := Below.heap_setCell _ _ _ x hx
theorem cut_keys {w : World} {B g n cap m : Nat} {L : List Cl} (h : w.ownsRow B 33 1 (.slice (some ⟨g, 0, none⟩) n cap) n ((ik L).map (Value.int .u64))) (hm : m ≤ n) : w.ownsRow B 33 1 (.slice (some ⟨g, 0, none⟩) m cap) (L.take m).length ((ik (L.take m)).map (Value.int .u64)) := by
  have hl : L.length = n := by have := h.1; simpa [ik_len] using this
  have := own_cutC h hm
  rw [Nat.mul_one, ik_take] at this
  rw [show (L.take m).length = m by simp; omega]
  exact this
theorem cut_cells {w : World} {B g n cap m : Nat} {L : List Cl} (h : w.ownsRow B 37 6 (.slice (some ⟨g, 0, none⟩) n cap) n (flatC L)) (hm : m ≤ n) : w.ownsRow B 37 6 (.slice (some ⟨g, 0, none⟩) m cap) (L.take m).length (flatC (L.take m)) := by
  have hl := (own_cv h).2
  have := own_cutC h hm
  rw [flatC_take] at this
  rw [show (L.take m).length = m by simp; omega]
  exact this
/-- A row that is not empty has a block. -/
theorem own_block {w : World} {B e s n : Nat} {v : Value} {xs : List Value} (h : w.ownsRow B e s v n xs) (hn : 0 < n) : ∃ g cap, v = .slice (some ⟨g, 0, none⟩) n cap ∧ n ≤ cap ∧ cap ≤ maxLen ∧ B ≤ g ∧ g < w.heap.size := by
  rcases h.2 with ⟨_, h0⟩ | ⟨g, cap, cur, hv, hg, hh, h1, h2, _⟩
  · omega
  · exact ⟨g, cap, hv, h1, h2, hg, (Array.getElem?_eq_some_iff.1 hh).1⟩
theorem own_form {w : World} {B e s n : Nat} {v : Value} {xs : List Value} (h : w.ownsRow B e s v n xs) : ∃ a cap, v = .slice a n cap ∧ cap ≤ maxLen := by
  rcases h.2 with ⟨hv, h0⟩ | ⟨g, cap, cur, hv, hg, hh, h1, h2, _⟩
  · subst h0; exact ⟨none, 0, hv, by simp [maxLen]⟩
  · exact ⟨_, cap, hv, h2⟩
theorem own_ca {w : World} {B g n cap : Nat} {l : List Cl} (h : w.ownsRow B 37 6 (.slice (some ⟨g, 0, none⟩) n cap) n (flatC l)) (i : Nat) (hi : i < l.length) : CA w g (i * 6) l[i] := by
  have := (own_cv h).1.at i hi
  simpa using this
theorem own_key {w : World} {B g n cap : Nat} {l : List Cl} (h : w.ownsRow B 33 1 (.slice (some ⟨g, 0, none⟩) n cap) n ((ik l).map (Value.int .u64))) (i : Nat) (hi : i < l.length) : w.cell? ⟨g, i, none⟩ = some (.int .u64 (l[i].k : Nat)) := by
  have h1 := h.1
  simp only [List.length_map, ik_len] at h1
  rw [h.cellAt i (by omega)]
  exact ik_get l i hi

theorem own_len6 {w : World} {B e n : Nat} {v : Value} {L : List Cl} (h : w.ownsRow B e 6 v n (flatC L)) : L.length = n := by
  have := h.1; rw [flatC_len] at this; omega
/-- An act: a cell is put, or dropped. -/
structure Ac where
  d : Bool
  c : Cl
def acF (a : Ac) : List Value := .bool a.d :: clF a.c
theorem acF_len (a : Ac) : (acF a).length = 7 := rfl
/-- An act's cells. -/
structure AA (w : World) (b o : Nat) (a : Ac) : Prop where
  c0 : w.cell? ⟨b, o, none⟩ = some (.bool a.d)
  c1 : w.cell? ⟨b, o + 1, none⟩ = some (.int .u64 a.c.k)
  c2 : w.cell? ⟨b, o + 2, none⟩ = some (.bool a.c.p.h)
  c3 : w.cell? ⟨b, o + 3, none⟩ = some (.int .u64 a.c.p.b)
  c4 : w.cell? ⟨b, o + 4, none⟩ = some (.bool a.c.c.h)
  c5 : w.cell? ⟨b, o + 5, none⟩ = some (.int .u64 a.c.c.b)
  c6 : w.cell? ⟨b, o + 6, none⟩ = some (.int .i64 a.c.n)
theorem AA.below {w w' : World} {b o B : Nat} {a : Ac} (h : AA w b o a) (hb : Below B w w') (hl : b < B) : AA w' b o a :=
  ⟨by rw [hb.cell (p := ⟨b, o, none⟩) hl]; exact h.c0, by rw [hb.cell (p := ⟨b, o + 1, none⟩) hl]; exact h.c1, by rw [hb.cell (p := ⟨b, o + 2, none⟩) hl]; exact h.c2, by rw [hb.cell (p := ⟨b, o + 3, none⟩) hl]; exact h.c3, by rw [hb.cell (p := ⟨b, o + 4, none⟩) hl]; exact h.c4, by rw [hb.cell (p := ⟨b, o + 5, none⟩) hl]; exact h.c5, by rw [hb.cell (p := ⟨b, o + 6, none⟩) hl]; exact h.c6⟩
theorem AA.keep {w w' : World} {b o : Nat} {a : Ac} (h : AA w b o a) (hb : Below w.heap.size w w') : AA w' b o a := h.below hb (cell_lt h.c0)
theorem AA.heap {w w' : World} {b o : Nat} {a : Ac} (h : AA w b o a) (hb : w'.heap[b]? = w.heap[b]?) : AA w' b o a := by
  have e : ∀ j, w'.cell? ⟨b, j, none⟩ = w.cell? ⟨b, j, none⟩ := fun j => by simp only [World.cell?, hb]
  exact ⟨by rw [e]; exact h.c0, by rw [e]; exact h.c1, by rw [e]; exact h.c2, by rw [e]; exact h.c3, by rw [e]; exact h.c4, by rw [e]; exact h.c5, by rw [e]; exact h.c6⟩
theorem aa_new (w : World) (a : Ac) : AA (w.alloc (Obj.cells #[.bool a.d, .int .u64 a.c.k, .bool a.c.p.h, .int .u64 a.c.p.b, .bool a.c.c.h, .int .u64 a.c.c.b, .int .i64 a.c.n] 47)) w.heap.size 0 a := by
  constructor <;> simp [go_sem]
theorem act_at {w : World} {v : Value} {l : List Ac} (h : Gv w v 7 acF l) (i : Nat) (hi : i < l.length) : ∃ b off cap, v = .slice (some ⟨b, off, none⟩) l.length cap ∧ AA w b (off + i * 7) l[i] := by
  obtain ⟨ao, cap, rfl, h1, h2, h3, h4⟩ := h
  obtain ⟨b, off, rfl, hc⟩ := h4 i hi
  refine ⟨b, off, cap, rfl, ?_⟩
  exact ⟨by simpa [acF, clF, Nat.add_assoc] using hc 0 (by omega), by simpa [acF, clF, Nat.add_assoc] using hc 1 (by omega), by simpa [acF, clF, Nat.add_assoc] using hc 2 (by omega), by simpa [acF, clF, Nat.add_assoc] using hc 3 (by omega), by simpa [acF, clF, Nat.add_assoc] using hc 4 (by omega), by simpa [acF, clF, Nat.add_assoc] using hc 5 (by omega), by simpa [acF, clF, Nat.add_assoc] using hc 6 (by omega)⟩

/-- APPEND of one cell onto a row of the call's own: the row stays where it was, or is new. -/
theorem wpList_append_at {w : World} {ops : Array Oper} {rest : List Oper} {o : Oper} {a : Act} {Q : Exit → Act → World → Prop} (hgd : o.guard = none) (s x : Operand)
    (ho : o.op = .call { callee := .builtin .append, args := #[s, x], argTypes := #[22, 22] })
    (base : Nat) (v : Value) (n : Nat) (xs : List Value) (hs : a.eval s = v) (hown : w.ownsRow base 37 6 v n xs)
    (g : Nat) (c : Cl) (hx : a.eval x = .slice (some ⟨g, 0, none⟩) 1 1) (hy : CA w g 0 c)
    (hn : n ≤ 1000000) (hbase : base ≤ w.heap.size)
    (h : ∀ v' w', w'.ownsRow base 37 6 v' (n + 1) (xs ++ flatC [c]) → w.grownBy w' v.ownBlock → (v'.ownBlock = v.ownBlock ∨ v'.ownBlock = some w.heap.size) → wpList Try.prog ops Q rest (a.put o.dst v') w') : wpList Try.prog ops Q (o :: rest) a w := by
  obtain ⟨i0, hi, hz0, hz1, hz2⟩ := info_partsV info_cell
  refine wpList_append_own_at w hgd s x 22 ho base 37 i0 (.agg #[.int .u64 0, .bool false, .int .u64 0, .bool false, .int .u64 0, .int .i64 0]) 6 48 Try.underlying22 hi hz0 hz1 hz2 rfl (by decide) v n xs hs hown ⟨g, 0, none⟩ 1 1 (flatC [c]) hx (flatC_len [c]) ?_ (fun u hu => flatC_one' hu) (by simp only [maxLen]; omega) (by omega) hbase
    (fun v' w' h1 h2 _ h4 => h v' w' h1 h2 h4)
  exact fun j u hj => cells_at (b := g) (off := 0) (l := [c]) (fun i hi j hj => by
    have : i = 0 := by simp at hi; omega
    subst this
    have hh := hy
    have : j = 0 ∨ j = 1 ∨ j = 2 ∨ j = 3 ∨ j = 4 ∨ j = 5 := by omega
    rcases this with rfl | rfl | rfl | rfl | rfl | rfl
    · simpa [clF] using hh.c0
    · simpa [clF] using hh.c1
    · simpa [clF] using hh.c2
    · simpa [clF] using hh.c3
    · simpa [clF] using hh.c4
    · simpa [clF] using hh.c5) j u hj
end Go.Proofs.Ytjcmmhonidamoaa
