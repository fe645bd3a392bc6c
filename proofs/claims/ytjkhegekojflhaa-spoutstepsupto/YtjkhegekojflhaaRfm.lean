/- SpoutSteps: from the beginning on, batch by batch, a triple tells the ends behind the last two batches, and goes only forward, where what is read is of bulk at most 1048576.
-/
import Derived.Test.YtjkhegekojflhaaSd
import Derived.Test.YtjkhegekojflhaaRows
import Derived.Test.YtjkhegekojflhaaNz
import Derived.JoinedCond
namespace Go.Proofs.Ytjkhegekojflhaa
open Ieee Go.RowKit

def lth (L : List (List Int)) (i : Nat) : List Int := L.getD i []
/-- The value v is a slice of slices of ints that holds L. -/
def Lv (w : World) (v : Value) (L : List (List Int)) : Prop :=
  ∃ ao cap, v = .slice ao L.length cap ∧ cap ≤ maxLen ∧ L.length ≤ cap ∧ ∀ i, i < L.length → ∃ b off u, ao = some ⟨b, off, none⟩ ∧ w.cell? ⟨b, off + i, none⟩ = some u ∧ Nv w u (lth L i)

/-- A slice of ints whose cells are none of block T's. -/
def Nx (T : Nat) (w : World) (v : Value) (l : List Int) : Prop := Nv w v l ∧ ∀ b off n c, v = .slice (some ⟨b, off, none⟩) n c → 0 < l.length → b ≠ T
theorem Nx.keep {T : Nat} {w w' : World} {v : Value} {l : List Int} (h : Nx T w v l) (hk : ∀ x, x < w.heap.size → x ≠ T → w'.heap[x]? = w.heap[x]?) : Nx T w' v l := by
  obtain ⟨⟨⟨ao, cap, e, h1, h2, h3, h4⟩, h5⟩, h6⟩ := h
  refine ⟨⟨⟨ao, cap, e, h1, h2, h3, fun i hi => ?_⟩, h5⟩, h6⟩
  obtain ⟨b, off, e2, c⟩ := h4 i hi
  subst e2
  have hb : w'.heap[b]? = w.heap[b]? := hk b (cell_lt c) (h6 b off _ _ e (by omega))
  exact ⟨b, off, rfl, by rw [World.cell?_of_block (w := w) (a := ⟨b, off + i, none⟩) hb]; exact c⟩
theorem Nx.below {T : Nat} {w w' : World} {v : Value} {l : List Int} (h : Nx T w v l) (hb : Below w.heap.size w w') : Nx T w' v l := h.keep (fun x hx _ => hb.block x hx)
theorem nx_old {T : Nat} {w w' : World} {v : Value} {l : List Int} (h : Nv w v l) (hb : Below w.heap.size w w') (hT : w.heap.size ≤ T) : Nx T w' v l := by
  refine ⟨h.below hb, fun b off n c e hl hT' => ?_⟩
  subst e
  obtain ⟨b', off', e2, c2⟩ := h.at hl
  cases e2
  have := cell_lt c2
  simp only at this
  omega
theorem nx_own {T : Nat} {w : World} {base e n : Nat} {v : Value} {l : List Int} (h : w.ownsRow base e 1 v n (cellsN l)) (hl : In64 l) (hT : T < base) : Nx T w v l := by
  refine ⟨own_nv h hl, fun b off n' c e' _ hb => ?_⟩
  subst e'
  have := (h.lt b rfl).1
  omega

structure Lq (w : World) (T : Nat) (t : Tp) (pv cv lv nv : Value) (wr : World) : Prop where
  box : wr.heap[T]? = some (.cells #[.int .i64 t.b, pv, cv] 46 (0, 0))
  p : Nx T wr pv t.p
  c : Nx T wr cv t.c
  last : Nx T wr lv t.p
  now : Nx T wr nv t.c
  right : rightT t
  small : t.c.length ≤ 4
  base : w.heap.size ≤ T
  below : Below w.heap.size w wr
theorem Lq.go {w wr w' : World} {T : Nat} {t : Tp} {pv cv lv nv : Value} (h : Lq w T t pv cv lv nv wr) (hb : Below wr.heap.size wr w') : Lq w T t pv cv lv nv w' :=
  ⟨by rw [hb.block T (Array.getElem?_eq_some_iff.1 h.box).1]; exact h.box, h.p.below hb, h.c.below hb, h.last.below hb, h.now.below hb, h.right, h.small, h.base, below_trans h.below hb⟩
theorem Lq.cells {w wr : World} {T : Nat} {t : Tp} {pv cv lv nv : Value} (h : Lq w T t pv cv lv nv wr) : (wr.cell? ⟨T, 0, none⟩ = some (.int .i64 t.b) ∧ wr.cell? ⟨T, 1, none⟩ = some pv ∧ wr.cell? ⟨T, 2, none⟩ = some cv) ∧ ∀ j, wr.frozen? ⟨T, j, none⟩ = false := by
  refine ⟨⟨?_, ?_, ?_⟩, fun j => by simp [World.frozen?, h.box]⟩ <;> (rw [cell_of_row wr T _ _ _ (0, 0) h.box]; rfl)
theorem box_cells {wr : World} {T : Nat} {b : Int} {pv cv : Value} (h : wr.heap[T]? = some (.cells #[.int .i64 b, pv, cv] 46 (0, 0))) : wr.cell? ⟨T, 0, none⟩ = some (.int .i64 b) ∧ wr.cell? ⟨T, 1, none⟩ = some pv ∧ wr.cell? ⟨T, 2, none⟩ = some cv := by
  refine ⟨?_, ?_, ?_⟩ <;> (rw [cell_of_row wr T _ _ _ (0, 0) h]; rfl)

theorem right_step {t : Tp} {l : List Int} (h : rightT t) (hf : Fwd t.c l) : rightT ⟨t.b + 1, t.c, l⟩ := by
  refine ⟨by have := h.1; simp only; omega, hf, fun i hi => ⟨?_, fun e => ?_⟩⟩
  · simp only at hi ⊢
    have h1 : i < t.c.length := by have := hf.1; omega
    have := (h.2.2 i h1).1
    have h3 := h.2.1.2 i (by have := h.2.1.1; omega)
    omega
  · have := h.1
    simp only at e
    omega
/-- The box written anew. -/
theorem box_set {w : World} {T : Nat} {b b' : Int} {pv cv p' c' : Value} (h : w.heap[T]? = some (.cells #[.int .i64 b, pv, cv] 46 (0, 0))) :
    (((w.setCell ⟨T, 0, none⟩ (.int .i64 b')).setCell ⟨T, 1, none⟩ p').setCell ⟨T, 2, none⟩ c').heap[T]? = some (.cells #[.int .i64 b', p', c'] 46 (0, 0)) := by
  simp only [Sort.setCell_eq]
  simp [Sort.mapBlock, Array.getElem?_modify, h, Sort.onCells]
theorem Lq.step {w wr w' : World} {T : Nat} {t : Tp} {l : List Int} {pv cv lv nv p' c' u : Value} (h : Lq w T t pv cv lv nv wr) (hw : w' = ((wr.setCell ⟨T, 0, none⟩ (.int .i64 (t.b + 1))).setCell ⟨T, 1, none⟩ p').setCell ⟨T, 2, none⟩ c')
    (hp : Nx T wr p' t.c) (hc : Nx T wr c' l) (hu : Nx T wr u l) (hf : Fwd t.c l) : Lq w T ⟨t.b + 1, t.c, l⟩ p' c' nv u w' := by
  subst hw
  have hk : ∀ x, x < wr.heap.size → x ≠ T → (((wr.setCell ⟨T, 0, none⟩ (.int .i64 (t.b + 1))).setCell ⟨T, 1, none⟩ p').setCell ⟨T, 2, none⟩ c').heap[x]? = wr.heap[x]? := fun x hx hn => (grown_set3 wr T _ _ _).block x hx (fun e => hn (by simpa using e))
  exact ⟨box_set h.box, hp.keep hk, hc.keep hk, h.now.keep hk, hu.keep hk, right_step h.right hf, by have := hf.1; have := h.small; simp only; omega, h.base, ((h.below.setCell (p := ⟨T, 0, none⟩) h.base _).setCell (p := ⟨T, 1, none⟩) h.base _).setCell (p := ⟨T, 2, none⟩) h.base _⟩

def zeros (q : Nat) : List Int := List.replicate q 0
theorem zeros_len (q : Nat) : (zeros q).length = q := by simp [zeros]
theorem zeros_nth (q i : Nat) : nth (zeros q) i = 0 := by
  unfold nth zeros
  rw [List.getD_eq_getElem?_getD]
  by_cases h : i < q
  · simp [h]
  · simp [h]
theorem zeros_in64 (q : Nat) : In64 (zeros q) := fun x hx => by
  unfold zeros at hx
  obtain ⟨_, rfl⟩ := List.mem_replicate.1 hx
  omega
theorem made_zeros (q : Nat) : (madeCells #[.int .i64 0] (q * 1)) = (cellsN (zeros q)).toArray := by
  apply Array.ext_getElem?
  intro i
  by_cases hi : i < q
  · simp [madeCells, hi, zeros, Nat.mod_one]
  · rw [Array.getElem?_eq_none (by rw [size_madeCells]; omega), Array.getElem?_eq_none (by simp [zeros]; omega)]
theorem own_made (w : World) {q : Nat} (hq : q ≤ 4) {Z : Array Value} (hZ : Z = madeCells #[.int .i64 0] (q * 1)) : (w.alloc (.cells Z 3)).ownsRow w.heap.size 3 1 (.slice (some ⟨w.heap.size, 0, none⟩) q q) q (cellsN (zeros q)) := by
  rw [hZ, made_zeros]
  have := World.ownsRow_lit (base := w.heap.size) (e := 3) (size := 1) w (cellsN (zeros q)).toArray q (Nat.le_refl _) (by simp [maxLen]; omega) (by simp [zeros])
  simpa using this
theorem right_zero (q : Nat) : rightT ⟨0, zeros q, zeros q⟩ := ⟨by simp, ⟨rfl, fun _ _ => Int.le_refl _⟩, fun i _ => ⟨by rw [zeros_nth]; omega, fun _ => zeros_nth q i⟩⟩
theorem make_ints {q : Nat} (hq : q ≤ 4) : ∀ wx : World, (Instr.makeSlice 23 (.int .i64 q) (.int .i64 q)).run Try.prog wx = .ok (.slice (some ⟨wx.heap.size, 0, none⟩) q q) (wx.alloc (.cells (madeCells #[.int .i64 0] (q * 1)) 3)) := fun wx => by
  obtain ⟨i0, hi0, hz0, hz1, hz2⟩ := info_partsV info_int
  have := run_make (P := Try.prog) wx 23 3 i0 (.int .i64 0) Try.underlying23 hi0 hz0 .i64 .i64 q q (by omega) (Int.le_refl _) (by rw [hz2]; omega) (by omega)
  rw [hz1] at this
  simp only [Int.toNat_natCast] at this
  exact this

end Go.Proofs.Ytjkhegekojflhaa

namespace Go.Proofs.Ytjkhegekojflhaa
open Ieee Go.RowKit

theorem rem5 (x : Int) : ∃ q : Nat, q ≤ 4 ∧ (IntKind.u64.wrap x).tmod 5 = (q : Int) ∧ (IntKind.u64.wrap x) % 5 = (q : Int) := by
  have h0 : 0 ≤ IntKind.u64.wrap x := by rw [IntKind.wrap_u64]; omega
  refine ⟨((IntKind.u64.wrap x) % 5).toNat, by omega, ?_, by omega⟩
  rw [Int.tmod_eq_emod_of_nonneg h0]; omega

/-- What the first regions leave: the box T of the triple of the beginning. -/
def S0 (w : World) (q T : Nat) (wx : World) : Prop := ∃ pv cv, wx.heap[T]? = some (.cells #[.int .i64 0, pv, cv] 46 (0, 0)) ∧ Nx T wx pv (zeros q) ∧ Nx T wx cv (zeros q) ∧ w.heap.size ≤ T ∧ Below w.heap.size w wx

theorem heap3 (w1 : World) (a b c : Obj) : (((w1.alloc a).alloc b).alloc c).drew.heap[w1.heap.size]? = some a ∧ (((w1.alloc a).alloc b).alloc c).drew.heap[w1.heap.size + 1]? = some b ∧ (((w1.alloc a).alloc b).alloc c).drew.heap[w1.heap.size + 1 + 1]? = some c := by
  have h0 : (w1.alloc a).heap[w1.heap.size]? = some a := heap_alloc_new w1 a
  have h1 : ((w1.alloc a).alloc b).heap[w1.heap.size + 1]? = some b := by have := heap_alloc_new (w1.alloc a) b; simpa using this
  have h2 : (((w1.alloc a).alloc b).alloc c).heap[w1.heap.size + 1 + 1]? = some c := by have := heap_alloc_new ((w1.alloc a).alloc b) c; simpa using this
  exact ⟨keepP (keepP h0 (below_alloc _ _)) (below_alloc _ _).drew, keepP h1 (below_alloc _ _).drew, h2⟩
theorem nx_made {T P q : Nat} {W : World} {Z : Array Value} (hZ : Z = madeCells #[Value.int .i64 0] (q * 1)) (hq : q ≤ 4) (hP : W.heap[P]? = some (.cells Z 3 (0, 0))) (hn : P ≠ T) : Nx T W (.slice (some ⟨P, 0, none⟩) q q) (zeros q) := by
  have ho : W.ownsRow 0 3 1 (.slice (some ⟨P, 0, none⟩) q q) q (cellsN (zeros q)) := by
    refine ⟨by simp [zeros], .inr ⟨P, q, Z, rfl, Nat.zero_le _, hP, Nat.le_refl _, by simp [maxLen]; omega, by rw [hZ, size_madeCells], ?_⟩⟩
    rw [hZ, made_zeros]
    exact List.take_of_length_le (by simp [zeros])
  refine ⟨own_nv ho (zeros_in64 q), fun b off n c e _ hb => ?_⟩
  cases e
  exact hn hb
theorem s0_of {w w1 W : World} {T P C q : Nat} {Z : Array Value} (hZ : Z = madeCells #[Value.int .i64 0] (q * 1)) (hq : q ≤ 4) (hB : Below w.heap.size w w1) (hW : Below w1.heap.size w1 W)
    (hT : W.heap[T]? = some (.cells #[.int .i64 0, .slice (some ⟨P, 0, none⟩) q q, .slice (some ⟨C, 0, none⟩) q q] 46 (0, 0))) (hP : W.heap[P]? = some (.cells Z 3 (0, 0))) (hC : W.heap[C]? = some (.cells Z 3 (0, 0))) (n1 : P ≠ T) (n2 : C ≠ T) (h1 : w1.heap.size ≤ T) : S0 w q T W :=
  ⟨_, _, hT, nx_made hZ hq hP n1, nx_made hZ hq hC n2, Nat.le_trans hB.size h1, below_trans hB hW⟩
theorem below3 (w1 : World) (a b c : Obj) : Below w1.heap.size w1 (((w1.alloc a).alloc b).alloc c).drew := (below_trans (below_trans (below_alloc _ _) (below_alloc _ _)) (below_alloc _ _)).drew

/-- What the region of Step leaves: the box U of its answer. -/
def Su (wr : World) (t : Tp) (l : List Int) (uv ev : Value) (wx : World) : Prop :=
  ∃ U p' c', uv = .pointer (some ⟨U, 0, none⟩) ∧ ev = .int .i64 (stepI t l) ∧ wx.heap[U]? = some (.cells #[.int .i64 (stepT t l).b, p', c'] 46 (0, 0)) ∧ wx.ownsRow wr.heap.size 3 1 p' (stepT t l).p.length (cellsN (stepT t l).p) ∧ wx.ownsRow wr.heap.size 3 1 c' (stepT t l).c.length (cellsN (stepT t l).c) ∧ wr.heap.size ≤ U ∧ Below wr.heap.size wr wx

theorem new_box {w w5 : World} {t : TypeId} (h : Below (w.alloc (Obj.cells #[.int .i64 0, .slice none 0 0, .slice none 0 0] t)).drew.heap.size (w.alloc (Obj.cells #[.int .i64 0, .slice none 0 0, .slice none 0 0] t)).drew w5) :
    w5.heap[w.heap.size]? = some (.cells #[.int .i64 0, .slice none 0 0, .slice none 0 0] t (0, 0)) := by
  have h0 : (w.alloc (Obj.cells #[.int .i64 0, .slice none 0 0, .slice none 0 0] t)).drew.heap[w.heap.size]? = some (.cells #[.int .i64 0, .slice none 0 0, .slice none 0 0] t (0, 0)) := heap_alloc_new w _
  rw [h.block w.heap.size (by simp [World.drew])]; exact h0
theorem soft_box {w5 : World} {T : Nat} {b : Int} {pv cv : Value} (h : w5.heap[T]? = some (.cells #[.int .i64 b, pv, cv] 46 (0, 0))) (j : Nat) : w5.frozen? ⟨T, j, none⟩ = false := by simp [World.frozen?, h]
theorem su_of {wr w5 W : World} {t : Tp} {l : List Int} {U : Nat} {p' c' : Value} (hW : W.heap[U]? = some (.cells #[.int .i64 (stepT t l).b, p', c'] 46 (0, 0))) (hp : w5.ownsRow wr.heap.size 3 1 p' (stepT t l).p.length (cellsN (stepT t l).p)) (hc : w5.ownsRow wr.heap.size 3 1 c' (stepT t l).c.length (cellsN (stepT t l).c))
    (hk : ∀ x, x < w5.heap.size → p'.ownBlock = some x ∨ c'.ownBlock = some x → W.heap[x]? = w5.heap[x]?) (hU : wr.heap.size ≤ U) (hB : Below wr.heap.size wr W) : Su wr t l (.pointer (some ⟨U, 0, none⟩)) (.int .i64 (stepI t l)) W :=
  ⟨U, p', c', rfl, rfl, hW, row_keep hp (fun x hx => hk x (hp.lt x hx).2 (.inl hx)), row_keep hc (fun x hx => hk x (hc.lt x hx).2 (.inr hx)), hU, hB⟩

set_option maxRecDepth 100000 in
set_option maxHeartbeats 2000000 in
theorem spoutsteps_walk {ev : Value} {L : List (List Int)} {n : Int} {w : World} (he : Lv w ev L) (hL : L.length ≤ 1048576) (hl : ∀ i, i < L.length → (lth L i).length ≤ 1048576) :
    Calls Try.prog 8 #[ev, .int .i64 n] w fun e w' => e = .returned (.bool true) ∧ Below w.heap.size w w' := by
  have HE : Hid (Lv w ev L) := he
  have HLL : Hid (∀ i, i < L.length → (lth L i).length ≤ 1048576) := hl
  obtain ⟨eo, ec, rfl, _, _, hel⟩ := he
  have HEL : Hid (∀ i, i < L.length → ∃ b off u, eo = some ⟨b, off, none⟩ ∧ w.cell? ⟨b, off + i, none⟩ = some u ∧ Nv w u (lth L i)) := hel
  clear hel
  obtain ⟨q, hq4, rm, rm'⟩ := rem5 n
  have hwq : IntKind.i64.wrap (q : Int) = (q : Int) := wrapU (by omega) (by omega)
  obtain ⟨Z, hZ⟩ : ∃ Z, Z = madeCells #[Value.int .i64 0] (q * 1) := ⟨_, rfl⟩
  have hmk := make_ints hq4
  rw [← hZ] at hmk
  have HZ : Hid (Z = madeCells #[Value.int .i64 0] (q * 1)) := hZ
  clear hZ hl
  go_enter Try.func8, Try.ntmps8
  go_wp2_with fail
  refine (awake_walk w).mono ?_
  rintro e w1 ⟨rfl, hB⟩
  have HB1 : Hid (Below w.heap.size w w1) := hB
  clear hB
  go_wp2_with fail
  go_cut [6] (fun tv wx => ∃ T, tv = .pointer (some ⟨T, 0, none⟩) ∧ S0 w q T wx)
  case first =>
    go_region_with (fail)
    all_goals go_wp2_with fail
    all_goals go_meet
    all_goals refine ⟨_, rfl, ?_⟩
    all_goals first
      | exact s0_of HZ.out hq4 HB1.out (below3 _ _ _ _) (heap3 w1 _ _ _).2.2 (heap3 w1 _ _ _).1 (heap3 w1 _ _ _).2.1 (by omega) (by omega) (by omega)
      | exact s0_of HZ.out hq4 HB1.out (below3 _ _ _ _) (heap3 w1 _ _ _).2.1 (heap3 w1 _ _ _).1 (heap3 w1 _ _ _).2.2 (by omega) (by omega) (by omega)
      | exact s0_of HZ.out hq4 HB1.out (below3 _ _ _ _) (heap3 w1 _ _ _).2.2 (heap3 w1 _ _ _).2.1 (heap3 w1 _ _ _).1 (by omega) (by omega) (by omega)
      | exact s0_of HZ.out hq4 HB1.out (below3 _ _ _ _) (heap3 w1 _ _ _).2.1 (heap3 w1 _ _ _).2.2 (heap3 w1 _ _ _).1 (by omega) (by omega) (by omega)
      | exact s0_of HZ.out hq4 HB1.out (below3 _ _ _ _) (heap3 w1 _ _ _).1 (heap3 w1 _ _ _).2.1 (heap3 w1 _ _ _).2.2 (by omega) (by omega) (by omega)
      | exact s0_of HZ.out hq4 HB1.out (below3 _ _ _ _) (heap3 w1 _ _ _).1 (heap3 w1 _ _ _).2.2 (heap3 w1 _ _ _).2.1 (by omega) (by omega) (by omega)
  case rest =>
    obtain ⟨T, rfl, pv, cv, hbx, hpv, hcv, hTb, hBc⟩ := hcut
    obtain ⟨w2, hw2⟩ : ∃ w2, w2 = wc := ⟨_, rfl⟩
    subst hw2
    obtain ⟨w3, hw3⟩ : ∃ w3, w3 = (w2.alloc (.cells Z 3)).alloc (.cells Z 3) := ⟨_, rfl⟩
    have HB23 : Hid (Below w2.heap.size w2 w3) := by show Below _ _ _; rw [hw3]; exact below_trans (below_alloc _ _) (below_alloc _ _)
    have hTl : T < w2.heap.size := (Array.getElem?_eq_some_iff.1 hbx).1
    have HLQ : Hid (Lq w T ⟨0, zeros q, zeros q⟩ pv cv (.slice (some ⟨w2.heap.size, 0, none⟩) q q) (.slice (some ⟨w2.heap.size + 1, 0, none⟩) q q) w3) := by
      have g0 : w3.heap[w2.heap.size]? = some (.cells Z 3 (0, 0)) := by rw [hw3]; exact keepP (heap_alloc_new w2 _) (below_alloc _ _)
      have g1 : w3.heap[w2.heap.size + 1]? = some (.cells Z 3 (0, 0)) := by rw [hw3]; have := heap_alloc_new (w2.alloc (.cells Z 3)) (.cells Z 3); simpa using this
      exact ⟨keepP hbx HB23.out, hpv.below HB23.out, hcv.below HB23.out, nx_made HZ.out hq4 g0 (by omega), nx_made HZ.out hq4 g1 (by omega), right_zero q, by simp [zeros_len]; omega, hTb, below_trans hBc HB23.out⟩
    have HW3 : Hid (w3 = (w2.alloc (.cells Z 3)).alloc (.cells Z 3)) := hw3
    clear hbx hpv hcv hTb hBc hTl hw3
    go_wp2_with fail
    rw [← HW3.out]
    clear hmk rm rm' hwq
    go_loopw [7, 8, 9] (fun lv nv iv wr => ∃ (i : Nat) (t : Tp) (pv cv : Value), i ≤ L.length ∧ iv = .int .i64 i ∧ t.b ≤ i ∧ Lq w T t pv cv lv nv wr) (fun _ _ iv _ => L.length - (intOf iv).toNat)
    case atStart => exact ⟨0, _, _, _, Nat.zero_le _, rfl, by simp, HLQ.out⟩
    case round =>
      clear HLQ
      obtain ⟨i, t, pv, cv, hi, hiv, htb, hQ⟩ := hrel
      subst hiv
      have HQ : Hid (Lq w T t pv cv u7 u8 wr) := hQ
      have HTB : Hid (t.b ≤ i ∧ 0 ≤ t.b) := ⟨htb, hQ.right.1⟩
      obtain ⟨p0, pc0, hpe, _⟩ := hQ.p.1.form
      subst hpe
      obtain ⟨c0, cc0, hce, _⟩ := hQ.c.1.form
      subst hce
      clear hQ htb
      by_cases hlt : i < L.length
      · have hlti : (i : Int) < (L.length : Int) := by omega
        obtain ⟨eb, eoff, u, hue, d0, hnv⟩ := HEL.out i hlt
        subst hue
        obtain ⟨l, hl⟩ : ∃ l, l = lth L i := ⟨_, rfl⟩
        rw [← hl] at hnv
        have HNU : Hid (Nv w u l) := hnv
        have HL8 : Hid (l.length * 8 ≤ 140737488355328) := by show _ ≤ _; have := HLL.out i hlt; rw [← hl] at this; omega
        obtain ⟨uo, uc, hue, _⟩ := hnv.form
        subst hue
        have HD : Hid (∀ wx, Below w.heap.size w wx → wx.cell? ⟨eb, eoff + i, none⟩ = some (.slice uo l.length uc)) := fun wx hb => by rw [hb.cell (p := ⟨eb, eoff + i, none⟩) (cell_lt d0)]; exact d0
        have HC8 : Hid (t.c.length * 8 ≤ 140737488355328) := by show _ ≤ _; have := HQ.out.small; omega
        have HBD : Hid (-9223372036854775808 ≤ t.b ∧ t.b < 9223372036854775808) := by have := HTB.out; exact ⟨by omega, by omega⟩
        clear hl hnv d0
        have j0 : ∀ wx, Below wr.heap.size wr wx → wx.cell? ⟨T, 0, none⟩ = some (.int .i64 t.b) := fun wx hb => (HQ.out.go hb).cells.1.1
        have j1 : ∀ wx, Below wr.heap.size wr wx → wx.cell? ⟨T, 1, none⟩ = some (.slice p0 t.p.length pc0) := fun wx hb => (HQ.out.go hb).cells.1.2.1
        have j2 : ∀ wx, Below wr.heap.size wr wx → wx.cell? ⟨T, 2, none⟩ = some (.slice c0 t.c.length cc0) := fun wx hb => (HQ.out.go hb).cells.1.2.2
        have j3 : ∀ wx, Below wr.heap.size wr wx → wx.cell? ⟨eb, eoff + i, none⟩ = some (.slice uo l.length uc) := fun wx hb => HD.out wx (below_trans HQ.out.below hb)
        have hSd : Below wr.heap.size wr wr.drew := (Below.refl _ _).drew
        go_wp2_with fail
        go_cut [10, 11] (fun uv ev wx => Su wr t l uv ev wx)
        case first =>
          go_region_held3 (fun wx => Below wr.heap.size wr wx) (first | assumption | exact below_trans (by assumption) (below_alloc _ _) | exact (below_alloc _ _).drew | exact ((hS5.setCell (p := ⟨_, 0, none⟩) (Nat.le_refl _) _).setCell (p := ⟨_, 1, none⟩) (Nat.le_refl _) _).setCell (p := ⟨_, 2, none⟩) (Nat.le_refl _) _)
            (first
              | (go_at_call 21; refine (step_walk (t := t) (tl := l) ((HQ.out.go (by assumption)).p.1) ((HQ.out.go (by assumption)).c.1) (HNU.out.below (below_trans HQ.out.below (by assumption))) HC8.out HL8.out HBD.out).mono ?_; rintro e w5 ⟨p', c', rfl, hp, hc, hB5⟩; obtain ⟨po, pc, hpv, _⟩ := row_form hp; subst hpv; obtain ⟨co, cc, hcv, _⟩ := row_form hc; subst hcv; have hS5 : Below wr.heap.size wr w5 := below_trans (by assumption) hB5; try (have hnb := new_box hB5; obtain ⟨z0, z1, z2⟩ := box_cells hnb; have f0 := soft_box hnb 0; have f1 := soft_box hnb 1; have f2 := soft_box hnb 2)))
          all_goals go_wp2_with fail
          all_goals go_meet
          all_goals first
            | exact su_of (heap_alloc_new w5 _) hp hc (fun x hx _ => (below_alloc w5 _).block x hx) hS5.size (below_trans hS5 (below_alloc _ _))
            | exact su_of (box_set hnb) (row_base hp (fun x hx => Nat.le_trans (below_alloc wr _).size (hp.lt x hx).1)) (row_base hc (fun x hx => Nat.le_trans (below_alloc wr _).size (hc.lt x hx).1)) (fun x hx ho => (grown_set3 w5 wr.heap.size _ _ _).block x hx (by
                intro e
                cases e
                have hs : (wr.alloc (Obj.cells #[.int .i64 0, .slice none 0 0, .slice none 0 0] 46)).drew.heap.size = wr.heap.size + 1 := by simp [World.drew]
                rcases ho with ho | ho
                · have h1 := (hp.lt _ ho).1; omega
                · have h1 := (hc.lt _ ho).1; omega)) (Nat.le_refl _) (((hS5.setCell (p := ⟨_, 0, none⟩) (Nat.le_refl _) _).setCell (p := ⟨_, 1, none⟩) (Nat.le_refl _) _).setCell (p := ⟨_, 2, none⟩) (Nat.le_refl _) _)
        case rest =>
          clear j0 j1 j2 j3 hSd
          obtain ⟨U, p', c', hue, hve, hUb, hp, hc, hU, hB⟩ := hcut
          subst hue
          subst hve
          obtain ⟨po, pc, hpv, _⟩ := row_form hp
          subst hpv
          obtain ⟨co, cc, hcv, _⟩ := row_form hc
          subst hcv
          obtain ⟨w5, hw5⟩ : ∃ w5, w5 = wc := ⟨_, rfl⟩
          subst hw5
          have HQ5 : Hid (Lq w T t (.slice p0 t.p.length pc0) (.slice c0 t.c.length cc0) u7 u8 w5) := HQ.out.go hB
          have HTU : Hid (T < wr.heap.size) := (Array.getElem?_eq_some_iff.1 HQ.out.box).1
          have hTUn : ¬ T = U := by have := HTU.out; omega
          have hUTn : ¬ U = T := by omega
          have HUB : Hid (w5.heap[U]? = some (.cells #[.int .i64 (stepT t l).b, .slice po (stepT t l).p.length pc, .slice co (stepT t l).c.length cc] 46 (0, 0))) := hUb
          have HP5 : Hid (w5.ownsRow wr.heap.size 3 1 (.slice po (stepT t l).p.length pc) (stepT t l).p.length (cellsN (stepT t l).p)) := hp
          have HC5 : Hid (w5.ownsRow wr.heap.size 3 1 (.slice co (stepT t l).c.length cc) (stepT t l).c.length (cellsN (stepT t l).c)) := hc
          have d5 := HD.out w5 HQ5.out.below
          clear hUb hp hc hB
          go_wp2_with fail
          refine (fwd_walk HQ5.out.now.1 (HNU.out.below HQ5.out.below)).mono ?_
          by_cases hf : Fwd t.c l
          · rw [hf.yes]
            rintro e w6 ⟨rfl, hB6⟩
            have HI : Hid (stepI t l = 0) := by show _ = _; unfold stepI; rw [if_pos (step_yes HQ.out.right hf), if_neg (by have := HTB.out; omega)]
            have HST : Hid (stepT t l = ⟨t.b + 1, t.c, l⟩) := by show _ = _; unfold stepT; rw [if_pos HI.out]
            have HF : Hid (Fwd t.c l) := hf
            rw [HI.out]
            rw [HST.out] at HUB HP5 HC5
            simp only at HUB HP5 HC5
            have HQ6 : Hid (Lq w T t (.slice p0 t.p.length pc0) (.slice c0 t.c.length cc0) u7 u8 w6) := HQ5.out.go hB6
            have HUB6 : Hid (w6.heap[U]? = some (.cells #[.int .i64 (t.b + 1), .slice po t.c.length pc, .slice co l.length cc] 46 (0, 0))) := keepP HUB.out hB6
            obtain ⟨z0, z1, z2⟩ := box_cells HUB6.out
            obtain ⟨⟨y0, y1, y2⟩, hfr⟩ := HQ6.out.cells
            have f0 := hfr 0
            have f1 := hfr 1
            have f2 := hfr 2
            have r1 : IntKind.i64.wrap (t.b + 1) = t.b + 1 := wrapU (by have := HTB.out; omega) (by have := HTB.out; omega)
            have hq1 : (t.b + 1 != t.b + 1) = false := by simp
            obtain ⟨w7, hw7⟩ : ∃ w7, w7 = ((w6.setCell ⟨T, 0, none⟩ (.int .i64 (t.b + 1))).setCell ⟨T, 1, none⟩ (.slice po t.c.length pc)).setCell ⟨T, 2, none⟩ (.slice co l.length cc) := ⟨_, rfl⟩
            have HW7 : Hid (w7 = ((w6.setCell ⟨T, 0, none⟩ (.int .i64 (t.b + 1))).setCell ⟨T, 1, none⟩ (.slice po t.c.length pc)).setCell ⟨T, 2, none⟩ (.slice co l.length cc)) := hw7
            have HQ7 : Hid (Lq w T ⟨t.b + 1, t.c, l⟩ (.slice po t.c.length pc) (.slice co l.length cc) u8 (.slice uo l.length uc) w7) :=
              Lq.step HQ6.out hw7 ((nx_own HP5.out HQ.out.c.1.2 HTU.out).below hB6) ((nx_own HC5.out HNU.out.2 HTU.out).below hB6) (nx_old HNU.out HQ6.out.below HQ.out.base) hf
            have ND : ¬ eb = T := by
              intro e
              have h1 := HD.out w (Below.refl _ _)
              have h2 := cell_lt h1
              have h3 := HQ.out.base
              simp only at h2
              omega
            have ND' : ¬ T = eb := fun e => ND e.symm
            have d6 := HD.out w6 HQ6.out.below
            clear hB6 hf hw7 d5
            go_wp2_with fail
            rw [← HW7.out]
            refine (at_walk (t := ⟨t.b + 1, t.c, l⟩) HQ7.out.p.1 HQ7.out.c.1 HC8.out HL8.out (by have := HTB.out; simp only; omega) (t.b + 1)).mono ?_
            rintro e w8 ⟨v8, rfl, hv8, hB8⟩
            have HV8 : Hid (Nv w8 v8 l) := by
              have hb : atL ⟨t.b + 1, t.c, l⟩ (t.b + 1) = l := if_pos rfl
              rw [hb] at hv8
              exact own_nv hv8 HNU.out.2
            rw [show atB ⟨t.b + 1, t.c, l⟩ (t.b + 1) = true from decide_eq_true (.inl rfl)]
            have HQ8 : Hid (Lq w T ⟨t.b + 1, t.c, l⟩ (.slice po t.c.length pc) (.slice co l.length cc) u8 (.slice uo l.length uc) w8) := HQ7.out.go hB8
            clear hv8 hB8 y0 y1 y2 f0 f1 f2 hfr z0 z1 z2 d6
            obtain ⟨⟨y0, y1, y2⟩, _⟩ := HQ8.out.cells
            simp only at y0
            have r2 : IntKind.i64.wrap t.b = t.b := wrapU (by have := HTB.out; omega) (by have := HTB.out; omega)
            go_wp2_with fail
            refine (at_walk (t := ⟨t.b + 1, t.c, l⟩) HQ8.out.p.1 HQ8.out.c.1 HC8.out HL8.out (by have := HTB.out; simp only; omega) t.b).mono ?_
            rintro e w9 ⟨v9, rfl, hv9, hB9⟩
            have HV9 : Hid (Nv w9 v9 t.c) := by
              have hb : atL ⟨t.b + 1, t.c, l⟩ t.b = t.c := by
                unfold atL
                rw [if_neg (by simp only; omega), if_pos ⟨by have := HTB.out; simp only; omega, by simp only; omega⟩]
              rw [hb] at hv9
              exact own_nv hv9 HQ.out.c.1.2
            rw [show atB ⟨t.b + 1, t.c, l⟩ t.b = true from decide_eq_true (.inr ⟨by have := HTB.out; simp only; omega, by simp only; omega⟩)]
            have HB89 : Hid (Below w8.heap.size w8 w9) := hB9
            have HQ9 : Hid (Lq w T ⟨t.b + 1, t.c, l⟩ (.slice po t.c.length pc) (.slice co l.length cc) u8 (.slice uo l.length uc) w9) := HQ8.out.go hB9
            clear hv9 hB9 y0 y1 y2
            obtain ⟨⟨y0, y1, y2⟩, _⟩ := HQ9.out.cells
            simp only at y0
            have r3 : IntKind.i64.wrap (t.b + 1 + 1) = t.b + 1 + 1 := wrapU (by have := HTB.out; omega) (by have := HTB.out; omega)
            go_wp2_with fail
            refine (at_walk (t := ⟨t.b + 1, t.c, l⟩) HQ9.out.p.1 HQ9.out.c.1 HC8.out HL8.out (by have := HTB.out; simp only; omega) (t.b + 1 + 1)).mono ?_
            rintro e w10 ⟨v10, rfl, hv10, hB10⟩
            rw [show atB ⟨t.b + 1, t.c, l⟩ (t.b + 1 + 1) = false from decide_eq_false (by rintro (h | ⟨_, h⟩) <;> (simp only at h; omega))]
            have HB810 : Hid (Below w8.heap.size w8 w10) := below_trans HB89.out hB10
            have HB910 : Hid (Below w9.heap.size w9 w10) := hB10
            have HQ10 : Hid (Lq w T ⟨t.b + 1, t.c, l⟩ (.slice po t.c.length pc) (.slice co l.length cc) u8 (.slice uo l.length uc) w10) := HQ9.out.go hB10
            clear hv10 hB10 y0 y1 y2
            go_wp2_with fail
            refine (ints_walk (HV8.out.below HB810.out) HQ10.out.now.1).mono ?_
            rw [decide_eq_true rfl]
            rintro e w11 ⟨rfl, hB11⟩
            have HB1011 : Hid (Below w10.heap.size w10 w11) := hB11
            have HQ11 : Hid (Lq w T ⟨t.b + 1, t.c, l⟩ (.slice po t.c.length pc) (.slice co l.length cc) u8 (.slice uo l.length uc) w11) := HQ10.out.go hB11
            clear hB11
            go_wp2_with fail
            refine (ints_walk (HV9.out.below (below_trans HB910.out HB1011.out)) HQ11.out.last.1).mono ?_
            rw [decide_eq_true rfl]
            rintro e w12 ⟨rfl, hB12⟩
            have HQ12 : Hid (Lq w T ⟨t.b + 1, t.c, l⟩ (.slice po t.c.length pc) (.slice co l.length cc) u8 (.slice uo l.length uc) w12) := HQ11.out.go hB12
            clear hB12
            go_wp2_with fail
            go_roundw
            case rel => exact ⟨i + 1, _, _, _, by omega, by go_num, by have := HTB.out; simp only; omega, HQ12.out⟩
            case measure => simp [intOf]; omega
          · rw [Fwd.no hf]
            rintro e w6 ⟨rfl, hB6⟩
            have HI : Hid (stepI t l = 70) := by show _ = _; unfold stepI; rw [if_neg (fun h => hf (step_of h).2)]
            have HST : Hid (stepT t l = ⟨0, [], []⟩) := by show _ = _; unfold stepT; rw [HI.out]; rfl
            rw [HI.out]
            rw [HST.out] at HUB
            simp only [List.length_nil] at HUB
            have HQ6 : Hid (Lq w T t (.slice p0 t.p.length pc0) (.slice c0 t.c.length cc0) u7 u8 w6) := HQ5.out.go hB6
            obtain ⟨z0, z1, z2⟩ := box_cells (keepP HUB.out hB6)
            clear hB6 hf d5
            go_wp2_with fail
            go_roundw
            case rel => exact ⟨i + 1, t, _, _, by omega, by go_num, by have := HTB.out; omega, HQ6.out⟩
            case measure => simp [intOf]; omega
      · have hlti : ¬ (i : Int) < (L.length : Int) := by omega
        go_wp2_with fail
        go_ret
        exact ⟨rfl, HQ.out.below⟩

end Go.Proofs.Ytjkhegekojflhaa

namespace Go.Proofs.Ytjkhegekojflhaa

theorem bulk_one {H : Type} (d : DataW H) : 1 ≤ Rows.uptoBulk d := by
  cases d with
  | lit l => cases l <;> simp [Rows.uptoBulk]
  | nil => simp [Rows.uptoBulk]
  | ptr d => simp [Rows.uptoBulk]
  | slice elems spare => simp [Rows.uptoBulk]
  | agg parts => simp [Rows.uptoBulk]
  | iface t d => simp [Rows.uptoBulk]
  | map entries => simp [Rows.uptoBulk]
  | held h => simp [Rows.uptoBulk]

theorem bulk_len {H : Type} (l : List (DataW H)) : l.length ≤ Rows.uptoBulkAll l := by
  induction l with
  | nil => simp [Rows.uptoBulkAll]
  | cons x r ih => have := bulk_one x; simp only [Rows.uptoBulkAll, List.length_cons]; omega

theorem bulk_mem {H : Type} {d : DataW H} {l : List (DataW H)} (h : d ∈ l) : Rows.uptoBulk d ≤ Rows.uptoBulkAll l := by
  induction l with
  | nil => cases h
  | cons x r ih =>
    simp only [Rows.uptoBulkAll]
    cases List.mem_cons.1 h with
    | inl e => subst e; omega
    | inr e => have := ih e; omega

theorem bulk_slice {H : Type} (elems spare : List (DataW H)) : Rows.uptoBulkAll elems + 1 ≤ Rows.uptoBulk (.slice elems spare) := by
  simp only [Rows.uptoBulk]; omega

/-- The bound on one of the arguments. -/
theorem bulk_arg {H : Type} {l : List (DataW H)} {d : DataW H} (hk : Rows.uptoSmall H l = true) (h : d ∈ l) : Rows.uptoBulk d ≤ 1048576 := by
  have h1 : Rows.uptoBulkAll l ≤ 1048576 := by simpa [Rows.uptoSmall] using hk
  exact Nat.le_trans (bulk_mem h) h1

/-- A slice's length under the bound. -/
theorem small_len {H : Type} {l : List (DataW H)} {d : DataW H} {n : Nat} (hk : Rows.uptoSmall H l = true) (h : d ∈ l) (hz : (d = .nil ∧ n = 0) ∨ ∃ elems spare, d = .slice elems spare ∧ elems.length = n) : n ≤ 1048576 := by
  rcases hz with ⟨_, rfl⟩ | ⟨el, sp, rfl, rfl⟩
  · omega
  · have h1 := bulk_arg hk h
    have h2 := bulk_slice el sp
    have h3 := bulk_len el
    omega
end Go.Proofs.Ytjkhegekojflhaa

namespace Go.Proofs.Ytjkhegekojflhaa
open Go.ChangeShapes Go.WideShapes Go.ChangeAt Go.RowKit

theorem szd_bulk {H : Type} {d : DataW H} {l : List Int} (h : Szd d l) : l.length + 1 ≤ Rows.uptoBulk d := by
  rcases h with ⟨rfl, rfl⟩ | ⟨el, sp, rfl, h⟩
  · have := bulk_one (DataW.nil (H := H)); simpa using this
  · have h1 := bulk_slice el sp
    have h2 := bulk_len el
    omega

set_option maxRecDepth 20000 in
theorem open_lv {H : Type} {enc : TypeId × Value → H} {W : World} {v : Value} {d : DataW H} {p : List MemPlace} {base : Nat}
    (hv : Value.okWide Try.prog W .any base 61 v) (h : DataW.Trod enc Try.prog W 0 (fun _ => true) true 61 v d p) :
    ∃ L : List (List Int), Lv W v L ∧ L.length ≤ Rows.uptoBulk d ∧ ∀ i, i < L.length → (lth L i).length ≤ Rows.uptoBulk d := by
  obtain ⟨ao, len0, cap0, rfl⟩ := okWide_slice Try.underlying61 hv
  obtain ⟨fuel, hf⟩ := h
  rcases Go.Deep.open_slice Try.underlying61 hf with ⟨hcs, hx⟩ | ⟨a, len, cap, m, n, D, Pl, hcs, _, hl, hm, hmm, hx, hel⟩
  · simp [Value.cells] at hcs
    obtain ⟨rfl, rfl, rfl⟩ := hcs
    exact ⟨[], ⟨none, 0, rfl, by simp [maxLen], Nat.le_refl _, fun i hi => by simp at hi⟩, by simp, fun i hi => by simp at hi⟩
  · simp [Value.cells] at hcs
    obtain ⟨rfl, rfl, rfl⟩ := hcs
    simp only [if_true] at hmm
    simp only [Prod.mk.injEq] at hx
    have each : ∀ i, ∃ (u : Value) (l : List Int), i < len0 → W.cell? (a.add i) = some u ∧ Nv W u l ∧ Szd (D i) l := by
      intro i
      by_cases hi : i < len0
      · obtain ⟨cs', h1, h2⟩ := hel i (by omega)
        rw [cells_ints] at h1
        obtain ⟨_, hlen, hcell⟩ := World.cells?_some h1
        obtain ⟨u, l, hcs, hu, hz⟩ := core_nv h2
        subst hcs
        have e0 := hcell 0 (by omega)
        rw [Go.Deep.add_add] at e0
        exact ⟨u, l, fun _ => ⟨by simpa using e0, hu, hz⟩⟩
      · exact ⟨undef, [], fun h => absurd h hi⟩
    obtain ⟨V, hV⟩ : ∃ V : Nat → Value × List Int, ∀ i, i < len0 → W.cell? (a.add i) = some (V i).1 ∧ Nv W (V i).1 (V i).2 ∧ Szd (D i) (V i).2 :=
      ⟨fun i => ((each i).choose, (each i).choose_spec.choose), fun i => (each i).choose_spec.choose_spec⟩
    clear each hel
    have hlth : ∀ i, i < len0 → lth ((List.range len0).map fun i => (V i).2) i = (V i).2 := by
      intro i hi
      unfold lth
      rw [List.getD_eq_getElem?_getD]
      simp [hi]
    have hbulk : Rows.uptoBulkAll ((List.range len0).map D) + 1 ≤ Rows.uptoBulk d := by rw [hx.1]; exact bulk_slice _ _
    refine ⟨(List.range len0).map fun i => (V i).2, ⟨some a, cap0, by simp, hm, by simpa using hl, fun i hi => ?_⟩, ?_, fun i hi => ?_⟩
    · have hil : i < len0 := by simpa using hi
      obtain ⟨h0, _⟩ := hV 0 (by omega)
      obtain ⟨g0, g1, _⟩ := hV i hil
      obtain ⟨b, off, spot⟩ := a
      have hs1 : spot = none := by simpa [Addr.add] using World.cell?_spot h0
      subst hs1
      rw [WideShapes.add_plain] at g0
      exact ⟨b, off, (V i).1, rfl, by simpa using g0, by rw [hlth i hil]; exact g1⟩
    · have := bulk_len ((List.range len0).map D)
      simp at this ⊢
      omega
    · have hil : i < len0 := by simpa using hi
      rw [hlth i hil]
      have h1 := szd_bulk (hV i hil).2.2
      have h2 : Rows.uptoBulk (D i) ≤ Rows.uptoBulkAll ((List.range len0).map D) := bulk_mem (List.mem_map.2 ⟨i, List.mem_range.2 hil, rfl⟩)
      omega
end Go.Proofs.Ytjkhegekojflhaa

namespace Go.Proofs.Ytjkhegekojflhaa
open Go.ChangeShapes Go.WideShapes Go.ChangeAt Go.RowKit

set_option maxRecDepth 100000 in
theorem lifted_spoutSteps (os : Os) (started : os.Started) (H : Type) (enc : TypeId × Value → H) (F : Stop.Interp) :
    ReturnsInHanded {} Try.checked os 8 .any ((Rows.OpenSpec.upto Rows.spoutStepsSpec).pre6 enc Try.prog Try.f8 Rows.spoutStepsUptoRow.domain false) (((Rows.OpenSpec.upto Rows.spoutStepsSpec).at F).post enc Try.prog Try.f8 false true false false) := by
  refine returnsInHanded_of_cond (C := Try.checked) (s := Rows.OpenSpec.upto Rows.spoutStepsSpec) (k := Rows.uptoSmall) rfl own_knob started (by kernel_rfl) Try.func8
    (OpenSpec.witness (enc := enc) (C := Try.checked) (s := Rows.OpenSpec.upto Rows.spoutStepsSpec) (k := Rows.uptoSmall) rfl false ⟨#[], #[.slice none 0 0, .int .i64 0], []⟩ 8 (by kernel_rfl) (by kernel_rfl) (by kernel_rfl)
      (x := ([.nil, .lit (.int .i64 0)], [], [])) (by kernel_rfl) rfl (by kernel_rfl)) ?_
  intro W base args ds gs before hval0 hW _ hk _
  have hval : ∀ (j : Nat) t v, Try.f8.params[j]? = some t → args[j]? = some v → Value.okWide Try.prog W .any base t v := hval0
  have hW' := hW
  obtain ⟨p, q, hA0, hV, rfl, hfz, hnd⟩ := hW
  have hA : DataW.TrodAll enc Try.prog W 0 (fun _ => true) true Try.f8.params.toList args.toList ds p := hA0
  rw [Try.params8] at hA hval
  obtain ⟨v0, vs0, d0, ds0, p0, q0, hargs, rfl, rfl, t0, r0⟩ := trodAll_cons hA
  obtain ⟨v1, vs1, d1, ds1, p1, q1, rfl, rfl, rfl, t1, r1⟩ := trodAll_cons r0
  obtain ⟨rfl, rfl, rfl⟩ := trodAll_nil r1
  obtain rfl : args = #[v0, v1] := by cases args; simp_all
  obtain ⟨rfl, rfl⟩ := trodVars_none hV
  simp only [List.append_nil] at hW' hk
  obtain ⟨l0, b0, z0, y0⟩ := open_lv (hval 0 61 v0 rfl rfl) t0
  have o1 := open_int Try.underlying3 (hval 1 3 v1 rfl rfl) t1
  obtain ⟨a1, e1, _, _, wf1⟩ := o1
  have w1 := i64_of_wf wf1
  subst e1
  have hbk : Rows.uptoBulk d0 ≤ 1048576 := bulk_arg hk (by simp)
  refine (spoutsteps_walk b0 (Nat.le_trans z0 hbk) (fun i hi => Nat.le_trans (y0 i hi) hbk)).mono fun e W' ⟨he, hB⟩ => ?_
  subst he
  exact ⟨_, rfl, post_of_below (pv := []) hW' (fun _ _ _ => (trodAll_cons_mk (shut_bool Try.underlying4 _) trodAll_mk0)) (fun sp hsp => (trodAll_cons_mk (again (by kernel_rfl) (of_decide_eq_true (by kernel_rfl)) t0 hB (fun x hx => by simpa using hW'.lt x (by simp [hx])) (fun x hx => hsp x (by simp [hx]))) (trodAll_cons_mk (again (by kernel_rfl) (of_decide_eq_true (by kernel_rfl)) t1 hB (fun x hx => by simpa using hW'.lt x (by simp [hx])) (fun x hx => hsp x (by simp [hx]))) trodAll_mk0))) (fun _ _ => rfl) (by simp) hB⟩

theorem spoutSteps_upto : Rows.SpoutStepsUptoSaid :=
  OpenClaim.holds_of_cond 8 Try.f8 rfl rfl rfl rfl rfl rfl rfl ⟨rfl, rfl, rfl, rfl, rfl⟩ rfl rfl rfl rfl rfl (by kernel_rfl) Try.func8 (by kernel_rfl)
    (of_decide_eq_true (by kernel_rfl)) (by unfold Func.isWrapper; first | (rw [if_pos (by decide +kernel)]; kernel_rfl) | (rw [if_neg (by decide +kernel)]; exact ⟨rfl, rfl⟩))
    (fun os started H enc _ F => lifted_spoutSteps os started H enc F)
#print axioms spoutSteps_upto
end Go.Proofs.Ytjkhegekojflhaa
