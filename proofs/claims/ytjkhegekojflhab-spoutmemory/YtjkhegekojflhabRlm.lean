/- SpoutMemory: ends that are handed in stay, their spare room too, and are not kept; what is answered is new memory.
-/
import Derived.Test.YtjkhegekojflhabNi
import Derived.Test.YtjkhegekojflhabNz
import Derived.SizedLaws
namespace Go.Proofs.Ytjkhegekojflhab
open Ieee Go.RowKit

theorem formI_zero {S : Sc} {a : List Int} {m : Int} (h : formI S a m = 0) : Fit S a ∧ 1 ≤ m := by
  unfold formI at h
  by_cases h1 : m < 1 ∨ 16 < m
  · rw [if_pos h1] at h; omega
  · rw [if_neg h1] at h
    by_cases h2 : Fit S a
    · exact ⟨h2, by omega⟩
    · rw [if_neg (fun e => h2 (Fit.of e))] at h; omega
theorem formL_in64 {S : Sc} (hok : S.ok) (a : List Int) (m : Int) : In64 (formL S a m) := by
  unfold formL
  split
  · rename_i h
    obtain ⟨h1, h2⟩ := formI_zero h
    exact form_in64 hok h1 h2
  · intro x hx; simp at hx
theorem formR_ok {S : Sc} (hok : S.ok) (a : List Int) (m : Int) : ∀ r ∈ formR S a m, r.ok := by
  unfold formR
  split
  · exact betS_ok hok _ _ _
  · simp
theorem formR_len {S : Sc} (hok : S.ok) (a : List Int) (m : Int) : (formR S a m).length ≤ 1048576 := by
  unfold formR
  split
  · rename_i h
    obtain ⟨h1, h2⟩ := formI_zero h
    have := betS_le hok a (formT S a m) a.length
    have := h1.1
    have := hok.np4
    omega
  · simp
/-- A row of records of the call's own, as the statements' records asks it. -/
theorem own_recs {w : World} {base e n : Nat} {v : Value} {l : List Rcd} (h : w.ownsRow base e 2 v n (flatR l)) (hok : ∀ r ∈ l, r.ok) : ∃ ao cap, v = .slice ao l.length cap ∧ Rl w ao l := own_rl h hok

/-- A filling in its block: what the block holds while nothing below it turns. -/
theorem full_box {w w0 : World} {n : Int} {rv av ov : Value} (h : w0 = w.alloc (Obj.cells #[.int .i64 n, rv, av, ov] 25)) :
    ∀ wx, Below w0.heap.size w0 wx → wx.cell? ⟨w.heap.size, 0, none⟩ = some (.int .i64 n) ∧ wx.cell? ⟨w.heap.size, 1, none⟩ = some rv ∧ wx.cell? ⟨w.heap.size, 2, none⟩ = some av ∧ wx.cell? ⟨w.heap.size, 3, none⟩ = some ov := fun wx hb => by
  have hz : w.heap.size < w0.heap.size := by rw [h]; simp
  refine ⟨?_, ?_, ?_, ?_⟩ <;> (rw [hb.cell (p := ⟨w.heap.size, _, none⟩) hz, h]; simp [go_sem])

end Go.Proofs.Ytjkhegekojflhab

namespace Go.Proofs.Ytjkhegekojflhab
open Ieee Go.RowKit

theorem againR_ok {S : Sc} (hok : S.ok) (a b : List Int) : ∀ r ∈ againR S a b, r.ok := by
  unfold againR
  split
  · exact betS_ok hok _ _ _
  · simp
theorem againR_len {S : Sc} (hok : S.ok) (a b : List Int) : (againR S a b).length ≤ 1048576 := by
  unfold againR
  split
  · rename_i h
    have := betS_le hok a b a.length
    have := (again_of h).1.1
    have := hok.np4
    omega
  · simp

end Go.Proofs.Ytjkhegekojflhab

namespace Go.Proofs.Ytjkhegekojflhab
open Ieee Go.RowKit

theorem triple_box {w w0 : World} {b : Int} {pv cv : Value} (h : w0 = w.alloc (Obj.cells #[.int .i64 b, pv, cv] 42)) :
    ∀ wx, Below w0.heap.size w0 wx → wx.cell? ⟨w.heap.size, 0, none⟩ = some (.int .i64 b) ∧ wx.cell? ⟨w.heap.size, 1, none⟩ = some pv ∧ wx.cell? ⟨w.heap.size, 2, none⟩ = some cv := fun wx hb => by
  have hz : w.heap.size < w0.heap.size := by rw [h]; simp
  refine ⟨?_, ?_, ?_⟩ <;> (rw [hb.cell (p := ⟨w.heap.size, _, none⟩) hz, h]; simp [go_sem])

theorem step_in64 {t : Tp} {tl : List Int} (hc : In64 t.c) (ht : In64 tl) : In64 (stepT t tl).p ∧ In64 (stepT t tl).c := by
  unfold stepT
  split
  · exact ⟨hc, ht⟩
  · exact ⟨fun x hx => by simp at hx, fun x hx => by simp at hx⟩
theorem at_in64 {t : Tp} (hp : In64 t.p) (hc : In64 t.c) (n : Int) : In64 (atL t n) := by
  unfold atL
  split
  · exact hc
  · split
    · exact hp
    · exact fun x hx => by simp at hx

end Go.Proofs.Ytjkhegekojflhab

namespace Go.Proofs.Ytjkhegekojflhab
open Ieee Go.RowKit

def lth (L : List (List Int)) (i : Nat) : List Int := L.getD i []
/-- The value v is a slice of slices of ints that holds L. -/
def Lv (w : World) (v : Value) (L : List (List Int)) : Prop :=
  ∃ ao cap, v = .slice ao L.length cap ∧ cap ≤ maxLen ∧ L.length ≤ cap ∧ ∀ i, i < L.length → ∃ b off u, ao = some ⟨b, off, none⟩ ∧ w.cell? ⟨b, off + i, none⟩ = some u ∧ Nv w u (lth L i)

/-- A slice of ints whose cells are none of block T's. -/
def Nx (T : Nat) (w : World) (v : Value) (l : List Int) : Prop := Nv w v l ∧ ∀ b off n c, v = .slice (some ⟨b, off, none⟩) n c → 0 < l.length → b ≠ T
theorem Nx.keep {T : Nat} {w w' : World} {v : Value} {l : List Int} (h : Nx T w v l) (hk : ∀ x, x < w.heap.size → x ≠ T → w'.heap[x]? = w.heap[x]?) : Nx T w' v l := by
  obtain ⟨⟨⟨ao, cap, e, h1, h2, h3, h4⟩, h5⟩, h6⟩ := h
  refine ⟨⟨⟨ao, cap, e, h1, h2, h3, fun i hi => ?_⟩, h5⟩, h6⟩
  obtain ⟨b, off, e2, c⟩ := h4 i hi
  subst e2
  have hb : w'.heap[b]? = w.heap[b]? := hk b (cell_lt c) (h6 b off _ _ e (by omega))
  exact ⟨b, off, rfl, by rw [World.cell?_of_block (w := w) (a := ⟨b, off + i, none⟩) hb]; exact c⟩
theorem Nx.below {T : Nat} {w w' : World} {v : Value} {l : List Int} (h : Nx T w v l) (hb : Below w.heap.size w w') : Nx T w' v l := h.keep (fun x hx _ => hb.block x hx)
theorem nx_old {T : Nat} {w w' : World} {v : Value} {l : List Int} (h : Nv w v l) (hb : Below w.heap.size w w') (hT : w.heap.size ≤ T) : Nx T w' v l := by
  refine ⟨h.below hb, fun b off n c e hl hT' => ?_⟩
  subst e
  obtain ⟨b', off', e2, c2⟩ := h.at hl
  cases e2
  have := cell_lt c2
  simp only at this
  omega
theorem nx_own {T : Nat} {w : World} {base e n : Nat} {v : Value} {l : List Int} (h : w.ownsRow base e 1 v n (cellsN l)) (hl : In64 l) (hT : T < base) : Nx T w v l := by
  refine ⟨own_nv h hl, fun b off n' c e' _ hb => ?_⟩
  subst e'
  have := (h.lt b rfl).1
  omega

structure Lq (w : World) (T : Nat) (t : Tp) (pv cv lv nv : Value) (wr : World) : Prop where
  box : wr.heap[T]? = some (.cells #[.int .i64 t.b, pv, cv] 42 (0, 0))
  p : Nx T wr pv t.p
  c : Nx T wr cv t.c
  last : Nx T wr lv t.p
  now : Nx T wr nv t.c
  right : rightT t
  small : t.c.length ≤ 4
  base : w.heap.size ≤ T
  below : Below w.heap.size w wr
theorem Lq.go {w wr w' : World} {T : Nat} {t : Tp} {pv cv lv nv : Value} (h : Lq w T t pv cv lv nv wr) (hb : Below wr.heap.size wr w') : Lq w T t pv cv lv nv w' :=
  ⟨by rw [hb.block T (Array.getElem?_eq_some_iff.1 h.box).1]; exact h.box, h.p.below hb, h.c.below hb, h.last.below hb, h.now.below hb, h.right, h.small, h.base, below_trans h.below hb⟩
theorem Lq.cells {w wr : World} {T : Nat} {t : Tp} {pv cv lv nv : Value} (h : Lq w T t pv cv lv nv wr) : (wr.cell? ⟨T, 0, none⟩ = some (.int .i64 t.b) ∧ wr.cell? ⟨T, 1, none⟩ = some pv ∧ wr.cell? ⟨T, 2, none⟩ = some cv) ∧ ∀ j, wr.frozen? ⟨T, j, none⟩ = false := by
  refine ⟨⟨?_, ?_, ?_⟩, fun j => by simp [World.frozen?, h.box]⟩ <;> (rw [cell_of_row wr T _ _ _ (0, 0) h.box]; rfl)
theorem box_cells {wr : World} {T : Nat} {b : Int} {pv cv : Value} (h : wr.heap[T]? = some (.cells #[.int .i64 b, pv, cv] 42 (0, 0))) : wr.cell? ⟨T, 0, none⟩ = some (.int .i64 b) ∧ wr.cell? ⟨T, 1, none⟩ = some pv ∧ wr.cell? ⟨T, 2, none⟩ = some cv := by
  refine ⟨?_, ?_, ?_⟩ <;> (rw [cell_of_row wr T _ _ _ (0, 0) h]; rfl)

theorem right_step {t : Tp} {l : List Int} (h : rightT t) (hf : Fwd t.c l) : rightT ⟨t.b + 1, t.c, l⟩ := by
  refine ⟨by have := h.1; simp only; omega, hf, fun i hi => ⟨?_, fun e => ?_⟩⟩
  · simp only at hi ⊢
    have h1 : i < t.c.length := by have := hf.1; omega
    have := (h.2.2 i h1).1
    have h3 := h.2.1.2 i (by have := h.2.1.1; omega)
    omega
  · have := h.1
    simp only at e
    omega
/-- The box written anew. -/
theorem box_set {w : World} {T : Nat} {b b' : Int} {pv cv p' c' : Value} (h : w.heap[T]? = some (.cells #[.int .i64 b, pv, cv] 42 (0, 0))) :
    (((w.setCell ⟨T, 0, none⟩ (.int .i64 b')).setCell ⟨T, 1, none⟩ p').setCell ⟨T, 2, none⟩ c').heap[T]? = some (.cells #[.int .i64 b', p', c'] 42 (0, 0)) := by
  simp only [Sort.setCell_eq]
  simp [Sort.mapBlock, Array.getElem?_modify, h, Sort.onCells]
theorem Lq.step {w wr w' : World} {T : Nat} {t : Tp} {l : List Int} {pv cv lv nv p' c' u : Value} (h : Lq w T t pv cv lv nv wr) (hw : w' = ((wr.setCell ⟨T, 0, none⟩ (.int .i64 (t.b + 1))).setCell ⟨T, 1, none⟩ p').setCell ⟨T, 2, none⟩ c')
    (hp : Nx T wr p' t.c) (hc : Nx T wr c' l) (hu : Nx T wr u l) (hf : Fwd t.c l) : Lq w T ⟨t.b + 1, t.c, l⟩ p' c' nv u w' := by
  subst hw
  have hk : ∀ x, x < wr.heap.size → x ≠ T → (((wr.setCell ⟨T, 0, none⟩ (.int .i64 (t.b + 1))).setCell ⟨T, 1, none⟩ p').setCell ⟨T, 2, none⟩ c').heap[x]? = wr.heap[x]? := fun x hx hn => (grown_set3 wr T _ _ _).block x hx (fun e => hn (by simpa using e))
  exact ⟨box_set h.box, hp.keep hk, hc.keep hk, h.now.keep hk, hu.keep hk, right_step h.right hf, by have := hf.1; have := h.small; simp only; omega, h.base, ((h.below.setCell (p := ⟨T, 0, none⟩) h.base _).setCell (p := ⟨T, 1, none⟩) h.base _).setCell (p := ⟨T, 2, none⟩) h.base _⟩

def zeros (q : Nat) : List Int := List.replicate q 0
theorem zeros_len (q : Nat) : (zeros q).length = q := by simp [zeros]
theorem zeros_nth (q i : Nat) : nth (zeros q) i = 0 := by
  unfold nth zeros
  rw [List.getD_eq_getElem?_getD]
  by_cases h : i < q
  · simp [h]
  · simp [h]
theorem zeros_in64 (q : Nat) : In64 (zeros q) := fun x hx => by
  unfold zeros at hx
  obtain ⟨_, rfl⟩ := List.mem_replicate.1 hx
  omega
theorem made_zeros (q : Nat) : (madeCells #[.int .i64 0] (q * 1)) = (cellsN (zeros q)).toArray := by
  apply Array.ext_getElem?
  intro i
  by_cases hi : i < q
  · simp [madeCells, hi, zeros, Nat.mod_one]
  · rw [Array.getElem?_eq_none (by rw [size_madeCells]; omega), Array.getElem?_eq_none (by simp [zeros]; omega)]
theorem own_made (w : World) {q : Nat} (hq : q ≤ 4) {Z : Array Value} (hZ : Z = madeCells #[.int .i64 0] (q * 1)) : (w.alloc (.cells Z 3)).ownsRow w.heap.size 3 1 (.slice (some ⟨w.heap.size, 0, none⟩) q q) q (cellsN (zeros q)) := by
  rw [hZ, made_zeros]
  have := World.ownsRow_lit (base := w.heap.size) (e := 3) (size := 1) w (cellsN (zeros q)).toArray q (Nat.le_refl _) (by simp [maxLen]; omega) (by simp [zeros])
  simpa using this
theorem right_zero (q : Nat) : rightT ⟨0, zeros q, zeros q⟩ := ⟨by simp, ⟨rfl, fun _ _ => Int.le_refl _⟩, fun i _ => ⟨by rw [zeros_nth]; omega, fun _ => zeros_nth q i⟩⟩
theorem make_ints {q : Nat} (hq : q ≤ 4) : ∀ wx : World, (Instr.makeSlice 23 (.int .i64 q) (.int .i64 q)).run Try.prog wx = .ok (.slice (some ⟨wx.heap.size, 0, none⟩) q q) (wx.alloc (.cells (madeCells #[.int .i64 0] (q * 1)) 3)) := fun wx => by
  obtain ⟨i0, hi0, hz0, hz1, hz2⟩ := info_partsV info_int
  have := run_make (P := Try.prog) wx 23 3 i0 (.int .i64 0) Try.underlying23 hi0 hz0 .i64 .i64 q q (by omega) (Int.le_refl _) (by rw [hz2]; omega) (by omega)
  rw [hz1] at this
  simp only [Int.toNat_natCast] at this
  exact this

end Go.Proofs.Ytjkhegekojflhab

namespace Go.Proofs.Ytjkhegekojflhab
open Ieee Go.RowKit

/-- The same source, but for what is on. -/
def Sm (S T : Sc) : Prop := T.np = S.np ∧ T.logs = S.logs
theorem Sm.refl (S : Sc) : Sm S S := ⟨rfl, rfl⟩
theorem Sm.switch {S T : Sc} (h : Sm S T) (p : Int) (on : Bool) : Sm S (switchS T p on) := by
  unfold switchS
  split
  · exact h
  · exact h
theorem Sm.len {S T : Sc} (h : Sm S T) (k : Nat) : lenS T k = lenS S k := by
  by_cases hk : k < S.np
  · rw [lenS_at hk, lenS_at (by rw [h.1]; exact hk), h.2]
  · unfold lenS
    rw [if_neg (fun e => hk (by have := e.2; rw [h.1] at this; omega)), if_neg (fun e => hk (by have := e.2; omega))]
theorem Sm.fit {S T : Sc} (h : Sm S T) (l : List Int) : Fit T l ↔ Fit S l := by
  unfold Fit
  rw [h.1]
  constructor
  · rintro ⟨h1, h2⟩; exact ⟨h1, fun i hi => by rw [← h.len i]; exact h2 i hi⟩
  · rintro ⟨h1, h2⟩; exact ⟨h1, fun i hi => by rw [h.len i]; exact h2 i hi⟩
theorem Sm.bet {S T : Sc} (h : Sm S T) (a b : List Int) : ∀ k, betS T a b k = betS S a b k
  | 0 => rfl
  | k + 1 => by simp only [betS]; rw [h.bet a b k, h.2]
theorem Sm.left {S T : Sc} (h : Sm S T) (l : List Int) : ∀ k, leftS T l k = leftS S l k
  | 0 => rfl
  | k + 1 => by simp only [leftS]; rw [h.left l k, h.len k]
theorem switch_on {T : Sc} {p : Nat} (hp : p < T.np) (on : Bool) (i : Nat) : (switchS T p on).on i = if i = p then on else T.on i := by
  unfold switchS
  rw [if_pos ⟨by omega, by omega⟩]
  rfl
theorem up_at {T : Sc} {p : Nat} (hp : p < T.np) : upS T p = T.on p := by unfold upS; rw [if_pos ⟨by omega, by omega⟩]; rfl

def catL (S : Sc) : Nat → List Rcd
  | 0 => []
  | p + 1 => catL S p ++ S.logs p
theorem cat_le {S : Sc} (hok : S.ok) : ∀ k, (catL S k).length ≤ 256 * k
  | 0 => by simp [catL]
  | k + 1 => by have := cat_le hok k; have := hok.len k; simp only [catL, List.length_append]; omega
theorem cat_ok {S : Sc} (hok : S.ok) : ∀ k, ∀ r ∈ catL S k, r.ok
  | 0 => by simp [catL]
  | k + 1 => by
    intro r hr
    simp only [catL, List.mem_append] at hr
    rcases hr with hr | hr
    · exact cat_ok hok k r hr
    · exact hok.rok k r hr
theorem cat_split (S : Sc) : ∀ n p, p ≤ n → ∃ rest, catL S n = catL S p ++ rest
  | 0, p, h => ⟨[], by rw [show p = 0 by omega]; simp⟩
  | n + 1, p, h => by
    by_cases hp : p = n + 1
    · exact ⟨[], by rw [hp]; simp⟩
    · obtain ⟨rest, hr⟩ := cat_split S n p (by omega)
      exact ⟨rest ++ S.logs n, by simp only [catL]; rw [hr, List.append_assoc]⟩
theorem bet_cat {S : Sc} {z e : List Int} (hz : ∀ i, nth z i = 0) : ∀ k, (∀ i, i < k → nth e i = ((S.logs i).length : Int)) → betS S z e k = catL S k
  | 0, _ => rfl
  | k + 1, h => by
    simp only [betS, catL]
    rw [bet_cat hz k (fun i hi => h i (by omega)), hz k, h k (by omega)]
    simp

/-- A slice of ints that is apart from what is of D. -/
def Nd (D : Nat → Prop) (w : World) (v : Value) (l : List Int) : Prop := Nv w v l ∧ ∀ b off n c, v = .slice (some ⟨b, off, none⟩) n c → 0 < l.length → ¬ D b
section
variable {D : Nat → Prop} {w w' : World} {v : Value} {l : List Int}
theorem Nd.ch (h : Nd D w v l) (hc : Ch D w w') : Nd D w' v l := by
  obtain ⟨⟨⟨ao, cap, e, h1, h2, h3, h4⟩, h5⟩, h6⟩ := h
  refine ⟨⟨⟨ao, cap, e, h1, h2, h3, fun i hi => ?_⟩, h5⟩, h6⟩
  obtain ⟨b, off, e2, c⟩ := h4 i hi
  subst e2
  have hb : w'.heap[b]? = w.heap[b]? := hc.block b (cell_lt c) (h6 b off _ _ e (by omega))
  exact ⟨b, off, rfl, by rw [World.cell?_of_block (w := w) (a := ⟨b, off + i, none⟩) hb]; exact c⟩
theorem Nd.below (h : Nd D w v l) (hb : Below w.heap.size w w') : Nd D w' v l := h.ch (Ch.of_below hb)
theorem nd_old {B : Nat} {w0 : World} (h : Nv w0 v l) (hb : Below w0.heap.size w0 w) (hB : w0.heap.size ≤ B) (hD : ∀ x, D x → B ≤ x) : Nd D w v l := by
  refine ⟨h.below hb, fun b off n c e hl hd => ?_⟩
  subst e
  obtain ⟨b', off', e2, c2⟩ := h.at hl
  cases e2
  have h1 := cell_lt c2
  have h2 := hD b hd
  simp only at h1
  omega
theorem nd_own {base e n : Nat} (h : w.ownsRow base e 1 v n (cellsN l)) (hl : In64 l) (hD : ∀ x, D x → x < base) : Nd D w v l := by
  refine ⟨own_nv h hl, fun b off n' c e' _ hd => ?_⟩
  subst e'
  have h1 := (h.lt b rfl).1
  have h2 := hD b hd
  omega
end

theorem fwd_zero {S : Sc} {e : List Int} (h : Fit S e) (q : Nat) (hq : q = e.length) : Fwd (zeros q) e := by
  refine ⟨by rw [zeros_len, hq], fun i hi => ?_⟩
  rw [zeros_nth]
  rw [zeros_len] at hi
  exact (h.2 i (by omega)).1
theorem fit_zero (S : Sc) : Fit S (zeros S.np) := by
  refine ⟨zeros_len _, fun i _ => ?_⟩
  rw [zeros_nth]; omega

/-- A piece in the middle of a slice of records. -/
theorem cut_mid {w : World} {lo : Option Addr} {n lc : Nat} {a l b : List Rcd} (h : Rv w (.slice lo n lc) (a ++ l ++ b)) : Rl w (if lc = a.length then lo else lo.map (·.add (a.length * 2))) l := by
  have h1 := cut_piece (X := a.length) (Y := a.length + l.length) h (by omega) (by simp)
  have h2 : ((a ++ l ++ b).drop a.length).take (a.length + l.length - a.length) = l := by simp
  rw [h2] at h1
  exact own_rl' h1

end Go.Proofs.Ytjkhegekojflhab

namespace Go.Proofs.Ytjkhegekojflhab
open Ieee Go.RowKit

/-- What stands while batches are formed: the source (S but for what is on), the ends e, the beginning, the list off. -/
structure Wl (w0 : World) (D : Nat → Prop) (S : Sc) (v ev zv ov : Value) (e off : List Int) (S1 : Sc) (wr : World) : Prop where
  src : Src D wr v S1
  same : Sm S S1
  ends : Nd D wr ev e
  start : Nd D wr zv (zeros S.np)
  offs : Nd D wr ov off
  fit : Fit S e
  base : ∀ x, D x → w0.heap.size ≤ x
  below : Below w0.heap.size w0 wr
theorem Wl.go {w0 wr w' : World} {D : Nat → Prop} {S S1 : Sc} {v ev zv ov : Value} {e off : List Int} (h : Wl w0 D S v ev zv ov e off S1 wr) (hb : Below wr.heap.size wr w') : Wl w0 D S v ev zv ov e off S1 w' :=
  ⟨h.src.below hb, h.same, h.ends.below hb, h.start.below hb, h.offs.below hb, h.fit, h.base, below_trans h.below hb⟩
theorem Wl.sw {w0 wr w' : World} {D : Nat → Prop} {S S1 : Sc} {v ev zv ov : Value} {e off : List Int} {p : Int} {on : Bool} (h : Wl w0 D S v ev zv ov e off S1 wr) (hs : Src D w' v (switchS S1 p on)) (hc : Ch D wr w') : Wl w0 D S v ev zv ov e off (switchS S1 p on) w' :=
  ⟨hs, h.same.switch p on, h.ends.ch hc, h.start.ch hc, h.offs.ch hc, h.fit, h.base, h.below.trans (hc.to_below h.below.size h.base)⟩

/-- A row of records apart from what is of D. -/
def Rz (D : Nat → Prop) (w : World) (ao : Option Addr) (l : List Rcd) : Prop := Rl w ao l ∧ ∀ a, ao = some a → ¬ D a.block ∧ a.block < w.heap.size
theorem Rz.ch {D : Nat → Prop} {w w' : World} {ao : Option Addr} {l : List Rcd} (h : Rz D w ao l) (hc : Ch D w w') : Rz D w' ao l := by
  refine ⟨fun i hi => ?_, fun a ha => ⟨(h.2 a ha).1, Nat.lt_of_lt_of_le (h.2 a ha).2 hc.size⟩⟩
  obtain ⟨b, off, e, c0, c1⟩ := h.1 i hi
  have hb : w'.heap[b]? = w.heap[b]? := hc.block b (h.2 _ e).2 (h.2 _ e).1
  exact ⟨b, off, e, by rw [World.cell?_of_block (w := w) (a := ⟨b, off + i * 2, none⟩) hb]; exact c0, by rw [World.cell?_of_block (w := w) (a := ⟨b, off + i * 2 + 1, none⟩) hb]; exact c1⟩
theorem Rz.below {D : Nat → Prop} {w w' : World} {ao : Option Addr} {l : List Rcd} (h : Rz D w ao l) (hb : Below w.heap.size w w') : Rz D w' ao l := h.ch (Ch.of_below hb)
theorem rz_new {D : Nat → Prop} {w w' : World} {e n : Nat} {v : Value} {l : List Rcd} (h : w'.ownsRow w.heap.size e 2 v n (flatR l)) (hok : ∀ r ∈ l, r.ok) (hd : ∀ x, D x → x < w.heap.size) : ∃ ao cap, v = .slice ao l.length cap ∧ Rz D w' ao l := by
  have hn : n = l.length := by have := h.1; rw [flatR_len] at this; omega
  subst hn
  obtain ⟨ao, cap, hv, hr⟩ := own_rl h hok
  refine ⟨ao, cap, hv, hr, fun a ha => ?_⟩
  have hx : v.ownBlock = some a.block := by rw [hv, ha]; rfl
  have := h.lt _ hx
  exact ⟨fun hD => by have := hd _ hD; omega, this.2⟩
theorem Sm.cat {S T : Sc} (h : Sm S T) : ∀ k, catL T k = catL S k
  | 0 => rfl
  | k + 1 => by simp only [catL]; rw [h.cat k, h.2]
/-- What a batch whose ends are known is, whatever is on. -/
theorem again_same {S T : Sc} (h : Sm S T) {a b : List Int} (h1 : Fit S a) (h2 : Fit S b) (h3 : Fwd a b) : againI T a b = 0 ∧ againR T a b = betS S a b a.length := by
  have hc : Fit T a ∧ Fit T b ∧ Fwd a b := ⟨(h.fit a).2 h1, (h.fit b).2 h2, h3⟩
  unfold againI againR
  rw [if_pos (again_yes hc), if_pos (again_yes hc), h.bet]
  exact ⟨rfl, rfl⟩
theorem form_same {S T : Sc} (h : Sm S T) {a : List Int} {m : Int} (h1 : Fit S a) (hm : 1 ≤ m) (hm2 : m ≤ 16) : formI T a m = 0 ∧ formL T a m = formT T a m ∧ formR T a m = betS S a (formT T a m) a.length := by
  have hI : formI T a m = 0 := by unfold formI; rw [if_neg (by omega), if_pos ((h.fit a).2 h1).yes]
  unfold formL formR
  rw [hI, if_pos rfl, if_pos rfl, h.bet]
  exact ⟨rfl, rfl, rfl⟩

theorem rem16 (x : Int) : ∃ q : Nat, q ≤ 15 ∧ (IntKind.u64.wrap x).tmod 16 = (q : Int) ∧ (IntKind.u64.wrap x) % 16 = (q : Int) := by
  have h0 : 0 ≤ IntKind.u64.wrap x := by rw [IntKind.wrap_u64]; omega
  refine ⟨((IntKind.u64.wrap x) % 16).toNat, by omega, ?_, by omega⟩
  rw [Int.tmod_eq_emod_of_nonneg h0]; omega

/-- How many records lie behind ends that fit, as a number. -/
def lefN (S : Sc) (e : List Int) : Nat := (leftS S e S.np).toNat
theorem left_mono {S : Sc} {a b : List Int} (hf : Fwd a b) : ∀ k, k ≤ a.length → leftS S b k ≤ leftS S a k
  | 0, _ => Int.le_refl _
  | k + 1, h => by have := left_mono (S := S) hf k (by omega); have := hf.2 k (by omega); simp only [leftS]; omega
theorem left_less {S : Sc} {a b : List Int} (hf : Fwd a b) : ∀ k, k ≤ a.length → (∃ i, i < k ∧ nth a i ≠ nth b i) → leftS S b k < leftS S a k
  | 0, _, ⟨i, hi, _⟩ => by omega
  | k + 1, h, ⟨i, hi, hne⟩ => by
    have h1 := left_mono (S := S) hf k (by omega)
    have h2 := hf.2 k (by omega)
    simp only [leftS]
    by_cases hik : i = k
    · subst hik; omega
    · have := left_less (S := S) hf k (by omega) ⟨i, by omega, hne⟩; omega
theorem ne_at {a b : List Int} (hl : a.length = b.length) (h : a ≠ b) : ∃ i, i < a.length ∧ nth a i ≠ nth b i := by
  apply Classical.byContradiction
  intro hn
  exact h (nth_ext hl fun i hi => Classical.byContradiction fun e => hn ⟨i, hi, e⟩)
theorem left_zero {S : Sc} {e : List Int} : ∀ k, (∀ i, i < k → nth e i = (lenS S i : Int)) → leftS S e k = 0
  | 0, _ => rfl
  | k + 1, h => by have := left_zero (S := S) k (fun i hi => h i (by omega)); have := h k (by omega); simp only [leftS]; omega
/-- Ends from which no batch goes further, with all on, are the logs' ends. -/
theorem full_ends {S : Sc} {e : List Int} {k : Int} (hf : Fit S e) (hk : 1 ≤ k) (hon : ∀ i, i < S.np → S.on i = true) (h : formT S e k = e) : ∀ i, i < S.np → nth e i = (lenS S i : Int) := by
  intro i hi
  have hl : i < e.length := by rw [hf.1]; exact hi
  have h1 := form_nth S e k hl
  rw [h] at h1
  unfold endS at h1
  rw [up_at hi, hon i hi, if_pos rfl] at h1
  have := hf.2 i hl
  omega

end Go.Proofs.Ytjkhegekojflhab

namespace Go.Proofs.Ytjkhegekojflhab
open Ieee Go.RowKit
attribute [local go_sem] run_store_float

theorem row_setE {w : World} {g n o e : Nat} (u : Value) {cur : Array Value} (h : w.heap[g]? = some (.cells cur e (0, 0))) (hs : cur.size = n) : ∃ cur, (w.setCell ⟨g, o, none⟩ u).heap[g]? = some (.cells cur e (0, 0)) ∧ cur.size = n := by
  rw [Sort.setCell_eq]
  refine ⟨cur.setIfInBounds o u, ?_, by simpa using hs⟩
  simp [Sort.mapBlock, Array.getElem?_modify, h, Sort.onCells]

/-- A row of the call's own, whatever it holds. -/
def Rw (B e s : Nat) (v : Value) (n : Nat) (w : World) : Prop := ∃ xs, w.ownsRow B e s v n xs

theorem Rw.set {B e s n o g : Nat} {v : Value} {w : World} (h : Rw B e s v n w) (hv : v.ownBlock = some g) (u : Value) : Rw B e s v n (w.setCell ⟨g, o, none⟩ u) := by
  obtain ⟨xs, h1, h2⟩ := h
  rcases h2 with ⟨rfl, _⟩ | ⟨g', cap, cur, rfl, hb, hg, hnc, hcm, hcs, _⟩
  · cases hv
  · simp [Value.ownBlock] at hv
    subst hv
    obtain ⟨cur', k1, k2⟩ := row_setE (o := o) u hg hcs
    exact ⟨cur'.toList.take (n * s), by simp [k2, Nat.min_eq_left hnc], .inr ⟨g', cap, cur', rfl, hb, k1, hnc, hcm, k2, rfl⟩⟩
theorem Rw.other {B e s n : Nat} {v : Value} {w : World} {p : Addr} (h : Rw B e s v n w) (hv : v.ownBlock ≠ some p.block) (u : Value) : Rw B e s v n (w.setCell p u) := by
  obtain ⟨xs, h1, h2⟩ := h
  rcases h2 with ⟨rfl, h0⟩ | ⟨g', cap, cur, rfl, hb, hg, hnc, hcm, hcs, ht⟩
  · exact ⟨xs, h1, .inl ⟨rfl, h0⟩⟩
  · exact ⟨xs, h1, .inr ⟨g', cap, cur, rfl, hb, by rw [Below.heap_setCell w p u g' (by rintro rfl; exact hv rfl)]; exact hg, hnc, hcm, hcs, ht⟩⟩
theorem Rw.mono {B B' e s n : Nat} {v : Value} {w : World} (h : Rw B e s v n w) (hB : B' ≤ B) : Rw B' e s v n w := by
  obtain ⟨xs, h1, h2⟩ := h
  rcases h2 with ⟨rfl, h0⟩ | ⟨g', cap, cur, rfl, hb, hg, hnc, hcm, hcs, ht⟩
  · exact ⟨xs, h1, .inl ⟨rfl, h0⟩⟩
  · exact ⟨xs, h1, .inr ⟨g', cap, cur, rfl, Nat.le_trans hB hb, hg, hnc, hcm, hcs, ht⟩⟩
theorem Rw.kept {B e s n : Nat} {v : Value} {w w' : World} {row : Option Nat} (h : Rw B e s v n w) (hg : w.grownBy w' row) (hn : v.ownBlock = none ∨ v.ownBlock ≠ row) : Rw B e s v n w' := by
  obtain ⟨xs, h⟩ := h; exact ⟨xs, h.kept hg hn⟩
theorem Rw.lt {B e s n g : Nat} {v : Value} {w : World} (h : Rw B e s v n w) (hv : v.ownBlock = some g) : B ≤ g ∧ g < w.heap.size := by
  obtain ⟨xs, h⟩ := h; exact h.lt g hv
/-- The row's form, where it holds something. -/
theorem Rw.form {B e s n : Nat} {v : Value} {w : World} (h : Rw B e s v n w) : (v = .slice none 0 0 ∧ n = 0) ∨ ∃ g cap cur, v = .slice (some ⟨g, 0, none⟩) n cap ∧ v.ownBlock = some g ∧ n ≤ cap ∧ w.heap[g]? = some (.cells cur e (0, 0)) ∧ cur.size = cap * s := by
  obtain ⟨xs, h1, h2⟩ := h
  rcases h2 with h | ⟨g', cap, cur, rfl, hb, hg, hnc, hcm, hcs, ht⟩
  · exact .inl h
  · exact .inr ⟨g', cap, cur, rfl, rfl, hnc, hg, hcs⟩
theorem row_cell {w : World} {g e o : Nat} {cur : Array Value} (hg : w.heap[g]? = some (.cells cur e (0, 0))) (ho : o < cur.size) : (∃ x, w.cell? ⟨g, o, none⟩ = some x) ∧ w.frozen? ⟨g, o, none⟩ = false :=
  ⟨⟨cur[o], by rw [cell_of_row w g o cur e (0, 0) hg]; exact Array.getElem?_eq_getElem ho⟩, by simp [World.frozen?, hg]⟩

/-- A row of ints and one of records, whatever they hold, of n and of m; of the blocks of w9 those of D alone have turned. -/
structure S2 (D : Nat → Prop) (w9 : World) (av cv : Value) (n m : Nat) (wr : World) : Prop where
  ch : Ch D w9 wr
  a : Rw 0 3 1 av n wr
  c : Rw 0 40 2 cv m wr
  ap : ∀ x, av.ownBlock = some x → cv.ownBlock ≠ some x
  da : ∀ x, av.ownBlock = some x → D x ∨ w9.heap.size ≤ x
  dc : ∀ x, cv.ownBlock = some x → D x ∨ w9.heap.size ≤ x

theorem gr_of_below {w w' : World} (h : Below w.heap.size w w') : w.grownBy w' none := ⟨h.os, h.tape, h.output, h.size, fun i hi _ => h.block i hi⟩
theorem Ch.set {D : Nat → Prop} {w9 wr : World} (h : Ch D w9 wr) {g : Nat} (hg : D g ∨ w9.heap.size ≤ g) (o : Nat) (u : Value) : Ch D w9 (wr.setCell ⟨g, o, none⟩ u) := by
  refine ⟨h.os, h.tape, h.output, by simpa [go_sem] using h.size, fun k hk hd => ?_⟩
  rw [Below.heap_setCell wr _ u k (by rintro rfl; rcases hg with hg | hg; exact hd hg; exact absurd hk (Nat.not_lt.2 hg)), h.block k hk hd]
theorem Ch.grow {D : Nat → Prop} {w9 wr wx : World} (h : Ch D w9 wr) {row : Option Nat} (hg : wr.grownBy wx row) (hr : ∀ k, row = some k → D k ∨ w9.heap.size ≤ k) : Ch D w9 wx := by
  refine ⟨hg.os.trans h.os, hg.tape.trans h.tape, hg.output.trans h.output, Nat.le_trans h.size hg.size, fun b h1 h2 => ?_⟩
  rw [hg.block b (Nat.lt_of_lt_of_le h1 h.size) (fun e => by rcases hr b e.symm with k | k; exact h2 k; omega), h.block b h1 h2]
section
variable {D : Nat → Prop} {w9 wr wx : World} {av cv : Value} {n m : Nat}
theorem S2.below (h : S2 D w9 av cv n m wr) (hb : Below wr.heap.size wr wx) : S2 D w9 av cv n m wx := by
  have hg := gr_of_below hb
  refine ⟨h.ch.grow hg (by simp), h.a.kept hg ?_, h.c.kept hg ?_, h.ap, h.da, h.dc⟩
  · cases e : av.ownBlock <;> simp
  · cases e : cv.ownBlock <;> simp
theorem S2.setA (h : S2 D w9 av cv n m wr) {g : Nat} (hv : av.ownBlock = some g) (o : Nat) (u : Value) : S2 D w9 av cv n m (wr.setCell ⟨g, o, none⟩ u) :=
  ⟨h.ch.set (h.da g hv) o u, h.a.set hv u, h.c.other (h.ap g hv) u, h.ap, h.da, h.dc⟩
theorem S2.setC (h : S2 D w9 av cv n m wr) {g : Nat} (hv : cv.ownBlock = some g) (o : Nat) (u : Value) : S2 D w9 av cv n m (wr.setCell ⟨g, o, none⟩ u) :=
  ⟨h.ch.set (h.dc g hv) o u, h.a.other (fun e => h.ap g e hv) u, h.c.set hv u, h.ap, h.da, h.dc⟩
theorem S2.appA {av' : Value} {n' : Nat} {xs : List Value} (h : S2 D w9 av cv n m wr) (hg : wr.grownBy wx av.ownBlock) (ho : wx.ownsRow 0 3 1 av' n' xs) (hat : av'.ownBlock = av.ownBlock ∨ av'.ownBlock = some wr.heap.size) : S2 D w9 av' cv n' m wx := by
  refine ⟨h.ch.grow hg h.da, ⟨xs, ho⟩, h.c.kept hg ?_, fun x hx hk => ?_, fun x hx => ?_, h.dc⟩
  · cases e : cv.ownBlock with
    | none => exact .inl rfl
    | some y => exact .inr fun e' => h.ap y e'.symm e
  · rcases hat with e | e
    · exact h.ap x (e ▸ hx) hk
    · rw [e] at hx; cases hx; exact Nat.lt_irrefl _ (h.c.lt hk).2
  · rcases hat with e | e
    · exact h.da x (e ▸ hx)
    · rw [e] at hx; cases hx; exact .inr h.ch.size
theorem S2.appC {cv' : Value} {m' : Nat} {xs : List Value} (h : S2 D w9 av cv n m wr) (hg : wr.grownBy wx cv.ownBlock) (ho : wx.ownsRow 0 40 2 cv' m' xs) (hat : cv'.ownBlock = cv.ownBlock ∨ cv'.ownBlock = some wr.heap.size) : S2 D w9 av cv' n m' wx := by
  refine ⟨h.ch.grow hg h.dc, h.a.kept hg ?_, ⟨xs, ho⟩, fun x hx hk => ?_, h.da, fun x hx => ?_⟩
  · cases e : av.ownBlock with
    | none => exact .inl rfl
    | some y => exact .inr fun e' => h.ap y e e'.symm
  · rcases hat with e | e
    · exact h.ap x hx (e ▸ hk)
    · rw [e] at hk; cases hk; exact Nat.lt_irrefl _ (h.a.lt hx).2
  · rcases hat with e | e
    · exact h.dc x (e ▸ hx)
    · rw [e] at hx; cases hx; exact .inr h.ch.size
end

/-- What the blocks of D have not turned stays a source. -/
theorem Src.ch {D E : Nat → Prop} {w w' : World} {v : Value} {S : Sc} (h : Src E w v S) (hc : Ch D w w') (hd : ∀ x, E x → ¬ D x) : Src E w' v S := h.keep (fun x hx => hc.block x (h.lt hx) (hd x hx)) hc.size
theorem Rl.chg {D : Nat → Prop} {w w' : World} {ao : Option Addr} {l : List Rcd} (h : Rl w ao l) (hc : Ch D w w') (hd : ∀ a, ao = some a → ¬ D a.block) : Rl w' ao l := by
  intro i hi
  obtain ⟨b, off, e, c0, c1⟩ := h i hi
  have hb : w'.heap[b]? = w.heap[b]? := hc.block b (cell_lt c0) (hd _ e)
  exact ⟨b, off, e, by rw [World.cell?_of_block (w := w) (a := ⟨b, off + i * 2, none⟩) hb]; exact c0, by rw [World.cell?_of_block (w := w) (a := ⟨b, off + i * 2 + 1, none⟩) hb]; exact c1⟩

/-- The cell of a row where it holds something. -/
theorem rw_cell {n i : Nat} {v : Value} {w : World} (h : Rw 0 40 2 v n w) (hi : i < n) : ∃ g cap x y, v = .slice (some ⟨g, 0, none⟩) n cap ∧ v.ownBlock = some g ∧ w.cell? ⟨g, i * 2, none⟩ = some x ∧ w.cell? ⟨g, i * 2 + 1, none⟩ = some y ∧ w.frozen? ⟨g, i * 2, none⟩ = false ∧ w.frozen? ⟨g, i * 2 + 1, none⟩ = false := by
  rcases h.form with ⟨_, h0⟩ | ⟨g, cap, cur, hv, hb, hnc, hg, hcs⟩
  · omega
  · obtain ⟨⟨x, hx⟩, fx⟩ := row_cell (o := i * 2) hg (by omega)
    obtain ⟨⟨y, hy⟩, fy⟩ := row_cell (o := i * 2 + 1) hg (by omega)
    exact ⟨g, cap, x, y, hv, hb, hx, hy, fx, fy⟩
theorem rw_cellN {n i : Nat} {v : Value} {w : World} (h : Rw 0 3 1 v n w) (hi : i < n) : ∃ g cap x, v = .slice (some ⟨g, 0, none⟩) n cap ∧ v.ownBlock = some g ∧ w.cell? ⟨g, i, none⟩ = some x ∧ w.frozen? ⟨g, i, none⟩ = false := by
  rcases h.form with ⟨_, h0⟩ | ⟨g, cap, cur, hv, hb, hnc, hg, hcs⟩
  · omega
  · obtain ⟨⟨x, hx⟩, fx⟩ := row_cell (o := i) hg (by omega)
    exact ⟨g, cap, x, hv, hb, hx, fx⟩

theorem wpList_append_rw {P : Program} {w : World} {ops : Array Oper} {rest : List Oper} {o : Oper} {a : Act} {Q : Exit → Act → World → Prop} (hgd : o.guard = none) (s x : Operand) (t : TypeId)
    (ho : o.op = .call { callee := .builtin .append, args := #[s, x], argTypes := #[t, t] }) {e : TypeId} (ht : P.underlying t = some (.slice e)) (hinf : (P.info? e).map (fun i => (i.zero, i.size, i.bytes)) = some (some (.agg #[.int .u64 0, .float .f64 0]), 2, 16))
    (v : Value) (n : Nat) (hs : a.eval s = v) (hr : Rw 0 e 2 v n w) (q : Nat) (r : Rcd) (hx : a.eval x = .slice (some ⟨q, 0, none⟩) 1 1) (h0 : w.cell? ⟨q, 0, none⟩ = some (.int .u64 r.k)) (h1 : w.cell? ⟨q, 1, none⟩ = some (.float .f64 r.x)) (hn : n ≤ 1000000)
    (h : ∀ v' w' xs, w'.ownsRow 0 e 2 v' (n + 1) xs → w.grownBy w' v.ownBlock → (v'.ownBlock = v.ownBlock ∨ v'.ownBlock = some w.heap.size) → wpList P ops Q rest (a.put o.dst v') w') : wpList P ops Q (o :: rest) a w := by
  obtain ⟨i0, hi, hz0, hz1, hz2⟩ := info_partsV hinf
  obtain ⟨xs, hown⟩ := hr
  refine wpList_append_own_at w hgd s x t ho 0 e i0 (.agg #[.int .u64 0, .float .f64 0]) 2 16 ht hi hz0 hz1 hz2 rfl (by decide) v n xs hs hown ⟨q, 0, none⟩ 1 1 [.int .u64 r.k, .float .f64 r.x] hx rfl (one_cells h0 h1) ?_ (by simp only [maxLen]; omega) (by omega) (Nat.zero_le _) (fun v' w' g1 g2 _ g4 => h v' w' _ g1 g2 g4)
  intro u hu
  simp at hu
  rcases hu with rfl | rfl <;> rfl
theorem wpList_append_nw {P : Program} {w : World} {ops : Array Oper} {rest : List Oper} {o : Oper} {a : Act} {Q : Exit → Act → World → Prop} (hgd : o.guard = none) (s x : Operand) (t : TypeId)
    (ho : o.op = .call { callee := .builtin .append, args := #[s, x], argTypes := #[t, t] }) {e : TypeId} (ht : P.underlying t = some (.slice e)) (hinf : (P.info? e).map (fun i => (i.zero, i.size, i.bytes)) = some (some (.int .i64 0), 1, 8))
    (v : Value) (n : Nat) (hs : a.eval s = v) (hr : Rw 0 e 1 v n w) (q : Nat) (k : Int) (hx : a.eval x = .slice (some ⟨q, 0, none⟩) 1 1) (h0 : w.cell? ⟨q, 0, none⟩ = some (.int .i64 k)) (hn : n ≤ 1000000)
    (h : ∀ v' w' xs, w'.ownsRow 0 e 1 v' (n + 1) xs → w.grownBy w' v.ownBlock → (v'.ownBlock = v.ownBlock ∨ v'.ownBlock = some w.heap.size) → wpList P ops Q rest (a.put o.dst v') w') : wpList P ops Q (o :: rest) a w := by
  obtain ⟨i0, hi, hz0, hz1, hz2⟩ := info_partsV hinf
  obtain ⟨xs, hown⟩ := hr
  refine wpList_append_own_at w hgd s x t ho 0 e i0 (.int .i64 0) 1 8 ht hi hz0 hz1 hz2 rfl (by decide) v n xs hs hown ⟨q, 0, none⟩ 1 1 [.int .i64 k] hx rfl ?_ ?_ (by simp only [maxLen]; omega) (by omega) (Nat.zero_le _) (fun v' w' g1 g2 _ g4 => h v' w' _ g1 g2 g4)
  · intro j u hj
    cases j with
    | zero => simp at hj; subst hj; simpa [WideShapes.add_plain] using h0
    | succ j => simp at hj
  · intro u hu
    simp at hu
    subst hu
    rfl

/-- Two rows of ints, whatever they hold; of the blocks of w9 those of D alone have turned. -/
structure S4 (D : Nat → Prop) (w9 : World) (av cv : Value) (n m : Nat) (wr : World) : Prop where
  ch : Ch D w9 wr
  a : Rw 0 3 1 av n wr
  c : Rw 0 3 1 cv m wr
  ap : ∀ x, av.ownBlock = some x → cv.ownBlock ≠ some x
  da : ∀ x, av.ownBlock = some x → D x ∨ w9.heap.size ≤ x
  dc : ∀ x, cv.ownBlock = some x → D x ∨ w9.heap.size ≤ x
theorem S4.setA {D : Nat → Prop} {w9 wr : World} {av cv : Value} {n m : Nat} (h : S4 D w9 av cv n m wr) {g : Nat} (hv : av.ownBlock = some g) (o : Nat) (u : Value) : S4 D w9 av cv n m (wr.setCell ⟨g, o, none⟩ u) :=
  ⟨h.ch.set (h.da g hv) o u, h.a.set hv u, h.c.other (h.ap g hv) u, h.ap, h.da, h.dc⟩
theorem S4.setC {D : Nat → Prop} {w9 wr : World} {av cv : Value} {n m : Nat} (h : S4 D w9 av cv n m wr) {g : Nat} (hv : cv.ownBlock = some g) (o : Nat) (u : Value) : S4 D w9 av cv n m (wr.setCell ⟨g, o, none⟩ u) :=
  ⟨h.ch.set (h.dc g hv) o u, h.a.other (fun e => h.ap g e hv) u, h.c.set hv u, h.ap, h.da, h.dc⟩
theorem heap2 (w1 : World) (a b : Obj) : ((w1.alloc a).alloc b).drew.heap[w1.heap.size]? = some a ∧ ((w1.alloc a).alloc b).drew.heap[w1.heap.size + 1]? = some b := by
  have h0 : (w1.alloc a).heap[w1.heap.size]? = some a := heap_alloc_new w1 a
  have h1 : ((w1.alloc a).alloc b).heap[w1.heap.size + 1]? = some b := by have := heap_alloc_new (w1.alloc a) b; simpa using this
  exact ⟨keepP h0 (below_alloc _ _).drew, h1⟩
theorem below2 (w1 : World) (a b : Obj) : Below w1.heap.size w1 ((w1.alloc a).alloc b).drew := (below_trans (below_alloc _ _) (below_alloc _ _)).drew
theorem nv_heap {W : World} {P q : Nat} {Z : Array Value} (hZ : Z = madeCells #[Value.int .i64 0] (q * 1)) (hq : q ≤ 4) (hP : W.heap[P]? = some (.cells Z 3 (0, 0))) : Nv W (.slice (some ⟨P, 0, none⟩) q q) (zeros q) := by
  have ho : W.ownsRow 0 3 1 (.slice (some ⟨P, 0, none⟩) q q) q (cellsN (zeros q)) := by
    refine ⟨by simp [zeros], .inr ⟨P, q, Z, rfl, Nat.zero_le _, hP, Nat.le_refl _, by simp [maxLen]; omega, by rw [hZ, size_madeCells], ?_⟩⟩
    rw [hZ, made_zeros]
    exact List.take_of_length_le (by simp [zeros])
  exact own_nv ho (zeros_in64 q)
theorem right_one {S : Sc} {a : List Int} (h : Fit S a) (q : Nat) (hq : q = a.length) : rightT ⟨1, zeros q, a⟩ := by
  refine ⟨by simp, fwd_zero h q hq, fun i _ => ⟨by rw [zeros_nth]; omega, fun e => by simp at e⟩⟩

/-- The beginning and the end of a row of ints. -/
theorem zw_take {w : World} {g cap : Nat} {a b : List Int} (h : Zw w g cap (a ++ b)) (hl : In64 a) : Nv w (.slice (some ⟨g, 0, none⟩) a.length cap) a := by
  have hlen := h.2.1
  rw [List.length_append] at hlen
  refine ⟨⟨_, cap, rfl, by omega, h.2.2, by simp, fun i hi => ⟨g, 0, rfl, ?_⟩⟩, hl⟩
  have := h.cell (i := i) (by rw [List.length_append]; omega)
  rw [Nat.zero_add, this, nth_at hi, nth_at (by rw [List.length_append]; omega), List.getElem_append_left hi]
theorem zw_drop {w : World} {g cap : Nat} {a b : List Int} (h : Zw w g cap (a ++ b)) (hl : In64 b) : Nv w (.slice (some ⟨g, a.length, none⟩) b.length (cap - a.length)) b := by
  have hlen := h.2.1
  rw [List.length_append] at hlen
  have hm := h.2.2
  refine ⟨⟨_, cap - a.length, rfl, by omega, by omega, by simp, fun i hi => ⟨g, a.length, rfl, ?_⟩⟩, hl⟩
  have := h.cell (i := a.length + i) (by rw [List.length_append]; omega)
  rw [this, nth_at hi, nth_at (by rw [List.length_append]; omega), List.getElem_append_right (by omega)]
  simp
end Go.Proofs.Ytjkhegekojflhab

namespace Go.Proofs.Ytjkhegekojflhab
open Ieee Go.RowKit
attribute [local go_sem] run_store_float

theorem make_cap {n : Nat} (hn : n * 8 ≤ 140737488351232) : ∀ wx : World, (Instr.makeSlice 23 (.int .i64 0) (.int .i64 ((n : Int) + 4))).run Try.prog wx = .ok (.slice (some ⟨wx.heap.size, 0, none⟩) 0 (n + 4)) (wx.alloc (.cells (madeCells #[.int .i64 0] (n + 4)) 3)) := fun wx => by
  obtain ⟨i0, hi0, hz0, hz1, hz2⟩ := info_partsV info_int
  have := run_make (P := Try.prog) wx 23 3 i0 (.int .i64 0) Try.underlying23 hi0 hz0 .i64 .i64 0 ((n : Int) + 4) (by omega) (by omega) (by rw [hz2]; omega) (by omega)
  rw [hz1, Nat.mul_one] at this
  rw [show ((n : Int) + 4).toNat = n + 4 by omega, show (0 : Int).toNat = 0 from rfl] at this
  exact this

def mem4 : List Int := [71, 72, 73, 74]
theorem mem_lit (w : World) (t : TypeId) : Nv (w.alloc (Obj.cells #[.int .i64 71, .int .i64 72, .int .i64 73, .int .i64 74] t)) (.slice (some ⟨w.heap.size, 0, none⟩) 4 4) mem4 := nv_lit w t [71, 72, 73, 74] (by simp [maxLen]) (in64_lit (by kernel_rfl))
theorem mem_in64 : In64 mem4 := in64_lit (by kernel_rfl)
theorem in64_app {a b : List Int} (ha : In64 a) (hb : In64 b) : In64 (a ++ b) := fun x hx => by rcases List.mem_append.1 hx with h | h; exact ha x h; exact hb x h

theorem mine_form {w : World} {base n : Nat} {v : Value} {l : List Int} (h : w.ownsRow base 3 1 v (n + 4) (cellsN l)) : ∃ g cap, v = .slice (some ⟨g, 0, none⟩) (n + 4) cap ∧ Zw w g cap l ∧ base ≤ g ∧ n + 4 ≤ cap ∧ cap ≤ maxLen := by
  have h0 := h
  rcases h.2 with ⟨_, hh⟩ | ⟨g, cap, cur, rfl, hb, _, h1, h2, _⟩
  · omega
  · exact ⟨g, cap, rfl, (own_zw h0).1, hb, h1, h2⟩

set_option maxRecDepth 100000 in
set_option maxHeartbeats 4000000 in
theorem spoutmemory_walk {rv av ov fv : Value} {F : Fl} {a : List Int} {z : Int} {w : World} (hr : Rv w rv F.recs) (ha : Nv w av F.places) (ho : Nv w ov F.off) (hf : Nv w fv a) (hfl : a.length * 8 ≤ 140737488351232) :
    Calls Try.prog 3 #[.agg #[.int .i64 F.n, rv, av, ov], fv, .int .i64 z] w fun e w' => e = .returned (.bool true) ∧ Below w.heap.size w w' := by
  obtain ⟨w0, hw0⟩ : ∃ w0, w0 = w.alloc (Obj.cells #[.int .i64 F.n, rv, av, ov] 25) := ⟨_, rfl⟩
  have HB0 : Hid (Below w.heap.size w w0) := by show Below _ _ _; rw [hw0]; exact below_alloc _ _
  have HR : Hid (Rv w0 rv F.recs) := hr.below HB0.out
  have HA : Hid (Nv w0 av F.places) := ha.below HB0.out
  have HO : Hid (Nv w0 ov F.off) := ho.below HB0.out
  have HF : Hid (Nv w0 fv a) := hf.below HB0.out
  have HI64 : Hid (In64 a) := hf.in64
  obtain ⟨⟨ro, rc, rfl, _⟩, _⟩ := hr
  obtain ⟨ao, ac, rfl, _⟩ := ha.form
  obtain ⟨oo, oc, rfl, _⟩ := ho.form
  obtain ⟨fo, fc, rfl, _⟩ := hf.form
  have HKH : Hid (∀ wx, Below w0.heap.size w0 wx → wx.cell? ⟨w.heap.size, 0, none⟩ = some (.int .i64 F.n) ∧ wx.cell? ⟨w.heap.size, 1, none⟩ = some (.slice ro F.recs.length rc) ∧ wx.cell? ⟨w.heap.size, 2, none⟩ = some (.slice ao F.places.length ac) ∧ wx.cell? ⟨w.heap.size, 3, none⟩ = some (.slice oo F.off.length oc)) := full_box hw0
  have HW0 : Hid (w0 = w.alloc (Obj.cells #[.int .i64 F.n, .slice ro F.recs.length rc, .slice ao F.places.length ac, .slice oo F.off.length oc] 25)) := hw0
  obtain ⟨n, hn⟩ : ∃ n, n = a.length := ⟨_, rfl⟩
  have HN : Hid (n = a.length) := hn
  rw [← hn] at hfl
  rw [← hn] at HF
  rw [← hn]
  clear ha ho hf hw0 hn
  go_enter Try.func3, Try.ntmps3
  go_wp2_with fail
  rw [← HW0.out]
  refine (awake_walk w0).mono ?_
  rintro e w1 ⟨rfl, hB⟩
  have HB1 : Hid (Below w0.heap.size w0 w1) := hB
  clear hB
  obtain ⟨y0, y1, y2, y3⟩ := HKH.out w1 HB1.out
  go_wp2_with fail
  by_cases hn : F.n < 1 ∨ 4 < F.n
  · refine (filled_none hn ⟨_, _, _, rfl⟩ ⟨_, _, _, rfl⟩ ⟨_, _, _, rfl⟩).mono ?_
    rintro e w2 ⟨rfl, hB2⟩
    go_wp2_with fail
    go_ret
    exact ⟨rfl, below_trans (below_trans HB0.out HB1.out) hB2⟩
  · refine (filled_walk (F := F) (by omega) (by omega) (HR.out.below HB1.out) (HA.out.below HB1.out) (HO.out.below HB1.out)).mono ?_
    rintro e w2 ⟨sv, tv, rfl, hF⟩
    have HB2 : Hid (Below w1.heap.size w1 w2) := hF.world
    obtain ⟨D, hS, hD⟩ := hF.src
    obtain ⟨sb, tb, rfl, rfl⟩ := hF.form
    obtain ⟨S, hSe⟩ : ∃ S, S = filS F := ⟨_, rfl⟩
    rw [← hSe] at hS
    have HOK : Hid S.ok := hS.good
    have HS2 : Hid (Src D w2 (.pointer (some ⟨sb, 0, none⟩)) S) := hS
    have HF2 : Hid (Nv w2 (.slice fo n fc) a) := (HF.out.below HB1.out).below HB2.out
    obtain ⟨q, hq, rm, rm'⟩ := rem16 z
    have hwq : IntKind.i64.wrap (q : Int) = (q : Int) := wrapU (by omega) (by omega)
    obtain ⟨K, hK⟩ : ∃ K : Int, 1 + (q : Int) = K := ⟨_, rfl⟩
    have r1 : IntKind.i64.wrap (1 + (q : Int)) = K := by rw [wrapU (by omega) (by omega)]; exact hK
    have hK1 : 1 ≤ K := by omega
    have hK16 : K ≤ 16 := by omega
    have r2 : IntKind.i64.wrap ((n : Int) + 4) = (n : Int) + 4 := wrapU (by omega) (by omega)
    have hmk := make_cap hfl
    have HNM : Hid (n ≤ maxLen - 4) := by show _ ≤ _; simp only [maxLen]; omega
    clear hF hS hD hSe y0 y1 y2 y3 hn hK
    go_wp2_with (first
      | (at_builtin; have hq3 := ho3; refine wpList_append_nv (by rfl) _ _ 23 (by rfl) w2.heap.size 3 Try.underlying23 info_int _ n a (by rfl) (ho3.alloc _) _ mem4 (by rfl) (mem_lit w3 _) (by show n + 4 ≤ maxLen; simp [maxLen]; omega) (by show (n + 4) * 8 ≤ _; omega) (by have := hB3.size; simp; omega) ?_; intro v4 w4 hown4 hgrow4; have ho4 : w4.ownsRow w2.heap.size 3 1 v4 (n + 4) (cellsN (a ++ mem4)) := hown4; have hB4 : Below w2.heap.size w2 w4 := ((hB3.alloc hB3.size _).grown hgrow4 (by have := hB3.size; simp; omega) (fun x hx => (ho3.lt x hx).1)); obtain ⟨g, cap, hv4, hZ4, hg4, hc4, hcm4⟩ := mine_form ho4; subst hv4; have hncI : (n : Int) ≤ (cap : Int) := (by omega); have hcap0 : ¬ cap = 0 := (by omega); have hcapn : ¬ cap = n := (by omega); clear hown4 hgrow4 ho4; go_frame)
      | (at_builtin; refine wpList_append_nv (by rfl) _ _ 23 (by rfl) w2.heap.size 3 Try.underlying23 info_int _ 0 [] (by rfl) (World.ownsRow_made w2 (madeCells #[.int .i64 0] (n + 4)) (n + 4) (Nat.le_refl _) (by simp [maxLen]; omega) (by rw [size_madeCells]; omega)) _ a (by rfl) (HF2.out.below (below_alloc _ _)) (by rw [← HN.out]; simp [maxLen]; omega) (by rw [← HN.out]; omega) (by simp) ?_; intro v3 w3 hown3 hgrow3; have ho3 : w3.ownsRow w2.heap.size 3 1 v3 n (cellsN a) := (by rw [HN.out]; simpa using hown3); have hB3 : Below w2.heap.size w2 w3 := ((below_alloc w2 _).grown hgrow3 (by simp) (by simp [Value.ownBlock])); clear hown3 hgrow3; go_frame))
    have HZ4 : Hid (Zw w4 g cap (a ++ mem4)) := hZ4
    have HG4 : Hid (w2.heap.size ≤ g) := hg4
    have HB4 : Hid (Below w2.heap.size w2 w4) := hB4
    have HM4 : Hid (Nv w4 (.slice (some ⟨g, 0, none⟩) n cap) a) := by have h := zw_take hZ4 HI64.out; rw [← HN.out] at h; exact h
    have HS4 : Hid (Src D w4 (.pointer (some ⟨sb, 0, none⟩)) S) := HS2.out.below hB4
    have HL1 : Hid (∃ I L R, I = formI S a K ∧ L = formL S a K ∧ R = formR S a K) := ⟨_, _, _, rfl, rfl, rfl⟩
    obtain ⟨I, L, R, hI, hL, hR⟩ := HL1.out
    have HI : Hid (I = formI S a K) := hI
    have HL : Hid (L = formL S a K) := hL
    have HRR : Hid (R = formR S a K) := hR
    have HL64 : Hid (In64 L) := by rw [hL]; exact formL_in64 HOK.out a K
    have HRK : Hid (∀ r ∈ R, r.ok) := by rw [hR]; exact formR_ok HOK.out a K
    have HR8 : Hid (R.length ≤ 1048576) := by show _ ≤ _; rw [hR]; exact formR_len HOK.out a K
    have HR1K : Hid (R.length ≤ 1024) := by
      show _ ≤ _
      rw [hR]
      unfold formR
      split
      · rename_i h
        have h1 := (formI_zero h).1.1
        have := HOK.out.np4
        have := betS_le HOK.out a (formT S a K) a.length
        omega
      · simp
    have HL4 : Hid (L.length ≤ 4) := by
      show _ ≤ _
      rw [hL]
      unfold formL
      split
      · rename_i h
        have h1 := (formI_zero h).1.1
        have := HOK.out.np4
        rw [form_len]; omega
      · simp
    clear hZ4 hg4 hB4 ho3 hB3 hI hL hR HL1 hmk rm rm' hwq r1 r2
    refine (form_walk HS4.out HM4.out).mono ?_
    rintro e w5 ⟨t1, q1, he, ht1, hq1, hne1, hB5⟩
    rw [← HI.out] at he
    rw [← HL.out] at ht1
    rw [← HRR.out] at hq1
    subst he
    obtain ⟨t1o, t1c, ht1v, _⟩ := row_form ht1
    subst ht1v
    obtain ⟨q1o, q1c, hq1v, _⟩ := row_form hq1
    subst hq1v
    have HB45 : Hid (Below w4.heap.size w4 w5) := hB5
    have HT1 : Hid (w5.ownsRow w4.heap.size 3 1 (.slice t1o L.length t1c) L.length (cellsN L)) := ht1
    have HQ1 : Hid (w5.ownsRow w4.heap.size 40 2 (.slice q1o R.length q1c) R.length (flatR R)) := hq1
    have HNE : Hid (∀ x, (Value.slice t1o L.length t1c).ownBlock = some x → (Value.slice q1o R.length q1c).ownBlock ≠ some x) := hne1
    clear ht1 hq1 hne1 hB5
    go_wp2_with fail
    refine (form_walk (HS4.out.below HB45.out) (HM4.out.below HB45.out)).mono ?_
    rintro e w6 ⟨t2, q2, he, ht2, hq2, _, hB6⟩
    rw [← HI.out] at he
    rw [← HL.out] at ht2
    rw [← HRR.out] at hq2
    subst he
    obtain ⟨t2o, t2c, ht2v, _⟩ := row_form ht2
    subst ht2v
    obtain ⟨q2o, q2c, hq2v, _⟩ := row_form hq2
    subst hq2v
    have HB56 : Hid (Below w5.heap.size w5 w6) := hB6
    have HB46 : Hid (Below w4.heap.size w4 w6) := below_trans HB45.out hB6
    have HT2 : Hid (w6.ownsRow w5.heap.size 3 1 (.slice t2o L.length t2c) L.length (cellsN L)) := ht2
    have HQ2 : Hid (w6.ownsRow w5.heap.size 40 2 (.slice q2o R.length q2c) R.length (flatR R)) := hq2
    have hII : (I != I) = false := by simp
    clear ht2 hq2 hB6
    go_wp2_with fail
    refine (ints_walk (HM4.out.below HB46.out) (HF2.out.below (below_trans HB4.out HB46.out))).mono ?_
    rw [decide_eq_true rfl]
    rintro e w7 ⟨rfl, hB7⟩
    have HB67 : Hid (Below w6.heap.size w6 w7) := hB7
    have HM7 : Hid (Nv w7 (.slice (some ⟨g, n, none⟩) 4 (cap - n)) mem4) := by
      have h := zw_drop ((HZ4.out.below HB46.out).below hB7) mem_in64
      rw [← HN.out] at h
      exact h
    clear hB7
    go_wp2_with fail
    refine (ints_walk (HM7.out.below (below_alloc _ _)) (mem_lit w7 _)).mono ?_
    rw [decide_eq_true rfl]
    rintro e w8 ⟨rfl, hB8⟩
    have HB68 : Hid (Below w6.heap.size w6 w8) := below_trans (below_trans HB67.out (below_alloc _ _)) hB8
    clear hB8
    go_wp2_with fail
    refine (ints_walk ((own_nv HT1.out HL64.out).below (below_trans HB56.out HB68.out)) ((own_nv HT2.out HL64.out).below HB68.out)).mono ?_
    rw [decide_eq_true rfl]
    rintro e w9 ⟨rfl, hB9⟩
    have HB69 : Hid (Below w6.heap.size w6 w9) := below_trans HB68.out hB9
    clear hB9
    go_wp2_with fail
    refine (lrecs_walk HR8.out (own_rl' ((own_rv HQ1.out HRK.out).below (below_trans HB56.out HB69.out))) (own_rl' ((own_rv HQ2.out HRK.out).below HB69.out))).mono ?_
    rintro e w10 ⟨rfl, hB10⟩
    have HB610 : Hid (Below w6.heap.size w6 w10) := below_trans HB69.out hB10
    clear hB10
    go_wp2_with (first
      | (at_builtin; have hq11 := ho11; refine wpList_append_rv (by rfl) _ _ 22 (by rfl) w11.heap.size 40 Try.underlying22 info_rec _ 0 [] (by rfl) (World.ownsRow_made w11 #[] 0 (Nat.le_refl _) (by simp [maxLen]) (by simp)) _ R (by rfl) (((own_rv HQ2.out HRK.out).below (below_trans HB610.out hB11)).below (below_alloc _ _)) (by have := HR8.out; simp [maxLen]; omega) (by have := HR8.out; omega) (by simp) ?_; intro v12 w12 hown12 hgrow12; have ho12 : w12.ownsRow w11.heap.size 40 2 v12 R.length (flatR R) := (by simpa using hown12); have hB12 : Below w11.heap.size w11 w12 := ((below_alloc w11 _).grown hgrow12 (by simp) (by simp [Value.ownBlock])); obtain ⟨so, sc, hsv, _⟩ := row_form ho12; subst hsv; clear hown12 hgrow12; go_frame)
      | (at_builtin; refine wpList_append_nv (by rfl) _ _ 23 (by rfl) w10.heap.size 3 Try.underlying23 info_int _ 0 [] (by rfl) (World.ownsRow_made w10 #[] 0 (Nat.le_refl _) (by simp [maxLen]) (by simp)) _ L (by rfl) (((own_nv HT2.out HL64.out).below HB610.out).below (below_alloc _ _)) (by have := HL4.out; simp [maxLen]; omega) (by have := HL4.out; omega) (by simp) ?_; intro v11 w11 hown11 hgrow11; have ho11 : w11.ownsRow w10.heap.size 3 1 v11 L.length (cellsN L) := (by simpa using hown11); have hB11 : Below w10.heap.size w10 w11 := ((below_alloc w10 _).grown hgrow11 (by simp) (by simp [Value.ownBlock])); obtain ⟨wo, wk, hwv, _⟩ := row_form ho11; subst hwv; clear hown11 hgrow11; go_frame))
    have HW11 : Hid (w11.ownsRow w10.heap.size 3 1 (.slice wo L.length wk) L.length (cellsN L)) := ho11
    have HW12 : Hid (w12.ownsRow w11.heap.size 40 2 (.slice so R.length sc) R.length (flatR R)) := ho12
    have HB1112 : Hid (Below w11.heap.size w11 w12) := hB12
    have HB612 : Hid (Below w6.heap.size w6 w12) := below_trans (below_trans HB610.out hB11) hB12
    have HB512 : Hid (Below w5.heap.size w5 w12) := below_trans HB56.out HB612.out
    have HB412 : Hid (Below w4.heap.size w4 w12) := below_trans HB45.out HB512.out
    have HZ10 : Hid (w5.heap.size ≤ w10.heap.size ∧ w10.heap.size ≤ w11.heap.size ∧ w6.heap.size ≤ w10.heap.size) := ⟨Nat.le_trans HB56.out.size HB610.out.size, hB11.size, HB610.out.size⟩
    clear ho11 ho12 hB11 hB12 hncI hcap0 hcapn
    obtain ⟨E, hE⟩ : ∃ E : Nat → Prop, E = fun x => (Value.slice t1o L.length t1c).ownBlock = some x ∨ (Value.slice q1o R.length q1c).ownBlock = some x := ⟨_, rfl⟩
    have HE5 : Hid (∀ x, E x → w4.heap.size ≤ x ∧ x < w5.heap.size) := fun x hx => by
      rw [hE] at hx
      rcases hx with h | h
      · exact HT1.out.lt x h
      · exact HQ1.out.lt x h
    have HS12 : Hid (S2 E w12 (.slice t1o L.length t1c) (.slice q1o R.length q1c) L.length R.length w12) := by
      refine ⟨Ch.refl _ _, ⟨_, row_base (own_below HT1.out HB512.out) (fun _ _ => Nat.zero_le _)⟩, ⟨_, row_base (own_below HQ1.out HB512.out) (fun _ _ => Nat.zero_le _)⟩, HNE.out, fun x h => ?_, fun x h => ?_⟩
      · rw [hE]; exact .inl (.inl h)
      · rw [hE]; exact .inl (.inr h)
    have HT2E : Hid (Nd E w12 (.slice t2o L.length t2c) L) := (nd_own HT2.out HL64.out (fun x hx => (HE5.out x hx).2)).below HB612.out
    have HWE : Hid (Nd E w12 (.slice wo L.length wk) L) := (nd_own HW11.out HL64.out (fun x hx => Nat.lt_of_lt_of_le (HE5.out x hx).2 HZ10.out.1)).below HB1112.out
    have HFE : Hid (Nd E w12 (.slice fo n fc) a) := nd_old (HF2.out.below HB4.out) HB412.out (Nat.le_refl _) (fun x hx => (HE5.out x hx).1)
    have HSE : Hid (Src D w12 (.pointer (some ⟨sb, 0, none⟩)) S ∧ ∀ x, D x → ¬ E x) := ⟨HS4.out.below HB412.out, fun x hx he => by have h1 := HS4.out.lt hx; have h2 := (HE5.out x he).1; omega⟩
    have HQ2E : Hid (Rz E w12 q2o R) := by
      obtain ⟨ao', cap', hv, hz⟩ := rz_new (D := E) HQ2.out HRK.out (fun x hx => (HE5.out x hx).2)
      cases hv
      exact hz.below HB612.out
    have HRE : Hid (Rz E w12 so R) := by
      obtain ⟨ao', cap', hv, hz⟩ := rz_new (D := E) HW12.out HRK.out (fun x hx => Nat.lt_of_lt_of_le (HE5.out x hx).2 (Nat.le_trans HZ10.out.1 HZ10.out.2.1))
      cases hv
      exact hz
    have HGE : Hid (∀ x, E x → x ≠ g) := fun x hx e => by have h1 := (HE5.out x hx).1; have h2 := HZ4.out.lt; omega
    clear hE
    go_wp2_with fail
    go_loopw [20] (fun iv wr => ∃ i : Nat, i ≤ L.length ∧ iv = .int .i64 i ∧ S2 E w12 (.slice t1o L.length t1c) (.slice q1o R.length q1c) L.length R.length wr) (fun iv _ => L.length - (intOf iv).toNat)
    case atStart => exact ⟨0, Nat.zero_le _, rfl, HS12.out⟩
    case round =>
      clear HS12
      obtain ⟨i, hi, rfl, hS⟩ := hrel
      have HS2 : Hid (S2 E w12 (.slice t1o L.length t1c) (.slice q1o R.length q1c) L.length R.length wr) := hS
      clear hS
      by_cases hin : i < L.length
      · have hini : (i : Int) < (L.length : Int) := by omega
        have hL4 : L.length ≤ 4 := HL4.out
        obtain ⟨g', cap', x, hv, hb, c0, f0⟩ := rw_cellN HS2.out.a hin
        have hmo : t1o = some ⟨g', 0, none⟩ := by simp only [Value.slice.injEq] at hv; exact hv.1
        have R' : ∃ j : Nat, j ≤ L.length ∧ Value.int .i64 ((i : Int) + 1) = .int .i64 j ∧ S2 E w12 (.slice t1o L.length t1c) (.slice q1o R.length q1c) L.length R.length (wr.setCell ⟨g', i, none⟩ (.int .i64 1073741824)) :=
          ⟨i + 1, hin, by simp, HS2.out.setA hb _ _⟩
        subst hmo
        clear hv hb
        go_wp2_with fail
        go_roundw
        case rel => exact R'
        case measure => simp [intOf]; omega
      · have hini : ¬ (i : Int) < (L.length : Int) := by omega
        go_wp2_with fail
        go_loopw [21] (fun iv wr => ∃ i : Nat, i ≤ R.length ∧ iv = .int .i64 i ∧ S2 E w12 (.slice t1o L.length t1c) (.slice q1o R.length q1c) L.length R.length wr) (fun iv _ => R.length - (intOf iv).toNat)
        case atStart => exact ⟨0, Nat.zero_le _, rfl, HS2.out⟩
        case round =>
          clear HS2
          obtain ⟨i, hi, hiv, hS⟩ := hrel
          subst hiv
          have HS2 : Hid (S2 E w12 (.slice t1o L.length t1c) (.slice q1o R.length q1c) L.length R.length wr) := hS
          have hR8 : R.length ≤ 1048576 := HR8.out
          clear hS
          by_cases hir : i < R.length
          · have hiri : (i : Int) < (R.length : Int) := by omega
            obtain ⟨g', cap', x, y, hv, hb, c0, c1, f0, f1⟩ := rw_cell HS2.out.c hir
            have hmo : q1o = some ⟨g', 0, none⟩ := by simp only [Value.slice.injEq] at hv; exact hv.1
            have R' : ∃ j : Nat, j ≤ R.length ∧ Value.int .i64 ((i : Int) + 1) = .int .i64 j ∧ S2 E w12 (.slice t1o L.length t1c) (.slice q1o R.length q1c) L.length R.length ((wr.setCell ⟨g', i * 2, none⟩ (.int .u64 1125899906842624)).setCell ⟨g', i * 2 + 1, none⟩ (.float .f64 0)) :=
              ⟨i + 1, hir, by simp, (HS2.out.setC hb _ _).setC hb _ _⟩
            subst hmo
            clear hv hb
            go_wp2_with fail
            go_roundw
            case rel => exact R'
            case measure => simp [intOf]; omega
          · have hiri : ¬ (i : Int) < (R.length : Int) := by omega
            go_wp2_with fail
            go_loopw [12, 13, 22] (fun xv yv jv wr => ∃ (j : Nat) (av cv : Value), j ≤ 9 ∧ xv = av ∧ yv = cv ∧ jv = .int .i64 j ∧ S2 E w12 av cv (L.length + j) (R.length + j) wr) (fun _ _ jv _ => 9 - (intOf jv).toNat)
            case atStart => exact ⟨0, _, _, by omega, rfl, rfl, rfl, HS2.out⟩
            case round =>
              clear HS2
              obtain ⟨j, av, cv, hj, rfl, rfl, hjv, hS⟩ := hrel
              subst hjv
              obtain ⟨N, hN⟩ : ∃ N, N = L.length + j := ⟨_, rfl⟩
              obtain ⟨M, hM⟩ : ∃ M, M = R.length + j := ⟨_, rfl⟩
              rw [← hN, ← hM] at hS
              have HNJ : Hid (N = L.length + j) := hN
              have HMJ : Hid (M = R.length + j) := hM
              have HS2 : Hid (S2 E w12 u12 u13 N M wr) := hS
              have hN3 : N ≤ 300 := by have := HL4.out; omega
              have HMB : Hid (M ≤ 1000000) := by show _ ≤ _; have := HR1K.out; omega
              obtain ⟨ao2, ac2, hav2⟩ : ∃ ao2 ac2, u12 = .slice ao2 N ac2 := by obtain ⟨xs, h⟩ := hS.a; obtain ⟨p, q, e, _⟩ := row_form h; exact ⟨p, q, e⟩
              obtain ⟨co2, cc2, hcv2⟩ : ∃ co2 cc2, u13 = .slice co2 M cc2 := by obtain ⟨xs, h⟩ := hS.c; obtain ⟨p, q, e, _⟩ := row_form h; exact ⟨p, q, e⟩
              subst hav2
              subst hcv2
              clear hS hN hM
              by_cases hj9 : j < 9
              · have hj9i : (j : Int) < 9 := by omega
                go_wp2_with (first
                  | (at_builtin; have hd2 := hdoneA; refine wpList_append_rw (by rfl) _ _ 22 (by rfl) Try.underlying22 info_rec _ M (by rfl) (hdoneA.below (below_alloc _ _)).c _ ⟨8, 0⟩ (by rfl) (by simp [go_sem]) (by simp [go_sem]) HMB.out ?_; intro v8 w8 xs8 ho8 hg8 hat8; have hdoneC := (hdoneA.below (below_alloc _ _)).appC hg8 ho8 hat8)
                  | (at_builtin; refine wpList_append_nw (by rfl) _ _ 23 (by rfl) Try.underlying23 info_int _ N (by rfl) (HS2.out.below (below_alloc _ _)).a _ 9 (by rfl) (by simp [go_sem]) (by omega) ?_; intro v7 w7' xs7 ho7 hg7 hat7; have hdoneA := (HS2.out.below (below_alloc _ _)).appA hg7 ho7 hat7))
                have HN1 : Hid (N + 1 = L.length + (j + 1)) := by show _ = _; rw [HNJ.out]; omega
                have HM1 : Hid (M + 1 = R.length + (j + 1)) := by show _ = _; rw [HMJ.out]; omega
                rw [HN1.out, HM1.out] at hdoneC
                have HDC : Hid (S2 E w12 v7 v8 (L.length + (j + 1)) (R.length + (j + 1)) w8) := hdoneC
                clear hdoneC hdoneA ho7 hg7 hat7 ho8 hg8 hat8
                go_wp2_with fail
                go_roundw
                case rel => exact ⟨j + 1, v7, v8, by omega, rfl, rfl, by simp, HDC.out⟩
                case measure => simp [intOf]; omega
              · have hj9i : ¬ (j : Int) < 9 := by omega
                have HNL : Hid (N = L.length + 9) := by show _ = _; rw [HNJ.out]; omega
                have HCH : Hid (Ch E w12 wr) := HS2.out.ch
                have HSS : Hid (Src D wr (.pointer (some ⟨sb, 0, none⟩)) S) := HSE.out.1.ch HCH.out HSE.out.2
                have HFR : Hid (Nv wr (.slice fo n fc) a) := (HFE.out.ch HCH.out).1
                have HTR : Hid (Nv wr (.slice t2o L.length t2c) L) := (HT2E.out.ch HCH.out).1
                have HWR : Hid (Nv wr (.slice wo L.length wk) L) := (HWE.out.ch HCH.out).1
                have HQR : Hid (Rl wr q2o R) := (HQ2E.out.ch HCH.out).1
                have HRR' : Hid (Rl wr so R) := (HRE.out.ch HCH.out).1
                have HZR : Hid (Zw wr g cap (a ++ mem4)) := ((HZ4.out.below HB412.out).keep (HCH.out.block g (Nat.lt_of_lt_of_le HZ4.out.lt HB412.out.size) (fun e => HGE.out g e rfl)))
                have HBW : Hid (Below w.heap.size w wr) := by
                  have h1 : Below w.heap.size w w12 := below_trans (below_trans (below_trans (below_trans HB0.out HB1.out) HB2.out) HB4.out) HB412.out
                  have h2 : w.heap.size ≤ w4.heap.size := (below_trans (below_trans (below_trans HB0.out HB1.out) HB2.out) HB4.out).size
                  exact h1.trans (HCH.out.to_below h1.size (fun x hx => Nat.le_trans h2 (HE5.out x hx).1))
                have HWB : Hid (∀ x, (Value.slice wo L.length wk).ownBlock = some x → x < wr.heap.size) := fun x hx => Nat.lt_of_lt_of_le (Nat.lt_of_lt_of_le (HW11.out.lt x hx).2 HB1112.out.size) HCH.out.size
                have hNq : ((N : Int) != (L.length : Int) + 9) = false := by rw [HNL.out]; simp
                have rL : IntKind.i64.wrap ((L.length : Int) + 9) = (L.length : Int) + 9 := by have := HL4.out; exact wrapU (by omega) (by omega)
                clear HS2
                go_wp2_with fail
                refine (form_walk HSS.out HFR.out).mono ?_
                rintro e w15 ⟨t3, q3, he, ht3, hq3, _, hB15⟩
                rw [← HI.out] at he
                rw [← HL.out] at ht3
                rw [← HRR.out] at hq3
                subst he
                obtain ⟨t3o, t3c, ht3v, _⟩ := row_form ht3
                subst ht3v
                obtain ⟨q3o, q3c, hq3v, hq3l⟩ := own_recs hq3 HRK.out
                subst hq3v
                have HB15 : Hid (Below wr.heap.size wr w15) := hB15
                have HT3 : Hid (w15.ownsRow wr.heap.size 3 1 (.slice t3o L.length t3c) L.length (cellsN L)) := ht3
                have HQ3 : Hid (Rl w15 q3o R) := hq3l
                clear ht3 hq3 hB15 hq3l
                go_wp2_with fail
                refine (ints_walk (HTR.out.below HB15.out) (HWR.out.below HB15.out)).mono ?_
                rw [decide_eq_true rfl]
                rintro e w16 ⟨rfl, hB⟩
                have HB16 : Hid (Below w15.heap.size w15 w16) := hB
                clear hB
                go_wp2_with fail
                refine (lrecs_walk HR8.out (HQR.out.below (below_trans HB15.out HB16.out)) (HRR'.out.below (below_trans HB15.out HB16.out))).mono ?_
                rintro e w17 ⟨rfl, hB⟩
                have HB17 : Hid (Below w15.heap.size w15 w17) := below_trans HB16.out hB
                clear hB
                go_wp2_with fail
                refine (ints_walk ((own_nv HT3.out HL64.out).below HB17.out) (HWR.out.below (below_trans HB15.out HB17.out))).mono ?_
                rw [decide_eq_true rfl]
                rintro e w18 ⟨rfl, hB⟩
                have HB18 : Hid (Below w15.heap.size w15 w18) := below_trans HB17.out hB
                clear hB
                go_wp2_with fail
                refine (lrecs_walk HR8.out (HQ3.out.below HB18.out) (HRR'.out.below (below_trans HB15.out HB18.out))).mono ?_
                rintro e w19 ⟨rfl, hB⟩
                have HB1519 : Hid (Below w15.heap.size w15 w19) := below_trans HB18.out hB
                have HB19 : Hid (Below wr.heap.size wr w19) := below_trans HB15.out HB1519.out
                clear hB
                by_cases hI0 : I = 0
                · obtain ⟨hfit, _⟩ := formI_zero (HI.out ▸ hI0)
                  have HFIT : Hid (Fit S a) := hfit
                  have HLF : Hid (L = formT S a K) := by show _ = _; rw [HL.out]; unfold formL; rw [← HI.out, if_pos hI0]
                  have hn4 : n ≤ 4 := by rw [HN.out, hfit.1]; exact HOK.out.np4
                  have HLN : Hid (L.length = n) := by show _ = _; rw [HLF.out, form_len, HN.out]
                  have HFW : Hid (Fwd a L) := by show Fwd a L; rw [HLF.out]; exact form_fwd hfit hK1
                  have hcap : n + 4 ≤ cap := by have h := HZR.out.2.1; simp [mem4] at h; rw [← HN.out] at h; exact h
                  have hncI : (n : Int) ≤ (cap : Int) := by omega
                  have hcap0 : ¬ cap = 0 := by omega
                  obtain ⟨Z, hZ⟩ : ∃ Z, Z = madeCells #[Value.int .i64 0] (n * 1) := ⟨_, rfl⟩
                  have hmk := make_ints hn4
                  rw [← hZ] at hmk
                  have HZZ : Hid (Z = madeCells #[Value.int .i64 0] (n * 1)) := hZ
                  have HZ19 : Hid (Zw w19 g cap (a ++ mem4)) := HZR.out.below HB19.out
                  subst hI0
                  clear hZ hfit hcap
                  go_wp2_with fail
                  clear hNq rL hII
                  go_cut [26] (fun tv wx => ∃ T P, tv = .pointer (some ⟨T, 0, none⟩) ∧ wx.heap[T]? = some (.cells #[.int .i64 1, .slice (some ⟨P, 0, none⟩) n n, .slice (some ⟨g, 0, none⟩) n cap] 42 (0, 0)) ∧ Nv wx (.slice (some ⟨P, 0, none⟩) n n) (zeros n) ∧ Below w19.heap.size w19 wx ∧ w19.heap.size ≤ T)
                  case first =>
                    go_region_with (fail)
                    all_goals go_wp2_with fail
                    all_goals go_meet
                    all_goals first
                      | exact ⟨_, _, rfl, (heap2 w19 _ _).2, nv_heap HZZ.out hn4 (heap2 w19 _ _).1, below2 _ _ _, by omega⟩
                      | exact ⟨_, _, rfl, (heap2 w19 _ _).1, nv_heap HZZ.out hn4 (heap2 w19 _ _).2, below2 _ _ _, by omega⟩
                  case rest =>
                    obtain ⟨T, P, rfl, hbx, hpz, hB20, hT⟩ := hcut
                    obtain ⟨w20, hw20⟩ : ∃ w20, w20 = wc := ⟨_, rfl⟩
                    subst hw20
                    have HBX : Hid (w20.heap[T]? = some (.cells #[.int .i64 1, .slice (some ⟨P, 0, none⟩) n n, .slice (some ⟨g, 0, none⟩) n cap] 42 (0, 0))) := hbx
                    have HPZ : Hid (Nv w20 (.slice (some ⟨P, 0, none⟩) n n) (zeros n)) := hpz
                    have HB20 : Hid (Below w19.heap.size w19 w20) := hB20
                    have HMI : Hid (Nv w20 (.slice (some ⟨g, 0, none⟩) n cap) a) := by have h := zw_take (HZ19.out.below hB20) HI64.out; rw [← HN.out] at h; exact h
                    have HWA : Hid (Nv w20 (.slice wo L.length wk) L) := (HWR.out.below HB19.out).below hB20
                    have HSI : Hid (stepI ⟨1, zeros n, a⟩ L = 0) := by show _ = _; unfold stepI; rw [if_pos (step_yes (right_one HFIT.out n HN.out) HFW.out), if_neg (by simp)]
                    have HST : Hid (stepT ⟨1, zeros n, a⟩ L = ⟨2, a, L⟩) := by show _ = _; unfold stepT; rw [if_pos HSI.out]; rfl
                    obtain ⟨y0, y1, y2⟩ := box_cells hbx
                    clear hbx hpz hB20 hmk
                    go_wp2_with fail
                    refine (step_walk (t := ⟨1, zeros n, a⟩) (tl := L) HPZ.out HMI.out HWA.out (by have := HN.out; simp only; omega) (by have := HL4.out; omega) (by simp)).mono ?_
                    rintro e w21 ⟨p', c', he, hp', hc', hB21⟩
                    rw [HSI.out, HST.out] at he
                    rw [HST.out] at hp' hc'
                    simp only at he hp' hc'
                    subst he
                    obtain ⟨po, pc, hpv, _⟩ := row_form hp'
                    subst hpv
                    obtain ⟨co, cc, hcv, _⟩ := row_form hc'
                    subst hcv
                    have HB21 : Hid (Below w20.heap.size w20 w21) := hB21
                    have HPP : Hid (w21.ownsRow w20.heap.size 3 1 (.slice po a.length pc) a.length (cellsN a)) := hp'
                    have HCC : Hid (w21.ownsRow w20.heap.size 3 1 (.slice co L.length cc) L.length (cellsN L)) := hc'
                    have HBX21 : Hid (w21.heap[T]? = some (.cells #[.int .i64 1, .slice (some ⟨P, 0, none⟩) n n, .slice (some ⟨g, 0, none⟩) n cap] 42 (0, 0))) := keepP HBX.out hB21
                    clear y0 y1 y2 hp' hc' hB21
                    obtain ⟨y0, y1, y2⟩ := box_cells HBX21.out
                    have hTl : T < w21.heap.size := cell_lt y0
                    have hn1 : ¬ w21.heap.size = T := by omega
                    have hn2 : ¬ T = w21.heap.size := by omega
                    go_wp2_with fail
                    obtain ⟨w22, hw22⟩ : ∃ w22, w22 = w21.alloc (Obj.cells #[.int .i64 2, .slice po a.length pc, .slice co L.length cc] 42) := ⟨_, rfl⟩
                    rw [← hw22]
                    have HB22 : Hid (Below w21.heap.size w21 w22) := by show Below _ _ _; rw [hw22]; exact below_alloc _ _
                    have HU22 : Hid (w22.heap[w21.heap.size]? = some (.cells #[.int .i64 2, .slice po a.length pc, .slice co L.length cc] 42 (0, 0))) := by show _ = _; rw [hw22]; exact heap_alloc_new w21 _
                    have HB2022 : Hid (Below w20.heap.size w20 w22) := below_trans HB21.out HB22.out
                    clear y0 y1 y2 hn1 hn2 hw22
                    refine (at_walk (t := ⟨1, zeros n, a⟩) (HPZ.out.below HB2022.out) (HMI.out.below HB2022.out) (by simp only [zeros_len]; omega) (by have := HN.out; simp only; omega) (by simp) 1).mono ?_
                    rintro e w23 ⟨xv, he, hxv, hB23⟩
                    rw [show atB ⟨1, zeros n, a⟩ 1 = true from decide_eq_true (.inl rfl)] at he
                    rw [show atL ⟨1, zeros n, a⟩ 1 = a from if_pos rfl] at hxv
                    subst he
                    have HB23 : Hid (Below w22.heap.size w22 w23) := hB23
                    have HB1923 : Hid (Below w19.heap.size w19 w23) := below_trans (below_trans HB20.out HB2022.out) hB23
                    obtain ⟨G, hG⟩ : ∃ G : Nat → Prop, G = fun x => x = g ∨ (Value.slice wo L.length wk).ownBlock = some x := ⟨_, rfl⟩
                    have HG19 : Hid (∀ x, G x → x < wr.heap.size) := fun x hx => by
                      rw [hG] at hx
                      rcases hx with h | h
                      · rw [h]; exact HZR.out.lt
                      · exact HWB.out x h
                    have HG2 : Hid (∀ x, G x → w2.heap.size ≤ x) := fun x hx => by
                      rw [hG] at hx
                      rcases hx with h | h
                      · rw [h]; exact HG4.out
                      · have h1 := (HW11.out.lt x h).1
                        have h2 := HZ10.out.1
                        have h3 := HB45.out.size
                        have h4 := HB4.out.size
                        omega
                    have HS4' : Hid (S4 G w23 (.slice (some ⟨g, 0, none⟩) (n + 4) cap) (.slice wo L.length wk) (n + 4) L.length w23) := by
                      have hz : Zw w23 g cap (a ++ mem4) := (HZ19.out.below HB1923.out)
                      have hz2 := hz.own (Nat.zero_le g)
                      have hlz : (a ++ mem4).length = n + 4 := by simp [mem4, HN.out]
                      rw [hlz] at hz2
                      have hw2 : w23.ownsRow 0 3 1 (.slice wo L.length wk) L.length (cellsN L) := by
                        have h12 := own_below HW11.out HB1112.out
                        have hch := row_keep (w' := wr) h12 (fun x hx => HCH.out.block x (h12.lt x hx).2 (fun e => by have h1 := (HE5.out x e).2; have h2 := (HW11.out.lt x hx).1; have h3 := HZ10.out.1; omega))
                        exact row_base (own_below (own_below hch HB19.out) HB1923.out) (fun _ _ => Nat.zero_le _)
                      refine ⟨Ch.refl _ _, ⟨_, hz2⟩, ⟨_, hw2⟩, fun x h1 h2 => ?_, fun x h => ?_, fun x h => ?_⟩
                      · simp [Value.ownBlock] at h1
                        subst h1
                        have h3 := (HW11.out.lt _ h2).1
                        have h4 := HZ4.out.lt
                        have h5 := HZ10.out.1
                        have h6 := HB45.out.size
                        omega
                      · simp [Value.ownBlock] at h
                        rw [hG]; exact .inl (.inl h.symm)
                      · rw [hG]; exact .inl (.inr h)
                    have hGw : ∀ x, G x → x < w20.heap.size := fun x hx => Nat.lt_of_lt_of_le (Nat.lt_of_lt_of_le (HG19.out x hx) HB19.out.size) HB20.out.size
                    have HXV : Hid (Nd G w23 xv a) := nd_own hxv HI64.out (fun x hx => Nat.lt_of_lt_of_le (hGw x hx) HB2022.out.size)
                    have HPV : Hid (Nd G w23 (.slice po a.length pc) a) := ((nd_own HPP.out HI64.out hGw).below HB22.out).below hB23
                    have HCV : Hid (Nd G w23 (.slice co L.length cc) L) := ((nd_own HCC.out HL64.out hGw).below HB22.out).below hB23
                    have HFV : Hid (Nd G w23 (.slice fo n fc) a) := by
                      have h1 : Nd G wr (.slice fo n fc) a := by
                        refine ⟨HFR.out, fun b off n' c' e hl hd => ?_⟩
                        cases e
                        obtain ⟨b', off', e2, c2⟩ := HF2.out.at hl
                        cases e2
                        have h1 := cell_lt c2
                        have h2 := HG2.out b hd
                        simp only at h1
                        omega
                      exact (h1.below HB19.out).below HB1923.out
                    have HT3V : Hid (Nd G w23 (.slice t3o L.length t3c) L) := (((nd_own HT3.out HL64.out HG19.out).below HB1519.out)).below HB1923.out
                    have HUB : Hid (w23.heap[w21.heap.size]? = some (.cells #[.int .i64 2, .slice po a.length pc, .slice co L.length cc] 42 (0, 0)) ∧ ¬ G w21.heap.size) := ⟨keepP HU22.out hB23, fun h => by have h1 := hGw _ h; have h2 := HB21.out.size; omega⟩
                    have HBE : Hid (Below w.heap.size w w23 ∧ ∀ x, G x → w.heap.size ≤ x) := ⟨below_trans (below_trans HBW.out HB19.out) HB1923.out, fun x hx => Nat.le_trans (below_trans (below_trans HB0.out HB1.out) HB2.out).size (HG2.out x hx)⟩
                    clear hG hGw hxv hB23
                    go_wp2_with fail
                    go_loopw [30] (fun iv wz => ∃ i : Nat, i ≤ n ∧ iv = .int .i64 i ∧ S4 G w23 (.slice (some ⟨g, 0, none⟩) (n + 4) cap) (.slice wo L.length wk) (n + 4) L.length wz) (fun iv _ => n - (intOf iv).toNat)
                    case atStart => exact ⟨0, Nat.zero_le _, rfl, HS4'.out⟩
                    case round =>
                      clear HS4'
                      obtain ⟨k, hk, hkv, hS⟩ := hrel
                      subst hkv
                      have HS4' : Hid (S4 G w23 (.slice (some ⟨g, 0, none⟩) (n + 4) cap) (.slice wo L.length wk) (n + 4) L.length wr) := hS
                      clear hS
                      by_cases hkn : k < n
                      · have hkni : (k : Int) < (n : Int) := by omega
                        have hk4 : (k : Int) < ((n + 4 : Nat) : Int) := by omega
                        have hk4' : (k : Int) < (n : Int) + 4 := by omega
                        have hkL : k < L.length := by rw [HLN.out]; exact hkn
                        have hkLi : (k : Int) < (L.length : Int) := by omega
                        obtain ⟨g1, cap1, x1, hv1, hb1, c0, f0⟩ := rw_cellN HS4'.out.a (show k < n + 4 by omega)
                        obtain ⟨g2, cap2, x2, hv2, hb2, d0, e0⟩ := rw_cellN HS4'.out.c hkL
                        have hg1 : g1 = g := by simp only [Value.slice.injEq, Option.some.injEq, Addr.mk.injEq] at hv1; exact hv1.1.1.symm
                        subst hg1
                        have hmo : wo = some ⟨g2, 0, none⟩ := by simp only [Value.slice.injEq] at hv2; exact hv2.1
                        have hgn : ¬ g1 = g2 := fun e => HS4'.out.ap g1 hb1 (by rw [hb2, e])
                        have hgn' : ¬ g2 = g1 := fun e => hgn e.symm
                        have R' : ∃ j : Nat, j ≤ n ∧ Value.int .i64 ((k : Int) + 1) = .int .i64 j ∧ S4 G w23 (.slice (some ⟨g1, 0, none⟩) (n + 4) cap) (.slice wo L.length wk) (n + 4) L.length ((wr.setCell ⟨g1, k, none⟩ (.int .i64 99)).setCell ⟨g2, k, none⟩ (.int .i64 98)) :=
                          ⟨k + 1, hkn, by simp, (HS4'.out.setA hb1 _ _).setC hb2 _ _⟩
                        subst hmo
                        clear hv1 hb1 hv2 hb2
                        go_wp2_with fail
                        go_roundw
                        case rel => exact R'
                        case measure => simp [intOf]; omega
                      · have hkni : ¬ (k : Int) < (n : Int) := by omega
                        have HCG : Hid (Ch G w23 wr) := HS4'.out.ch
                        have HUR : Hid (wr.heap[w21.heap.size]? = some (.cells #[.int .i64 2, .slice po a.length pc, .slice co L.length cc] 42 (0, 0))) := by
                          show _ = _
                          rw [HCG.out.block _ (Array.getElem?_eq_some_iff.1 HUB.out.1).1 HUB.out.2]; exact HUB.out.1
                        have HBR : Hid (Below w.heap.size w wr) := HBE.out.1.trans (HCG.out.to_below HBE.out.1.size HBE.out.2)
                        clear HS4'
                        go_wp2_with fail
                        refine (ints_walk (HXV.out.ch HCG.out).1 (HFV.out.ch HCG.out).1).mono ?_
                        rw [decide_eq_true rfl]
                        rintro e w24 ⟨rfl, hB⟩
                        have HB24 : Hid (Below wr.heap.size wr w24) := hB
                        obtain ⟨y0, y1, y2⟩ := box_cells (keepP HUR.out hB)
                        clear hB
                        go_wp2_with fail
                        refine (ints_walk ((HPV.out.ch HCG.out).1.below HB24.out) ((HFV.out.ch HCG.out).1.below HB24.out)).mono ?_
                        rw [decide_eq_true rfl]
                        rintro e w25 ⟨rfl, hB⟩
                        have HB25 : Hid (Below wr.heap.size wr w25) := below_trans HB24.out hB
                        clear y0 y1 y2 hB
                        obtain ⟨y0, y1, y2⟩ := box_cells (keepP HUR.out HB25.out)
                        go_wp2_with fail
                        refine (ints_walk ((HCV.out.ch HCG.out).1.below HB25.out) ((HT3V.out.ch HCG.out).1.below HB25.out)).mono ?_
                        rw [decide_eq_true rfl]
                        rintro e w26 ⟨rfl, hB⟩
                        go_wp2_with fail
                        go_ret
                        exact ⟨rfl, below_trans HBR.out (below_trans HB25.out hB)⟩
                · have hI0q : (I != 0) = true := by simp [hI0]
                  go_wp2_with fail
                  go_ret
                  exact ⟨rfl, below_trans HBW.out HB19.out⟩

end Go.Proofs.Ytjkhegekojflhab

namespace Go.Proofs.Ytjkhegekojflhab
open Go.ChangeShapes Go.WideShapes Go.ChangeAt Go.RowKit

set_option maxRecDepth 100000 in
theorem lifted_spoutMemory (os : Os) (started : os.Started) (H : Type) (enc : TypeId × Value → H) :
    ReturnsInHanded {} Try.checked os 3 .any (Rows.spoutMemorySpec.pre6 enc Try.prog Try.f3 Rows.spoutMemoryRow.domain false) (Rows.spoutMemorySpec.post enc Try.prog Try.f3 false true false false) := by
  refine returnsInHanded_of_change_sized (C := Try.checked) own_knob started (by kernel_rfl) Try.func3
    (ChangeSpec.witness6 (enc := enc) (C := Try.checked) false ⟨#[], #[.agg #[.int .i64 0, .slice none 0 0, .slice none 0 0, .slice none 0 0], .slice none 0 0, .int .i64 0], []⟩ 8 (by kernel_rfl) (by kernel_rfl) (by kernel_rfl) (by kernel_rfl)) ?_
  intro W base args ds gs before hval0 hW hcnd hsz0 _
  have hval : ∀ (j : Nat) t v, Try.f3.params[j]? = some t → args[j]? = some v → Value.okWide Try.prog W .any base t v := hval0
  have hW' := hW
  obtain ⟨p, q, hA0, hV, rfl, hfz, hnd⟩ := hW
  have hA : DataW.TrodAll enc Try.prog W 0 (fun _ => true) true Try.f3.params.toList args.toList ds p := hA0
  have hsz : (DataW.weightsEach Try.prog (Try.f3.params.toList ++ Rows.spoutMemorySpec.plain.varTypes Try.prog) (ds ++ gs)).all (· ≤ reachBytes) = true := hsz0
  rw [Try.params3] at hA hval hsz
  obtain ⟨v0, vs0, d0, ds0, p0, q0, hargs, rfl, rfl, t0, r0⟩ := trodAll_cons hA
  obtain ⟨v1, vs1, d1, ds1, p1, q1, rfl, rfl, rfl, t1, r1⟩ := trodAll_cons r0
  obtain ⟨v2, vs2, d2, ds2, p2, q2, rfl, rfl, rfl, t2, r2⟩ := trodAll_cons r1
  obtain ⟨rfl, rfl, rfl⟩ := trodAll_nil r2
  obtain rfl : args = #[v0, v1, v2] := by cases args; simp_all
  obtain ⟨rfl, rfl⟩ := trodVars_none hV
  simp only [List.append_nil] at hW' hsz
  obtain ⟨rv0, av0, ov0, F0, e0, br0, ba0, bo0, bn0⟩ := open_full (hval 0 25 v0 rfl rfl) t0
  subst e0
  obtain ⟨l1, b1, z1⟩ := open_nv (hval 1 23 v1 rfl rfl) t1
  have o2 := open_int Try.underlying3 (hval 2 3 v2 rfl rfl) t2
  obtain ⟨a2, e2, _, _, wf2⟩ := o2
  have w2 := i64_of_wf wf2
  subst e2
  have hs1 := szd_len z1 (fun el sp e => by subst e; exact sized_slice hsz (j := 1) (t := 23) (e := 3) rfl rfl Try.underlying23)
  refine (spoutmemory_walk br0 ba0 bo0 b1 hs1).mono fun e W' ⟨he, hB⟩ => ?_
  subst he
  exact ⟨_, rfl, post_of_below (pv := []) hW' (fun _ _ _ => (trodAll_cons_mk (shut_bool Try.underlying4 _) trodAll_mk0)) (fun sp hsp => (trodAll_cons_mk (again (by kernel_rfl) (of_decide_eq_true (by kernel_rfl)) t0 hB (fun x hx => by simpa using hW'.lt x (by simp [hx])) (fun x hx => hsp x (by simp [hx]))) (trodAll_cons_mk (again (by kernel_rfl) (of_decide_eq_true (by kernel_rfl)) t1 hB (fun x hx => by simpa using hW'.lt x (by simp [hx])) (fun x hx => hsp x (by simp [hx]))) (trodAll_cons_mk (again (by kernel_rfl) (of_decide_eq_true (by kernel_rfl)) t2 hB (fun x hx => by simpa using hW'.lt x (by simp [hx])) (fun x hx => hsp x (by simp [hx]))) trodAll_mk0)))) (fun _ _ => rfl) (by simp) hB⟩

theorem spoutMemory_holds : Rows.SpoutMemorySaid :=
  OpenClaim.holds_of_wide 3 Try.f3 rfl rfl rfl rfl rfl rfl rfl ⟨rfl, rfl, rfl, rfl, rfl⟩ rfl rfl rfl rfl rfl (by kernel_rfl) Try.func3 (by kernel_rfl)
    (of_decide_eq_true (by kernel_rfl)) (by unfold Func.isWrapper; first | (rw [if_pos (by decide +kernel)]; kernel_rfl) | (rw [if_neg (by decide +kernel)]; exact ⟨rfl, rfl⟩))
    (fun os started H enc _ => lifted_spoutMemory os started H enc)
#print axioms spoutMemory_holds
end Go.Proofs.Ytjkhegekojflhab
