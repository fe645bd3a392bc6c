/- Rows of bytes that are written over and grow, beside what stays. -/
import Derived.Test.YtninkhijnicbjaaDi
import Derived.Maps.AppendAt
namespace Go.Proofs.Ytninkhijnicbjaa
open Go.RowKit

/-- A row of n bytes of the call's own, whatever they are. -/
def Ri (w : World) (v : Value) (n : Nat) : Prop := ∃ l : List Int, w.ownsRow 0 5 1 v n (l.map (Value.int .u8))
section
variable {w w' : World} {v v' : Value} {n g i : Nat}
theorem ri_own {base : Nat} {b : List Nat} (h : w.ownsRow base 5 1 v n (cb b)) : Ri w v n := ⟨ib b, own_base h (Nat.zero_le _)⟩
theorem Ri.lt (h : Ri w v n) (hv : v.ownBlock = some g) : g < w.heap.size := by
  obtain ⟨l, h⟩ := h
  exact (h.lt g hv).2
theorem Ri.keep (h : Ri w v n) (hk : ∀ x, v.ownBlock = some x → w'.heap[x]? = w.heap[x]?) : Ri w' v n := by
  obtain ⟨l, h⟩ := h
  exact ⟨l, row_keep h hk⟩
theorem Ri.below (h : Ri w v n) (hb : Below w.heap.size w w') : Ri w' v n := h.keep (fun x hx => hb.block x (h.lt hx))
theorem Ri.block (h : Ri w v n) (hv : v.ownBlock = some g) : ∃ cur, w.heap[g]? = some (.cells cur 5 (0, 0)) := by
  obtain ⟨l, h⟩ := h
  rcases h.2 with ⟨rfl, _⟩ | ⟨g', cap, cur, rfl, _, hg, _⟩
  · cases hv
  · simp [Value.ownBlock] at hv; subst hv; exact ⟨cur, hg⟩
theorem Ri.form (h : Ri w v n) : ∃ ao cap, v = .slice ao n cap ∧ n ≤ cap ∧ cap ≤ maxLen := by
  obtain ⟨l, h⟩ := h
  exact row_form h
theorem Ri.some (h : Ri w v n) (hn : 1 ≤ n) : ∃ g cap, v = .slice (Option.some ⟨g, 0, none⟩) n cap ∧ n ≤ cap := by
  obtain ⟨l, h⟩ := h
  rcases h.2 with ⟨rfl, h0⟩ | ⟨g', cap, cur, rfl, _, hg, hnc, _⟩
  · omega
  · exact ⟨g', cap, rfl, hnc⟩
theorem Ri.at {cap : Nat} (h : Ri w (.slice (Option.some ⟨g, 0, none⟩) n cap) n) (hi : i < n) : (∃ x, w.cell? ⟨g, i, none⟩ = Option.some (.int .u8 x)) ∧ w.frozen? ⟨g, i, none⟩ = false := by
  obtain ⟨l, h1, h2⟩ := h
  rcases h2 with ⟨h, _⟩ | ⟨g', cap', cur, e1, hb, hg, hnc, hcm, hcs, htake⟩
  · cases h
  · simp only [Value.slice.injEq, Option.some.injEq, Addr.mk.injEq] at e1
    obtain ⟨⟨rfl, _⟩, _, rfl⟩ := e1
    have hl : l.length = n := by simpa using h1
    refine ⟨⟨l[i], ?_⟩, by simp [World.frozen?, hg]⟩
    rw [cell_of_row w g i cur _ (0, 0) hg]
    have e := congrArg (fun l => l[i]?) htake
    simp only [List.getElem?_take, Nat.mul_one, if_pos hi, List.getElem?_map, List.getElem?_eq_getElem (show i < l.length by omega)] at e
    rw [← Array.getElem?_toList, e]; rfl
theorem Ri.set {cap : Nat} (h : Ri w (.slice (Option.some ⟨g, 0, none⟩) n cap) n) (i : Nat) (y : Int) : Ri (w.setCell ⟨g, i, none⟩ (.int .u8 y)) (.slice (Option.some ⟨g, 0, none⟩) n cap) n := by
  obtain ⟨l, h1, h2⟩ := h
  rcases h2 with ⟨h, _⟩ | ⟨g', cap', cur, e1, hb, hg, hnc, hcm, hcs, htake⟩
  · cases h
  · simp only [Value.slice.injEq, Option.some.injEq, Addr.mk.injEq] at e1
    obtain ⟨⟨rfl, _⟩, _, rfl⟩ := e1
    have hl : l.length = n := by simpa using h1
    refine ⟨l.set i y, by simpa using hl, .inr ⟨g, cap, cur.setIfInBounds i (.int .u8 y), rfl, hb, set_row hg i _, hnc, hcm, by simpa using hcs, ?_⟩⟩
    rw [Nat.mul_one] at htake ⊢
    rw [Array.toList_setIfInBounds, List.take_set, htake, List.map_set]
end

/-- Where DiskMemory stands behind its answers: x a row of n bytes, the second of z one of m; all else is as in w9, but for M. -/
structure Sm (w9 : World) (M : Nat → Prop) (gz : Nat) (xv zv : Value) (n m : Nat) (wr : World) : Prop where
  kp : Ch M w9 wr
  x : Ri wr xv n
  z : Ri wr zv m
  row : ∃ cur, wr.heap[gz]? = some (.cells cur 36 (0, 0)) ∧ cur[1]? = some zv
  ap : ∀ g, xv.ownBlock = some g → zv.ownBlock ≠ some g
  dx : ∀ g, xv.ownBlock = some g → M g ∨ w9.heap.size ≤ g
  dz : ∀ g, zv.ownBlock = some g → M g ∨ w9.heap.size ≤ g
  dg : M gz
section
variable {w9 wr wx : World} {M : Nat → Prop} {gz n m g i : Nat} {xv zv xv' zv' : Value}
theorem Ch.set {w : World} (h : Ch M w9 w) (hg : M g ∨ w9.heap.size ≤ g) (u : Value) : Ch M w9 (w.setCell ⟨g, i, none⟩ u) :=
  h.trans (Ch.of_grown (D := fun x => x = g) (grown_set w g i u) (fun x hx => by cases hx; rfl)) (fun x hx => by subst hx; exact hg)
theorem Sm.nx (h : Sm w9 M gz xv zv n m wr) : xv.ownBlock ≠ some gz := fun e => by
  obtain ⟨c, e1⟩ := h.x.block e
  obtain ⟨cur, e2, _⟩ := h.row
  rw [e1] at e2; simp at e2
theorem Sm.nz (h : Sm w9 M gz xv zv n m wr) : zv.ownBlock ≠ some gz := fun e => by
  obtain ⟨c, e1⟩ := h.z.block e
  obtain ⟨cur, e2, _⟩ := h.row
  rw [e1] at e2; simp at e2
theorem Sm.below (h : Sm w9 M gz xv zv n m wr) (hb : Below wr.heap.size wr wx) : Sm w9 M gz xv zv n m wx := by
  obtain ⟨cur, e1, e2⟩ := h.row
  exact ⟨h.kp.trans (Ch.of_below (D := M) hb) (fun _ hx => .inl hx), h.x.below hb, h.z.below hb, ⟨cur, by rw [hb.block gz (Array.getElem?_eq_some_iff.1 e1).1]; exact e1, e2⟩, h.ap, h.dx, h.dz, h.dg⟩
theorem Sm.cell (h : Sm w9 M gz xv zv n m wr) : wr.cell? ⟨gz, 1, none⟩ = some zv := by
  obtain ⟨cur, e1, e2⟩ := h.row
  rw [cell_of_row wr gz 1 cur _ (0, 0) e1]; exact e2
theorem Sm.soft (h : Sm w9 M gz xv zv n m wr) : wr.frozen? ⟨gz, 1, none⟩ = false := by
  obtain ⟨cur, e1, e2⟩ := h.row
  simp [World.frozen?, e1]
theorem Sm.setX {cap : Nat} (h : Sm w9 M gz (.slice (some ⟨g, 0, none⟩) n cap) zv n m wr) (i : Nat) (y : Int) : Sm w9 M gz (.slice (some ⟨g, 0, none⟩) n cap) zv n m (wr.setCell ⟨g, i, none⟩ (.int .u8 y)) := by
  obtain ⟨cur, e1, e2⟩ := h.row
  exact ⟨h.kp.set (h.dx g rfl) _, h.x.set i y, h.z.keep (fun x hx => set_other i _ (fun e => h.ap g rfl (e ▸ hx))), ⟨cur, by rw [set_other i _ (fun e => h.nx (by rw [e]; rfl))]; exact e1, e2⟩, h.ap, h.dx, h.dz, h.dg⟩
theorem Sm.setZ {cap : Nat} (h : Sm w9 M gz xv (.slice (some ⟨g, 0, none⟩) m cap) n m wr) (i : Nat) (y : Int) : Sm w9 M gz xv (.slice (some ⟨g, 0, none⟩) m cap) n m (wr.setCell ⟨g, i, none⟩ (.int .u8 y)) := by
  obtain ⟨cur, e1, e2⟩ := h.row
  exact ⟨h.kp.set (h.dz g rfl) _, h.x.keep (fun x hx => set_other i _ (fun e => h.ap x hx (by rw [e]; rfl))), h.z.set i y, ⟨cur, by rw [set_other i _ (fun e => h.nz (by rw [e]; rfl))]; exact e1, e2⟩, h.ap, h.dx, h.dz, h.dg⟩
theorem Sm.appX {n' : Nat} (h : Sm w9 M gz xv zv n m wr) (hg : wr.grownBy wx xv.ownBlock) (ho : Ri wx xv' n') (hat : xv'.ownBlock = xv.ownBlock ∨ xv'.ownBlock = some wr.heap.size) : Sm w9 M gz xv' zv n' m wx := by
  obtain ⟨cur, e1, e2⟩ := h.row
  have hgz := (Array.getElem?_eq_some_iff.1 e1).1
  refine ⟨h.kp.trans (Ch.of_grown (D := fun x => xv.ownBlock = some x) hg (fun x hx => hx)) (fun x hx => h.dx x hx), ho, h.z.keep (fun x hx => hg.block x (h.z.lt hx) (fun e => h.ap x e.symm hx)), ⟨cur, by rw [hg.block gz hgz (fun e => h.nx e.symm)]; exact e1, e2⟩, fun x hx hz => ?_, fun x hx => ?_, h.dz, h.dg⟩
  · rcases hat with e | e
    · exact h.ap x (e ▸ hx) hz
    · rw [e] at hx; cases hx; exact Nat.lt_irrefl _ (h.z.lt hz)
  · rcases hat with e | e
    · exact h.dx x (e ▸ hx)
    · rw [e] at hx; cases hx; exact .inr h.kp.size
/-- The second of z grows, and is put back into z. -/
theorem Sm.appZ {m' : Nat} (h : Sm w9 M gz xv zv n m wr) (hg : wr.grownBy wx zv.ownBlock) (ho : Ri wx zv' m') (hat : zv'.ownBlock = zv.ownBlock ∨ zv'.ownBlock = some wr.heap.size) : Sm w9 M gz xv zv' n m' (wx.setCell ⟨gz, 1, none⟩ zv') ∧ (∃ u, wx.cell? ⟨gz, 1, none⟩ = some u) ∧ wx.frozen? ⟨gz, 1, none⟩ = false := by
  obtain ⟨cur, e1, e2⟩ := h.row
  have hgz := (Array.getElem?_eq_some_iff.1 e1).1
  have e3 : wx.heap[gz]? = some (.cells cur 36 (0, 0)) := by rw [hg.block gz hgz (fun e => h.nz e.symm)]; exact e1
  have hc : Ch M w9 wx := h.kp.trans (Ch.of_grown (D := fun x => zv.ownBlock = some x) hg (fun x hx => hx)) (fun x hx => h.dz x hx)
  have hx' : Ri wx xv n := h.x.keep (fun x hx => hg.block x (h.x.lt hx) (fun e => h.ap x hx e.symm))
  have n1 : ∀ {v : Value} {k : Nat}, Ri wx v k → ∀ x, v.ownBlock = some x → x ≠ gz := fun hr x hx e => by
    subst e
    obtain ⟨c, e4⟩ := hr.block hx
    rw [e3] at e4; simp at e4
  refine ⟨⟨hc.set (.inl h.dg) _, hx'.keep (fun x hx => set_other 1 _ (n1 hx' x hx)), ho.keep (fun x hx => set_other 1 _ (n1 ho x hx)), ⟨cur.setIfInBounds 1 zv', set_row e3 1 _, ?_⟩, fun x hx hz => ?_, h.dx, fun x hx => ?_, h.dg⟩, ⟨_, by rw [cell_of_row wx gz 1 cur _ (0, 0) e3]; exact e2⟩, by simp [World.frozen?, e3]⟩
  · rw [Array.getElem?_setIfInBounds, if_pos rfl, if_pos (Array.getElem?_eq_some_iff.1 e2).1]
  · rcases hat with e | e
    · exact h.ap x hx (e ▸ hz)
    · rw [e] at hz; cases hz; exact Nat.lt_irrefl _ (h.x.lt hx)
  · rcases hat with e | e
    · exact h.dz x (e ▸ hx)
    · rw [e] at hx; cases hx; exact .inr h.kp.size
end

/-- A number is written into some row of bytes. -/
theorem Ri.any {w : World} {v : Value} {n : Nat} (h : Ri w v n) (g i : Nat) (y : Int) : Ri (w.setCell ⟨g, i, none⟩ (.int .u8 y)) v n := by
  by_cases hg : v.ownBlock = Option.some g
  · obtain ⟨l, h1, h2⟩ := id h
    rcases h2 with ⟨rfl, _⟩ | ⟨g', cap, cur, rfl, _⟩
    · cases hg
    · simp [Value.ownBlock] at hg
      subst hg
      exact h.set i y
  · exact h.keep (fun x hx => set_other i _ (fun e => hg (e ▸ hx)))
/-- Block go is a row of rows of bytes, as long as those of ls, in blocks of E. -/
def Qr (E : Nat → Prop) (w : World) (go : Nat) (ls : List (List Nat)) : Prop :=
  ∃ cur, w.heap[go]? = some (.cells cur 36 (0, 0)) ∧ ∀ i, i < ls.length → ∃ u, cur[i]? = some u ∧ Ri w u (bk ls i).length ∧ ∀ x, u.ownBlock = some x → E x
theorem Gr.qr {E : Nat → Prop} {w : World} {g cap : Nat} {ls : List (List Nat)} (h : Gr E w g cap ls) : Qr E w g ls := by
  obtain ⟨⟨cur, h1, _, h3⟩, _⟩ := h
  refine ⟨cur, h1, fun i hi => ?_⟩
  obtain ⟨u, a, b, c⟩ := h3 i hi
  exact ⟨u, a, ri_own b, c⟩
theorem Qr.below {E : Nat → Prop} {w w' : World} {go : Nat} {ls : List (List Nat)} (h : Qr E w go ls) (hb : Below w.heap.size w w') : Qr E w' go ls := by
  obtain ⟨cur, h1, h3⟩ := h
  refine ⟨cur, by rw [hb.block go (Array.getElem?_eq_some_iff.1 h1).1]; exact h1, fun i hi => ?_⟩
  obtain ⟨u, a, b, c⟩ := h3 i hi
  exact ⟨u, a, b.below hb, c⟩
theorem Qr.mono {E E' : Nat → Prop} {w : World} {go : Nat} {ls : List (List Nat)} (h : Qr E w go ls) (he : ∀ x, E x → x < w.heap.size → E' x) : Qr E' w go ls := by
  obtain ⟨cur, h1, h3⟩ := h
  refine ⟨cur, h1, fun i hi => ?_⟩
  obtain ⟨u, a, b, c⟩ := h3 i hi
  exact ⟨u, a, b, fun x hx => he x (c x hx) (b.lt hx)⟩
theorem Qr.at {E : Nat → Prop} {w : World} {go i : Nat} {ls : List (List Nat)} (h : Qr E w go ls) (hi : i < ls.length) : ∃ u, w.cell? ⟨go, i, none⟩ = some u ∧ Ri w u (bk ls i).length ∧ ∀ x, u.ownBlock = some x → E x ∧ x ≠ go := by
  obtain ⟨cur, h1, h3⟩ := h
  obtain ⟨u, a, b, c⟩ := h3 i hi
  refine ⟨u, by rw [cell_of_row w go i cur _ (0, 0) h1]; exact a, b, fun x hx => ⟨c x hx, fun e => ?_⟩⟩
  subst e
  obtain ⟨c2, e2⟩ := b.block hx
  rw [h1] at e2; simp at e2
theorem Qr.set {E : Nat → Prop} {w : World} {go g k : Nat} {ls : List (List Nat)} (h : Qr E w go ls) (hg : g ≠ go) (y : Int) : Qr E (w.setCell ⟨g, k, none⟩ (.int .u8 y)) go ls := by
  obtain ⟨cur, h1, h3⟩ := h
  refine ⟨cur, by rw [set_other k _ (fun e => hg e.symm)]; exact h1, fun i hi => ?_⟩
  obtain ⟨u, a, b, c⟩ := h3 i hi
  exact ⟨u, a, b.any g k y, c⟩
/-- The loaded disk beside the rows that it was loaded from. -/
structure Jq (w : World) (lv : Value) (D : Nat → Prop) (go : Nat) (ls : List (List Nat)) (wr : World) : Prop where
  disk : Dsk 59 D wr lv (loadS ls)
  rows : Qr (fun x => w.heap.size ≤ x ∧ ¬ D x) wr go ls
  below : Below w.heap.size w wr
theorem Jq.go {w : World} {lv : Value} {D : Nat → Prop} {go : Nat} {ls : List (List Nat)} {wr wx : World} (h : Jq w lv D go ls wr) (hb : Below wr.heap.size wr wx) : Jq w lv D go ls wx := ⟨h.disk.below hb, h.rows.below hb, below_trans h.below hb⟩
theorem Jq.set {w : World} {lv : Value} {D : Nat → Prop} {go g k : Nat} {ls : List (List Nat)} {wr : World} (h : Jq w lv D go ls wr) (hg : w.heap.size ≤ g ∧ ¬ D g) (hn : g ≠ go) (y : Int) : Jq w lv D go ls (wr.setCell ⟨g, k, none⟩ (.int .u8 y)) :=
  ⟨h.disk.beside hg.2, h.rows.set hn y, h.below.setCell (p := ⟨g, k, none⟩) hg.1 _⟩

/-- APPEND of one byte onto a row of the call's own. -/
theorem wpList_append_byte {P : Program} {w : World} {ops : Array Oper} {rest : List Oper} {o : Oper} {a : Act} {Q : Exit → Act → World → Prop} (hgd : o.guard = none) (s x : Operand) (t : TypeId)
    (ho : o.op = .call { callee := .builtin .append, args := #[s, x], argTypes := #[t, t] })
    (ht : P.underlying t = some (.slice 5)) (hinf : (P.info? 5).map (fun i => (i.zero, i.size, i.bytes)) = some (some (.int .u8 0), 1, 1))
    (v : Value) (n : Nat) (hs : a.eval s = v) (hown : Ri w v n) (g : Nat) (y : Int) (hx : a.eval x = .slice (some ⟨g, 0, none⟩) 1 1) (hc : w.cell? ⟨g, 0, none⟩ = some (.int .u8 y)) (hn : n + 1 ≤ 140737488355328)
    (h : ∀ v' w', Ri w' v' (n + 1) → w.grownBy w' v.ownBlock → (v'.ownBlock = v.ownBlock ∨ v'.ownBlock = some w.heap.size) → wpList P ops Q rest (a.put o.dst v') w') : wpList P ops Q (o :: rest) a w := by
  obtain ⟨i0, hi, hz0, hz1, hz2⟩ := info_partsV hinf
  obtain ⟨l, hro⟩ := hown
  refine wpList_append_own_at w hgd s x t ho 0 5 i0 (.int .u8 0) 1 1 ht hi hz0 hz1 hz2 rfl (by decide) v n _ hs hro ⟨g, 0, none⟩ 1 1 [.int .u8 y] hx (by simp) ?_ ?_ (by simp only [maxLen]; omega) (by omega) (Nat.zero_le _) ?_
  · intro j u hj
    cases j with
    | zero => simp at hj; subst hj; simpa [WideShapes.add_plain] using hc
    | succ j => simp at hj
  · intro u hu
    simp at hu
    subst hu; rfl
  · intro v' w' h1 h2 _ h3
    exact h v' w' ⟨l ++ [y], by simpa using h1⟩ h2 h3
end Go.Proofs.Ytninkhijnicbjaa
