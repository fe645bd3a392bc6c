/- The reference's Parse: what it keeps in memory, line by line. -/
import Derived.Test.YtkiplcmndpdifaaGreatDoorRf

namespace Go.Proofs.YtkiplcmndpdifaaGreatDoor

open Go.RowKit



theorem results_c3 {fn : Func} {p a b c : Tmp} {ty : TypeId} (h : fn.results = #[.cell p ty, .tmp a, .tmp b, .tmp c]) (tmps : Array Value) (P : Program) (w : World) :
    (results fn tmps).run P w =
      ((asAddr (tmps.getD p undef)).run P w).andThen fun a0 w₁ => ((loadVar ty a0).run P w₁).andThen fun v w₂ => .ok (.tuple #[v, tmps.getD a undef, tmps.getD b undef, tmps.getD c undef]) w₂ := by
  simp only [results, h]
  simp [Sem.run_bind, Result.andThen]


def zPl : Array Value := #[.int .i64 0, .int .i64 0, .int .i64 0, .slice none 0 0, .int .i64 0, .int .i64 0, .int .i64 0, .int .i64 0]


theorem set8q {w : World} {Q : Nat} {x0 x1 x2 x3 x4 x5 x6 x7 y0 y1 y2 y3 y4 y5 y6 y7 : Value} {t : TypeId} (h : w.heap[Q]? = some (.cells #[x0, x1, x2, x3, x4, x5, x6, x7] t (0, 0))) :
    ((((((((w.setCell ⟨Q, 0, none⟩ y0).setCell ⟨Q, 1, none⟩ y1).setCell ⟨Q, 2, none⟩ y2).setCell ⟨Q, 3, none⟩ y3).setCell ⟨Q, 4, none⟩ y4).setCell ⟨Q, 5, none⟩ y5).setCell ⟨Q, 6, none⟩ y6).setCell ⟨Q, 7, none⟩ y7).heap[Q]? = some (.cells #[y0, y1, y2, y3, y4, y5, y6, y7] t (0, 0)) := by
  have h0 : (w.setCell ⟨Q, 0, none⟩ y0).heap[Q]? = some (.cells #[y0, x1, x2, x3, x4, x5, x6, x7] t (0, 0)) := by rw [set_row h]; rfl
  have h1 : ((w.setCell ⟨Q, 0, none⟩ y0).setCell ⟨Q, 1, none⟩ y1).heap[Q]? = some (.cells #[y0, y1, x2, x3, x4, x5, x6, x7] t (0, 0)) := by rw [set_row h0]; rfl
  have h2 : (((w.setCell ⟨Q, 0, none⟩ y0).setCell ⟨Q, 1, none⟩ y1).setCell ⟨Q, 2, none⟩ y2).heap[Q]? = some (.cells #[y0, y1, y2, x3, x4, x5, x6, x7] t (0, 0)) := by rw [set_row h1]; rfl
  have h3 : ((((w.setCell ⟨Q, 0, none⟩ y0).setCell ⟨Q, 1, none⟩ y1).setCell ⟨Q, 2, none⟩ y2).setCell ⟨Q, 3, none⟩ y3).heap[Q]? = some (.cells #[y0, y1, y2, y3, x4, x5, x6, x7] t (0, 0)) := by rw [set_row h2]; rfl
  have h4 : (((((w.setCell ⟨Q, 0, none⟩ y0).setCell ⟨Q, 1, none⟩ y1).setCell ⟨Q, 2, none⟩ y2).setCell ⟨Q, 3, none⟩ y3).setCell ⟨Q, 4, none⟩ y4).heap[Q]? = some (.cells #[y0, y1, y2, y3, y4, x5, x6, x7] t (0, 0)) := by rw [set_row h3]; rfl
  have h5 : ((((((w.setCell ⟨Q, 0, none⟩ y0).setCell ⟨Q, 1, none⟩ y1).setCell ⟨Q, 2, none⟩ y2).setCell ⟨Q, 3, none⟩ y3).setCell ⟨Q, 4, none⟩ y4).setCell ⟨Q, 5, none⟩ y5).heap[Q]? = some (.cells #[y0, y1, y2, y3, y4, y5, x6, x7] t (0, 0)) := by rw [set_row h4]; rfl
  have h6 : (((((((w.setCell ⟨Q, 0, none⟩ y0).setCell ⟨Q, 1, none⟩ y1).setCell ⟨Q, 2, none⟩ y2).setCell ⟨Q, 3, none⟩ y3).setCell ⟨Q, 4, none⟩ y4).setCell ⟨Q, 5, none⟩ y5).setCell ⟨Q, 6, none⟩ y6).heap[Q]? = some (.cells #[y0, y1, y2, y3, y4, y5, y6, x7] t (0, 0)) := by rw [set_row h5]; rfl
  have h7 : ((((((((w.setCell ⟨Q, 0, none⟩ y0).setCell ⟨Q, 1, none⟩ y1).setCell ⟨Q, 2, none⟩ y2).setCell ⟨Q, 3, none⟩ y3).setCell ⟨Q, 4, none⟩ y4).setCell ⟨Q, 5, none⟩ y5).setCell ⟨Q, 6, none⟩ y6).setCell ⟨Q, 7, none⟩ y7).heap[Q]? = some (.cells #[y0, y1, y2, y3, y4, y5, y6, y7] t (0, 0)) := by rw [set_row h6]; rfl
  exact h7


theorem set8_other {w : World} {Q x : Nat} {y0 y1 y2 y3 y4 y5 y6 y7 : Value} (h : x ≠ Q) :
    ((((((((w.setCell ⟨Q, 0, none⟩ y0).setCell ⟨Q, 1, none⟩ y1).setCell ⟨Q, 2, none⟩ y2).setCell ⟨Q, 3, none⟩ y3).setCell ⟨Q, 4, none⟩ y4).setCell ⟨Q, 5, none⟩ y5).setCell ⟨Q, 6, none⟩ y6).setCell ⟨Q, 7, none⟩ y7).heap[x]? = w.heap[x]? := by
  rw [set_other _ h, set_other _ h, set_other _ h, set_other _ h, set_other _ h, set_other _ h, set_other _ h, set_other _ h]


theorem below8 {a w : World} {B Q : Nat} {y0 y1 y2 y3 y4 y5 y6 y7 : Value} (h : Below B a w) (hq : B ≤ Q) :
    Below B a ((((((((w.setCell ⟨Q, 0, none⟩ y0).setCell ⟨Q, 1, none⟩ y1).setCell ⟨Q, 2, none⟩ y2).setCell ⟨Q, 3, none⟩ y3).setCell ⟨Q, 4, none⟩ y4).setCell ⟨Q, 5, none⟩ y5).setCell ⟨Q, 6, none⟩ y6).setCell ⟨Q, 7, none⟩ y7) :=
  (((((((h.setCell (p := ⟨Q, 0, none⟩) hq _).setCell (p := ⟨Q, 1, none⟩) hq _).setCell (p := ⟨Q, 2, none⟩) hq _).setCell (p := ⟨Q, 3, none⟩) hq _).setCell (p := ⟨Q, 4, none⟩) hq _).setCell (p := ⟨Q, 5, none⟩) hq _).setCell (p := ⟨Q, 6, none⟩) hq _).setCell (p := ⟨Q, 7, none⟩) hq _


/-- What the reference's Parse has in memory: its answer's block P, nought; its plan's block Q; the pipeline's row, the steps' row; the text's lines. -/
structure Rm (w : World) (P Q : Nat) (L : List Bs) (av : Value) (s : Rs) (ov sv : Value) (wr : World) : Prop where
  bel : Below w.heap.size w wr
  pl : wr.heap[P]? = some (.cells #[.int .i64 0, .int .i64 0, .int .i64 0, .slice none 0 0, .int .i64 0, .int .i64 0, .int .i64 0, .int .i64 0] 25 (0, 0))
  q : wr.heap[Q]? = some (.cells #[.int .i64 s.p.P, .int .i64 s.p.S, .int .i64 s.p.W, ov, .int .i64 s.p.A, .int .i64 s.p.B, .int .i64 s.p.N, .int .i64 s.p.G] 25 (0, 0))
  ro : wr.ownsRow w.heap.size 53 3 ov s.ops.length (opsF s.ops)
  rs : wr.ownsRow w.heap.size 41 5 sv s.sts.length (stsF s.sts)
  al : WR w.heap.size wr av L
  lo : w.heap.size ≤ P
  pq : P < Q


theorem Rm.more {w : World} {P Q : Nat} {L : List Bs} {av : Value} {s : Rs} {ov sv : Value} {wr wx : World} (h : Rm w P Q L av s ov sv wr) (hb : Below wr.heap.size wr wx) : Rm w P Q L av s ov sv wx :=
  ⟨below_trans h.bel hb, blk_below h.pl hb, blk_below h.q hb, row_keep h.ro fun x hx => hb.block x (h.ro.lt x hx).2, row_keep h.rs fun x hx => hb.block x (h.rs.lt x hx).2, h.al.keep hb, h.lo, h.pq⟩


theorem row_not {w : World} {lo e s n : Nat} {v : Value} {xs : List Value} (h : w.ownsRow lo e s v n xs) {Q : Nat} {cs : Array Value} {t : TypeId} {fr : Nat × Nat} (hq : w.heap[Q]? = some (.cells cs t fr)) (ht : t ≠ e) {x : Nat} (hx : v.ownBlock = some x) : x ≠ Q := by
  rintro rfl
  obtain ⟨⟨cur, hc⟩, _⟩ := row_type h hx
  rw [hq] at hc
  cases hc
  exact ht rfl


/-- The plan has been read. -/
theorem Rm.plan {w : World} {P Q : Nat} {L : List Bs} {av : Value} {ov sv : Value} {wr : World} (h : Rm w P Q L av Rs.zero ov sv wr) (p : Pl) :
    Rm w P Q L av ⟨true, p, [], []⟩ (.slice none 0 0) sv ((((((((wr.setCell ⟨Q, 0, none⟩ (.int .i64 p.P)).setCell ⟨Q, 1, none⟩ (.int .i64 p.S)).setCell ⟨Q, 2, none⟩ (.int .i64 p.W)).setCell ⟨Q, 3, none⟩ (.slice none 0 0)).setCell ⟨Q, 4, none⟩ (.int .i64 p.A)).setCell ⟨Q, 5, none⟩ (.int .i64 p.B)).setCell ⟨Q, 6, none⟩ (.int .i64 p.N)).setCell ⟨Q, 7, none⟩ (.int .i64 p.G)) := by
  have hpq := h.pq
  have hlo := h.lo
  refine ⟨below8 h.bel (by omega), by rw [set8_other (by omega)]; exact h.pl, set8q h.q, World.ownsRow_nil _ _ _ _, row_keep h.rs fun x hx => set8_other (row_not h.rs h.q (by decide) hx), row_keep h.al fun x hx => set8_other (row_not h.al h.q (by decide) hx), hlo, hpq⟩


/-- The pipeline's row has grown, and the plan holds it. -/
theorem Rm.growO {w : World} {P Q : Nat} {L : List Bs} {av : Value} {s : Rs} {ov ov' sv : Value} {wr w' : World} {o : Og} (h : Rm w P Q L av s ov sv wr) (hr : w'.ownsRow w.heap.size 53 3 ov' (s.ops.length + 1) (opsF s.ops ++ opF o)) (hg : wr.grownBy w' ov.ownBlock) :
    Rm w P Q L av { s with ops := s.ops ++ [o] } ov' sv (w'.setCell ⟨Q, 3, none⟩ ov') ∧ w'.heap[Q]? = wr.heap[Q]? := by
  have hpq := h.pq
  have hlo := h.lo
  have hout : ∀ (x : Nat) (c : Array Value) (t : TypeId) (fr : Nat × Nat), wr.heap[x]? = some (Obj.cells c t fr) → t ≠ 53 → w'.heap[x]? = wr.heap[x]? := fun x c t fr hx ht => hg.block x (blk_lt hx) (fun e => row_not h.ro hx ht e.symm rfl)
  have hq : w'.heap[Q]? = wr.heap[Q]? := hout _ _ _ _ h.q (by decide)
  have hsz := h.bel.size
  refine ⟨⟨(h.bel.grown hg (by omega) (fun y hy => (row_type h.ro hy).2)).setCell (p := ⟨Q, 3, none⟩) (by show _ ≤ Q; omega) _, by rw [set_other _ (by omega), hout _ _ _ _ h.pl (by decide)]; exact h.pl, ?_, ?_, ?_, ?_, hlo, hpq⟩, hq⟩
  · rw [set_row (by rw [hq]; exact h.q)]; rfl
  · show World.ownsRow _ _ _ _ _ (s.ops ++ [o]).length ((s.ops ++ [o]).flatMap opF)
    rw [List.length_append, List.flatMap_append]
    refine row_keep (by simpa using hr) fun x hx => set_other _ ?_
    exact row_not hr (by rw [hq]; exact h.q) (by decide) hx
  · refine row_keep h.rs fun x hx => ?_
    obtain ⟨⟨c2, hc2⟩, _⟩ := row_type h.rs hx
    rw [set_other _ (row_not h.rs h.q (by decide) hx)]
    exact hout _ _ _ _ hc2 (by decide)
  · refine row_keep h.al fun x hx => ?_
    obtain ⟨⟨c2, hc2⟩, _⟩ := row_type h.al hx
    rw [set_other _ (row_not h.al h.q (by decide) hx)]
    exact hout _ _ _ _ hc2 (by decide)


/-- The steps' row has grown. -/
theorem Rm.growS {w : World} {P Q : Nat} {L : List Bs} {av : Value} {s : Rs} {ov sv sv' : Value} {wr w' : World} {t : Sp} (h : Rm w P Q L av s ov sv wr) (hr : w'.ownsRow w.heap.size 41 5 sv' (s.sts.length + 1) (stsF s.sts ++ stF t)) (hg : wr.grownBy w' sv.ownBlock) :
    Rm w P Q L av { s with sts := s.sts ++ [t] } ov sv' w' := by
  have hsz := h.bel.size
  have hout : ∀ (x : Nat) (c : Array Value) (t : TypeId) (fr : Nat × Nat), wr.heap[x]? = some (Obj.cells c t fr) → t ≠ 41 → w'.heap[x]? = wr.heap[x]? := fun x c t fr hx ht => hg.block x (blk_lt hx) (fun e => row_not h.rs hx ht e.symm rfl)
  refine ⟨h.bel.grown hg (by omega) (fun y hy => (row_type h.rs hy).2), by rw [hout _ _ _ _ h.pl (by decide)]; exact h.pl, by rw [hout _ _ _ _ h.q (by decide)]; exact h.q, row_keep h.ro fun x hx => ?_, ?_, row_keep h.al fun x hx => ?_, h.lo, h.pq⟩
  · obtain ⟨⟨c2, hc2⟩, _⟩ := row_type h.ro hx
    exact hout _ _ _ _ hc2 (by decide)
  · show World.ownsRow _ _ _ _ _ (s.sts ++ [t]).length ((s.sts ++ [t]).flatMap stF)
    rw [List.length_append, List.flatMap_append]
    simpa using hr
  · obtain ⟨⟨c2, hc2⟩, _⟩ := row_type h.al hx
    exact hout _ _ _ _ hc2 (by decide)


/-- How far Parse has come. -/
structure Ri9 (L : List Bs) (i : Nat) (s : Rs) : Prop where
  top : i ≤ L.length
  val : readL 1 L Rs.zero = readL (i + 1) (L.drop i) s
  zero : s.pd = false → s = Rs.zero
  ops : s.ops.length ≤ i
  sts : s.sts.length ≤ 4096


theorem Ri9.start (L : List Bs) : Ri9 L 0 Rs.zero := ⟨Nat.zero_le _, by simp, fun _ => rfl, Nat.le_refl _, by simp [Rs.zero]⟩


theorem Ri9.cut {L : List Bs} {i : Nat} {s : Rs} {l : Bs} (h : Ri9 L i s) (hl : L[i]? = some l) : readL 1 L Rs.zero = match readLine s l with
    | .error e => .error (i + 1, e)
    | .ok s' => readL (i + 2) (L.drop (i + 1)) s' := by
  obtain ⟨h1, h2⟩ := List.getElem?_eq_some_iff.1 hl
  rw [h.val, List.drop_eq_getElem_cons h1, h2, readL]
  rfl


theorem Ri9.bad {T : Bs} {i : Nat} {s : Rs} {l : Bs} {e : Int} (h : Ri9 (splitB 10 T) i s) (hT : ¬ 262144 < T.length) (hl : (splitB 10 T)[i]? = some l) (hr : readLine s l = .error e) : parseT T = .error (i + 1, e) := by
  unfold parseT
  rw [if_neg hT, h.cut hl, hr]


theorem Ri9.step {L : List Bs} {i : Nat} {s s' : Rs} {l : Bs} (h : Ri9 L i s) (hl : L[i]? = some l) (hr : readLine s l = .ok s') (hz : s'.pd = false → s' = Rs.zero) (ho : s'.ops.length ≤ i + 1) (hs : s'.sts.length ≤ 4096) : Ri9 L (i + 1) s' := by
  refine ⟨(List.getElem?_eq_some_iff.1 hl).1, ?_, hz, ho, hs⟩
  rw [h.cut hl, hr]


theorem Ri9.done {T : Bs} {i : Nat} {s : Rs} (h : Ri9 (splitB 10 T) i s) (hT : ¬ 262144 < T.length) (hi : i = (splitB 10 T).length) : parseT T = if s.pd = false then .error ((splitB 10 T).length, 210) else .ok s := by
  unfold parseT
  rw [if_neg hT, h.val, List.drop_of_length_le (by omega), readL]


theorem split_cnt (b : UInt8) : ∀ (T : Bs), (splitB b T).length ≤ T.length + 1 := by
  intro T
  induction T with
  | nil => simp [splitB]
  | cons c l ih =>
    simp only [splitB]
    split
    · simp; omega
    · cases h : splitB b l with
      | nil => simp
      | cons w ws => rw [h] at ih; simp at ih ⊢; omega


theorem split_mem (b : UInt8) : ∀ (T : Bs), ∀ x ∈ splitB b T, x.length ≤ T.length := by
  intro T
  induction T with
  | nil => intro x hx; simp [splitB] at hx; simp [hx]
  | cons c l ih =>
    intro x hx
    simp only [splitB] at hx
    split at hx
    · rcases List.mem_cons.1 hx with rfl | hx
      · simp
      · have := ih x hx; simp; omega
    · cases h : splitB b l with
      | nil => rw [h] at hx; simp at hx; simp [hx]
      | cons w ws =>
        rw [h] at hx ih
        rcases List.mem_cons.1 hx with rfl | hx
        · have := ih w (by simp); simp; omega
        · have := ih x (by simp [hx]); simp; omega
end Go.Proofs.YtkiplcmndpdifaaGreatDoor


