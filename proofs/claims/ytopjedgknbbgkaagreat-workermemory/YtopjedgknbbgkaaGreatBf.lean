/- WorkerMemory: rows of one's own that are written over, kept beside a worker. -/
import Derived.Test.YtopjedgknbbgkaaGreatBd
namespace Go.Proofs.YtopjedgknbbgkaaGreat

open Go.RowKit



theorem tk_began {p : Pn} {S S' : Sc} {f : List Int} {A : List Bool} {j : Nat} (hp : p.is = true) (hj : j < p.n) : takC 1 ⟨5, 1 + p.W + (j : Int), 1, 3, 7, 0, [], [], []⟩ = 0 ∧ takA p 1 S' ⟨5, 1 + p.W + (j : Int), 1, 3, 7, 0, [], [], []⟩ [h37 p S f true A] = ([⟨6, 1, 1 + p.W + (j : Int), 3, 7, 0, [], [], dealF p (h37 p S f true A).T j⟩], [h37 p S f true A]) := by
  obtain ⟨h1, h2⟩ := tk_st (S := S') (H := [h37 p S f true A]) hp (.inl rfl) hj (c := 0) (by omega)
  refine ⟨h1, h2.trans ?_⟩
  unfold ansH
  simp only
  have e : (1 + p.W + (j : Int) - (1 + p.W)).toNat = j := by omega
  rw [at_three (h := h37 p S f true A) rfl, e]
  simp only
  rw [if_pos (by simp [h37]), if_neg (by simp), if_pos (by simp)]
  rfl
theorem batch_len17 (l : List Stp) (kind : Int) (recs : List Rcd) : (batchT l kind recs).length ≤ recs.length := by
  have h1 := adds_len kind [] (keptT l kind recs)
  have h2 : (keptT l kind recs).length ≤ recs.length := List.length_filterMap_le _ _
  unfold batchT
  simp only [List.length_nil] at h1
  omega
theorem mq_ch {D : Nat → Prop} {w w' : World} {g : Nat} {m : List Pr} (h : Mq w g m) (hc : Ch D w w') (hd : ¬ D g) : Mq w' g m := fun i hi => by
  obtain ⟨⟨a, b, c⟩, d, e, f⟩ := h i hi
  exact ⟨⟨hc.cell a hd, hc.cell b hd, hc.cell c hd⟩, by rw [hc.frozen (cell_lt a) hd]; exact d, by rw [hc.frozen (cell_lt a) hd]; exact e, by rw [hc.frozen (cell_lt a) hd]; exact f⟩
def AllK (K : Nat → Prop) (u : World) (av : Value) (l : List Pr) : Prop := (l = [] ∧ av = .slice none 0 0) ∨ ∃ g, av = .slice (some ⟨g, 0, none⟩) l.length l.length ∧ Mq u g l ∧ K g
theorem AllK.ch {K : Nat → Prop} {D : Nat → Prop} {w w' : World} {av : Value} {l : List Pr} (h : AllK K w av l) (hd : ∀ x, K x → ¬ D x) (hc : Ch D w w') : AllK K w' av l := by
  rcases h with h | ⟨g, h1, h2, h3⟩
  · exact .inl h
  · exact .inr ⟨g, h1, mq_ch h2 hc (hd g h3), h3⟩
theorem AllK.mono {K K' : Nat → Prop} {w : World} {av : Value} {l : List Pr} (h : AllK K w av l) (hk : ∀ x, K x → K' x) : AllK K' w av l := by
  rcases h with h | ⟨g, h1, h2, h3⟩
  · exact .inl h
  · exact .inr ⟨g, h1, h2, hk g h3⟩


theorem hidH {p : Prop} (h : p) : Hid p := h
theorem AllK.qv {K : Nat → Prop} {w : World} {av : Value} {l : List Pr} (h : AllK K w av l) (hok : okT l) (hl : l.length ≤ maxLen) : Qv w av l := by
  rcases h with ⟨rfl, rfl⟩ | ⟨g, rfl, h2, _⟩
  · exact qv_nil w
  · have h := mq_qv h2 (n := l.length) (cap := l.length) (Nat.le_refl _) (Nat.le_refl _) hl hok
    rw [List.take_length] at h
    exact h
theorem mq_qvT {w : World} {g : Nat} {l : List Pr} (h2 : Mq w g l) (hok : okT l) (hl : l.length ≤ maxLen) : Qv w (.slice (some ⟨g, 0, none⟩) l.length l.length) l := by
  have h := mq_qv h2 (n := l.length) (cap := l.length) (Nat.le_refl _) (Nat.le_refl _) hl hok
  rw [List.take_length] at h
  exact h
theorem ql_of {w : World} {lo : Nat} {pa : Option Addr} {pc : Nat} {l : List Pr} (h : w.ownsRow lo 65 3 (.slice pa l.length pc) l.length (flatQ l)) (hok : okT l) : Ql w pa l := by
  obtain ⟨⟨ao, ca, e, _, _, _, h4⟩, _⟩ := own_qv h hok
  simp only [Value.slice.injEq] at e
  rw [e.1]
  exact h4
theorem keys_row {w : World} {lo : Nat} {v : Value} {l : List Pr} (h : w.ownsRow lo 50 1 v l.length ((keyL l).map (Value.int .u64))) : w.ownsRow lo 50 1 v (l.map (·.k)).length ((l.map (·.k)).map fun k : Nat => Value.int .u64 (k : Int)) := by
  have e : (keyL l).map (Value.int .u64) = (l.map (·.k)).map fun k : Nat => Value.int .u64 (k : Int) := by unfold keyL; rw [List.map_map, List.map_map]; rfl
  rw [← e, List.length_map]
  exact h
structure Ka (w0 X : Nat) (p : Pn) (ovc : Value) (va : Option Addr) (vc : Nat) (f : List Int) (u : World) : Prop where
  x : Bx u X p ovc
  f : u.ownsRow w0 3 1 (.slice va f.length vc) f.length (cellsN f)
/-- What is written lies in blocks that are kept: worker and source stay. -/
theorem Pw.write {w0 : Nat} {K E : Nat → Prop} {w w' : World} {sb : Nat} {S : Sc} {P b : Nat} {ov : Value} {p : Pn} {nd : Int} {L : List At} (h : Pw w0 K w sb S P b ov p nd L) (hc : Ch E w w') (hE : ∀ x, E x → K x) : Pw w0 K w' sb S P b ov p nd L := by
  obtain ⟨D, h1, h2⟩ := h.src
  exact ⟨⟨D, h1.keep (fun x hx => hc.block x (h1.lt hx) (fun e => (h2 x hx).2.2 (hE x e))) hc.size, h2⟩, h.wm.ch hc (fun x hx e => (h.wk x e).2 (hE x hx)), h.wk, fun x hx => Nat.lt_of_lt_of_le (h.kl x hx) hc.size⟩
/-- A lower floor: what lies between is kept besides. -/
theorem Pw.low {w0 w2 : Nat} {K : Nat → Prop} {w : World} {sb : Nat} {S : Sc} {P b : Nat} {ov : Value} {p : Pn} {nd : Int} {L : List At} (h : Pw w2 K w sb S P b ov p nd L) (hl : w0 ≤ w2) (hs : w2 ≤ w.heap.size) : Pw w0 (fun x => K x ∨ (w0 ≤ x ∧ x < w2)) w sb S P b ov p nd L := by
  obtain ⟨D, h1, h2⟩ := h.src
  refine ⟨⟨D, h1, fun x hx => ⟨Nat.le_trans hl (h2 x hx).1, (h2 x hx).2.1, fun e => ?_⟩⟩, h.wm, fun x hx => ⟨Nat.le_trans hl (h.wk x hx).1, fun e => ?_⟩, fun x hx => ?_⟩
  · rcases e with e | e
    · exact (h2 x hx).2.2 e
    · have := (h2 x hx).1; omega
  · rcases e with e | e
    · exact (h.wk x hx).2 e
    · have := (h.wk x hx).1; omega
  · rcases hx with e | e
    · exact h.kl x e
    · omega
theorem Sz.write {w0 : Nat} {K E : Nat → Prop} {w w' : World} {sb : Nat} {S : Sc} {P b : Nat} {ov : Value} {p : Pn} {L : List At} {H : List Hh} {F G : World → Prop} (h : Sz w0 K w sb S P b ov p L H F) (hc : Ch E w w') (hE : ∀ x, E x → K x) (hg : G w') (hs : ∀ (D : Nat → Prop) (u u' : World), G u → (∀ x, K x → ¬ D x) → Ch D u u' → G u') : Sz w0 K w' sb S P b ov p L H G :=
  ⟨h.pw.write hc hE, h.lh, hg, hs, Nat.le_trans h.w0 hc.size⟩
/-- Held: new memory. -/
theorem sz_held {w0 : Nat} {K : Nat → Prop} {w : World} {sb : Nat} {S : Sc} {P b : Nat} {ov : Value} {p : Pn} {L : List At} {h : Hh} {F : World → Prop} (hz : Sz w0 K w sb S P b ov p L [h] F) : Calls Tryz.prog 23 #[.pointer (some ⟨P, 0, none⟩)] w fun e w' =>
    ∃ g c ea ec, e = .returned (.slice (some ⟨g, 0, none⟩) 1 c) ∧ w'.cell? ⟨g, 2, none⟩ = some (.slice ea h.E.length ec) ∧ w.heap.size ≤ g ∧ w'.ownsRow w.heap.size 3 1 (.slice ea h.E.length ec) h.E.length (cellsN h.E) ∧ (∀ x, (Value.slice ea h.E.length ec).ownBlock = some x → x ≠ g) ∧ Below w.heap.size w w' := by
  have hl : L.length ≤ 4096 := by have h1 := congrArg List.length hz.lh; simp at h1; omega
  refine (held_walk hz.pw.wm hl).mono ?_
  rintro e w' ⟨v, rfl, F', hr, hm, hb⟩
  have e1 : F'.map (·.h) = [heH h] := by rw [hm]; have h1 := congrArg (List.map heH) hz.lh; rw [List.map_map] at h1; exact h1
  obtain ⟨t, rfl, ht⟩ : ∃ t, F' = [t] ∧ t.h = heH h := by
    cases F' with
    | nil => cases e1
    | cons a l =>
      have h1 := List.cons.inj e1
      exact ⟨a, by rw [List.map_eq_nil_iff.1 h1.2], h1.1⟩
  obtain ⟨g, c, rfl, _, _, hg, _⟩ := row_formN hr.own (by simp)
  obtain ⟨g', e2, hx⟩ := hr_at hr (i := 0) (by simp)
  cases e2
  have hto := hr.ent t (by simp)
  obtain ⟨ea, ec, e3⟩ := own_formN hto.e
  have hE : t.h.E = h.E := by rw [ht]; rfl
  have h2 := hx.c2
  have h3 := hto.e
  simp only [List.getElem_cons_zero] at h2
  rw [e3, hE] at h2 h3
  refine ⟨g, c, ea, ec, rfl, by simpa using h2, hg, h3, fun x hx2 e => ?_, hb⟩
  rcases own_ne hr.own h3 (by decide) with q | q
  · cases q
  · exact q (by rw [hx2, e]; rfl)
def setP (w : World) (C : Nat) (p : Pn) (ov : Value) : World := (((((((w.setCell ⟨C, 0, none⟩ (.int .i64 p.P)).setCell ⟨C, 1, none⟩ (.int .i64 p.S)).setCell ⟨C, 2, none⟩ (.int .i64 p.W)).setCell ⟨C, 3, none⟩ ov).setCell ⟨C, 4, none⟩ (.int .i64 p.A)).setCell ⟨C, 5, none⟩ (.int .i64 p.B)).setCell ⟨C, 6, none⟩ (.int .i64 p.N)).setCell ⟨C, 7, none⟩ (.int .i64 p.G)
theorem ch_setP (w : World) (C : Nat) (p : Pn) (ov : Value) : Ch (fun x => x = C) w (setP w C p ov) := (((((((ch_set _ _ _ _).self (ch_set _ _ _ _)).self (ch_set _ _ _ _)).self (ch_set _ _ _ _)).self (ch_set _ _ _ _)).self (ch_set _ _ _ _)).self (ch_set _ _ _ _)).self (ch_set _ _ _ _)
theorem cb_over {w : World} {C : Nat} {p : Pn} {o0 rv fv : Value} {off : Int} (h : Cb w C p o0 rv off fv) (ov : Value) : Cb (setP w C p ov) C p ov rv off fv := by
  obtain ⟨⟨c0, c1, c2, c3, c4, c5, c6, c7⟩, c8, c9, c10⟩ := h
  unfold setP
  have k : ∀ {w : World} {j : Nat} {u v : Value} {q : Nat}, ¬ j = q → w.cell? ⟨C, q, none⟩ = some u → (w.setCell ⟨C, j, none⟩ v).cell? ⟨C, q, none⟩ = some u := fun hn hu => cell_oth hn hu
  refine ⟨⟨?_, ?_, ?_, ?_, ?_, ?_, ?_, ?_⟩, ?_, ?_, ?_⟩
  · exact k (by decide) (k (by decide) (k (by decide) (k (by decide) (k (by decide) (k (by decide) (k (by decide) (cell_own1 c0)))))))
  · exact k (by decide) (k (by decide) (k (by decide) (k (by decide) (k (by decide) (k (by decide) (cell_own1 (k (by decide) c1)))))))
  · exact k (by decide) (k (by decide) (k (by decide) (k (by decide) (k (by decide) (cell_own1 (k (by decide) (k (by decide) c2)))))))
  · exact k (by decide) (k (by decide) (k (by decide) (k (by decide) (cell_own1 (k (by decide) (k (by decide) (k (by decide) c3)))))))
  · exact k (by decide) (k (by decide) (k (by decide) (cell_own1 (k (by decide) (k (by decide) (k (by decide) (k (by decide) c4)))))))
  · exact k (by decide) (k (by decide) (cell_own1 (k (by decide) (k (by decide) (k (by decide) (k (by decide) (k (by decide) c5)))))))
  · exact k (by decide) (cell_own1 (k (by decide) (k (by decide) (k (by decide) (k (by decide) (k (by decide) (k (by decide) c6)))))))
  · exact cell_own1 (k (by decide) (k (by decide) (k (by decide) (k (by decide) (k (by decide) (k (by decide) (k (by decide) c7)))))))
  · exact k (by decide) (k (by decide) (k (by decide) (k (by decide) (k (by decide) (k (by decide) (k (by decide) (k (by decide) c8)))))))
  · exact k (by decide) (k (by decide) (k (by decide) (k (by decide) (k (by decide) (k (by decide) (k (by decide) (k (by decide) c9)))))))
  · exact k (by decide) (k (by decide) (k (by decide) (k (by decide) (k (by decide) (k (by decide) (k (by decide) (k (by decide) c10)))))))
theorem Cb.ch {D : Nat → Prop} {w w' : World} {g : Nat} {p : Pn} {ov rv : Value} {off : Int} {fv : Value} (h : Cb w g p ov rv off fv) (hc : Ch D w w') (hd : ¬ D g) : Cb w' g p ov rv off fv := ⟨h.b.ch hc hd, hc.cell h.c8 hd, hc.cell h.c9 hd, hc.cell h.c10 hd⟩
theorem bx_soft {w : World} (p : Pn) (ov : Value) (j : Nat) : (w.alloc (.cells #[.int .i64 p.P, .int .i64 p.S, .int .i64 p.W, ov, .int .i64 p.A, .int .i64 p.B, .int .i64 p.N, .int .i64 p.G] 24)).frozen? ⟨w.heap.size, j, none⟩ = false := by simp [go_sem]
theorem cb_soft {w : World} (p : Pn) (ov rv fv : Value) (off : Int) (j : Nat) : (w.alloc (Obj.cells #[.int .i64 p.P, .int .i64 p.S, .int .i64 p.W, ov, .int .i64 p.A, .int .i64 p.B, .int .i64 p.N, .int .i64 p.G, rv, .int .i64 off, fv] 28)).frozen? ⟨w.heap.size, j, none⟩ = false := by simp [go_sem]
theorem Bx.set3 {w : World} {X : Nat} {p : Pn} {o0 : Value} (h : Bx w X p o0) (ov : Value) : Bx (w.setCell ⟨X, 3, none⟩ ov) X p ov :=
  ⟨cell_oth (by decide) h.c0, cell_oth (by decide) h.c1, cell_oth (by decide) h.c2, cell_own1 h.c3, cell_oth (by decide) h.c4, cell_oth (by decide) h.c5, cell_oth (by decide) h.c6, cell_oth (by decide) h.c7⟩
/-- A row of n elements, whichever. -/
def Anyr (B e s n : Nat) (v : Value) (u : World) : Prop := ∃ xs, u.ownsRow B e s v n xs
theorem Anyr.len {B e s n : Nat} {v : Value} {u : World} (h : Anyr B e s n v u) : ∃ xs, u.ownsRow B e s v n xs ∧ xs.length = n * s := by
  obtain ⟨xs, h1⟩ := h
  exact ⟨xs, h1, h1.1⟩
theorem Anyr.cell {B e s n g c j : Nat} {u : World} (h : Anyr B e s n (.slice (some ⟨g, 0, none⟩) n c) u) (hj : j < n * s) : (∃ y, u.cell? ⟨g, j, none⟩ = some y) ∧ u.frozen? ⟨g, j, none⟩ = false := by
  obtain ⟨xs, h1, h2⟩ := h.len
  have := own_cellN h1 (j := j) (u := xs[j]'(by omega)) (List.getElem?_eq_getElem _)
  exact ⟨⟨_, this.1⟩, this.2⟩
theorem Anyr.set {B e s n g c : Nat} {u : World} (h : Anyr B e s n (.slice (some ⟨g, 0, none⟩) n c) u) (j : Nat) (y : Value) : Anyr B e s n (.slice (some ⟨g, 0, none⟩) n c) (u.setCell ⟨g, j, none⟩ y) := by
  obtain ⟨xs, h1⟩ := h
  exact ⟨_, own_setRN y h1⟩
theorem Anyr.ch {B e s n : Nat} {v : Value} {D : Nat → Prop} {u u' : World} (h : Anyr B e s n v u) (hc : Ch D u u') (hd : ∀ x, v.ownBlock = some x → ¬ D x) : Anyr B e s n v u' := by
  obtain ⟨xs, h1⟩ := h
  exact ⟨xs, own_ch h1 hc hd⟩
theorem zw_any {w : World} {g cap : Nat} {l : List Int} {n : Nat} (h : Zw w g cap l) (hn : n ≤ l.length) : Anyr 0 3 1 n (.slice (some ⟨g, 0, none⟩) n cap) w := by
  obtain ⟨⟨cur, h1, h2, h3⟩, h4, h5⟩ := h
  refine ⟨cur.toList.take n, by simp; omega, .inr ⟨g, cap, cur, rfl, Nat.zero_le _, h1, by omega, h5, by omega, by simp⟩⟩
theorem zw_take {w : World} {g cap : Nat} {l m : List Int} (h : Zw w g cap l) (hm : ∀ i, i < m.length → nth l i = nth m i) (hl : m.length ≤ l.length) (h64 : In64 m) : Nv w (.slice (some ⟨g, 0, none⟩) m.length cap) m := by
  obtain ⟨⟨cur, h1, h2, h3⟩, h4, h5⟩ := h
  refine ⟨⟨_, cap, rfl, by omega, h5, by simp, fun i hi => ⟨g, 0, rfl, ?_⟩⟩, h64⟩
  rw [Nat.zero_add, cell_of_row w g i cur _ (0, 0) h1, h3 i (by omega), hm i hi]
theorem nth_left {l : List Int} {x : Int} {i : Nat} (hi : i < l.length) : nth (l ++ [x]) i = nth l i := by
  rw [nth_at (by simp; omega), nth_at hi, List.getElem_append_left hi]
theorem lit_one (w : World) (x : Int) (h0 : 0 ≤ x) (h1 : x ≤ 256) : Nv (w.alloc (Obj.cells #[.int .i64 x] 3)) (.slice (some ⟨w.heap.size, 0, none⟩) 1 1) [x] := by
  refine ⟨⟨_, 1, rfl, Nat.le_refl _, by simp [maxLen], by simp, fun i hi => ⟨w.heap.size, 0, rfl, ?_⟩⟩, fun y hy => by rw [List.mem_singleton] at hy; subst hy; omega⟩
  have : i = 0 := by simp at hi; omega
  subst this
  simp [go_sem, nth]
theorem app_two {w6 w7 w8 : World} {v1 : Value} {L : List Int} {x : Int} (ho1 : w7.ownsRow w6.heap.size 3 1 v1 (0 + L.length) (cellsN ([] ++ L))) (hg1 : (w6.alloc (Obj.cells #[] 3)).grownBy w7 (Value.ownBlock (.slice (some ⟨w6.heap.size, 0, none⟩) 0 0))) (hg2 : (w7.alloc (Obj.cells #[.int .i64 x] 3)).grownBy w8 v1.ownBlock) : Below w6.heap.size w6 w8 := by
  have h1 : Below w6.heap.size w6 w7 := (below_alloc w6 (Obj.cells #[] 3)).grown hg1 (by simp) (by simp [Value.ownBlock])
  have h2 : Below w6.heap.size w6 (w7.alloc (Obj.cells #[.int .i64 x] 3)) := h1.trans ((below_alloc _ _).mono h1.size)
  exact h2.grown hg2 h2.size (fun y hy => (ho1.lt y hy).1)
theorem app_row {w8 : World} {B p : Nat} {v2 : Value} {L : List Int} {x : Int} (ho2 : w8.ownsRow B 3 1 v2 (0 + L.length + [x].length) (cellsN ([] ++ L ++ [x]))) (hl : L.length = p) : ∃ g gc, v2 = .slice (some ⟨g, 0, none⟩) (p + 1) gc ∧ B ≤ g ∧ p + 1 ≤ gc ∧ Zw w8 g gc (L ++ [x]) := by
  have hn : 0 + L.length + [x].length = p + 1 := by simp [hl]
  rw [hn, List.nil_append] at ho2
  rcases id ho2.2 with ⟨_, h0⟩ | ⟨g, cap, cur, e, hb, hg, hnc, _⟩
  · omega
  · subst e
    exact ⟨g, cap, rfl, hb, hnc, (own_zw ho2).1⟩
theorem nv_sv {w : World} {v : Value} {l : List Int} (h : Nv w v l) : Sv .i64 w v l := by
  obtain ⟨⟨ao, cap, e, h1, h2, h3, h4⟩, h5⟩ := h
  refine ⟨ao, cap, e, h1, h2, h3, fun i hi => ?_⟩
  obtain ⟨b, off, e1, e2⟩ := h4 i hi
  rw [nth_at hi] at e2
  exact ⟨b, off, e1, by simpa [List.getD, List.getElem?_eq_getElem hi] using e2⟩
theorem info_prQ : (Tryz.prog.info? 65).map (fun i => (i.zero, i.size, i.bytes)) = some (some (.agg #[.int .u64 0, .bool false, .int .u64 0]), 3, 24) := by kernel_rfl
/-- Take: what it answers is kept. -/
theorem sz_take2 {w0 : Nat} {K : Nat → Prop} {w : World} {sb : Nat} {S : Sc} {P b : Nat} {ov : Value} {p : Pn} {L : List At} {H : List Hh} {F : World → Prop} {m : Ms} {ea qa pa : Option Addr} {en ec qn qc pn pc : Nat} (h : Sz w0 K w sb S P b ov p L H F) (hH : H.length ≤ 4096) (hm : ML w m (.slice ea en ec) (.slice qa qn qc) (.slice pa pn pc)) (hok : m.ok) {r : List Ms × List Hh} (ht : takC 1 m = 0 ∧ takA p 1 S m H = r) :
    Calls Tryz.prog 9 #[.pointer (some ⟨P, 0, none⟩), .pointer (some ⟨sb, 0, none⟩), .agg #[.int .i64 m.K, .int .i64 m.F, .int .i64 m.T, .int .i64 m.B, .int .i64 m.A, .int .i64 m.C, .slice ea en ec, .slice qa qn qc, .slice pa pn pc]] w fun e w' =>
      ∃ a c K' L' M lo, e = .returned (.tuple #[.slice a r.1.length c, .int .i64 0]) ∧ M.map (·.m) = r.1 ∧ (∀ x, K x → K' x) ∧ w.heap.size ≤ lo ∧ Sz w0 K' w' sb S P b ov p L' r.2 (fun u => F u ∧ MrK K' u lo (.slice a r.1.length c) M) ∧ Below w0 w w' := by
  refine (pw_take h.pw h.w0 hm hok (by rw [len_h h.lh]; exact hH)).mono ?_
  rintro e w' ⟨v, rfl, K', M, lo, L', hk1, hk2, hM, e1, e2, hlo, hp, hc⟩
  rw [h.lh, ht.2] at e1 e2
  rw [ht.1]
  have hMK : MrK K' w' lo v M := mrk_of hM hk2
  obtain ⟨a, c, rfl⟩ := own_formN hM.own
  have hl : M.length = r.1.length := by rw [← e1, List.length_map]
  rw [hl] at hMK ⊢
  exact ⟨a, c, K', L', M, lo, rfl, e1, hk1, hlo, ⟨hp, e2, ⟨h.nk hc, hMK⟩, fun D u u' hu hd hc => ⟨h.st D u u' hu.1 (fun x hx => hd x (hk1 x hx)) hc, hu.2.chg hd hc⟩, Nat.le_trans h.w0 hc.size⟩, nk_below hc h.w0⟩
theorem mrk_two {K : Nat → Prop} {w : World} {lo : Nat} {v : Value} {M : List Tq} {m : Ms} (h : MrK K w lo v M) (hm : M.map (·.m) = [m]) : ∃ g cap ea ec qa qc pa pc, v = .slice (some ⟨g, 0, none⟩) 1 cap ∧ MXo w g 0 ⟨m, .slice ea m.E.length ec, .slice qa m.Q.length qc, .slice pa m.P.length pc⟩ ∧ w.ownsRow lo 65 3 (.slice pa m.P.length pc) m.P.length (flatQ m.P) ∧ (∀ x, (Value.slice pa m.P.length pc).ownBlock = some x → K x ∧ ¬ g = x) := by
  obtain ⟨t, rfl, rfl⟩ := one_of hm
  have ht := h.r.ent t (by simp)
  obtain ⟨ea, ec, qa, qc, pa, pc, e1, e2, e3⟩ := to_form ht
  obtain ⟨a, c, rfl⟩ := own_formN h.r.own
  obtain ⟨g, hg, hx⟩ := mr_mx h.r (i := 0) (by simp)
  subst hg
  have ek := h.ke t (by simp)
  have hn := own_ne h.r.own ht.p (by decide)
  obtain ⟨tm, te, tq, tp⟩ := t
  simp only at e1 e2 e3 ek hn
  subst e1 e2 e3
  refine ⟨g, c, ea, ec, qa, qc, pa, pc, rfl, by simpa using hx, ht.p, fun x hx2 => ⟨ek x (.inr (.inr hx2)), fun e => ?_⟩⟩
  rcases hn with q | q
  · cases q
  · exact q (by rw [hx2, ← e]; rfl)
theorem tab_of {p : Pn} {S : Sc} {f E : List Int} (hp : p.is = true) (hok : S.ok) (hf : Fit S f) (hE : E = formT S f p.B) : (betS S f E f.length).length ≤ 1024 ∧ ∀ r ∈ betS S f E f.length, r.ok := by
  have h := tab_rec hok (a := f) (m := p.B) (by have h1 := hf.1; have h2 := hok.np4; omega)
  rw [(fit_form hp hf).2.2, ← hE] at h
  exact h
end Go.Proofs.YtopjedgknbbgkaaGreat
