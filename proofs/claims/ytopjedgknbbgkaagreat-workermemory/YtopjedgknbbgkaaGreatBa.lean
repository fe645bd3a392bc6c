/- WorkerDone. -/
import Derived.Test.YtopjedgknbbgkaaGreatAr
namespace Go.Proofs.YtopjedgknbbgkaaGreat

open Go.RowKit



/-- What the statement keeps: the plan in box X, the message r in block R, its ends. -/
structure Ls (w0 : Nat) (K : Nat → Prop) (w : World) (X R : Nat) (p : Pn) (ov : Value) (ev : Value) (E : List Int) : Prop where
  x : Bx w X p ov
  r : w.cell? ⟨R, 6, none⟩ = some ev
  e : w.ownsRow w0 3 1 ev E.length (cellsN E)
  ok : In64 E
  kx : K X
  kr : K R
  ke : ∀ y, ev.ownBlock = some y → K y
theorem Bx.ch {D : Nat → Prop} {w w' : World} {g : Nat} {p : Pn} {ov : Value} (h : Bx w g p ov) (hc : Ch D w w') (hd : ¬ D g) : Bx w' g p ov := ⟨hc.cell h.c0 hd, hc.cell h.c1 hd, hc.cell h.c2 hd, hc.cell h.c3 hd, hc.cell h.c4 hd, hc.cell h.c5 hd, hc.cell h.c6 hd, hc.cell h.c7 hd⟩
theorem Ls.nk {w0 : Nat} {K : Nat → Prop} {w w' : World} {X R : Nat} {p : Pn} {ov ev : Value} {E : List Int} (h : Ls w0 K w X R p ov ev E) (hc : Ch (NK w0 K) w w') : Ls w0 K w' X R p ov ev E :=
  ⟨h.x.ch hc (fun e => e.1 h.kx), hc.cell h.r (fun e => e.1 h.kr), own_nk h.e hc h.ke, h.ok, h.kx, h.kr, h.ke⟩
theorem Ls.ch {D : Nat → Prop} {w0 : Nat} {K : Nat → Prop} {w w' : World} {X R : Nat} {p : Pn} {ov ev : Value} {E : List Int} (h : Ls w0 K w X R p ov ev E) (hc : Ch D w w') (hx : ¬ D X) (hr : ¬ D R) (he : ∀ y, ev.ownBlock = some y → ¬ D y) : Ls w0 K w' X R p ov ev E :=
  ⟨h.x.ch hc hx, hc.cell h.r hr, own_ch h.e hc he, h.ok, h.kx, h.kr, h.ke⟩
theorem Ls.below {w0 : Nat} {K : Nat → Prop} {w w' : World} {X R : Nat} {p : Pn} {ov ev : Value} {E : List Int} (h : Ls w0 K w X R p ov ev E) (hb : Below w.heap.size w w') : Ls w0 K w' X R p ov ev E := h.ch (D := fun _ => False) (Ch.of_below hb) (fun e => e) (fun e => e) (fun _ _ e => e)
theorem Ls.mono {w0 : Nat} {K K' : Nat → Prop} {w : World} {X R : Nat} {p : Pn} {ov ev : Value} {E : List Int} (h : Ls w0 K w X R p ov ev E) (hk : ∀ x, K x → K' x) : Ls w0 K' w X R p ov ev E := ⟨h.x, h.r, h.e, h.ok, hk _ h.kx, hk _ h.kr, fun y hy => hk _ (h.ke y hy)⟩
/-- What is kept may be written over. -/
theorem Pw.turn {D' : Nat → Prop} {w0 : Nat} {K : Nat → Prop} {w w' : World} {sb : Nat} {S : Sc} {P b : Nat} {ov : Value} {p : Pn} {nd : Int} {L : List At} (h : Pw w0 K w sb S P b ov p nd L) (hc : Ch D' w w') (hd : ∀ z, D' z → K z) : Pw w0 K w' sb S P b ov p nd L := by
  obtain ⟨D, h1, h2⟩ := h.src
  exact ⟨⟨D, h1.keep (fun x hx => hc.block x (h1.lt hx) (fun e => (h2 x hx).2.2 (hd x e))) hc.size, h2⟩, h.wm.ch hc (fun x hx e => (h.wk x e).2 (hd x hx)), h.wk, fun x hx => Nat.lt_of_lt_of_le (h.kl x hx) hc.size⟩
theorem one_of {M : List Tq} {m : Ms} (h : M.map (·.m) = [m]) : ∃ t, M = [t] ∧ t.m = m := by
  cases M with
  | nil => cases h
  | cons t M =>
    rw [List.map_cons] at h
    injection h with h1 h2
    exact ⟨t, by rw [List.map_eq_nil_iff.1 h2], h1⟩
theorem none_of {M : List Tq} (h : M.map (·.m) = []) : M = [] := List.map_eq_nil_iff.1 h
/-- An answer of one message, opened. -/
theorem mrk_one {K : Nat → Prop} {w : World} {lo : Nat} {v : Value} {M : List Tq} {m : Ms} (h : MrK K w lo v M) (hm : M.map (·.m) = [m]) : ∃ g cap ea ec qa qc pa pc, v = .slice (some ⟨g, 0, none⟩) 1 cap ∧ MXo w g 0 ⟨m, .slice ea m.E.length ec, .slice qa m.Q.length qc, .slice pa m.P.length pc⟩ ∧ To w lo ⟨m, .slice ea m.E.length ec, .slice qa m.Q.length qc, .slice pa m.P.length pc⟩ ∧ (∀ x, (Value.slice ea m.E.length ec).ownBlock = some x → K x) := by
  obtain ⟨t, rfl, rfl⟩ := one_of hm
  have ht := h.r.ent t (by simp)
  obtain ⟨ea, ec, qa, qc, pa, pc, e1, e2, e3⟩ := to_form ht
  obtain ⟨a, c, rfl⟩ := own_formN h.r.own
  obtain ⟨g, hg, hx⟩ := mr_mx h.r (i := 0) (by simp)
  subst hg
  have ek := h.ke t (by simp)
  obtain ⟨tm, te, tq, tp⟩ := t
  simp only at e1 e2 e3 ek
  subst e1 e2 e3
  refine ⟨g, c, ea, ec, qa, qc, pa, pc, rfl, ?_, ht, fun x hx => ek x (.inl hx)⟩
  simpa using hx
theorem len_one {L : List At} {h : Hh} (e : L.map (·.h) = [h]) : L.length ≤ 4096 := by rw [len_h e]; simp
theorem ml_e {w : World} {lo : Nat} {v : Value} {E : List Int} {K F T B A C : Int} (h : w.ownsRow lo 3 1 v E.length (cellsN E)) : ML w ⟨K, F, T, B, A, C, E, [], []⟩ v (.slice none 0 0) (.slice none 0 0) := ⟨own_sv h, Sv.nil _ _, qv_nil _⟩
theorem ml_0 (w : World) {K F T B A C : Int} : ML w ⟨K, F, T, B, A, C, [], [], []⟩ (.slice none 0 0) (.slice none 0 0) (.slice none 0 0) := ⟨Sv.nil _ _, Sv.nil _ _, qv_nil _⟩
theorem make_bn {n : Nat} (hn : n ≤ 4) : ∀ wx : World, (Instr.makeSlice 130 (.int .i64 (n : Int)) (.int .i64 (n : Int))).run Tryz.prog wx = .ok (.slice (some ⟨wx.heap.size, 0, none⟩) n n) (wx.alloc (.cells (madeCells #[.bool false] n) 4)) := fun wx => by
  obtain ⟨i0, hi0, hz0, hz1, hz2⟩ := info_partsQ info_blN
  have := run_make (P := Tryz.prog) wx 130 4 i0 (.bool false) Tryz.underlying130 hi0 hz0 .i64 .i64 n n (by omega) (Int.le_refl _) (by rw [hz2]; omega) (by omega)
  rw [hz1, Nat.mul_one] at this
  simp only [Int.toNat_natCast] at this
  exact this
theorem fit_i64 {S : Sc} {f : List Int} (hok : S.ok) (h : Fit S f) : ∀ y ∈ f, in64 y := by
  intro y hy
  obtain ⟨i, hi, rfl⟩ := List.mem_iff_getElem.1 hy
  have h1 := h.2 i hi
  have h2 := lenS_le hok i
  rw [nth_at hi] at h1
  exact i64_s (by omega) (by omega)
theorem nb_x {w : World} {X ga lo n cap : Nat} {A : List Bool} {x : Int} (hr : w.ownsRow lo 4 1 (.slice (some ⟨ga, 0, none⟩) n cap) n (A.map Value.bool)) (hn : 0 < n) (hc : w.cell? ⟨X, 0, none⟩ = some (.int .i64 x)) : ¬ X = ga := by
  rintro rfl
  have hl : A.length = n := by have := hr.1; simpa using this
  have h0 : 0 < A.length := by omega
  have h := (own_cellN hr (j := 0) (u := .bool A[0]) (by rw [List.getElem?_map, List.getElem?_eq_getElem h0]; rfl)).1
  rw [h] at hc
  cases hc
theorem nb_r {w : World} {R ga lo n cap : Nat} {xs : List Value} {u : Value} (hr : w.ownsRow lo 4 1 (.slice (some ⟨ga, 0, none⟩) n cap) n xs) (hn : cap ≤ 6) (hc : w.cell? ⟨R, 6, none⟩ = some u) : ¬ R = ga := by
  rintro rfl
  rcases hr.2 with ⟨h3, _⟩ | ⟨g', cap', cur, e1, hg, hh, hnc, hcm, hcs, htk⟩
  · cases h3
  · cases e1
    rw [cell_of_row w R 6 cur _ (0, 0) hh] at hc
    have : cur[6]? = none := Array.getElem?_eq_none (by rw [hcs]; omega)
    simp [this] at hc
theorem nb_e {w : World} {ga lo lo' n cap m : Nat} {xs ys : List Value} {v : Value} (hr : w.ownsRow lo 4 1 (.slice (some ⟨ga, 0, none⟩) n cap) n xs) (he : w.ownsRow lo' 3 1 v m ys) : ∀ y, v.ownBlock = some y → ¬ y = ga := by
  intro y hy e
  rcases own_ne hr he (by decide) with q | q
  · cases q
  · exact q (by rw [hy, e]; rfl)
/-- An answer of Held with one attempt, opened. -/
theorem hr_one {w : World} {lo : Nat} {v : Value} {F : List Hq} {h : He} (hr : Hr w lo v F) (hm : F.map (·.h) = [h]) : ∃ g cap ea ec, v = .slice (some ⟨g, 0, none⟩) 1 cap ∧ HXo w g 0 ⟨h, .slice ea h.E.length ec⟩ ∧ Ho w lo ⟨h, .slice ea h.E.length ec⟩ := by
  cases F with
  | nil => cases hm
  | cons t F =>
    rw [List.map_cons] at hm
    injection hm with h1 h2
    have hF := List.map_eq_nil_iff.1 h2
    subst hF h1
    have ht := hr.ent t (by simp)
    obtain ⟨ea, ec, e1⟩ := own_formN ht.e
    obtain ⟨a, c, rfl⟩ := own_formN hr.own
    obtain ⟨g, hg, hx⟩ := hr_at hr (i := 0) (by simp)
    subst hg
    obtain ⟨th, te⟩ := t
    simp only at e1
    subst e1
    refine ⟨g, c, ea, ec, rfl, ?_, ht⟩
    simpa using hx
/-- While the stores' answers come. -/
def Dn (w1 wr : World) (sb : Nat) (S : Sc) (P b : Nat) (ov : Value) (p : Pn) (f : List Int) (X R : Nat) (ovc ev : Value) (E : List Int) (ga : Nat) (A : List Bool) : Prop :=
  ∃ K L, A.length = p.n ∧ wr.ownsRow w1.heap.size 4 1 (.slice (some ⟨ga, 0, none⟩) p.n p.n) p.n (A.map Value.bool) ∧ K ga ∧ Pw w1.heap.size K wr sb S P b ov p 1 L ∧ L.map (·.h) = [h37 p S f true A] ∧ Ls w1.heap.size K wr X R p ovc ev E ∧ Below w1.heap.size w1 wr
theorem set_cnt {A : List Bool} {q : Nat} (hq : q < A.length) (h : A[q] = false) : (setB A q).countP id = A.countP id + 1 := by
  unfold setB
  induction A generalizing q with
  | nil => simp at hq
  | cons a t ih =>
    cases q with
    | zero => simp at h; subst h; simp
    | succ q =>
      rw [List.set_cons_succ, List.countP_cons, List.countP_cons, ih (by simpa using hq) (by simpa using h)]
      omega
theorem set_same {A : List Bool} {q : Nat} (hq : q < A.length) (h : A[q] = true) : setB A q = A := by
  unfold setB
  rw [← h, List.set_getElem_self]


end Go.Proofs.YtopjedgknbbgkaaGreat
