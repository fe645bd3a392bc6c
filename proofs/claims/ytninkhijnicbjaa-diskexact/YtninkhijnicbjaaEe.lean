/- right: one call's answers of both sides (printed by gen_ee.py). -/
import Derived.Test.YtninkhijnicbjaaEd
namespace Go.Proofs.Ytninkhijnicbjaa
open Go.RowKit

/-- A disk beside the reference's, or none beside none. -/
structure Pg (D E : Nat → Prop) (w : World) (d t : Value) (o : Option Dk) : Prop where
  a : DO 59 D w d o
  b : DO 61 E w t o
  c : ∀ x, D x → ¬ E x
  l : ∀ x, D x ∨ E x → x < w.heap.size
/-- What right answers. -/
def Rg (D E : Nat → Prop) (w : World) (d t : Value) (o : Option Dk) (e : Ending) (w' : World) : Prop :=
  e = .returned (.bool true) ∧ ∃ D' E' : Nat → Prop, Pg D' E' w' d t o ∧ Ch (fun x => D x ∨ E x) w w' ∧ ∀ x, D' x ∨ E' x → (D x ∨ E x) ∨ w.heap.size ≤ x
/-- What the script's call makes of a disk. -/
def stepO (o : Option Dk) (K I : Int) (b : List Nat) : Option Dk := if K = 1 then owS o I b else if K = 2 then orS o I else if K = 3 then ocS o I else if K = 4 then o.map offS else if K = 5 then o.map onS else o

section
variable {D E : Nat → Prop} {w wb w1 w2 : World} {d t bv : Value} {o p : Option Dk} {b : List Nat} {K On I : Int}
theorem Pg.below (h : Pg D E w d t o) (hb : Below w.heap.size w wb) : Pg D E wb d t o := ⟨h.a.below hb, h.b.below hb, h.c, fun x hx => Nat.lt_of_lt_of_le (h.l x hx) hb.size⟩
theorem Pg.ch {G : Nat → Prop} (h : Pg D E w d t o) (hc : Ch G w wb) (hG : ∀ x, D x ∨ E x → ¬ G x) : Pg D E wb d t o := ⟨h.a.ch hc (fun x hx => hG x (.inl hx)), h.b.ch hc (fun x hx => hG x (.inr hx)), h.c, fun x hx => Nat.lt_of_lt_of_le (h.l x hx) hc.size⟩
/-- One side turns, then the other. -/
theorem rg_two (hP : Pg D E w d t o) (hB : Below w.heap.size w wb) (h1 : DO 59 D w1 d p) (c1 : Ch D wb w1) (h2 : DO 61 E w2 t p) (c2 : Ch E w1 w2) : Rg D E w d t p (.returned (.bool true)) w2 := by
  have hs1 := c1.size
  have hs2 := c2.size
  have hs0 := hB.size
  refine ⟨rfl, D, E, ⟨h1.ch c2 hP.c, h2, hP.c, fun x hx => by have := hP.l x hx; omega⟩, ?_, fun x hx => .inl hx⟩
  exact ⟨by rw [c2.os, c1.os, hB.os], by rw [c2.tape, c1.tape, hB.tape], by rw [c2.output, c1.output, hB.output], by omega, fun k hk hn => by
    rw [c2.block k (by omega) (fun e => hn (.inr e)), c1.block k (by omega) (fun e => hn (.inl e)), hB.block k hk]⟩
theorem rg_write {D1 E2 : Nat → Prop} (hP : Pg D E w d t o) (hB : Below w.heap.size w wb) (h1 : DO 59 D1 w1 d p) (l1 : ∀ x, D1 x → x < w1.heap.size) (x1 : ∀ x, D1 x → D x ∨ wb.heap.size ≤ x) (c1 : Ch D wb w1)
    (h2 : DO 61 E2 w2 t p) (l2 : ∀ x, E2 x → x < w2.heap.size) (x2 : ∀ x, E2 x → E x ∨ w1.heap.size ≤ x) (c2 : Ch E w1 w2) : Rg D E w d t p (.returned (.bool true)) w2 := by
  have hs1 := c1.size
  have hs2 := c2.size
  have hs0 := hB.size
  have ap : ∀ x, D1 x → ¬ E x := fun x hx e => by
    rcases x1 x hx with h | h
    · exact hP.c x h e
    · have := hP.l x (.inr e); omega
  refine ⟨rfl, D1, E2, ⟨h1.ch c2 ap, h2, fun x hx e => ?_, fun x hx => ?_⟩, ?_, fun x hx => ?_⟩
  · rcases x2 x e with h | h
    · exact ap x hx h
    · have := l1 x hx; omega
  · rcases hx with hx | hx
    · have := l1 x hx; omega
    · exact l2 x hx
  · exact ⟨by rw [c2.os, c1.os, hB.os], by rw [c2.tape, c1.tape, hB.tape], by rw [c2.output, c1.output, hB.output], by omega, fun k hk hn => by
      rw [c2.block k (by omega) (fun e => hn (.inr e)), c1.block k (by omega) (fun e => hn (.inl e)), hB.block k hk]⟩
  · rcases hx with hx | hx
    · rcases x1 x hx with h | h
      · exact .inl (.inl h)
      · exact .inr (by omega)
    · rcases x2 x hx with h | h
      · exact .inl (.inr h)
      · exact .inr (by omega)
/-- The box of the call. -/
structure Bq (B : Nat) (I : Int) (bv : Value) (wx : World) : Prop where
  c2 : wx.cell? ⟨B, 2, none⟩ = some (.int .i64 I)
  c3 : wx.cell? ⟨B, 3, none⟩ = some bv
theorem Bq.ch {B : Nat} {wx wy : World} (h : Bq B I bv wx) (hc : Ch D wx wy) (hB : ¬ D B) : Bq B I bv wy := by
  have hk := hc.block B (cell_lt h.c2) hB
  exact ⟨by rw [World.cell?_of_block (w := wx) (a := ⟨B, 2, none⟩) hk]; exact h.c2, by rw [World.cell?_of_block (w := wx) (a := ⟨B, 3, none⟩) hk]; exact h.c3⟩

set_option maxRecDepth 100000 in
set_option maxHeartbeats 2000000 in
theorem right_1 (hP : Pg D E w d t o) (hb : Bx (fun x => D x ∨ E x) w bv b) (hlow : Low o) :
    Calls Try.prog 13 #[d, t, .agg #[.int .i64 1, .int .i64 On, .int .i64 I, bv]] w fun e w' => Rg D E w d t (owS o I b) e w' := by
  have HP : Hid (Pg D E w d t o) := hP
  have HX : Hid (Bx (fun x => D x ∨ E x) w bv b) := hb
  have HLO : Hid (Low o) := hlow
  obtain ⟨bo, bc, rfl, _, _⟩ := bv_form hb.1
  obtain ⟨wb, hwb⟩ : ∃ wb, wb = w.alloc (.cells #[.int .i64 1, .int .i64 On, .int .i64 I, .slice bo b.length bc] 38) := ⟨_, rfl⟩
  have HW : Hid (wb = w.alloc (.cells #[.int .i64 1, .int .i64 On, .int .i64 I, .slice bo b.length bc] 38)) := hwb
  have HB : Hid (Below w.heap.size w wb.drew) := by show Below _ _ _; rw [hwb]; exact below_trans (below_alloc _ _) (below_drewN _ _)
  have hSd : Bq w.heap.size I (.slice bo b.length bc) wb.drew := by
    have h2 : wb.cell? ⟨w.heap.size, 2, none⟩ = some (.int .i64 I) := by rw [hwb]; simp [go_sem]
    have h3 : wb.cell? ⟨w.heap.size, 3, none⟩ = some (.slice bo b.length bc) := by rw [hwb]; simp [go_sem]
    exact Bq.ch (D := fun _ => False) (wx := wb) ⟨h2, h3⟩ (Ch.of_below (below_drewN _ _)) (fun e => e)
  have j2 : ∀ wx, Bq w.heap.size I (.slice bo b.length bc) wx → wx.cell? ⟨w.heap.size, 2, none⟩ = some (.int .i64 I) := fun wx h => h.c2
  have j3 : ∀ wx, Bq w.heap.size I (.slice bo b.length bc) wx → wx.cell? ⟨w.heap.size, 3, none⟩ = some (.slice bo b.length bc) := fun wx h => h.c3
  have HND : Hid (¬ D w.heap.size ∧ ¬ E w.heap.size) := ⟨fun e => Nat.lt_irrefl _ (hP.l _ (.inl e)), fun e => Nat.lt_irrefl _ (hP.l _ (.inr e))⟩
  clear hP hb hlow hwb
  go_enter Try.func13, Try.ntmps13
  go_wp2_with fail
  rw [← HW.out]
  go_region_held3 (fun wx => Bq w.heap.size I (.slice bo b.length bc) wx) (first | assumption)
    (first
      | (go_at_call 20; refine (zwrite (HP.out.below HB.out).a (fun x hx => (HP.out.below HB.out).l x (.inl hx)) I (HX.out.below HB.out).1 HLO.out).mono ?_; rintro e w1 ⟨rfl, ⟨D1, h1, l1, x1⟩, c1⟩; have hS1 : Bq w.heap.size I (.slice bo b.length bc) w1 := Bq.ch (by assumption) c1 HND.out.1)
      | (go_at_call 29; refine (ywrite (DO.ch (HP.out.below HB.out).b c1 (fun x hx e => HP.out.c x e hx)) (fun x hx => Nat.lt_of_lt_of_le ((HP.out.below HB.out).l x (.inr hx)) c1.size) I (((HX.out.below HB.out).mono (fun x hx => .inl hx)).ch c1 (fun x hx => .inl hx)).1 HLO.out).mono ?_; rintro e w2 ⟨rfl, ⟨E2, h2, l2, x2⟩, c2⟩; have hS2 : Bq w.heap.size I (.slice bo b.length bc) w2 := Bq.ch (by assumption) c2 HND.out.2))
  all_goals go_wp2_with fail
  all_goals go_ret
  all_goals exact rg_write HP.out HB.out h1 l1 x1 c1 h2 l2 x2 c2

theorem read_eq (o : Option Dk) (i : Int) : ∀ c ∈ orL o i, (∀ S, o = some S → S.ok) → c < 256 := by
  intro c hc h
  cases o with
  | none => simp [orL] at hc
  | some S =>
    have hok := h S rfl
    change c ∈ readL S i at hc
    unfold readL at hc
    split at hc
    · rename_i hr
      obtain ⟨_, k, rfl, hk⟩ := ref_ok hr
      exact hok.byt _ (bk_mem hk) c (by simpa using hc)
    · simp at hc
theorem DO.good {T : TypeId} {v : Value} (h : DO T D w v o) : ∀ S, o = some S → S.ok := by
  rintro S rfl
  exact Dsk.good h

set_option maxRecDepth 100000 in
set_option maxHeartbeats 2000000 in
theorem right_2 (hP : Pg D E w d t o) (hb : Bx (fun x => D x ∨ E x) w bv b) (hlow : Low o) :
    Calls Try.prog 13 #[d, t, .agg #[.int .i64 2, .int .i64 On, .int .i64 I, bv]] w fun e w' => Rg D E w d t (orS o I) e w' := by
  have HP : Hid (Pg D E w d t o) := hP
  have HLO : Hid (Low o) := hlow
  obtain ⟨bo, bc, rfl, _, _⟩ := bv_form hb.1
  obtain ⟨wb, hwb⟩ : ∃ wb, wb = w.alloc (.cells #[.int .i64 2, .int .i64 On, .int .i64 I, .slice bo b.length bc] 38) := ⟨_, rfl⟩
  have HW : Hid (wb = w.alloc (.cells #[.int .i64 2, .int .i64 On, .int .i64 I, .slice bo b.length bc] 38)) := hwb
  have HB : Hid (Below w.heap.size w wb) := by show Below _ _ _; rw [hwb]; exact below_alloc _ _
  have HQ : Hid (Bq w.heap.size I (.slice bo b.length bc) wb) := by
    show Bq _ _ _ _
    rw [hwb]; exact ⟨by simp [go_sem], by simp [go_sem]⟩
  have HND : Hid (¬ D w.heap.size ∧ ¬ E w.heap.size) := ⟨fun e => Nat.lt_irrefl _ (hP.l _ (.inl e)), fun e => Nat.lt_irrefl _ (hP.l _ (.inr e))⟩
  clear hP hb hlow hwb
  go_enter Try.func13, Try.ntmps13
  go_wp2_with fail
  rw [← HW.out]
  refine (zread (HP.out.below HB.out).a I HLO.out).mono ?_
  rintro e w1 ⟨r1, rfl, ho1, h1, c1⟩
  have k2 := (HQ.out.ch c1 HND.out.1).c2
  have HX1 : Hid (Bx E w1 r1 (orL o I)) := own_bx ho1 (fun c hc => read_eq o I c hc HP.out.a.good) (fun x hx => (HP.out.below HB.out).l x (.inr hx))
  have H1 : Hid (DO 59 D w1 d (orS o I)) := h1
  have C1 : Hid (Ch D wb w1) := c1
  obtain ⟨q, hq⟩ : ∃ q, q = orI o I := ⟨_, rfl⟩
  obtain ⟨l, hl⟩ : ∃ l, l = orL o I := ⟨_, rfl⟩
  have HQI : Hid (q = orI o I) := hq
  have HLI : Hid (l = orL o I) := hl
  rw [← hq]
  rw [← hl] at HX1 ho1
  obtain ⟨ro, rc, hro, _, _⟩ := row_form ho1
  subst hro
  clear ho1 h1 c1 hq hl
  go_wp2_with fail
  refine (yread (DO.ch (HP.out.below HB.out).b C1.out (fun x hx e => HP.out.c x e hx)) I HLO.out).mono ?_
  rintro e w2 ⟨r2, rfl, ho2, h2, c2⟩
  have s1 := str_of (HX1.out.ch c2 (fun _ hx => .inl hx)).1
  have ob := own_bv ho2 (fun c hc => read_eq o I c hc HP.out.a.good)
  rw [← HLI.out] at ob ho2
  have s2 := str_of ob
  obtain ⟨so, sc, hso, _, _⟩ := row_form ho2
  subst hso
  rw [← HQI.out]
  have HR : Hid (Rg D E w d t (orS o I) (.returned (.bool true)) w2) := rg_two HP.out HB.out H1.out C1.out h2 c2
  clear ho2 h2 c2 ob k2
  go_wp2_with fail
  go_ret
  exact HR.out

set_option maxRecDepth 100000 in
set_option maxHeartbeats 2000000 in
theorem right_3 (hP : Pg D E w d t o) (hb : Bx (fun x => D x ∨ E x) w bv b) (hI : I < 9223372036854775808) :
    Calls Try.prog 13 #[d, t, .agg #[.int .i64 3, .int .i64 On, .int .i64 I, bv]] w fun e w' => Rg D E w d t (ocS o I) e w' := by
  have HP : Hid (Pg D E w d t o) := hP
  obtain ⟨bo, bc, rfl, _, _⟩ := bv_form hb.1
  obtain ⟨wb, hwb⟩ : ∃ wb, wb = w.alloc (.cells #[.int .i64 3, .int .i64 On, .int .i64 I, .slice bo b.length bc] 38) := ⟨_, rfl⟩
  have HW : Hid (wb = w.alloc (.cells #[.int .i64 3, .int .i64 On, .int .i64 I, .slice bo b.length bc] 38)) := hwb
  have HB : Hid (Below w.heap.size w wb) := by show Below _ _ _; rw [hwb]; exact below_alloc _ _
  have HQ : Hid (Bq w.heap.size I (.slice bo b.length bc) wb) := by
    show Bq _ _ _ _
    rw [hwb]; exact ⟨by simp [go_sem], by simp [go_sem]⟩
  have HND : Hid (¬ D w.heap.size) := fun e => Nat.lt_irrefl _ (hP.l _ (.inl e))
  have HI : Hid (I < 9223372036854775808) := hI
  clear hI
  clear hP hb hwb
  go_enter Try.func13, Try.ntmps13
  go_wp2_with fail
  rw [← HW.out]
  refine (zcut (HP.out.below HB.out).a HI.out).mono ?_
  rintro e w1 ⟨rfl, h1, c1⟩
  have H1 : Hid (DO 59 D w1 d (ocS o I)) := h1
  have C1 : Hid (Ch D wb w1) := c1
  have k2 := (HQ.out.ch c1 HND.out).c2
  clear h1 c1
  go_wp2_with fail
  refine (ycut (DO.ch (HP.out.below HB.out).b C1.out (fun x hx e => HP.out.c x e hx)) HI.out).mono ?_
  rintro e w2 ⟨rfl, h2, c2⟩
  have HR : Hid (Rg D E w d t (ocS o I) (.returned (.bool true)) w2) := rg_two HP.out HB.out H1.out C1.out h2 c2
  have HD : Hid (DO 59 D w2 d (ocS o I)) := H1.out.ch c2 HP.out.c
  have HE : Hid (DO 61 E w2 t (ocS o I)) := h2
  clear h2 c2 k2
  go_wp2_with fail
  refine (zdown HD.out).mono ?_
  rintro e w9 ⟨rfl, h9⟩
  have h9 := h9.symm
  subst h9
  go_wp2_with fail
  refine (ydown HE.out).mono ?_
  rintro e w9 ⟨rfl, h9⟩
  have h9 := h9.symm
  subst h9
  go_wp2_with fail
  refine (zblocks HD.out).mono ?_
  rintro e w9 ⟨rfl, h9⟩
  have h9 := h9.symm
  subst h9
  go_wp2_with fail
  refine (yblocks HE.out).mono ?_
  rintro e w9 ⟨rfl, h9⟩
  have h9 := h9.symm
  subst h9
  go_wp2_with fail
  refine (zreads HD.out).mono ?_
  rintro e w9 ⟨rfl, h9⟩
  have h9 := h9.symm
  subst h9
  go_wp2_with fail
  refine (yreads HE.out).mono ?_
  rintro e w9 ⟨rfl, h9⟩
  have h9 := h9.symm
  subst h9
  go_wp2_with fail
  refine (zwrites HD.out).mono ?_
  rintro e w9 ⟨rfl, h9⟩
  have h9 := h9.symm
  subst h9
  go_wp2_with fail
  refine (ywrites HE.out).mono ?_
  rintro e w9 ⟨rfl, h9⟩
  have h9 := h9.symm
  subst h9
  go_wp2_with fail
  go_ret
  exact HR.out

set_option maxRecDepth 100000 in
set_option maxHeartbeats 2000000 in
theorem right_4 (hP : Pg D E w d t o) (hb : Bx (fun x => D x ∨ E x) w bv b) :
    Calls Try.prog 13 #[d, t, .agg #[.int .i64 4, .int .i64 On, .int .i64 I, bv]] w fun e w' => Rg D E w d t (o.map offS) e w' := by
  have HP : Hid (Pg D E w d t o) := hP
  obtain ⟨bo, bc, rfl, _, _⟩ := bv_form hb.1
  obtain ⟨wb, hwb⟩ : ∃ wb, wb = w.alloc (.cells #[.int .i64 4, .int .i64 On, .int .i64 I, .slice bo b.length bc] 38) := ⟨_, rfl⟩
  have HW : Hid (wb = w.alloc (.cells #[.int .i64 4, .int .i64 On, .int .i64 I, .slice bo b.length bc] 38)) := hwb
  have HB : Hid (Below w.heap.size w wb) := by show Below _ _ _; rw [hwb]; exact below_alloc _ _
  clear hP hb hwb
  go_enter Try.func13, Try.ntmps13
  go_wp2_with fail
  rw [← HW.out]
  refine (zoff (HP.out.below HB.out).a).mono ?_
  rintro e w1 ⟨rfl, h1, c1⟩
  have H1 : Hid (DO 59 D w1 d (o.map offS)) := h1
  have C1 : Hid (Ch D wb w1) := c1
  clear h1 c1
  go_wp2_with fail
  refine (yoff (DO.ch (HP.out.below HB.out).b C1.out (fun x hx e => HP.out.c x e hx))).mono ?_
  rintro e w2 ⟨rfl, h2, c2⟩
  have HR : Hid (Rg D E w d t (o.map offS) (.returned (.bool true)) w2) := rg_two HP.out HB.out H1.out C1.out h2 c2
  have HD : Hid (DO 59 D w2 d (o.map offS)) := H1.out.ch c2 HP.out.c
  have HE : Hid (DO 61 E w2 t (o.map offS)) := h2
  clear h2 c2
  go_wp2_with fail
  refine (zdown HD.out).mono ?_
  rintro e w9 ⟨rfl, h9⟩
  have h9 := h9.symm
  subst h9
  go_wp2_with fail
  refine (ydown HE.out).mono ?_
  rintro e w9 ⟨rfl, h9⟩
  have h9 := h9.symm
  subst h9
  go_wp2_with fail
  refine (zblocks HD.out).mono ?_
  rintro e w9 ⟨rfl, h9⟩
  have h9 := h9.symm
  subst h9
  go_wp2_with fail
  refine (yblocks HE.out).mono ?_
  rintro e w9 ⟨rfl, h9⟩
  have h9 := h9.symm
  subst h9
  go_wp2_with fail
  refine (zreads HD.out).mono ?_
  rintro e w9 ⟨rfl, h9⟩
  have h9 := h9.symm
  subst h9
  go_wp2_with fail
  refine (yreads HE.out).mono ?_
  rintro e w9 ⟨rfl, h9⟩
  have h9 := h9.symm
  subst h9
  go_wp2_with fail
  refine (zwrites HD.out).mono ?_
  rintro e w9 ⟨rfl, h9⟩
  have h9 := h9.symm
  subst h9
  go_wp2_with fail
  refine (ywrites HE.out).mono ?_
  rintro e w9 ⟨rfl, h9⟩
  have h9 := h9.symm
  subst h9
  go_wp2_with fail
  go_ret
  exact HR.out

set_option maxRecDepth 100000 in
set_option maxHeartbeats 2000000 in
theorem right_5 (hP : Pg D E w d t o) (hb : Bx (fun x => D x ∨ E x) w bv b) :
    Calls Try.prog 13 #[d, t, .agg #[.int .i64 5, .int .i64 On, .int .i64 I, bv]] w fun e w' => Rg D E w d t (o.map onS) e w' := by
  have HP : Hid (Pg D E w d t o) := hP
  obtain ⟨bo, bc, rfl, _, _⟩ := bv_form hb.1
  obtain ⟨wb, hwb⟩ : ∃ wb, wb = w.alloc (.cells #[.int .i64 5, .int .i64 On, .int .i64 I, .slice bo b.length bc] 38) := ⟨_, rfl⟩
  have HW : Hid (wb = w.alloc (.cells #[.int .i64 5, .int .i64 On, .int .i64 I, .slice bo b.length bc] 38)) := hwb
  have HB : Hid (Below w.heap.size w wb) := by show Below _ _ _; rw [hwb]; exact below_alloc _ _
  clear hP hb hwb
  go_enter Try.func13, Try.ntmps13
  go_wp2_with fail
  rw [← HW.out]
  refine (zon (HP.out.below HB.out).a).mono ?_
  rintro e w1 ⟨rfl, h1, c1⟩
  have H1 : Hid (DO 59 D w1 d (o.map onS)) := h1
  have C1 : Hid (Ch D wb w1) := c1
  clear h1 c1
  go_wp2_with fail
  refine (yon (DO.ch (HP.out.below HB.out).b C1.out (fun x hx e => HP.out.c x e hx))).mono ?_
  rintro e w2 ⟨rfl, h2, c2⟩
  have HR : Hid (Rg D E w d t (o.map onS) (.returned (.bool true)) w2) := rg_two HP.out HB.out H1.out C1.out h2 c2
  have HD : Hid (DO 59 D w2 d (o.map onS)) := H1.out.ch c2 HP.out.c
  have HE : Hid (DO 61 E w2 t (o.map onS)) := h2
  clear h2 c2
  go_wp2_with fail
  refine (zdown HD.out).mono ?_
  rintro e w9 ⟨rfl, h9⟩
  have h9 := h9.symm
  subst h9
  go_wp2_with fail
  refine (ydown HE.out).mono ?_
  rintro e w9 ⟨rfl, h9⟩
  have h9 := h9.symm
  subst h9
  go_wp2_with fail
  refine (zblocks HD.out).mono ?_
  rintro e w9 ⟨rfl, h9⟩
  have h9 := h9.symm
  subst h9
  go_wp2_with fail
  refine (yblocks HE.out).mono ?_
  rintro e w9 ⟨rfl, h9⟩
  have h9 := h9.symm
  subst h9
  go_wp2_with fail
  refine (zreads HD.out).mono ?_
  rintro e w9 ⟨rfl, h9⟩
  have h9 := h9.symm
  subst h9
  go_wp2_with fail
  refine (yreads HE.out).mono ?_
  rintro e w9 ⟨rfl, h9⟩
  have h9 := h9.symm
  subst h9
  go_wp2_with fail
  refine (zwrites HD.out).mono ?_
  rintro e w9 ⟨rfl, h9⟩
  have h9 := h9.symm
  subst h9
  go_wp2_with fail
  refine (ywrites HE.out).mono ?_
  rintro e w9 ⟨rfl, h9⟩
  have h9 := h9.symm
  subst h9
  go_wp2_with fail
  go_ret
  exact HR.out

set_option maxRecDepth 100000 in
set_option maxHeartbeats 2000000 in
theorem right_6 (hP : Pg D E w d t o) (hb : Bx (fun x => D x ∨ E x) w bv b) (n1 : K ≠ 1) (n2 : K ≠ 2) (n3 : K ≠ 3) (n4 : K ≠ 4) (n5 : K ≠ 5) :
    Calls Try.prog 13 #[d, t, .agg #[.int .i64 K, .int .i64 On, .int .i64 I, bv]] w fun e w' => Rg D E w d t (o) e w' := by
  have HP : Hid (Pg D E w d t o) := hP
  obtain ⟨bo, bc, rfl, _, _⟩ := bv_form hb.1
  obtain ⟨wb, hwb⟩ : ∃ wb, wb = w.alloc (.cells #[.int .i64 K, .int .i64 On, .int .i64 I, .slice bo b.length bc] 38) := ⟨_, rfl⟩
  have HW : Hid (wb = w.alloc (.cells #[.int .i64 K, .int .i64 On, .int .i64 I, .slice bo b.length bc] 38)) := hwb
  have HB : Hid (Below w.heap.size w wb) := by show Below _ _ _; rw [hwb]; exact below_alloc _ _
  clear hP hb hwb
  go_enter Try.func13, Try.ntmps13
  go_wp2_with fail
  rw [← HW.out]
  have HR : Hid (Rg D E w d t o (.returned (.bool true)) wb) := rg_two HP.out HB.out (HP.out.below HB.out).a (Ch.refl _ _) (HP.out.below HB.out).b (Ch.refl _ _)
  have HD : Hid (DO 59 D wb d o) := (HP.out.below HB.out).a
  have HE : Hid (DO 61 E wb t o) := (HP.out.below HB.out).b
  refine (zdown HD.out).mono ?_
  rintro e w9 ⟨rfl, h9⟩
  have h9 := h9.symm
  subst h9
  go_wp2_with fail
  refine (ydown HE.out).mono ?_
  rintro e w9 ⟨rfl, h9⟩
  have h9 := h9.symm
  subst h9
  go_wp2_with fail
  refine (zblocks HD.out).mono ?_
  rintro e w9 ⟨rfl, h9⟩
  have h9 := h9.symm
  subst h9
  go_wp2_with fail
  refine (yblocks HE.out).mono ?_
  rintro e w9 ⟨rfl, h9⟩
  have h9 := h9.symm
  subst h9
  go_wp2_with fail
  refine (zreads HD.out).mono ?_
  rintro e w9 ⟨rfl, h9⟩
  have h9 := h9.symm
  subst h9
  go_wp2_with fail
  refine (yreads HE.out).mono ?_
  rintro e w9 ⟨rfl, h9⟩
  have h9 := h9.symm
  subst h9
  go_wp2_with fail
  refine (zwrites HD.out).mono ?_
  rintro e w9 ⟨rfl, h9⟩
  have h9 := h9.symm
  subst h9
  go_wp2_with fail
  refine (ywrites HE.out).mono ?_
  rintro e w9 ⟨rfl, h9⟩
  have h9 := h9.symm
  subst h9
  go_wp2_with fail
  go_ret
  exact HR.out

theorem right_walk (hP : Pg D E w d t o) (hb : Bx (fun x => D x ∨ E x) w bv b) (hlow : Low o) (hI : I < 9223372036854775808) :
    Calls Try.prog 13 #[d, t, .agg #[.int .i64 K, .int .i64 On, .int .i64 I, bv]] w fun e w' => Rg D E w d t (stepO o K I b) e w' := by
  unfold stepO
  by_cases k1 : K = 1
  · subst k1; exact right_1 hP hb hlow
  · rw [if_neg k1]
    by_cases k2 : K = 2
    · subst k2; exact right_2 hP hb hlow
    · rw [if_neg k2]
      by_cases k3 : K = 3
      · subst k3; exact right_3 hP hb hI
      · rw [if_neg k3]
        by_cases k4 : K = 4
        · subst k4; exact right_4 hP hb
        · rw [if_neg k4]
          by_cases k5 : K = 5
          · subst k5; exact right_5 hP hb
          · rw [if_neg k5]; exact right_6 hP hb k1 k2 k3 k4 k5
end
end Go.Proofs.Ytninkhijnicbjaa
