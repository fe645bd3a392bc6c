/- New, Load, Read, Write. -/
import Derived.Test.YtnnammlipfappaaDe

namespace Go.Proofs.Ytnnammlipfappaa

open Go.RowKit



section

variable {T : TypeId} {D : Nat → Prop} {w w' : World} {v bv : Value} {sb gp cap : Nat} {S : Dk} {b : List Nat}



/-- What Read answers. -/
def Rd (T : TypeId) (D : Nat → Prop) (w : World) (v : Value) (S : Dk) (i : Int) (e : Ending) (w' : World) : Prop :=
  ∃ r, e = .returned (.tuple #[r, .int .i64 (refI S i)]) ∧ w'.ownsRow w.heap.size 5 1 r (readL S i).length (cb (readL S i)) ∧ Dsk T D w' v (readS S i) ∧ Ch D w w'


theorem rd_bad {i : Int} (h : Dsk T D w v S) (hr : refI S i ≠ 0) : Rd T D w v S i (.returned (.tuple #[.slice none 0 0, .int .i64 (refI S i)])) w := by
  refine ⟨_, rfl, ?_, ?_, Ch.refl _ _⟩
  · unfold readL; rw [if_neg hr]; exact World.ownsRow_nil _ _ _ _
  · unfold readS; rw [if_neg hr]; exact h
theorem rd_ok {k : Nat} {S2 : Dk} {w1 w2 : World} {r : Value} (hr : refI S k = 0) (hS : S2 = { S with rd := S.rd + 1 }) (h : Dsk T D w1 v S2) (hC : Ch D w w1) (ho : w2.ownsRow w1.heap.size 5 1 r (bk S.bl k).length (cb (bk S.bl k))) (hB : Below w1.heap.size w1 w2) :
    Rd T D w v S k (.returned (.tuple #[r, .int .i64 0])) w2 := by
  have e1 : readL S k = bk S.bl k := by unfold readL; rw [if_pos hr]; simp
  have e2 : readS S k = S2 := by unfold readS; rw [if_pos hr, hS]
  refine ⟨_, by rw [hr], ?_, ?_, ?_⟩
  · rw [e1]; exact own_base ho hC.size
  · rw [e2]; exact h.below hB
  · exact hC.trans (Ch.of_below (D := D) hB) (fun _ hx => .inl hx)


theorem read_nil (i : Int) : Calls Try.prog 38 #[.pointer none, .int .i64 i] w fun e w' => e = .returned (.tuple #[.slice none 0 0, .int .i64 2]) ∧ w' = w := by
  go_enter Try.func38, Try.ntmps38
  go_wp2_with fail
  refine (refuses_nil i).mono ?_
  rintro e w9 ⟨rfl, h9⟩
  have h9 := h9.symm
  subst h9
  go_wp2_with fail
  go_ret2
  exact ⟨rfl, rfl⟩


set_option maxRecDepth 100000 in
theorem read_walk (h : Dsk T D w v S) (i : Int) (hrd : S.rd < 9223372036854775807) : Calls Try.prog 38 #[v, .int .i64 i] w fun e w' => Rd T D w v S i e w' := by
  have HW : Hid (Dsk T D w v S) := h
  obtain ⟨sb, gp, cap, rfl, h, hok⟩ := h
  have HM : Hid (DM T D w sb gp cap S) := h
  have HK : Hid S.ok := hok
  clear h hok
  by_cases hr : refI S i = 0
  · obtain ⟨hdn, k, rfl, hk⟩ := ref_ok hr
    have HR : Hid (refI S k = 0) := hr
    clear hr hdn
    have c3 := HM.out.c3
    have f3 := HM.out.soft 3
    have c0 := HM.out.c0
    have HM2 : Hid (DM T D (w.setCell ⟨sb, 3, none⟩ (.int .i64 ((S.rd : Int) + 1))) sb gp cap { S with rd := S.rd + 1 }) := HM.out.put 3 _ rfl rfl
    obtain ⟨u, hu, hoc, _⟩ := HM2.out.row.at (i := k) hk
    have HBv : Hid (Bv (w.setCell ⟨sb, 3, none⟩ (.int .i64 ((S.rd : Int) + 1))) u (bk S.bl k)) := hoc.bv (HK.out.byt _ (bk_mem hk))
    have HL : Hid ((bk S.bl k).length ≤ 140737488355328) := Nat.le_trans (HK.out.len _ (bk_mem hk)) (by omega)
    have hu0 : w.cell? ⟨gp, k, none⟩ = some u := by
      rw [← hu]; exact (World.cell?_of_block (w := w) (a := ⟨gp, k, none⟩) (set_other 3 _ HM.out.a1)).symm
    obtain ⟨p, hp⟩ : ∃ p, p = bk S.bl k := ⟨_, rfl⟩
    rw [← hp] at HBv HL
    have HP : Hid (p = bk S.bl k) := hp
    obtain ⟨ao, cp, rfl, _, _⟩ := bv_formD HBv.out
    have r1 : IntKind.i64.wrap ((S.rd : Int) + 1) = (S.rd : Int) + 1 := wrapU (by omega) (by omega)
    have h64 := HK.out.n64
    have hne1 : ¬ gp = sb := HM.out.a1
    have hne2 : ¬ sb = gp := fun e => HM.out.a1 e.symm
    clear hoc hp hu hrd
    go_enter Try.func38, Try.ntmps38
    go_wp2_with fail
    refine (refuses_walk HM.out HK.out k).mono ?_
    rintro e w9 ⟨rfl, h9⟩
    have h9 := h9.symm
    subst h9
    rw [HR.out]
    go_wp2_with fail
    refine (clone_walk HBv.out HL.out).mono ?_
    rintro e w2 ⟨r, rfl, ho, hB⟩
    go_wp2_with fail
    go_ret2
    exact rd_ok HR.out rfl ⟨sb, gp, cap, rfl, HM2.out, ok_rd HK.out _⟩ (ch_put _ _ HM.out.d1) (by rw [← HP.out]; exact ho) hB
  · have HR : Hid (refI S i ≠ 0) := hr
    have HA : Hid (Rd T D w (.pointer (some ⟨sb, 0, none⟩)) S i (.returned (.tuple #[.slice none 0 0, .int .i64 (refI S i)])) w) := rd_bad HW.out hr
    obtain ⟨q, hq⟩ : ∃ q, q = refI S i := ⟨_, rfl⟩
    rw [← hq] at HA hr
    have HQ : Hid (q = refI S i) := hq
    clear hq
    go_enter Try.func38, Try.ntmps38
    go_wp2_with fail
    refine (refuses_walk HM.out HK.out i).mono ?_
    rintro e w9 ⟨rfl, h9⟩
    have h9 := h9.symm
    subst h9
    rw [← HQ.out]
    go_wp2_with fail
    go_ret2
    exact HA.out


/-- What Write answers. -/
def Wt (T : TypeId) (D : Nat → Prop) (w : World) (v : Value) (S : Dk) (i : Int) (b : List Nat) (e : Ending) (w' : World) : Prop :=
  e = .returned (.int .i64 (writeI S i b)) ∧ (∃ D' : Nat → Prop, Dsk T D' w' v (writeS S i b) ∧ ∀ x, D' x → D x ∨ w.heap.size ≤ x) ∧ Ch D w w'
theorem wt_same {i c : Int} (h : Dsk T D w v S) (hI : writeI S i b = c) (hS : writeS S i b = S) : Wt T D w v S i b (.returned (.int .i64 c)) w := by
  refine ⟨by rw [hI], ⟨D, by rw [hS]; exact h, fun x hx => .inl hx⟩, Ch.refl _ _⟩
/-- Ahead of the store: what is known of a world wx in the last region but one. -/
structure Wq (w2 : World) (sb gp k : Nat) (sv : Value) (wx : World) : Prop where
  ch : Ch (fun x => x = gp) w2 wx
  c0 : wx.cell? ⟨sb, 0, none⟩ = some sv
  at' : ∃ u, wx.cell? ⟨gp, k, none⟩ = some u
  soft : wx.frozen? ⟨gp, k, none⟩ = false
theorem Wq.go {w2 : World} {k : Nat} {sv : Value} {wx wy : World} (h : Wq w2 sb gp k sv wx) (hb : Below wx.heap.size wx wy) : Wq w2 sb gp k sv wy := by
  obtain ⟨u, hu⟩ := h.at'
  exact ⟨h.ch.trans (Ch.of_below (D := fun x => x = gp) hb) (fun _ hx => .inl hx), by rw [hb.cell (p := ⟨sb, 0, none⟩) (cell_lt h.c0)]; exact h.c0, ⟨u, by rw [hb.cell (p := ⟨gp, k, none⟩) (cell_lt hu)]; exact hu⟩, by rw [hb.frozen (p := ⟨gp, k, none⟩) (cell_lt hu)]; exact h.soft⟩
theorem Wq.set {w2 : World} {k : Nat} {sv : Value} {wx : World} (h : Wq w2 sb gp k sv wx) (hne : sb ≠ gp) (u : Value) : Wq w2 sb gp k sv (wx.setCell ⟨gp, k, none⟩ u) := by
  obtain ⟨u0, hu⟩ := h.at'
  refine ⟨h.ch.trans (Ch.of_grown (D := fun x => x = gp) (grown_set wx gp k u) (fun x hx => by cases hx; rfl)) (fun _ hx => .inl hx), ?_, ⟨u, ?_⟩, ?_⟩
  · rw [World.cell?_of_block (w := wx) (a := ⟨sb, 0, none⟩) (set_other k u hne)]; exact h.c0
  · simp [go_sem, hu]
  · simp [go_sem, h.soft]
/-- A block is written. -/
theorem DM.setRow {w2 wC : World} {base k : Nat} {u : Value} (h : DM T D w2 sb gp cap S) (hB : Ch (fun _ => False) w2 wC) (hk : k < S.bl.length) (ho : wC.ownsRow base 5 1 u b.length (cb b)) (hb : w2.heap.size ≤ base) :
    DM T (fun x => D x ∨ u.ownBlock = some x) (wC.setCell ⟨gp, k, none⟩ u) sb gp cap { S with bl := S.bl.set k b } := by
  have hBw : Below w2.heap.size w2 wC := hB.to_below (Nat.le_refl _) (fun x hx => hx.elim)
  have hC := h.below hBw
  have hnew : ∀ x, u.ownBlock = some x → w2.heap.size ≤ x := fun x hx => Nat.le_trans hb (ho.lt x hx).1
  refine ⟨?_, ?_, h.a1, .inl h.d1, .inl h.d2, ?_⟩
  · rw [set_other k u (fun e => h.a1 e.symm), hC.head]
    simp [hd]
  · exact (hC.row.mono (fun x hx => ⟨.inl hx.1, hx.2⟩)).set hk (own_base ho (Nat.zero_le _)) (fun x hx => ⟨.inr hx, fun e => by have h1 := hnew x hx; have h2 := h.dl sb h.d1; omega⟩)
  · intro x hx
    have : x < wC.heap.size := by
      rcases hx with hx | hx
      · exact hC.dl x hx
      · exact (ho.lt x hx).2
    simpa [go_sem] using this


/-- A slice of bytes stays where a number is written. -/
theorem bv_int {x y : Int} {i : Nat} (h : Bv w bv b) (hc : w.cell? ⟨sb, i, none⟩ = some (.int .i64 x)) : Bv (w.setCell ⟨sb, i, none⟩ (.int .i64 y)) bv b := by
  obtain ⟨⟨ao, cap, rfl, h1, h2, h3, h4⟩, h5⟩ := h
  refine ⟨⟨ao, cap, rfl, h1, h2, h3, fun j hj => ?_⟩, h5⟩
  obtain ⟨b', off, e, c⟩ := h4 j hj
  refine ⟨b', off, e, ?_⟩
  have hne : ¬ ((⟨sb, i, none⟩ : Addr) = ⟨b', off + j, none⟩) := by
    intro e2
    rw [← e2, hc] at c
    simp at c
  simp [go_sem, c, hne]


set_option maxRecDepth 100000 in
set_option maxHeartbeats 2000000 in
theorem write_free (h : DM T D w sb gp cap S) (hok : S.ok) {k : Nat} (hr : refI S k = 0) (hk : k < S.bl.length) (hb : Bv w bv b) (hbl : b.length ≤ 1024) (hl : S.left = -1) (hwr : S.wr < 9223372036854775807) :
    Calls Try.prog 35 #[.pointer (some ⟨sb, 0, none⟩), .int .i64 k, bv] w fun e w' => Wt T D w (.pointer (some ⟨sb, 0, none⟩)) S k b e w' := by
  have HM : Hid (DM T D w sb gp cap S) := h
  have HK : Hid S.ok := hok
  have HR : Hid (refI S k = 0) := hr
  have HBL : Hid (b.length ≤ 1024) := hbl
  have HKL : Hid (k < S.bl.length) := hk
  have HI : Hid (writeI S k b = 0) := by show _ = _; unfold writeI; rw [if_neg (fun e => e hr), if_neg (by omega), if_neg (by omega)]
  have HS : Hid (writeS S k b = putS S k b) := by show _ = _; unfold writeS; rw [if_neg (fun e => e hr), if_neg (by omega), if_neg (by omega)]; simp
  have HD : Hid (decL S.left = -1) := by show _ = _; unfold decL; rw [if_pos hl]
  have HBB : Hid (∀ c ∈ b, c < 256) := hb.2
  obtain ⟨w2, hw2⟩ : ∃ w2, w2 = w := ⟨_, rfl⟩
  have HM2 : Hid (DM T D w2 sb gp cap { S with left := decL S.left }) := by
    show DM _ _ _ _ _ _ _
    rw [hw2, HD.out, ← hl]
    exact h
  have HC2 : Hid (Ch D w w2) := by show Ch _ _ _; rw [hw2]; exact Ch.refl _ _
  obtain ⟨bo, bc, rfl, _, _⟩ := bv_formD hb
  have HB2 : Hid (Bv w2 (.slice bo b.length bc) b) := by
    show Bv _ _ _
    rw [hw2]
    exact hb
  obtain ⟨u0, z0, _⟩ := HM2.out.row.at (i := k) hk
  have f0 := HM2.out.row.soft k
  have x0 := HM2.out.c0
  have hSd : Wq w2 sb gp k (.slice (some ⟨gp, 0, none⟩) S.bl.length cap) w2.drew := Wq.go (wx := w2) ⟨Ch.refl _ _, x0, ⟨u0, z0⟩, f0⟩ (below_drewN _ _)
  have HW2 : Hid (w2 = w) := hw2
  have c2 := h.c2
  have f2 := h.soft 2
  have h64 := hok.n64
  have hbi : (b.length : Int) ≤ 1024 := by omega
  have hbd : decide ((1024 : Int) < (b.length : Int)) = false := decide_eq_false (by omega)
  have hki : (k : Int) < (S.bl.length : Int) := by omega
  have r1 : IntKind.i64.wrap ((S.wr : Int) + 1) = (S.wr : Int) + 1 := wrapU (by omega) (by omega)
  rw [hl] at c2
  have HNE : Hid (sb ≠ gp) := fun e => h.a1 e.symm
  have j0 : ∀ wx, Wq w2 sb gp k (.slice (some ⟨gp, 0, none⟩) S.bl.length cap) wx → wx.cell? ⟨sb, 0, none⟩ = some (.slice (some ⟨gp, 0, none⟩) S.bl.length cap) := fun wx h => h.c0
  clear h hok hr hk hb hbl hl hwr hw2 z0 f0 x0
  go_enter Try.func35, Try.ntmps35
  go_wp2_with fail
  refine (refuses_walk HM.out HK.out k).mono ?_
  rintro e w9 ⟨rfl, h9⟩
  have h9 := h9.symm
  subst h9
  rw [HR.out]
  go_wp2_with fail
  rw [← HW2.out]
  go_region_held3 (fun wx => Wq w2 sb gp k (.slice (some ⟨gp, 0, none⟩) S.bl.length cap) wx) (first | assumption | exact Wq.set (by assumption) HNE.out _)
    (first
      | (go_at_call 56; refine (clone_walk (v := .slice bo b.length bc) (l := b) (HB2.out.below (below_drewN _ _)) (Nat.le_trans HBL.out (by omega))).mono ?_; rintro e wC ⟨u', rfl, hoC, hBC⟩; obtain ⟨qo, qc, hqv, _⟩ := row_form hoC; subst hqv; have hSC : Wq w2 sb gp k (.slice (some ⟨gp, 0, none⟩) S.bl.length cap) wC := Wq.go (by assumption) hBC; obtain ⟨u0, z0⟩ := hSC.at'; have f0 := hSC.soft))
  obtain ⟨w3, hw3⟩ : ∃ w3, w3 = wC.setCell ⟨gp, k, none⟩ (.slice qo b.length qc) := ⟨_, rfl⟩
  have hBw : Below w2.heap.size w2 wC := below_trans (below_drewN w2 1) hBC
  have HM3 : Hid (DM T (fun x => D x ∨ (Value.slice qo b.length qc).ownBlock = some x) w3 sb gp cap { S with bl := S.bl.set k b, left := decL S.left }) := by
    show DM _ _ _ _ _ _ _
    rw [hw3]
    exact HM2.out.setRow (Ch.of_below hBw) HKL.out hoC (Nat.le_refl _)
  have HNW : Hid (∀ x, (Value.slice qo b.length qc).ownBlock = some x → w2.heap.size ≤ x) := fun x hx => (hoC.lt x hx).1
  have HC3 : Hid (Ch D w w3) := by
    show Ch _ _ _
    rw [hw3]
    exact (HC2.out.self (Ch.of_below hBw)).self (ch_put _ _ HM2.out.d2)
  rw [← hw3]
  have c4 := HM3.out.c4
  have f4 := HM3.out.soft 4
  clear hw3 hSC hBC hoC hBw z0 f0
  go_wp2_with fail
  go_ret
  refine ⟨by rw [HI.out]; rfl, ⟨_, ⟨sb, gp, cap, rfl, by rw [HS.out]; exact HM3.out.put 4 _ (S' := putS S k b) rfl rfl, by rw [HS.out]; exact ok_put HK.out k HBL.out HBB.out⟩, fun x hx => ?_⟩, HC3.out.self (ch_put _ _ HM.out.d1)⟩
  rcases hx with hx | hx
  · exact .inl hx
  · exact .inr (Nat.le_trans HC2.out.size (HNW.out x hx))


set_option maxRecDepth 100000 in
set_option maxHeartbeats 2000000 in
theorem write_armed (h : DM T D w sb gp cap S) (hok : S.ok) {k : Nat} (hr : refI S k = 0) (hk : k < S.bl.length) (hb : Bv w bv b) (hbl : b.length ≤ 1024) (hl : 0 < S.left) (hwr : S.wr < 9223372036854775807) :
    Calls Try.prog 35 #[.pointer (some ⟨sb, 0, none⟩), .int .i64 k, bv] w fun e w' => Wt T D w (.pointer (some ⟨sb, 0, none⟩)) S k b e w' := by
  have HM : Hid (DM T D w sb gp cap S) := h
  have HK : Hid S.ok := hok
  have HR : Hid (refI S k = 0) := hr
  have HBL : Hid (b.length ≤ 1024) := hbl
  have HKL : Hid (k < S.bl.length) := hk
  have HI : Hid (writeI S k b = 0) := by show _ = _; unfold writeI; rw [if_neg (fun e => e hr), if_neg (by omega), if_neg (by omega)]
  have HS : Hid (writeS S k b = putS S k b) := by show _ = _; unfold writeS; rw [if_neg (fun e => e hr), if_neg (by omega), if_neg (by omega)]; simp
  have HD : Hid (decL S.left = S.left - 1) := by show _ = _; unfold decL; rw [if_neg (by omega)]
  have HBB : Hid (∀ c ∈ b, c < 256) := hb.2
  obtain ⟨w2, hw2⟩ : ∃ w2, w2 = w.setCell ⟨sb, 2, none⟩ (.int .i64 (S.left - 1)) := ⟨_, rfl⟩
  have HM2 : Hid (DM T D w2 sb gp cap { S with left := decL S.left }) := by
    show DM _ _ _ _ _ _ _
    rw [hw2, HD.out]
    exact h.put 2 _ rfl rfl
  have HC2 : Hid (Ch D w w2) := by show Ch _ _ _; rw [hw2]; exact ch_put _ _ h.d1
  obtain ⟨bo, bc, rfl, _, _⟩ := bv_formD hb
  have HB2 : Hid (Bv w2 (.slice bo b.length bc) b) := by
    show Bv _ _ _
    rw [hw2]
    exact bv_int hb h.c2
  obtain ⟨u0, z0, _⟩ := HM2.out.row.at (i := k) hk
  have f0 := HM2.out.row.soft k
  have x0 := HM2.out.c0
  have hSd : Wq w2 sb gp k (.slice (some ⟨gp, 0, none⟩) S.bl.length cap) w2.drew := Wq.go (wx := w2) ⟨Ch.refl _ _, x0, ⟨u0, z0⟩, f0⟩ (below_drewN _ _)
  have HW2 : Hid (w2 = w.setCell ⟨sb, 2, none⟩ (.int .i64 (S.left - 1))) := hw2
  have c2 := h.c2
  have f2 := h.soft 2
  have h64 := hok.n64
  have hbi : (b.length : Int) ≤ 1024 := by omega
  have hbd : decide ((1024 : Int) < (b.length : Int)) = false := decide_eq_false (by omega)
  have hki : (k : Int) < (S.bl.length : Int) := by omega
  have r1 : IntKind.i64.wrap ((S.wr : Int) + 1) = (S.wr : Int) + 1 := wrapU (by omega) (by omega)
  have HLF : Hid (S.left < 9223372036854775808) := hok.l1
  have r2 : IntKind.i64.wrap (S.left - 1) = S.left - 1 := wrapU (by omega) (by have := HLF.out; omega)
  have l0 : ¬ S.left = 0 := by omega
  have l1 : ¬ S.left = -1 := by omega
  have HNE : Hid (sb ≠ gp) := fun e => h.a1 e.symm
  have j0 : ∀ wx, Wq w2 sb gp k (.slice (some ⟨gp, 0, none⟩) S.bl.length cap) wx → wx.cell? ⟨sb, 0, none⟩ = some (.slice (some ⟨gp, 0, none⟩) S.bl.length cap) := fun wx h => h.c0
  clear h hok hr hk hb hbl hl hwr hw2 z0 f0 x0
  go_enter Try.func35, Try.ntmps35
  go_wp2_with fail
  refine (refuses_walk HM.out HK.out k).mono ?_
  rintro e w9 ⟨rfl, h9⟩
  have h9 := h9.symm
  subst h9
  rw [HR.out]
  go_wp2_with fail
  rw [← HW2.out]
  go_region_held3 (fun wx => Wq w2 sb gp k (.slice (some ⟨gp, 0, none⟩) S.bl.length cap) wx) (first | assumption | exact Wq.set (by assumption) HNE.out _)
    (first
      | (go_at_call 56; refine (clone_walk (v := .slice bo b.length bc) (l := b) (HB2.out.below (below_drewN _ _)) (Nat.le_trans HBL.out (by omega))).mono ?_; rintro e wC ⟨u', rfl, hoC, hBC⟩; obtain ⟨qo, qc, hqv, _⟩ := row_form hoC; subst hqv; have hSC : Wq w2 sb gp k (.slice (some ⟨gp, 0, none⟩) S.bl.length cap) wC := Wq.go (by assumption) hBC; obtain ⟨u0, z0⟩ := hSC.at'; have f0 := hSC.soft))
  obtain ⟨w3, hw3⟩ : ∃ w3, w3 = wC.setCell ⟨gp, k, none⟩ (.slice qo b.length qc) := ⟨_, rfl⟩
  have hBw : Below w2.heap.size w2 wC := below_trans (below_drewN w2 1) hBC
  have HM3 : Hid (DM T (fun x => D x ∨ (Value.slice qo b.length qc).ownBlock = some x) w3 sb gp cap { S with bl := S.bl.set k b, left := decL S.left }) := by
    show DM _ _ _ _ _ _ _
    rw [hw3]
    exact HM2.out.setRow (Ch.of_below hBw) HKL.out hoC (Nat.le_refl _)
  have HNW : Hid (∀ x, (Value.slice qo b.length qc).ownBlock = some x → w2.heap.size ≤ x) := fun x hx => (hoC.lt x hx).1
  have HC3 : Hid (Ch D w w3) := by
    show Ch _ _ _
    rw [hw3]
    exact (HC2.out.self (Ch.of_below hBw)).self (ch_put _ _ HM2.out.d2)
  rw [← hw3]
  have c4 := HM3.out.c4
  have f4 := HM3.out.soft 4
  clear hw3 hSC hBC hoC hBw z0 f0
  go_wp2_with fail
  go_ret
  refine ⟨by rw [HI.out]; rfl, ⟨_, ⟨sb, gp, cap, rfl, by rw [HS.out]; exact HM3.out.put 4 _ (S' := putS S k b) rfl rfl, by rw [HS.out]; exact ok_put HK.out k HBL.out HBB.out⟩, fun x hx => ?_⟩, HC3.out.self (ch_put _ _ HM.out.d1)⟩
  rcases hx with hx | hx
  · exact .inl hx
  · exact .inr (Nat.le_trans HC2.out.size (HNW.out x hx))


theorem write_nil (i : Int) (bv : Value) : Calls Try.prog 35 #[.pointer none, .int .i64 i, bv] w fun e w' => e = .returned (.int .i64 2) ∧ w' = w := by
  go_enter Try.func35, Try.ntmps35
  go_wp2_with fail
  refine (refuses_nil i).mono ?_
  rintro e w9 ⟨rfl, h9⟩
  have h9 := h9.symm
  subst h9
  go_wp2_with fail
  go_ret
  exact ⟨rfl, rfl⟩


set_option maxRecDepth 100000 in
theorem write_walk (h : Dsk T D w v S) (i : Int) (hb : Bv w bv b) (hwr : S.wr < 9223372036854775807) : Calls Try.prog 35 #[v, .int .i64 i, bv] w fun e w' => Wt T D w v S i b e w' := by
  have HW : Hid (Dsk T D w v S) := h
  obtain ⟨sb, gp, cap, rfl, h, hok⟩ := h
  have HM : Hid (DM T D w sb gp cap S) := h
  have HK : Hid S.ok := hok
  by_cases hr : refI S i = 0
  · obtain ⟨hdn, k, rfl, hk⟩ := ref_ok hr
    by_cases hbl : b.length ≤ 1024
    · by_cases hl0 : S.left = 0
      · have HR : Hid (refI S k = 0) := hr
        have HI : Hid (writeI S k b = 80) := by show _ = _; unfold writeI; rw [if_neg (fun e => e hr), if_neg (by omega), if_pos hl0]
        have HS : Hid (writeS S k b = offS S) := by show _ = _; unfold writeS; rw [if_neg (fun e => e hr), if_neg (by omega), if_pos hl0]
        obtain ⟨bo, bc, rfl, _, _⟩ := bv_formD hb
        have c2 := h.c2
        rw [hl0] at c2
        have hbi : (b.length : Int) ≤ 1024 := by omega
        have hbd : decide ((1024 : Int) < (b.length : Int)) = false := decide_eq_false (by omega)
        clear h hok hr hk hb hbl hl0 hwr hdn
        go_enter Try.func35, Try.ntmps35
        go_wp2_with fail
        refine (refuses_walk HM.out HK.out k).mono ?_
        rintro e w9 ⟨rfl, h9⟩
        have h9 := h9.symm
        subst h9
        rw [HR.out]
        go_wp2_with fail
        refine (off_walk HW.out).mono ?_
        rintro e w2 ⟨rfl, hD, hC⟩
        go_wp2_with fail
        go_ret
        exact ⟨by rw [HI.out]; rfl, ⟨D, by rw [HS.out]; exact hD, fun x hx => .inl hx⟩, hC⟩
      · have hl0' := hok.l0
        by_cases hl1 : S.left = -1
        · exact write_free h hok hr hk hb hbl hl1 hwr
        · exact write_armed h hok hr hk hb hbl (by omega) hwr
    · have HR : Hid (refI S k = 0) := hr
      have HA : Hid (Wt T D w (.pointer (some ⟨sb, 0, none⟩)) S k b (.returned (.int .i64 6)) w) := wt_same HW.out (by unfold writeI; rw [if_neg (fun e => e hr), if_pos (by omega)]) (by unfold writeS; rw [if_neg (fun e => e hr), if_pos (by omega)])
      obtain ⟨bo, bc, rfl, _, _⟩ := bv_formD hb
      have hbi : (1024 : Int) < (b.length : Int) := by omega
      clear h hok hr hk hb hbl hwr hdn
      go_enter Try.func35, Try.ntmps35
      go_wp2_with fail
      refine (refuses_walk HM.out HK.out k).mono ?_
      rintro e w9 ⟨rfl, h9⟩
      have h9 := h9.symm
      subst h9
      rw [HR.out]
      go_wp2_with fail
      go_ret
      exact HA.out
  · have HA : Hid (Wt T D w (.pointer (some ⟨sb, 0, none⟩)) S i b (.returned (.int .i64 (refI S i))) w) := wt_same HW.out (by unfold writeI; rw [if_pos hr]) (by unfold writeS; rw [if_pos hr])
    obtain ⟨q, hq⟩ : ∃ q, q = refI S i := ⟨_, rfl⟩
    rw [← hq] at HA hr
    have HQ : Hid (q = refI S i) := hq
    clear hq h hok hb hwr
    go_enter Try.func35, Try.ntmps35
    go_wp2_with fail
    refine (refuses_walk HM.out HK.out i).mono ?_
    rintro e w9 ⟨rfl, h9⟩
    have h9 := h9.symm
    subst h9
    rw [← HQ.out]
    go_wp2_with fail
    go_ret
    exact HA.out


end

end Go.Proofs.Ytnnammlipfappaa


