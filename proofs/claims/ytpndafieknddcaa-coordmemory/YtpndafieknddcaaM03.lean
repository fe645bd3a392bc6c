/- Df Dg Dh Di SpNa SpNb SpNf -/
import Derived.Test.YtpndafieknddcaaM02
import Derived.Laws.ResultCell
namespace Go.Proofs.Ytpndafieknddcaa

open Go.RowKit



section

variable {T : TypeId} {D : Nat → Prop} {w w' : World} {v bv : Value} {sb gp cap : Nat} {S : Dk} {b : List Nat}



/-- What Read answers. -/
def Rd (T : TypeId) (D : Nat → Prop) (w : World) (v : Value) (S : Dk) (i : Int) (e : Ending) (w' : World) : Prop :=
  ∃ r, e = .returned (.tuple #[r, .int .i64 (refI S i)]) ∧ w'.ownsRow w.heap.size 5 1 r (readL S i).length (cb (readL S i)) ∧ Dsk T D w' v (readS S i) ∧ Ch D w w'


theorem rd_bad {i : Int} (h : Dsk T D w v S) (hr : refI S i ≠ 0) : Rd T D w v S i (.returned (.tuple #[.slice none 0 0, .int .i64 (refI S i)])) w := by
  refine ⟨_, rfl, ?_, ?_, Ch.refl _ _⟩
  · unfold readL; rw [if_neg hr]; exact World.ownsRow_nil _ _ _ _
  · unfold readS; rw [if_neg hr]; exact h
theorem rd_ok {k : Nat} {S2 : Dk} {w1 w2 : World} {r : Value} (hr : refI S k = 0) (hS : S2 = { S with rd := S.rd + 1 }) (h : Dsk T D w1 v S2) (hC : Ch D w w1) (ho : w2.ownsRow w1.heap.size 5 1 r (bk S.bl k).length (cb (bk S.bl k))) (hB : Below w1.heap.size w1 w2) :
    Rd T D w v S k (.returned (.tuple #[r, .int .i64 0])) w2 := by
  have e1 : readL S k = bk S.bl k := by unfold readL; rw [if_pos hr]; simp
  have e2 : readS S k = S2 := by unfold readS; rw [if_pos hr, hS]
  refine ⟨_, by rw [hr], ?_, ?_, ?_⟩
  · rw [e1]; exact own_base ho hC.size
  · rw [e2]; exact h.below hB
  · exact hC.trans (Ch.of_below (D := D) hB) (fun _ hx => .inl hx)


theorem read_nil (i : Int) : Calls Try.prog 89 #[.pointer none, .int .i64 i] w fun e w' => e = .returned (.tuple #[.slice none 0 0, .int .i64 2]) ∧ w' = w := by
  go_enter Try.func89, Try.ntmps89
  go_wp2_with fail
  refine (refuses_nil i).mono ?_
  rintro e w9 ⟨rfl, h9⟩
  have h9 := h9.symm
  subst h9
  go_wp2_with fail
  go_ret2
  exact ⟨rfl, rfl⟩


set_option maxRecDepth 100000 in
theorem read_walk (h : Dsk T D w v S) (i : Int) (hrd : S.rd < 9223372036854775807) : Calls Try.prog 89 #[v, .int .i64 i] w fun e w' => Rd T D w v S i e w' := by
  have HW : Hid (Dsk T D w v S) := h
  obtain ⟨sb, gp, cap, rfl, h, hok⟩ := h
  have HM : Hid (DM T D w sb gp cap S) := h
  have HK : Hid S.ok := hok
  clear h hok
  by_cases hr : refI S i = 0
  · obtain ⟨hdn, k, rfl, hk⟩ := ref_ok hr
    have HR : Hid (refI S k = 0) := hr
    clear hr hdn
    have c3 := HM.out.c3
    have f3 := HM.out.soft 3
    have c0 := HM.out.c0
    have HM2 : Hid (DM T D (w.setCell ⟨sb, 3, none⟩ (.int .i64 ((S.rd : Int) + 1))) sb gp cap { S with rd := S.rd + 1 }) := HM.out.put 3 _ rfl rfl
    obtain ⟨u, hu, hoc, _⟩ := HM2.out.row.at (i := k) hk
    have HBv : Hid (Bv (w.setCell ⟨sb, 3, none⟩ (.int .i64 ((S.rd : Int) + 1))) u (bk S.bl k)) := hoc.bv (HK.out.byt _ (bk_mem hk))
    have HL : Hid ((bk S.bl k).length ≤ 140737488355328) := Nat.le_trans (HK.out.len _ (bk_mem hk)) (by omega)
    have hu0 : w.cell? ⟨gp, k, none⟩ = some u := by
      rw [← hu]; exact (World.cell?_of_block (w := w) (a := ⟨gp, k, none⟩) (set_other 3 _ HM.out.a1)).symm
    obtain ⟨p, hp⟩ : ∃ p, p = bk S.bl k := ⟨_, rfl⟩
    rw [← hp] at HBv HL
    have HP : Hid (p = bk S.bl k) := hp
    obtain ⟨ao, cp, rfl, _, _⟩ := bv_formD HBv.out
    have r1 : IntKind.i64.wrap ((S.rd : Int) + 1) = (S.rd : Int) + 1 := wrapU (by omega) (by omega)
    have h64 := HK.out.n64
    have hne1 : ¬ gp = sb := HM.out.a1
    have hne2 : ¬ sb = gp := fun e => HM.out.a1 e.symm
    clear hoc hp hu hrd
    go_enter Try.func89, Try.ntmps89
    go_wp2_with fail
    refine (refuses_walk HM.out HK.out k).mono ?_
    rintro e w9 ⟨rfl, h9⟩
    have h9 := h9.symm
    subst h9
    rw [HR.out]
    go_wp2_with fail
    refine (clone_walk HBv.out HL.out).mono ?_
    rintro e w2 ⟨r, rfl, ho, hB⟩
    go_wp2_with fail
    go_ret2
    exact rd_ok HR.out rfl ⟨sb, gp, cap, rfl, HM2.out, ok_rd HK.out _⟩ (ch_put _ _ HM.out.d1) (by rw [← HP.out]; exact ho) hB
  · have HR : Hid (refI S i ≠ 0) := hr
    have HA : Hid (Rd T D w (.pointer (some ⟨sb, 0, none⟩)) S i (.returned (.tuple #[.slice none 0 0, .int .i64 (refI S i)])) w) := rd_bad HW.out hr
    obtain ⟨q, hq⟩ : ∃ q, q = refI S i := ⟨_, rfl⟩
    rw [← hq] at HA hr
    have HQ : Hid (q = refI S i) := hq
    clear hq
    go_enter Try.func89, Try.ntmps89
    go_wp2_with fail
    refine (refuses_walk HM.out HK.out i).mono ?_
    rintro e w9 ⟨rfl, h9⟩
    have h9 := h9.symm
    subst h9
    rw [← HQ.out]
    go_wp2_with fail
    go_ret2
    exact HA.out


/-- What Write answers. -/
def Wt (T : TypeId) (D : Nat → Prop) (w : World) (v : Value) (S : Dk) (i : Int) (b : List Nat) (e : Ending) (w' : World) : Prop :=
  e = .returned (.int .i64 (writeI S i b)) ∧ (∃ D' : Nat → Prop, Dsk T D' w' v (writeS S i b) ∧ ∀ x, D' x → D x ∨ w.heap.size ≤ x) ∧ Ch D w w'
theorem wt_same {i c : Int} (h : Dsk T D w v S) (hI : writeI S i b = c) (hS : writeS S i b = S) : Wt T D w v S i b (.returned (.int .i64 c)) w := by
  refine ⟨by rw [hI], ⟨D, by rw [hS]; exact h, fun x hx => .inl hx⟩, Ch.refl _ _⟩
/-- Ahead of the store: what is known of a world wx in the last region but one. -/
structure Wq (w2 : World) (sb gp k : Nat) (sv : Value) (wx : World) : Prop where
  ch : Ch (fun x => x = gp) w2 wx
  c0 : wx.cell? ⟨sb, 0, none⟩ = some sv
  at' : ∃ u, wx.cell? ⟨gp, k, none⟩ = some u
  soft : wx.frozen? ⟨gp, k, none⟩ = false
theorem Wq.go {w2 : World} {k : Nat} {sv : Value} {wx wy : World} (h : Wq w2 sb gp k sv wx) (hb : Below wx.heap.size wx wy) : Wq w2 sb gp k sv wy := by
  obtain ⟨u, hu⟩ := h.at'
  exact ⟨h.ch.trans (Ch.of_below (D := fun x => x = gp) hb) (fun _ hx => .inl hx), by rw [hb.cell (p := ⟨sb, 0, none⟩) (cell_lt h.c0)]; exact h.c0, ⟨u, by rw [hb.cell (p := ⟨gp, k, none⟩) (cell_lt hu)]; exact hu⟩, by rw [hb.frozen (p := ⟨gp, k, none⟩) (cell_lt hu)]; exact h.soft⟩
theorem Wq.set {w2 : World} {k : Nat} {sv : Value} {wx : World} (h : Wq w2 sb gp k sv wx) (hne : sb ≠ gp) (u : Value) : Wq w2 sb gp k sv (wx.setCell ⟨gp, k, none⟩ u) := by
  obtain ⟨u0, hu⟩ := h.at'
  refine ⟨h.ch.trans (Ch.of_grown (D := fun x => x = gp) (grown_set wx gp k u) (fun x hx => by cases hx; rfl)) (fun _ hx => .inl hx), ?_, ⟨u, ?_⟩, ?_⟩
  · rw [World.cell?_of_block (w := wx) (a := ⟨sb, 0, none⟩) (set_other k u hne)]; exact h.c0
  · simp [go_sem, hu]
  · simp [go_sem, h.soft]
/-- A block is written. -/
theorem DM.setRow {w2 wC : World} {base k : Nat} {u : Value} (h : DM T D w2 sb gp cap S) (hB : Ch (fun _ => False) w2 wC) (hk : k < S.bl.length) (ho : wC.ownsRow base 5 1 u b.length (cb b)) (hb : w2.heap.size ≤ base) :
    DM T (fun x => D x ∨ u.ownBlock = some x) (wC.setCell ⟨gp, k, none⟩ u) sb gp cap { S with bl := S.bl.set k b } := by
  have hBw : Below w2.heap.size w2 wC := hB.to_below (Nat.le_refl _) (fun x hx => hx.elim)
  have hC := h.below hBw
  have hnew : ∀ x, u.ownBlock = some x → w2.heap.size ≤ x := fun x hx => Nat.le_trans hb (ho.lt x hx).1
  refine ⟨?_, ?_, h.a1, .inl h.d1, .inl h.d2, ?_⟩
  · rw [set_other k u (fun e => h.a1 e.symm), hC.head]
    simp [hd]
  · exact (hC.row.mono (fun x hx => ⟨.inl hx.1, hx.2⟩)).set hk (own_base ho (Nat.zero_le _)) (fun x hx => ⟨.inr hx, fun e => by have h1 := hnew x hx; have h2 := h.dl sb h.d1; omega⟩)
  · intro x hx
    have : x < wC.heap.size := by
      rcases hx with hx | hx
      · exact hC.dl x hx
      · exact (ho.lt x hx).2
    simpa [go_sem] using this


/-- A slice of bytes stays where a number is written. -/
theorem bv_int {x y : Int} {i : Nat} (h : Bv w bv b) (hc : w.cell? ⟨sb, i, none⟩ = some (.int .i64 x)) : Bv (w.setCell ⟨sb, i, none⟩ (.int .i64 y)) bv b := by
  obtain ⟨⟨ao, cap, rfl, h1, h2, h3, h4⟩, h5⟩ := h
  refine ⟨⟨ao, cap, rfl, h1, h2, h3, fun j hj => ?_⟩, h5⟩
  obtain ⟨b', off, e, c⟩ := h4 j hj
  refine ⟨b', off, e, ?_⟩
  have hne : ¬ ((⟨sb, i, none⟩ : Addr) = ⟨b', off + j, none⟩) := by
    intro e2
    rw [← e2, hc] at c
    simp at c
  simp [go_sem, c, hne]


set_option maxRecDepth 100000 in
set_option maxHeartbeats 2000000 in
theorem write_free (h : DM T D w sb gp cap S) (hok : S.ok) {k : Nat} (hr : refI S k = 0) (hk : k < S.bl.length) (hb : Bv w bv b) (hbl : b.length ≤ 1024) (hl : S.left = -1) (hwr : S.wr < 9223372036854775807) :
    Calls Try.prog 69 #[.pointer (some ⟨sb, 0, none⟩), .int .i64 k, bv] w fun e w' => Wt T D w (.pointer (some ⟨sb, 0, none⟩)) S k b e w' := by
  have HM : Hid (DM T D w sb gp cap S) := h
  have HK : Hid S.ok := hok
  have HR : Hid (refI S k = 0) := hr
  have HBL : Hid (b.length ≤ 1024) := hbl
  have HKL : Hid (k < S.bl.length) := hk
  have HI : Hid (writeI S k b = 0) := by show _ = _; unfold writeI; rw [if_neg (fun e => e hr), if_neg (by omega), if_neg (by omega)]
  have HS : Hid (writeS S k b = putS S k b) := by show _ = _; unfold writeS; rw [if_neg (fun e => e hr), if_neg (by omega), if_neg (by omega)]; simp
  have HD : Hid (decL S.left = -1) := by show _ = _; unfold decL; rw [if_pos hl]
  have HBB : Hid (∀ c ∈ b, c < 256) := hb.2
  obtain ⟨w2, hw2⟩ : ∃ w2, w2 = w := ⟨_, rfl⟩
  have HM2 : Hid (DM T D w2 sb gp cap { S with left := decL S.left }) := by
    show DM _ _ _ _ _ _ _
    rw [hw2, HD.out, ← hl]
    exact h
  have HC2 : Hid (Ch D w w2) := by show Ch _ _ _; rw [hw2]; exact Ch.refl _ _
  obtain ⟨bo, bc, rfl, _, _⟩ := bv_formD hb
  have HB2 : Hid (Bv w2 (.slice bo b.length bc) b) := by
    show Bv _ _ _
    rw [hw2]
    exact hb
  obtain ⟨u0, z0, _⟩ := HM2.out.row.at (i := k) hk
  have f0 := HM2.out.row.soft k
  have x0 := HM2.out.c0
  have hSd : Wq w2 sb gp k (.slice (some ⟨gp, 0, none⟩) S.bl.length cap) w2.drew := Wq.go (wx := w2) ⟨Ch.refl _ _, x0, ⟨u0, z0⟩, f0⟩ (below_drewN _ _)
  have HW2 : Hid (w2 = w) := hw2
  have c2 := h.c2
  have f2 := h.soft 2
  have h64 := hok.n64
  have hbi : (b.length : Int) ≤ 1024 := by omega
  have hbd : decide ((1024 : Int) < (b.length : Int)) = false := decide_eq_false (by omega)
  have hki : (k : Int) < (S.bl.length : Int) := by omega
  have r1 : IntKind.i64.wrap ((S.wr : Int) + 1) = (S.wr : Int) + 1 := wrapU (by omega) (by omega)
  rw [hl] at c2
  have HNE : Hid (sb ≠ gp) := fun e => h.a1 e.symm
  have j0 : ∀ wx, Wq w2 sb gp k (.slice (some ⟨gp, 0, none⟩) S.bl.length cap) wx → wx.cell? ⟨sb, 0, none⟩ = some (.slice (some ⟨gp, 0, none⟩) S.bl.length cap) := fun wx h => h.c0
  clear h hok hr hk hb hbl hl hwr hw2 z0 f0 x0
  go_enter Try.func69, Try.ntmps69
  go_wp2_with fail
  refine (refuses_walk HM.out HK.out k).mono ?_
  rintro e w9 ⟨rfl, h9⟩
  have h9 := h9.symm
  subst h9
  rw [HR.out]
  go_wp2_with fail
  rw [← HW2.out]
  go_region_held3 (fun wx => Wq w2 sb gp k (.slice (some ⟨gp, 0, none⟩) S.bl.length cap) wx) (first | assumption | exact Wq.set (by assumption) HNE.out _)
    (first
      | (go_at_call 84; refine (clone_walk (v := .slice bo b.length bc) (l := b) (HB2.out.below (below_drewN _ _)) (Nat.le_trans HBL.out (by omega))).mono ?_; rintro e wC ⟨u', rfl, hoC, hBC⟩; obtain ⟨qo, qc, hqv, _⟩ := row_form hoC; subst hqv; have hSC : Wq w2 sb gp k (.slice (some ⟨gp, 0, none⟩) S.bl.length cap) wC := Wq.go (by assumption) hBC; obtain ⟨u0, z0⟩ := hSC.at'; have f0 := hSC.soft))
  obtain ⟨w3, hw3⟩ : ∃ w3, w3 = wC.setCell ⟨gp, k, none⟩ (.slice qo b.length qc) := ⟨_, rfl⟩
  have hBw : Below w2.heap.size w2 wC := below_trans (below_drewN w2 1) hBC
  have HM3 : Hid (DM T (fun x => D x ∨ (Value.slice qo b.length qc).ownBlock = some x) w3 sb gp cap { S with bl := S.bl.set k b, left := decL S.left }) := by
    show DM _ _ _ _ _ _ _
    rw [hw3]
    exact HM2.out.setRow (Ch.of_below hBw) HKL.out hoC (Nat.le_refl _)
  have HNW : Hid (∀ x, (Value.slice qo b.length qc).ownBlock = some x → w2.heap.size ≤ x) := fun x hx => (hoC.lt x hx).1
  have HC3 : Hid (Ch D w w3) := by
    show Ch _ _ _
    rw [hw3]
    exact (HC2.out.self (Ch.of_below hBw)).self (ch_put _ _ HM2.out.d2)
  rw [← hw3]
  have c4 := HM3.out.c4
  have f4 := HM3.out.soft 4
  clear hw3 hSC hBC hoC hBw z0 f0
  go_wp2_with fail
  go_ret
  refine ⟨by rw [HI.out]; rfl, ⟨_, ⟨sb, gp, cap, rfl, by rw [HS.out]; exact HM3.out.put 4 _ (S' := putS S k b) rfl rfl, by rw [HS.out]; exact ok_put HK.out k HBL.out HBB.out⟩, fun x hx => ?_⟩, HC3.out.self (ch_put _ _ HM.out.d1)⟩
  rcases hx with hx | hx
  · exact .inl hx
  · exact .inr (Nat.le_trans HC2.out.size (HNW.out x hx))


set_option maxRecDepth 100000 in
set_option maxHeartbeats 2000000 in
theorem write_armed (h : DM T D w sb gp cap S) (hok : S.ok) {k : Nat} (hr : refI S k = 0) (hk : k < S.bl.length) (hb : Bv w bv b) (hbl : b.length ≤ 1024) (hl : 0 < S.left) (hwr : S.wr < 9223372036854775807) :
    Calls Try.prog 69 #[.pointer (some ⟨sb, 0, none⟩), .int .i64 k, bv] w fun e w' => Wt T D w (.pointer (some ⟨sb, 0, none⟩)) S k b e w' := by
  have HM : Hid (DM T D w sb gp cap S) := h
  have HK : Hid S.ok := hok
  have HR : Hid (refI S k = 0) := hr
  have HBL : Hid (b.length ≤ 1024) := hbl
  have HKL : Hid (k < S.bl.length) := hk
  have HI : Hid (writeI S k b = 0) := by show _ = _; unfold writeI; rw [if_neg (fun e => e hr), if_neg (by omega), if_neg (by omega)]
  have HS : Hid (writeS S k b = putS S k b) := by show _ = _; unfold writeS; rw [if_neg (fun e => e hr), if_neg (by omega), if_neg (by omega)]; simp
  have HD : Hid (decL S.left = S.left - 1) := by show _ = _; unfold decL; rw [if_neg (by omega)]
  have HBB : Hid (∀ c ∈ b, c < 256) := hb.2
  obtain ⟨w2, hw2⟩ : ∃ w2, w2 = w.setCell ⟨sb, 2, none⟩ (.int .i64 (S.left - 1)) := ⟨_, rfl⟩
  have HM2 : Hid (DM T D w2 sb gp cap { S with left := decL S.left }) := by
    show DM _ _ _ _ _ _ _
    rw [hw2, HD.out]
    exact h.put 2 _ rfl rfl
  have HC2 : Hid (Ch D w w2) := by show Ch _ _ _; rw [hw2]; exact ch_put _ _ h.d1
  obtain ⟨bo, bc, rfl, _, _⟩ := bv_formD hb
  have HB2 : Hid (Bv w2 (.slice bo b.length bc) b) := by
    show Bv _ _ _
    rw [hw2]
    exact bv_int hb h.c2
  obtain ⟨u0, z0, _⟩ := HM2.out.row.at (i := k) hk
  have f0 := HM2.out.row.soft k
  have x0 := HM2.out.c0
  have hSd : Wq w2 sb gp k (.slice (some ⟨gp, 0, none⟩) S.bl.length cap) w2.drew := Wq.go (wx := w2) ⟨Ch.refl _ _, x0, ⟨u0, z0⟩, f0⟩ (below_drewN _ _)
  have HW2 : Hid (w2 = w.setCell ⟨sb, 2, none⟩ (.int .i64 (S.left - 1))) := hw2
  have c2 := h.c2
  have f2 := h.soft 2
  have h64 := hok.n64
  have hbi : (b.length : Int) ≤ 1024 := by omega
  have hbd : decide ((1024 : Int) < (b.length : Int)) = false := decide_eq_false (by omega)
  have hki : (k : Int) < (S.bl.length : Int) := by omega
  have r1 : IntKind.i64.wrap ((S.wr : Int) + 1) = (S.wr : Int) + 1 := wrapU (by omega) (by omega)
  have HLF : Hid (S.left < 9223372036854775808) := hok.l1
  have r2 : IntKind.i64.wrap (S.left - 1) = S.left - 1 := wrapU (by omega) (by have := HLF.out; omega)
  have l0 : ¬ S.left = 0 := by omega
  have l1 : ¬ S.left = -1 := by omega
  have HNE : Hid (sb ≠ gp) := fun e => h.a1 e.symm
  have j0 : ∀ wx, Wq w2 sb gp k (.slice (some ⟨gp, 0, none⟩) S.bl.length cap) wx → wx.cell? ⟨sb, 0, none⟩ = some (.slice (some ⟨gp, 0, none⟩) S.bl.length cap) := fun wx h => h.c0
  clear h hok hr hk hb hbl hl hwr hw2 z0 f0 x0
  go_enter Try.func69, Try.ntmps69
  go_wp2_with fail
  refine (refuses_walk HM.out HK.out k).mono ?_
  rintro e w9 ⟨rfl, h9⟩
  have h9 := h9.symm
  subst h9
  rw [HR.out]
  go_wp2_with fail
  rw [← HW2.out]
  go_region_held3 (fun wx => Wq w2 sb gp k (.slice (some ⟨gp, 0, none⟩) S.bl.length cap) wx) (first | assumption | exact Wq.set (by assumption) HNE.out _)
    (first
      | (go_at_call 84; refine (clone_walk (v := .slice bo b.length bc) (l := b) (HB2.out.below (below_drewN _ _)) (Nat.le_trans HBL.out (by omega))).mono ?_; rintro e wC ⟨u', rfl, hoC, hBC⟩; obtain ⟨qo, qc, hqv, _⟩ := row_form hoC; subst hqv; have hSC : Wq w2 sb gp k (.slice (some ⟨gp, 0, none⟩) S.bl.length cap) wC := Wq.go (by assumption) hBC; obtain ⟨u0, z0⟩ := hSC.at'; have f0 := hSC.soft))
  obtain ⟨w3, hw3⟩ : ∃ w3, w3 = wC.setCell ⟨gp, k, none⟩ (.slice qo b.length qc) := ⟨_, rfl⟩
  have hBw : Below w2.heap.size w2 wC := below_trans (below_drewN w2 1) hBC
  have HM3 : Hid (DM T (fun x => D x ∨ (Value.slice qo b.length qc).ownBlock = some x) w3 sb gp cap { S with bl := S.bl.set k b, left := decL S.left }) := by
    show DM _ _ _ _ _ _ _
    rw [hw3]
    exact HM2.out.setRow (Ch.of_below hBw) HKL.out hoC (Nat.le_refl _)
  have HNW : Hid (∀ x, (Value.slice qo b.length qc).ownBlock = some x → w2.heap.size ≤ x) := fun x hx => (hoC.lt x hx).1
  have HC3 : Hid (Ch D w w3) := by
    show Ch _ _ _
    rw [hw3]
    exact (HC2.out.self (Ch.of_below hBw)).self (ch_put _ _ HM2.out.d2)
  rw [← hw3]
  have c4 := HM3.out.c4
  have f4 := HM3.out.soft 4
  clear hw3 hSC hBC hoC hBw z0 f0
  go_wp2_with fail
  go_ret
  refine ⟨by rw [HI.out]; rfl, ⟨_, ⟨sb, gp, cap, rfl, by rw [HS.out]; exact HM3.out.put 4 _ (S' := putS S k b) rfl rfl, by rw [HS.out]; exact ok_put HK.out k HBL.out HBB.out⟩, fun x hx => ?_⟩, HC3.out.self (ch_put _ _ HM.out.d1)⟩
  rcases hx with hx | hx
  · exact .inl hx
  · exact .inr (Nat.le_trans HC2.out.size (HNW.out x hx))


theorem write_nil (i : Int) (bv : Value) : Calls Try.prog 69 #[.pointer none, .int .i64 i, bv] w fun e w' => e = .returned (.int .i64 2) ∧ w' = w := by
  go_enter Try.func69, Try.ntmps69
  go_wp2_with fail
  refine (refuses_nil i).mono ?_
  rintro e w9 ⟨rfl, h9⟩
  have h9 := h9.symm
  subst h9
  go_wp2_with fail
  go_ret
  exact ⟨rfl, rfl⟩


set_option maxRecDepth 100000 in
theorem write_walk (h : Dsk T D w v S) (i : Int) (hb : Bv w bv b) (hwr : S.wr < 9223372036854775807) : Calls Try.prog 69 #[v, .int .i64 i, bv] w fun e w' => Wt T D w v S i b e w' := by
  have HW : Hid (Dsk T D w v S) := h
  obtain ⟨sb, gp, cap, rfl, h, hok⟩ := h
  have HM : Hid (DM T D w sb gp cap S) := h
  have HK : Hid S.ok := hok
  by_cases hr : refI S i = 0
  · obtain ⟨hdn, k, rfl, hk⟩ := ref_ok hr
    by_cases hbl : b.length ≤ 1024
    · by_cases hl0 : S.left = 0
      · have HR : Hid (refI S k = 0) := hr
        have HI : Hid (writeI S k b = 80) := by show _ = _; unfold writeI; rw [if_neg (fun e => e hr), if_neg (by omega), if_pos hl0]
        have HS : Hid (writeS S k b = offS S) := by show _ = _; unfold writeS; rw [if_neg (fun e => e hr), if_neg (by omega), if_pos hl0]
        obtain ⟨bo, bc, rfl, _, _⟩ := bv_formD hb
        have c2 := h.c2
        rw [hl0] at c2
        have hbi : (b.length : Int) ≤ 1024 := by omega
        have hbd : decide ((1024 : Int) < (b.length : Int)) = false := decide_eq_false (by omega)
        clear h hok hr hk hb hbl hl0 hwr hdn
        go_enter Try.func69, Try.ntmps69
        go_wp2_with fail
        refine (refuses_walk HM.out HK.out k).mono ?_
        rintro e w9 ⟨rfl, h9⟩
        have h9 := h9.symm
        subst h9
        rw [HR.out]
        go_wp2_with fail
        refine (off_walk HW.out).mono ?_
        rintro e w2 ⟨rfl, hD, hC⟩
        go_wp2_with fail
        go_ret
        exact ⟨by rw [HI.out]; rfl, ⟨D, by rw [HS.out]; exact hD, fun x hx => .inl hx⟩, hC⟩
      · have hl0' := hok.l0
        by_cases hl1 : S.left = -1
        · exact write_free h hok hr hk hb hbl hl1 hwr
        · exact write_armed h hok hr hk hb hbl (by omega) hwr
    · have HR : Hid (refI S k = 0) := hr
      have HA : Hid (Wt T D w (.pointer (some ⟨sb, 0, none⟩)) S k b (.returned (.int .i64 6)) w) := wt_same HW.out (by unfold writeI; rw [if_neg (fun e => e hr), if_pos (by omega)]) (by unfold writeS; rw [if_neg (fun e => e hr), if_pos (by omega)])
      obtain ⟨bo, bc, rfl, _, _⟩ := bv_formD hb
      have hbi : (1024 : Int) < (b.length : Int) := by omega
      clear h hok hr hk hb hbl hwr hdn
      go_enter Try.func69, Try.ntmps69
      go_wp2_with fail
      refine (refuses_walk HM.out HK.out k).mono ?_
      rintro e w9 ⟨rfl, h9⟩
      have h9 := h9.symm
      subst h9
      rw [HR.out]
      go_wp2_with fail
      go_ret
      exact HA.out
  · have HA : Hid (Wt T D w (.pointer (some ⟨sb, 0, none⟩)) S i b (.returned (.int .i64 (refI S i))) w) := wt_same HW.out (by unfold writeI; rw [if_pos hr]) (by unfold writeS; rw [if_pos hr])
    obtain ⟨q, hq⟩ : ∃ q, q = refI S i := ⟨_, rfl⟩
    rw [← hq] at HA hr
    have HQ : Hid (q = refI S i) := hq
    clear hq h hok hb hwr
    go_enter Try.func69, Try.ntmps69
    go_wp2_with fail
    refine (refuses_walk HM.out HK.out i).mono ?_
    rintro e w9 ⟨rfl, h9⟩
    have h9 := h9.symm
    subst h9
    rw [← HQ.out]
    go_wp2_with fail
    go_ret
    exact HA.out


end

end Go.Proofs.Ytpndafieknddcaa

namespace Go.Proofs.Ytpndafieknddcaa

open Go.RowKit



def loadS (ls : List (List Nat)) : Dk := ⟨ls, false, -1, 0, 0⟩
theorem ok_load {ls : List (List Nat)} (h1 : 1 ≤ ls.length) (h64 : ls.length ≤ 64) (hl : ∀ b ∈ ls, b.length ≤ 1024) (hb : ∀ b ∈ ls, ∀ c ∈ b, c < 256) : (loadS ls).ok := ⟨h1, h64, hl, hb, Int.le_refl _, by show (-1 : Int) < _; omega⟩
theorem ok_new {n : Nat} (h1 : 1 ≤ n) (h64 : n ≤ 64) : (loadS (List.replicate n [])).ok :=
  ok_load (by simpa using h1) (by simpa using h64) (fun b hb => by rw [(List.mem_replicate.1 hb).2]; simp) (fun b hb c hc => by rw [(List.mem_replicate.1 hb).2] at hc; simp at hc)


theorem Gr.fit {E : Nat → Prop} {w : World} {g cap : Nat} {ls : List (List Nat)} (h : Gr E w g cap ls) : Gr (fun x => E x ∧ x < w.heap.size) w g cap ls := by
  obtain ⟨⟨cur, h1, h2, h3⟩, h4⟩ := h
  refine ⟨⟨cur, h1, h2, fun i hi => ?_⟩, h4⟩
  obtain ⟨u, a, b, c⟩ := h3 i hi
  exact ⟨u, a, b, fun x hx => ⟨c x hx, (b.lt x hx).2⟩⟩


/-- What New and Load answer. -/
def Nw (T : TypeId) (w : World) (ls : List (List Nat)) (e : Ending) (w' : World) : Prop :=
  ∃ (v : Value) (D : Nat → Prop), e = .returned (.tuple #[v, .int .i64 0]) ∧ Dsk T D w' v (loadS ls) ∧ Below w.heap.size w w' ∧ ∀ x, D x → w.heap.size ≤ x
theorem nw_end {T : TypeId} {w wz : World} {ls : List (List Nat)} {g cap : Nat} (hok : (loadS ls).ok) (hG : Gr (fun x => w.heap.size ≤ x) wz g cap ls) (hg : w.heap.size ≤ g) (hB : Below w.heap.size w wz) :
    Nw T w ls (.returned (.tuple #[.pointer (some ⟨wz.heap.size, 0, none⟩), .int .i64 0])) (wz.alloc (.cells #[.slice (some ⟨g, 0, none⟩) ls.length cap, .bool false, .int .i64 (-1), .int .i64 0, .int .i64 0] T)) := by
  refine ⟨_, fun x => w.heap.size ≤ x ∧ x < wz.heap.size + 1, rfl, ⟨_, g, cap, rfl, ⟨heap_alloc_new wz _, ?_, ?_, ⟨hB.size, by omega⟩, ⟨hg, ?_⟩, fun x hx => by simpa [go_sem] using hx.2⟩, hok⟩, below_trans hB (below_alloc _ _), fun x hx => hx.1⟩
  · exact (hG.fit.below (below_alloc _ _)).mono (fun x hx => ⟨⟨hx.1, by omega⟩, by omega⟩)
  · have := hG.lt; omega
  · have := hG.lt; omega


theorem new_bad {n : Int} {w : World} (hp : n < 1 ∨ 64 < n) : Calls Try.prog 36 #[.int .i64 n] w fun e w' => e = .returned (.tuple #[.pointer none, .int .i64 1]) ∧ w' = w := by
  by_cases h1 : n < 1
  · clear hp
    go_enter Try.func36, Try.ntmps36
    go_wp2_with fail
    go_ret2
    exact ⟨rfl, rfl⟩
  · have h4 : 64 < n := by omega
    clear hp
    go_enter Try.func36, Try.ntmps36
    go_wp2_with fail
    go_ret2
    exact ⟨rfl, rfl⟩


theorem new_walk {n : Nat} {w : World} (h1 : 1 ≤ n) (h64 : n ≤ 64) : Calls Try.prog 36 #[.int .i64 n] w fun e w' => Nw 117 w (List.replicate n []) e w' := by
  have hmk := make_rows h64
  obtain ⟨Z, hZ⟩ : ∃ Z, Z = madeCells #[.slice none 0 0] (n * 1) := ⟨_, rfl⟩
  rw [← hZ] at hmk
  have HG : Hid (Gr (fun x => w.heap.size ≤ x) (w.alloc (.cells Z 121)) w.heap.size n (List.replicate n [])) := made_gr _ w h64 hZ
  have HK : Hid ((loadS (List.replicate n [])).ok) := ok_new h1 h64
  have hi1 : (1 : Int) ≤ n := by omega
  have hi2 : (n : Int) ≤ 64 := by omega
  clear hZ h1 h64
  go_enter Try.func36, Try.ntmps36
  go_wp2_with fail
  go_ret2
  have := nw_end (T := 117) HK.out HG.out (Nat.le_refl _) (below_alloc w _)
  rw [List.length_replicate] at this
  simpa [go_sem] using this


/-- The first block that is too long, or none. -/
def longB (ls : List (List Nat)) : Bool := ls.any fun b => decide (1024 < b.length)
theorem long_no {ls : List (List Nat)} (h : longB ls = false) : ∀ b ∈ ls, b.length ≤ 1024 := by
  intro b hb
  have := List.any_eq_false.1 h b hb
  simpa using this
theorem long_yes {ls : List (List Nat)} {b : List Nat} (hb : b ∈ ls) (h : 1024 < b.length) : longB ls = true := List.any_eq_true.2 ⟨b, hb, by simpa using h⟩


def LdRel (ls : List (List Nat)) (w : World) (iv : Value) (wr : World) : Prop := ∃ k : Nat, k ≤ ls.length ∧ iv = .int .i64 k ∧ (∀ i, i < k → (bk ls i).length ≤ 1024) ∧ wr = w




/-- What Load answers. -/
def Ld (T : TypeId) (w : World) (ls : List (List Nat)) (e : Ending) (w' : World) : Prop := if longB ls = true then e = .returned (.tuple #[.pointer none, .int .i64 6]) ∧ w' = w else Nw T w ls e w'


end Go.Proofs.Ytpndafieknddcaa

namespace Go.Proofs.Ytpndafieknddcaa

open Go.RowKit



theorem str_lit {w : World} {v : Value} {l : List Nat} {s : ByteArray} (h : Bv w v l) (hs : str l = s) : (convert 121 9 v).run Try.prog w = .ok (.string s) w := by
  rw [str_of h, hs]
theorem conv_lit (w : World) (C : Array Value) (n c : Nat) : (convert 121 121 (.slice (some ⟨w.heap.size, 0, none⟩) n c)).run Try.prog (w.alloc (.cells C 5)) = .ok (.slice (some ⟨w.heap.size, 0, none⟩) n c) (w.alloc (.cells C 5 (C.size, C.size + 1))) :=
  Lib.run_convert_bytes_const (P := Try.prog) w 121 5 C n c Try.underlying121 Try.underlying5
theorem conv_lit2 (w : World) (o : Obj) (C : Array Value) (n c : Nat) : (convert 121 121 (.slice (some ⟨w.heap.size + 1, 0, none⟩) n c)).run Try.prog ((w.alloc o).alloc (.cells C 5)) = .ok (.slice (some ⟨w.heap.size + 1, 0, none⟩) n c) ((w.alloc o).alloc (.cells C 5 (C.size, C.size + 1))) := by
  have := conv_lit (w.alloc o) C n c
  simpa using this
theorem lit_bv (w : World) (l : List Nat) (e : TypeId) (m : Nat × Nat) (hl : l.length ≤ maxLen) (h : ∀ c ∈ l, c < 256) : Bv (w.alloc (.cells (cb l).toArray e m)) (.slice (some ⟨w.heap.size, 0, none⟩) l.length l.length) l := by
  refine ⟨⟨_, l.length, by rw [ib_len], by rw [ib_len]; exact Nat.le_refl _, hl, by simp, fun i hi => ⟨w.heap.size, 0, rfl, ?_⟩⟩, h⟩
  rw [Nat.zero_add, cell_of_row _ w.heap.size i _ _ m (heap_alloc_new w _)]
  rw [ib_len] at hi
  simp [ib, List.getD, hi]
theorem lit_ab (w : World) : Bv (w.alloc (.cells #[.int .u8 97, .int .u8 98] 5 (2, 3))) (.slice (some ⟨w.heap.size, 0, none⟩) 2 2) [97, 98] := lit_bv w [97, 98] _ _ (by simp [maxLen]) (by simp)
theorem lit_1 (w : World) (c : Nat) (hc : c < 256) : Bv (w.alloc (.cells #[.int .u8 c] 5 (1, 2))) (.slice (some ⟨w.heap.size, 0, none⟩) 1 1) [c] := lit_bv w [c] _ _ (by simp [maxLen]) (by simpa using hc)


/-- The image that is asked for. -/
theorem lit_image (w : World) : PvD (((w.alloc (.cells #[.int .u8 99] 5 (1, 2))).alloc (.cells #[.int .u8 97, .int .u8 98] 5 (2, 3))).alloc (.cells #[.slice (some ⟨w.heap.size, 0, none⟩) 1 1, .slice (some ⟨w.heap.size + 1, 0, none⟩) 2 2, .slice none 0 0] 121))
    (.slice (some ⟨w.heap.size + 2, 0, none⟩) 3 3) [[99], [97, 98], []] := by
  have h1 := (lit_1 w 99 (by omega)).below (below_trans (below_alloc _ (.cells #[.int .u8 97, .int .u8 98] 5 (2, 3))) (below_alloc _ (.cells #[.slice (some ⟨w.heap.size, 0, none⟩) 1 1, .slice (some ⟨w.heap.size + 1, 0, none⟩) 2 2, .slice none 0 0] 121)))
  have h2 := (lit_ab (w.alloc (.cells #[.int .u8 99] 5 (1, 2)))).below (below_alloc _ (.cells #[.slice (some ⟨w.heap.size, 0, none⟩) 1 1, .slice (some ⟨w.heap.size + 1, 0, none⟩) 2 2, .slice none 0 0] 121))
  refine ⟨_, 3, rfl, Nat.le_refl _, by simp [maxLen], by simp, fun i hi => ?_⟩
  simp at hi
  have : i = 0 ∨ i = 1 ∨ i = 2 := by omega
  rcases this with rfl | rfl | rfl
  · exact ⟨_, _, _, rfl, by simp [go_sem], h1⟩
  · exact ⟨w.heap.size + 2, 0, .slice (some ⟨w.heap.size + 1, 0, none⟩) 2 2, rfl, by simp [go_sem], by simpa [bk] using h2⟩
  · exact ⟨_, _, _, rfl, by simp [go_sem], Bv.nil _⟩


theorem aw1 : writeI (loadS (List.replicate 3 [])) 1 [97, 98] = 0 ∧ writeS (loadS (List.replicate 3 [])) 1 [97, 98] = ⟨[[], [97, 98], []], false, -1, 0, 1⟩ := ⟨rfl, rfl⟩
theorem aw2 : refI ⟨[[], [97, 98], []], false, -1, 0, 1⟩ 1 = 0 ∧ readL ⟨[[], [97, 98], []], false, -1, 0, 1⟩ 1 = [97, 98] ∧ readS ⟨[[], [97, 98], []], false, -1, 0, 1⟩ 1 = ⟨[[], [97, 98], []], false, -1, 1, 1⟩ := ⟨rfl, rfl, rfl⟩
theorem aw3 : cutS ⟨[[], [97, 98], []], false, -1, 1, 1⟩ 1 = ⟨[[], [97, 98], []], false, 1, 1, 1⟩ := rfl
theorem aw4 : writeI ⟨[[], [97, 98], []], false, 1, 1, 1⟩ 0 [99] = 0 ∧ writeS ⟨[[], [97, 98], []], false, 1, 1, 1⟩ 0 [99] = ⟨[[99], [97, 98], []], false, 0, 1, 2⟩ := ⟨rfl, rfl⟩
theorem aw5 : writeI ⟨[[99], [97, 98], []], false, 0, 1, 2⟩ 0 [100] = 80 ∧ writeS ⟨[[99], [97, 98], []], false, 0, 1, 2⟩ 0 [100] = ⟨[[99], [97, 98], []], true, -1, 1, 2⟩ := ⟨rfl, rfl⟩


end Go.Proofs.Ytpndafieknddcaa

namespace Go.Proofs.Ytpndafieknddcaa

open Go.RowKit



/-- The value v is a slice of writes ps. -/
def Tv (w : World) (v : Value) (ps : List (Int × List Nat)) : Prop :=
  (∃ ao cap, v = .slice ao ps.length cap ∧ ps.length ≤ cap ∧ cap ≤ maxLen ∧ (ao = none → cap = 0) ∧
    ∀ i (h : i < ps.length), ∃ b off u, ao = some ⟨b, off, none⟩ ∧ w.cell? ⟨b, off + i * 2, none⟩ = some (.int .i64 ps[i].1) ∧ w.cell? ⟨b, off + i * 2 + 1, none⟩ = some u ∧ Bv w u ps[i].2) ∧
  ∀ p ∈ ps, -9223372036854775808 ≤ p.1 ∧ p.1 < 9223372036854775808
/-- The value v is a slice of flags bs. -/
def Fv (w : World) (v : Value) (bs : List Bool) : Prop :=
  ∃ ao cap, v = .slice ao bs.length cap ∧ bs.length ≤ cap ∧ cap ≤ maxLen ∧ (ao = none → cap = 0) ∧ ∀ i (h : i < bs.length), ∃ b off, ao = some ⟨b, off, none⟩ ∧ w.cell? ⟨b, off + i, none⟩ = some (.bool bs[i])
theorem Tv.below {w w' : World} {v : Value} {ps : List (Int × List Nat)} (h : Tv w v ps) (hb : Below w.heap.size w w') : Tv w' v ps := by
  obtain ⟨⟨ao, cap, e, h1, h2, h3, h4⟩, h5⟩ := h
  refine ⟨⟨ao, cap, e, h1, h2, h3, fun i hi => ?_⟩, h5⟩
  obtain ⟨b, off, u, e1, c0, c1, hv⟩ := h4 i hi
  exact ⟨b, off, u, e1, by rw [hb.cell (p := ⟨b, off + i * 2, none⟩) (cell_lt c0)]; exact c0, by rw [hb.cell (p := ⟨b, off + i * 2 + 1, none⟩) (cell_lt c1)]; exact c1, hv.below hb⟩
theorem Fv.below {w w' : World} {v : Value} {bs : List Bool} (h : Fv w v bs) (hb : Below w.heap.size w w') : Fv w' v bs := by
  obtain ⟨ao, cap, e, h1, h2, h3, h4⟩ := h
  refine ⟨ao, cap, e, h1, h2, h3, fun i hi => ?_⟩
  obtain ⟨b, off, e1, c0⟩ := h4 i hi
  exact ⟨b, off, e1, by rw [hb.cell (p := ⟨b, off + i, none⟩) (cell_lt c0)]; exact c0⟩
theorem Tv.form {w : World} {v : Value} {ps : List (Int × List Nat)} (h : Tv w v ps) : ∃ ao cap, v = .slice ao ps.length cap ∧ ps.length ≤ cap ∧ cap ≤ maxLen := by
  obtain ⟨⟨ao, cap, e, h1, h2, _⟩, _⟩ := h
  exact ⟨ao, cap, e, h1, h2⟩
theorem Fv.form {w : World} {v : Value} {bs : List Bool} (h : Fv w v bs) : ∃ ao cap, v = .slice ao bs.length cap ∧ bs.length ≤ cap ∧ cap ≤ maxLen := by
  obtain ⟨ao, cap, e, h1, h2, _⟩ := h
  exact ⟨ao, cap, e, h1, h2⟩


/-- uint(x) % n. -/
def modN (x : Int) (n : Nat) : Nat := ((IntKind.u64.wrap x).tmod n).toNat
theorem mod_lt (x : Int) {n : Nat} (h0 : 0 < n) : modN x n < n := by
  have hw : 0 ≤ IntKind.u64.wrap x := by rw [IntKind.wrap_u64]; omega
  unfold modN
  have h1 := Int.tmod_lt_of_pos (IntKind.u64.wrap x) (show (0 : Int) < n by omega)
  have h2 := Int.tmod_nonneg (n : Int) hw
  omega
theorem mod_eq (x : Int) {n : Nat} : (IntKind.u64.wrap x).tmod (n : Int) = (modN x n : Int) := by
  have hw : 0 ≤ IntKind.u64.wrap x := by rw [IntKind.wrap_u64]; omega
  unfold modN
  have h2 := Int.tmod_nonneg (n : Int) hw
  omega


section

variable {T : TypeId} {D D' : Nat → Prop} {w w' : World} {v : Value} {g i : Nat} {u : Value} {S : Dk} {ls : List (List Nat)} {b : List Nat}

/-- A row beside the disk is written into. -/
theorem Dsk.beside (h : Dsk T D w v S) (hg : ¬ D g) : Dsk T D (w.setCell ⟨g, i, none⟩ u) v S :=
  h.ch (E := fun x => x = g) (Ch.of_grown (grown_set w g i u) (fun x hx => by cases hx; rfl)) (fun x hx e => hg (e ▸ hx))
theorem put_bk {k : Nat} (hk : k < S.bl.length) : bk (putS S k b).bl k = b := by
  show bk (S.bl.set k b) k = b
  rw [bk_set hk, if_pos rfl]
theorem ref_in {k : Nat} (hd : S.down = false) (hk : k < S.bl.length) : refI S k = 0 := by unfold refI; rw [hd, if_neg (by simp), if_neg (by omega)]
theorem write_in {k : Nat} (hd : S.down = false) (hk : k < S.bl.length) (hl : S.left ≠ 0) (hb : b.length ≤ 1024) : writeI S k b = 0 ∧ writeS S k b = putS S k b := by
  have hr := ref_in hd hk
  exact ⟨by unfold writeI; rw [if_neg (fun e => e hr), if_neg (by omega), if_neg hl], by unfold writeS; rw [if_neg (fun e => e hr), if_neg (by omega), if_neg hl]; simp⟩
theorem read_in {k : Nat} (hd : S.down = false) (hk : k < S.bl.length) : refI S k = 0 ∧ readL S k = bk S.bl k ∧ readS S k = { S with rd := S.rd + 1 } := by
  have hr := ref_in hd hk
  exact ⟨hr, by unfold readL; rw [if_pos hr]; simp, by unfold readS; rw [if_pos hr]⟩
theorem write_off {i : Int} (hd : S.down = true) : writeI S i b = 80 ∧ writeS S i b = S := by
  have hr : refI S i = 80 := by unfold refI; rw [if_pos hd]
  exact ⟨by unfold writeI; rw [if_pos (by omega), hr], by unfold writeS; rw [if_pos (by omega)]⟩
theorem on_off (hd : S.down = false) (hl : S.left = -1) : onS (offS S) = S := by
  obtain ⟨bl, down, left, rd, wr⟩ := S
  simp only at hd hl
  subst hd; subst hl; rfl
end

end Go.Proofs.Ytpndafieknddcaa

namespace Go.Proofs.Ytpndafieknddcaa

open Ieee Go.RowKit



def nth (l : List Int) (i : Nat) : Int := l.getD i 0
theorem nth_at {l : List Int} {i : Nat} (h : i < l.length) : nth l i = l[i] := by unfold nth; rw [List.getD_eq_getElem?_getD, List.getElem?_eq_getElem h]; rfl
theorem nth_mem {l : List Int} {i : Nat} (h : i < l.length) : nth l i ∈ l := by rw [nth_at h]; exact List.getElem_mem h
theorem nth_ext {a b : List Int} (h : a.length = b.length) (hn : ∀ i, i < a.length → nth a i = nth b i) : a = b := by
  refine List.ext_getElem h fun i h1 h2 => ?_
  have := hn i h1
  rwa [nth_at h1, nth_at h2] at this
def In64 (l : List Int) : Prop := ∀ x ∈ l, -9223372036854775808 ≤ x ∧ x < 9223372036854775808
theorem In64.at {l : List Int} (h : In64 l) {i : Nat} (hi : i < l.length) : -9223372036854775808 ≤ nth l i ∧ nth l i < 9223372036854775808 := h _ (nth_mem hi)


/-- The cells behind ao hold the numbers l. -/
def Nl (w : World) (ao : Option Addr) (l : List Int) : Prop := ∀ i, i < l.length → ∃ b off, ao = some ⟨b, off, none⟩ ∧ w.cell? ⟨b, off + i, none⟩ = some (.int .i64 (nth l i))
/-- The value v is a slice of ints that holds l. -/
def Nv (w : World) (v : Value) (l : List Int) : Prop := (∃ ao cap, v = .slice ao l.length cap ∧ l.length ≤ cap ∧ cap ≤ maxLen ∧ (ao = none → cap = 0) ∧ Nl w ao l) ∧ In64 l


theorem Nl.below {w w' : World} {ao : Option Addr} {l : List Int} (h : Nl w ao l) (hb : Below w.heap.size w w') : Nl w' ao l := by
  intro i hi
  obtain ⟨b, off, e, c⟩ := h i hi
  exact ⟨b, off, e, by rw [hb.cell (p := ⟨b, off + i, none⟩) (cell_lt c)]; exact c⟩
theorem Nv.below {w w' : World} {v : Value} {l : List Int} (h : Nv w v l) (hb : Below w.heap.size w w') : Nv w' v l := by
  obtain ⟨⟨ao, cap, e, h1, h2, h3, h4⟩, h5⟩ := h
  exact ⟨⟨ao, cap, e, h1, h2, h3, h4.below hb⟩, h5⟩
/-- What lies below B stays. -/
theorem Nl.keep {w w' : World} {ao : Option Addr} {l : List Int} (h : Nl w ao l) (hk : ∀ a, ao = some a → w'.heap[a.block]? = w.heap[a.block]?) : Nl w' ao l := by
  intro i hi
  obtain ⟨b, off, e, c⟩ := h i hi
  have hb : w'.heap[b]? = w.heap[b]? := hk _ e
  exact ⟨b, off, e, by rw [World.cell?_of_block (w := w) (a := ⟨b, off + i, none⟩) hb]; exact c⟩
theorem Nv.nil (w : World) : Nv w (.slice none 0 0) [] := ⟨⟨none, 0, rfl, Nat.le_refl _, by simp [maxLen], fun _ => rfl, fun i hi => by simp at hi⟩, fun x hx => by simp at hx⟩
theorem Nv.len_le {w : World} {v : Value} {l : List Int} (h : Nv w v l) : l.length ≤ maxLen := by
  obtain ⟨⟨ao, cap, e, h1, h2, h3, h4⟩, h5⟩ := h; omega


abbrev cellsN (l : List Int) : List Value := l.map (Value.int .i64)
theorem own_nl {w : World} {base e n : Nat} {v : Value} {l : List Int} (h : w.ownsRow base e 1 v n (cellsN l)) : n = l.length ∧ ∃ ao cap, v = .slice ao l.length cap ∧ l.length ≤ cap ∧ cap ≤ maxLen ∧ (ao = none → cap = 0) ∧ Nl w ao l := by
  obtain ⟨h1, h2⟩ := h
  have hn : l.length = n := by simpa using h1
  subst hn
  refine ⟨rfl, ?_⟩
  rcases h2 with ⟨rfl, h0⟩ | ⟨g, cap, cur, rfl, hb, hg, hnc, hcm, hcs, htake⟩
  · have : l = [] := List.eq_nil_of_length_eq_zero h0
    subst this
    exact ⟨none, 0, rfl, Nat.le_refl _, by simp [maxLen], fun _ => rfl, fun i hi => by simp at hi⟩
  · refine ⟨_, cap, rfl, hnc, hcm, by simp, fun i hi => ⟨g, 0, rfl, ?_⟩⟩
    rw [Nat.zero_add, cell_of_row w g i cur e (0, 0) hg]
    have hh : (cur.toList.take (l.length * 1))[i]? = (l.map (Value.int .i64))[i]? := by rw [htake]
    rw [List.getElem?_take, if_pos (by omega)] at hh
    rw [← Array.getElem?_toList, hh, nth_at hi]
    simp [List.getElem?_eq_getElem hi]
theorem own_nv {w : World} {base e n : Nat} {v : Value} {l : List Int} (h : w.ownsRow base e 1 v n (cellsN l)) (hl : In64 l) : Nv w v l := ⟨(own_nl h).2, hl⟩


theorem info_int : (Try.prog.info? 3).map (fun i => (i.zero, i.size, i.bytes)) = some (some (.int .i64 0), 1, 8) := by kernel_rfl


theorem wpList_append_nv {P : Program} {w : World} {ops : Array Oper} {rest : List Oper} {o : Oper} {a : Act} {Q : Exit → Act → World → Prop} (hgd : o.guard = none) (s x : Operand) (t : TypeId)
    (ho : o.op = .call { callee := .builtin .append, args := #[s, x], argTypes := #[t, t] })
    (base : Nat) (e : TypeId) (ht : P.underlying t = some (.slice e)) (hinf : (P.info? e).map (fun i => (i.zero, i.size, i.bytes)) = some (some (.int .i64 0), 1, 8))
    (v : Value) (n : Nat) (m : List Int) (hs : a.eval s = v) (hown : w.ownsRow base e 1 v n (cellsN m))
    (y : Value) (l : List Int) (hx : a.eval x = y) (hy : Nv w y l) (h63 : n + l.length ≤ maxLen) (hb : (n + l.length) * 8 ≤ 140737488355328) (hbase : base ≤ w.heap.size)
    (h : ∀ v' w', w'.ownsRow base e 1 v' (n + l.length) (cellsN (m ++ l)) → w.grownBy w' v.ownBlock → wpList P ops Q rest (a.put o.dst v') w') : wpList P ops Q (o :: rest) a w := by
  obtain ⟨i0, hi, hz0, hz1, hz2⟩ := info_partsV hinf
  obtain ⟨⟨ao, c, rfl, hc1, hc2, hnone, hcells⟩, _⟩ := hy
  cases ao with
  | none =>
    obtain rfl := hnone rfl
    have hl0 : l.length = 0 := by omega
    have hl : l = [] := List.eq_nil_of_length_eq_zero hl0
    subst hl
    refine wpList_append_own_none hgd s x t ho base e i0 1 ht hi _ n (cellsN m) hs hown hx ?_
    exact h v w (by simpa using hown) ⟨rfl, rfl, rfl, Nat.le_refl _, fun _ _ _ => rfl⟩
  | some p =>
    refine wpList_append_own w hgd s x t ho base e i0 (.int .i64 0) 1 8 ht hi hz0 hz1 hz2 rfl (by decide) v n (cellsN m) hs hown p l.length c (cellsN l) hx (by simp) ?_ ?_ h63 hb hbase (fun v' w' h1 h2 _ => h v' w' (by rw [cellsN, List.map_append]; exact h1) h2)
    · intro j u hj
      have hjl : j < l.length := by
        rcases Nat.lt_or_ge j l.length with h | h
        · exact h
        · simp [List.getElem?_eq_none (show (l.map (Value.int .i64)).length ≤ j by simpa using h)] at hj
      obtain ⟨b, off, e1, e2⟩ := hcells j hjl
      cases e1
      rw [WideShapes.add_plain, e2, nth_at hjl]
      simp [List.getElem?_eq_getElem hjl] at hj
      rw [← hj]
    · intro u hu
      obtain ⟨z, _, rfl⟩ := List.mem_map.1 hu
      rfl


set_option maxRecDepth 100000 in
theorem cloneN_walk {v : Value} {l : List Int} {w : World} (ho : Nv w v l) (hl : l.length * 8 ≤ 140737488355328) :
    Calls Try.prog 31 #[v] w fun e w' => ∃ v', e = .returned v' ∧ w'.ownsRow w.heap.size 3 1 v' l.length (cellsN l) ∧ Below w.heap.size w w' := by
  have HO : Hid (Nv w v l) := ho
  obtain ⟨⟨ao, cap, rfl, h1, h2, h3, _⟩, _⟩ := ho
  have HL : Hid (l.length * 8 ≤ 140737488355328) := hl
  have HM : Hid (l.length ≤ maxLen) := by show _ ≤ _; omega
  have H3 : Hid (ao = none → cap = 0) := h3
  have H1 : Hid (l.length ≤ cap) := h1
  have q : ∀ (w : World) (a : Option Addr) (n c : Nat), (binOp .eql 25 (.slice a n c) (.slice none 0 0)).run Try.prog w = .ok (.bool a.isNone) w := fun w a n c => Lib.run_eql_slice_nil w 25 3 a n c 0 0 Try.underlying25
  clear hl h1 h2 h3
  cases ao with
  | none =>
    have hc := H3.out rfl
    subst hc
    have hl0 : l.length = 0 := by have := H1.out; omega
    have hl : l = [] := List.eq_nil_of_length_eq_zero hl0
    subst hl
    rw [List.length_nil]
    go_enter Try.func31, Try.ntmps31
    go_wp2_with fail
    go_ret
    exact ⟨_, rfl, World.ownsRow_nil _ _ _ _, below_same _⟩
  | some p =>
    go_enter Try.func31, Try.ntmps31
    go_wp2_with (at_builtin; refine wpList_append_nv (by rfl) _ _ 25 (by rfl) w.heap.size 3 Try.underlying25 info_int _ 0 [] (by rfl) (World.ownsRow_made w #[] 0 (Nat.le_refl _) (by simp [maxLen]) (by simp)) _ l (by rfl) (HO.out.below (below_alloc _ _)) (by have := HM.out; omega) (by have := HL.out; omega) (by simp) ?_; intro v' w2 hown hgrow; go_frame)
    go_ret
    refine ⟨_, rfl, by simpa using hown, ?_⟩
    exact (below_alloc w (Obj.cells #[] 3)).grown hgrow (by simp) (by simp [Value.ownBlock])


/-- The block g holds the ints l in a row of cap cells that is the call's own. -/
def Zw (w : World) (g cap : Nat) (l : List Int) : Prop := (∃ cur, w.heap[g]? = some (.cells cur 3 (0, 0)) ∧ cur.size = cap ∧ ∀ i, i < l.length → cur[i]? = some (.int .i64 (nth l i))) ∧ l.length ≤ cap ∧ cap ≤ maxLen


section

variable {w w' : World} {g cap : Nat} {l : List Int}

theorem Zw.cell (h : Zw w g cap l) {i : Nat} (hi : i < l.length) : w.cell? ⟨g, i, none⟩ = some (.int .i64 (nth l i)) := by
  obtain ⟨⟨cur, h1, h2, h3⟩, _⟩ := h
  rw [cell_of_row w g i cur _ (0, 0) h1]; exact h3 i hi
theorem Zw.soft (h : Zw w g cap l) (i : Nat) : w.frozen? ⟨g, i, none⟩ = false := by
  obtain ⟨⟨cur, h1, h2, h3⟩, _⟩ := h
  simp [World.frozen?, h1]
theorem Zw.lt (h : Zw w g cap l) : g < w.heap.size := by
  obtain ⟨⟨cur, h1, h2, h3⟩, _⟩ := h
  exact (Array.getElem?_eq_some_iff.1 h1).1
theorem Zw.keep (h : Zw w g cap l) (hk : w'.heap[g]? = w.heap[g]?) : Zw w' g cap l := by
  obtain ⟨⟨cur, h1, h2, h3⟩, h4⟩ := h
  exact ⟨⟨cur, by rw [hk]; exact h1, h2, h3⟩, h4⟩
theorem Zw.below (h : Zw w g cap l) (hb : Below w.heap.size w w') : Zw w' g cap l := h.keep (hb.block g h.lt)
theorem Zw.set (h : Zw w g cap l) {j : Nat} (hj : j < l.length) (x : Int) : Zw (w.setCell ⟨g, j, none⟩ (.int .i64 x)) g cap (l.set j x) := by
  obtain ⟨⟨cur, h1, h2, h3⟩, h4, h5⟩ := h
  refine ⟨⟨cur.setIfInBounds j (.int .i64 x), ?_, by simpa using h2, fun i hi => ?_⟩, by simpa using h4, h5⟩
  · rw [Sort.setCell_eq]
    simp [Sort.mapBlock, Array.getElem?_modify, h1, Sort.onCells]
  · rw [nth_at hi]
    rw [List.length_set] at hi
    by_cases e : j = i
    · subst e
      rw [Array.getElem?_setIfInBounds, if_pos rfl, if_pos (by omega), List.getElem_set_self]
    · rw [Array.getElem?_setIfInBounds, if_neg e, List.getElem_set_ne e, h3 i hi, nth_at hi]
theorem Zw.own {base : Nat} (h : Zw w g cap l) (hb : base ≤ g) : w.ownsRow base 3 1 (.slice (some ⟨g, 0, none⟩) l.length cap) l.length (cellsN l) := by
  obtain ⟨⟨cur, h1, h2, h3⟩, h4, h5⟩ := h
  refine ⟨by simp, .inr ⟨g, cap, cur, rfl, hb, h1, h4, h5, by omega, ?_⟩⟩
  apply List.ext_getElem?
  intro j
  by_cases hj : j < l.length
  · rw [List.getElem?_take, if_pos (by omega), Array.getElem?_toList, h3 j hj, nth_at hj]
    simp [hj]
  · rw [List.getElem?_take, if_neg (by omega), List.getElem?_eq_none (by simp; omega)]
theorem own_zw {base n : Nat} (h : w.ownsRow base 3 1 (.slice (some ⟨g, 0, none⟩) n cap) n (cellsN l)) : Zw w g cap l ∧ base ≤ g ∧ n = l.length := by
  obtain ⟨h1, h2⟩ := h
  have hn : l.length = n := by simpa using h1
  subst hn
  rcases h2 with ⟨h, _⟩ | ⟨g', cap', cur, e1, hb, hg, hnc, hcm, hcs, htake⟩
  · cases h
  · simp only [Value.slice.injEq, Option.some.injEq, Addr.mk.injEq] at e1
    obtain ⟨⟨rfl, _⟩, _, rfl⟩ := e1
    refine ⟨⟨⟨cur, hg, by omega, fun i hi => ?_⟩, hnc, hcm⟩, hb, rfl⟩
    have e := congrArg (fun l => l[i]?) htake
    simp only [List.getElem?_take, Nat.mul_one, if_pos hi, List.getElem?_map, List.getElem?_eq_getElem hi] at e
    rw [← Array.getElem?_toList, e, nth_at hi]; rfl
theorem Zw.nv (h : Zw w g cap l) (hl : In64 l) : Nv w (.slice (some ⟨g, 0, none⟩) l.length cap) l := own_nv (h.own (Nat.zero_le _)) hl


end

end Go.Proofs.Ytpndafieknddcaa

namespace Go.Proofs.Ytpndafieknddcaa

open Ieee Go.RowKit



def Fwd (a b : List Int) : Prop := a.length = b.length ∧ ∀ i, i < a.length → nth a i ≤ nth b i
def fwdB (a b : List Int) : Bool := decide (a.length = b.length ∧ ∀ i, i < a.length → nth a i ≤ nth b i)
theorem Fwd.yes {a b : List Int} (h : Fwd a b) : fwdB a b = true := decide_eq_true (p := a.length = b.length ∧ ∀ i, i < a.length → nth a i ≤ nth b i) h
theorem Fwd.no {a b : List Int} (h : ¬ Fwd a b) : fwdB a b = false := decide_eq_false (p := a.length = b.length ∧ ∀ i, i < a.length → nth a i ≤ nth b i) h
theorem Fwd.of {a b : List Int} (h : fwdB a b = true) : Fwd a b := of_decide_eq_true (p := a.length = b.length ∧ ∀ i, i < a.length → nth a i ≤ nth b i) h
theorem Nv.form {w : World} {v : Value} {l : List Int} (h : Nv w v l) : ∃ ao cap, v = .slice ao l.length cap ∧ (l.length : Int) ≤ 9223372036854775807 ∧ l.length ≤ cap ∧ cap ≤ maxLen := by
  obtain ⟨⟨ao, cap, e, h1, h2, h3, h4⟩, h5⟩ := h
  exact ⟨ao, cap, e, by simp only [maxLen] at h2; omega, h1, h2⟩
theorem Nv.at {w : World} {ao : Option Addr} {n cap : Nat} {l : List Int} (h : Nv w (.slice ao n cap) l) {i : Nat} (hi : i < l.length) : ∃ b off, ao = some ⟨b, off, none⟩ ∧ w.cell? ⟨b, off + i, none⟩ = some (.int .i64 (nth l i)) := by
  obtain ⟨⟨ao', cap', e, h1, h2, h3, h4⟩, h5⟩ := h
  cases e
  exact h4 i hi
theorem Nv.in64 {w : World} {v : Value} {l : List Int} (h : Nv w v l) : In64 l := h.2


section

variable {av bv : Value} {a b : List Int} {w : World}



set_option maxRecDepth 100000 in
theorem fwd_walk (ha : Nv w av a) (hb : Nv w bv b) :
    Calls Try.prog 79 #[av, bv] w fun e w' => e = .returned (.bool (fwdB a b)) ∧ Below w.heap.size w w' := by
  have HA : Hid (Nv w av a) := ha
  have HB : Hid (Nv w bv b) := hb
  obtain ⟨ao, ca, rfl, hla, _⟩ := ha.form
  obtain ⟨bo, cb, rfl, hlb, _⟩ := hb.form
  clear ha hb
  by_cases hl : a.length = b.length
  · have hln : ((a.length : Int) != (b.length : Int)) = false := by simp [hl]
    have HL : Hid (a.length = b.length) := hl
    clear hl
    go_enter Try.func79, Try.ntmps79
    go_wp2_with fail
    go_loopw [13] (fun iv wr => ∃ k : Nat, k ≤ a.length ∧ iv = .int .i64 k ∧ (∀ i, i < k → nth a i ≤ nth b i) ∧ Below w.heap.size w wr) (fun iv _ => a.length - (intOf iv).toNat)
    case atStart => exact ⟨0, Nat.zero_le _, rfl, fun i hi => by omega, below_same _⟩
    case round =>
      obtain ⟨k, hk, rfl, hall, hB⟩ := hrel
      have HALL : Hid (∀ i, i < k → nth a i ≤ nth b i) := hall
      have HW : Hid (Below w.heap.size w wr) := hB
      clear hB hall
      by_cases hlt : k < a.length
      · have hltb : k < b.length := by have := HL.out; omega
        obtain ⟨g, off, rfl, c0⟩ := (HA.out.below HW.out).at hlt
        obtain ⟨d, doff, rfl, d0⟩ := (HB.out.below HW.out).at hltb
        obtain ⟨x, hx⟩ : ∃ x, x = nth a k := ⟨_, rfl⟩
        obtain ⟨y, hy⟩ : ∃ y, y = nth b k := ⟨_, rfl⟩
        rw [← hx] at c0
        rw [← hy] at d0
        have HX : Hid (x = nth a k) := hx
        have HY : Hid (y = nth b k) := hy
        clear hx hy
        have hlti : (k : Int) < (a.length : Int) := by omega
        have hltbi : (k : Int) < (b.length : Int) := by omega
        by_cases hle : y < x
        · have HD : Hid (fwdB a b = false) := by
            show _ = _
            refine Fwd.no fun h => ?_
            have := h.2 k hlt
            rw [← HX.out, ← HY.out] at this
            omega
          go_wp2_with fail
          go_quiet (fail)
          go_wp2_with fail
          go_ret
          exact ⟨HD.out ▸ rfl, below_trans HW.out (below_drewN _ _)⟩
        · go_wp2_with fail
          go_quiet (fail)
          go_wp2_with fail
          go_roundw
          case rel =>
            refine ⟨k + 1, by omega, by go_num, fun i hi => ?_, below_trans HW.out (below_drewN _ _)⟩
            by_cases hik : i = k
            · subst hik; rw [← HX.out, ← HY.out]; omega
            · exact HALL.out i (by omega)
          case measure => simp [intOf]; omega
      · have hnl : ¬ ((k : Int) < (a.length : Int)) := by omega
        have HD : Hid (fwdB a b = true) := Fwd.yes ⟨HL.out, fun i hi => HALL.out i (by omega)⟩
        go_wp2_with fail
        go_ret
        exact ⟨HD.out ▸ rfl, HW.out⟩
  · have hln : ((a.length : Int) != (b.length : Int)) = true := by simp; omega
    have HD : Hid (fwdB a b = false) := Fwd.no fun h => hl h.1
    clear hl
    go_enter Try.func79, Try.ntmps79
    go_wp2_with fail
    go_ret
    exact ⟨HD.out ▸ rfl, below_same _⟩






end

end Go.Proofs.Ytpndafieknddcaa

namespace Go.Proofs.Ytpndafieknddcaa

open Ieee Go.RowKit



structure Tp where
  b : Int
  p : List Int
  c : List Int
def rightT (t : Tp) : Prop := 0 ≤ t.b ∧ Fwd t.p t.c ∧ ∀ i, i < t.c.length → 0 ≤ nth t.p i ∧ (t.b = 0 → nth t.c i = 0)
def rightB (t : Tp) : Bool := decide (0 ≤ t.b) && fwdB t.p t.c && decide (∀ i, i < t.c.length → 0 ≤ nth t.p i ∧ (t.b = 0 → nth t.c i = 0))
theorem rightT.of {t : Tp} (h : rightB t = true) : rightT t := by
  unfold rightB at h
  rw [Bool.and_eq_true, Bool.and_eq_true] at h
  exact ⟨of_decide_eq_true h.1.1, Fwd.of h.1.2, of_decide_eq_true h.2⟩
theorem rightT.yes {t : Tp} (h : rightT t) : rightB t = true := by
  unfold rightB
  rw [decide_eq_true h.1, h.2.1.yes, decide_eq_true h.2.2]; rfl
theorem rightT.no {t : Tp} (h : ¬ rightT t) : rightB t = false := by
  cases hb : rightB t
  · rfl
  · exact absurd (rightT.of hb) h


section

variable {w : World} {pv cv tv : Value} {t : Tp} {tl : List Int}



set_option maxRecDepth 100000 in
set_option maxHeartbeats 2000000 in
theorem right_walk (hp : Nv w pv t.p) (hc : Nv w cv t.c) :
    Calls Try.prog 81 #[.agg #[.int .i64 t.b, pv, cv]] w fun e w' => e = .returned (.bool (rightB t)) ∧ Below w.heap.size w w' := by
  obtain ⟨tb, P, C⟩ := t
  simp only at hp hc ⊢
  obtain ⟨w0, hw0⟩ : ∃ w0, w0 = w.alloc (Obj.cells #[.int .i64 tb, pv, cv] 51) := ⟨_, rfl⟩
  have HB0 : Hid (Below w.heap.size w w0) := by show Below _ _ _; rw [hw0]; exact below_alloc _ _
  have HP : Hid (Nv w0 pv P) := hp.below HB0.out
  have HC : Hid (Nv w0 cv C) := hc.below HB0.out
  obtain ⟨po, pc, rfl, hlp, _⟩ := hp.form
  obtain ⟨co, cc, rfl, hlc, _⟩ := hc.form
  have HZ : Hid (w.heap.size < w0.heap.size) := by show _ < _; rw [hw0]; simp
  have HW0 : Hid (w0 = w.alloc (Obj.cells #[.int .i64 tb, .slice po P.length pc, .slice co C.length cc] 51)) := hw0
  have k0 : w0.cell? ⟨w.heap.size, 0, none⟩ = some (.int .i64 tb) := by rw [hw0]; simp [go_sem]
  have k1 : w0.cell? ⟨w.heap.size, 1, none⟩ = some (.slice po P.length pc) := by rw [hw0]; simp [go_sem]
  have k2 : w0.cell? ⟨w.heap.size, 2, none⟩ = some (.slice co C.length cc) := by rw [hw0]; simp [go_sem]
  have HK0 : Hid (∀ wx, Below w0.heap.size w0 wx → wx.cell? ⟨w.heap.size, 0, none⟩ = some (.int .i64 tb)) := fun wx hb => by rw [hb.cell (p := ⟨w.heap.size, 0, none⟩) HZ.out]; exact k0
  have HK1 : Hid (∀ wx, Below w0.heap.size w0 wx → wx.cell? ⟨w.heap.size, 1, none⟩ = some (.slice po P.length pc)) := fun wx hb => by rw [hb.cell (p := ⟨w.heap.size, 1, none⟩) HZ.out]; exact k1
  have HK2 : Hid (∀ wx, Below w0.heap.size w0 wx → wx.cell? ⟨w.heap.size, 2, none⟩ = some (.slice co C.length cc)) := fun wx hb => by rw [hb.cell (p := ⟨w.heap.size, 2, none⟩) HZ.out]; exact k2
  clear hp hc hw0 k0 k1 k2
  by_cases hb0 : tb < 0
  · have HD : Hid (rightB ⟨tb, P, C⟩ = false) := rightT.no fun h => by have := h.1; simp only at this; omega
    rw [HD.out]
    go_enter Try.func81, Try.ntmps81
    go_wp2_with fail
    go_ret
    exact ⟨rfl, below_alloc _ _⟩
  · by_cases hf : Fwd P C
    · have HF : Hid (Fwd P C) := hf
      have HFD : Hid (fwdB P C = true) := Fwd.yes hf
      clear hf
      go_enter Try.func81, Try.ntmps81
      go_wp2_with fail
      rw [← HW0.out]
      refine (fwd_walk HP.out HC.out).mono ?_
      rw [HFD.out]
      rintro e w1 ⟨rfl, hB1⟩
      have HW1 : Hid (Below w0.heap.size w0 w1) := hB1
      have y2 := HK2.out w1 hB1
      clear hB1
      go_wp2_with fail
      go_loopw [18] (fun iv wr => ∃ k : Nat, k ≤ C.length ∧ iv = .int .i64 k ∧ (∀ i, i < k → 0 ≤ nth P i ∧ (tb = 0 → nth C i = 0)) ∧ Below w0.heap.size w0 wr) (fun iv _ => C.length - (intOf iv).toNat)
      case atStart => exact ⟨0, Nat.zero_le _, rfl, fun i hi => by omega, HW1.out⟩
      case round =>
        clear y2
        obtain ⟨k, hk, rfl, hall, hB⟩ := hrel
        have HALL : Hid (∀ i, i < k → 0 ≤ nth P i ∧ (tb = 0 → nth C i = 0)) := hall
        have HW : Hid (Below w0.heap.size w0 wr) := hB
        clear hall hB
        by_cases hlt : k < C.length
        · have hltp : k < P.length := by have := HF.out.1; omega
          have hlti : (k : Int) < (C.length : Int) := by omega
          have hltpi : (k : Int) < (P.length : Int) := by omega
          obtain ⟨g, off, rfl, c0⟩ := (HP.out.below HW.out).at hltp
          obtain ⟨d, doff, rfl, d0⟩ := (HC.out.below HW.out).at hlt
          obtain ⟨x, hx⟩ : ∃ x, x = nth P k := ⟨_, rfl⟩
          obtain ⟨y, hy⟩ : ∃ y, y = nth C k := ⟨_, rfl⟩
          rw [← hx] at c0
          rw [← hy] at d0
          have HX : Hid (x = nth P k) := hx
          have HY : Hid (y = nth C k) := hy
          have y0 := HK0.out wr HW.out
          have y1 := HK1.out wr HW.out
          have y2 := HK2.out wr HW.out
          clear hx hy
          have bad : (x < 0 ∨ (tb = 0 ∧ y ≠ 0)) → rightB ⟨tb, P, C⟩ = false := fun h => rightT.no fun hr => by
            have := hr.2.2 k hlt
            simp only at this
            rw [← HX.out, ← HY.out] at this
            rcases h with h | ⟨h1, h2⟩
            · omega
            · exact h2 (this.2 h1)
          have BAD : Hid ((x < 0 ∨ (tb = 0 ∧ y ≠ 0)) → rightB ⟨tb, P, C⟩ = false) := bad
          clear bad
          by_cases hx0 : x < 0
          · go_wp2_with fail
            go_ret
            exact ⟨BAD.out (.inl hx0) ▸ rfl, below_trans HB0.out HW.out⟩
          · by_cases ht0 : tb = 0
            · have htb : (tb == 0) = true := by simp [ht0]
              by_cases hy0 : y = 0
              · have hyb : (y != 0) = false := by simp [hy0]
                have HG : Hid (0 ≤ x ∧ y = 0) := ⟨by omega, hy0⟩
                clear hy0 ht0
                go_wp2_with fail
                go_roundw
                case rel =>
                  refine ⟨k + 1, by omega, by go_num, fun i hi => ?_, HW.out⟩
                  by_cases hik : i = k
                  · subst hik; rw [← HX.out, ← HY.out]; exact ⟨HG.out.1, fun _ => HG.out.2⟩
                  · exact HALL.out i (by omega)
                case measure => simp [intOf]; omega
              · have hyb : (y != 0) = true := by simp [hy0]
                have HG : Hid (tb = 0 ∧ y ≠ 0) := ⟨ht0, hy0⟩
                clear hy0 ht0
                go_wp2_with fail
                go_ret
                exact ⟨BAD.out (.inr HG.out) ▸ rfl, below_trans HB0.out HW.out⟩
            · have htb : (tb == 0) = false := by simp [ht0]
              have HG : Hid (¬ tb = 0) := ht0
              clear ht0
              go_wp2_with fail
              go_roundw
              case rel =>
                refine ⟨k + 1, by omega, by go_num, fun i hi => ?_, HW.out⟩
                by_cases hik : i = k
                · subst hik; rw [← HX.out]; exact ⟨by omega, fun h => absurd h HG.out⟩
                · exact HALL.out i (by omega)
              case measure => simp [intOf]; omega
        · have hnl : ¬ ((k : Int) < (C.length : Int)) := by omega
          have HD : Hid (rightB ⟨tb, P, C⟩ = true) := rightT.yes ⟨by simp only; omega, HF.out, fun i hi => HALL.out i (by simp only at hi; omega)⟩
          go_wp2_with fail
          go_ret
          exact ⟨HD.out ▸ rfl, below_trans HB0.out HW.out⟩
    · have HFD : Hid (fwdB P C = false) := Fwd.no hf
      have HD : Hid (rightB ⟨tb, P, C⟩ = false) := rightT.no fun h => hf h.2.1
      rw [HD.out]
      clear hf
      go_enter Try.func81, Try.ntmps81
      go_wp2_with fail
      rw [← HW0.out]
      refine (fwd_walk HP.out HC.out).mono ?_
      rw [HFD.out]
      rintro e w1 ⟨rfl, hB1⟩
      go_wp2_with fail
      go_ret
      exact ⟨rfl, below_trans HB0.out hB1⟩




def stepI (t : Tp) (tl : List Int) : Int := if (rightB t && fwdB t.c tl) = true then (if 1099511627776 ≤ t.b then 1 else 0) else 70
theorem step_yes {t : Tp} {tl : List Int} (h1 : rightT t) (h2 : Fwd t.c tl) : (rightB t && fwdB t.c tl) = true := by rw [h1.yes, h2.yes]; rfl
theorem step_of {t : Tp} {tl : List Int} (h : (rightB t && fwdB t.c tl) = true) : rightT t ∧ Fwd t.c tl := by
  rw [Bool.and_eq_true] at h
  exact ⟨rightT.of h.1, Fwd.of h.2⟩
def stepT (t : Tp) (tl : List Int) : Tp := if stepI t tl = 0 then ⟨t.b + 1, t.c, tl⟩ else ⟨0, [], []⟩
def atB (t : Tp) (n : Int) : Bool := decide (n = t.b ∨ (0 < t.b ∧ n = t.b - 1))
def atL (t : Tp) (n : Int) : List Int := if n = t.b then t.c else if 0 < t.b ∧ n = t.b - 1 then t.p else []




/-- What At answers. -/
def Ta (w : World) (t : Tp) (n : Int) (e : Ending) (w' : World) : Prop :=
  ∃ v, e = .returned (.tuple #[v, .bool (atB t n)]) ∧ w'.ownsRow w.heap.size 3 1 v (atL t n).length (cellsN (atL t n)) ∧ Below w.heap.size w w'






end

end Go.Proofs.Ytpndafieknddcaa
