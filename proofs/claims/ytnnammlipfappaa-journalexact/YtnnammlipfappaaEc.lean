/- The reference's Read and Write (printed out of Df by mk_ref8.py). -/
import Derived.Test.YtnnammlipfappaaEa

namespace Go.Proofs.Ytnnammlipfappaa

open Go.RowKit



section

variable {T : TypeId} {D : Nat → Prop} {w w' : World} {v bv : Value} {sb gp cap : Nat} {S : Dk} {b : List Nat}



theorem rread_nil (i : Int) : Calls Try.prog 50 #[.pointer none, .int .i64 i] w fun e w' => e = .returned (.tuple #[.slice none 0 0, .int .i64 2]) ∧ w' = w := by
  go_enter Try.func50, Try.ntmps50
  go_wp2_with fail
  go_ret2
  exact ⟨rfl, rfl⟩


theorem ref_cases (S : Dk) (i : Int) : (S.down = true ∧ refI S i = 80) ∨ (S.down = false ∧ i < 0 ∧ refI S i = 81) ∨ (S.down = false ∧ 0 ≤ i ∧ (S.bl.length : Int) ≤ i ∧ refI S i = 81) ∨ (refI S i = 0) := by
  unfold refI
  cases S.down
  · rw [if_neg (by simp)]
    by_cases h0 : i < 0
    · exact .inr (.inl ⟨rfl, h0, by rw [if_pos (.inl h0)]⟩)
    · by_cases h1 : (S.bl.length : Int) ≤ i
      · exact .inr (.inr (.inl ⟨rfl, by omega, h1, by rw [if_pos (.inr h1)]⟩))
      · exact .inr (.inr (.inr (by rw [if_neg (by omega)])))
  · exact .inl ⟨rfl, by rw [if_pos rfl]⟩


set_option maxRecDepth 100000 in
theorem rread_walk (h : Dsk T D w v S) (i : Int) (hrd : S.rd < 9223372036854775807) : Calls Try.prog 50 #[v, .int .i64 i] w fun e w' => Rd T D w v S i e w' := by
  have HW : Hid (Dsk T D w v S) := h
  obtain ⟨sb, gp, cap, rfl, h, hok⟩ := h
  have HM : Hid (DM T D w sb gp cap S) := h
  have HK : Hid S.ok := hok
  clear h hok
  by_cases hr : refI S i = 0
  · obtain ⟨hdn, k, rfl, hk⟩ := ref_ok hr
    have HR : Hid (refI S k = 0) := hr
    have c1 := HM.out.c1
    rw [hdn] at c1
    have hk0 : (k : Int) < (S.bl.length : Int) := by omega
    clear hr hdn
    have c3 := HM.out.c3
    have f3 := HM.out.soft 3
    have c0 := HM.out.c0
    have HM2 : Hid (DM T D (w.setCell ⟨sb, 3, none⟩ (.int .i64 ((S.rd : Int) + 1))) sb gp cap { S with rd := S.rd + 1 }) := HM.out.put 3 _ rfl rfl
    obtain ⟨u, hu, hoc, _⟩ := HM2.out.row.at (i := k) hk
    have HBv : Hid (Bv (w.setCell ⟨sb, 3, none⟩ (.int .i64 ((S.rd : Int) + 1))) u (bk S.bl k)) := hoc.bv (HK.out.byt _ (bk_mem hk))
    have HL : Hid ((bk S.bl k).length ≤ 140737488355328) := Nat.le_trans (HK.out.len _ (bk_mem hk)) (by omega)
    have hu0 : w.cell? ⟨gp, k, none⟩ = some u := by
      rw [← hu]; exact (World.cell?_of_block (w := w) (a := ⟨gp, k, none⟩) (set_other 3 _ HM.out.a1)).symm
    obtain ⟨p, hp⟩ : ∃ p, p = bk S.bl k := ⟨_, rfl⟩
    rw [← hp] at HBv HL
    have HP : Hid (p = bk S.bl k) := hp
    obtain ⟨ao, cp, rfl, _, _⟩ := bv_formD HBv.out
    have r1 : IntKind.i64.wrap ((S.rd : Int) + 1) = (S.rd : Int) + 1 := wrapU (by omega) (by omega)
    have h64 := HK.out.n64
    have hne1 : ¬ gp = sb := HM.out.a1
    have hne2 : ¬ sb = gp := fun e => HM.out.a1 e.symm
    clear hoc hp hu hrd
    go_enter Try.func50, Try.ntmps50
    go_wp2_with fail
    refine (rclone_walk HBv.out HL.out).mono ?_
    rintro e w2 ⟨r, rfl, ho, hB⟩
    go_wp2_with fail
    go_ret2
    exact rd_ok HR.out rfl ⟨sb, gp, cap, rfl, HM2.out, ok_rd HK.out _⟩ (ch_put _ _ HM.out.d1) (by rw [← HP.out]; exact ho) hB
  · have HA : Hid (Rd T D w (.pointer (some ⟨sb, 0, none⟩)) S i (.returned (.tuple #[.slice none 0 0, .int .i64 (refI S i)])) w) := rd_bad HW.out hr
    have c0 := HM.out.c0
    have c1 := HM.out.c1
    have h64 := HK.out.n64
    rcases ref_cases S i with ⟨hd, hq⟩ | ⟨hd, h0, hq⟩ | ⟨hd, h0, h1, hq⟩ | hq
    · rw [hq] at HA
      rw [hd] at c1
      clear hd hq hr hrd
      go_enter Try.func50, Try.ntmps50
      go_wp2_with fail
      go_ret2
      exact HA.out
    · rw [hq] at HA
      rw [hd] at c1
      clear hd hq hr hrd
      go_enter Try.func50, Try.ntmps50
      go_wp2_with fail
      go_ret2
      exact HA.out
    · rw [hq] at HA
      rw [hd] at c1
      clear hd hq hr hrd
      go_enter Try.func50, Try.ntmps50
      go_wp2_with fail
      go_ret2
      exact HA.out
    · exact absurd hq hr




set_option maxRecDepth 100000 in
set_option maxHeartbeats 2000000 in
theorem rwrite_free (h : DM T D w sb gp cap S) (hok : S.ok) {k : Nat} (hr : refI S k = 0) (hk : k < S.bl.length) (hb : Bv w bv b) (hbl : b.length ≤ 1024) (hl : S.left = -1) (hwr : S.wr < 9223372036854775807) :
    Calls Try.prog 41 #[.pointer (some ⟨sb, 0, none⟩), .int .i64 k, bv] w fun e w' => Wt T D w (.pointer (some ⟨sb, 0, none⟩)) S k b e w' := by
  have HM : Hid (DM T D w sb gp cap S) := h
  have HK : Hid S.ok := hok
  have HR : Hid (refI S k = 0) := hr
  have HBL : Hid (b.length ≤ 1024) := hbl
  have HKL : Hid (k < S.bl.length) := hk
  have HI : Hid (writeI S k b = 0) := by show _ = _; unfold writeI; rw [if_neg (fun e => e hr), if_neg (by omega), if_neg (by omega)]
  have HS : Hid (writeS S k b = putS S k b) := by show _ = _; unfold writeS; rw [if_neg (fun e => e hr), if_neg (by omega), if_neg (by omega)]; simp
  have HD : Hid (decL S.left = -1) := by show _ = _; unfold decL; rw [if_pos hl]
  have HBB : Hid (∀ c ∈ b, c < 256) := hb.2
  obtain ⟨w2, hw2⟩ : ∃ w2, w2 = w := ⟨_, rfl⟩
  have HM2 : Hid (DM T D w2 sb gp cap { S with left := decL S.left }) := by
    show DM _ _ _ _ _ _ _
    rw [hw2, HD.out, ← hl]
    exact h
  have HC2 : Hid (Ch D w w2) := by show Ch _ _ _; rw [hw2]; exact Ch.refl _ _
  obtain ⟨bo, bc, rfl, _, _⟩ := bv_formD hb
  have HB2 : Hid (Bv w2 (.slice bo b.length bc) b) := by
    show Bv _ _ _
    rw [hw2]
    exact hb
  obtain ⟨u0, z0, _⟩ := HM2.out.row.at (i := k) hk
  have f0 := HM2.out.row.soft k
  have x0 := HM2.out.c0
  have hSd : Wq w2 sb gp k (.slice (some ⟨gp, 0, none⟩) S.bl.length cap) w2.drew := Wq.go (wx := w2) ⟨Ch.refl _ _, x0, ⟨u0, z0⟩, f0⟩ (below_drewN _ _)
  have HW2 : Hid (w2 = w) := hw2
  have c2 := h.c2
  have c0 := h.c0
  have c1 := h.c1
  rw [(ref_ok hr).1] at c1
  have f2 := h.soft 2
  have h64 := hok.n64
  have hbi : (b.length : Int) ≤ 1024 := by omega
  have hbd : decide ((1024 : Int) < (b.length : Int)) = false := decide_eq_false (by omega)
  have hki : (k : Int) < (S.bl.length : Int) := by omega
  have r1 : IntKind.i64.wrap ((S.wr : Int) + 1) = (S.wr : Int) + 1 := wrapU (by omega) (by omega)
  rw [hl] at c2
  have HNE : Hid (sb ≠ gp) := fun e => h.a1 e.symm
  have j0 : ∀ wx, Wq w2 sb gp k (.slice (some ⟨gp, 0, none⟩) S.bl.length cap) wx → wx.cell? ⟨sb, 0, none⟩ = some (.slice (some ⟨gp, 0, none⟩) S.bl.length cap) := fun wx h => h.c0
  clear h hok hr hk hb hbl hl hwr hw2 z0 f0 x0
  go_enter Try.func41, Try.ntmps41
  go_wp2_with fail
  rw [← HW2.out]
  go_region_held3 (fun wx => Wq w2 sb gp k (.slice (some ⟨gp, 0, none⟩) S.bl.length cap) wx) (first | assumption | exact Wq.set (by assumption) HNE.out _)
    (first
      | (go_at_call 63; refine (rclone_walk (v := .slice bo b.length bc) (l := b) (HB2.out.below (below_drewN _ _)) (Nat.le_trans HBL.out (by omega))).mono ?_; rintro e wC ⟨u', rfl, hoC, hBC⟩; obtain ⟨qo, qc, hqv, _⟩ := row_form hoC; subst hqv; have hSC : Wq w2 sb gp k (.slice (some ⟨gp, 0, none⟩) S.bl.length cap) wC := Wq.go (by assumption) hBC; obtain ⟨u0, z0⟩ := hSC.at'; have f0 := hSC.soft))
  obtain ⟨w3, hw3⟩ : ∃ w3, w3 = wC.setCell ⟨gp, k, none⟩ (.slice qo b.length qc) := ⟨_, rfl⟩
  have hBw : Below w2.heap.size w2 wC := below_trans (below_drewN w2 1) hBC
  have HM3 : Hid (DM T (fun x => D x ∨ (Value.slice qo b.length qc).ownBlock = some x) w3 sb gp cap { S with bl := S.bl.set k b, left := decL S.left }) := by
    show DM _ _ _ _ _ _ _
    rw [hw3]
    exact HM2.out.setRow (Ch.of_below hBw) HKL.out hoC (Nat.le_refl _)
  have HNW : Hid (∀ x, (Value.slice qo b.length qc).ownBlock = some x → w2.heap.size ≤ x) := fun x hx => (hoC.lt x hx).1
  have HC3 : Hid (Ch D w w3) := by
    show Ch _ _ _
    rw [hw3]
    exact (HC2.out.self (Ch.of_below hBw)).self (ch_put _ _ HM2.out.d2)
  rw [← hw3]
  have c4 := HM3.out.c4
  have f4 := HM3.out.soft 4
  clear hw3 hSC hBC hoC hBw z0 f0
  go_wp2_with fail
  go_ret
  refine ⟨by rw [HI.out]; rfl, ⟨_, ⟨sb, gp, cap, rfl, by rw [HS.out]; exact HM3.out.put 4 _ (S' := putS S k b) rfl rfl, by rw [HS.out]; exact ok_put HK.out k HBL.out HBB.out⟩, fun x hx => ?_⟩, HC3.out.self (ch_put _ _ HM.out.d1)⟩
  rcases hx with hx | hx
  · exact .inl hx
  · exact .inr (Nat.le_trans HC2.out.size (HNW.out x hx))


set_option maxRecDepth 100000 in
set_option maxHeartbeats 2000000 in
theorem rwrite_armed (h : DM T D w sb gp cap S) (hok : S.ok) {k : Nat} (hr : refI S k = 0) (hk : k < S.bl.length) (hb : Bv w bv b) (hbl : b.length ≤ 1024) (hl : 0 < S.left) (hwr : S.wr < 9223372036854775807) :
    Calls Try.prog 41 #[.pointer (some ⟨sb, 0, none⟩), .int .i64 k, bv] w fun e w' => Wt T D w (.pointer (some ⟨sb, 0, none⟩)) S k b e w' := by
  have HM : Hid (DM T D w sb gp cap S) := h
  have HK : Hid S.ok := hok
  have HR : Hid (refI S k = 0) := hr
  have HBL : Hid (b.length ≤ 1024) := hbl
  have HKL : Hid (k < S.bl.length) := hk
  have HI : Hid (writeI S k b = 0) := by show _ = _; unfold writeI; rw [if_neg (fun e => e hr), if_neg (by omega), if_neg (by omega)]
  have HS : Hid (writeS S k b = putS S k b) := by show _ = _; unfold writeS; rw [if_neg (fun e => e hr), if_neg (by omega), if_neg (by omega)]; simp
  have HD : Hid (decL S.left = S.left - 1) := by show _ = _; unfold decL; rw [if_neg (by omega)]
  have HBB : Hid (∀ c ∈ b, c < 256) := hb.2
  obtain ⟨w2, hw2⟩ : ∃ w2, w2 = w.setCell ⟨sb, 2, none⟩ (.int .i64 (S.left - 1)) := ⟨_, rfl⟩
  have HM2 : Hid (DM T D w2 sb gp cap { S with left := decL S.left }) := by
    show DM _ _ _ _ _ _ _
    rw [hw2, HD.out]
    exact h.put 2 _ rfl rfl
  have HC2 : Hid (Ch D w w2) := by show Ch _ _ _; rw [hw2]; exact ch_put _ _ h.d1
  obtain ⟨bo, bc, rfl, _, _⟩ := bv_formD hb
  have HB2 : Hid (Bv w2 (.slice bo b.length bc) b) := by
    show Bv _ _ _
    rw [hw2]
    exact bv_int hb h.c2
  obtain ⟨u0, z0, _⟩ := HM2.out.row.at (i := k) hk
  have f0 := HM2.out.row.soft k
  have x0 := HM2.out.c0
  have hSd : Wq w2 sb gp k (.slice (some ⟨gp, 0, none⟩) S.bl.length cap) w2.drew := Wq.go (wx := w2) ⟨Ch.refl _ _, x0, ⟨u0, z0⟩, f0⟩ (below_drewN _ _)
  have HW2 : Hid (w2 = w.setCell ⟨sb, 2, none⟩ (.int .i64 (S.left - 1))) := hw2
  have c2 := h.c2
  have c0 := h.c0
  have c1 := h.c1
  rw [(ref_ok hr).1] at c1
  have f2 := h.soft 2
  have h64 := hok.n64
  have hbi : (b.length : Int) ≤ 1024 := by omega
  have hbd : decide ((1024 : Int) < (b.length : Int)) = false := decide_eq_false (by omega)
  have hki : (k : Int) < (S.bl.length : Int) := by omega
  have r1 : IntKind.i64.wrap ((S.wr : Int) + 1) = (S.wr : Int) + 1 := wrapU (by omega) (by omega)
  have HLF : Hid (S.left < 9223372036854775808) := hok.l1
  have r2 : IntKind.i64.wrap (S.left - 1) = S.left - 1 := wrapU (by omega) (by have := HLF.out; omega)
  have l0 : ¬ S.left = 0 := by omega
  have l1 : ¬ S.left = -1 := by omega
  have l2 : 0 < S.left := hl
  have HNE : Hid (sb ≠ gp) := fun e => h.a1 e.symm
  have j0 : ∀ wx, Wq w2 sb gp k (.slice (some ⟨gp, 0, none⟩) S.bl.length cap) wx → wx.cell? ⟨sb, 0, none⟩ = some (.slice (some ⟨gp, 0, none⟩) S.bl.length cap) := fun wx h => h.c0
  clear h hok hr hk hb hbl hl hwr hw2 z0 f0 x0
  go_enter Try.func41, Try.ntmps41
  go_wp2_with fail
  rw [← HW2.out]
  go_region_held3 (fun wx => Wq w2 sb gp k (.slice (some ⟨gp, 0, none⟩) S.bl.length cap) wx) (first | assumption | exact Wq.set (by assumption) HNE.out _)
    (first
      | (go_at_call 63; refine (rclone_walk (v := .slice bo b.length bc) (l := b) (HB2.out.below (below_drewN _ _)) (Nat.le_trans HBL.out (by omega))).mono ?_; rintro e wC ⟨u', rfl, hoC, hBC⟩; obtain ⟨qo, qc, hqv, _⟩ := row_form hoC; subst hqv; have hSC : Wq w2 sb gp k (.slice (some ⟨gp, 0, none⟩) S.bl.length cap) wC := Wq.go (by assumption) hBC; obtain ⟨u0, z0⟩ := hSC.at'; have f0 := hSC.soft))
  obtain ⟨w3, hw3⟩ : ∃ w3, w3 = wC.setCell ⟨gp, k, none⟩ (.slice qo b.length qc) := ⟨_, rfl⟩
  have hBw : Below w2.heap.size w2 wC := below_trans (below_drewN w2 1) hBC
  have HM3 : Hid (DM T (fun x => D x ∨ (Value.slice qo b.length qc).ownBlock = some x) w3 sb gp cap { S with bl := S.bl.set k b, left := decL S.left }) := by
    show DM _ _ _ _ _ _ _
    rw [hw3]
    exact HM2.out.setRow (Ch.of_below hBw) HKL.out hoC (Nat.le_refl _)
  have HNW : Hid (∀ x, (Value.slice qo b.length qc).ownBlock = some x → w2.heap.size ≤ x) := fun x hx => (hoC.lt x hx).1
  have HC3 : Hid (Ch D w w3) := by
    show Ch _ _ _
    rw [hw3]
    exact (HC2.out.self (Ch.of_below hBw)).self (ch_put _ _ HM2.out.d2)
  rw [← hw3]
  have c4 := HM3.out.c4
  have f4 := HM3.out.soft 4
  clear hw3 hSC hBC hoC hBw z0 f0
  go_wp2_with fail
  go_ret
  refine ⟨by rw [HI.out]; rfl, ⟨_, ⟨sb, gp, cap, rfl, by rw [HS.out]; exact HM3.out.put 4 _ (S' := putS S k b) rfl rfl, by rw [HS.out]; exact ok_put HK.out k HBL.out HBB.out⟩, fun x hx => ?_⟩, HC3.out.self (ch_put _ _ HM.out.d1)⟩
  rcases hx with hx | hx
  · exact .inl hx
  · exact .inr (Nat.le_trans HC2.out.size (HNW.out x hx))


theorem rwrite_nil (i : Int) (bv : Value) : Calls Try.prog 41 #[.pointer none, .int .i64 i, bv] w fun e w' => e = .returned (.int .i64 2) ∧ w' = w := by
  go_enter Try.func41, Try.ntmps41
  go_wp2_with fail
  go_ret
  exact ⟨rfl, rfl⟩


set_option maxRecDepth 100000 in
theorem rwrite_walk (h : Dsk T D w v S) (i : Int) (hb : Bv w bv b) (hwr : S.wr < 9223372036854775807) : Calls Try.prog 41 #[v, .int .i64 i, bv] w fun e w' => Wt T D w v S i b e w' := by
  have HW : Hid (Dsk T D w v S) := h
  obtain ⟨sb, gp, cap, rfl, h, hok⟩ := h
  have HM : Hid (DM T D w sb gp cap S) := h
  have HK : Hid S.ok := hok
  by_cases hr : refI S i = 0
  · obtain ⟨hdn, k, rfl, hk⟩ := ref_ok hr
    by_cases hbl : b.length ≤ 1024
    · by_cases hl0 : S.left = 0
      · have HR : Hid (refI S k = 0) := hr
        have HI : Hid (writeI S k b = 80) := by show _ = _; unfold writeI; rw [if_neg (fun e => e hr), if_neg (by omega), if_pos hl0]
        have HS : Hid (writeS S k b = offS S) := by show _ = _; unfold writeS; rw [if_neg (fun e => e hr), if_neg (by omega), if_pos hl0]
        obtain ⟨bo, bc, rfl, _, _⟩ := bv_formD hb
        have c2 := h.c2
        rw [hl0] at c2
        have c0 := h.c0
        have c1 := h.c1
        rw [hdn] at c1
        have h64 := hok.n64
        have hk0 : (k : Int) < (S.bl.length : Int) := by omega
        have hbi : (b.length : Int) ≤ 1024 := by omega
        have hbd : decide ((1024 : Int) < (b.length : Int)) = false := decide_eq_false (by omega)
        clear h hok hr hk hb hbl hl0 hwr hdn
        go_enter Try.func41, Try.ntmps41
        go_wp2_with fail
        refine (roff_walk HW.out).mono ?_
        rintro e w2 ⟨rfl, hD, hC⟩
        go_wp2_with fail
        go_ret
        exact ⟨by rw [HI.out]; rfl, ⟨D, by rw [HS.out]; exact hD, fun x hx => .inl hx⟩, hC⟩
      · have hl0' := hok.l0
        by_cases hl1 : S.left = -1
        · exact rwrite_free h hok hr hk hb hbl hl1 hwr
        · exact rwrite_armed h hok hr hk hb hbl (by omega) hwr
    · have HR : Hid (refI S k = 0) := hr
      have HA : Hid (Wt T D w (.pointer (some ⟨sb, 0, none⟩)) S k b (.returned (.int .i64 6)) w) := wt_same HW.out (by unfold writeI; rw [if_neg (fun e => e hr), if_pos (by omega)]) (by unfold writeS; rw [if_neg (fun e => e hr), if_pos (by omega)])
      obtain ⟨bo, bc, rfl, _, _⟩ := bv_formD hb
      have hbi : (1024 : Int) < (b.length : Int) := by omega
      have c0 := h.c0
      have c1 := h.c1
      rw [hdn] at c1
      have h64 := hok.n64
      have hk0 : (k : Int) < (S.bl.length : Int) := by omega
      clear h hok hr hk hb hbl hwr hdn
      go_enter Try.func41, Try.ntmps41
      go_wp2_with fail
      go_ret
      exact HA.out
  · have HA : Hid (Wt T D w (.pointer (some ⟨sb, 0, none⟩)) S i b (.returned (.int .i64 (refI S i))) w) := wt_same HW.out (by unfold writeI; rw [if_pos hr]) (by unfold writeS; rw [if_pos hr])
    have c0 := HM.out.c0
    have c1 := HM.out.c1
    have h64 := HK.out.n64
    rcases ref_cases S i with ⟨hd, hq⟩ | ⟨hd, h0, hq⟩ | ⟨hd, h0, h1, hq⟩ | hq
    · rw [hq] at HA
      rw [hd] at c1
      clear hd hq hr hb hwr h hok
      go_enter Try.func41, Try.ntmps41
      go_wp2_with fail
      go_ret
      exact HA.out
    · rw [hq] at HA
      rw [hd] at c1
      clear hd hq hr hb hwr h hok
      go_enter Try.func41, Try.ntmps41
      go_wp2_with fail
      go_ret
      exact HA.out
    · rw [hq] at HA
      rw [hd] at c1
      clear hd hq hr hb hwr h hok
      go_enter Try.func41, Try.ntmps41
      go_wp2_with fail
      go_ret
      exact HA.out
    · exact absurd hq hr


end

end Go.Proofs.Ytnnammlipfappaa


