/- awake. -/
import Derived.Test.YtpndafieknddcaaCt
namespace Go.Proofs.Ytpndafieknddcaa

open Ieee Go.RowKit

def sm : Pn := ⟨1, 1, 2, 1, 4, 2, 8, []⟩
def y1 : Yt := ⟨1, 1, 2, 1, 0, [0], []⟩
def y2 : Yt := ⟨1, 1, 2, 3, 0, [0], [4]⟩
def m1 : Ms := ⟨1, 0, 2, 1, 1, 0, [0], [], []⟩
def m2 : Ms := ⟨2, 2, 0, 1, 1, 0, [4], [], []⟩
def m3 : Ms := ⟨3, 0, 2, 1, 1, 0, [4], [], []⟩
def m4 : Ms := ⟨8, 2, 0, 1, 1, 0, [4], [], []⟩
theorem sm_is : sm.is = true := rfl
theorem fr_gd {p : Pn} (h : p.is = true) : Gd p.P (frC p).J (frC p).S ∧ (frC p).S.wr = 2 ∧ (frC p).S.rd ≤ 2 ∧ (frC p).J.n = n0 p.P.toNat ∧ (frC p).J.g = 1 := by
  obtain ⟨_, h2, h3, h4⟩ := fr_ok (is_ref h)
  have h5 := h4.rd 2
  refine ⟨h5, ?_, ?_, rfl, rfl⟩
  · show (rdK (frS p.P) 2).wr = 2
    rw [(rdK_same (frS p.P) 2).2.2.2.1, h2]
  · show (rdK (frS p.P) 2).rd ≤ 2
    have := (rdK_same (frS p.P) 2).2.2.2.2
    rw [h3] at this
    omega
theorem cAw1 : ∃ J S, tikC (frC sm) = ⟨sm, J, S, [y1], false⟩ ∧ tikM (frC sm) = some m1 ∧ tikE (frC sm) = 0 ∧ Gd 1 J S ∧ J.n = ⟨0, [0], [0], 1⟩ ∧ J.g = 2 ∧ S.wr = 3 := by
  obtain ⟨hg, hw, hr, hn, hj⟩ := fr_gd sm_is
  have hn' : (frC sm).J.n = ⟨0, [0], [0], 0⟩ := hn
  have he : ¬ (frC sm).endB = true := by rw [gd_end hg rfl]; simp
  have ht : tik1 (frC sm) = frC sm := rfl
  have hm : mayB (frC sm) = true := rfl
  obtain ⟨b1, b2, b3, b4, b5⟩ := beg_gd (c := frC sm) hg (by rw [hn']; decide) (by rw [hj]; decide)
  have hC : begC (frC sm) = ⟨sm, savJ (frC sm).J (frC sm).S 1 (begN (frC sm)), savS (frC sm).J (frC sm).S 1 (begN (frC sm)), [y1], false⟩ := by
    unfold begC; rw [if_pos b1]; rfl
  refine ⟨_, _, ?_, ?_, ?_, b2, ?_, ?_, ?_⟩
  · unfold tikC; rw [if_neg he, ht, if_pos hm, hC]; rfl
  · unfold tikM; rw [if_neg he, ht, if_pos hm]; unfold begM; rw [if_pos b1]; rfl
  · unfold tikE; rw [if_neg he, ht, if_pos hm]; unfold begE; rw [if_pos b1]
  · rw [b3]; rfl
  · rw [b3]; show (frC sm).J.g + 1 = 2; rw [hj]
  · rw [b4, hw]
theorem cAw2 {J : Jn} {S : Dk} (hg : Gd 1 J S) : taC ⟨sm, J, S, [y1], false⟩ m2 = ⟨sm, J, S, [y2], false⟩ ∧ taM ⟨sm, J, S, [y1], false⟩ m2 = some m3 ∧ taE ⟨sm, J, S, [y1], false⟩ m2 = 0 := by
  have he : ¬ (⟨sm, J, S, [y1], false⟩ : Cs).endB = true := by rw [gd_end (c := ⟨sm, J, S, [y1], false⟩) hg rfl]; simp
  have hs : ¬ sndM m2 = false := by decide
  have hT : ¬ m2.T ≠ 0 := by decide
  have hK : m2.K = 2 := rfl
  refine ⟨?_, ?_, ?_⟩
  · unfold taC; rw [if_neg he, if_neg hs, if_neg hT, if_pos hK]; rfl
  · unfold taM; rw [if_neg he, if_neg hs, if_neg hT, if_pos hK]; rfl
  · unfold taE; rw [if_neg he, if_neg hs, if_neg hT, if_pos hK]
theorem cAw3 {J : Jn} {S : Dk} (hg : Gd 1 J S) (hn : J.n = ⟨0, [0], [0], 1⟩) (hj : J.g = 2) : ∃ J' S', taC ⟨sm, J, S, [y2], false⟩ m4 = ⟨sm, J', S', [], false⟩ ∧ taM ⟨sm, J, S, [y2], false⟩ m4 = none ∧ taE ⟨sm, J, S, [y2], false⟩ m4 = 0 ∧ Gd 1 J' S' ∧ J'.n = ⟨1, [0], [4], 1⟩ := by
  have he : ¬ (⟨sm, J, S, [y2], false⟩ : Cs).endB = true := by rw [gd_end (c := ⟨sm, J, S, [y2], false⟩) hg rfl]; simp
  have hs : ¬ sndM m4 = false := by decide
  have hT : ¬ m4.T ≠ 0 := by decide
  have hK2 : ¬ m4.K = 2 := by decide
  have hK : m4.K = 8 := rfl
  have hci : ¬ cmtI ⟨sm, J, S, [y2], false⟩ m4 ≠ 0 := fun h => h rfl
  have hyo : y2.ok := ⟨by decide, by decide, by decide, by decide, by decide, by decide⟩
  obtain ⟨b1, b2, b3, b4, b5⟩ := cmt_gd (c := ⟨sm, J, S, [y2], false⟩) (y := y2) (t := []) hg rfl hyo (by show Fwd J.n.c [4]; rw [hn]; exact Fwd.of (by decide)) (by show J.n.b < _; rw [hn]; decide) (by show J.g < _; rw [hj]; decide)
  have hce : ¬ cmtE ⟨sm, J, S, [y2], false⟩ ≠ 0 := fun h => h b1
  refine ⟨_, _, ?_, ?_, ?_, b2, ?_⟩
  · unfold taC; rw [if_neg he, if_neg hs, if_neg hT, if_neg hK2, if_pos hK]
    show cmtC ⟨sm, J, S, [y2], false⟩ m4 = _
    unfold cmtC; rw [if_neg hci, if_neg hce]; rfl
  · unfold taM; rw [if_neg he, if_neg hs, if_neg hT, if_neg hK2, if_pos hK]
    show cmtM ⟨sm, J, S, [y2], false⟩ m4 = _
    unfold cmtM; rw [if_neg hci, if_neg hce]; rfl
  · unfold taE; rw [if_neg he, if_neg hs, if_neg hT, if_neg hK2, if_pos hK]
    show cmtR ⟨sm, J, S, [y2], false⟩ m4 = _
    unfold cmtR; rw [if_neg hci, if_neg hce]
  · rw [b3]
    show (⟨J.n.b + 1, J.n.c, [4], J.n.a⟩ : Nt) = _
    rw [hn]; rfl
theorem kv_nil (w : World) : Kv w (.slice none 0 0) [] := ⟨none, 0, rfl, Nat.le_refl _, by simp [maxLen], fun _ => rfl, fun i hi => by simp [ib] at hi⟩
theorem qv_nil (w : World) : Qv w (.slice none 0 0) [] := ⟨⟨none, 0, rfl, Nat.le_refl _, by simp [maxLen], fun _ => rfl, fun i hi => by simp at hi⟩, by simp⟩
section

variable {wz w w' w2 : World} {A E C B : Nat → Prop} {sb cb jb : Nat} {c : Cs} {p : Pn} {v ev : Value} {mo : Option Ms} {l : List Int} {k F T b a : Int}

theorem ml_own {base : Nat} (he : OwN base w ev l) (hl : In64 l) (hA : ∀ x, ev.ownBlock = some x → A x) : ∀ w', ChA wz A w w' → ML w' ⟨k, F, T, b, a, 0, l, [], []⟩ ev (.slice none 0 0) (.slice none 0 0) := fun _ hc =>
  ⟨nv_sv (own_nv (row_keep he fun x hx => hc.block x (he.lt x hx).2 (fun h => h.2 (hA x hx))) hl), kv_nil _, qv_nil _⟩
theorem MgR.keep (h : MgR B w v mo) (hk : ∀ x, B x → w'.heap[x]? = w.heap[x]?) : MgR B w' v mo := by
  cases mo with
  | none => exact h
  | some m =>
    obtain ⟨g, ev, e, h1, h2, h3, h4⟩ := h
    exact ⟨g, ev, e, by rw [hk g h3]; exact h1, row_keep h2 fun x hx => hk x (h4 x hx), h3, h4⟩
theorem MgR.cha (h : MgR B w v mo) (hc : ChA wz A w w') (hB : ∀ x, B x → A x) (hl : ∀ x, A x → x < w.heap.size) : MgR B w' v mo := h.keep fun x hx => hc.block x (hl x (hB x hx)) (fun h => h.2 (hB x hx))
set_option maxRecDepth 100000 in
set_option maxHeartbeats 4000000 in
theorem awake19_walk : Calls Try.prog 4 #[] w fun e w' => e = .returned (.bool true) ∧ Below w.heap.size w w' := by
  go_enter Try.func4, Try.ntmps4
  go_wp2_with fail
  refine small_walk.mono ?_
  rintro e w1 ⟨rfl, hB1⟩
  have HB1 : Hid (Below w.heap.size w w1) := hB1
  have HO1 : Hid (Ov w1 (.slice none 0 0) sm.l) := ⟨⟨none, 0, rfl, Nat.le_refl _, by simp [maxLen], fun _ => rfl, fun i hi => by cases hi⟩, fun o ho => by cases ho⟩
  clear hB1
  go_wp2_with fail
  refine (fresh_walk (p := sm) HO1.out).mono ?_
  rintro e w2 (⟨h9, _⟩ | ⟨_, sb, cb, rfl, hcw⟩)
  · cases h9
  have HC2 : Hid (CW w1 (fun _ => False) sb cb (frC sm) w2) := hcw
  obtain ⟨J1, S1, s1, s2, s3, hg1, hn1, hj1, hw1⟩ := cAw1
  have HG1 : Hid (Gd 1 J1 S1) := hg1
  have HN1 : Hid (J1.n = ⟨0, [0], [0], 1⟩) := hn1
  have HJ1 : Hid (J1.g = 2) := hj1
  have HWR1 : Hid (S1.wr = 3) := hw1
  have HS1 : Hid (tikC (frC sm) = ⟨sm, J1, S1, [y1], false⟩ ∧ tikM (frC sm) = some m1 ∧ tikE (frC sm) = 0) := ⟨s1, s2, s3⟩
  clear hcw hg1 hn1 hj1 hw1 s1 s2 s3
  go_wp2_with fail
  refine (tick_walk HC2.out (fun y hy => by cases hy) (by rw [(fr_gd sm_is).2.1]; omega)).mono ?_
  rw [HS1.out.1, HS1.out.2.1, HS1.out.2.2]
  rintro e w3 ⟨v3, B3, rfl, hmg, hBb, hcw, hch⟩
  have HM3 : Hid (MgR B3 w3 v3 (some m1)) := hmg
  obtain ⟨w4, hw4⟩ : ∃ w4, w4 = w3.alloc (.cells #[.int .i64 4] 3) := ⟨_, rfl⟩
  have hb34 : Below w3.heap.size w3 w4 := by rw [hw4]; exact below_alloc _ _
  have HC4 : Hid (CW w1 (fun x => (False ∨ B3 x) ∨ (w3.heap.size ≤ x ∧ x < w4.heap.size)) sb cb ⟨sm, J1, S1, [y1], false⟩ w4) := hcw.more hb34
  have HM4 : Hid (MgR B3 w4 v3 (some m1)) := hmg.keep fun x hx => hb34.block x (hcw.al (.inr hx))
  have HO4 : Hid (OwN 0 w4 (.slice (some ⟨w3.heap.size, 0, none⟩) 1 1) [4]) := by show OwN _ _ _ _; rw [hw4]; exact own_base (lit1 w3 4) (Nat.zero_le _)
  have HW4 : Hid (w4 = w3.alloc (.cells #[.int .i64 4] 3)) := hw4
  have HSZ4 : Hid (w3.heap.size < w4.heap.size) := by show _ < _; rw [hw4]; simp
  obtain ⟨ga, ea, rfl, _⟩ := hmg
  clear hBb hcw hch hw4 hb34
  go_wp2_with fail
  rw [← HW4.out]
  refine (take_walk19 (m := m2) HC4.out (ml_own HO4.out (fun v hv => by simp at hv; omega) (fun x hx => .inr ⟨by cases hx; exact Nat.le_refl _, by cases hx; exact HSZ4.out⟩)) (by show S1.wr < _; rw [HWR1.out]; omega)).mono ?_
  rw [(cAw2 HG1.out).1, (cAw2 HG1.out).2.1, (cAw2 HG1.out).2.2]
  rintro e w5 ⟨v5, B5, rfl, hmg, hBb, hcw, hch⟩
  have HM5 : Hid (MgR B5 w5 v5 (some m3)) := hmg
  have HM5a : Hid (MgR B3 w5 (.slice (some ⟨ga, 0, none⟩) 1 1) (some m1)) := HM4.out.cha hch (fun x hx => .inl (.inr hx)) (fun x hx => HC4.out.al hx)
  obtain ⟨w6, hw6⟩ : ∃ w6, w6 = w5.alloc (.cells #[.int .i64 4] 3) := ⟨_, rfl⟩
  have hb56 : Below w5.heap.size w5 w6 := by rw [hw6]; exact below_alloc _ _
  obtain ⟨A5, hA5⟩ : ∃ A5 : Nat → Prop, A5 = fun x => ((False ∨ B3 x) ∨ (w3.heap.size ≤ x ∧ x < w4.heap.size)) ∨ B5 x := ⟨_, rfl⟩
  rw [← hA5] at hcw
  have HC6 : Hid (CW w1 (fun x => A5 x ∨ (w5.heap.size ≤ x ∧ x < w6.heap.size)) sb cb ⟨sm, J1, S1, [y2], false⟩ w6) := hcw.more hb56
  have HA3 : Hid (∀ x, B3 x → A5 x) := fun x hx => by rw [hA5]; exact .inl (.inl (.inr hx))
  have HA5 : Hid (∀ x, B5 x → A5 x) := fun x hx => by rw [hA5]; exact .inr hx
  have HM6 : Hid (MgR B5 w6 v5 (some m3)) := hmg.keep fun x hx => hb56.block x (hcw.al (HA5.out x hx))
  have HM6a : Hid (MgR B3 w6 (.slice (some ⟨ga, 0, none⟩) 1 1) (some m1)) := HM5a.out.keep fun x hx => hb56.block x (hcw.al (HA3.out x hx))
  have HO6 : Hid (OwN 0 w6 (.slice (some ⟨w5.heap.size, 0, none⟩) 1 1) [4]) := by show OwN _ _ _ _; rw [hw6]; exact own_base (lit1 w5 4) (Nat.zero_le _)
  have HW6 : Hid (w6 = w5.alloc (.cells #[.int .i64 4] 3)) := hw6
  have HSZ6 : Hid (w5.heap.size < w6.heap.size) := by show _ < _; rw [hw6]; simp
  obtain ⟨gb, eb, rfl, _⟩ := hmg
  clear hBb hcw hch hw6 hb56 hA5
  go_wp2_with fail
  rw [← HW6.out]
  refine (take_walk19 (m := m4) HC6.out (ml_own HO6.out (fun v hv => by simp at hv; omega) (fun x hx => .inr ⟨by cases hx; exact Nat.le_refl _, by cases hx; exact HSZ6.out⟩)) (by show S1.wr < _; rw [HWR1.out]; omega)).mono ?_
  obtain ⟨J7, S7, t1, t2, t3, hg7, hn7⟩ := cAw3 HG1.out HN1.out HJ1.out
  rw [t1, t2, t3]
  rintro e w7 ⟨v7, B7, rfl, hmg, hBb, hcw, hch⟩
  have HM7 : Hid (MgR B5 w7 (.slice (some ⟨gb, 0, none⟩) 1 1) (some m3)) := HM6.out.cha hch (fun x hx => .inl (HA5.out x hx)) (fun x hx => HC6.out.al hx)
  have HM7a : Hid (MgR B3 w7 (.slice (some ⟨ga, 0, none⟩) 1 1) (some m1)) := HM6a.out.cha hch (fun x hx => .inl (HA3.out x hx)) (fun x hx => HC6.out.al hx)
  have HG7 : Hid (Gd 1 J7 S7) := hg7
  have HN7 : Hid (J7.n = ⟨1, [0], [4], 1⟩) := hn7
  have HC7 : Hid (CW w1 (fun _ => False) sb cb ⟨sm, J7, S7, [], false⟩ w7) := hcw.less (fun x hx => hx.elim)
  have hv7 : v7 = .slice none 0 0 := hmg
  subst hv7
  clear hmg hBb hcw hch t1 t2 t3 hg7 hn7
  go_wp2_with fail
  refine (cnote_walk HC7.out).mono ?_
  rw [HN7.out]
  rintro e w8 ⟨pa, pc, ca, cc, rfl, ho1, ho2, hB8⟩
  have HB8 : Hid (Below w7.heap.size w7 w8) := hB8
  have HO8 : Hid (OwN w7.heap.size w8 (.slice ca 1 cc) [4]) := ho2
  obtain ⟨w9, hw9⟩ : ∃ w9, w9 = w8.alloc (Obj.cells #[.int .i64 1, .slice pa 1 pc, .slice ca 1 cc, .int .i64 1] 53) := ⟨_, rfl⟩
  have hb89 : Below w8.heap.size w8 w9 := by rw [hw9]; exact below_alloc _ _
  have hb79 : Below w7.heap.size w7 w9 := below_trans hB8 hb89
  have HB79 : Hid (Below w7.heap.size w7 w9) := hb79
  have HN9 : Hid (w9.heap[w8.heap.size]? = some (.cells #[.int .i64 1, .slice pa 1 pc, .slice ca 1 cc, .int .i64 1] 53 (0, 0))) := by show _ = _; rw [hw9]; exact alloc_at rfl
  have HW9 : Hid (w9 = w8.alloc (Obj.cells #[.int .i64 1, .slice pa 1 pc, .slice ca 1 cc, .int .i64 1] 53)) := hw9
  have HO9 : Hid (OwN w7.heap.size w9 (.slice ca 1 cc) [4]) := own_below HO8.out hb89
  clear ho1 ho2 hB8 hw9 hb89 hb79
  go_upto_region 8 with fail
  rw [← HW9.out]
  obtain ⟨wA, hwA⟩ : ∃ wA, wA = (w9.alloc (.cells #[.int .i64 0] 3)).alloc (Obj.cells #[.int .i64 1, .int .i64 0, .int .i64 2, .int .i64 1, .int .i64 1, .int .i64 0, .slice (some ⟨w9.heap.size, 0, none⟩) 1 1, .slice none 0 0, .slice none 0 0] 41) := ⟨_, rfl⟩
  have hb9A : Below w9.heap.size w9 wA := by rw [hwA]; exact below_trans (below_alloc _ _) (below_alloc _ _)
  have HWA : Hid (wA = (w9.alloc (.cells #[.int .i64 0] 3)).alloc (Obj.cells #[.int .i64 1, .int .i64 0, .int .i64 2, .int .i64 1, .int .i64 1, .int .i64 0, .slice (some ⟨w9.heap.size, 0, none⟩) 1 1, .slice none 0 0, .slice none 0 0] 41)) := hwA
  have HB9A : Hid (Below w9.heap.size w9 wA) := hb9A
  have HGA : Hid (wA.heap[w9.heap.size + 1]? = some (.cells #[.int .i64 m1.K, .int .i64 m1.F, .int .i64 m1.T, .int .i64 m1.B, .int .i64 m1.A, .int .i64 m1.C, .slice (some ⟨w9.heap.size, 0, none⟩) 1 1, .slice none 0 0, .slice none 0 0] 41 (0, 0))) := by show _ = _; rw [hwA]; exact alloc_at (by simp)
  have HVA : Hid (Nv wA (.slice (some ⟨w9.heap.size, 0, none⟩) 1 1) m1.E) := by show Nv _ _ _; rw [hwA]; exact (nv1 w9 0 (by omega) (by omega)).below (below_alloc _ _)
  clear hwA hb9A
  go_wp2_with fail
  rw [← HWA.out]
  obtain ⟨g3, ev3, e3, h31, h32, _⟩ := HM7a.out
  cases e3
  refine (msgs1_walk (m := m1) (blk_below (blk_below h31 HB79.out) HB9A.out) HGA.out (((own_nv h32 (fun v hv => by simp [m1] at hv; omega)).below HB79.out).below HB9A.out) HVA.out).mono ?_
  clear h31 h32
  rintro e wB ⟨rfl, hBB⟩
  have HB9B : Hid (Below w9.heap.size w9 wB) := HB9A.out.trans (hBB.mono HB9A.out.size)
  clear hBB
  obtain ⟨wC, hwC⟩ : ∃ wC, wC = (wB.alloc (.cells #[.int .i64 4] 3)).alloc (Obj.cells #[.int .i64 3, .int .i64 0, .int .i64 2, .int .i64 1, .int .i64 1, .int .i64 0, .slice (some ⟨wB.heap.size, 0, none⟩) 1 1, .slice none 0 0, .slice none 0 0] 41) := ⟨_, rfl⟩
  have hbBC : Below wB.heap.size wB wC := by rw [hwC]; exact below_trans (below_alloc _ _) (below_alloc _ _)
  have HWC : Hid (wC = (wB.alloc (.cells #[.int .i64 4] 3)).alloc (Obj.cells #[.int .i64 3, .int .i64 0, .int .i64 2, .int .i64 1, .int .i64 1, .int .i64 0, .slice (some ⟨wB.heap.size, 0, none⟩) 1 1, .slice none 0 0, .slice none 0 0] 41)) := hwC
  have HB9C : Hid (Below w9.heap.size w9 wC) := HB9B.out.trans (hbBC.mono HB9B.out.size)
  have HGC : Hid (wC.heap[wB.heap.size + 1]? = some (.cells #[.int .i64 m3.K, .int .i64 m3.F, .int .i64 m3.T, .int .i64 m3.B, .int .i64 m3.A, .int .i64 m3.C, .slice (some ⟨wB.heap.size, 0, none⟩) 1 1, .slice none 0 0, .slice none 0 0] 41 (0, 0))) := by show _ = _; rw [hwC]; exact alloc_at (by simp)
  have HVC : Hid (Nv wC (.slice (some ⟨wB.heap.size, 0, none⟩) 1 1) m3.E) := by show Nv _ _ _; rw [hwC]; exact (nv1 wB 4 (by omega) (by omega)).below (below_alloc _ _)
  clear hwC hbBC
  go_wp2_with fail
  rw [← HWC.out]
  obtain ⟨g5, ev5, e5, h51, h52, _⟩ := HM7.out
  cases e5
  refine (msgs1_walk (m := m3) (blk_below (blk_below h51 HB79.out) HB9C.out) HGC.out (((own_nv h52 (fun v hv => by simp [m3] at hv; omega)).below HB79.out).below HB9C.out) HVC.out).mono ?_
  clear h51 h52
  rintro e wD ⟨rfl, hBD⟩
  have hb9D : Below w9.heap.size w9 wD := HB9C.out.trans (hBD.mono HB9C.out.size)
  have hND := blk_below HN9.out hb9D
  have n0 : wD.cell? ⟨w8.heap.size, 0, none⟩ = some (.int .i64 1) := by rw [blk_cell hND]; rfl
  have n2 : wD.cell? ⟨w8.heap.size, 2, none⟩ = some (.slice ca 1 cc) := by rw [blk_cell hND]; rfl
  have hnl : w8.heap.size < wD.heap.size := blk_lt hND
  obtain ⟨wE, hwE⟩ : ∃ wE, wE = wD.alloc (.cells #[.int .i64 4] 3) := ⟨_, rfl⟩
  have HWE : Hid (wE = wD.alloc (.cells #[.int .i64 4] 3)) := hwE
  have hbDE : Below wD.heap.size wD wE := by rw [hwE]; exact below_alloc _ _
  have HB9E : Hid (Below w9.heap.size w9 wE) := hb9D.trans (hbDE.mono hb9D.size)
  have HVE : Hid (Nv wE (.slice (some ⟨wD.heap.size, 0, none⟩) 1 1) [4]) := by show Nv _ _ _; rw [hwE]; exact nv1 wD 4 (by omega) (by omega)
  clear hBD hb9D hND hwE hbDE
  go_wp2_with fail
  rw [← HWE.out]
  refine (ints19_walk ((own_nv HO9.out (fun v hv => by simp at hv; omega)).below HB9E.out) HVE.out).mono ?_
  rw [decide_eq_true rfl]
  rintro e wF ⟨rfl, hBF⟩
  have hb9F : Below w9.heap.size w9 wF := HB9E.out.trans (hBF.mono HB9E.out.size)
  have HB7F : Hid (Below w7.heap.size w7 wF) := HB79.out.trans (hb9F.mono HB79.out.size)
  have hNF := blk_below HN9.out hb9F
  have n3 : wF.cell? ⟨w8.heap.size, 3, none⟩ = some (.int .i64 1) := by rw [blk_cell hNF]; rfl
  clear hBF hb9F hNF
  go_wp2_with fail
  refine (ctries_walk (HC7.out.below HB7F.out)).mono ?_
  rintro e wG ⟨vG, WG, rfl, hyG, hrG, _, hBG⟩
  have hWG : WG = [] := List.map_eq_nil_iff.1 hyG
  subst hWG
  obtain ⟨aG, cG, rfl, _⟩ := own_formY hrG
  have HBG : Hid (Below w7.heap.size w7 wG) := HB7F.out.trans (hBG.mono HB7F.out.size)
  clear hyG hrG hBG
  simp only [List.length_nil]
  go_wp2_with fail
  refine (cend_walk (HC7.out.below HBG.out)).mono ?_
  rw [gd_end (c := ⟨sm, J7, S7, [], false⟩) HG7.out rfl]
  rintro e wH ⟨rfl, hcw, _⟩
  have HCH : Hid (Below w1.heap.size w1 wH) := hcw.bel
  clear hcw
  go_wp2_with fail
  go_ret
  exact ⟨rfl, HB1.out.trans (HCH.out.mono HB1.out.size)⟩
end

end Go.Proofs.Ytpndafieknddcaa
