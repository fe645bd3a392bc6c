/- The reference's With where the key is new; With; the reference's Batch. -/
import Derived.Test.YtfcpooihihklaaaGreatKv
namespace Go.Proofs.YtfcpooihihklaaaGreat
open Ieee Go.RowKit

set_option maxRecDepth 100000 in
set_option maxHeartbeats 8000000 in
theorem with_new (kind : Int) {g cap B k : Nat} {t : List Pr} {v : Vl} (w : World) (hO : Ow w g cap t) (hB : B ≤ g) (hr : Rise t) (hv : v.ok) (hat : ∀ hl : posT k t < t.length, t[posT k t].k ≠ k) (hsz : (t.length + 1) * 24 ≤ 140737488355328) :
    Calls Tryz.prog 23 #[.int .i64 kind, .slice (some ⟨g, 0, none⟩) t.length cap, .int .u64 k, .agg #[.bool v.h, .int .u64 v.b]] w fun e w' => ∃ g' cap', e = .returned (.slice (some ⟨g', 0, none⟩) (withT kind k v t).length cap') ∧ Ow w' g' cap' (withT kind k v t) ∧ B ≤ g' ∧ Below B w w' := by
  have HO : Hid (Ow w g cap t) := hO
  have HBG : Hid (B ≤ g) := hB
  have HV : Hid v.ok := hv
  have HL : Hid (t.length ≤ maxLen) := Nat.le_trans hO.2.1 hO.2.2.1
  have HSZ : Hid ((t.length + 1) * 24 ≤ 140737488355328) := hsz
  have hli : (t.length : Int) ≤ 5864062014805 := by omega
  have hpl : posT k t ≤ t.length := pos_le k t
  obtain ⟨F, hF⟩ : ∃ F, F = fitV kind v := ⟨_, rfl⟩
  have HF : Hid (fitV kind v = F) := hF.symm
  have HW : Hid (withT kind k v t = t.take (posT k t) ++ ⟨k, F⟩ :: t.drop (posT k t)) := by
    show _ = _
    unfold withT
    rw [(put_new hr _ hat).1, (put_new hr noV hat).2, no_merge, hF]
  have HWL : Hid ((withT kind k v t).length = t.length + 1) := by show _ = _; rw [HW.out]; exact shift_len hpl _
  obtain ⟨i0, hi0, hz0, hz1, hz2⟩ := info_partsQ info_pair
  have HI0 : Hid (Tryz.prog.info? 42 = some i0) := hi0
  have HI1 : Hid (i0.zero = some (.agg #[.int .u64 0, .bool false, .int .u64 0])) := hz0
  have HI2 : Hid (i0.size = 3) := hz1
  have HI3 : Hid (i0.bytes = 24) := hz2
  have HAT : Hid (∀ hl : posT k t < t.length, t[posT k t].k ≠ k) := hat
  clear hF hO hv hr hsz hB hi0 hz0 hz1 hz2 hat
  go_enter Tryz.func23, Tryz.ntmps23
  go_wp2_with fail
  have hv0 : VB (w.alloc (Obj.cells #[.bool v.h, .int .u64 v.b] 40)) w.heap.size v := by constructor <;> simp [go_sem]
  refine (rplace_walk HL.out (mq_ql (HO.out.below (below_alloc w (Obj.cells #[.bool v.h, .int .u64 v.b] 40))).2.2.2) k).mono ?_
  rintro e w1 ⟨rfl, hB1⟩
  have HB1 : Hid (Below w.heap.size w w1) := below_trans (below_alloc _ _) hB1
  have HV1 : Hid (VB w1 w.heap.size v) := hv0.below hB1 (cell_lt hv0.c0)
  have HO1 : Hid (Ow w1 g cap t) := HO.out.below HB1.out
  have HG1 : Hid (g < w1.heap.size) := HO1.out.lt
  have HGW : Hid (g < w.heap.size) := HO.out.lt
  clear hB1 hv0
  go_upto_region 2 with (fail)
  go_cut [26] (fun c wx => c = .bool false ∧ wx = w1)
  case first =>
    by_cases hat : posT k t < t.length
    · obtain ⟨⟨m0, _, _⟩, _⟩ := HO1.out.2.2.2 (posT k t) hat
      have hne := HAT.out hat
      generalize t[posT k t].k = y at m0 hne
      have hkb : ((y : Int) == (k : Int)) = false := by simp; omega
      have hai : ((posT k t : Nat) : Int) < (t.length : Int) := by omega
      clear hne
      go_wp2_with fail
      go_meet
      exact ⟨rfl, rfl⟩
    · have hai : ¬ (((posT k t : Nat) : Int) < (t.length : Int)) := by omega
      go_wp2_with fail
      go_meet
      exact ⟨rfl, rfl⟩
  case rest =>
    obtain ⟨rfl, rfl⟩ := hcut
    obtain ⟨w1, hw1⟩ : ∃ w1, w1 = wc := ⟨_, rfl⟩
    subst hw1
    go_wp2_with (at_builtin; refine wpList_append_qg (by rfl) _ _ 25 (by rfl) B 42 i0 Tryz.underlying25 HI0.out HI1.out HI2.out HI3.out _ t.length t (by rfl) ((own_of_ow HO1.out HBG.out).alloc _) _ zP (by rfl) (by simp [go_sem, zP]) (by simp [go_sem, zP, noV]) (by simp [go_sem, zP, noV]) (by have := HSZ.out; simp only [maxLen]; omega) HSZ.out (by have := HG1.out; have := HBG.out; simp; omega) ?_; intro g2 cap2 w2 hown2 hgrow2)
    obtain ⟨hO2, hb2, _⟩ := ow_of_own hown2
    have HO2 : Hid (Ow w2 g2 cap2 (t ++ [zP])) := hO2
    have HB2G : Hid (B ≤ g2) := hb2
    have HB2 : Hid (Below B w w2) := by
      have h1 : Below B w w1 := HB1.out.mono (Nat.le_trans HBG.out (Nat.le_of_lt HGW.out))
      exact (h1.alloc (Nat.le_trans HBG.out (Nat.le_of_lt HG1.out)) _).grown hgrow2 (by have := HG1.out; have := HBG.out; simp; omega) (by simp [Value.ownBlock]; exact HBG.out)
    have HV2 : Hid (VB w2 w.heap.size v) := by
      have h1 := HV1.out.below (below_alloc w1 (Obj.cells #[.int .u64 0, .bool false, .int .u64 0] 42)) (cell_lt HV1.out.c0)
      have hb := hgrow2.block w.heap.size (cell_lt h1.c0) (by have := HGW.out; simp [Value.ownBlock]; omega)
      exact ⟨by rw [World.cell?_of_block (w := w1.alloc _) hb]; exact h1.c0, by rw [World.cell?_of_block (w := w1.alloc _) hb]; exact h1.c1, by rw [World.frozen?_of_block (w := w1.alloc _) hb]; exact h1.z0, by rw [World.frozen?_of_block (w := w1.alloc _) hb]; exact h1.z1⟩
    have HGV : Hid (g2 ≠ w.heap.size) := by
      intro he
      have hc := HV2.out.c0
      obtain ⟨⟨m0, _, _⟩, _⟩ := HO2.out.2.2.2 0 (by simp)
      rw [he, Nat.zero_mul, hc] at m0
      cases m0
    have HAPP : Hid (Ow w2 g2 cap2 (t.take t.length ++ zP :: t.drop t.length)) := by
      have := HO2.out
      show Ow _ _ _ _
      rw [List.take_length, List.drop_length]
      exact this
    clear hown2 hgrow2 hO2 hb2
    have R0 : Wh w B g2 cap2 w.heap.size v t (posT k t) (.int .i64 t.length) w2 := ⟨t.length, zP, hpl, Nat.le_refl _, rfl, HAPP.out, HV2.out, HB2.out⟩
    generalize hNe : t.length + 1 = N
    have HN : Hid (t.length + 1 = N) := hNe
    have hw9 : IntKind.i64.wrap ((N : Int) - 1) = (t.length : Int) := by rw [wrap_small (by omega) (by omega)]; omega
    have hNi : (N : Int) ≤ 5864062014806 := by omega
    clear hNe
    go_wp2_with fail
    go_loopw [10] (fun iv wr => Wh w B g2 cap2 w.heap.size v t (posT k t) iv wr) (fun iv _ => (intOf iv).toNat)
    case atStart => exact R0
    case round =>
      clear R0 hw9
      obtain ⟨i, x, hai, hil, rfl, hO, hVB, hBB⟩ := hrel
      have HOI : Hid (Ow wr g2 cap2 (t.take i ++ x :: t.drop i)) := hO
      have HVI : Hid (VB wr w.heap.size v) := hVB
      have HBI : Hid (Below B w wr) := hBB
      clear hO hVB hBB
      have hl1 := shift_len hil x
      by_cases hgt : posT k t < i
      · obtain ⟨j, hj⟩ : ∃ j, i = j + 1 := ⟨i - 1, by omega⟩
        subst hj
        have hjt : j < t.length := by omega
        obtain ⟨⟨m0, m1, m2⟩, _⟩ := HOI.out.2.2.2 j (by omega)
        rw [shift_get hjt] at m0 m1 m2
        obtain ⟨⟨n0, n1, n2⟩, y0, y1, y2⟩ := HOI.out.2.2.2 (j + 1) (by omega)
        have R' := HOI.out.set (j := j + 1) (by omega) t[j]
        rw [shift_step hjt] at R'
        generalize t[j] = o at m0 m1 m2 R'
        generalize (t.take (j + 1) ++ x :: t.drop (j + 1))[j + 1].k = z0 at n0
        generalize (t.take (j + 1) ++ x :: t.drop (j + 1))[j + 1].v.h = z1 at n1
        generalize (t.take (j + 1) ++ x :: t.drop (j + 1))[j + 1].v.b = z2 at n2
        have hgi : ((posT k t : Nat) : Int) < ((j : Int) + 1) := by omega
        have hwj : IntKind.i64.wrap (j : Int) = j := wrap_small (by omega) (by omega)
        have hwk : IntKind.i64.wrap (((j + 1 : Nat) : Int) - 1) = j := by rw [wrap_small (by omega) (by omega)]; omega
        have hj1 : j + 1 < N := by have := HN.out; omega
        have hj0 : j < N := by omega
        have HR2 : Hid (Wh w B g2 cap2 w.heap.size v t (posT k t) (.int .i64 (j : Int)) (((wr.setCell ⟨g2, (j + 1) * 3, none⟩ (.int .u64 o.k)).setCell ⟨g2, (j + 1) * 3 + 1, none⟩ (.bool o.v.h)).setCell ⟨g2, (j + 1) * 3 + 2, none⟩ (.int .u64 o.v.b))) :=
          ⟨j, o, by omega, by omega, rfl, R', ((HVI.out.other (by simpa using HGV.out.symm) _).other (by simpa using HGV.out.symm) _).other (by simpa using HGV.out.symm) _, keep3 HBI.out HB2G.out _ _ _ _ _ _⟩
        clear R' hgt hai hil hl1
        go_wp2_with fail
        go_roundw
        case rel => exact HR2.out
        case measure => simp [intOf]
      · have hei : i = posT k t := by omega
        have HOE : Hid (Ow wr g2 cap2 (t.take (posT k t) ++ x :: t.drop (posT k t))) := by rw [← hei]; exact HOI.out
        have hgi : ¬ (((posT k t : Nat) : Int) < (i : Int)) := by omega
        obtain ⟨c0, c1, _, _⟩ := HVI.out
        clear hgt hai hil hl1 hei
        go_wp2_with fail
        refine (rfit_walk kind HV.out _).mono ?_
        rw [HF.out]
        rintro e w5 ⟨rfl, hB5⟩
        have HO5 : Hid (Ow w5 g2 cap2 (t.take (posT k t) ++ x :: t.drop (posT k t))) := HOE.out.below hB5
        have HB5 : Hid (Below B w w5) := below_both HBI.out (Nat.le_trans HB2G.out (Nat.le_of_lt HOI.out.lt)) hB5
        clear hB5 c0 c1
        have hlp := shift_len hpl x
        obtain ⟨⟨n0, n1, n2⟩, y0, y1, y2⟩ := HO5.out.2.2.2 (posT k t) (by omega)
        have R' := HO5.out.set (j := posT k t) (by omega) ⟨k, F⟩
        rw [shift_end hpl] at R'
        have HR' : Hid (Ow (((w5.setCell ⟨g2, posT k t * 3, none⟩ (.int .u64 k)).setCell ⟨g2, posT k t * 3 + 1, none⟩ (.bool F.h)).setCell ⟨g2, posT k t * 3 + 2, none⟩ (.int .u64 F.b)) g2 cap2 (t.take (posT k t) ++ ⟨k, F⟩ :: t.drop (posT k t))) := R'
        clear R'
        generalize (t.take (posT k t) ++ x :: t.drop (posT k t))[posT k t].k = z0 at n0
        generalize (t.take (posT k t) ++ x :: t.drop (posT k t))[posT k t].v.h = z1 at n1
        generalize (t.take (posT k t) ++ x :: t.drop (posT k t))[posT k t].v.b = z2 at n2
        have hpi : posT k t < N := by have := HN.out; omega
        clear hlp hgi hpl
        go_wp2_with fail
        go_ret
        refine ⟨g2, cap2, ?_, ?_, HB2G.out, ?_⟩
        · rw [HWL.out, HN.out]; rfl
        · rw [HW.out]; exact HR'.out
        · exact keep3 HB5.out HB2G.out _ _ _ _ _ _

theorem rwith_walk (kind : Int) {g cap B k : Nat} {t : List Pr} {v : Vl} (w : World) (hO : Ow w g cap t) (hB : B ≤ g) (hr : Rise t) (ht : okT t) (hv : v.ok) (hsz : (t.length + 1) * 24 ≤ 140737488355328) :
    Calls Tryz.prog 23 #[.int .i64 kind, .slice (some ⟨g, 0, none⟩) t.length cap, .int .u64 k, .agg #[.bool v.h, .int .u64 v.b]] w fun e w' => ∃ g' cap', e = .returned (.slice (some ⟨g', 0, none⟩) (withT kind k v t).length cap') ∧ Ow w' g' cap' (withT kind k v t) ∧ B ≤ g' ∧ Below B w w' := by
  by_cases h : ∃ hl : posT k t < t.length, t[posT k t].k = k
  · obtain ⟨hl, he⟩ := h
    exact with_found kind w hO hB ht hv hl he
  · exact with_new kind w hO hB hr hv (fun hl he => h ⟨hl, he⟩) hsz
end Go.Proofs.YtfcpooihihklaaaGreat
