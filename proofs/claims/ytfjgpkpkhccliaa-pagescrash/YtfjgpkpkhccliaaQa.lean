/- PagesCrash's walk. -/
import Derived.Test.YtfjgpkpkhccliaaPt
namespace Go.Proofs.Ytfjgpkpkhccliaa
open Go.RowKit

theorem tx_nil (A : Nat → Prop) (w : World) : Tx A w (.slice none 0 0) [] := ⟨⟨none, 0, rfl, Nat.le_refl _, by simp [maxLen], fun _ => rfl, fun i hi => by simp at hi⟩, fun p hp => by simp at hp⟩
theorem get_end (P : Bo) (S : Dk) (p : Int) : getI (endB P) S p = 80 ∧ getS (endB P) S p = S ∧ getB (endB P) S = endB P := by
  have h : shutB (endB P) S = true := rfl
  unfold getI getS getB
  rw [if_pos h, if_pos h, if_pos h]
  exact ⟨rfl, rfl, rfl⟩
def CrRel (w : World) (n : Nat) (pb sb wb : Nat) (iv : Value) (wr : World) : Prop :=
  ∃ (k : Nat) (A : Nat → Prop) (P : Bo) (S : Dk) (V : List (List Nat)), k ≤ n ∧ k ≤ 64 ∧ iv = .int .i64 k ∧ Ws w wr (.pointer (some ⟨pb, 0, none⟩)) (.pointer (some ⟨sb, 0, none⟩)) wb A P S V V k ∧ S.left = -1

set_option maxRecDepth 100000 in
set_option maxHeartbeats 8000000 in
theorem crash_walk {w : World} {lv tv : Value} {lss : List (List (Int × List Nat))} {ts : List (Int × List Nat)} {cut : Int} (hl : Lv w lv lss) (ht : Tv w tv ts) :
    Calls Try.prog 6 #[lv, tv, .int .i64 cut] w fun e w' => e = .returned (.bool true) ∧ Below w.heap.size w w' := by
  have HL : Hid (Lv w lv lss) := hl
  have HTT : Hid (Tv w tv ts) := ht
  obtain ⟨lo, lc, rfl, hl1, hl2⟩ := hl.form
  obtain ⟨so, sc, rfl, _, _⟩ := ht.form
  have hli : (lss.length : Int) ≤ 9223372036854775807 := by simp only [maxLen] at hl2; omega
  clear hl ht hl1 hl2
  go_enter Try.func6, Try.ntmps6
  go_wp2_with fail
  refine (awake_walk w).mono ?_
  rintro e w0 ⟨rfl, hB0⟩
  have HB0 : Hid (Below w.heap.size w w0) := hB0
  clear hB0
  go_wp2_with fail
  refine (room_walk w0).mono ?_
  rintro e w1 ⟨A1, pb, sb, rfl, hK1, hA1, hB1⟩
  have HZ : Hid (Ws w (w1.alloc (Obj.cells #[.string ⟨#[]⟩, .string ⟨#[]⟩, .string ⟨#[]⟩, .string ⟨#[]⟩, .string ⟨#[]⟩, .string ⟨#[]⟩, .string ⟨#[]⟩, .string ⟨#[]⟩] 61)) (.pointer (some ⟨pb, 0, none⟩)) (.pointer (some ⟨sb, 0, none⟩)) w1.heap.size A1 rmP rmS (List.replicate 8 []) (List.replicate 8 []) 0) := by
    have hs0 := HB0.out.size
    have hs1 := hB1.size
    exact ⟨hK1.below (below_alloc _ _), rm_iv, fun b hb c hc => by rw [(List.mem_replicate.1 hb).2] at hc; simp at hc, fun x hx => Nat.le_trans hs0 (hA1 x hx), wb_zero w1, fun e => by have := hK1.lt e; omega, by omega, below_trans (below_trans HB0.out hB1) (below_alloc _ _), Nat.le_refl _, Nat.le_refl _, Nat.le_refl _⟩
  have HLF : Hid (rmS.left = -1) := rfl
  obtain ⟨wb, hwb⟩ : ∃ wb, wb = w1.heap.size := ⟨_, rfl⟩
  rw [← hwb] at HZ
  have HWB : Hid (wb = w1.heap.size) := hwb
  clear hK1 hA1 hB1 hwb
  go_wp2_with fail
  rw [← HWB.out]
  go_loopw [10] (fun iv wr => CrRel w lss.length pb sb wb iv wr) (fun iv _ => lss.length - (intOf iv).toNat)
  case atStart => exact ⟨0, A1, rmP, rmS, _, Nat.zero_le _, Nat.zero_le _, rfl, HZ.out, rfl⟩
  case round =>
    obtain ⟨k, A, P, S, V, hk, hk64, rfl, hS, hlf⟩ := hrel
    have HS : Hid (Ws w wr (.pointer (some ⟨pb, 0, none⟩)) (.pointer (some ⟨sb, 0, none⟩)) wb A P S V V k) := hS
    have HLEFT : Hid (S.left = -1) := hlf
    have HK : Hid (k ≤ 64) := hk64
    clear hS hlf HZ HWB
    by_cases hgo : k < lss.length ∧ k < 64
    · obtain ⟨hlt, h64⟩ := hgo
      obtain ⟨lb, off, u, rfl, hcu, hTv⟩ := HL.out.at hlt
      have hlti : (k : Int) < (lss.length : Int) := by omega
      have h64i : (k : Int) < 64 := by omega
      have HTV : Hid (Tx (fun x => w.heap.size ≤ x) wr u lss[k]) := hTv.later HS.out.be
      have hu : wr.cell? ⟨lb, off + k, none⟩ = some u := by rw [HS.out.be.cell (p := ⟨lb, off + k, none⟩) (cell_lt hcu)]; exact hcu
      obtain ⟨ps, hps⟩ : ∃ ps, ps = fitL lss[k] := ⟨_, rfl⟩
      have HOK : Hid (Lok 8 ps) := by rw [hps]; exact fit_ok _
      have HPS : Hid (fitL lss[k] = ps) := hps.symm
      clear hcu hTv hps
      go_wp2_with fail
      refine (fit_walk HTV.out HS.out.be.size).mono ?_
      rw [HPS.out]
      rintro e w2 ⟨fo, fc, rfl, hT2, hB2⟩
      have HS2 : Hid (Ws w w2 (.pointer (some ⟨pb, 0, none⟩)) (.pointer (some ⟨sb, 0, none⟩)) wb A P S V V k) := HS.out.below hB2
      have HT2 : Hid (Tx (Aw A wb) w2 (.slice fo ps.length fc) ps) := HS.out.apartW hT2
      clear hT2 hB2 hu
      obtain ⟨P', S', hO, hI', hg', hw', hr', hl'⟩ := put_free HS2.out.iv HOK.out (by have := HS2.out.gn; have := HK.out; omega) HLEFT.out
      have HO : Hid (putO P S ps = (0, P', S')) := hO
      have HI' : Hid (Iv P' S' (withL V ps)) := hI'
      have HN' : Hid (P'.gen ≤ P.gen + 1 ∧ S'.wr = S.wr + cntN ps + (if ps = [] then 0 else 1) ∧ S'.rd = S.rd ∧ S'.left = -1) := ⟨hg', hw', hr', hl'⟩
      clear hO hI' hg' hw' hr' hl'
      go_wp2_with fail
      refine (put_walk9 HS2.out.bk (tx_of HT2.out) (by have := HS2.out.wc; have := HK.out; omega)).mono ?_
      rintro e w3 ⟨rfl, ⟨A', hK3, hx3⟩, hC3⟩
      rw [HO.out] at hK3
      rw [HO.out]
      have HS3 : Hid (Ws w w3 (.pointer (some ⟨pb, 0, none⟩)) (.pointer (some ⟨sb, 0, none⟩)) wb A' P' S' (withL V ps) V (k + 1)) := by
        have h1 := HN'.out
        have h2 := cnt_le HOK.out
        have h3 := HS2.out.gn
        have h4 := HS2.out.wc
        have h5 := HS2.out.rd
        refine HS2.out.turn hK3 hx3 hC3 HI'.out (with_bytes ps V HS2.out.by' HT2.out.bytes) (by omega) ?_ (by omega)
        have h6 := h1.2.1
        split at h6 <;> omega
      have HT3 : Hid (Tx (Aw A' wb) w3 (.slice fo ps.length fc) ps) := tx_put HT2.out hC3 hx3
      clear hK3 hx3 hC3
      obtain ⟨a0, a1, a2, a3, a4, a5, a6, a7, hV⟩ := eight (W := V) HS3.out.wk.2
      have HV : Hid (V = [a0, a1, a2, a3, a4, a5, a6, a7]) := hV
      have hwk := HS3.out.wk
      rw [hV] at hwk
      obtain ⟨c0, c1, c2, c3, c4, c5, c6, c7⟩ := wb_cells hwk
      clear hV hwk
      go_wp2_with fail
      refine (with8 HT3.out (fun q hq => HOK.out.pg q hq)).mono ?_
      rintro e w4 ⟨⟨b0, b1, b2, b3, b4, b5, b6, b7, rfl, hV2⟩, hB4⟩
      have HV2 : Hid (withL V ps = [b0, b1, b2, b3, b4, b5, b6, b7]) := by show _ = _; rw [HV.out]; exact hV2
      have HS4a : Hid (Ws w w4 (.pointer (some ⟨pb, 0, none⟩)) (.pointer (some ⟨sb, 0, none⟩)) wb A' P' S' (withL V ps) [a0, a1, a2, a3, a4, a5, a6, a7] (k + 1)) := by
        have := HS3.out.below hB4
        rw [HV.out] at this ⊢
        exact this
      have HT4 : Hid (Tx (Aw A' wb) w4 (.slice fo ps.length fc) ps) := HT3.out.below hB4
      clear hB4 hV2
      clear c0 c1 c2 c3 c4 c5 c6 c7
      obtain ⟨c0, c1, c2, c3, c4, c5, c6, c7⟩ := wb_cells HS4a.out.wk
      obtain ⟨f0, f1, f2, f3, f4, f5, f6, f7⟩ := wb_soft HS4a.out.wk
      obtain ⟨w5, hw5⟩ : ∃ w5, w5 = ((((((((w4.setCell ⟨wb, 0, none⟩ (.string (str b0))).setCell ⟨wb, 1, none⟩ (.string (str b1))).setCell ⟨wb, 2, none⟩ (.string (str b2))).setCell ⟨wb, 3, none⟩ (.string (str b3))).setCell ⟨wb, 4, none⟩ (.string (str b4))).setCell ⟨wb, 5, none⟩ (.string (str b5))).setCell ⟨wb, 6, none⟩ (.string (str b6))).setCell ⟨wb, 7, none⟩ (.string (str b7))) := ⟨_, rfl⟩
      have HS5 : Hid (Ws w w5 (.pointer (some ⟨pb, 0, none⟩)) (.pointer (some ⟨sb, 0, none⟩)) wb A' P' S' (withL V ps) (withL V ps) (k + 1)) := by show Ws _ _ _ _ _ _ _ _ _ _ _; rw [hw5, HV2.out]; rw [HV2.out] at HS4a; exact HS4a.out.store
      have HT5 : Hid (Tx (Aw A' wb) w5 (.slice fo ps.length fc) ps) := by show Tx _ _ _ _; rw [hw5]; exact tx_store HT4.out b0 b1 b2 b3 b4 b5 b6 b7
      have HW5 : Hid (w5 = ((((((((w4.setCell ⟨wb, 0, none⟩ (.string (str b0))).setCell ⟨wb, 1, none⟩ (.string (str b1))).setCell ⟨wb, 2, none⟩ (.string (str b2))).setCell ⟨wb, 3, none⟩ (.string (str b3))).setCell ⟨wb, 4, none⟩ (.string (str b4))).setCell ⟨wb, 5, none⟩ (.string (str b5))).setCell ⟨wb, 6, none⟩ (.string (str b6))).setCell ⟨wb, 7, none⟩ (.string (str b7)))) := hw5
      clear hw5
      go_wp2_with fail
      rw [← HW5.out]
      go_roundw
      case rel => exact ⟨k + 1, A', P', S', _, hlt, by omega, by simp, HS5.out, HN'.out.2.2.2⟩
      case measure => simp [intOf]; omega
    · have HGO : Hid (¬ (k < lss.length ∧ k < 64)) := hgo
      clear hgo
      by_cases hlt : k < lss.length
      · have h4d : decide ((k : Int) < 64) = false := decide_eq_false (by have := HGO.out; omega)
        have h4 : (64 : Int) ≤ (k : Int) := by have := HGO.out; omega
        have HTV : Hid (Tx (fun x => w.heap.size ≤ x) wr (.slice so ts.length sc) ts) := HTT.out.later HS.out.be
        obtain ⟨ps, hps⟩ : ∃ ps, ps = fitL ts := ⟨_, rfl⟩
        have HOK : Hid (Lok 8 ps) := by rw [hps]; exact fit_ok _
        have HPS : Hid (fitL ts = ps) := hps.symm
        have hm1 : modN cut 11 < 11 := mod_lt cut (by omega)
        have hm2 : (IntKind.u64.wrap cut).tmod 11 = (modN cut 11 : Int) := mod_eq cut (n := 11)
        obtain ⟨m, hm⟩ : ∃ m, m = modN cut 11 := ⟨_, rfl⟩
        rw [← hm] at hm1 hm2
        have hmi : (m : Int) < 11 := by omega
        have hmw : IntKind.i64.wrap (m : Int) = (m : Int) := wrapU (by omega) (by omega)
        have HM : Hid (m < 11) := hm1
        clear hps hm
        go_wp2_with fail
        refine (fit_walk HTV.out HS.out.be.size).mono ?_
        rw [HPS.out]
        rintro e w2 ⟨fo, fc, rfl, hT2, hB2⟩
        have HS2 : Hid (Ws w w2 (.pointer (some ⟨pb, 0, none⟩)) (.pointer (some ⟨sb, 0, none⟩)) wb A P S V V k) := HS.out.below hB2
        have HT2 : Hid (Tx (Aw A wb) w2 (.slice fo ps.length fc) ps) := HS.out.apartW hT2
        clear hT2 hB2
        go_wp2_with fail
        obtain ⟨D2, hD2, hDA, hre⟩ := HS2.out.bk.disk
        refine (cut_walk hD2 (n := m) (by have := HM.out; omega)).mono ?_
        rintro e w3 ⟨rfl, hD3, hC3⟩
        have hcb : (cutS S m).bl = S.bl := rfl
        have HS3 : Hid (Ws w w3 (.pointer (some ⟨pb, 0, none⟩)) (.pointer (some ⟨sb, 0, none⟩)) wb (fun x => A x ∨ D2 x) P (cutS S m) V V k) := by
          have hCA : Ch A w2 w3 := ⟨hC3.os, hC3.tape, hC3.output, hC3.size, fun x hx hn => hC3.block x hx (fun e => hn (hDA x e))⟩
          exact HS2.out.turn (hre D2 w3 _ hD3 (fun x hx => .inl hx) hC3 rfl) (fun x hx => by rcases hx with q | q; exact .inl q; exact .inl (hDA x q)) hCA (HS2.out.iv.turn HS2.out.iv.dn rfl (fun _ _ => rfl)) HS2.out.by' HS2.out.gn HS2.out.wc HS2.out.rd
        have HT3 : Hid (Tx (Aw (fun x => A x ∨ D2 x) wb) w3 (.slice fo ps.length fc) ps) := tx_put HT2.out ⟨hC3.os, hC3.tape, hC3.output, hC3.size, fun x hx hn => hC3.block x hx (fun e => hn (hDA x e))⟩ (fun x hx => by rcases hx with q | q; exact .inl q; exact .inl (hDA x q))
        clear hD2 hDA hre hD3 hC3 hcb
        obtain ⟨S1, hS1⟩ : ∃ S1, S1 = cutS S m := ⟨_, rfl⟩
        obtain ⟨A1', hA1'⟩ : ∃ A1' : Nat → Prop, A1' = fun x => A x ∨ D2 x := ⟨_, rfl⟩
        rw [← hS1, ← hA1'] at HS3
        rw [← hA1'] at HT3
        clear hS1 hA1'
        have hcase : (∃ P' S', putO P S1 ps = (0, P', S') ∧ Iv P' S' (withL V ps) ∧ P'.gen ≤ P.gen + 1 ∧ S'.wr ≤ S1.wr + 9 ∧ S'.rd = S1.rd) ∨ (∃ S', putO P S1 ps = (80, endB P, S') ∧ S'.down = true ∧ Iv P (onS S') V ∧ S'.rd = S1.rd ∧ S'.wr ≤ S1.wr + 9) := by
          by_cases hp : ps = []
          · exact .inl ⟨P, S1, put_empty HS3.out.iv.shut hp, by rw [hp]; exact HS3.out.iv, by omega, by omega, rfl⟩
          · rcases put_iv HS3.out.iv HOK.out hp (by have := HS3.out.gn; have := HK.out; omega) with ⟨P', S', a, b, c, _, d, e, _⟩ | ⟨S', a, b, c, d, e, f⟩
            · have := cnt_le HOK.out
              exact .inl ⟨P', S', a, b, by omega, by omega, e⟩
            · exact .inr ⟨S', a, b, c, e, f⟩
        rcases hcase with ⟨P', S', hO, hI', hg', hw', hr'⟩ | ⟨S', hO, hdn, hI', hr', hw'⟩
        · have HO : Hid (putO P S1 ps = (0, P', S')) := hO
          have HI' : Hid (Iv P' S' (withL V ps)) := hI'
          have HN' : Hid (P'.gen ≤ P.gen + 1 ∧ S'.wr ≤ S1.wr + 9 ∧ S'.rd = S1.rd) := ⟨hg', hw', hr'⟩
          clear hO hI' hg' hw' hr'
          go_wp2_with fail
          refine (put_walk9 HS3.out.bk (tx_of HT3.out) (by have := HS3.out.wc; have := HK.out; omega)).mono ?_
          rintro e w4 ⟨rfl, ⟨A', hK4, hx4⟩, hC4⟩
          rw [HO.out] at hK4
          rw [HO.out]
          have HS4 : Hid (Ws w w4 (.pointer (some ⟨pb, 0, none⟩)) (.pointer (some ⟨sb, 0, none⟩)) wb A' P' S' (withL V ps) V (k + 1)) := by
            have h1 := HN'.out
            have h3 := HS3.out.gn
            have h4 := HS3.out.wc
            have h5 := HS3.out.rd
            exact HS3.out.turn hK4 hx4 hC4 HI'.out (with_bytes ps V HS3.out.by' HT3.out.bytes) (by omega) (by omega) (by omega)
          have HT4 : Hid (Tx (Aw A' wb) w4 (.slice fo ps.length fc) ps) := tx_put HT3.out hC4 hx4
          clear hK4 hx4 hC4
          obtain ⟨a0, a1, a2, a3, a4, a5, a6, a7, hV⟩ := eight (W := V) HS4.out.wk.2
          have HV : Hid (V = [a0, a1, a2, a3, a4, a5, a6, a7]) := hV
          have hwk := HS4.out.wk
          rw [hV] at hwk
          obtain ⟨c0, c1, c2, c3, c4, c5, c6, c7⟩ := wb_cells hwk
          clear hV hwk
          go_wp2_with fail
          refine (with8 HT4.out (fun q hq => HOK.out.pg q hq)).mono ?_
          rintro e w4b ⟨⟨b0, b1, b2, b3, b4, b5, b6, b7, rfl, hV2⟩, hB4b⟩
          have HV2 : Hid (withL V ps = [b0, b1, b2, b3, b4, b5, b6, b7]) := by show _ = _; rw [HV.out]; exact hV2
          have HS4a : Hid (Ws w w4b (.pointer (some ⟨pb, 0, none⟩)) (.pointer (some ⟨sb, 0, none⟩)) wb A' P' S' (withL V ps) [a0, a1, a2, a3, a4, a5, a6, a7] (k + 1)) := by
            have := HS4.out.below hB4b
            rw [HV.out] at this ⊢
            exact this
          have HT4b : Hid (Tx (Aw A' wb) w4b (.slice fo ps.length fc) ps) := HT4.out.below hB4b
          clear hB4b hV2
          clear c0 c1 c2 c3 c4 c5 c6 c7
          obtain ⟨c0, c1, c2, c3, c4, c5, c6, c7⟩ := wb_cells HS4a.out.wk
          obtain ⟨f0, f1, f2, f3, f4, f5, f6, f7⟩ := wb_soft HS4a.out.wk
          obtain ⟨w5, hw5⟩ : ∃ w5, w5 = ((((((((w4b.setCell ⟨wb, 0, none⟩ (.string (str b0))).setCell ⟨wb, 1, none⟩ (.string (str b1))).setCell ⟨wb, 2, none⟩ (.string (str b2))).setCell ⟨wb, 3, none⟩ (.string (str b3))).setCell ⟨wb, 4, none⟩ (.string (str b4))).setCell ⟨wb, 5, none⟩ (.string (str b5))).setCell ⟨wb, 6, none⟩ (.string (str b6))).setCell ⟨wb, 7, none⟩ (.string (str b7))) := ⟨_, rfl⟩
          have HS5 : Hid (Ws w w5 (.pointer (some ⟨pb, 0, none⟩)) (.pointer (some ⟨sb, 0, none⟩)) wb A' P' S' (withL V ps) (withL V ps) (k + 1)) := by show Ws _ _ _ _ _ _ _ _ _ _ _; rw [hw5, HV2.out]; rw [HV2.out] at HS4a; exact HS4a.out.store
          have HT5 : Hid (Tx (Aw A' wb) w5 (.slice fo ps.length fc) ps) := by show Tx _ _ _ _; rw [hw5]; exact tx_store HT4b.out b0 b1 b2 b3 b4 b5 b6 b7
          have HW5 : Hid (w5 = ((((((((w4b.setCell ⟨wb, 0, none⟩ (.string (str b0))).setCell ⟨wb, 1, none⟩ (.string (str b1))).setCell ⟨wb, 2, none⟩ (.string (str b2))).setCell ⟨wb, 3, none⟩ (.string (str b3))).setCell ⟨wb, 4, none⟩ (.string (str b4))).setCell ⟨wb, 5, none⟩ (.string (str b5))).setCell ⟨wb, 6, none⟩ (.string (str b6))).setCell ⟨wb, 7, none⟩ (.string (str b7)))) := hw5
          clear hw5
          go_wp2_with fail
          rw [← HW5.out]
          clear c0 c1 c2 c3 c4 c5 c6 c7
          clear f0 f1 f2 f3 f4 f5 f6 f7
          go_wp2_with fail
          obtain ⟨D5, hD5, hDA5, hre5⟩ := HS5.out.bk.disk
          refine (down_walk hD5).mono ?_
          rw [HS5.out.iv.dn]
          rintro e w9 ⟨rfl, h9⟩
          have h9 := h9.symm
          subst h9
          go_wp2_with fail
          refine (on_walk hD5).mono ?_
          rintro e w6 ⟨rfl, hD6, hC6⟩
          have HS6 : Hid (Ws w w6 (.pointer (some ⟨pb, 0, none⟩)) (.pointer (some ⟨sb, 0, none⟩)) wb (fun x => A' x ∨ D5 x) P' (onS S') (withL V ps) (withL V ps) (k + 1)) := by
            have hCA : Ch A' w5 w6 := ⟨hC6.os, hC6.tape, hC6.output, hC6.size, fun x hx hn => hC6.block x hx (fun e => hn (hDA5 x e))⟩
            exact HS5.out.turn (hre5 D5 w6 _ hD6 (fun x hx => .inl hx) hC6 rfl) (fun x hx => by rcases hx with q | q; exact .inl q; exact .inl (hDA5 x q)) hCA (HS5.out.iv.turn rfl rfl (fun _ _ => rfl)) HS5.out.by' HS5.out.gn HS5.out.wc HS5.out.rd
          have HT6 : Hid (Tx (Aw (fun x => A' x ∨ D5 x) wb) w6 (.slice fo ps.length fc) ps) := tx_put HT5.out ⟨hC6.os, hC6.tape, hC6.output, hC6.size, fun x hx hn => hC6.block x hx (fun e => hn (hDA5 x e))⟩ (fun x hx => by rcases hx with q | q; exact .inl q; exact .inl (hDA5 x q))
          clear hD5 hDA5 hre5 hD6 hC6
          obtain ⟨g1, g2, g3, g4⟩ := get_iv HS6.out.iv (p := 0) (by omega)
          have HG : Hid (getI P' (onS S') ((0 : Nat) : Int) = 0 ∧ getB P' (onS S') = P' ∧ Sm (onS S') (getS P' (onS S') ((0 : Nat) : Int)) 1) := ⟨g1, g3, g4⟩
          clear g1 g2 g3 g4
          go_wp2_with fail
          refine (get_walk HS6.out.bk ((0 : Nat) : Int) (by have := HS6.out.rd; have := HK.out; omega)).mono ?_
          rintro e w6b ⟨r, rfl, _, hKg, hCg⟩
          rw [HG.out.1]
          rw [HG.out.2.1] at hKg
          have HS6b : Hid (Ws w w6b (.pointer (some ⟨pb, 0, none⟩)) (.pointer (some ⟨sb, 0, none⟩)) wb (fun x => A' x ∨ D5 x) P' (getS P' (onS S') ((0 : Nat) : Int)) (withL V ps) (withL V ps) (k + 2)) := by
            have h1 := HS6.out.gn
            have h2 := HS6.out.wc
            have h3 := HS6.out.rd
            have h4 := HG.out.2.2.wr
            have h5 := HG.out.2.2.rd
            exact HS6.out.turn hKg (fun x hx => .inl hx) hCg (HS6.out.iv.same HG.out.2.2) HS6.out.by' (by omega) (by omega) (by omega)
          have HT6b : Hid (Tx (Aw (fun x => A' x ∨ D5 x) wb) w6b (.slice fo ps.length fc) ps) := tx_put HT6.out hCg (fun x hx => .inl hx)
          clear hKg hCg
          obtain ⟨D6, hD6, hDA6, _⟩ := HS6b.out.bk.disk
          obtain ⟨S6, hS6⟩ : ∃ S6, S6 = getS P' (onS S') ((0 : Nat) : Int) := ⟨_, rfl⟩
          obtain ⟨P6, hP6⟩ : ∃ P6, P6 = P' := ⟨_, rfl⟩
          obtain ⟨W6, hW6⟩ : ∃ W6, W6 = withL V ps := ⟨_, rfl⟩
          have HLFF : Hid (S6.left = -1) := by show _ = _; rw [hS6, HG.out.2.2.lf]; rfl
          rw [← hS6, ← hP6, ← hW6] at HS6b
          rw [← hS6] at hD6
          have HDF : Hid (Dsk 81 D6 w6b (.pointer (some ⟨sb, 0, none⟩)) S6) := hD6
          have HIF : Hid (Iv P6 S6 W6) := HS6b.out.iv
          have HBYF : Hid (∀ b ∈ W6, ∀ c ∈ b, c < 256) := HS6b.out.by'
          have HDH : Hid (∀ x, D6 x → w.heap.size ≤ x) := fun x hx => HS6b.out.ah x (hDA6 x hx)
          have HBEF : Hid (Below w.heap.size w w6b) := HS6b.out.be
          have HWKF : Hid (Wb8 w6b wb W6) := HS6b.out.wk
          have HNAF : Hid (¬ D6 wb) := fun e => HS6b.out.na (hDA6 _ e)
          have HHWF : Hid (w.heap.size ≤ wb) := HS6b.out.hw
          have HGN : Hid (P6.gen ≤ 67) := by show _ ≤ _; have := HS6b.out.gn; have := HK.out; omega
          have HWN : Hid (S6.wr ≤ 2 + 9 * 66) := by show _ ≤ _; have := HS6b.out.wc; have := HK.out; omega
          have HRN : Hid (S6.rd ≤ 64 * 66) := by show _ ≤ _; have := HS6b.out.rd; have := HK.out; omega
          have HTF : Hid (Tx D6 w6b (.slice fo ps.length fc) ps) := HT6b.out.mono (fun x hx => .inl (hDA6 x hx))
          clear hD6 hDA6 hS6 hP6 hW6
          have HRD6 : Hid (S6.rd < 4611686018427387904) := by show _ < _; have := HRN.out; omega
          go_wp2_with fail
          refine (open_good HDF.out HIF.out HRD6.out).mono ?_
          rintro e w7 ⟨cb, A7, rfl, hK7, hx7, hC7⟩
          have HS7 : Hid (Ws w w7 (.pointer (some ⟨cb, 0, none⟩)) (.pointer (some ⟨sb, 0, none⟩)) wb A7 P6 (opS S6) W6 W6 67) := by
            have h1 := HGN.out
            have h2 := HWN.out
            have h3 := HRN.out
            have h4 := sm_open (S := S6)
            have h5 := h4.wr
            have h6 := h4.rd
            exact ⟨hK7, HIF.out.same h4, HBYF.out, fun x hx => by rcases hx7 x hx with q | q; exact HDH.out x q; exact Nat.le_trans HBEF.out.size q, HWKF.out.keep (hC7.block _ HWKF.out.lt HNAF.out), fun e => by rcases hx7 _ e with q | q; exact HNAF.out q; have := HWKF.out.lt; omega, HHWF.out, HBEF.out.trans (hC7.to_below HBEF.out.size HDH.out), by omega, by omega, by omega⟩
          have HT7 : Hid (Tx A7 w7 (.slice fo ps.length fc) ps) := HTF.out.ch hC7 hx7
          clear hK7 hx7 hC7
          obtain ⟨a0, a1, a2, a3, a4, a5, a6, a7, hV⟩ := eight (W := W6) HS7.out.wk.2
          have HV7 : Hid (W6 = [a0, a1, a2, a3, a4, a5, a6, a7]) := hV
          have hwk := HS7.out.wk
          rw [hV] at hwk
          obtain ⟨c0, c1, c2, c3, c4, c5, c6, c7⟩ := wb_cells hwk
          clear hV hwk
          go_wp2_with fail
          refine (holds8 HS7.out.bk (by rw [← HV7.out]; exact HS7.out.iv) (by rw [← HV7.out]; exact HS7.out.by') (by have := HS7.out.rd; omega)).mono ?_
          rintro e w8 ⟨rfl, S8, hK8, hm8, hC8⟩
          have HS8 : Hid (Ws w w8 (.pointer (some ⟨cb, 0, none⟩)) (.pointer (some ⟨sb, 0, none⟩)) wb A7 P6 S8 W6 W6 68) := by
            have h1 := HS7.out.gn
            have h2 := HS7.out.wc
            have h3 := HS7.out.rd
            have h4 := hm8.wr
            have h5 := hm8.rd
            exact HS7.out.turn hK8 (fun x hx => .inl hx) hC8 (HS7.out.iv.same hm8) HS7.out.by' (by omega) (by omega) (by omega)
          have HT8 : Hid (Tx A7 w8 (.slice fo ps.length fc) ps) := HT7.out.ch hC8 (fun x hx => .inl hx)
          have HL8 : Hid (S8.left = -1) := by show _ = _; rw [hm8.lf, sm_open.lf]; exact HLFF.out
          clear hK8 hm8 hC8
          clear c0 c1 c2 c3 c4 c5 c6 c7
          obtain ⟨P9, S9, hO, hI9, hg9, hw9, hr9, hl9⟩ := put_free HS8.out.iv HOK.out (by have := HS8.out.gn; omega) HL8.out
          have HO9 : Hid (putO P6 S8 ps = (0, P9, S9)) := hO
          have HI9 : Hid (Iv P9 S9 (withL W6 ps)) := hI9
          have HN9 : Hid (P9.gen ≤ P6.gen + 1 ∧ S9.wr = S8.wr + cntN ps + (if ps = [] then 0 else 1) ∧ S9.rd = S8.rd ∧ S9.left = -1) := ⟨hg9, hw9, hr9, hl9⟩
          clear hO hI9 hg9 hw9 hr9 hl9
          go_wp2_with fail
          refine (put_walk9 HS8.out.bk HT8.out (by have := HS8.out.wc; omega)).mono ?_
          rintro e w9 ⟨rfl, ⟨A9, hK9, hx9⟩, hC9⟩
          rw [HO9.out] at hK9
          rw [HO9.out]
          have HS9 : Hid (Ws w w9 (.pointer (some ⟨cb, 0, none⟩)) (.pointer (some ⟨sb, 0, none⟩)) wb A9 P9 S9 (withL W6 ps) W6 69) := by
            have h1 := HN9.out
            have h2 := cnt_le HOK.out
            have h3 := HS8.out.gn
            have h4 := HS8.out.wc
            have h5 := HS8.out.rd
            refine HS8.out.turn hK9 hx9 hC9 HI9.out (with_bytes ps W6 HS8.out.by' HT8.out.bytes) (by omega) ?_ (by omega)
            have h6 := h1.2.1
            split at h6 <;> omega
          have HT9 : Hid (Tx A9 w9 (.slice fo ps.length fc) ps) := HT8.out.ch hC9 hx9
          clear hK9 hx9 hC9
          have hwk := HS9.out.wk
          rw [HV7.out] at hwk
          obtain ⟨c0, c1, c2, c3, c4, c5, c6, c7⟩ := wb_cells hwk
          clear hwk
          go_wp2_with fail
          refine (with8 HT9.out (fun q hq => HOK.out.pg q hq)).mono ?_
          rintro e w10 ⟨⟨b0, b1, b2, b3, b4, b5, b6, b7, rfl, hV2⟩, hB10⟩
          have HV2 : Hid (withL W6 ps = [b0, b1, b2, b3, b4, b5, b6, b7]) := by show _ = _; rw [HV7.out]; exact hV2
          have HS10 : Hid (Ws w w10 (.pointer (some ⟨cb, 0, none⟩)) (.pointer (some ⟨sb, 0, none⟩)) wb A9 P9 S9 (withL W6 ps) W6 69) := HS9.out.below hB10
          clear hB10 hV2
          clear c0 c1 c2 c3 c4 c5 c6 c7
          go_wp2_with fail
          refine (holds8 HS10.out.bk (by rw [← HV2.out]; exact HS10.out.iv) (by rw [← HV2.out]; exact HS10.out.by') (by have := HS10.out.rd; omega)).mono ?_
          rintro e w11 ⟨rfl, S11, hK11, hm11, hC11⟩
          have HB11 : Hid (Below w.heap.size w w11) := HS10.out.be.trans (hC11.to_below HS10.out.be.size HS10.out.ah)
          clear hK11 hm11 hC11
          go_wp2_with fail
          go_ret
          exact ⟨rfl, HB11.out⟩
        · have HO : Hid (putO P S1 ps = (80, endB P, S')) := hO
          have HI' : Hid (Iv P (onS S') V) := hI'
          have HN' : Hid (S'.down = true ∧ S'.rd = S1.rd ∧ S'.wr ≤ S1.wr + 9) := ⟨hdn, hr', hw'⟩
          clear hO hI' hdn hw' hr'
          go_wp2_with fail
          refine (put_walk9 HS3.out.bk (tx_of HT3.out) (by have := HS3.out.wc; have := HK.out; omega)).mono ?_
          rintro e w4 ⟨rfl, ⟨A', hK4, hx4⟩, hC4⟩
          rw [HO.out] at hK4
          rw [HO.out]
          have HK4 : Hid (BP A' w4 (.pointer (some ⟨pb, 0, none⟩)) (.pointer (some ⟨sb, 0, none⟩)) (endB P) S') := hK4
          have HC4 : Hid (Ch A1' w3 w4) := hC4
          have HX4 : Hid (∀ x, A' x → A1' x ∨ w3.heap.size ≤ x) := hx4
          have HT4 : Hid (Tx (Aw A' wb) w4 (.slice fo ps.length fc) ps) := tx_put HT3.out hC4 hx4
          clear hK4 hx4 hC4
          obtain ⟨e1, e2, e3⟩ := get_end P S' 0
          have HGE : Hid (getI (endB P) S' 0 = 80 ∧ getS (endB P) S' 0 = S' ∧ getB (endB P) S' = endB P) := ⟨e1, e2, e3⟩
          clear e1 e2 e3
          go_wp2_with fail
          refine (get_walk HK4.out 0 (by have := HN'.out.2.1; have := HS3.out.rd; have := HK.out; omega)).mono ?_
          rintro e w5 ⟨r, rfl, _, hK5, hC5⟩
          rw [HGE.out.1]
          rw [HGE.out.2.1, HGE.out.2.2] at hK5
          have HK5 : Hid (BP A' w5 (.pointer (some ⟨pb, 0, none⟩)) (.pointer (some ⟨sb, 0, none⟩)) (endB P) S') := hK5
          have HC5 : Hid (Ch A' w4 w5) := hC5
          have HT5 : Hid (Tx (Aw A' wb) w5 (.slice fo ps.length fc) ps) := tx_put HT4.out hC5 (fun x hx => .inl hx)
          clear hK5 hC5
          go_wp2_with fail
          refine (ended_walk HK5.out).mono ?_
          rintro e w9 ⟨rfl, h9⟩
          have h9 := h9.symm
          subst h9
          have hov : (endB P).over = true := rfl
          rw [hov]
          clear hov
          go_wp2_with fail
          obtain ⟨D5, hD5, hDA5, hre5⟩ := HK5.out.disk
          refine (down_walk hD5).mono ?_
          rw [HN'.out.1]
          rintro e w9 ⟨rfl, h9⟩
          have h9 := h9.symm
          subst h9
          clear hD5 hDA5 hre5
          go_wp2_with fail
          have HPN : Hid (putO (endB P) S' [] = (80, endB P, S')) := put_shut rfl
          refine (put_walk9 HK5.out (tx_nil A' w5) (by have := HN'.out.2.2; have := HS3.out.wc; have := HK.out; omega)).mono ?_
          rintro e w6 ⟨rfl, ⟨A6, hK6, hx6⟩, hC6⟩
          rw [HPN.out] at hK6
          rw [HPN.out]
          have HK6 : Hid (BP A6 w6 (.pointer (some ⟨pb, 0, none⟩)) (.pointer (some ⟨sb, 0, none⟩)) (endB P) S') := hK6
          have HT6 : Hid (Tx (Aw A6 wb) w6 (.slice fo ps.length fc) ps) := tx_put HT5.out hC6 hx6
          have HX6 : Hid (∀ x, A6 x → A1' x ∨ w3.heap.size ≤ x) := fun x hx => by
            rcases hx6 x hx with q | q
            · exact HX4.out x q
            · have := HC4.out.size; have := HC5.out.size; exact .inr (by omega)
          have hC36 : Ch A1' w3 w6 := (HC4.out.trans HC5.out HX4.out).trans hC6 HX4.out
          have HC6 : Hid (Ch (fun x => A1' x ∨ w3.heap.size ≤ x) w3 w6) := ⟨hC36.os, hC36.tape, hC36.output, hC36.size, fun x hx hn => hC36.block x hx (fun e => hn (.inl e))⟩
          clear hC36
          clear hK6 hx6 hC6
          go_wp2_with fail
          obtain ⟨D6, hD6, hDA6, hre6⟩ := HK6.out.disk
          refine (on_walk hD6).mono ?_
          rintro e w7 ⟨rfl, hD7, hC7⟩
          have HK7 : Hid (BP (fun x => A6 x ∨ D6 x) w7 (.pointer (some ⟨pb, 0, none⟩)) (.pointer (some ⟨sb, 0, none⟩)) (endB P) (onS S')) := hre6 D6 w7 _ hD7 (fun x hx => .inl hx) hC7 rfl
          have HT7 : Hid (Tx (Aw (fun x => A6 x ∨ D6 x) wb) w7 (.slice fo ps.length fc) ps) := tx_put HT6.out ⟨hC7.os, hC7.tape, hC7.output, hC7.size, fun x hx hn => hC7.block x hx (fun e => hn (hDA6 x e))⟩ (fun x hx => by rcases hx with q | q; exact .inl q; exact .inl (hDA6 x q))
          have HX7 : Hid (∀ x, (A6 x ∨ D6 x) → A1' x ∨ w3.heap.size ≤ x) := fun x hx => by rcases hx with q | q; exact HX6.out x q; exact HX6.out x (hDA6 x q)
          have HC7 : Hid (Ch (fun x => A1' x ∨ w3.heap.size ≤ x) w3 w7) := HC6.out.trans hC7 (fun x hx => .inl (HX6.out x (hDA6 x hx)))
          clear hD6 hDA6 hre6 hD7 hC7
          obtain ⟨e1, e2, e3⟩ := get_end P (onS S') 0
          have HGF : Hid (getI (endB P) (onS S') 0 = 80 ∧ getS (endB P) (onS S') 0 = onS S' ∧ getB (endB P) (onS S') = endB P) := ⟨e1, e2, e3⟩
          clear e1 e2 e3
          go_wp2_with fail
          refine (get_walk HK7.out 0 (by show S'.rd < _; have := HN'.out.2.1; have := HS3.out.rd; have := HK.out; omega)).mono ?_
          rintro e w6b ⟨r, rfl, _, hK8, hC8⟩
          rw [HGF.out.1]
          rw [HGF.out.2.1, HGF.out.2.2] at hK8
          have HTb : Hid (Tx (Aw (fun x => A6 x ∨ D6 x) wb) w6b (.slice fo ps.length fc) ps) := tx_put HT7.out hC8 (fun x hx => .inl hx)
          have HCb : Hid (Ch (fun x => A1' x ∨ w3.heap.size ≤ x) w3 w6b) := HC7.out.trans hC8 (fun x hx => .inl (HX7.out x hx))
          obtain ⟨D8, hD8, hDA8, _⟩ := hK8.disk
          obtain ⟨S6, hS6⟩ : ∃ S6, S6 = onS S' := ⟨_, rfl⟩
          obtain ⟨P6, hP6⟩ : ∃ P6, P6 = P := ⟨_, rfl⟩
          obtain ⟨W6, hW6⟩ : ∃ W6, W6 = V := ⟨_, rfl⟩
          have HLFF : Hid (S6.left = -1) := by show _ = _; rw [hS6]; rfl
          rw [← hS6] at hD8
          have HDF : Hid (Dsk 81 D8 w6b (.pointer (some ⟨sb, 0, none⟩)) S6) := hD8
          have HIF : Hid (Iv P6 S6 W6) := by rw [hP6, hS6, hW6]; exact HI'.out
          have HBYF : Hid (∀ b ∈ W6, ∀ c ∈ b, c < 256) := by rw [hW6]; exact HS3.out.by'
          have HAX : Hid (∀ x, (A1' x ∨ w3.heap.size ≤ x) → w.heap.size ≤ x) := fun x hx => by rcases hx with q | q; exact HS3.out.ah x q; exact Nat.le_trans HS3.out.be.size q
          have HDH : Hid (∀ x, D8 x → w.heap.size ≤ x) := fun x hx => HAX.out x (HX7.out x (hDA8 x hx))
          have HBEF : Hid (Below w.heap.size w w6b) := HS3.out.be.trans (HCb.out.to_below HS3.out.be.size HAX.out)
          have HNX : Hid (¬ (A1' wb ∨ w3.heap.size ≤ wb)) := fun e => by rcases e with q | q; exact HS3.out.na q; have := HS3.out.wk.lt; omega
          have HWKF : Hid (Wb8 w6b wb W6) := by rw [hW6]; exact HS3.out.wk.keep (HCb.out.block _ HS3.out.wk.lt HNX.out)
          have HNAF : Hid (¬ D8 wb) := fun e => HNX.out (HX7.out _ (hDA8 _ e))
          have HHWF : Hid (w.heap.size ≤ wb) := HS3.out.hw
          have HGN : Hid (P6.gen ≤ 67) := by show _ ≤ _; rw [hP6]; have := HS3.out.gn; have := HK.out; omega
          have HWN : Hid (S6.wr ≤ 2 + 9 * 66) := by show _ ≤ _; rw [hS6]; show S'.wr ≤ _; have := HN'.out.2.2; have := HS3.out.wc; have := HK.out; omega
          have HRN : Hid (S6.rd ≤ 64 * 66) := by show _ ≤ _; rw [hS6]; show S'.rd ≤ _; have := HN'.out.2.1; have := HS3.out.rd; have := HK.out; omega
          have HTF : Hid (Tx D8 w6b (.slice fo ps.length fc) ps) := HTb.out.mono (fun x hx => .inl (hDA8 x hx))
          clear hD8 hDA8 hS6 hP6 hW6 hK8 hC8
          have HRD6 : Hid (S6.rd < 4611686018427387904) := by show _ < _; have := HRN.out; omega
          go_wp2_with fail
          refine (open_good HDF.out HIF.out HRD6.out).mono ?_
          rintro e w7 ⟨cb, A7, rfl, hK7, hx7, hC7⟩
          have HS7 : Hid (Ws w w7 (.pointer (some ⟨cb, 0, none⟩)) (.pointer (some ⟨sb, 0, none⟩)) wb A7 P6 (opS S6) W6 W6 67) := by
            have h1 := HGN.out
            have h2 := HWN.out
            have h3 := HRN.out
            have h4 := sm_open (S := S6)
            have h5 := h4.wr
            have h6 := h4.rd
            exact ⟨hK7, HIF.out.same h4, HBYF.out, fun x hx => by rcases hx7 x hx with q | q; exact HDH.out x q; exact Nat.le_trans HBEF.out.size q, HWKF.out.keep (hC7.block _ HWKF.out.lt HNAF.out), fun e => by rcases hx7 _ e with q | q; exact HNAF.out q; have := HWKF.out.lt; omega, HHWF.out, HBEF.out.trans (hC7.to_below HBEF.out.size HDH.out), by omega, by omega, by omega⟩
          have HT7 : Hid (Tx A7 w7 (.slice fo ps.length fc) ps) := HTF.out.ch hC7 hx7
          clear hK7 hx7 hC7
          obtain ⟨a0, a1, a2, a3, a4, a5, a6, a7, hV⟩ := eight (W := W6) HS7.out.wk.2
          have HV7 : Hid (W6 = [a0, a1, a2, a3, a4, a5, a6, a7]) := hV
          have hwk := HS7.out.wk
          rw [hV] at hwk
          obtain ⟨c0, c1, c2, c3, c4, c5, c6, c7⟩ := wb_cells hwk
          clear hV hwk
          go_wp2_with fail
          refine (holds8 HS7.out.bk (by rw [← HV7.out]; exact HS7.out.iv) (by rw [← HV7.out]; exact HS7.out.by') (by have := HS7.out.rd; omega)).mono ?_
          rintro e w8 ⟨rfl, S8, hK8, hm8, hC8⟩
          have HS8 : Hid (Ws w w8 (.pointer (some ⟨cb, 0, none⟩)) (.pointer (some ⟨sb, 0, none⟩)) wb A7 P6 S8 W6 W6 68) := by
            have h1 := HS7.out.gn
            have h2 := HS7.out.wc
            have h3 := HS7.out.rd
            have h4 := hm8.wr
            have h5 := hm8.rd
            exact HS7.out.turn hK8 (fun x hx => .inl hx) hC8 (HS7.out.iv.same hm8) HS7.out.by' (by omega) (by omega) (by omega)
          have HT8 : Hid (Tx A7 w8 (.slice fo ps.length fc) ps) := HT7.out.ch hC8 (fun x hx => .inl hx)
          have HL8 : Hid (S8.left = -1) := by show _ = _; rw [hm8.lf, sm_open.lf]; exact HLFF.out
          clear hK8 hm8 hC8
          clear c0 c1 c2 c3 c4 c5 c6 c7
          obtain ⟨P9, S9, hO, hI9, hg9, hw9, hr9, hl9⟩ := put_free HS8.out.iv HOK.out (by have := HS8.out.gn; omega) HL8.out
          have HO9 : Hid (putO P6 S8 ps = (0, P9, S9)) := hO
          have HI9 : Hid (Iv P9 S9 (withL W6 ps)) := hI9
          have HN9 : Hid (P9.gen ≤ P6.gen + 1 ∧ S9.wr = S8.wr + cntN ps + (if ps = [] then 0 else 1) ∧ S9.rd = S8.rd ∧ S9.left = -1) := ⟨hg9, hw9, hr9, hl9⟩
          clear hO hI9 hg9 hw9 hr9 hl9
          go_wp2_with fail
          refine (put_walk9 HS8.out.bk HT8.out (by have := HS8.out.wc; omega)).mono ?_
          rintro e w9 ⟨rfl, ⟨A9, hK9, hx9⟩, hC9⟩
          rw [HO9.out] at hK9
          rw [HO9.out]
          have HS9 : Hid (Ws w w9 (.pointer (some ⟨cb, 0, none⟩)) (.pointer (some ⟨sb, 0, none⟩)) wb A9 P9 S9 (withL W6 ps) W6 69) := by
            have h1 := HN9.out
            have h2 := cnt_le HOK.out
            have h3 := HS8.out.gn
            have h4 := HS8.out.wc
            have h5 := HS8.out.rd
            refine HS8.out.turn hK9 hx9 hC9 HI9.out (with_bytes ps W6 HS8.out.by' HT8.out.bytes) (by omega) ?_ (by omega)
            have h6 := h1.2.1
            split at h6 <;> omega
          have HT9 : Hid (Tx A9 w9 (.slice fo ps.length fc) ps) := HT8.out.ch hC9 hx9
          clear hK9 hx9 hC9
          have hwk := HS9.out.wk
          rw [HV7.out] at hwk
          obtain ⟨c0, c1, c2, c3, c4, c5, c6, c7⟩ := wb_cells hwk
          clear hwk
          go_wp2_with fail
          refine (with8 HT9.out (fun q hq => HOK.out.pg q hq)).mono ?_
          rintro e w10 ⟨⟨b0, b1, b2, b3, b4, b5, b6, b7, rfl, hV2⟩, hB10⟩
          have HV2 : Hid (withL W6 ps = [b0, b1, b2, b3, b4, b5, b6, b7]) := by show _ = _; rw [HV7.out]; exact hV2
          have HS10 : Hid (Ws w w10 (.pointer (some ⟨cb, 0, none⟩)) (.pointer (some ⟨sb, 0, none⟩)) wb A9 P9 S9 (withL W6 ps) W6 69) := HS9.out.below hB10
          clear hB10 hV2
          clear c0 c1 c2 c3 c4 c5 c6 c7
          go_wp2_with fail
          refine (holds8 HS10.out.bk (by rw [← HV2.out]; exact HS10.out.iv) (by rw [← HV2.out]; exact HS10.out.by') (by have := HS10.out.rd; omega)).mono ?_
          rintro e w11 ⟨rfl, S11, hK11, hm11, hC11⟩
          have HB11 : Hid (Below w.heap.size w w11) := HS10.out.be.trans (hC11.to_below HS10.out.be.size HS10.out.ah)
          clear hK11 hm11 hC11
          go_wp2_with fail
          go_ret
          exact ⟨rfl, HB11.out⟩
      · have h4 : (lss.length : Int) ≤ (k : Int) := by omega
        have HTV : Hid (Tx (fun x => w.heap.size ≤ x) wr (.slice so ts.length sc) ts) := HTT.out.later HS.out.be
        obtain ⟨ps, hps⟩ : ∃ ps, ps = fitL ts := ⟨_, rfl⟩
        have HOK : Hid (Lok 8 ps) := by rw [hps]; exact fit_ok _
        have HPS : Hid (fitL ts = ps) := hps.symm
        have hm1 : modN cut 11 < 11 := mod_lt cut (by omega)
        have hm2 : (IntKind.u64.wrap cut).tmod 11 = (modN cut 11 : Int) := mod_eq cut (n := 11)
        obtain ⟨m, hm⟩ : ∃ m, m = modN cut 11 := ⟨_, rfl⟩
        rw [← hm] at hm1 hm2
        have hmi : (m : Int) < 11 := by omega
        have hmw : IntKind.i64.wrap (m : Int) = (m : Int) := wrapU (by omega) (by omega)
        have HM : Hid (m < 11) := hm1
        clear hps hm
        go_wp2_with fail
        refine (fit_walk HTV.out HS.out.be.size).mono ?_
        rw [HPS.out]
        rintro e w2 ⟨fo, fc, rfl, hT2, hB2⟩
        have HS2 : Hid (Ws w w2 (.pointer (some ⟨pb, 0, none⟩)) (.pointer (some ⟨sb, 0, none⟩)) wb A P S V V k) := HS.out.below hB2
        have HT2 : Hid (Tx (Aw A wb) w2 (.slice fo ps.length fc) ps) := HS.out.apartW hT2
        clear hT2 hB2
        go_wp2_with fail
        obtain ⟨D2, hD2, hDA, hre⟩ := HS2.out.bk.disk
        refine (cut_walk hD2 (n := m) (by have := HM.out; omega)).mono ?_
        rintro e w3 ⟨rfl, hD3, hC3⟩
        have hcb : (cutS S m).bl = S.bl := rfl
        have HS3 : Hid (Ws w w3 (.pointer (some ⟨pb, 0, none⟩)) (.pointer (some ⟨sb, 0, none⟩)) wb (fun x => A x ∨ D2 x) P (cutS S m) V V k) := by
          have hCA : Ch A w2 w3 := ⟨hC3.os, hC3.tape, hC3.output, hC3.size, fun x hx hn => hC3.block x hx (fun e => hn (hDA x e))⟩
          exact HS2.out.turn (hre D2 w3 _ hD3 (fun x hx => .inl hx) hC3 rfl) (fun x hx => by rcases hx with q | q; exact .inl q; exact .inl (hDA x q)) hCA (HS2.out.iv.turn HS2.out.iv.dn rfl (fun _ _ => rfl)) HS2.out.by' HS2.out.gn HS2.out.wc HS2.out.rd
        have HT3 : Hid (Tx (Aw (fun x => A x ∨ D2 x) wb) w3 (.slice fo ps.length fc) ps) := tx_put HT2.out ⟨hC3.os, hC3.tape, hC3.output, hC3.size, fun x hx hn => hC3.block x hx (fun e => hn (hDA x e))⟩ (fun x hx => by rcases hx with q | q; exact .inl q; exact .inl (hDA x q))
        clear hD2 hDA hre hD3 hC3 hcb
        obtain ⟨S1, hS1⟩ : ∃ S1, S1 = cutS S m := ⟨_, rfl⟩
        obtain ⟨A1', hA1'⟩ : ∃ A1' : Nat → Prop, A1' = fun x => A x ∨ D2 x := ⟨_, rfl⟩
        rw [← hS1, ← hA1'] at HS3
        rw [← hA1'] at HT3
        clear hS1 hA1'
        have hcase : (∃ P' S', putO P S1 ps = (0, P', S') ∧ Iv P' S' (withL V ps) ∧ P'.gen ≤ P.gen + 1 ∧ S'.wr ≤ S1.wr + 9 ∧ S'.rd = S1.rd) ∨ (∃ S', putO P S1 ps = (80, endB P, S') ∧ S'.down = true ∧ Iv P (onS S') V ∧ S'.rd = S1.rd ∧ S'.wr ≤ S1.wr + 9) := by
          by_cases hp : ps = []
          · exact .inl ⟨P, S1, put_empty HS3.out.iv.shut hp, by rw [hp]; exact HS3.out.iv, by omega, by omega, rfl⟩
          · rcases put_iv HS3.out.iv HOK.out hp (by have := HS3.out.gn; have := HK.out; omega) with ⟨P', S', a, b, c, _, d, e, _⟩ | ⟨S', a, b, c, d, e, f⟩
            · have := cnt_le HOK.out
              exact .inl ⟨P', S', a, b, by omega, by omega, e⟩
            · exact .inr ⟨S', a, b, c, e, f⟩
        rcases hcase with ⟨P', S', hO, hI', hg', hw', hr'⟩ | ⟨S', hO, hdn, hI', hr', hw'⟩
        · have HO : Hid (putO P S1 ps = (0, P', S')) := hO
          have HI' : Hid (Iv P' S' (withL V ps)) := hI'
          have HN' : Hid (P'.gen ≤ P.gen + 1 ∧ S'.wr ≤ S1.wr + 9 ∧ S'.rd = S1.rd) := ⟨hg', hw', hr'⟩
          clear hO hI' hg' hw' hr'
          go_wp2_with fail
          refine (put_walk9 HS3.out.bk (tx_of HT3.out) (by have := HS3.out.wc; have := HK.out; omega)).mono ?_
          rintro e w4 ⟨rfl, ⟨A', hK4, hx4⟩, hC4⟩
          rw [HO.out] at hK4
          rw [HO.out]
          have HS4 : Hid (Ws w w4 (.pointer (some ⟨pb, 0, none⟩)) (.pointer (some ⟨sb, 0, none⟩)) wb A' P' S' (withL V ps) V (k + 1)) := by
            have h1 := HN'.out
            have h3 := HS3.out.gn
            have h4 := HS3.out.wc
            have h5 := HS3.out.rd
            exact HS3.out.turn hK4 hx4 hC4 HI'.out (with_bytes ps V HS3.out.by' HT3.out.bytes) (by omega) (by omega) (by omega)
          have HT4 : Hid (Tx (Aw A' wb) w4 (.slice fo ps.length fc) ps) := tx_put HT3.out hC4 hx4
          clear hK4 hx4 hC4
          obtain ⟨a0, a1, a2, a3, a4, a5, a6, a7, hV⟩ := eight (W := V) HS4.out.wk.2
          have HV : Hid (V = [a0, a1, a2, a3, a4, a5, a6, a7]) := hV
          have hwk := HS4.out.wk
          rw [hV] at hwk
          obtain ⟨c0, c1, c2, c3, c4, c5, c6, c7⟩ := wb_cells hwk
          clear hV hwk
          go_wp2_with fail
          refine (with8 HT4.out (fun q hq => HOK.out.pg q hq)).mono ?_
          rintro e w4b ⟨⟨b0, b1, b2, b3, b4, b5, b6, b7, rfl, hV2⟩, hB4b⟩
          have HV2 : Hid (withL V ps = [b0, b1, b2, b3, b4, b5, b6, b7]) := by show _ = _; rw [HV.out]; exact hV2
          have HS4a : Hid (Ws w w4b (.pointer (some ⟨pb, 0, none⟩)) (.pointer (some ⟨sb, 0, none⟩)) wb A' P' S' (withL V ps) [a0, a1, a2, a3, a4, a5, a6, a7] (k + 1)) := by
            have := HS4.out.below hB4b
            rw [HV.out] at this ⊢
            exact this
          have HT4b : Hid (Tx (Aw A' wb) w4b (.slice fo ps.length fc) ps) := HT4.out.below hB4b
          clear hB4b hV2
          clear c0 c1 c2 c3 c4 c5 c6 c7
          obtain ⟨c0, c1, c2, c3, c4, c5, c6, c7⟩ := wb_cells HS4a.out.wk
          obtain ⟨f0, f1, f2, f3, f4, f5, f6, f7⟩ := wb_soft HS4a.out.wk
          obtain ⟨w5, hw5⟩ : ∃ w5, w5 = ((((((((w4b.setCell ⟨wb, 0, none⟩ (.string (str b0))).setCell ⟨wb, 1, none⟩ (.string (str b1))).setCell ⟨wb, 2, none⟩ (.string (str b2))).setCell ⟨wb, 3, none⟩ (.string (str b3))).setCell ⟨wb, 4, none⟩ (.string (str b4))).setCell ⟨wb, 5, none⟩ (.string (str b5))).setCell ⟨wb, 6, none⟩ (.string (str b6))).setCell ⟨wb, 7, none⟩ (.string (str b7))) := ⟨_, rfl⟩
          have HS5 : Hid (Ws w w5 (.pointer (some ⟨pb, 0, none⟩)) (.pointer (some ⟨sb, 0, none⟩)) wb A' P' S' (withL V ps) (withL V ps) (k + 1)) := by show Ws _ _ _ _ _ _ _ _ _ _ _; rw [hw5, HV2.out]; rw [HV2.out] at HS4a; exact HS4a.out.store
          have HT5 : Hid (Tx (Aw A' wb) w5 (.slice fo ps.length fc) ps) := by show Tx _ _ _ _; rw [hw5]; exact tx_store HT4b.out b0 b1 b2 b3 b4 b5 b6 b7
          have HW5 : Hid (w5 = ((((((((w4b.setCell ⟨wb, 0, none⟩ (.string (str b0))).setCell ⟨wb, 1, none⟩ (.string (str b1))).setCell ⟨wb, 2, none⟩ (.string (str b2))).setCell ⟨wb, 3, none⟩ (.string (str b3))).setCell ⟨wb, 4, none⟩ (.string (str b4))).setCell ⟨wb, 5, none⟩ (.string (str b5))).setCell ⟨wb, 6, none⟩ (.string (str b6))).setCell ⟨wb, 7, none⟩ (.string (str b7)))) := hw5
          clear hw5
          go_wp2_with fail
          rw [← HW5.out]
          clear c0 c1 c2 c3 c4 c5 c6 c7
          clear f0 f1 f2 f3 f4 f5 f6 f7
          go_wp2_with fail
          obtain ⟨D5, hD5, hDA5, hre5⟩ := HS5.out.bk.disk
          refine (down_walk hD5).mono ?_
          rw [HS5.out.iv.dn]
          rintro e w9 ⟨rfl, h9⟩
          have h9 := h9.symm
          subst h9
          go_wp2_with fail
          refine (on_walk hD5).mono ?_
          rintro e w6 ⟨rfl, hD6, hC6⟩
          have HS6 : Hid (Ws w w6 (.pointer (some ⟨pb, 0, none⟩)) (.pointer (some ⟨sb, 0, none⟩)) wb (fun x => A' x ∨ D5 x) P' (onS S') (withL V ps) (withL V ps) (k + 1)) := by
            have hCA : Ch A' w5 w6 := ⟨hC6.os, hC6.tape, hC6.output, hC6.size, fun x hx hn => hC6.block x hx (fun e => hn (hDA5 x e))⟩
            exact HS5.out.turn (hre5 D5 w6 _ hD6 (fun x hx => .inl hx) hC6 rfl) (fun x hx => by rcases hx with q | q; exact .inl q; exact .inl (hDA5 x q)) hCA (HS5.out.iv.turn rfl rfl (fun _ _ => rfl)) HS5.out.by' HS5.out.gn HS5.out.wc HS5.out.rd
          have HT6 : Hid (Tx (Aw (fun x => A' x ∨ D5 x) wb) w6 (.slice fo ps.length fc) ps) := tx_put HT5.out ⟨hC6.os, hC6.tape, hC6.output, hC6.size, fun x hx hn => hC6.block x hx (fun e => hn (hDA5 x e))⟩ (fun x hx => by rcases hx with q | q; exact .inl q; exact .inl (hDA5 x q))
          clear hD5 hDA5 hre5 hD6 hC6
          obtain ⟨g1, g2, g3, g4⟩ := get_iv HS6.out.iv (p := 0) (by omega)
          have HG : Hid (getI P' (onS S') ((0 : Nat) : Int) = 0 ∧ getB P' (onS S') = P' ∧ Sm (onS S') (getS P' (onS S') ((0 : Nat) : Int)) 1) := ⟨g1, g3, g4⟩
          clear g1 g2 g3 g4
          go_wp2_with fail
          refine (get_walk HS6.out.bk ((0 : Nat) : Int) (by have := HS6.out.rd; have := HK.out; omega)).mono ?_
          rintro e w6b ⟨r, rfl, _, hKg, hCg⟩
          rw [HG.out.1]
          rw [HG.out.2.1] at hKg
          have HS6b : Hid (Ws w w6b (.pointer (some ⟨pb, 0, none⟩)) (.pointer (some ⟨sb, 0, none⟩)) wb (fun x => A' x ∨ D5 x) P' (getS P' (onS S') ((0 : Nat) : Int)) (withL V ps) (withL V ps) (k + 2)) := by
            have h1 := HS6.out.gn
            have h2 := HS6.out.wc
            have h3 := HS6.out.rd
            have h4 := HG.out.2.2.wr
            have h5 := HG.out.2.2.rd
            exact HS6.out.turn hKg (fun x hx => .inl hx) hCg (HS6.out.iv.same HG.out.2.2) HS6.out.by' (by omega) (by omega) (by omega)
          have HT6b : Hid (Tx (Aw (fun x => A' x ∨ D5 x) wb) w6b (.slice fo ps.length fc) ps) := tx_put HT6.out hCg (fun x hx => .inl hx)
          clear hKg hCg
          obtain ⟨D6, hD6, hDA6, _⟩ := HS6b.out.bk.disk
          obtain ⟨S6, hS6⟩ : ∃ S6, S6 = getS P' (onS S') ((0 : Nat) : Int) := ⟨_, rfl⟩
          obtain ⟨P6, hP6⟩ : ∃ P6, P6 = P' := ⟨_, rfl⟩
          obtain ⟨W6, hW6⟩ : ∃ W6, W6 = withL V ps := ⟨_, rfl⟩
          have HLFF : Hid (S6.left = -1) := by show _ = _; rw [hS6, HG.out.2.2.lf]; rfl
          rw [← hS6, ← hP6, ← hW6] at HS6b
          rw [← hS6] at hD6
          have HDF : Hid (Dsk 81 D6 w6b (.pointer (some ⟨sb, 0, none⟩)) S6) := hD6
          have HIF : Hid (Iv P6 S6 W6) := HS6b.out.iv
          have HBYF : Hid (∀ b ∈ W6, ∀ c ∈ b, c < 256) := HS6b.out.by'
          have HDH : Hid (∀ x, D6 x → w.heap.size ≤ x) := fun x hx => HS6b.out.ah x (hDA6 x hx)
          have HBEF : Hid (Below w.heap.size w w6b) := HS6b.out.be
          have HWKF : Hid (Wb8 w6b wb W6) := HS6b.out.wk
          have HNAF : Hid (¬ D6 wb) := fun e => HS6b.out.na (hDA6 _ e)
          have HHWF : Hid (w.heap.size ≤ wb) := HS6b.out.hw
          have HGN : Hid (P6.gen ≤ 67) := by show _ ≤ _; have := HS6b.out.gn; have := HK.out; omega
          have HWN : Hid (S6.wr ≤ 2 + 9 * 66) := by show _ ≤ _; have := HS6b.out.wc; have := HK.out; omega
          have HRN : Hid (S6.rd ≤ 64 * 66) := by show _ ≤ _; have := HS6b.out.rd; have := HK.out; omega
          have HTF : Hid (Tx D6 w6b (.slice fo ps.length fc) ps) := HT6b.out.mono (fun x hx => .inl (hDA6 x hx))
          clear hD6 hDA6 hS6 hP6 hW6
          have HRD6 : Hid (S6.rd < 4611686018427387904) := by show _ < _; have := HRN.out; omega
          go_wp2_with fail
          refine (open_good HDF.out HIF.out HRD6.out).mono ?_
          rintro e w7 ⟨cb, A7, rfl, hK7, hx7, hC7⟩
          have HS7 : Hid (Ws w w7 (.pointer (some ⟨cb, 0, none⟩)) (.pointer (some ⟨sb, 0, none⟩)) wb A7 P6 (opS S6) W6 W6 67) := by
            have h1 := HGN.out
            have h2 := HWN.out
            have h3 := HRN.out
            have h4 := sm_open (S := S6)
            have h5 := h4.wr
            have h6 := h4.rd
            exact ⟨hK7, HIF.out.same h4, HBYF.out, fun x hx => by rcases hx7 x hx with q | q; exact HDH.out x q; exact Nat.le_trans HBEF.out.size q, HWKF.out.keep (hC7.block _ HWKF.out.lt HNAF.out), fun e => by rcases hx7 _ e with q | q; exact HNAF.out q; have := HWKF.out.lt; omega, HHWF.out, HBEF.out.trans (hC7.to_below HBEF.out.size HDH.out), by omega, by omega, by omega⟩
          have HT7 : Hid (Tx A7 w7 (.slice fo ps.length fc) ps) := HTF.out.ch hC7 hx7
          clear hK7 hx7 hC7
          obtain ⟨a0, a1, a2, a3, a4, a5, a6, a7, hV⟩ := eight (W := W6) HS7.out.wk.2
          have HV7 : Hid (W6 = [a0, a1, a2, a3, a4, a5, a6, a7]) := hV
          have hwk := HS7.out.wk
          rw [hV] at hwk
          obtain ⟨c0, c1, c2, c3, c4, c5, c6, c7⟩ := wb_cells hwk
          clear hV hwk
          go_wp2_with fail
          refine (holds8 HS7.out.bk (by rw [← HV7.out]; exact HS7.out.iv) (by rw [← HV7.out]; exact HS7.out.by') (by have := HS7.out.rd; omega)).mono ?_
          rintro e w8 ⟨rfl, S8, hK8, hm8, hC8⟩
          have HS8 : Hid (Ws w w8 (.pointer (some ⟨cb, 0, none⟩)) (.pointer (some ⟨sb, 0, none⟩)) wb A7 P6 S8 W6 W6 68) := by
            have h1 := HS7.out.gn
            have h2 := HS7.out.wc
            have h3 := HS7.out.rd
            have h4 := hm8.wr
            have h5 := hm8.rd
            exact HS7.out.turn hK8 (fun x hx => .inl hx) hC8 (HS7.out.iv.same hm8) HS7.out.by' (by omega) (by omega) (by omega)
          have HT8 : Hid (Tx A7 w8 (.slice fo ps.length fc) ps) := HT7.out.ch hC8 (fun x hx => .inl hx)
          have HL8 : Hid (S8.left = -1) := by show _ = _; rw [hm8.lf, sm_open.lf]; exact HLFF.out
          clear hK8 hm8 hC8
          clear c0 c1 c2 c3 c4 c5 c6 c7
          obtain ⟨P9, S9, hO, hI9, hg9, hw9, hr9, hl9⟩ := put_free HS8.out.iv HOK.out (by have := HS8.out.gn; omega) HL8.out
          have HO9 : Hid (putO P6 S8 ps = (0, P9, S9)) := hO
          have HI9 : Hid (Iv P9 S9 (withL W6 ps)) := hI9
          have HN9 : Hid (P9.gen ≤ P6.gen + 1 ∧ S9.wr = S8.wr + cntN ps + (if ps = [] then 0 else 1) ∧ S9.rd = S8.rd ∧ S9.left = -1) := ⟨hg9, hw9, hr9, hl9⟩
          clear hO hI9 hg9 hw9 hr9 hl9
          go_wp2_with fail
          refine (put_walk9 HS8.out.bk HT8.out (by have := HS8.out.wc; omega)).mono ?_
          rintro e w9 ⟨rfl, ⟨A9, hK9, hx9⟩, hC9⟩
          rw [HO9.out] at hK9
          rw [HO9.out]
          have HS9 : Hid (Ws w w9 (.pointer (some ⟨cb, 0, none⟩)) (.pointer (some ⟨sb, 0, none⟩)) wb A9 P9 S9 (withL W6 ps) W6 69) := by
            have h1 := HN9.out
            have h2 := cnt_le HOK.out
            have h3 := HS8.out.gn
            have h4 := HS8.out.wc
            have h5 := HS8.out.rd
            refine HS8.out.turn hK9 hx9 hC9 HI9.out (with_bytes ps W6 HS8.out.by' HT8.out.bytes) (by omega) ?_ (by omega)
            have h6 := h1.2.1
            split at h6 <;> omega
          have HT9 : Hid (Tx A9 w9 (.slice fo ps.length fc) ps) := HT8.out.ch hC9 hx9
          clear hK9 hx9 hC9
          have hwk := HS9.out.wk
          rw [HV7.out] at hwk
          obtain ⟨c0, c1, c2, c3, c4, c5, c6, c7⟩ := wb_cells hwk
          clear hwk
          go_wp2_with fail
          refine (with8 HT9.out (fun q hq => HOK.out.pg q hq)).mono ?_
          rintro e w10 ⟨⟨b0, b1, b2, b3, b4, b5, b6, b7, rfl, hV2⟩, hB10⟩
          have HV2 : Hid (withL W6 ps = [b0, b1, b2, b3, b4, b5, b6, b7]) := by show _ = _; rw [HV7.out]; exact hV2
          have HS10 : Hid (Ws w w10 (.pointer (some ⟨cb, 0, none⟩)) (.pointer (some ⟨sb, 0, none⟩)) wb A9 P9 S9 (withL W6 ps) W6 69) := HS9.out.below hB10
          clear hB10 hV2
          clear c0 c1 c2 c3 c4 c5 c6 c7
          go_wp2_with fail
          refine (holds8 HS10.out.bk (by rw [← HV2.out]; exact HS10.out.iv) (by rw [← HV2.out]; exact HS10.out.by') (by have := HS10.out.rd; omega)).mono ?_
          rintro e w11 ⟨rfl, S11, hK11, hm11, hC11⟩
          have HB11 : Hid (Below w.heap.size w w11) := HS10.out.be.trans (hC11.to_below HS10.out.be.size HS10.out.ah)
          clear hK11 hm11 hC11
          go_wp2_with fail
          go_ret
          exact ⟨rfl, HB11.out⟩
        · have HO : Hid (putO P S1 ps = (80, endB P, S')) := hO
          have HI' : Hid (Iv P (onS S') V) := hI'
          have HN' : Hid (S'.down = true ∧ S'.rd = S1.rd ∧ S'.wr ≤ S1.wr + 9) := ⟨hdn, hr', hw'⟩
          clear hO hI' hdn hw' hr'
          go_wp2_with fail
          refine (put_walk9 HS3.out.bk (tx_of HT3.out) (by have := HS3.out.wc; have := HK.out; omega)).mono ?_
          rintro e w4 ⟨rfl, ⟨A', hK4, hx4⟩, hC4⟩
          rw [HO.out] at hK4
          rw [HO.out]
          have HK4 : Hid (BP A' w4 (.pointer (some ⟨pb, 0, none⟩)) (.pointer (some ⟨sb, 0, none⟩)) (endB P) S') := hK4
          have HC4 : Hid (Ch A1' w3 w4) := hC4
          have HX4 : Hid (∀ x, A' x → A1' x ∨ w3.heap.size ≤ x) := hx4
          have HT4 : Hid (Tx (Aw A' wb) w4 (.slice fo ps.length fc) ps) := tx_put HT3.out hC4 hx4
          clear hK4 hx4 hC4
          obtain ⟨e1, e2, e3⟩ := get_end P S' 0
          have HGE : Hid (getI (endB P) S' 0 = 80 ∧ getS (endB P) S' 0 = S' ∧ getB (endB P) S' = endB P) := ⟨e1, e2, e3⟩
          clear e1 e2 e3
          go_wp2_with fail
          refine (get_walk HK4.out 0 (by have := HN'.out.2.1; have := HS3.out.rd; have := HK.out; omega)).mono ?_
          rintro e w5 ⟨r, rfl, _, hK5, hC5⟩
          rw [HGE.out.1]
          rw [HGE.out.2.1, HGE.out.2.2] at hK5
          have HK5 : Hid (BP A' w5 (.pointer (some ⟨pb, 0, none⟩)) (.pointer (some ⟨sb, 0, none⟩)) (endB P) S') := hK5
          have HC5 : Hid (Ch A' w4 w5) := hC5
          have HT5 : Hid (Tx (Aw A' wb) w5 (.slice fo ps.length fc) ps) := tx_put HT4.out hC5 (fun x hx => .inl hx)
          clear hK5 hC5
          go_wp2_with fail
          refine (ended_walk HK5.out).mono ?_
          rintro e w9 ⟨rfl, h9⟩
          have h9 := h9.symm
          subst h9
          have hov : (endB P).over = true := rfl
          rw [hov]
          clear hov
          go_wp2_with fail
          obtain ⟨D5, hD5, hDA5, hre5⟩ := HK5.out.disk
          refine (down_walk hD5).mono ?_
          rw [HN'.out.1]
          rintro e w9 ⟨rfl, h9⟩
          have h9 := h9.symm
          subst h9
          clear hD5 hDA5 hre5
          go_wp2_with fail
          have HPN : Hid (putO (endB P) S' [] = (80, endB P, S')) := put_shut rfl
          refine (put_walk9 HK5.out (tx_nil A' w5) (by have := HN'.out.2.2; have := HS3.out.wc; have := HK.out; omega)).mono ?_
          rintro e w6 ⟨rfl, ⟨A6, hK6, hx6⟩, hC6⟩
          rw [HPN.out] at hK6
          rw [HPN.out]
          have HK6 : Hid (BP A6 w6 (.pointer (some ⟨pb, 0, none⟩)) (.pointer (some ⟨sb, 0, none⟩)) (endB P) S') := hK6
          have HT6 : Hid (Tx (Aw A6 wb) w6 (.slice fo ps.length fc) ps) := tx_put HT5.out hC6 hx6
          have HX6 : Hid (∀ x, A6 x → A1' x ∨ w3.heap.size ≤ x) := fun x hx => by
            rcases hx6 x hx with q | q
            · exact HX4.out x q
            · have := HC4.out.size; have := HC5.out.size; exact .inr (by omega)
          have hC36 : Ch A1' w3 w6 := (HC4.out.trans HC5.out HX4.out).trans hC6 HX4.out
          have HC6 : Hid (Ch (fun x => A1' x ∨ w3.heap.size ≤ x) w3 w6) := ⟨hC36.os, hC36.tape, hC36.output, hC36.size, fun x hx hn => hC36.block x hx (fun e => hn (.inl e))⟩
          clear hC36
          clear hK6 hx6 hC6
          go_wp2_with fail
          obtain ⟨D6, hD6, hDA6, hre6⟩ := HK6.out.disk
          refine (on_walk hD6).mono ?_
          rintro e w7 ⟨rfl, hD7, hC7⟩
          have HK7 : Hid (BP (fun x => A6 x ∨ D6 x) w7 (.pointer (some ⟨pb, 0, none⟩)) (.pointer (some ⟨sb, 0, none⟩)) (endB P) (onS S')) := hre6 D6 w7 _ hD7 (fun x hx => .inl hx) hC7 rfl
          have HT7 : Hid (Tx (Aw (fun x => A6 x ∨ D6 x) wb) w7 (.slice fo ps.length fc) ps) := tx_put HT6.out ⟨hC7.os, hC7.tape, hC7.output, hC7.size, fun x hx hn => hC7.block x hx (fun e => hn (hDA6 x e))⟩ (fun x hx => by rcases hx with q | q; exact .inl q; exact .inl (hDA6 x q))
          have HX7 : Hid (∀ x, (A6 x ∨ D6 x) → A1' x ∨ w3.heap.size ≤ x) := fun x hx => by rcases hx with q | q; exact HX6.out x q; exact HX6.out x (hDA6 x q)
          have HC7 : Hid (Ch (fun x => A1' x ∨ w3.heap.size ≤ x) w3 w7) := HC6.out.trans hC7 (fun x hx => .inl (HX6.out x (hDA6 x hx)))
          clear hD6 hDA6 hre6 hD7 hC7
          obtain ⟨e1, e2, e3⟩ := get_end P (onS S') 0
          have HGF : Hid (getI (endB P) (onS S') 0 = 80 ∧ getS (endB P) (onS S') 0 = onS S' ∧ getB (endB P) (onS S') = endB P) := ⟨e1, e2, e3⟩
          clear e1 e2 e3
          go_wp2_with fail
          refine (get_walk HK7.out 0 (by show S'.rd < _; have := HN'.out.2.1; have := HS3.out.rd; have := HK.out; omega)).mono ?_
          rintro e w6b ⟨r, rfl, _, hK8, hC8⟩
          rw [HGF.out.1]
          rw [HGF.out.2.1, HGF.out.2.2] at hK8
          have HTb : Hid (Tx (Aw (fun x => A6 x ∨ D6 x) wb) w6b (.slice fo ps.length fc) ps) := tx_put HT7.out hC8 (fun x hx => .inl hx)
          have HCb : Hid (Ch (fun x => A1' x ∨ w3.heap.size ≤ x) w3 w6b) := HC7.out.trans hC8 (fun x hx => .inl (HX7.out x hx))
          obtain ⟨D8, hD8, hDA8, _⟩ := hK8.disk
          obtain ⟨S6, hS6⟩ : ∃ S6, S6 = onS S' := ⟨_, rfl⟩
          obtain ⟨P6, hP6⟩ : ∃ P6, P6 = P := ⟨_, rfl⟩
          obtain ⟨W6, hW6⟩ : ∃ W6, W6 = V := ⟨_, rfl⟩
          have HLFF : Hid (S6.left = -1) := by show _ = _; rw [hS6]; rfl
          rw [← hS6] at hD8
          have HDF : Hid (Dsk 81 D8 w6b (.pointer (some ⟨sb, 0, none⟩)) S6) := hD8
          have HIF : Hid (Iv P6 S6 W6) := by rw [hP6, hS6, hW6]; exact HI'.out
          have HBYF : Hid (∀ b ∈ W6, ∀ c ∈ b, c < 256) := by rw [hW6]; exact HS3.out.by'
          have HAX : Hid (∀ x, (A1' x ∨ w3.heap.size ≤ x) → w.heap.size ≤ x) := fun x hx => by rcases hx with q | q; exact HS3.out.ah x q; exact Nat.le_trans HS3.out.be.size q
          have HDH : Hid (∀ x, D8 x → w.heap.size ≤ x) := fun x hx => HAX.out x (HX7.out x (hDA8 x hx))
          have HBEF : Hid (Below w.heap.size w w6b) := HS3.out.be.trans (HCb.out.to_below HS3.out.be.size HAX.out)
          have HNX : Hid (¬ (A1' wb ∨ w3.heap.size ≤ wb)) := fun e => by rcases e with q | q; exact HS3.out.na q; have := HS3.out.wk.lt; omega
          have HWKF : Hid (Wb8 w6b wb W6) := by rw [hW6]; exact HS3.out.wk.keep (HCb.out.block _ HS3.out.wk.lt HNX.out)
          have HNAF : Hid (¬ D8 wb) := fun e => HNX.out (HX7.out _ (hDA8 _ e))
          have HHWF : Hid (w.heap.size ≤ wb) := HS3.out.hw
          have HGN : Hid (P6.gen ≤ 67) := by show _ ≤ _; rw [hP6]; have := HS3.out.gn; have := HK.out; omega
          have HWN : Hid (S6.wr ≤ 2 + 9 * 66) := by show _ ≤ _; rw [hS6]; show S'.wr ≤ _; have := HN'.out.2.2; have := HS3.out.wc; have := HK.out; omega
          have HRN : Hid (S6.rd ≤ 64 * 66) := by show _ ≤ _; rw [hS6]; show S'.rd ≤ _; have := HN'.out.2.1; have := HS3.out.rd; have := HK.out; omega
          have HTF : Hid (Tx D8 w6b (.slice fo ps.length fc) ps) := HTb.out.mono (fun x hx => .inl (hDA8 x hx))
          clear hD8 hDA8 hS6 hP6 hW6 hK8 hC8
          have HRD6 : Hid (S6.rd < 4611686018427387904) := by show _ < _; have := HRN.out; omega
          go_wp2_with fail
          refine (open_good HDF.out HIF.out HRD6.out).mono ?_
          rintro e w7 ⟨cb, A7, rfl, hK7, hx7, hC7⟩
          have HS7 : Hid (Ws w w7 (.pointer (some ⟨cb, 0, none⟩)) (.pointer (some ⟨sb, 0, none⟩)) wb A7 P6 (opS S6) W6 W6 67) := by
            have h1 := HGN.out
            have h2 := HWN.out
            have h3 := HRN.out
            have h4 := sm_open (S := S6)
            have h5 := h4.wr
            have h6 := h4.rd
            exact ⟨hK7, HIF.out.same h4, HBYF.out, fun x hx => by rcases hx7 x hx with q | q; exact HDH.out x q; exact Nat.le_trans HBEF.out.size q, HWKF.out.keep (hC7.block _ HWKF.out.lt HNAF.out), fun e => by rcases hx7 _ e with q | q; exact HNAF.out q; have := HWKF.out.lt; omega, HHWF.out, HBEF.out.trans (hC7.to_below HBEF.out.size HDH.out), by omega, by omega, by omega⟩
          have HT7 : Hid (Tx A7 w7 (.slice fo ps.length fc) ps) := HTF.out.ch hC7 hx7
          clear hK7 hx7 hC7
          obtain ⟨a0, a1, a2, a3, a4, a5, a6, a7, hV⟩ := eight (W := W6) HS7.out.wk.2
          have HV7 : Hid (W6 = [a0, a1, a2, a3, a4, a5, a6, a7]) := hV
          have hwk := HS7.out.wk
          rw [hV] at hwk
          obtain ⟨c0, c1, c2, c3, c4, c5, c6, c7⟩ := wb_cells hwk
          clear hV hwk
          go_wp2_with fail
          refine (holds8 HS7.out.bk (by rw [← HV7.out]; exact HS7.out.iv) (by rw [← HV7.out]; exact HS7.out.by') (by have := HS7.out.rd; omega)).mono ?_
          rintro e w8 ⟨rfl, S8, hK8, hm8, hC8⟩
          have HS8 : Hid (Ws w w8 (.pointer (some ⟨cb, 0, none⟩)) (.pointer (some ⟨sb, 0, none⟩)) wb A7 P6 S8 W6 W6 68) := by
            have h1 := HS7.out.gn
            have h2 := HS7.out.wc
            have h3 := HS7.out.rd
            have h4 := hm8.wr
            have h5 := hm8.rd
            exact HS7.out.turn hK8 (fun x hx => .inl hx) hC8 (HS7.out.iv.same hm8) HS7.out.by' (by omega) (by omega) (by omega)
          have HT8 : Hid (Tx A7 w8 (.slice fo ps.length fc) ps) := HT7.out.ch hC8 (fun x hx => .inl hx)
          have HL8 : Hid (S8.left = -1) := by show _ = _; rw [hm8.lf, sm_open.lf]; exact HLFF.out
          clear hK8 hm8 hC8
          clear c0 c1 c2 c3 c4 c5 c6 c7
          obtain ⟨P9, S9, hO, hI9, hg9, hw9, hr9, hl9⟩ := put_free HS8.out.iv HOK.out (by have := HS8.out.gn; omega) HL8.out
          have HO9 : Hid (putO P6 S8 ps = (0, P9, S9)) := hO
          have HI9 : Hid (Iv P9 S9 (withL W6 ps)) := hI9
          have HN9 : Hid (P9.gen ≤ P6.gen + 1 ∧ S9.wr = S8.wr + cntN ps + (if ps = [] then 0 else 1) ∧ S9.rd = S8.rd ∧ S9.left = -1) := ⟨hg9, hw9, hr9, hl9⟩
          clear hO hI9 hg9 hw9 hr9 hl9
          go_wp2_with fail
          refine (put_walk9 HS8.out.bk HT8.out (by have := HS8.out.wc; omega)).mono ?_
          rintro e w9 ⟨rfl, ⟨A9, hK9, hx9⟩, hC9⟩
          rw [HO9.out] at hK9
          rw [HO9.out]
          have HS9 : Hid (Ws w w9 (.pointer (some ⟨cb, 0, none⟩)) (.pointer (some ⟨sb, 0, none⟩)) wb A9 P9 S9 (withL W6 ps) W6 69) := by
            have h1 := HN9.out
            have h2 := cnt_le HOK.out
            have h3 := HS8.out.gn
            have h4 := HS8.out.wc
            have h5 := HS8.out.rd
            refine HS8.out.turn hK9 hx9 hC9 HI9.out (with_bytes ps W6 HS8.out.by' HT8.out.bytes) (by omega) ?_ (by omega)
            have h6 := h1.2.1
            split at h6 <;> omega
          have HT9 : Hid (Tx A9 w9 (.slice fo ps.length fc) ps) := HT8.out.ch hC9 hx9
          clear hK9 hx9 hC9
          have hwk := HS9.out.wk
          rw [HV7.out] at hwk
          obtain ⟨c0, c1, c2, c3, c4, c5, c6, c7⟩ := wb_cells hwk
          clear hwk
          go_wp2_with fail
          refine (with8 HT9.out (fun q hq => HOK.out.pg q hq)).mono ?_
          rintro e w10 ⟨⟨b0, b1, b2, b3, b4, b5, b6, b7, rfl, hV2⟩, hB10⟩
          have HV2 : Hid (withL W6 ps = [b0, b1, b2, b3, b4, b5, b6, b7]) := by show _ = _; rw [HV7.out]; exact hV2
          have HS10 : Hid (Ws w w10 (.pointer (some ⟨cb, 0, none⟩)) (.pointer (some ⟨sb, 0, none⟩)) wb A9 P9 S9 (withL W6 ps) W6 69) := HS9.out.below hB10
          clear hB10 hV2
          clear c0 c1 c2 c3 c4 c5 c6 c7
          go_wp2_with fail
          refine (holds8 HS10.out.bk (by rw [← HV2.out]; exact HS10.out.iv) (by rw [← HV2.out]; exact HS10.out.by') (by have := HS10.out.rd; omega)).mono ?_
          rintro e w11 ⟨rfl, S11, hK11, hm11, hC11⟩
          have HB11 : Hid (Below w.heap.size w w11) := HS10.out.be.trans (hC11.to_below HS10.out.be.size HS10.out.ah)
          clear hK11 hm11 hC11
          go_wp2_with fail
          go_ret
          exact ⟨rfl, HB11.out⟩
end Go.Proofs.Ytfjgpkpkhccliaa
