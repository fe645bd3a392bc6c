/- PagesLast's walk. -/
import Derived.Test.YtfjgpkpkhccliaaPt
namespace Go.Proofs.Ytfjgpkpkhccliaa
open Go.RowKit

/-- What others do leaves it. -/
theorem Ws.aside {w wr w' : World} {bv dv : Value} {wb k : Nat} {A E : Nat → Prop} {P : Bo} {S : Dk} {W V : List (List Nat)} (h : Ws w wr bv dv wb A P S W V k) (hC : Ch E wr w') (hE : ∀ x, E x → wr.heap.size ≤ x ∨ (¬ A x ∧ x ≠ wb ∧ w.heap.size ≤ x)) : Ws w w' bv dv wb A P S W V k := by
  have hA : ∀ x, A x → ¬ E x := fun x hx e => by rcases hE x e with q | q; have := h.bk.lt hx; omega; exact q.1 hx
  refine ⟨h.bk.ch hC hA, h.iv, h.by', h.ah, h.wk.keep (hC.block _ h.wk.lt (fun e => by rcases hE _ e with q | q; have := h.wk.lt; omega; exact q.2.1 rfl)), h.na, h.hw, h.be.trans (hC.to_below h.be.size (fun x hx => by rcases hE x hx with q | q; have := h.be.size; omega; exact q.2.2)), h.gn, h.wc, h.rd⟩
theorem cnt_take {ps : List (Int × List Nat)} {k : Nat} (h : k < ps.length) : cntN (ps.take (k + 1)) = cntN (ps.take k) + (if ps[k].2 = [] then 0 else 1) := by
  rw [List.take_succ_eq_append_getElem h]; exact cnt_app _ _
theorem cnt_tle (ps : List (Int × List Nat)) (k : Nat) : cntN (ps.take k) ≤ ps.length := Nat.le_trans (List.length_filter_le _ _) (by rw [List.length_take]; omega)

def LaRel (w : World) (n : Nat) (sb wb : Nat) (hv iv : Value) (wr : World) : Prop :=
  ∃ (k : Nat) (A : Nat → Prop) (P : Bo) (S : Dk) (V : List (List Nat)) (bb : Nat), k ≤ n ∧ k ≤ 256 ∧ iv = .int .i64 k ∧ hv = .pointer (some ⟨bb, 0, none⟩) ∧ Ws w wr (.pointer (some ⟨bb, 0, none⟩)) (.pointer (some ⟨sb, 0, none⟩)) wb A P S V V k ∧ S.left = -1

set_option maxRecDepth 100000 in
set_option maxHeartbeats 8000000 in
theorem last_walk9 {w : World} {lv : Value} {lss : List (List (Int × List Nat))} (hl : Lv w lv lss) :
    Calls Try.prog 5 #[lv] w fun e w' => e = .returned (.bool true) ∧ Below w.heap.size w w' := by
  have HL : Hid (Lv w lv lss) := hl
  obtain ⟨lo, lc, rfl, hl1, hl2⟩ := hl.form
  have hli : (lss.length : Int) ≤ 9223372036854775807 := by simp only [maxLen] at hl2; omega
  clear hl hl1 hl2
  go_enter Try.func5, Try.ntmps5
  go_wp2_with fail
  refine (awake_walk w).mono ?_
  rintro e w0 ⟨rfl, hB0⟩
  have HB0 : Hid (Below w.heap.size w w0) := hB0
  clear hB0
  go_wp2_with fail
  refine (room_walk w0).mono ?_
  rintro e w1 ⟨A1, pb, sb, rfl, hK1, hA1, hB1⟩
  have HZ : Hid (Ws w (w1.alloc (Obj.cells #[.string ⟨#[]⟩, .string ⟨#[]⟩, .string ⟨#[]⟩, .string ⟨#[]⟩, .string ⟨#[]⟩, .string ⟨#[]⟩, .string ⟨#[]⟩, .string ⟨#[]⟩] 61)) (.pointer (some ⟨pb, 0, none⟩)) (.pointer (some ⟨sb, 0, none⟩)) w1.heap.size A1 rmP rmS (List.replicate 8 []) (List.replicate 8 []) 0) := by
    have hs0 := HB0.out.size
    have hs1 := hB1.size
    exact ⟨hK1.below (below_alloc _ _), rm_iv, fun b hb c hc => by rw [(List.mem_replicate.1 hb).2] at hc; simp at hc, fun x hx => Nat.le_trans hs0 (hA1 x hx), wb_zero w1, fun e => by have := hK1.lt e; omega, by omega, below_trans (below_trans HB0.out hB1) (below_alloc _ _), Nat.le_refl _, Nat.le_refl _, Nat.le_refl _⟩
  have HLF : Hid (rmS.left = -1) := rfl
  obtain ⟨wb, hwb⟩ : ∃ wb, wb = w1.heap.size := ⟨_, rfl⟩
  rw [← hwb] at HZ
  have HWB : Hid (wb = w1.heap.size) := hwb
  clear hK1 hA1 hB1 hwb
  go_wp2_with fail
  rw [← HWB.out]
  go_loopw [4, 6] (fun hv iv wr => LaRel w lss.length sb wb hv iv wr) (fun _ iv _ => lss.length - (intOf iv).toNat)
  case atStart => exact ⟨0, A1, rmP, rmS, _, pb, Nat.zero_le _, Nat.zero_le _, rfl, rfl, HZ.out, rfl⟩
  case round =>
    obtain ⟨k, A, P, S, V, bb, hk, hk64, rfl, rfl, hS, hlf⟩ := hrel
    have HS : Hid (Ws w wr (.pointer (some ⟨bb, 0, none⟩)) (.pointer (some ⟨sb, 0, none⟩)) wb A P S V V k) := hS
    have HLEFT : Hid (S.left = -1) := hlf
    have HK : Hid (k ≤ 256) := hk64
    clear hS hlf HZ HWB
    by_cases hgo : k < lss.length ∧ k < 256
    · obtain ⟨hlt, h64⟩ := hgo
      obtain ⟨lb, off, u, rfl, hcu, hTv⟩ := HL.out.at hlt
      have hlti : (k : Int) < (lss.length : Int) := by omega
      have h64i : (k : Int) < 256 := by omega
      have HTV : Hid (Tx (fun x => w.heap.size ≤ x) wr u lss[k]) := hTv.later HS.out.be
      have hu : wr.cell? ⟨lb, off + k, none⟩ = some u := by rw [HS.out.be.cell (p := ⟨lb, off + k, none⟩) (cell_lt hcu)]; exact hcu
      obtain ⟨ps, hps⟩ : ∃ ps, ps = fitL lss[k] := ⟨_, rfl⟩
      have HOK : Hid (Lok 8 ps) := by rw [hps]; exact fit_ok _
      have HPS : Hid (fitL lss[k] = ps) := hps.symm
      clear hcu hTv hps
      go_wp2_with fail
      refine (fit_walk HTV.out HS.out.be.size).mono ?_
      rw [HPS.out]
      rintro e w2 ⟨fo, fc, rfl, hT2, hB2⟩
      have HS2 : Hid (Ws w w2 (.pointer (some ⟨bb, 0, none⟩)) (.pointer (some ⟨sb, 0, none⟩)) wb A P S V V k) := HS.out.below hB2
      have HT2 : Hid (Tx (Aw A wb) w2 (.slice fo ps.length fc) ps) := HS.out.apartW hT2
      clear hT2 hB2 hu
      have hpl : (ps.length : Int) ≤ 8 := by have := lok_len HOK.out; omega
      have HCL : Hid (ps.length ≤ 8) := lok_len HOK.out
      go_wp2_with fail
      go_loop [8, 9] (fun nv jv => ∃ j : Nat, j ≤ ps.length ∧ jv = .int .i64 j ∧ nv = .int .i64 (cntN (ps.take j))) (fun _ jv => ps.length - (intOf jv).toNat)
      case atStart => exact ⟨0, Nat.zero_le _, rfl, rfl⟩
      case round =>
        obtain ⟨j, hj, rfl, rfl⟩ := hrel
        by_cases hjl : j < ps.length
        · have HCT : Hid (cntN (ps.take (j + 1)) = cntN (ps.take j) + (if ps[j].2 = [] then 0 else 1)) := cnt_take hjl
          have hc8 : cntN (ps.take j) ≤ 8 := Nat.le_trans (cnt_tle ps j) HCL.out
          obtain ⟨fb, foff, fu, rfl, _, l0, l1, hbx⟩ := HT2.out.at hjl
          obtain ⟨d, hd⟩ : ∃ d, d = ps[j].2 := ⟨_, rfl⟩
          rw [← hd] at hbx HCT
          obtain ⟨uo, uc, rfl, _, _⟩ := bv_form hbx.1
          obtain ⟨c, hc⟩ : ∃ c, c = cntN (ps.take j) := ⟨_, rfl⟩
          rw [← hc] at HCT hc8 ⊢
          have hjli : (j : Int) < (ps.length : Int) := by omega
          clear hd hbx l0 hc
          by_cases hd0 : d = []
          · rw [if_pos hd0] at HCT
            have hdi : (d.length : Int) = 0 := by rw [hd0]; rfl
            have hdn : ¬ (0 : Int) < (d.length : Int) := by omega
            clear hd0 hdi
            go_wp2_with fail
            go_round
            case rel => exact ⟨j + 1, hjl, by simp, by rw [HCT.out]; rfl⟩
            case measure => simp [intOf]; omega
          · rw [if_neg hd0] at HCT
            have hdp : 0 < d.length := List.length_pos_iff.2 hd0
            have hdn : (0 : Int) < (d.length : Int) := by omega
            clear hd0 hdp
            go_wp2_with fail
            go_round
            case rel => exact ⟨j + 1, hjl, by simp, by rw [HCT.out]; simp⟩
            case measure => simp [intOf]; omega
        · have hjli : ¬ (j : Int) < (ps.length : Int) := by omega
          have HTK : Hid (ps.take j = ps) := List.take_of_length_le (by omega)
          rw [HTK.out]
          obtain ⟨N, hN⟩ : ∃ N : Nat, N = cntN ps + (if ps = [] then 0 else 1) := ⟨_, rfl⟩
          have HNN : Hid (N = cntN ps + (if ps = [] then 0 else 1)) := hN
          have hc8 : cntN ps ≤ 8 := cnt_le HOK.out
          have HLP : Hid (∀ (Q : Prop), (ps = [] → N = cntN ps → ¬ (0 : Int) < (ps.length : Int) → Q) → (N = cntN ps + 1 → (0 : Int) < (ps.length : Int) → Q) → Q) := fun Q h1 h2 => by
            by_cases hp : ps = []
            · rw [if_pos hp] at hN; exact h1 hp hN (by rw [hp]; simp)
            · rw [if_neg hp] at hN; exact h2 hN (by have := List.length_pos_iff.2 hp; omega)
          clear hN
          go_upto_if 57 with (fail)
          go_cut [8] (fun nv wx => nv = .int .i64 N ∧ wx = w2)
          case first =>
            refine HLP.out _ (fun hp hN hl0 => ?_) (fun hN hl0 => ?_)
            · clear hp
              go_wp2_with fail
              go_meet
              exact ⟨by rw [hN], rfl⟩
            · go_wp2_with fail
              go_meet
              exact ⟨by rw [hN]; simp, rfl⟩
          case rest =>
            obtain ⟨rfl, rfl⟩ := hcut
            obtain ⟨D2, hD2, hDA2, _⟩ := HS2.out.bk.disk
            have HBW : Hid (S.wr ≤ 2 + 9 * 256) := by show _ ≤ _; have := HS2.out.wc; have := HK.out; omega
            have hbw : (S.wr : Int) ≤ 2 + 9 * 256 := by have := HBW.out; omega
            have hN9 : (N : Int) ≤ 9 := by have h1 := HNN.out; have h2 := cnt_le HOK.out; split at h1 <;> omega
            go_wp2_with fail
            refine (writes_walk hD2).mono ?_
            rintro e w9 ⟨rfl, h9⟩
            have h9 := h9.symm
            subst h9
            clear hD2 hDA2
            obtain ⟨P', S', hO, hI', hg', hw', hr', hl'⟩ := put_free HS2.out.iv HOK.out (by have := HS2.out.gn; have := HK.out; omega) HLEFT.out
            have HO : Hid (putO P S ps = (0, P', S')) := hO
            have HI' : Hid (Iv P' S' (withL V ps)) := hI'
            have HN' : Hid (P'.gen ≤ P.gen + 1 ∧ S'.wr = S.wr + cntN ps + (if ps = [] then 0 else 1) ∧ S'.rd = S.rd ∧ S'.left = -1) := ⟨hg', hw', hr', hl'⟩
            clear hO hI' hg' hw' hr' hl'
            go_wp2_with fail
            refine (put_walk9 HS2.out.bk (tx_of HT2.out) (by have := HS2.out.wc; have := HK.out; omega)).mono ?_
            rintro e w3 ⟨rfl, ⟨A', hK3, hx3⟩, hC3⟩
            rw [HO.out] at hK3
            rw [HO.out]
            have HS3 : Hid (Ws w w3 (.pointer (some ⟨bb, 0, none⟩)) (.pointer (some ⟨sb, 0, none⟩)) wb A' P' S' (withL V ps) V (k + 1)) := by
              have h1 := HN'.out
              have h2 := cnt_le HOK.out
              have h3 := HS2.out.gn
              have h4 := HS2.out.wc
              have h5 := HS2.out.rd
              refine HS2.out.turn hK3 hx3 hC3 HI'.out (with_bytes ps V HS2.out.by' HT2.out.bytes) (by omega) ?_ (by omega)
              have h6 := h1.2.1
              split at h6 <;> omega
            have HT3 : Hid (Tx (Aw A' wb) w3 (.slice fo ps.length fc) ps) := tx_put HT2.out hC3 hx3
            clear hK3 hx3 hC3
            obtain ⟨D3, hD3, hDA3, _⟩ := HS3.out.bk.disk
            have HWE : Hid ((S'.wr : Int) = (S.wr : Int) + (N : Int)) := by show _ = _; have h1 := HN'.out.2.1; have h2 := HNN.out; omega
            go_wp2_with fail
            refine (writes_walk hD3).mono ?_
            rw [HWE.out]
            rintro e w9 ⟨rfl, h9⟩
            have h9 := h9.symm
            subst h9
            clear hD3 hDA3
            obtain ⟨a0, a1, a2, a3, a4, a5, a6, a7, hV⟩ := eight (W := V) HS3.out.wk.2
            have HV : Hid (V = [a0, a1, a2, a3, a4, a5, a6, a7]) := hV
            have hwk := HS3.out.wk
            rw [hV] at hwk
            obtain ⟨c0, c1, c2, c3, c4, c5, c6, c7⟩ := wb_cells hwk
            clear hV hwk
            go_wp2_with fail
            refine (with8 HT3.out (fun q hq => HOK.out.pg q hq)).mono ?_
            rintro e w4 ⟨⟨b0, b1, b2, b3, b4, b5, b6, b7, rfl, hV2⟩, hB4⟩
            have HV2 : Hid (withL V ps = [b0, b1, b2, b3, b4, b5, b6, b7]) := by show _ = _; rw [HV.out]; exact hV2
            have HS4a : Hid (Ws w w4 (.pointer (some ⟨bb, 0, none⟩)) (.pointer (some ⟨sb, 0, none⟩)) wb A' P' S' (withL V ps) [a0, a1, a2, a3, a4, a5, a6, a7] (k + 1)) := by
              have := HS3.out.below hB4
              rw [HV.out] at this ⊢
              exact this
            have HT4 : Hid (Tx (Aw A' wb) w4 (.slice fo ps.length fc) ps) := HT3.out.below hB4
            clear hB4 hV2
            clear c0 c1 c2 c3 c4 c5 c6 c7
            obtain ⟨c0, c1, c2, c3, c4, c5, c6, c7⟩ := wb_cells HS4a.out.wk
            obtain ⟨f0, f1, f2, f3, f4, f5, f6, f7⟩ := wb_soft HS4a.out.wk
            obtain ⟨w5, hw5⟩ : ∃ w5, w5 = ((((((((w4.setCell ⟨wb, 0, none⟩ (.string (str b0))).setCell ⟨wb, 1, none⟩ (.string (str b1))).setCell ⟨wb, 2, none⟩ (.string (str b2))).setCell ⟨wb, 3, none⟩ (.string (str b3))).setCell ⟨wb, 4, none⟩ (.string (str b4))).setCell ⟨wb, 5, none⟩ (.string (str b5))).setCell ⟨wb, 6, none⟩ (.string (str b6))).setCell ⟨wb, 7, none⟩ (.string (str b7))) := ⟨_, rfl⟩
            have HS5 : Hid (Ws w w5 (.pointer (some ⟨bb, 0, none⟩)) (.pointer (some ⟨sb, 0, none⟩)) wb A' P' S' (withL V ps) (withL V ps) (k + 1)) := by show Ws _ _ _ _ _ _ _ _ _ _ _; rw [hw5, HV2.out]; rw [HV2.out] at HS4a; exact HS4a.out.store
            have HT5 : Hid (Tx (Aw A' wb) w5 (.slice fo ps.length fc) ps) := by show Tx _ _ _ _; rw [hw5]; exact tx_store HT4.out b0 b1 b2 b3 b4 b5 b6 b7
            have HW5 : Hid (w5 = ((((((((w4.setCell ⟨wb, 0, none⟩ (.string (str b0))).setCell ⟨wb, 1, none⟩ (.string (str b1))).setCell ⟨wb, 2, none⟩ (.string (str b2))).setCell ⟨wb, 3, none⟩ (.string (str b3))).setCell ⟨wb, 4, none⟩ (.string (str b4))).setCell ⟨wb, 5, none⟩ (.string (str b5))).setCell ⟨wb, 6, none⟩ (.string (str b6))).setCell ⟨wb, 7, none⟩ (.string (str b7)))) := hw5
            clear hw5
            go_wp2_with fail
            rw [← HW5.out]
            clear c0 c1 c2 c3 c4 c5 c6 c7
            clear f0 f1 f2 f3 f4 f5 f6 f7
            obtain ⟨D5, hD5, hDA5, _⟩ := HS5.out.bk.disk
            have HD5 : Hid (Dsk 81 D5 w5 (.pointer (some ⟨sb, 0, none⟩)) S') := hD5
            have HDA5 : Hid (∀ x, D5 x → A' x) := hDA5
            clear hD5 hDA5
            refine (open_good HD5.out HS5.out.iv (by have := HS5.out.rd; have := HK.out; omega)).mono ?_
            rintro e w7 ⟨cb, A7, rfl, hK7, hx7, hC7⟩
            have HS7 : Hid (Ws w w7 (.pointer (some ⟨cb, 0, none⟩)) (.pointer (some ⟨sb, 0, none⟩)) wb A7 P' (opS S') (withL V ps) (withL V ps) (k + 1)) := by
              have h4 := sm_open (S := S')
              have h5 := h4.wr
              have h6 := h4.rd
              have h7 := HN'.out.2.2.1
              have h8 := HS2.out.rd
              have h9 := HS5.out.wc
              refine HS5.out.turn hK7 (fun x hx => ?_) ⟨hC7.os, hC7.tape, hC7.output, hC7.size, fun x hx hn => hC7.block x hx (fun e => hn (HDA5.out x e))⟩ (HS5.out.iv.same h4) HS5.out.by' HS5.out.gn (by omega) (by omega)
              rcases hx7 x hx with q | q
              · exact .inl (HDA5.out x q)
              · exact .inr q
            clear hK7 hx7 hC7
            have hwk := HS7.out.wk
            rw [HV2.out] at hwk
            obtain ⟨e0, e1, e2, e3, e4, e5, e6, e7⟩ := wb_cells hwk
            clear hwk
            go_wp2_with fail
            refine (holds8 HS7.out.bk (by rw [← HV2.out]; exact HS7.out.iv) (by rw [← HV2.out]; exact HS7.out.by') (by have := HS7.out.rd; have := HK.out; omega)).mono ?_
            rintro e w8 ⟨rfl, S8, hK8, hm8, hC8⟩
            have HS8 : Hid (Ws w w8 (.pointer (some ⟨cb, 0, none⟩)) (.pointer (some ⟨sb, 0, none⟩)) wb A7 P' S8 (withL V ps) (withL V ps) (k + 1)) := by
              have h4 := hm8.wr
              have h5 := hm8.rd
              have h6 := sm_open (S := S')
              have h7 := h6.rd
              have h8 := HN'.out.2.2.1
              have h9 := HS2.out.rd
              have h10 := HS7.out.wc
              exact HS7.out.turn hK8 (fun x hx => .inl hx) hC8 (HS7.out.iv.same hm8) HS7.out.by' HS7.out.gn (by omega) (by omega)
            have HL8 : Hid (S8.left = -1) := by show _ = _; rw [hm8.lf, sm_open.lf]; exact HN'.out.2.2.2
            clear hK8 hm8 hC8
            go_wp2_with fail
            go_roundw
            case rel => exact ⟨k + 1, A7, P', S8, _, cb, hlt, by omega, by simp, rfl, HS8.out, HL8.out⟩
            case measure => simp [intOf]; omega
    · have HGO : Hid (¬ (k < lss.length ∧ k < 256)) := hgo
      clear hgo
      by_cases hlt : k < lss.length
      · have h4d : decide ((k : Int) < 256) = false := decide_eq_false (by have := HGO.out; omega)
        have h4 : (256 : Int) ≤ (k : Int) := by have := HGO.out; omega
        obtain ⟨D2, hD2, hDA2, _⟩ := HS.out.bk.disk
        go_wp2_with fail
        refine (image_walk hD2).mono ?_
        rintro e w2 ⟨gi, ci, rfl, hG, hgi, hB2⟩
        have HPV : Hid (Pv w2 (.slice (some ⟨gi, 0, none⟩) S.bl.length ci) S.bl) := hG.pv hD2.good.byt
        have HS2 : Hid (Ws w w2 (.pointer (some ⟨bb, 0, none⟩)) (.pointer (some ⟨sb, 0, none⟩)) wb A P S V V k) := HS.out.below hB2
        have HGD : Hid S.ok := hD2.good
        have HLB : Hid (longB S.bl = false) := by
          show _ = _
          cases h : longB S.bl
          · rfl
          · obtain ⟨x, hx, h2⟩ := List.any_eq_true.1 h
            have := HGD.out.len x hx
            simp at h2; omega
        clear hD2 hDA2 hG hgi hB2
        go_wp2_with fail
        refine (load_walk HPV.out HGD.out.n1 HGD.out.n64).mono ?_
        intro e w3 hld
        unfold Ld at hld
        rw [if_neg (by rw [HLB.out]; simp)] at hld
        obtain ⟨dv3, D3, rfl, hD3, hB3, hx3⟩ := hld
        obtain ⟨s3, hs3⟩ : ∃ s3, dv3 = .pointer (some ⟨s3, 0, none⟩) := by obtain ⟨s3, _, _, e, _⟩ := hD3; exact ⟨s3, e⟩
        subst hs3
        have HS3 : Hid (Ws w w3 (.pointer (some ⟨bb, 0, none⟩)) (.pointer (some ⟨sb, 0, none⟩)) wb A P S V V k) := HS2.out.below hB3
        have HD3 : Hid (Dsk 81 D3 w3 (.pointer (some ⟨s3, 0, none⟩)) (loadS S.bl)) := hD3
        have HX3 : Hid (∀ x, D3 x → w2.heap.size ≤ x) := hx3
        have HI3 : Hid (Iv P (loadS S.bl) V) := HS.out.iv.turn rfl rfl (fun _ _ => rfl)
        have HS23 : Hid (w2.heap.size ≤ w3.heap.size) := hB3.size
        have HN3 : Hid (∀ x, D3 x → ¬ A x ∧ x ≠ wb ∧ w.heap.size ≤ x) := fun x hx => by
          have h1 := hx3 x hx
          have h2 := HS2.out.wk.lt
          have h3 := HS2.out.be.size
          exact ⟨fun e => by have := HS2.out.bk.lt e; omega, by omega, by omega⟩
        clear hD3 hB3 hx3
        go_wp2_with fail
        refine (open_good HD3.out HI3.out (by show (0 : Nat) < _; omega)).mono ?_
        rintro e w4 ⟨cb, A4, rfl, hK4, hx4, hC4⟩
        have HS4 : Hid (Ws w w4 (.pointer (some ⟨bb, 0, none⟩)) (.pointer (some ⟨sb, 0, none⟩)) wb A P S V V k) := HS3.out.aside hC4 (fun x hx => .inr (HN3.out x hx))
        have HK4 : Hid (BP A4 w4 (.pointer (some ⟨cb, 0, none⟩)) (.pointer (some ⟨s3, 0, none⟩)) P (opS (loadS S.bl))) := hK4
        have HN4 : Hid (∀ x, A4 x → ¬ A x ∧ x ≠ wb ∧ w.heap.size ≤ x) := fun x hx => by
          rcases hx4 x hx with q | q
          · exact HN3.out x q
          · have h2 := HS3.out.wk.lt
            have h3 := HS3.out.be.size
            exact ⟨fun e => by have := HS3.out.bk.lt e; omega, by omega, by omega⟩
        clear hK4 hx4 hC4
        obtain ⟨a0, a1, a2, a3, a4, a5, a6, a7, hV⟩ := eight (W := V) HS4.out.wk.2
        have HV : Hid (V = [a0, a1, a2, a3, a4, a5, a6, a7]) := hV
        have hwk := HS4.out.wk
        rw [hV] at hwk
        obtain ⟨c0, c1, c2, c3, c4, c5, c6, c7⟩ := wb_cells hwk
        clear hV hwk
        go_wp2_with fail
        refine (holds8 HK4.out (by rw [← HV.out]; exact HI3.out.same sm_open) (by rw [← HV.out]; exact HS4.out.by') (by have := (sm_open (S := loadS S.bl)).rd; show _ < _; have h0 : (loadS S.bl).rd = 0 := rfl; omega)).mono ?_
        rintro e w5 ⟨rfl, S5, hK5, hm5, hC5⟩
        have HS5 : Hid (Ws w w5 (.pointer (some ⟨bb, 0, none⟩)) (.pointer (some ⟨sb, 0, none⟩)) wb A P S V V k) := HS4.out.aside hC5 (fun x hx => .inr (HN4.out x hx))
        clear hK5 hm5 hC5
        clear c0 c1 c2 c3 c4 c5 c6 c7
        have hwk := HS5.out.wk
        rw [HV.out] at hwk
        obtain ⟨c0, c1, c2, c3, c4, c5, c6, c7⟩ := wb_cells hwk
        clear hwk
        go_wp2_with fail
        refine (holds8 HS5.out.bk (by rw [← HV.out]; exact HS5.out.iv) (by rw [← HV.out]; exact HS5.out.by') (by have := HS5.out.rd; have := HK.out; omega)).mono ?_
        rintro e w6 ⟨rfl, S6, hK6, hm6, hC6⟩
        have HB6 : Hid (Below w.heap.size w w6) := HS5.out.be.trans (hC6.to_below HS5.out.be.size HS5.out.ah)
        clear hK6 hm6 hC6
        go_wp2_with fail
        go_ret
        exact ⟨rfl, HB6.out⟩
      · have h4 : (lss.length : Int) ≤ (k : Int) := by omega
        obtain ⟨D2, hD2, hDA2, _⟩ := HS.out.bk.disk
        go_wp2_with fail
        refine (image_walk hD2).mono ?_
        rintro e w2 ⟨gi, ci, rfl, hG, hgi, hB2⟩
        have HPV : Hid (Pv w2 (.slice (some ⟨gi, 0, none⟩) S.bl.length ci) S.bl) := hG.pv hD2.good.byt
        have HS2 : Hid (Ws w w2 (.pointer (some ⟨bb, 0, none⟩)) (.pointer (some ⟨sb, 0, none⟩)) wb A P S V V k) := HS.out.below hB2
        have HGD : Hid S.ok := hD2.good
        have HLB : Hid (longB S.bl = false) := by
          show _ = _
          cases h : longB S.bl
          · rfl
          · obtain ⟨x, hx, h2⟩ := List.any_eq_true.1 h
            have := HGD.out.len x hx
            simp at h2; omega
        clear hD2 hDA2 hG hgi hB2
        go_wp2_with fail
        refine (load_walk HPV.out HGD.out.n1 HGD.out.n64).mono ?_
        intro e w3 hld
        unfold Ld at hld
        rw [if_neg (by rw [HLB.out]; simp)] at hld
        obtain ⟨dv3, D3, rfl, hD3, hB3, hx3⟩ := hld
        obtain ⟨s3, hs3⟩ : ∃ s3, dv3 = .pointer (some ⟨s3, 0, none⟩) := by obtain ⟨s3, _, _, e, _⟩ := hD3; exact ⟨s3, e⟩
        subst hs3
        have HS3 : Hid (Ws w w3 (.pointer (some ⟨bb, 0, none⟩)) (.pointer (some ⟨sb, 0, none⟩)) wb A P S V V k) := HS2.out.below hB3
        have HD3 : Hid (Dsk 81 D3 w3 (.pointer (some ⟨s3, 0, none⟩)) (loadS S.bl)) := hD3
        have HX3 : Hid (∀ x, D3 x → w2.heap.size ≤ x) := hx3
        have HI3 : Hid (Iv P (loadS S.bl) V) := HS.out.iv.turn rfl rfl (fun _ _ => rfl)
        have HS23 : Hid (w2.heap.size ≤ w3.heap.size) := hB3.size
        have HN3 : Hid (∀ x, D3 x → ¬ A x ∧ x ≠ wb ∧ w.heap.size ≤ x) := fun x hx => by
          have h1 := hx3 x hx
          have h2 := HS2.out.wk.lt
          have h3 := HS2.out.be.size
          exact ⟨fun e => by have := HS2.out.bk.lt e; omega, by omega, by omega⟩
        clear hD3 hB3 hx3
        go_wp2_with fail
        refine (open_good HD3.out HI3.out (by show (0 : Nat) < _; omega)).mono ?_
        rintro e w4 ⟨cb, A4, rfl, hK4, hx4, hC4⟩
        have HS4 : Hid (Ws w w4 (.pointer (some ⟨bb, 0, none⟩)) (.pointer (some ⟨sb, 0, none⟩)) wb A P S V V k) := HS3.out.aside hC4 (fun x hx => .inr (HN3.out x hx))
        have HK4 : Hid (BP A4 w4 (.pointer (some ⟨cb, 0, none⟩)) (.pointer (some ⟨s3, 0, none⟩)) P (opS (loadS S.bl))) := hK4
        have HN4 : Hid (∀ x, A4 x → ¬ A x ∧ x ≠ wb ∧ w.heap.size ≤ x) := fun x hx => by
          rcases hx4 x hx with q | q
          · exact HN3.out x q
          · have h2 := HS3.out.wk.lt
            have h3 := HS3.out.be.size
            exact ⟨fun e => by have := HS3.out.bk.lt e; omega, by omega, by omega⟩
        clear hK4 hx4 hC4
        obtain ⟨a0, a1, a2, a3, a4, a5, a6, a7, hV⟩ := eight (W := V) HS4.out.wk.2
        have HV : Hid (V = [a0, a1, a2, a3, a4, a5, a6, a7]) := hV
        have hwk := HS4.out.wk
        rw [hV] at hwk
        obtain ⟨c0, c1, c2, c3, c4, c5, c6, c7⟩ := wb_cells hwk
        clear hV hwk
        go_wp2_with fail
        refine (holds8 HK4.out (by rw [← HV.out]; exact HI3.out.same sm_open) (by rw [← HV.out]; exact HS4.out.by') (by have := (sm_open (S := loadS S.bl)).rd; show _ < _; have h0 : (loadS S.bl).rd = 0 := rfl; omega)).mono ?_
        rintro e w5 ⟨rfl, S5, hK5, hm5, hC5⟩
        have HS5 : Hid (Ws w w5 (.pointer (some ⟨bb, 0, none⟩)) (.pointer (some ⟨sb, 0, none⟩)) wb A P S V V k) := HS4.out.aside hC5 (fun x hx => .inr (HN4.out x hx))
        clear hK5 hm5 hC5
        clear c0 c1 c2 c3 c4 c5 c6 c7
        have hwk := HS5.out.wk
        rw [HV.out] at hwk
        obtain ⟨c0, c1, c2, c3, c4, c5, c6, c7⟩ := wb_cells hwk
        clear hwk
        go_wp2_with fail
        refine (holds8 HS5.out.bk (by rw [← HV.out]; exact HS5.out.iv) (by rw [← HV.out]; exact HS5.out.by') (by have := HS5.out.rd; have := HK.out; omega)).mono ?_
        rintro e w6 ⟨rfl, S6, hK6, hm6, hC6⟩
        have HB6 : Hid (Below w.heap.size w w6) := HS5.out.be.trans (hC6.to_below HS5.out.be.size HS5.out.ah)
        clear hK6 hm6 hC6
        go_wp2_with fail
        go_ret
        exact ⟨rfl, HB6.out⟩
end Go.Proofs.Ytfjgpkpkhccliaa
