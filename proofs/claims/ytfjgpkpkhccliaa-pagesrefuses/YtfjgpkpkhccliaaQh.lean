/- PagesRefuses' walk where how % 3 = 2. -/
import Derived.Test.YtfjgpkpkhccliaaQf
namespace Go.Proofs.Ytfjgpkpkhccliaa
open Go.RowKit

theorem make_long : ∀ wx : World, (Instr.makeSlice 43 (.int .i64 1025) (.int .i64 1025)).run Try.prog wx = .ok (.slice (some ⟨wx.heap.size, 0, none⟩) 1025 1025) (wx.alloc (.cells (madeCells #[.int .u8 0] (1025 * 1)) 5)) := fun wx => by
  obtain ⟨i0, hi0, hz0, hz1, hz2⟩ := info_partsV info_u8
  have := run_make (P := Try.prog) wx 43 5 i0 (.int .u8 0) Try.underlying43 hi0 hz0 .i64 .i64 (1025 : Nat) (1025 : Nat) (by omega) (Int.le_refl _) (by rw [hz2]; omega) (by omega)
  rw [hz1] at this
  exact this
theorem made_any (w : World) (n : Nat) (hm : n ≤ maxLen) : Oc (w.alloc (.cells (madeCells #[.int .u8 0] (n * 1)) 5)) (.slice (some ⟨w.heap.size, 0, none⟩) n n) (zer n) := by
  have hl : (cb (zer n)).length = n := by unfold cb ib; rw [List.length_map, List.length_map]; exact zer_len n
  have hat : ∀ i, i < n → (cb (zer n))[i]? = some (.int .u8 0) := fun i hi => by unfold cb ib zer; simp [hi]
  unfold Oc
  rw [zer_len]
  refine ⟨by rw [hl]; simp, .inr ⟨w.heap.size, n, _, rfl, Nat.zero_le _, heap_alloc_new w _, Nat.le_refl _, hm, by rw [size_madeCells], ?_⟩⟩
  refine List.ext_getElem? (fun i => ?_)
  rw [List.getElem?_take]
  by_cases hi : i < n
  · rw [if_pos (by omega), Array.getElem?_toList, hat i hi]
    simp [madeCells, hi, Nat.mod_one]
  · rw [if_neg (by omega), List.getElem?_eq_none (by omega)]
theorem made_long (w : World) {Z : Array Value} (hZ : Z = madeCells #[.int .u8 0] (1025 * 1)) : Oc (w.alloc (.cells Z 5)) (.slice (some ⟨w.heap.size, 0, none⟩) 1025 1025) (zer 1025) := by
  subst hZ; exact made_any w 1025 (by simp [maxLen])

set_option maxRecDepth 100000 in
set_option maxHeartbeats 8000000 in
theorem refuses_walk_2 {w : World} {lv : Value} {lss : List (List (Int × List Nat))} {p0 how : Int} {uo : Option Addr} {uc : Nat} {d0 : List Nat} (hl : Lv w lv lss) (hb : Bv w (.slice uo d0.length uc) d0) (hp0 : -9223372036854775808 ≤ p0 ∧ p0 < 9223372036854775808) (hm2 : (IntKind.u64.wrap how).tmod 3 = 2) :
    Calls Try.prog 8 #[lv, .agg #[.int .i64 p0, .slice uo d0.length uc], .int .i64 how] w fun e w' => e = .returned (.bool true) ∧ Below w.heap.size w w' := by
  have HL : Hid (Lv w lv lss) := hl
  have HBV : Hid (Bv w (.slice uo d0.length uc) d0) := hb
  have HP0 : Hid (-9223372036854775808 ≤ p0 ∧ p0 < 9223372036854775808) := hp0
  obtain ⟨lo, lc, rfl, hl1, hl2⟩ := hl.form
  have hli : (lss.length : Int) ≤ 9223372036854775807 := by simp only [maxLen] at hl2; omega
  clear hl hl1 hl2 hb hp0
  go_enter Try.func8, Try.ntmps8
  go_wp2_with fail
  have HBA : Hid (Below w.heap.size w (w.alloc (Obj.cells #[.int .i64 p0, .slice uo d0.length uc] 56)) ∧ Bd (w.alloc (Obj.cells #[.int .i64 p0, .slice uo d0.length uc] 56)) w.heap.size p0 (.slice uo d0.length uc)) := ⟨below_alloc _ _, heap_alloc_new w _⟩
  obtain ⟨wa, hwa⟩ : ∃ wa, wa = w.alloc (Obj.cells #[.int .i64 p0, .slice uo d0.length uc] 56) := ⟨_, rfl⟩
  rw [← hwa] at HBA ⊢
  clear hwa
  refine (awake_walk wa).mono ?_
  rintro e w0 ⟨rfl, hB0⟩
  have HB0 : Hid (Below w.heap.size w w0) := below_trans HBA.out.1 hB0
  have HBD0 : Hid (Bd w0 w.heap.size p0 (.slice uo d0.length uc)) := HBA.out.2.below hB0
  clear hB0
  go_wp2_with fail
  refine (room_walk w0).mono ?_
  rintro e w1 ⟨A1, pb, sb, rfl, hK1, hA1, hB1⟩
  have HZ : Hid (Ws w (w1.alloc (Obj.cells #[.string ⟨#[]⟩, .string ⟨#[]⟩, .string ⟨#[]⟩, .string ⟨#[]⟩, .string ⟨#[]⟩, .string ⟨#[]⟩, .string ⟨#[]⟩, .string ⟨#[]⟩] 61)) (.pointer (some ⟨pb, 0, none⟩)) (.pointer (some ⟨sb, 0, none⟩)) w1.heap.size A1 rmP rmS (List.replicate 8 []) (List.replicate 8 []) 0) := by
    have hs0 := HB0.out.size
    have hs1 := hB1.size
    exact ⟨hK1.below (below_alloc _ _), rm_iv, fun b hb c hc => by rw [(List.mem_replicate.1 hb).2] at hc; simp at hc, fun x hx => Nat.le_trans hs0 (hA1 x hx), wb_zero w1, fun e => by have := hK1.lt e; omega, by omega, below_trans (below_trans HB0.out hB1) (below_alloc _ _), Nat.le_refl _, Nat.le_refl _, Nat.le_refl _⟩
  have HLF : Hid (rmS.left = -1) := rfl
  obtain ⟨wb, hwb⟩ : ∃ wb, wb = w1.heap.size := ⟨_, rfl⟩
  rw [← hwb] at HZ
  have HWB : Hid (wb = w1.heap.size) := hwb
  have HBDZ : Hid (Bd (w1.alloc (Obj.cells #[.string ⟨#[]⟩, .string ⟨#[]⟩, .string ⟨#[]⟩, .string ⟨#[]⟩, .string ⟨#[]⟩, .string ⟨#[]⟩, .string ⟨#[]⟩, .string ⟨#[]⟩] 61)) w.heap.size p0 (.slice uo d0.length uc)) := (HBD0.out.below hB1).below (below_alloc _ _)
  have HAXZ : Hid ((∀ x, A1 x → w.heap.size < x) ∧ w.heap.size < wb) := by
    have h1 := HBD0.out.lt
    have h2 := hB1.size
    exact ⟨fun x hx => Nat.lt_of_lt_of_le h1 (hA1 x hx), by omega⟩
  clear hK1 hA1 hB1 hwb
  go_wp2_with fail
  rw [← HWB.out]
  go_loopw [10] (fun iv wr => RfRel w lss.length pb sb wb False (.slice uo d0.length uc) iv wr) (fun iv _ => lss.length - (intOf iv).toNat)
  case atStart => exact ⟨0, A1, rmP, rmS, _, p0, _, Nat.zero_le _, Nat.zero_le _, rfl, HZ.out, rfl, HBDZ.out, HP0.out, fun _ => rfl, HAXZ.out.1, HAXZ.out.2⟩
  case round =>
    obtain ⟨k, A, P, S, V, p, u, hk, hk64, rfl, hS, hlf, hBd, hpr, hu0, hax, haw⟩ := hrel
    have HS : Hid (Ws w wr (.pointer (some ⟨pb, 0, none⟩)) (.pointer (some ⟨sb, 0, none⟩)) wb A P S V V k) := hS
    have HLEFT : Hid (S.left = -1) := hlf
    have HK : Hid (k ≤ 64) := hk64
    have HBD : Hid (Bd wr w.heap.size p u) := hBd
    have HAX : Hid ((∀ x, A x → w.heap.size < x) ∧ w.heap.size < wb) := ⟨hax, haw⟩
    have HPP : Hid (-9223372036854775808 ≤ p ∧ p < 9223372036854775808) := hpr
    have HU : Hid (False → u = .slice uo d0.length uc) := hu0
    clear hS hlf HZ HWB hBd hax haw HBDZ HAXZ hpr hu0 HBD0 HBA
    by_cases hgo : k < lss.length ∧ k < 64
    · obtain ⟨hlt, h64⟩ := hgo
      obtain ⟨lb, off, lu, rfl, hcu, hTv⟩ := HL.out.at hlt
      have hlti : (k : Int) < (lss.length : Int) := by omega
      have h64i : (k : Int) < 64 := by omega
      have HTV : Hid (Tx (fun x => w.heap.size ≤ x) wr lu lss[k]) := hTv.later HS.out.be
      have hu : wr.cell? ⟨lb, off + k, none⟩ = some lu := by rw [HS.out.be.cell (p := ⟨lb, off + k, none⟩) (cell_lt hcu)]; exact hcu
      obtain ⟨ps, hps⟩ : ∃ ps, ps = fitL lss[k] := ⟨_, rfl⟩
      have HOK : Hid (Lok 8 ps) := by rw [hps]; exact fit_ok _
      have HPS : Hid (fitL lss[k] = ps) := hps.symm
      clear hcu hTv hps
      go_wp2_with fail
      refine (fit_walk HTV.out HS.out.be.size).mono ?_
      rw [HPS.out]
      rintro e w2 ⟨fo, fc, rfl, hT2, hB2⟩
      have HS2 : Hid (Ws w w2 (.pointer (some ⟨pb, 0, none⟩)) (.pointer (some ⟨sb, 0, none⟩)) wb A P S V V k) := HS.out.below hB2
      have HT2 : Hid (Tx (Aw A wb) w2 (.slice fo ps.length fc) ps) := HS.out.apartW hT2
      have HX : Hid ((∀ x, A x → w.heap.size ≤ x ∧ x < wr.heap.size) ∧ (w.heap.size ≤ wb ∧ wb < wr.heap.size) ∧ (w.heap.size ≤ w.heap.size ∧ w.heap.size < wr.heap.size)) := ⟨fun x hx => ⟨HS.out.ah x hx, HS.out.bk.lt hx⟩, ⟨HS.out.hw, HS.out.wk.lt⟩, ⟨Nat.le_refl _, HBD.out.lt⟩⟩
      have HTX2 : Hid (Tx (fun x => w.heap.size ≤ x ∧ x < wr.heap.size) w2 (.slice fo ps.length fc) ps) := hT2
      have HBD2 : Hid (Bd w2 w.heap.size p u) := HBD.out.below hB2
      have HWR2 : Hid (wr.heap.size ≤ w2.heap.size) := hB2.size
      clear hT2 hB2 hu
      obtain ⟨P', S', hO, hI', hg', hw', hr', hl'⟩ := put_free HS2.out.iv HOK.out (by have := HS2.out.gn; have := HK.out; omega) HLEFT.out
      have HO : Hid (putO P S ps = (0, P', S')) := hO
      have HI' : Hid (Iv P' S' (withL V ps)) := hI'
      have HN' : Hid (P'.gen ≤ P.gen + 1 ∧ S'.wr = S.wr + cntN ps + (if ps = [] then 0 else 1) ∧ S'.rd = S.rd ∧ S'.left = -1) := ⟨hg', hw', hr', hl'⟩
      clear hO hI' hg' hw' hr' hl'
      go_wp2_with fail
      refine (put_walk9 HS2.out.bk (tx_of HT2.out) (by have := HS2.out.wc; have := HK.out; omega)).mono ?_
      rintro e w3 ⟨rfl, ⟨A', hK3, hx3⟩, hC3⟩
      rw [HO.out] at hK3
      rw [HO.out]
      have HS3 : Hid (Ws w w3 (.pointer (some ⟨pb, 0, none⟩)) (.pointer (some ⟨sb, 0, none⟩)) wb A' P' S' (withL V ps) V (k + 1)) := by
        have h1 := HN'.out
        have h2 := cnt_le HOK.out
        have h3 := HS2.out.gn
        have h4 := HS2.out.wc
        have h5 := HS2.out.rd
        refine HS2.out.turn hK3 hx3 hC3 HI'.out (with_bytes ps V HS2.out.by' HT2.out.bytes) (by omega) ?_ (by omega)
        have h6 := h1.2.1
        split at h6 <;> omega
      have HT3 : Hid (Tx (Aw A' wb) w3 (.slice fo ps.length fc) ps) := tx_put HT2.out hC3 hx3
      have HTX3 : Hid (Tx (fun x => (w.heap.size ≤ x ∧ x < wr.heap.size) ∨ A' x) w3 (.slice fo ps.length fc) ps) := HTX2.out.ch ⟨hC3.os, hC3.tape, hC3.output, hC3.size, fun x hx hn => hC3.block x hx (fun e => hn (HX.out.1 x e))⟩ (fun x hx => by
        rcases hx with q | q
        · exact .inl q
        · rcases hx3 x q with q2 | q2
          · exact .inl (HX.out.1 x q2)
          · exact .inr q2)
      have HBD3 : Hid (Bd w3 w.heap.size p u) := HBD2.out.keep (hC3.block _ HBD2.out.lt (fun e => by have := HAX.out.1 _ e; omega))
      have HAX3 : Hid (∀ x, A' x → w.heap.size < x) := fun x hx => by
        rcases hx3 x hx with q | q
        · exact HAX.out.1 x q
        · have := HBD2.out.lt; omega
      clear hK3 hx3 hC3
      obtain ⟨a0, a1, a2, a3, a4, a5, a6, a7, hV⟩ := eight (W := V) HS3.out.wk.2
      have HV : Hid (V = [a0, a1, a2, a3, a4, a5, a6, a7]) := hV
      have hwk := HS3.out.wk
      rw [hV] at hwk
      obtain ⟨c0, c1, c2, c3, c4, c5, c6, c7⟩ := wb_cells hwk
      clear hV hwk
      go_wp2_with fail
      refine (with8 HT3.out (fun q hq => HOK.out.pg q hq)).mono ?_
      rintro e w4 ⟨⟨b0, b1, b2, b3, b4, b5, b6, b7, rfl, hV2⟩, hB4⟩
      have HV2 : Hid (withL V ps = [b0, b1, b2, b3, b4, b5, b6, b7]) := by show _ = _; rw [HV.out]; exact hV2
      have HS4a : Hid (Ws w w4 (.pointer (some ⟨pb, 0, none⟩)) (.pointer (some ⟨sb, 0, none⟩)) wb A' P' S' (withL V ps) [a0, a1, a2, a3, a4, a5, a6, a7] (k + 1)) := by
        have := HS3.out.below hB4
        rw [HV.out] at this ⊢
        exact this
      have HT4 : Hid (Tx (Aw A' wb) w4 (.slice fo ps.length fc) ps) := HT3.out.below hB4
      have HTX4 : Hid (Tx (fun x => (w.heap.size ≤ x ∧ x < wr.heap.size) ∨ A' x) w4 (.slice fo ps.length fc) ps) := HTX3.out.below hB4
      have HBD4 : Hid (Bd w4 w.heap.size p u) := HBD3.out.below hB4
      clear hB4 hV2
      clear c0 c1 c2 c3 c4 c5 c6 c7
      obtain ⟨c0, c1, c2, c3, c4, c5, c6, c7⟩ := wb_cells HS4a.out.wk
      obtain ⟨f0, f1, f2, f3, f4, f5, f6, f7⟩ := wb_soft HS4a.out.wk
      obtain ⟨w5, hw5⟩ : ∃ w5, w5 = ((((((((w4.setCell ⟨wb, 0, none⟩ (.string (str b0))).setCell ⟨wb, 1, none⟩ (.string (str b1))).setCell ⟨wb, 2, none⟩ (.string (str b2))).setCell ⟨wb, 3, none⟩ (.string (str b3))).setCell ⟨wb, 4, none⟩ (.string (str b4))).setCell ⟨wb, 5, none⟩ (.string (str b5))).setCell ⟨wb, 6, none⟩ (.string (str b6))).setCell ⟨wb, 7, none⟩ (.string (str b7))) := ⟨_, rfl⟩
      have HS5 : Hid (Ws w w5 (.pointer (some ⟨pb, 0, none⟩)) (.pointer (some ⟨sb, 0, none⟩)) wb A' P' S' (withL V ps) (withL V ps) (k + 1)) := by show Ws _ _ _ _ _ _ _ _ _ _ _; rw [hw5, HV2.out]; rw [HV2.out] at HS4a; exact HS4a.out.store
      have HT5 : Hid (Tx (Aw A' wb) w5 (.slice fo ps.length fc) ps) := by show Tx _ _ _ _; rw [hw5]; exact tx_store HT4.out b0 b1 b2 b3 b4 b5 b6 b7
      have HW5 : Hid (w5 = ((((((((w4.setCell ⟨wb, 0, none⟩ (.string (str b0))).setCell ⟨wb, 1, none⟩ (.string (str b1))).setCell ⟨wb, 2, none⟩ (.string (str b2))).setCell ⟨wb, 3, none⟩ (.string (str b3))).setCell ⟨wb, 4, none⟩ (.string (str b4))).setCell ⟨wb, 5, none⟩ (.string (str b5))).setCell ⟨wb, 6, none⟩ (.string (str b6))).setCell ⟨wb, 7, none⟩ (.string (str b7)))) := hw5
      have HCW : Hid (Ch (fun x => x = wb) w4 w5) := by show Ch _ _ _; rw [hw5]; exact Ch.of_grown (wb_grown w4 wb b0 b1 b2 b3 b4 b5 b6 b7) (fun x hx => by cases hx; rfl)
      have HTX5 : Hid (Tx (fun x => (w.heap.size ≤ x ∧ x < wr.heap.size) ∨ A' x) w5 (.slice fo ps.length fc) ps) := HTX4.out.ch ⟨HCW.out.os, HCW.out.tape, HCW.out.output, HCW.out.size, fun x hx hn => HCW.out.block x hx (fun e => hn (.inl (by rw [e]; exact HX.out.2.1)))⟩ (fun _ hx => .inl hx)
      have HBD5 : Hid (Bd w5 w.heap.size p u) := HBD4.out.keep (HCW.out.block _ HBD4.out.lt (fun e => by have := HAX.out.2; omega))
      clear hw5
      go_wp2_with fail
      rw [← HW5.out]
      clear c0 c1 c2 c3 c4 c5 c6 c7
      clear f0 f1 f2 f3 f4 f5 f6 f7
      obtain ⟨D5, hD5, _, _⟩ := HS5.out.bk.disk
      have HOK5 : Hid S'.ok := hD5.good
      have HD5 : Hid (Dsk 81 D5 w5 (.pointer (some ⟨sb, 0, none⟩)) S') := hD5
      clear hD5
      refine (image_walk HD5.out).mono ?_
      rintro e w6 ⟨go, co, rfl, hGo, hgo, hBi⟩
      have HS6 : Hid (Ws w w6 (.pointer (some ⟨pb, 0, none⟩)) (.pointer (some ⟨sb, 0, none⟩)) wb A' P' S' (withL V ps) (withL V ps) (k + 1)) := HS5.out.below hBi
      have HTX6 : Hid (Tx (fun x => (w.heap.size ≤ x ∧ x < wr.heap.size) ∨ A' x) w6 (.slice fo ps.length fc) ps) := HTX5.out.below hBi
      have HBD6 : Hid (Bd w6 w.heap.size p u) := HBD5.out.below hBi
      have HG6 : Hid (Gr (fun x => w5.heap.size ≤ x) w6 go co S'.bl ∧ w5.heap.size ≤ go) := ⟨hGo, hgo⟩
      have HA6 : Hid (∀ x, A' x → x < w6.heap.size ∧ x < w5.heap.size) := fun x hx => ⟨HS6.out.bk.lt hx, HS5.out.bk.lt hx⟩
      have HB56 : Hid (w5.heap.size ≤ w6.heap.size ∧ w.heap.size < w5.heap.size) := ⟨hBi.size, HBD5.out.lt⟩
      have HP8 : Hid (ps.length ≤ 8) := lok_len HOK.out
      have HRA : Hid ((w6.alloc (.cells #[] 56)).ownsRow w6.heap.size 56 2 (.slice (some ⟨w6.heap.size, 0, none⟩) 0 0) 0 []) := World.ownsRow_made w6 #[] 0 (Nat.le_refl _) (by simp [maxLen]) rfl
      clear hGo hgo hBi HD5 HS3 HT3 HTX3 HBD3 HTX4 HBD4 HT4 HS4a HTX5 HBD5 HT5 HTX2 HBD2 HS2 HT2 HTV HCW
      go_upto_region 16 with (at_builtin; refine wpList_append_pws (by rfl) _ _ 38 (by rfl) w6.heap.size Try.underlying38 info_pw _ (by rfl) HRA.out (below_alloc w6 _) fo fc ps (by rfl) HTX6.out HP8.out (by simp) ?_; intro v7 w7 qs e1 e2 e3 e4)
      have HB7 : Hid (Below w6.heap.size w6 w7) := (below_alloc w6 _).grown e4 (by simp) (fun x hx => by cases hx; exact Nat.le_refl _)
      have HQ1 : Hid (lsQ qs = ps) := e1
      have HQ2 : Hid (∀ q ∈ qs, Bx (fun x => (w.heap.size ≤ x ∧ x < wr.heap.size) ∨ A' x) w6 q.2.1 q.2.2 ∧ ∃ ao c, q.2.1 = .slice ao q.2.2.length c) := e2
      have HQ3 : Hid (w7.ownsRow w6.heap.size 56 2 v7 qs.length (flatQ qs)) := e3
      have HQL : Hid (qs.length ≤ 8) := by show _ ≤ _; have h1 := HP8.out; have h2 := congrArg List.length e1; simp [lsQ] at h2; omega
      have HQR : Hid (∀ q ∈ qs, -9223372036854775808 ≤ q.1 ∧ q.1 < 9223372036854775808) := fun q hq => by
        have hm : (q.1, q.2.2) ∈ ps := by rw [← e1]; exact List.mem_map.2 ⟨q, hq, rfl⟩
        exact HTX6.out.2 _ hm
      have HBD7 : Hid (Bd w7 w.heap.size p u) := HBD6.out.below HB7.out
      clear e1 e2 e3 e4 HBD6
      obtain ⟨vo, vc, hv7, hv1, hv2⟩ := row_form HQ3.out
      subst hv7
      have hvc : (0 : Int) ≤ (vc : Int) := by omega
      obtain ⟨Z, hZ⟩ : ∃ Z, Z = madeCells #[.int .u8 0] (1025 * 1) := ⟨_, rfl⟩
      have hmk := make_long
      rw [← hZ] at hmk
      have HZO : Hid (Oc (w7.alloc (.cells Z 5)) (.slice (some ⟨w7.heap.size, 0, none⟩) 1025 1025) (zer 1025)) := made_long w7 hZ
      have HBA7 : Hid (Bd (w7.alloc (.cells Z 5)) w.heap.size p u) := HBD7.out.below (below_alloc _ _)
      have q0 := HBA7.out.c0
      have q1 := HBA7.out.c1
      have q2 := HBA7.out.soft 0
      have q3 := HBA7.out.soft 1
      clear hZ
      go_upto_region 28 with (fail)
      have HB8 : Hid (Bd (((w7.alloc (.cells Z 5)).setCell ⟨w.heap.size, 0, none⟩ (.int .i64 3)).setCell ⟨w.heap.size, 1, none⟩ (.slice (some ⟨w7.heap.size, 0, none⟩) 1025 1025)) w.heap.size 3 (.slice (some ⟨w7.heap.size, 0, none⟩) 1025 1025)) := (HBA7.out.page 3).data _
      have HC78 : Hid (Ch (fun x => x = w.heap.size) (w7.alloc (.cells Z 5)) (((w7.alloc (.cells Z 5)).setCell ⟨w.heap.size, 0, none⟩ (.int .i64 3)).setCell ⟨w.heap.size, 1, none⟩ (.slice (some ⟨w7.heap.size, 0, none⟩) 1025 1025))) := Ch.of_grown (grown_trans (grown_set _ _ _ _) (grown_set _ _ _ _)) (fun x hx => by cases hx; rfl)
      obtain ⟨w8, hw8⟩ : ∃ w8, w8 = (((w7.alloc (.cells Z 5)).setCell ⟨w.heap.size, 0, none⟩ (.int .i64 3)).setCell ⟨w.heap.size, 1, none⟩ (.slice (some ⟨w7.heap.size, 0, none⟩) 1025 1025)) := ⟨_, rfl⟩
      rw [← hw8] at HB8 HC78 ⊢
      have HPR : Hid (-9223372036854775808 ≤ (3 : Int) ∧ (3 : Int) < 9223372036854775808) := by show _ ∧ _; omega
      clear hw8 q0 q1 q2 q3 hmk hvc hv1 hv2
      have HBD8 : Hid (Bd w8 w.heap.size 3 (.slice (some ⟨w7.heap.size, 0, none⟩) 1025 1025)) := HB8
      have HC7 : Hid (Ch (fun x => x = w.heap.size) w7 w8) := (Ch.of_below (below_alloc _ _)).trans HC78.out (fun x hx => .inl hx)
      have HC8 : Hid (Ch (fun x => x = w.heap.size) w6 w8) := (Ch.of_below HB7.out).trans HC7.out (fun x hx => .inl hx)
      have HZ8 : Hid (Oc w8 (.slice (some ⟨w7.heap.size, 0, none⟩) 1025 1025) (zer 1025)) := HZO.out.keep (fun x hx => HC78.out.block x (by have hx2 : x = w7.heap.size := (Option.some.inj hx).symm; rw [hx2]; simp) (fun e => by have hx2 : x = w7.heap.size := (Option.some.inj hx).symm; have h1 := HBD7.out.lt; omega))
      obtain ⟨dn, hdn⟩ : ∃ dn, dn = zer 1025 := ⟨_, rfl⟩
      have HDN : Hid (dn.length = 1025 ∧ ∀ c ∈ dn, c < 256) := by rw [hdn]; exact ⟨zer_len _, fun c hc => by rw [(List.mem_replicate.1 hc).2]; omega⟩
      rw [← hdn] at HZ8
      clear hdn
      obtain ⟨rs, hrs⟩ : ∃ rs : List Qw, rs = [] := ⟨_, rfl⟩
      have HRL : Hid (rs.length ≤ 8) := by show _ ≤ _; rw [hrs]; first | exact HQL.out | simp
      have HRB : Hid (∀ q ∈ rs, Bx (fun x => (w.heap.size ≤ x ∧ x < wr.heap.size) ∨ A' x) w6 q.2.1 q.2.2) := fun q hq => by
        rw [hrs] at hq
        first
          | simp at hq
      have HRR : Hid (∀ q ∈ rs, -9223372036854775808 ≤ q.1 ∧ q.1 < 9223372036854775808) := fun q hq => by rw [hrs] at hq; first | exact HQR.out q hq | simp at hq
      have HFT : Hid (faultI 8 (lsQ rs ++ [(3, dn)]) = 6) := by rw [hrs]; exact bad_long (by rw [HDN.out.1]; omega)
      have HQ8 : Hid (w8.ownsRow w6.heap.size 56 2 (.slice vo 0 vc) rs.length (flatQ rs)) := by rw [hrs]; exact own_cut (row_keep HQ3.out (fun x hx => HC7.out.block x (HQ3.out.lt x hx).2 (fun e => by have h1 := (HQ3.out.lt x hx).1; have h2 := HB56.out; omega)))
      clear hrs
      have HBN : Hid (∀ w9 : World, Below w8.heap.size w8 (w8.alloc (Obj.cells #[.int .i64 3, .slice (some ⟨w7.heap.size, 0, none⟩) 1025 1025] 56)) → (w8.alloc (Obj.cells #[.int .i64 3, .slice (some ⟨w7.heap.size, 0, none⟩) 1025 1025] 56)).grownBy w9 (Value.slice vo 0 vc).ownBlock → Bx A' w9 (.slice (some ⟨w7.heap.size, 0, none⟩) 1025 1025) dn) := fun w9 h1 h2 => by
        have hob : (Value.slice vo 0 vc).ownBlock = (Value.slice vo qs.length vc).ownBlock := by cases vo <;> rfl
        refine ⟨Oc.bv ((HZ8.out.below h1).keep (fun x hx => h2.block x ?_ (fun e => ?_))) HDN.out.2, .inr (fun x hx e => ?_)⟩
        · have hx2 : x = w7.heap.size := (Option.some.inj hx).symm; have h3 := HC78.out.size; simp at h3 ⊢; omega
        · have hx2 : x = w7.heap.size := (Option.some.inj hx).symm; rw [hob] at e; have := (HQ3.out.lt _ e.symm).2; omega
        · have hx2 : x = w7.heap.size := (Option.some.inj hx).symm; have h3 := (HA6.out _ e).1; have h4 := HB7.out.size; omega
      obtain ⟨i0, hi0, hz0, hz1, hz2⟩ := info_partsV info_pw
      have HI0 : Hid (Try.prog.info? 56 = some i0 ∧ i0.zero = some (.agg #[.int .i64 0, .slice none 0 0]) ∧ i0.size = 2 ∧ i0.bytes = 32) := ⟨hi0, hz0, hz1, hz2⟩
      clear hi0 hz0 hz1 hz2
      have c0 := HBD8.out.c0
      have c1 := HBD8.out.c1
      have HW8 : Hid (w6.heap.size ≤ w8.heap.size) := HC8.out.size
      obtain ⟨bs, hbs⟩ : ∃ bs, bs = w8.heap.size := ⟨_, rfl⟩
      go_wp2_with (at_builtin; refine wpList_append_own _ (by rfl) _ _ 38 (by rfl) w6.heap.size 56 i0 (.agg #[.int .i64 0, .slice none 0 0]) 2 32 Try.underlying38 HI0.out.1 HI0.out.2.1 HI0.out.2.2.1 HI0.out.2.2.2 (by rfl) (by decide) _ _ _ (by rfl) (HQ8.out.alloc _) ⟨w8.heap.size, 0, none⟩ 1 1 [.int .i64 3, .slice (some ⟨w7.heap.size, 0, none⟩) 1025 1025] (by rfl) (by rfl) (fun j u hj => pw_new hj) (fun u hu => pw_one hu) (by have := HRL.out; simp [maxLen]; omega) (by have := HRL.out; omega) (by have := HW8.out; simp; omega) ?_; intro v9 w9 hown9 hgr9 _; clear c0 c1 hbs)
      have HC9 : Hid (Ch (fun x => x = w.heap.size) w6 w9) := by
        have h1 : Ch (fun x => w6.heap.size ≤ x) w8 w9 := (Ch.of_below (below_alloc w8 _)).trans (Ch.of_grown (D := fun x => w6.heap.size ≤ x) hgr9 (fun x hx => (HQ8.out.lt x hx).1)) (fun x hx => .inl hx)
        exact HC8.out.trans h1 (fun x hx => .inr hx)
      have HBN9 : Hid (Bx A' w9 (.slice (some ⟨w7.heap.size, 0, none⟩) 1025 1025) dn) := HBN.out w9 (below_alloc w8 _) hgr9
      have HT9 : Hid (Tx A' w9 v9 (lsQ rs ++ [(3, dn)])) := row_tx (X := fun x => (w.heap.size ≤ x ∧ x < wr.heap.size) ∨ A' x) HC9.out (fun x hx => ⟨(HA6.out x hx).1, .inr hx⟩) (.inl HX.out.2.2) hown9 (fun q hq => HRB.out q hq) (fun q hq => HRR.out q hq) HBN9.out HPR.out
      have HS9 : Hid (Ws w w9 (.pointer (some ⟨pb, 0, none⟩)) (.pointer (some ⟨sb, 0, none⟩)) wb A' P' S' (withL V ps) (withL V ps) (k + 1)) := HS6.out.aside HC9.out (fun x hx => .inr (by subst hx; exact ⟨fun e => by have := HAX3.out _ e; omega, by have := HAX.out.2; omega, Nat.le_refl _⟩))
      have HBD9 : Hid (Bd w9 w.heap.size 3 (.slice (some ⟨w7.heap.size, 0, none⟩) 1025 1025)) := (HBD8.out.below (below_alloc w8 _)).keep (hgr9.block _ (by have := HBD8.out.lt; simp; omega) (fun e => by have h1 := (HQ8.out.lt _ e.symm).1; have h2 := HB56.out; omega))
      have HG9 : Hid (Gr (fun x => w5.heap.size ≤ x) w9 go co S'.bl) := HG6.out.1.keep (HC9.out.block _ HG6.out.1.lt (fun e => by have h1 := HG6.out.2; have h2 := HB56.out; omega)) (fun x hx hl _ => HC9.out.block x hl (fun e => by have h2 := HB56.out; omega))
      clear hown9 hgr9
      have HPO : Hid (putO P' S' (lsQ rs ++ [(3, dn)]) = (6, P', S')) := put_no HS9.out.iv HFT.out (by decide)
      refine (put_walk9 HS9.out.bk HT9.out (by have := HS9.out.wc; have := HK.out; omega)).mono ?_
      rintro e w10 ⟨rfl, ⟨A10, hK10, hx10⟩, hC10⟩
      rw [HPO.out] at hK10
      rw [HPO.out]
      have HS10 : Hid (Ws w w10 (.pointer (some ⟨pb, 0, none⟩)) (.pointer (some ⟨sb, 0, none⟩)) wb A10 P' S' (withL V ps) (withL V ps) (k + 1)) := HS9.out.turn hK10 hx10 hC10 HS9.out.iv HS9.out.by' HS9.out.gn HS9.out.wc HS9.out.rd
      have HBD10 : Hid (Bd w10 w.heap.size 3 (.slice (some ⟨w7.heap.size, 0, none⟩) 1025 1025)) := HBD9.out.keep (hC10.block _ HBD9.out.lt (fun e => by have := HAX3.out _ e; omega))
      have HAX10 : Hid (∀ x, A10 x → w.heap.size < x) := fun x hx => by
        rcases hx10 x hx with q | q
        · exact HAX3.out x q
        · have := HBD9.out.lt; omega
      have HG10 : Hid (Gr (fun x => w5.heap.size ≤ x) w10 go co S'.bl) := HG9.out.keep (hC10.block _ HG9.out.lt (fun e => by have h1 := HG6.out.2; have h2 := (HA6.out _ e).2; omega)) (fun x hx hl _ => hC10.block x hl (fun e => by have h2 := (HA6.out _ e).2; omega))
      clear hK10 hx10 hC10 HS9 HBD9 HG9 HT9
      obtain ⟨D10, hD10, _, _⟩ := HS10.out.bk.disk
      go_wp2_with fail
      refine (image_walk hD10).mono ?_
      rintro e w11 ⟨gn, cn, rfl, hGn, hgn, hBi⟩
      have HS11 : Hid (Ws w w11 (.pointer (some ⟨pb, 0, none⟩)) (.pointer (some ⟨sb, 0, none⟩)) wb A10 P' S' (withL V ps) (withL V ps) (k + 1)) := HS10.out.below hBi
      have HBD11 : Hid (Bd w11 w.heap.size 3 (.slice (some ⟨w7.heap.size, 0, none⟩) 1025 1025)) := HBD10.out.below hBi
      have HPO11 : Hid (Pv w11 (.slice (some ⟨go, 0, none⟩) S'.bl.length co) S'.bl) := (HG10.out.below hBi).pv HOK5.out.byt
      have HPN11 : Hid (Pv w11 (.slice (some ⟨gn, 0, none⟩) S'.bl.length cn) S'.bl) := hGn.pv HOK5.out.byt
      clear hGn hgn hBi hD10
      go_wp2_with fail
      refine (images_walk HPN11.out HPO11.out).mono ?_
      rw [decide_eq_true (rfl : S'.bl = S'.bl)]
      rintro e w12 ⟨rfl, hB12⟩
      have HS12 : Hid (Ws w w12 (.pointer (some ⟨pb, 0, none⟩)) (.pointer (some ⟨sb, 0, none⟩)) wb A10 P' S' (withL V ps) (withL V ps) (k + 1)) := HS11.out.below hB12
      have HBD12 : Hid (Bd w12 w.heap.size 3 (.slice (some ⟨w7.heap.size, 0, none⟩) 1025 1025)) := HBD11.out.below hB12
      clear hB12
      have hwk := HS12.out.wk
      rw [HV2.out] at hwk
      obtain ⟨g0, g1, g2, g3, g4, g5, g6, g7⟩ := wb_cells hwk
      clear hwk
      go_wp2_with fail
      refine (holds8 HS12.out.bk (by rw [← HV2.out]; exact HS12.out.iv) (by rw [← HV2.out]; exact HS12.out.by') (by have := HS12.out.rd; have := HK.out; omega)).mono ?_
      rintro e w13 ⟨rfl, S13, hK13, hm13, hC13⟩
      have HS13 : Hid (Ws w w13 (.pointer (some ⟨pb, 0, none⟩)) (.pointer (some ⟨sb, 0, none⟩)) wb A10 P' S13 (withL V ps) (withL V ps) (k + 1)) := by
        have h4 := hm13.wr
        have h5 := hm13.rd
        have h8 := HN'.out.2.2.1
        have h9 := HS.out.rd
        have h10 := HS12.out.wc
        exact HS12.out.turn hK13 (fun x hx => .inl hx) hC13 (HS12.out.iv.same hm13) HS12.out.by' HS12.out.gn (by omega) (by omega)
      have HL13 : Hid (S13.left = -1) := by show _ = _; rw [hm13.lf]; exact HN'.out.2.2.2
      have HBD13 : Hid (Bd w13 w.heap.size 3 (.slice (some ⟨w7.heap.size, 0, none⟩) 1025 1025)) := HBD12.out.keep (hC13.block _ HBD12.out.lt (fun e => by have := HAX10.out _ e; omega))
      clear hK13 hm13 hC13
      go_wp2_with fail
      go_roundw
      case rel => exact ⟨k + 1, A10, P', S13, _, 3, _, hlt, by omega, by simp, HS13.out, HL13.out, HBD13.out, HPR.out, (fun h => h.elim), HAX10.out, HAX.out.2⟩
      case measure => simp [intOf]; omega
    · have HGO : Hid (¬ (k < lss.length ∧ k < 64)) := hgo
      clear hgo
      by_cases hlt : k < lss.length
      · have h4d : decide ((k : Int) < 64) = false := decide_eq_false (by have := HGO.out; omega)
        have h4 : (64 : Int) ≤ (k : Int) := by have := HGO.out; omega
        obtain ⟨e1, e2, e3⟩ := get_out HS.out.iv (p := -1) (by omega)
        have HGE : Hid (getI P S (-1) = 91 ∧ getS P S (-1) = S ∧ getB P S = P) := ⟨e1, e2, e3⟩
        obtain ⟨e4, e5, _⟩ := get_out HS.out.iv (p := 8) (by omega)
        have HGF : Hid (getI P S 8 = 91 ∧ getS P S 8 = S) := ⟨e4, e5⟩
        clear e1 e2 e3 e4 e5
        go_wp2_with fail
        refine (get_walk HS.out.bk (-1) (by have := HS.out.rd; have := HK.out; omega)).mono ?_
        rintro e w5 ⟨r, rfl, _, hK5, hC5⟩
        rw [HGE.out.1]
        rw [HGE.out.2.1, HGE.out.2.2] at hK5
        have HK5 : Hid (BP A w5 (.pointer (some ⟨pb, 0, none⟩)) (.pointer (some ⟨sb, 0, none⟩)) P S) := hK5
        have HB5 : Hid (Below w.heap.size w w5) := HS.out.be.trans (hC5.to_below HS.out.be.size HS.out.ah)
        clear hK5 hC5
        go_wp2_with fail
        refine (get_walk HK5.out 8 (by have := HS.out.rd; have := HK.out; omega)).mono ?_
        rintro e w6 ⟨r2, rfl, _, hK6, hC6⟩
        rw [HGF.out.1]
        have HB6 : Hid (Below w.heap.size w w6) := HB5.out.trans (hC6.to_below HB5.out.size HS.out.ah)
        clear hK6 hC6
        go_wp2_with fail
        go_ret
        exact ⟨rfl, HB6.out⟩
      · have h4 : (lss.length : Int) ≤ (k : Int) := by omega
        obtain ⟨e1, e2, e3⟩ := get_out HS.out.iv (p := -1) (by omega)
        have HGE : Hid (getI P S (-1) = 91 ∧ getS P S (-1) = S ∧ getB P S = P) := ⟨e1, e2, e3⟩
        obtain ⟨e4, e5, _⟩ := get_out HS.out.iv (p := 8) (by omega)
        have HGF : Hid (getI P S 8 = 91 ∧ getS P S 8 = S) := ⟨e4, e5⟩
        clear e1 e2 e3 e4 e5
        go_wp2_with fail
        refine (get_walk HS.out.bk (-1) (by have := HS.out.rd; have := HK.out; omega)).mono ?_
        rintro e w5 ⟨r, rfl, _, hK5, hC5⟩
        rw [HGE.out.1]
        rw [HGE.out.2.1, HGE.out.2.2] at hK5
        have HK5 : Hid (BP A w5 (.pointer (some ⟨pb, 0, none⟩)) (.pointer (some ⟨sb, 0, none⟩)) P S) := hK5
        have HB5 : Hid (Below w.heap.size w w5) := HS.out.be.trans (hC5.to_below HS.out.be.size HS.out.ah)
        clear hK5 hC5
        go_wp2_with fail
        refine (get_walk HK5.out 8 (by have := HS.out.rd; have := HK.out; omega)).mono ?_
        rintro e w6 ⟨r2, rfl, _, hK6, hC6⟩
        rw [HGF.out.1]
        have HB6 : Hid (Below w.heap.size w w6) := HB5.out.trans (hC6.to_below HB5.out.size HS.out.ah)
        clear hK6 hC6
        go_wp2_with fail
        go_ret
        exact ⟨rfl, HB6.out⟩
end Go.Proofs.Ytfjgpkpkhccliaa
