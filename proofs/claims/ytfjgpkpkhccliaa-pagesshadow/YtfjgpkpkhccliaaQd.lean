/- PagesShadow's walk. -/
import Derived.Test.YtfjgpkpkhccliaaQc
namespace Go.Proofs.Ytfjgpkpkhccliaa
open Go.RowKit

def SoRel (w : World) (n : Nat) (pb sb wb : Nat) (iv : Value) (wr : World) : Prop :=
  ∃ (k : Nat) (A : Nat → Prop) (P : Bo) (S : Dk) (V : List (List Nat)), k ≤ n ∧ k ≤ 64 ∧ iv = .int .i64 k ∧ Ws w wr (.pointer (some ⟨pb, 0, none⟩)) (.pointer (some ⟨sb, 0, none⟩)) wb A P S V V k ∧ S.left = -1
def ShRel (wL : World) (jv : Value) (wr : World) : Prop := ∃ j : Nat, j ≤ 2 ∧ jv = .int .i64 j ∧ Below wL.heap.size wL wr

set_option maxRecDepth 100000 in
set_option maxHeartbeats 8000000 in
theorem shadow_walk9 {w : World} {lv : Value} {lss : List (List (Int × List Nat))} (hl : Lv w lv lss) :
    Calls Try.prog 7 #[lv] w fun e w' => e = .returned (.bool true) ∧ Below w.heap.size w w' := by
  have HL : Hid (Lv w lv lss) := hl
  obtain ⟨lo, lc, rfl, hl1, hl2⟩ := hl.form
  have hli : (lss.length : Int) ≤ 9223372036854775807 := by simp only [maxLen] at hl2; omega
  clear hl hl1 hl2
  go_enter Try.func7, Try.ntmps7
  go_wp2_with fail
  refine (awake_walk w).mono ?_
  rintro e w0 ⟨rfl, hB0⟩
  have HB0 : Hid (Below w.heap.size w w0) := hB0
  clear hB0
  go_wp2_with fail
  refine (room_walk w0).mono ?_
  rintro e w1 ⟨A1, pb, sb, rfl, hK1, hA1, hB1⟩
  have HZ : Hid (Ws w (w1.alloc (Obj.cells #[.string ⟨#[]⟩, .string ⟨#[]⟩, .string ⟨#[]⟩, .string ⟨#[]⟩, .string ⟨#[]⟩, .string ⟨#[]⟩, .string ⟨#[]⟩, .string ⟨#[]⟩] 61)) (.pointer (some ⟨pb, 0, none⟩)) (.pointer (some ⟨sb, 0, none⟩)) w1.heap.size A1 rmP rmS (List.replicate 8 []) (List.replicate 8 []) 0) := by
    have hs0 := HB0.out.size
    have hs1 := hB1.size
    exact ⟨hK1.below (below_alloc _ _), rm_iv, fun b hb c hc => by rw [(List.mem_replicate.1 hb).2] at hc; simp at hc, fun x hx => Nat.le_trans hs0 (hA1 x hx), wb_zero w1, fun e => by have := hK1.lt e; omega, by omega, below_trans (below_trans HB0.out hB1) (below_alloc _ _), Nat.le_refl _, Nat.le_refl _, Nat.le_refl _⟩
  have HLF : Hid (rmS.left = -1) := rfl
  obtain ⟨wb, hwb⟩ : ∃ wb, wb = w1.heap.size := ⟨_, rfl⟩
  rw [← hwb] at HZ
  have HWB : Hid (wb = w1.heap.size) := hwb
  clear hK1 hA1 hB1 hwb
  go_wp2_with fail
  rw [← HWB.out]
  go_loopw [6] (fun iv wr => SoRel w lss.length pb sb wb iv wr) (fun iv _ => lss.length - (intOf iv).toNat)
  case atStart => exact ⟨0, A1, rmP, rmS, _, Nat.zero_le _, Nat.zero_le _, rfl, HZ.out, rfl⟩
  case round =>
    obtain ⟨k, A, P, S, V, hk, hk64, rfl, hS, hlf⟩ := hrel
    have HS : Hid (Ws w wr (.pointer (some ⟨pb, 0, none⟩)) (.pointer (some ⟨sb, 0, none⟩)) wb A P S V V k) := hS
    have HLEFT : Hid (S.left = -1) := hlf
    have HK : Hid (k ≤ 64) := hk64
    clear hS hlf HZ HWB
    by_cases hgo : k < lss.length ∧ k < 64
    · obtain ⟨hlt, h64⟩ := hgo
      obtain ⟨lb, off, u, rfl, hcu, hTv⟩ := HL.out.at hlt
      have hlti : (k : Int) < (lss.length : Int) := by omega
      have h64i : (k : Int) < 64 := by omega
      have HTV : Hid (Tx (fun x => w.heap.size ≤ x) wr u lss[k]) := hTv.later HS.out.be
      have hu : wr.cell? ⟨lb, off + k, none⟩ = some u := by rw [HS.out.be.cell (p := ⟨lb, off + k, none⟩) (cell_lt hcu)]; exact hcu
      obtain ⟨ps, hps⟩ : ∃ ps, ps = fitL lss[k] := ⟨_, rfl⟩
      have HOK : Hid (Lok 8 ps) := by rw [hps]; exact fit_ok _
      have HPS : Hid (fitL lss[k] = ps) := hps.symm
      clear hcu hTv hps
      go_wp2_with fail
      refine (fit_walk HTV.out HS.out.be.size).mono ?_
      rw [HPS.out]
      rintro e w2 ⟨fo, fc, rfl, hT2, hB2⟩
      have HS1 : Hid (Ws w w2 (.pointer (some ⟨pb, 0, none⟩)) (.pointer (some ⟨sb, 0, none⟩)) wb A P S V V k) := HS.out.below hB2
      have HT1 : Hid (Tx (Aw A wb) w2 (.slice fo ps.length fc) ps) := HS.out.apartW hT2
      clear hT2 hB2 hu
      obtain ⟨D1, hD1, hDA1, _⟩ := HS1.out.bk.disk
      have HOKO : Hid S.ok := hD1.good
      have HD1 : Hid (Dsk 81 D1 w2 (.pointer (some ⟨sb, 0, none⟩)) S) := hD1
      clear hD1 hDA1
      go_wp2_with fail
      refine (image_walk HD1.out).mono ?_
      rintro e w2i ⟨go, co, rfl, hGo, hgo, hBi⟩
      have HS2 : Hid (Ws w w2i (.pointer (some ⟨pb, 0, none⟩)) (.pointer (some ⟨sb, 0, none⟩)) wb A P S V V k) := HS1.out.below hBi
      have HT2 : Hid (Tx (Aw A wb) w2i (.slice fo ps.length fc) ps) := HT1.out.below hBi
      have HG2 : Hid (Gr (fun x => w2.heap.size ≤ x) w2i go co S.bl ∧ w2.heap.size ≤ go) := ⟨hGo, hgo⟩
      clear hGo hgo hBi
      obtain ⟨P', S', hO, hI', hg', hw', hr', hl', hkp, hln⟩ := put_free2 HS2.out.iv HOK.out (by have := HS2.out.gn; have := HK.out; omega) HLEFT.out
      have HO : Hid (putO P S ps = (0, P', S')) := hO
      have HI' : Hid (Iv P' S' (withL V ps)) := hI'
      have HN' : Hid (P'.gen ≤ P.gen + 1 ∧ S'.wr = S.wr + cntN ps + (if ps = [] then 0 else 1) ∧ S'.rd = S.rd ∧ S'.left = -1) := ⟨hg', hw', hr', hl'⟩
      have HKEEP : Hid (∀ x, (x ∈ P.tab ∧ x ≠ 0) ∨ x = P.home → bk S'.bl x = bk S.bl x) := hkp
      have HLEN : Hid (S'.bl.length = S.bl.length) := hln
      clear hkp hln hO hI' hg' hw' hr' hl'
      go_wp2_with fail
      refine (put_walk9 HS2.out.bk (tx_of HT2.out) (by have := HS2.out.wc; have := HK.out; omega)).mono ?_
      rintro e w3 ⟨rfl, ⟨A', hK3, hx3⟩, hC3⟩
      rw [HO.out] at hK3
      rw [HO.out]
      have HS3 : Hid (Ws w w3 (.pointer (some ⟨pb, 0, none⟩)) (.pointer (some ⟨sb, 0, none⟩)) wb A' P' S' (withL V ps) V (k + 1)) := by
        have h1 := HN'.out
        have h2 := cnt_le HOK.out
        have h3 := HS2.out.gn
        have h4 := HS2.out.wc
        have h5 := HS2.out.rd
        refine HS2.out.turn hK3 hx3 hC3 HI'.out (with_bytes ps V HS2.out.by' HT2.out.bytes) (by omega) ?_ (by omega)
        have h6 := h1.2.1
        split at h6 <;> omega
      have HT3 : Hid (Tx (Aw A' wb) w3 (.slice fo ps.length fc) ps) := tx_put HT2.out hC3 hx3
      have HG3 : Hid (Gr (fun x => w2.heap.size ≤ x) w3 go co S.bl) := HG2.out.1.keep (hC3.block _ HG2.out.1.lt (fun e => by have h1 := HS1.out.bk.lt e; have h2 := HG2.out.2; omega)) (fun x hx hl _ => hC3.block x hl (fun e => by have h1 := HS1.out.bk.lt e; omega))
      clear hK3 hx3 hC3
      have HU8 : Hid (usedN P'.tab ≤ 8) := used_8 HI'.out.n8
      have hu8 : (usedN P'.tab : Int) ≤ 8 := by have := HU8.out; omega
      go_wp2_with fail
      refine (used_walk HS3.out.bk).mono ?_
      rintro e w9 ⟨rfl, h9⟩
      have h9 := h9.symm
      subst h9
      obtain ⟨D3, hD3, hDA3, _⟩ := HS3.out.bk.disk
      have HOKN : Hid S'.ok := hD3.good
      have HD3 : Hid (Dsk 81 D3 w3 (.pointer (some ⟨sb, 0, none⟩)) S') := hD3
      clear hD3 hDA3
      go_wp2_with fail
      refine (image_walk HD3.out).mono ?_
      rintro e wL ⟨gn, cn, rfl, hGn, hgn, hBi⟩
      have HS3L : Hid (Ws w wL (.pointer (some ⟨pb, 0, none⟩)) (.pointer (some ⟨sb, 0, none⟩)) wb A' P' S' (withL V ps) V (k + 1)) := HS3.out.below hBi
      have HT3L : Hid (Tx (Aw A' wb) wL (.slice fo ps.length fc) ps) := HT3.out.below hBi
      have HGO : Hid (Gr (fun x => w.heap.size ≤ x) wL go co S.bl) := (HG3.out.below hBi).mono (fun x hx => Nat.le_trans HS1.out.be.size hx)
      have HGN : Hid (Gr (fun x => w.heap.size ≤ x) wL gn cn S'.bl) := hGn.mono (fun x hx => Nat.le_trans HS3.out.be.size hx)
      have HI18 : Hid (18 ≤ S.bl.length) := HS2.out.iv.two
      clear hGn hgn hBi HS3 HT3 HD1 HD3 HG2 HG3
      have HS3 : Hid (Ws w wL (.pointer (some ⟨pb, 0, none⟩)) (.pointer (some ⟨sb, 0, none⟩)) wb A' P' S' (withL V ps) V (k + 1)) := HS3L
      have HT3 : Hid (Tx (Aw A' wb) wL (.slice fo ps.length fc) ps) := HT3L
      clear HS3L HT3L hu8
      rw [HLEN.out]
      go_wp2_with fail
      go_loopw [10] (fun jv wr => ShRel wL jv wr) (fun jv _ => 2 - (intOf jv).toNat)
      case atStart => exact ⟨0, Nat.zero_le _, rfl, below_same wL⟩
      case round =>
        obtain ⟨j, hj2, rfl, hbl⟩ := hrel
        have HBL : Hid (Below wL.heap.size wL wr) := hbl
        clear hbl
        by_cases hin : j < 2 ∧ 0 < ps.length
        · have HJ2 : Hid (j < 2) := hin.1
          have HJO : Hid (j < S.bl.length) := by show _ < _; have := HI18.out; omega
          have HJN : Hid (j < S'.bl.length) := by show _ < _; have := HI18.out; have := HLEN.out; omega
          have hji : (j : Int) < 2 := by omega
          have hpi : (0 : Int) < (ps.length : Int) := by omega
          clear hin hj2
          obtain ⟨uo, hco, hoo, hox⟩ := HGO.out.at (i := j) HJO.out
          obtain ⟨un, hcn, hon, hnx⟩ := HGN.out.at (i := j) HJN.out
          obtain ⟨p1, hp1⟩ : ∃ p, bk S'.bl j = p := ⟨_, rfl⟩
          obtain ⟨p2, hp2⟩ : ∃ p, bk S.bl j = p := ⟨_, rfl⟩
          rw [hp1] at hon
          rw [hp2] at hoo
          obtain ⟨ao, co', rfl, _⟩ := row_form hoo
          obtain ⟨an, cn', rfl, _⟩ := row_form hon
          have HP1 : Hid (bk S'.bl j = p1) := hp1
          have HP2 : Hid (bk S.bl j = p2) := hp2
          have HOO : Hid (Oc wL (.slice ao p2.length co') p2) := hoo
          have HON : Hid (Oc wL (.slice an p1.length cn') p1) := hon
          have HB1 : Hid (∀ c ∈ p1, c < 256) := by rw [← hp1]; exact HOKN.out.byt _ (bk_mem HJN.out)
          have HB2 : Hid (∀ c ∈ p2, c < 256) := by rw [← hp2]; exact HOKO.out.byt _ (bk_mem HJO.out)
          have HCO : Hid (wL.cell? ⟨go, j, none⟩ = some (.slice ao p2.length co')) := hco
          have HCN : Hid (wL.cell? ⟨gn, j, none⟩ = some (.slice an p1.length cn')) := hcn
          clear hco hoo hox hcn hon hnx hp1 hp2
          have hjo : (j : Int) < (S.bl.length : Int) := by have := HJO.out; omega
          have hjn : (j : Int) < (S'.bl.length : Int) := by have := HJN.out; omega
          have hL18 : (18 : Int) ≤ (S.bl.length : Int) := by have := HI18.out; omega
          have hN18 : (18 : Int) ≤ (S'.bl.length : Int) := by have := HI18.out; have := HLEN.out; omega
          have HRW : Hid ((wr.alloc (.cells #[] 43)).ownsRow wr.heap.size 43 1 (.slice (some ⟨wr.heap.size, 0, none⟩) 0 0) 0 []) := World.ownsRow_made wr #[] 0 (Nat.le_refl _) (by simp [maxLen]) rfl
          have HGA : Hid (Gr (fun x => w.heap.size ≤ x) (wr.alloc (.cells #[] 43)) gn cn S'.bl) := (HGN.out.below HBL.out).below (below_alloc _ _)
          go_wp2_with (at_builtin; refine wpList_append_rows (by rfl) _ _ 50 (by rfl) wr.heap.size Try.underlying50 info_row _ (by rfl) HRW.out gn cn S'.bl (by rw [HLEN.out]; rfl) HGA.out (by have := HI18.out; have := HLEN.out; omega) HOKN.out.n64 (by simp) ?_; intro g9 c9 w9 hb9 hG9 hg9; have HB9 : Hid (Below wL.heap.size wL w9) := (below_trans HBL.out (below_alloc _ _)).grown hg9 (by have := HBL.out.size; simp; omega) (fun x hx => by cases hx; exact HBL.out.size); have HG9 : Hid (Gr (fun _ => True) w9 g9 c9 S'.bl) := hG9; have HGE : Hid (wL.heap.size ≤ g9) := Nat.le_trans HBL.out.size hb9; clear hb9 hG9 hg9; (have q1 : w9.cell? ⟨go, j, none⟩ = some (.slice ao p2.length co') := by rw [HB9.out.cell (p := ⟨go, j, none⟩) (cell_lt HCO.out)]; exact HCO.out); obtain ⟨y, q2, _, _⟩ := HG9.out.at (i := j) HJN.out; have q3 := HG9.out.soft j)
          have HGX : Hid (Gr (fun _ => True) (w9.setCell ⟨g9, j, none⟩ (.slice ao p2.length co')) g9 c9 (S'.bl.set j p2)) := HG9.out.set HJN.out (HOO.out.below HB9.out) (fun _ _ => trivial)
          have HBX : Hid (Below wL.heap.size wL (w9.setCell ⟨g9, j, none⟩ (.slice ao p2.length co'))) := HB9.out.setCell (p := ⟨g9, j, none⟩) HGE.out _
          obtain ⟨w10, hw10⟩ : ∃ w10, w10 = w9.setCell ⟨g9, j, none⟩ (.slice ao p2.length co') := ⟨_, rfl⟩
          rw [← hw10] at HGX HBX ⊢
          have HXB : Hid (∀ b ∈ S'.bl.set j p2, b.length ≤ 1024 ∧ ∀ c ∈ b, c < 256) := fun b hb => by
            rcases List.mem_or_eq_of_mem_set hb with q | q
            · exact ⟨HOKN.out.len b q, HOKN.out.byt b q⟩
            · rw [q]; exact ⟨by rw [← HP2.out]; exact HOKO.out.len _ (bk_mem HJO.out), HB2.out⟩
          have HPV : Hid (Pv w10 (.slice (some ⟨g9, 0, none⟩) S'.bl.length c9) (S'.bl.set j p2)) := by have := HGX.out.pv (fun b hb => (HXB.out b hb).2); rw [List.length_set] at this; exact this
          have HLB : Hid (longB (S'.bl.set j p2) = false) := by
            show _ = _
            cases h : longB (S'.bl.set j p2)
            · rfl
            · obtain ⟨x, hx, h2⟩ := List.any_eq_true.1 h
              have := (HXB.out x hx).1
              simp at h2; omega
          clear q1 q2 q3 hw10
          obtain ⟨Pk, Wk, hIk, hPk⟩ := shadow_iv HS2.out.iv HS3.out.iv HKEEP.out HLEN.out HJ2.out
          have HIK : Hid (Iv Pk (loadS (S'.bl.set j p2)) Wk) := by rw [← HP2.out]; exact hIk
          have HPK : Hid (p1 ≠ p2 → Pk = P ∧ Wk = V) := fun ne => hPk (by rw [HP1.out, HP2.out]; exact ne)
          clear hIk hPk
          go_wp2_with fail
          refine (load_walk HPV.out (by rw [List.length_set]; have := HI18.out; have := HLEN.out; omega) (by rw [List.length_set]; exact HOKN.out.n64)).mono ?_
          intro e w11 hld
          unfold Ld at hld
          rw [if_neg (by rw [HLB.out]; simp)] at hld
          obtain ⟨dv3, D3, rfl, hD3, hB3, hx3⟩ := hld
          obtain ⟨s3, hs3⟩ : ∃ s3, dv3 = .pointer (some ⟨s3, 0, none⟩) := by obtain ⟨s3, _, _, e, _⟩ := hD3; exact ⟨s3, e⟩
          subst hs3
          have HD3 : Hid (Dsk 81 D3 w11 (.pointer (some ⟨s3, 0, none⟩)) (loadS (S'.bl.set j p2))) := hD3
          have HB11 : Hid (Below wL.heap.size wL w11) := below_trans HBX.out hB3
          have HX3 : Hid (∀ x, D3 x → wL.heap.size ≤ x) := fun x hx => Nat.le_trans HBX.out.size (hx3 x hx)
          clear hD3 hB3 hx3
          go_wp2_with fail
          refine (open_good HD3.out HIK.out (by show (0 : Nat) < _; omega)).mono ?_
          rintro e w12 ⟨cb, A4, rfl, hK4, hx4, hC4⟩
          have HB12 : Hid (Below wL.heap.size wL w12) := HB11.out.trans (hC4.to_below HB11.out.size HX3.out)
          have HK4 : Hid (BP A4 w12 (.pointer (some ⟨cb, 0, none⟩)) (.pointer (some ⟨s3, 0, none⟩)) Pk (opS (loadS (S'.bl.set j p2)))) := hK4
          have HX4 : Hid (∀ x, A4 x → wL.heap.size ≤ x) := fun x hx => by
            rcases hx4 x hx with q | q
            · exact HX3.out x q
            · exact Nat.le_trans HB11.out.size q
          clear hK4 hx4 hC4
          have j1 : ∀ wx, Ch A4 w12 wx → wx.cell? ⟨gn, j, none⟩ = some (.slice an p1.length cn') := fun wx hx => by
            rw [(HB12.out.trans (hx.to_below HB12.out.size HX4.out)).cell (p := ⟨gn, j, none⟩) (cell_lt HCN.out)]; exact HCN.out
          have j2 : ∀ wx, Ch A4 w12 wx → wx.cell? ⟨go, j, none⟩ = some (.slice ao p2.length co') := fun wx hx => by
            rw [(HB12.out.trans (hx.to_below HB12.out.size HX4.out)).cell (p := ⟨go, j, none⟩) (cell_lt HCO.out)]; exact HCO.out
          have s1 : ∀ wx, Ch A4 w12 wx → (convert 43 9 (.slice an p1.length cn')).run Try.prog wx = .ok (.string (str p1)) wx := fun wx hx => str_of ((HON.out.bv HB1.out).below (HB12.out.trans (hx.to_below HB12.out.size HX4.out)))
          have s2 : ∀ wx, Ch A4 w12 wx → (convert 43 9 (.slice ao p2.length co')).run Try.prog wx = .ok (.string (str p2)) wx := fun wx hx => str_of ((HOO.out.bv HB2.out).below (HB12.out.trans (hx.to_below HB12.out.size HX4.out)))
          have hSd : Ch A4 w12 w12.drew := Ch.of_below (below_drewN _ _)
          by_cases hpp : p1 = p2
          · have HR : Hid (∀ wx, Ch A4 w12 wx → ShRel wL (.int .i64 ((j : Int) + 1)) wx) := fun wx h => ⟨j + 1, by have := HJ2.out; omega, rfl, HB12.out.trans (h.to_below HB12.out.size HX4.out)⟩
            clear HPK
            subst hpp
            have hne : ((str p1).toList == (str p1).toList) = true := by simp
            have t1 := j1 w12 (Ch.refl _ _)
            have t2 := j2 w12 (Ch.refl _ _)
            have t3 : ∀ n, (convert 43 9 (.slice an p1.length cn')).run Try.prog (w12.drewN n) = .ok (.string (str p1)) (w12.drewN n) := fun n => s1 _ (Ch.of_below (below_drewN _ _))
            have t4 : ∀ n, (convert 43 9 (.slice ao p1.length co')).run Try.prog (w12.drewN n) = .ok (.string (str p1)) (w12.drewN n) := fun n => s2 _ (Ch.of_below (below_drewN _ _))
            clear j1 j2 s1 s2 hSd
            go_wp2_with fail
            go_quiet (fail)
            obtain ⟨wq, hwq⟩ : ∃ wq, wq = w12.drewN nq := ⟨_, rfl⟩
            rw [← hwq]
            have HBQ : Hid (Ch A4 w12 wq) := by show Ch _ _ _; rw [hwq]; exact Ch.of_below (below_drewN _ _)
            clear hwq
            go_wp2_with fail
            go_roundw
            case rel => exact HR.out _ HBQ.out
            case measure => simp [intOf]; omega
          · have hne : ((str p1).toList == (str p2).toList) = false := by rw [str_beq HB1.out HB2.out]; exact decide_eq_false hpp
            obtain ⟨hPk, hWk⟩ := HPK.out hpp
            subst hPk hWk
            obtain ⟨a0, a1, a2, a3, a4, a5, a6, a7, hV⟩ := eight (W := Wk) HS3.out.wk.2
            have HV : Hid (Wk = [a0, a1, a2, a3, a4, a5, a6, a7]) := hV
            have hwk := HS3.out.wk
            rw [hV] at hwk
            obtain ⟨c0, c1, c2, c3, c4, c5, c6, c7⟩ := wb_cells hwk
            have k0 : ∀ wx, Ch A4 w12 wx → wx.cell? ⟨wb, 0, none⟩ = some (.string (str a0)) := fun wx hx => by rw [(HB12.out.trans (hx.to_below HB12.out.size HX4.out)).cell (p := ⟨wb, 0, none⟩) (cell_lt c0)]; exact c0
            have k1 : ∀ wx, Ch A4 w12 wx → wx.cell? ⟨wb, 1, none⟩ = some (.string (str a1)) := fun wx hx => by rw [(HB12.out.trans (hx.to_below HB12.out.size HX4.out)).cell (p := ⟨wb, 1, none⟩) (cell_lt c1)]; exact c1
            have k2 : ∀ wx, Ch A4 w12 wx → wx.cell? ⟨wb, 2, none⟩ = some (.string (str a2)) := fun wx hx => by rw [(HB12.out.trans (hx.to_below HB12.out.size HX4.out)).cell (p := ⟨wb, 2, none⟩) (cell_lt c2)]; exact c2
            have k3 : ∀ wx, Ch A4 w12 wx → wx.cell? ⟨wb, 3, none⟩ = some (.string (str a3)) := fun wx hx => by rw [(HB12.out.trans (hx.to_below HB12.out.size HX4.out)).cell (p := ⟨wb, 3, none⟩) (cell_lt c3)]; exact c3
            have k4 : ∀ wx, Ch A4 w12 wx → wx.cell? ⟨wb, 4, none⟩ = some (.string (str a4)) := fun wx hx => by rw [(HB12.out.trans (hx.to_below HB12.out.size HX4.out)).cell (p := ⟨wb, 4, none⟩) (cell_lt c4)]; exact c4
            have k5 : ∀ wx, Ch A4 w12 wx → wx.cell? ⟨wb, 5, none⟩ = some (.string (str a5)) := fun wx hx => by rw [(HB12.out.trans (hx.to_below HB12.out.size HX4.out)).cell (p := ⟨wb, 5, none⟩) (cell_lt c5)]; exact c5
            have k6 : ∀ wx, Ch A4 w12 wx → wx.cell? ⟨wb, 6, none⟩ = some (.string (str a6)) := fun wx hx => by rw [(HB12.out.trans (hx.to_below HB12.out.size HX4.out)).cell (p := ⟨wb, 6, none⟩) (cell_lt c6)]; exact c6
            have k7 : ∀ wx, Ch A4 w12 wx → wx.cell? ⟨wb, 7, none⟩ = some (.string (str a7)) := fun wx hx => by rw [(HB12.out.trans (hx.to_below HB12.out.size HX4.out)).cell (p := ⟨wb, 7, none⟩) (cell_lt c7)]; exact c7
            have HWB8 : Hid (∀ b ∈ Wk, ∀ c ∈ b, c < 256) := HS2.out.by'
            have HIK2 : Hid (Iv Pk (opS (loadS (S'.bl.set j p2))) Wk) := HIK.out.same sm_open
            have HRD9 : Hid ((opS (loadS (S'.bl.set j p2))).rd < 4611686018427387904) := by have := (sm_open (S := loadS (S'.bl.set j p2))).rd; show _ < _; have h0 : (loadS (S'.bl.set j p2)).rd = 0 := rfl; omega
            rw [hV] at HWB8 HIK2
            have HR : Hid (∀ wx, Ch A4 w12 wx → ShRel wL (.int .i64 ((j : Int) + 1)) wx) := fun wx h => ⟨j + 1, by have := HJ2.out; omega, rfl, HB12.out.trans (h.to_below HB12.out.size HX4.out)⟩
            clear hV hwk hpp
            clear c0 c1 c2 c3 c4 c5 c6 c7
            go_wp2_with fail
            go_region_held3 (fun wx => Ch A4 w12 wx) (first | assumption)
              (first
                | (go_at_call 45; refine (holds8 (HK4.out.below (below_drewN _ _)) HIK2.out HWB8.out HRD9.out).mono ?_; rintro e w13 ⟨rfl, S13, hK13, hm13, hC13⟩; have hS13 : Ch A4 w12 w13 := Ch.self (by assumption) hC13))
            all_goals go_wp2_with fail
            all_goals go_roundw
            case rel => exact HR.out _ (by assumption)
            case measure => simp [intOf]; omega
        · by_cases hj : j < 2
          · have hji : (j : Int) < 2 := by omega
            have hpi : (ps.length : Int) ≤ 0 := by omega
            clear hin hj2 hj
            have HS3R : Hid (Ws w wr (.pointer (some ⟨pb, 0, none⟩)) (.pointer (some ⟨sb, 0, none⟩)) wb A' P' S' (withL V ps) V (k + 1)) := HS3.out.below HBL.out
            have HT3R : Hid (Tx (Aw A' wb) wr (.slice fo ps.length fc) ps) := HT3.out.below HBL.out
            clear HGO HGN
            obtain ⟨a0, a1, a2, a3, a4, a5, a6, a7, hV⟩ := eight (W := V) HS3R.out.wk.2
            have HV : Hid (V = [a0, a1, a2, a3, a4, a5, a6, a7]) := hV
            have hwk := HS3R.out.wk
            rw [hV] at hwk
            obtain ⟨c0, c1, c2, c3, c4, c5, c6, c7⟩ := wb_cells hwk
            clear hV hwk
            go_wp2_with fail
            refine (with8 HT3R.out (fun q hq => HOK.out.pg q hq)).mono ?_
            rintro e w4 ⟨⟨b0, b1, b2, b3, b4, b5, b6, b7, rfl, hV2⟩, hB4⟩
            have HV2 : Hid (withL V ps = [b0, b1, b2, b3, b4, b5, b6, b7]) := by show _ = _; rw [HV.out]; exact hV2
            have HS4a : Hid (Ws w w4 (.pointer (some ⟨pb, 0, none⟩)) (.pointer (some ⟨sb, 0, none⟩)) wb A' P' S' (withL V ps) [a0, a1, a2, a3, a4, a5, a6, a7] (k + 1)) := by
              have := HS3R.out.below hB4
              rw [HV.out] at this ⊢
              exact this
            have HT4 : Hid (Tx (Aw A' wb) w4 (.slice fo ps.length fc) ps) := HT3R.out.below hB4
            clear hB4 hV2
            clear c0 c1 c2 c3 c4 c5 c6 c7
            obtain ⟨c0, c1, c2, c3, c4, c5, c6, c7⟩ := wb_cells HS4a.out.wk
            obtain ⟨f0, f1, f2, f3, f4, f5, f6, f7⟩ := wb_soft HS4a.out.wk
            obtain ⟨w5, hw5⟩ : ∃ w5, w5 = ((((((((w4.setCell ⟨wb, 0, none⟩ (.string (str b0))).setCell ⟨wb, 1, none⟩ (.string (str b1))).setCell ⟨wb, 2, none⟩ (.string (str b2))).setCell ⟨wb, 3, none⟩ (.string (str b3))).setCell ⟨wb, 4, none⟩ (.string (str b4))).setCell ⟨wb, 5, none⟩ (.string (str b5))).setCell ⟨wb, 6, none⟩ (.string (str b6))).setCell ⟨wb, 7, none⟩ (.string (str b7))) := ⟨_, rfl⟩
            have HS5 : Hid (Ws w w5 (.pointer (some ⟨pb, 0, none⟩)) (.pointer (some ⟨sb, 0, none⟩)) wb A' P' S' (withL V ps) (withL V ps) (k + 1)) := by show Ws _ _ _ _ _ _ _ _ _ _ _; rw [hw5, HV2.out]; rw [HV2.out] at HS4a; exact HS4a.out.store
            have HT5 : Hid (Tx (Aw A' wb) w5 (.slice fo ps.length fc) ps) := by show Tx _ _ _ _; rw [hw5]; exact tx_store HT4.out b0 b1 b2 b3 b4 b5 b6 b7
            have HW5 : Hid (w5 = ((((((((w4.setCell ⟨wb, 0, none⟩ (.string (str b0))).setCell ⟨wb, 1, none⟩ (.string (str b1))).setCell ⟨wb, 2, none⟩ (.string (str b2))).setCell ⟨wb, 3, none⟩ (.string (str b3))).setCell ⟨wb, 4, none⟩ (.string (str b4))).setCell ⟨wb, 5, none⟩ (.string (str b5))).setCell ⟨wb, 6, none⟩ (.string (str b6))).setCell ⟨wb, 7, none⟩ (.string (str b7)))) := hw5
            clear hw5
            go_wp2_with fail
            rw [← HW5.out]
            clear c0 c1 c2 c3 c4 c5 c6 c7
            clear f0 f1 f2 f3 f4 f5 f6 f7
            go_wp2_with fail
            go_roundw
            case rel => exact ⟨k + 1, A', P', S', _, hlt, by omega, by simp, HS5.out, HN'.out.2.2.2⟩
            case measure => simp [intOf]; omega
          · have hji : (2 : Int) ≤ (j : Int) := by omega
            clear hin hj2 hj
            have HS3R : Hid (Ws w wr (.pointer (some ⟨pb, 0, none⟩)) (.pointer (some ⟨sb, 0, none⟩)) wb A' P' S' (withL V ps) V (k + 1)) := HS3.out.below HBL.out
            have HT3R : Hid (Tx (Aw A' wb) wr (.slice fo ps.length fc) ps) := HT3.out.below HBL.out
            clear HGO HGN
            obtain ⟨a0, a1, a2, a3, a4, a5, a6, a7, hV⟩ := eight (W := V) HS3R.out.wk.2
            have HV : Hid (V = [a0, a1, a2, a3, a4, a5, a6, a7]) := hV
            have hwk := HS3R.out.wk
            rw [hV] at hwk
            obtain ⟨c0, c1, c2, c3, c4, c5, c6, c7⟩ := wb_cells hwk
            clear hV hwk
            go_wp2_with fail
            refine (with8 HT3R.out (fun q hq => HOK.out.pg q hq)).mono ?_
            rintro e w4 ⟨⟨b0, b1, b2, b3, b4, b5, b6, b7, rfl, hV2⟩, hB4⟩
            have HV2 : Hid (withL V ps = [b0, b1, b2, b3, b4, b5, b6, b7]) := by show _ = _; rw [HV.out]; exact hV2
            have HS4a : Hid (Ws w w4 (.pointer (some ⟨pb, 0, none⟩)) (.pointer (some ⟨sb, 0, none⟩)) wb A' P' S' (withL V ps) [a0, a1, a2, a3, a4, a5, a6, a7] (k + 1)) := by
              have := HS3R.out.below hB4
              rw [HV.out] at this ⊢
              exact this
            have HT4 : Hid (Tx (Aw A' wb) w4 (.slice fo ps.length fc) ps) := HT3R.out.below hB4
            clear hB4 hV2
            clear c0 c1 c2 c3 c4 c5 c6 c7
            obtain ⟨c0, c1, c2, c3, c4, c5, c6, c7⟩ := wb_cells HS4a.out.wk
            obtain ⟨f0, f1, f2, f3, f4, f5, f6, f7⟩ := wb_soft HS4a.out.wk
            obtain ⟨w5, hw5⟩ : ∃ w5, w5 = ((((((((w4.setCell ⟨wb, 0, none⟩ (.string (str b0))).setCell ⟨wb, 1, none⟩ (.string (str b1))).setCell ⟨wb, 2, none⟩ (.string (str b2))).setCell ⟨wb, 3, none⟩ (.string (str b3))).setCell ⟨wb, 4, none⟩ (.string (str b4))).setCell ⟨wb, 5, none⟩ (.string (str b5))).setCell ⟨wb, 6, none⟩ (.string (str b6))).setCell ⟨wb, 7, none⟩ (.string (str b7))) := ⟨_, rfl⟩
            have HS5 : Hid (Ws w w5 (.pointer (some ⟨pb, 0, none⟩)) (.pointer (some ⟨sb, 0, none⟩)) wb A' P' S' (withL V ps) (withL V ps) (k + 1)) := by show Ws _ _ _ _ _ _ _ _ _ _ _; rw [hw5, HV2.out]; rw [HV2.out] at HS4a; exact HS4a.out.store
            have HT5 : Hid (Tx (Aw A' wb) w5 (.slice fo ps.length fc) ps) := by show Tx _ _ _ _; rw [hw5]; exact tx_store HT4.out b0 b1 b2 b3 b4 b5 b6 b7
            have HW5 : Hid (w5 = ((((((((w4.setCell ⟨wb, 0, none⟩ (.string (str b0))).setCell ⟨wb, 1, none⟩ (.string (str b1))).setCell ⟨wb, 2, none⟩ (.string (str b2))).setCell ⟨wb, 3, none⟩ (.string (str b3))).setCell ⟨wb, 4, none⟩ (.string (str b4))).setCell ⟨wb, 5, none⟩ (.string (str b5))).setCell ⟨wb, 6, none⟩ (.string (str b6))).setCell ⟨wb, 7, none⟩ (.string (str b7)))) := hw5
            clear hw5
            go_wp2_with fail
            rw [← HW5.out]
            clear c0 c1 c2 c3 c4 c5 c6 c7
            clear f0 f1 f2 f3 f4 f5 f6 f7
            go_wp2_with fail
            go_roundw
            case rel => exact ⟨k + 1, A', P', S', _, hlt, by omega, by simp, HS5.out, HN'.out.2.2.2⟩
            case measure => simp [intOf]; omega
    · have HGO : Hid (¬ (k < lss.length ∧ k < 64)) := hgo
      clear hgo
      by_cases hlt : k < lss.length
      · have h4d : decide ((k : Int) < 64) = false := decide_eq_false (by have := HGO.out; omega)
        have h4 : (64 : Int) ≤ (k : Int) := by have := HGO.out; omega
        obtain ⟨a0, a1, a2, a3, a4, a5, a6, a7, hV⟩ := eight (W := V) HS.out.wk.2
        have HV : Hid (V = [a0, a1, a2, a3, a4, a5, a6, a7]) := hV
        have hwk := HS.out.wk
        rw [hV] at hwk
        obtain ⟨c0, c1, c2, c3, c4, c5, c6, c7⟩ := wb_cells hwk
        clear hV hwk
        go_wp2_with fail
        refine (holds8 HS.out.bk (by rw [← HV.out]; exact HS.out.iv) (by rw [← HV.out]; exact HS.out.by') (by have := HS.out.rd; have := HK.out; omega)).mono ?_
        rintro e w6 ⟨rfl, S6, hK6, hm6, hC6⟩
        have HB6 : Hid (Below w.heap.size w w6) := HS.out.be.trans (hC6.to_below HS.out.be.size HS.out.ah)
        clear hK6 hm6 hC6
        go_wp2_with fail
        go_ret
        exact ⟨rfl, HB6.out⟩
      · have h4 : (lss.length : Int) ≤ (k : Int) := by omega
        obtain ⟨a0, a1, a2, a3, a4, a5, a6, a7, hV⟩ := eight (W := V) HS.out.wk.2
        have HV : Hid (V = [a0, a1, a2, a3, a4, a5, a6, a7]) := hV
        have hwk := HS.out.wk
        rw [hV] at hwk
        obtain ⟨c0, c1, c2, c3, c4, c5, c6, c7⟩ := wb_cells hwk
        clear hV hwk
        go_wp2_with fail
        refine (holds8 HS.out.bk (by rw [← HV.out]; exact HS.out.iv) (by rw [← HV.out]; exact HS.out.by') (by have := HS.out.rd; have := HK.out; omega)).mono ?_
        rintro e w6 ⟨rfl, S6, hK6, hm6, hC6⟩
        have HB6 : Hid (Below w.heap.size w w6) := HS.out.be.trans (hC6.to_below HS.out.be.size HS.out.ah)
        clear hK6 hm6 hC6
        go_wp2_with fail
        go_ret
        exact ⟨rfl, HB6.out⟩
end Go.Proofs.Ytfjgpkpkhccliaa
