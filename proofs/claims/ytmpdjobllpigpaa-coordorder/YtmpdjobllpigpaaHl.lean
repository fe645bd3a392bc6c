/- CoordOrder: the walk. -/
import Derived.Test.YtmpdjobllpigpaaM38
namespace Go.Proofs.Ytmpdjobllpigpaa

open Ieee Go.RowKit

structure Lq (wz : World) (WB : Nat) (p : Pn) (ov : Value) (i : Nat) (wr : World) : Prop where
  ex : ∃ (K : Nat → Prop) (c : Cs) (M : List Ms), AW wz K WB p ov c M wr ∧ Ai p i c ∧ M.length ≤ i
theorem wk_same {p : Pn} (h : p.is = true) (a : Int) : (p0 p).worker a = p.worker a := by
  unfold Pn.worker
  rw [show (p0 p).is = true from is_less h, h]; rfl
theorem kind_wk {p : Pn} (h : p.is = true) {k : Int} (hk : 1 ≤ k) : p.kind ((p0 p).worker k) = 2 := by
  obtain ⟨_, _, ⟨hW1, hW4⟩, _⟩ := Pn.is_num h
  have e : (p0 p).worker k = 1 + k % p.W := by
    unfold Pn.worker
    rw [show (p0 p).is = true from is_less h, decide_eq_true hk]; rfl
  have h1 := Int.emod_nonneg k (show p.W ≠ 0 by omega)
  have h2 := Int.emod_lt_of_pos k (show 0 < p.W by omega)
  rw [e]
  unfold Pn.kind
  have hn : p.nodes = 1 + p.W + p.S := by unfold Pn.nodes; rw [h]; rfl
  have hS := (Pn.is_num h).2.1
  rw [if_neg (by omega), if_neg (by omega), if_pos (by omega)]
theorem drop_consY {L : List Yt} {k : Nat} (h : k < L.length) : L.drop k = L[k] :: L.drop (k + 1) := List.drop_eq_getElem_cons h
set_option maxRecDepth 100000 in
set_option maxHeartbeats 8000000 in
theorem coordorder_walk {w : World} {p : Pn} {ov : Value} {av : Value} {l : List Ac0} (ho : Ov w ov p.l) (ha : Acl w av l) : Calls Try.prog 4 #[.agg #[.int .i64 p.P, .int .i64 p.S, .int .i64 p.W, ov, .int .i64 p.A, .int .i64 p.B, .int .i64 p.N, .int .i64 p.G], av] w fun e w' => e = .returned (.bool true) ∧ Below w.heap.size w w' := by
  obtain ⟨w0, hw0⟩ : ∃ w0, w0 = w.alloc (Obj.cells #[.int .i64 p.P, .int .i64 p.S, .int .i64 p.W, ov, .int .i64 p.A, .int .i64 p.B, .int .i64 p.N, .int .i64 p.G] 24) := ⟨_, rfl⟩
  have hb0 : Below w.heap.size w w0 := by rw [hw0]; exact below_alloc _ _
  have HB0 : Hid (Below w.heap.size w w0) := hb0
  have HO : Hid (Ov w0 ov p.l) := ho.below hb0
  have HBX : Hid (w0.heap[w.heap.size]? = some (.cells #[.int .i64 p.P, .int .i64 p.S, .int .i64 p.W, ov, .int .i64 p.A, .int .i64 p.B, .int .i64 p.N, .int .i64 p.G] 24 (0, 0))) := by show _ = _; rw [hw0]; exact alloc_at rfl
  obtain ⟨⟨oa, oc, rfl, _⟩, _⟩ := ho
  have HW0 : Hid (w0 = w.alloc (Obj.cells #[.int .i64 p.P, .int .i64 p.S, .int .i64 p.W, .slice oa p.l.length oc, .int .i64 p.A, .int .i64 p.B, .int .i64 p.N, .int .i64 p.G] 24)) := hw0
  have HACL : Hid (Acl w av l) := ha
  obtain ⟨ao, acp, rfl, _⟩ := ha
  clear hw0 hb0
  go_enter Try.func4, Try.ntmps4
  go_wp2_with fail
  rw [← HW0.out]
  refine awake19_walk.mono ?_
  rintro e w1 ⟨rfl, hB1⟩
  have HB1 : Hid (Below w.heap.size w w1) := HB0.out.trans (hB1.mono HB0.out.size)
  have hX1 := blk_below HBX.out hB1
  have HX1 : Hid (w1.heap[w.heap.size]? = some (.cells #[.int .i64 p.P, .int .i64 p.S, .int .i64 p.W, .slice oa p.l.length oc, .int .i64 p.A, .int .i64 p.B, .int .i64 p.N, .int .i64 p.G] 24 (0, 0))) := hX1
  have HO1 : Hid (Ov w1 (.slice oa p.l.length oc) p.l) := HO.out.below hB1
  have x0 : w1.cell? ⟨w.heap.size, 0, none⟩ = some (.int .i64 p.P) := by rw [blk_cell hX1]; rfl
  have x1 : w1.cell? ⟨w.heap.size, 1, none⟩ = some (.int .i64 p.S) := by rw [blk_cell hX1]; rfl
  have x2 : w1.cell? ⟨w.heap.size, 2, none⟩ = some (.int .i64 p.W) := by rw [blk_cell hX1]; rfl
  have x3 : w1.cell? ⟨w.heap.size, 3, none⟩ = some (.slice oa p.l.length oc) := by rw [blk_cell hX1]; rfl
  have x4 : w1.cell? ⟨w.heap.size, 4, none⟩ = some (.int .i64 p.A) := by rw [blk_cell hX1]; rfl
  have x5 : w1.cell? ⟨w.heap.size, 5, none⟩ = some (.int .i64 p.B) := by rw [blk_cell hX1]; rfl
  have x6 : w1.cell? ⟨w.heap.size, 6, none⟩ = some (.int .i64 p.N) := by rw [blk_cell hX1]; rfl
  have x7 : w1.cell? ⟨w.heap.size, 7, none⟩ = some (.int .i64 p.G) := by rw [blk_cell hX1]; rfl
  clear hB1 hX1
  go_wp2_with fail
  refine (laid_walk19 HO1.out).mono ?_
  rintro e w2 (⟨his, hB2, d, rfl⟩ | ⟨his, sb, cb, rfl, hcw⟩)
  · have HIS : Hid (p.is = false) := his
    obtain ⟨w3, hw3⟩ : ∃ w3, w3 = w2.alloc (Obj.cells #[.int .i64 p.P, .int .i64 p.S, .int .i64 p.W, .slice oa p.l.length oc, .int .i64 p.A, .int .i64 p.B, .int .i64 p.N, .int .i64 p.G, .pointer d, .pointer none, .slice none 0 0] 31) := ⟨_, rfl⟩
    have hb13 : Below w1.heap.size w1 w3 := by rw [hw3]; exact below_trans hB2 (below_alloc _ _)
    have HW3 : Hid (w3 = w2.alloc (Obj.cells #[.int .i64 p.P, .int .i64 p.S, .int .i64 p.W, .slice oa p.l.length oc, .int .i64 p.A, .int .i64 p.B, .int .i64 p.N, .int .i64 p.G, .pointer d, .pointer none, .slice none 0 0] 31)) := hw3
    have HB3 : Hid (Below w1.heap.size w1 w3) := hb13
    have hX3 := blk_below HX1.out hb13
    have u0 : w3.cell? ⟨w.heap.size, 0, none⟩ = some (.int .i64 p.P) := by rw [blk_cell hX3]; rfl
    have u1 : w3.cell? ⟨w.heap.size, 1, none⟩ = some (.int .i64 p.S) := by rw [blk_cell hX3]; rfl
    have u2 : w3.cell? ⟨w.heap.size, 2, none⟩ = some (.int .i64 p.W) := by rw [blk_cell hX3]; rfl
    have u3 : w3.cell? ⟨w.heap.size, 3, none⟩ = some (.slice oa p.l.length oc) := by rw [blk_cell hX3]; rfl
    have u4 : w3.cell? ⟨w.heap.size, 4, none⟩ = some (.int .i64 p.A) := by rw [blk_cell hX3]; rfl
    have u5 : w3.cell? ⟨w.heap.size, 5, none⟩ = some (.int .i64 p.B) := by rw [blk_cell hX3]; rfl
    have u6 : w3.cell? ⟨w.heap.size, 6, none⟩ = some (.int .i64 p.N) := by rw [blk_cell hX3]; rfl
    have u7 : w3.cell? ⟨w.heap.size, 7, none⟩ = some (.int .i64 p.G) := by rw [blk_cell hX3]; rfl
    clear his hB2 hw3 hb13 hX3 x0 x1 x2 x3 x4 x5 x6 x7
    go_upto_region 4 with fail
    rw [← HW3.out]
    go_wp2_with fail
    refine (pcheck_walk (p := p) (HO1.out.below HB3.out)).mono ?_
    rintro e w4 ⟨rfl, hB4⟩
    have hk : (p.chk != 0) = true := by
      have := Pn.chk_no HIS.out
      rw [bne, this]; rfl
    have HB4 : Hid (Below w.heap.size w w4) := (HB1.out.trans (HB3.out.mono HB1.out.size)).trans (hB4.mono (Nat.le_trans HB1.out.size HB3.out.size))
    generalize p.chk = ck at hk
    clear hB4
    go_wp2_with fail
    go_ret
    exact ⟨by first | rfl | rw [hk], HB4.out⟩
  have HIS : Hid (p.is = true) := his
  obtain ⟨w3, hw3⟩ : ∃ w3, w3 = w2.alloc (Obj.cells #[.int .i64 p.P, .int .i64 p.S, .int .i64 p.W, .slice oa p.l.length oc, .int .i64 p.A, .int .i64 p.B, .int .i64 p.N, .int .i64 p.G, Pt sb, Pt cb, .slice none 0 0] 31) := ⟨_, rfl⟩
  have HW3 : Hid (w3 = w2.alloc (Obj.cells #[.int .i64 p.P, .int .i64 p.S, .int .i64 p.W, .slice oa p.l.length oc, .int .i64 p.A, .int .i64 p.B, .int .i64 p.N, .int .i64 p.G, Pt sb, Pt cb, .slice none 0 0] 31)) := hw3
  have HAW3x := hidH (aw_laid (p := p) (ov := .slice oa p.l.length oc) hcw hw3)
  obtain ⟨WB, hWBd⟩ : ∃ WB, WB = w2.heap.size := ⟨_, rfl⟩
  have HWBD : Hid (WB = w2.heap.size) := hWBd
  rw [← hWBd] at HAW3x
  have HAW3 : Hid (AW w1 (fun _ => False) WB p (.slice oa p.l.length oc) (frC p) [] w3) := HAW3x
  clear his hcw hw3 HAW3x x0 x1 x2 x3 x4 x5 x6 x7 hWBd
  go_upto_region 4 with fail
  rw [← HW3.out, ← HWBD.out]
  have HLP5 : Hid (Lq w1 WB p (.slice oa p.l.length oc) 0 w3) := ⟨⟨_, frC p, [], HAW3.out, fr_ai HIS.out, Nat.le_refl _⟩⟩
  obtain ⟨PB, hPB⟩ : ∃ PB, PB = w.heap.size := ⟨_, rfl⟩
  have HPBD : Hid (PB = w.heap.size) := hPB
  rw [← HPBD.out]
  have HPB1 : Hid (w1.heap[PB]? = some (.cells #[.int .i64 p.P, .int .i64 p.S, .int .i64 p.W, .slice oa p.l.length oc, .int .i64 p.A, .int .i64 p.B, .int .i64 p.N, .int .i64 p.G] 24 (0, 0))) := by show _ = _; rw [hPB]; exact HX1.out
  clear hPB
  go_wp2_with fail
  go_loopw [7] (fun iv wr => ∃ (i : Nat), iv = .int .i64 i ∧ i ≤ l.length ∧ i ≤ 600 ∧ Lq w1 WB p (.slice oa p.l.length oc) i wr) (fun iv _ => l.length - (intOf iv).toNat)
  case atStart => exact ⟨0, rfl, Nat.zero_le _, Nat.zero_le _, HLP5.out⟩
  case round =>
    obtain ⟨i, rfl, hil, hi6, hlp⟩ := hrel
    obtain ⟨wo, hwo⟩ : ∃ wo, wo = wr := ⟨_, rfl⟩
    subst hwo
    obtain ⟨K, c, M, hawr, hai, hml⟩ := hlp.ex
    have HAWr : Hid (AW w1 K WB p (.slice oa p.l.length oc) c M wo) := hawr
    have HAIr : Hid (Ai p i c) := hai
    have HML : Hid (M.length ≤ i) := hml
    have HBr : Hid (Below w.heap.size w wo) := HB1.out.trans (hawr.bel.mono HB1.out.size)
    clear hlp hawr hai hml
    by_cases hlt : i < l.length
    rotate_left
    · have hnl : ¬ ((i : Int) < (l.length : Int)) := by omega
      go_wp2_with fail
      go_ret
      exact ⟨rfl, HBr.out⟩
    have hli : (i : Int) < (l.length : Int) := by omega
    by_cases h6 : i < 600
    rotate_left
    · have hn6 : ¬ ((i : Int) < 600) := by omega
      have hn6b : ¬ i < 600 := h6
      go_wp2_with fail
      go_ret
      exact ⟨rfl, HBr.out⟩
    as_aux_lemma =>
      have h6i : (i : Int) < 600 := by omega
      obtain ⟨ab, aoff, onv, hao, hel⟩ := acl_at HACL.out hlt
      subst hao
      obtain ⟨g0, g1, g2, _⟩ := hel wo HBr.out
      obtain ⟨kd, hkd⟩ : ∃ kd, kd = (ath l i).kd := ⟨_, rfl⟩
      obtain ⟨kk, hkk⟩ : ∃ kk, kk = (ath l i).kk := ⟨_, rfl⟩
      obtain ⟨on, hon⟩ : ∃ on, on = (ath l i).on := ⟨_, rfl⟩
      have hnv : Nv w1 onv on := by rw [hon]; exact (hel w1 HB1.out).2.2.2
      have HNV : Hid (Nv w1 onv on) := hnv
      obtain ⟨na, nc, rfl, _⟩ := hnv.form
      rw [← hkd] at g0
      rw [← hkk] at g1
      clear hel hnv hkd hkk hon
      go_wp2_with fail
      refine (act_walk HAWr.out HO1.out HIS.out HNV.out HAIr.out (by omega) (by have := HML.out; omega)).mono ?_
      rintro e w2a ⟨c', M', mo, ⟨hai', hao'⟩, hml', v2, B, rfl, hmg, hBn, haw, hch⟩
      have HAW2 : Hid (AW w1 (fun x => K x ∨ B x) WB p (.slice oa p.l.length oc) c' M' w2a) := haw
      have HMG : Hid (MgR B w2a v2 mo) := hmg
      have HAI2 : Hid (Ai p (i + 1) c') := hai'
      have HAO : Hid (Ao p c c' mo) := hao'
      have HML2 : Hid (M'.length ≤ i + 1) := by have := HML.out; show _ ≤ _; omega
      obtain ⟨a2, n2, k2, rfl⟩ := hmg.nil_or
      obtain ⟨A, sbx, cbx, sv, V, _, hcw, hW, _, _⟩ := haw.ex
      have HCWx : Hid (CW w1 (fun x => (K x ∨ B x) ∨ A x) sbx cbx c' w2a) := hcw
      have HWx := hidH hW
      have i9 : w2a.cell? ⟨WB, 9, none⟩ = some (.pointer (some ⟨cbx, 0, none⟩)) := by rw [blk_cell hW]; rfl
      clear haw hmg hBn hai' hao' hml' hch hcw hW g0 g1 g2
      go_wp2_with fail
      refine (cnote_walk HCWx.out).mono ?_
      rintro e w3a ⟨pa, pc, ca, cc, rfl, ho1, ho2, hB3⟩
      obtain ⟨n', hn'⟩ : ∃ n', n' = c'.J.n := ⟨_, rfl⟩
      rw [← hn'] at ho1 ho2 ⊢
      obtain ⟨w4a, hw4⟩ : ∃ w4a, w4a = w3a.alloc (Obj.cells #[.int .i64 n'.b, .slice pa n'.p.length pc, .slice ca n'.c.length cc, .int .i64 n'.a] 40) := ⟨_, rfl⟩
      have HW4 : Hid (w4a = w3a.alloc (Obj.cells #[.int .i64 n'.b, .slice pa n'.p.length pc, .slice ca n'.c.length cc, .int .i64 n'.a] 40)) := hw4
      have hb34 : Below w3a.heap.size w3a w4a := by rw [hw4]; exact below_alloc _ _
      have hb24 : Below w2a.heap.size w2a w4a := below_trans hB3 hb34
      have HB24 : Hid (Below w2a.heap.size w2a w4a) := hb24
      obtain ⟨N2, hN2⟩ : ∃ N2, N2 = w3a.heap.size := ⟨_, rfl⟩
      have HN2 : Hid (N2 = w3a.heap.size) := hN2
      have hN2b : w4a.heap[N2]? = some (.cells #[.int .i64 n'.b, .slice pa n'.p.length pc, .slice ca n'.c.length cc, .int .i64 n'.a] 40 (0, 0)) := by rw [hw4, hN2]; exact alloc_at rfl
      have HN2B : Hid (w4a.heap[N2]? = some (.cells #[.int .i64 n'.b, .slice pa n'.p.length pc, .slice ca n'.c.length cc, .int .i64 n'.a] 40 (0, 0))) := hN2b
      have HQ2 : Hid (OwN w2a.heap.size w4a (.slice ca n'.c.length cc) n'.c) := own_below ho2 hb34
      have HNN : Hid (n' = c'.J.n) := hn'
      have i9 : w4a.cell? ⟨WB, 9, none⟩ = some (.pointer (some ⟨cbx, 0, none⟩)) := by rw [blk_cell (blk_below HWx.out hb24)]; rfl
      clear ho1 ho2 hB3 hw4 hb34 hb24 hN2 hN2b hn'
      go_upto_region 11 with fail
      rw [← HW4.out, ← HN2.out]
      go_wp2_with fail
      refine (ctries_walk (HCWx.out.below HB24.out)).mono ?_
      rintro e w5a ⟨vl, W, rfl, hyW, hrW, hlW, hB5⟩
      have HB45 : Hid (Below w4a.heap.size w4a w5a) := hB5
      have hb25 : Below w2a.heap.size w2a w5a := below_trans HB24.out hB5
      have HB25 : Hid (Below w2a.heap.size w2a w5a) := hb25
      have HB15 : Hid (Below w1.heap.size w1 w5a) := HAW2.out.bel.trans (hb25.mono HAW2.out.bel.size)
      have HYW : Hid (W.map Ye.y = c'.L) := hyW
      have HLW : Hid (∀ x ∈ W, OwN w4a.heap.size w5a x.fv x.y.f ∧ OwN w4a.heap.size w5a x.ev x.y.e) := hlW
      obtain ⟨nW, hnW⟩ : ∃ nW : Nat, nW = W.length := ⟨_, rfl⟩
      have HNW : Hid (nW = W.length) := hnW
      rw [← hnW] at hrW
      have HRW : Hid (w5a.ownsRow w4a.heap.size 56 7 vl nW (flatY W)) := hrW
      obtain ⟨la, lc, rfl, _, _⟩ := own_formY hrW
      have HLN : Hid (nW = c'.L.length) := by show _ = _; rw [hnW, ← hyW, List.length_map]
      have HN5 := hidH (blk_below HN2B.out hB5)
      have HPB5 := hidH (blk_below HPB1.out HB15.out)
      have hwin : decide (p.N < (nW : Int)) = false := decide_eq_false (by have h1 := HAI2.out.wn; have h2 := HLN.out; omega)
      have x6 : w5a.cell? ⟨PB, 6, none⟩ = some (.int .i64 p.N) := by rw [blk_cell HPB5.out]; rfl
      have HAB : Hid (n'.a ≤ 1000 ∧ 0 ≤ n'.a ∧ n'.b ≤ 1000 ∧ 0 ≤ n'.b) := by have h1 := HAI2.out.a; have h2 := HAI2.out.b; have h3 := HAI2.out.rgt.a0; have h4 := HAI2.out.rgt.r.1; rw [HNN.out]; exact ⟨by omega, h3, by omega, h4⟩
      have hwb : IntKind.i64.wrap (n'.b + 1) = n'.b + 1 := by have := HAB.out; rw [IntKind.wrap_i64]; omega
      have HO5 : Hid (Ov w5a (.slice oa p.l.length oc) p.l) := HO1.out.below HB15.out
      have HNC5 : Hid (Nv w5a (.slice ca n'.c.length cc) n'.c) := own_nv (own_below HQ2.out hB5) (by rw [HNN.out]; exact (rgt_in64 HAI2.out.rgt).2)
      clear hyW hrW hlW hB5 hb25 hnW i9
      go_upto_region 14 with fail
      clear hwin x6
      go_wp2_with fail
      go_loopw [12] (fun kv wx => ∃ k : Nat, kv = .int .i64 k ∧ k ≤ n2 ∧ Below w5a.heap.size w5a wx) (fun kv _ => n2 - (intOf kv).toNat)
      case atStart => exact ⟨0, rfl, Nat.zero_le _, below_same _⟩
      case round =>
        obtain ⟨k, rfl, hkn, hBk⟩ := hrel
        obtain ⟨wk, hwk⟩ : ∃ wk, wk = wr := ⟨_, rfl⟩
        subst hwk
        have HBK : Hid (Below w5a.heap.size w5a wk) := hBk
        clear hBk
        by_cases hk2 : k < n2
        · obtain ⟨m, hmm⟩ : ∃ m, mo = some m := by
            cases mo with
            | none => have h9 : Value.slice a2 n2 k2 = .slice none 0 0 := HMG.out; cases h9; omega
            | some m => exact ⟨m, rfl⟩
          have hmg := HMG.out
          rw [hmm] at hmg
          obtain ⟨g, ev, h9, hg, _, _, _⟩ := hmg
          cases h9
          obtain rfl : k = 0 := by omega
          have hg5 := blk_below hg HB25.out
          have HGl : Hid (g < w5a.heap.size) := blk_lt hg5
          obtain ⟨hF, ⟨kq, hkq, hT⟩, hms⟩ := HAO.out.ms m hmm
          have hF0 : (m.F != 0) = false := by simp [hF]
          have HKD : Hid (p.kind m.T = 2) := by show _ = _; rw [hT]; exact kind_wk HIS.out hkq
          have hms2 : (m.K = 1) ∨ (m.K = 3 ∧ m.B = n'.b + 1) := by
            rcases hms with h | h
            · exact .inl h.1
            · exact .inr ⟨h.1, by rw [HNN.out]; exact h.2⟩
          have h01 : (0 : Int) < (1 : Int) := by omega
          have m0 : ∀ wx, Below w5a.heap.size w5a wx → wx.cell? ⟨g, 0, none⟩ = some (.int .i64 m.K) := fun wx hb => cell_bel hb HGl.out (by rw [blk_cell hg5]; rfl)
          have m1 : ∀ wx, Below w5a.heap.size w5a wx → wx.cell? ⟨g, 1, none⟩ = some (.int .i64 m.F) := fun wx hb => cell_bel hb HGl.out (by rw [blk_cell hg5]; rfl)
          have m2 : ∀ wx, Below w5a.heap.size w5a wx → wx.cell? ⟨g, 2, none⟩ = some (.int .i64 m.T) := fun wx hb => cell_bel hb HGl.out (by rw [blk_cell hg5]; rfl)
          have m3 : ∀ wx, Below w5a.heap.size w5a wx → wx.cell? ⟨g, 3, none⟩ = some (.int .i64 m.B) := fun wx hb => cell_bel hb HGl.out (by rw [blk_cell hg5]; rfl)
          have pl0 : ∀ wx, Below w5a.heap.size w5a wx → wx.cell? ⟨PB, 0, none⟩ = some (.int .i64 p.P) := fun wx hb => cell_bel hb (blk_lt HPB5.out) (by rw [blk_cell HPB5.out]; rfl)
          have pl1 : ∀ wx, Below w5a.heap.size w5a wx → wx.cell? ⟨PB, 1, none⟩ = some (.int .i64 p.S) := fun wx hb => cell_bel hb (blk_lt HPB5.out) (by rw [blk_cell HPB5.out]; rfl)
          have pl2 : ∀ wx, Below w5a.heap.size w5a wx → wx.cell? ⟨PB, 2, none⟩ = some (.int .i64 p.W) := fun wx hb => cell_bel hb (blk_lt HPB5.out) (by rw [blk_cell HPB5.out]; rfl)
          have pl3 : ∀ wx, Below w5a.heap.size w5a wx → wx.cell? ⟨PB, 3, none⟩ = some (.slice oa p.l.length oc) := fun wx hb => cell_bel hb (blk_lt HPB5.out) (by rw [blk_cell HPB5.out]; rfl)
          have pl4 : ∀ wx, Below w5a.heap.size w5a wx → wx.cell? ⟨PB, 4, none⟩ = some (.int .i64 p.A) := fun wx hb => cell_bel hb (blk_lt HPB5.out) (by rw [blk_cell HPB5.out]; rfl)
          have pl5 : ∀ wx, Below w5a.heap.size w5a wx → wx.cell? ⟨PB, 5, none⟩ = some (.int .i64 p.B) := fun wx hb => cell_bel hb (blk_lt HPB5.out) (by rw [blk_cell HPB5.out]; rfl)
          have pl6 : ∀ wx, Below w5a.heap.size w5a wx → wx.cell? ⟨PB, 6, none⟩ = some (.int .i64 p.N) := fun wx hb => cell_bel hb (blk_lt HPB5.out) (by rw [blk_cell HPB5.out]; rfl)
          have pl7 : ∀ wx, Below w5a.heap.size w5a wx → wx.cell? ⟨PB, 7, none⟩ = some (.int .i64 p.G) := fun wx hb => cell_bel hb (blk_lt HPB5.out) (by rw [blk_cell HPB5.out]; rfl)
          have nb0 : ∀ wx, Below w5a.heap.size w5a wx → wx.cell? ⟨N2, 0, none⟩ = some (.int .i64 n'.b) := fun wx hb => cell_bel hb (blk_lt HN5.out) (by rw [blk_cell HN5.out]; rfl)
          clear hg hg5 hF hT hkq hms hmm hkn hk2
          as_aux_lemma =>
            rcases hms2 with hK | ⟨hK, hBb⟩
            · have q1 : (m.K == 3) = false := by simp [hK]
              have q2 : (m.K != 3) = true := by simp [hK]
              have q3 : (m.K != 1) = false := by simp [hK]
              clear hK
              go_upto_region 17 with fail
              refine wp_region_noPanic ?_
              refine wp_region_held_drew (S := (fun wx => Below w5a.heap.size w5a wx)) (by kernel_rfl) ?_ (fun hHeld => ?_)
              · exact (below_trans HBK.out (below_drewN wk 1))
              refine wpAnyH_take (i := 0) (oi := ⟨some 67, _, _, _, _, _⟩) (v := ?_) rfl (by kernel_rfl) (by kernel_rfl) (by kernel_rfl) (fun _ _ _ h => h) (Or.inl ⟨by rfl, ?_⟩) hHeld ?_
              rotate_left
              · intro w hSw; (try dsimp only at hSw); go_simp; all_goals (with_reducible rfl)
              try simp only [Act.put, List.setIfInBounds_toArray, List.set_cons_zero, List.set_cons_succ]
              refine wpAnyH_take (i := 1) (oi := ⟨some 68, _, _, _, _, _⟩) (v := ?_) rfl (by kernel_rfl) (by kernel_rfl) (by kernel_rfl) (fun _ _ _ h => h) (Or.inl ⟨by rfl, ?_⟩) hHeld ?_
              rotate_left
              · intro w hSw; (try dsimp only at hSw); go_simp; all_goals (with_reducible rfl)
              try simp only [Act.put, List.setIfInBounds_toArray, List.set_cons_zero, List.set_cons_succ]
              refine wpAnyH_take (i := 2) (oi := ⟨some 69, _, _, _, _, _⟩) (v := ?_) rfl (by kernel_rfl) (by kernel_rfl) (by kernel_rfl) (fun _ _ _ h => h) (Or.inl ⟨by rfl, ?_⟩) hHeld ?_
              rotate_left
              · intro w hSw; (try dsimp only at hSw); go_simp; all_goals (with_reducible rfl)
              try simp only [Act.put, List.setIfInBounds_toArray, List.set_cons_zero, List.set_cons_succ]
              refine wpAnyH_take (i := 3) (oi := ⟨some 70, _, _, _, _, _⟩) (v := ?_) rfl (by kernel_rfl) (by kernel_rfl) (by kernel_rfl) (fun _ _ _ h => h) (Or.inl ⟨by rfl, ?_⟩) hHeld ?_
              rotate_left
              · intro w hSw; (try dsimp only at hSw); go_simp; all_goals (with_reducible rfl)
              try simp only [Act.put, List.setIfInBounds_toArray, List.set_cons_zero, List.set_cons_succ]
              refine wpAnyH_take (i := 4) (oi := ⟨some 71, _, _, _, _, _⟩) (v := ?_) rfl (by kernel_rfl) (by kernel_rfl) (by kernel_rfl) (fun _ _ _ h => h) (Or.inl ⟨by rfl, ?_⟩) hHeld ?_
              rotate_left
              · intro w hSw; (try dsimp only at hSw); go_simp; all_goals (with_reducible rfl)
              try simp only [Act.put, List.setIfInBounds_toArray, List.set_cons_zero, List.set_cons_succ]
              refine wpAnyH_take (i := 5) (oi := ⟨some 72, _, _, _, _, _⟩) (v := ?_) rfl (by kernel_rfl) (by kernel_rfl) (by kernel_rfl) (fun _ _ _ h => h) (Or.inl ⟨by rfl, ?_⟩) hHeld ?_
              rotate_left
              · intro w hSw; (try dsimp only at hSw); go_simp; all_goals (with_reducible rfl)
              try simp only [Act.put, List.setIfInBounds_toArray, List.set_cons_zero, List.set_cons_succ]
              refine wpAnyH_take (i := 6) (oi := ⟨some 73, _, _, _, _, _⟩) (v := ?_) rfl (by kernel_rfl) (by kernel_rfl) (by kernel_rfl) (fun _ _ _ h => h) (Or.inl ⟨by rfl, ?_⟩) hHeld ?_
              rotate_left
              · intro w hSw; (try dsimp only at hSw); go_simp; all_goals (with_reducible rfl)
              try simp only [Act.put, List.setIfInBounds_toArray, List.set_cons_zero, List.set_cons_succ]
              refine wpAnyH_take (i := 7) (oi := ⟨some 74, _, _, _, _, _⟩) (v := ?_) rfl (by kernel_rfl) (by kernel_rfl) (by kernel_rfl) (fun _ _ _ h => h) (Or.inl ⟨by rfl, ?_⟩) hHeld ?_
              rotate_left
              · intro w hSw; (try dsimp only at hSw); go_simp; all_goals (with_reducible rfl)
              try simp only [Act.put, List.setIfInBounds_toArray, List.set_cons_zero, List.set_cons_succ]
              refine wpAnyH_take (i := 8) (oi := ⟨some 75, _, _, _, _, _⟩) (v := ?_) rfl (by kernel_rfl) (by kernel_rfl) (by kernel_rfl) (fun _ _ _ h => h) (Or.inl ⟨by rfl, ?_⟩) hHeld ?_
              rotate_left
              · intro w hSw; (try dsimp only at hSw); go_simp; all_goals (with_reducible rfl)
              try simp only [Act.put, List.setIfInBounds_toArray, List.set_cons_zero, List.set_cons_succ]
              refine wpAnyH_take (i := 9) (oi := ⟨some 76, _, _, _, _, _⟩) (v := ?_) rfl (by kernel_rfl) (by kernel_rfl) (by kernel_rfl) (fun _ _ _ h => h) (Or.inl ⟨by rfl, ?_⟩) hHeld ?_
              rotate_left
              · intro w hSw; (try dsimp only at hSw); go_simp; all_goals (with_reducible rfl)
              try simp only [Act.put, List.setIfInBounds_toArray, List.set_cons_zero, List.set_cons_succ]
              refine wpAnyH_take (i := 10) (oi := ⟨some 77, _, _, _, _, _⟩) (v := ?_) rfl (by kernel_rfl) (by kernel_rfl) (by kernel_rfl) (fun _ _ _ h => h) (Or.inl ⟨by rfl, ?_⟩) hHeld ?_
              rotate_left
              · intro w hSw; (try dsimp only at hSw); go_simp; all_goals (with_reducible rfl)
              try simp only [Act.put, List.setIfInBounds_toArray, List.set_cons_zero, List.set_cons_succ]
              refine wpAnyH_take (i := 11) (oi := ⟨some 78, _, _, _, _, _⟩) (v := ?_) rfl (by kernel_rfl) (by kernel_rfl) (by kernel_rfl) (fun _ _ _ h => h) (Or.inl ⟨by rfl, ?_⟩) hHeld ?_
              rotate_left
              · intro w hSw; (try dsimp only at hSw); go_simp; all_goals (with_reducible rfl)
              try simp only [Act.put, List.setIfInBounds_toArray, List.set_cons_zero, List.set_cons_succ]
              refine wpAnyH_take (i := 12) (oi := ⟨some 79, _, _, _, _, _⟩) (v := ?_) rfl (by kernel_rfl) (by kernel_rfl) (by kernel_rfl) (fun _ _ _ h => h) (Or.inl ⟨by rfl, ?_⟩) hHeld ?_
              rotate_left
              · intro w hSw; (try dsimp only at hSw); go_simp; all_goals (with_reducible rfl)
              try simp only [Act.put, List.setIfInBounds_toArray, List.set_cons_zero, List.set_cons_succ]
              refine wpAnyH_ready (rs := [13]) (by kernel_rfl) (by simp) ?_
              refine AllReadyH.cons (o := ⟨some 80, _, _, _, _, _⟩) rfl (fun K hK => ?_) AllReadyH.nil
              go_simp
              refine (kind_walk (p := p) m.T (HO5.out.below hHeld)).mono ?_
              rw [HKD.out]
              rintro e wK ⟨rfl, hBK⟩
              have HBK2 : Hid (Below w5a.heap.size w5a wK) := below_trans hHeld hBK
              clear hBK
              refine hK.out _ _ ?_ (fun hHeld => ?_)
              · exact HBK2.out
              clear hK K
              try simp only [Act.put, List.setIfInBounds_toArray, List.set_cons_zero, List.set_cons_succ]
              refine wpAnyH_take (i := 14) (oi := ⟨some 81, _, _, _, _, _⟩) (v := ?_) rfl (by kernel_rfl) (by kernel_rfl) (by kernel_rfl) (fun _ _ _ h => h) (Or.inl ⟨by rfl, ?_⟩) hHeld ?_
              rotate_left
              · intro w hSw; (try dsimp only at hSw); go_simp; all_goals (with_reducible rfl)
              try simp only [Act.put, List.setIfInBounds_toArray, List.set_cons_zero, List.set_cons_succ]
              refine wpAnyH_take (i := 15) (oi := ⟨some 82, _, _, _, _, _⟩) (v := ?_) rfl (by kernel_rfl) (by kernel_rfl) (by kernel_rfl) (fun _ _ _ h => h) (Or.inl ⟨by rfl, ?_⟩) hHeld ?_
              rotate_left
              · intro w hSw; (try dsimp only at hSw); go_simp; all_goals (with_reducible rfl)
              try simp only [Act.put, List.setIfInBounds_toArray, List.set_cons_zero, List.set_cons_succ]
              refine wpAnyH_take (i := 16) (oi := ⟨some 83, _, _, _, _, _⟩) (v := ?_) rfl (by kernel_rfl) (by kernel_rfl) (by kernel_rfl) (fun _ _ _ h => h) (Or.inl ⟨by rfl, ?_⟩) hHeld ?_
              rotate_left
              · intro w hSw; (try dsimp only at hSw); go_simp; all_goals (with_reducible rfl)
              try simp only [Act.put, List.setIfInBounds_toArray, List.set_cons_zero, List.set_cons_succ]
              refine wpAnyH_take (i := 17) (oi := ⟨some 84, _, _, _, _, _⟩) (v := ?_) rfl (by kernel_rfl) (by kernel_rfl) (by kernel_rfl) (fun _ _ _ h => h) (Or.inl ⟨by rfl, ?_⟩) hHeld ?_
              rotate_left
              · intro w hSw; (try dsimp only at hSw); go_simp; all_goals (with_reducible rfl)
              try simp only [Act.put, List.setIfInBounds_toArray, List.set_cons_zero, List.set_cons_succ]
              refine wpAnyH_take (i := 18) (oi := ⟨some 85, _, _, _, _, _⟩) (v := ?_) rfl (by kernel_rfl) (by kernel_rfl) (by kernel_rfl) (fun _ _ _ h => h) (Or.inl ⟨by rfl, ?_⟩) hHeld ?_
              rotate_left
              · intro w hSw; (try dsimp only at hSw); go_simp; all_goals (with_reducible rfl)
              try simp only [Act.put, List.setIfInBounds_toArray, List.set_cons_zero, List.set_cons_succ]
              refine wpAnyH_take (i := 19) (oi := ⟨some 86, _, _, _, _, _⟩) (v := ?_) rfl (by kernel_rfl) (by kernel_rfl) (by kernel_rfl) (fun _ _ _ h => h) (Or.inl ⟨by rfl, ?_⟩) hHeld ?_
              rotate_left
              · intro w hSw; (try dsimp only at hSw); go_simp; all_goals (with_reducible rfl)
              try simp only [Act.put, List.setIfInBounds_toArray, List.set_cons_zero, List.set_cons_succ]
              refine wpAnyH_take (i := 20) (oi := ⟨some 87, _, _, _, _, _⟩) (v := ?_) rfl (by kernel_rfl) (by kernel_rfl) (by kernel_rfl) (fun _ _ _ h => h) (Or.inl ⟨by rfl, ?_⟩) hHeld ?_
              rotate_left
              · intro w hSw; (try dsimp only at hSw); go_simp; all_goals (with_reducible rfl)
              try simp only [Act.put, List.setIfInBounds_toArray, List.set_cons_zero, List.set_cons_succ]
              refine wpAnyH_take (i := 21) (oi := ⟨some 88, _, _, _, _, _⟩) (v := ?_) rfl (by kernel_rfl) (by kernel_rfl) (by kernel_rfl) (fun _ _ _ h => h) (Or.inl ⟨by rfl, ?_⟩) hHeld ?_
              rotate_left
              · intro w hSw; (try dsimp only at hSw); go_simp; all_goals (with_reducible rfl)
              try simp only [Act.put, List.setIfInBounds_toArray, List.set_cons_zero, List.set_cons_succ]
              refine wpAnyH_take (i := 22) (oi := ⟨some 89, _, _, _, _, _⟩) (v := ?_) rfl (by kernel_rfl) (by kernel_rfl) (by kernel_rfl) (fun _ _ _ h => h) (Or.inl ⟨by rfl, ?_⟩) hHeld ?_
              rotate_left
              · intro w hSw; (try dsimp only at hSw); go_simp; all_goals (with_reducible rfl)
              try simp only [Act.put, List.setIfInBounds_toArray, List.set_cons_zero, List.set_cons_succ]
              refine wpAnyH_take (i := 23) (oi := ⟨some 90, _, _, _, _, _⟩) (v := ?_) rfl (by kernel_rfl) (by kernel_rfl) (by kernel_rfl) (fun _ _ _ h => h) (Or.inl ⟨by rfl, ?_⟩) hHeld ?_
              rotate_left
              · intro w hSw; (try dsimp only at hSw); go_simp; all_goals (with_reducible rfl)
              try simp only [Act.put, List.setIfInBounds_toArray, List.set_cons_zero, List.set_cons_succ]
              refine wpAnyH_take (i := 24) (oi := ⟨some 91, _, _, _, _, _⟩) (v := undef) rfl (by kernel_rfl) (by kernel_rfl) (by kernel_rfl) (fun _ _ _ h => h) (Or.inr ⟨by rfl, rfl⟩) hHeld ?_
              try simp only [Act.put, List.setIfInBounds_toArray, List.set_cons_zero, List.set_cons_succ]
              refine wpAnyH_take (i := 25) (oi := ⟨some 92, _, _, _, _, _⟩) (v := undef) rfl (by kernel_rfl) (by kernel_rfl) (by kernel_rfl) (fun _ _ _ h => h) (Or.inr ⟨by rfl, rfl⟩) hHeld ?_
              try simp only [Act.put, List.setIfInBounds_toArray, List.set_cons_zero, List.set_cons_succ]
              refine wpAnyH_take (i := 26) (oi := ⟨some 93, _, _, _, _, _⟩) (v := undef) rfl (by kernel_rfl) (by kernel_rfl) (by kernel_rfl) (fun _ _ _ h => h) (Or.inr ⟨by rfl, rfl⟩) hHeld ?_
              try simp only [Act.put, List.setIfInBounds_toArray, List.set_cons_zero, List.set_cons_succ]
              refine wpAnyH_take (i := 27) (oi := ⟨some 94, _, _, _, _, _⟩) (v := undef) rfl (by kernel_rfl) (by kernel_rfl) (by kernel_rfl) (fun _ _ _ h => h) (Or.inr ⟨by rfl, rfl⟩) hHeld ?_
              try simp only [Act.put, List.setIfInBounds_toArray, List.set_cons_zero, List.set_cons_succ]
              refine wpAnyH_take (i := 28) (oi := ⟨some 95, _, _, _, _, _⟩) (v := undef) rfl (by kernel_rfl) (by kernel_rfl) (by kernel_rfl) (fun _ _ _ h => h) (Or.inr ⟨by rfl, rfl⟩) hHeld ?_
              try simp only [Act.put, List.setIfInBounds_toArray, List.set_cons_zero, List.set_cons_succ]
              refine wpAnyH_take (i := 29) (oi := ⟨some 96, _, _, _, _, _⟩) (v := undef) rfl (by kernel_rfl) (by kernel_rfl) (by kernel_rfl) (fun _ _ _ h => h) (Or.inr ⟨by rfl, rfl⟩) hHeld ?_
              try simp only [Act.put, List.setIfInBounds_toArray, List.set_cons_zero, List.set_cons_succ]
              refine wpAnyH_take (i := 30) (oi := ⟨some 97, _, _, _, _, _⟩) (v := undef) rfl (by kernel_rfl) (by kernel_rfl) (by kernel_rfl) (fun _ _ _ h => h) (Or.inr ⟨by rfl, rfl⟩) hHeld ?_
              try simp only [Act.put, List.setIfInBounds_toArray, List.set_cons_zero, List.set_cons_succ]
              refine wpAnyH_take (i := 31) (oi := ⟨some 98, _, _, _, _, _⟩) (v := undef) rfl (by kernel_rfl) (by kernel_rfl) (by kernel_rfl) (fun _ _ _ h => h) (Or.inr ⟨by rfl, rfl⟩) hHeld ?_
              try simp only [Act.put, List.setIfInBounds_toArray, List.set_cons_zero, List.set_cons_succ]
              refine wpAnyH_take (i := 32) (oi := ⟨some 99, _, _, _, _, _⟩) (v := undef) rfl (by kernel_rfl) (by kernel_rfl) (by kernel_rfl) (fun _ _ _ h => h) (Or.inr ⟨by rfl, rfl⟩) hHeld ?_
              try simp only [Act.put, List.setIfInBounds_toArray, List.set_cons_zero, List.set_cons_succ]
              refine wpAnyH_take (i := 33) (oi := ⟨some 100, _, _, _, _, _⟩) (v := undef) rfl (by kernel_rfl) (by kernel_rfl) (by kernel_rfl) (fun _ _ _ h => h) (Or.inr ⟨by rfl, rfl⟩) hHeld ?_
              try simp only [Act.put, List.setIfInBounds_toArray, List.set_cons_zero, List.set_cons_succ]
              refine wpAnyH_take (i := 34) (oi := ⟨some 101, _, _, _, _, _⟩) (v := ?_) rfl (by kernel_rfl) (by kernel_rfl) (by kernel_rfl) (fun _ _ _ h => h) (Or.inl ⟨by rfl, ?_⟩) hHeld ?_
              rotate_left
              · intro w hSw; (try dsimp only at hSw); go_simp; all_goals (with_reducible rfl)
              try simp only [Act.put, List.setIfInBounds_toArray, List.set_cons_zero, List.set_cons_succ]
              refine wpAnyH_take (i := 35) (oi := ⟨some 102, _, _, _, _, _⟩) (v := ?_) rfl (by kernel_rfl) (by kernel_rfl) (by kernel_rfl) (fun _ _ _ h => h) (Or.inl ⟨by rfl, ?_⟩) hHeld ?_
              rotate_left
              · intro w hSw; (try dsimp only at hSw); go_simp; all_goals (with_reducible rfl)
              try simp only [Act.put, List.setIfInBounds_toArray, List.set_cons_zero, List.set_cons_succ]
              refine wpAnyH_take (i := 36) (oi := ⟨some 103, _, _, _, _, _⟩) (v := ?_) rfl (by kernel_rfl) (by kernel_rfl) (by kernel_rfl) (fun _ _ _ h => h) (Or.inl ⟨by rfl, ?_⟩) hHeld ?_
              rotate_left
              · intro w hSw; (try dsimp only at hSw); go_simp; all_goals (with_reducible rfl)
              try simp only [Act.put, List.setIfInBounds_toArray, List.set_cons_zero, List.set_cons_succ]
              refine wpAnyH_take (i := 37) (oi := ⟨some 104, _, _, _, _, _⟩) (v := ?_) rfl (by kernel_rfl) (by kernel_rfl) (by kernel_rfl) (fun _ _ _ h => h) (Or.inl ⟨by rfl, ?_⟩) hHeld ?_
              rotate_left
              · intro w hSw; (try dsimp only at hSw); go_simp; all_goals (with_reducible rfl)
              try simp only [Act.put, List.setIfInBounds_toArray, List.set_cons_zero, List.set_cons_succ]
              refine wpAnyH_take (i := 38) (oi := ⟨some 105, _, _, _, _, _⟩) (v := ?_) rfl (by kernel_rfl) (by kernel_rfl) (by kernel_rfl) (fun _ _ _ h => h) (Or.inl ⟨by rfl, ?_⟩) hHeld ?_
              rotate_left
              · intro w hSw; (try dsimp only at hSw); go_simp; all_goals (with_reducible rfl)
              try simp only [Act.put, List.setIfInBounds_toArray, List.set_cons_zero, List.set_cons_succ]
              refine wpAnyH_take (i := 39) (oi := ⟨some 106, _, _, _, _, _⟩) (v := ?_) rfl (by kernel_rfl) (by kernel_rfl) (by kernel_rfl) (fun _ _ _ h => h) (Or.inl ⟨by rfl, ?_⟩) hHeld ?_
              rotate_left
              · intro w hSw; (try dsimp only at hSw); go_simp; all_goals (with_reducible rfl)
              try simp only [Act.put, List.setIfInBounds_toArray, List.set_cons_zero, List.set_cons_succ]
              refine wpAnyH_take (i := 40) (oi := ⟨some 107, _, _, _, _, _⟩) (v := ?_) rfl (by kernel_rfl) (by kernel_rfl) (by kernel_rfl) (fun _ _ _ h => h) (Or.inl ⟨by rfl, ?_⟩) hHeld ?_
              rotate_left
              · intro w hSw; (try dsimp only at hSw); go_simp; all_goals (with_reducible rfl)
              try simp only [Act.put, List.setIfInBounds_toArray, List.set_cons_zero, List.set_cons_succ]
              refine wpAnyH_take (i := 41) (oi := ⟨some 108, _, _, _, _, _⟩) (v := ?_) rfl (by kernel_rfl) (by kernel_rfl) (by kernel_rfl) (fun _ _ _ h => h) (Or.inl ⟨by rfl, ?_⟩) hHeld ?_
              rotate_left
              · intro w hSw; (try dsimp only at hSw); go_simp; all_goals (with_reducible rfl)
              try simp only [Act.put, List.setIfInBounds_toArray, List.set_cons_zero, List.set_cons_succ]
              refine wpAnyH_take (i := 42) (oi := ⟨some 109, _, _, _, _, _⟩) (v := ?_) rfl (by kernel_rfl) (by kernel_rfl) (by kernel_rfl) (fun _ _ _ h => h) (Or.inl ⟨by rfl, ?_⟩) hHeld ?_
              rotate_left
              · intro w hSw; (try dsimp only at hSw); go_simp; all_goals (with_reducible rfl)
              try simp only [Act.put, List.setIfInBounds_toArray, List.set_cons_zero, List.set_cons_succ]
              refine wpAnyH_take (i := 43) (oi := ⟨some 110, _, _, _, _, _⟩) (v := ?_) rfl (by kernel_rfl) (by kernel_rfl) (by kernel_rfl) (fun _ _ _ h => h) (Or.inl ⟨by rfl, ?_⟩) hHeld ?_
              rotate_left
              · intro w hSw; (try dsimp only at hSw); go_simp; all_goals (with_reducible rfl)
              try simp only [Act.put, List.setIfInBounds_toArray, List.set_cons_zero, List.set_cons_succ]
              refine wpAnyH_take (i := 44) (oi := ⟨some 111, _, _, _, _, _⟩) (v := ?_) rfl (by kernel_rfl) (by kernel_rfl) (by kernel_rfl) (fun _ _ _ h => h) (Or.inl ⟨by rfl, ?_⟩) hHeld ?_
              rotate_left
              · intro w hSw; (try dsimp only at hSw); go_simp; all_goals (with_reducible rfl)
              try simp only [Act.put, List.setIfInBounds_toArray, List.set_cons_zero, List.set_cons_succ]
              refine wpAnyH_take (i := 45) (oi := ⟨some 112, _, _, _, _, _⟩) (v := ?_) rfl (by kernel_rfl) (by kernel_rfl) (by kernel_rfl) (fun _ _ _ h => h) (Or.inl ⟨by rfl, ?_⟩) hHeld ?_
              rotate_left
              · intro w hSw; (try dsimp only at hSw); go_simp; all_goals (with_reducible rfl)
              try simp only [Act.put, List.setIfInBounds_toArray, List.set_cons_zero, List.set_cons_succ]
              refine wpAnyH_take (i := 46) (oi := ⟨some 113, _, _, _, _, _⟩) (v := ?_) rfl (by kernel_rfl) (by kernel_rfl) (by kernel_rfl) (fun _ _ _ h => h) (Or.inl ⟨by rfl, ?_⟩) hHeld ?_
              rotate_left
              · intro w hSw; (try dsimp only at hSw); go_simp; all_goals (with_reducible rfl)
              try simp only [Act.put, List.setIfInBounds_toArray, List.set_cons_zero, List.set_cons_succ]
              refine wpAnyH_take (i := 47) (oi := ⟨some 114, _, _, _, _, _⟩) (v := ?_) rfl (by kernel_rfl) (by kernel_rfl) (by kernel_rfl) (fun _ _ _ h => h) (Or.inl ⟨by rfl, ?_⟩) hHeld ?_
              rotate_left
              · intro w hSw; (try dsimp only at hSw); go_simp; all_goals (with_reducible rfl)
              try simp only [Act.put, List.setIfInBounds_toArray, List.set_cons_zero, List.set_cons_succ]
              refine wpAnyH_take (i := 48) (oi := ⟨some 115, _, _, _, _, _⟩) (v := ?_) rfl (by kernel_rfl) (by kernel_rfl) (by kernel_rfl) (fun _ _ _ h => h) (Or.inl ⟨by rfl, ?_⟩) hHeld ?_
              rotate_left
              · intro w hSw; (try dsimp only at hSw); go_simp; all_goals (with_reducible rfl)
              try simp only [Act.put, List.setIfInBounds_toArray, List.set_cons_zero, List.set_cons_succ]
              refine wpAnyH_take (i := 49) (oi := ⟨some 116, _, _, _, _, _⟩) (v := ?_) rfl (by kernel_rfl) (by kernel_rfl) (by kernel_rfl) (fun _ _ _ h => h) (Or.inl ⟨by rfl, ?_⟩) hHeld ?_
              rotate_left
              · intro w hSw; (try dsimp only at hSw); go_simp; all_goals (with_reducible rfl)
              try simp only [Act.put, List.setIfInBounds_toArray, List.set_cons_zero, List.set_cons_succ]
              refine wpAnyH_take (i := 50) (oi := ⟨some 117, _, _, _, _, _⟩) (v := ?_) rfl (by kernel_rfl) (by kernel_rfl) (by kernel_rfl) (fun _ _ _ h => h) (Or.inl ⟨by rfl, ?_⟩) hHeld ?_
              rotate_left
              · intro w hSw; (try dsimp only at hSw); go_simp; all_goals (with_reducible rfl)
              try simp only [Act.put, List.setIfInBounds_toArray, List.set_cons_zero, List.set_cons_succ]
              refine wpAnyH_take (i := 51) (oi := ⟨some 118, _, _, _, _, _⟩) (v := ?_) rfl (by kernel_rfl) (by kernel_rfl) (by kernel_rfl) (fun _ _ _ h => h) (Or.inl ⟨by rfl, ?_⟩) hHeld ?_
              rotate_left
              · intro w hSw; (try dsimp only at hSw); go_simp; all_goals (with_reducible rfl)
              try simp only [Act.put, List.setIfInBounds_toArray, List.set_cons_zero, List.set_cons_succ]
              refine wpAnyH_done (by kernel_rfl) ?_ _
              refine NoPanic.normal ?_
              clear m0 m1 m2 m3 pl0 pl1 pl2 pl3 pl4 pl5 pl6 pl7 nb0
              go_wp2_with fail
              go_roundw
              case rel => exact ⟨1, by go_num, by omega, HBK2.out⟩
              case measure => simp [intOf]
            · have q1 : (m.K == 3) = true := by simp [hK]
              have q2 : (m.K != 3) = false := by simp [hK]
              have q4 : (m.B != n'.b + 1) = false := by simp [hBb]
              clear hK hBb
              go_upto_region 17 with fail
              refine wp_region_noPanic ?_
              refine wp_region_held_drew (S := (fun wx => Below w5a.heap.size w5a wx)) (by kernel_rfl) ?_ (fun hHeld => ?_)
              · exact (below_trans HBK.out (below_drewN wk 1))
              refine wpAnyH_take (i := 0) (oi := ⟨some 67, _, _, _, _, _⟩) (v := ?_) rfl (by kernel_rfl) (by kernel_rfl) (by kernel_rfl) (fun _ _ _ h => h) (Or.inl ⟨by rfl, ?_⟩) hHeld ?_
              rotate_left
              · intro w hSw; (try dsimp only at hSw); go_simp; all_goals (with_reducible rfl)
              try simp only [Act.put, List.setIfInBounds_toArray, List.set_cons_zero, List.set_cons_succ]
              refine wpAnyH_take (i := 1) (oi := ⟨some 68, _, _, _, _, _⟩) (v := ?_) rfl (by kernel_rfl) (by kernel_rfl) (by kernel_rfl) (fun _ _ _ h => h) (Or.inl ⟨by rfl, ?_⟩) hHeld ?_
              rotate_left
              · intro w hSw; (try dsimp only at hSw); go_simp; all_goals (with_reducible rfl)
              try simp only [Act.put, List.setIfInBounds_toArray, List.set_cons_zero, List.set_cons_succ]
              refine wpAnyH_take (i := 2) (oi := ⟨some 69, _, _, _, _, _⟩) (v := ?_) rfl (by kernel_rfl) (by kernel_rfl) (by kernel_rfl) (fun _ _ _ h => h) (Or.inl ⟨by rfl, ?_⟩) hHeld ?_
              rotate_left
              · intro w hSw; (try dsimp only at hSw); go_simp; all_goals (with_reducible rfl)
              try simp only [Act.put, List.setIfInBounds_toArray, List.set_cons_zero, List.set_cons_succ]
              refine wpAnyH_take (i := 3) (oi := ⟨some 70, _, _, _, _, _⟩) (v := ?_) rfl (by kernel_rfl) (by kernel_rfl) (by kernel_rfl) (fun _ _ _ h => h) (Or.inl ⟨by rfl, ?_⟩) hHeld ?_
              rotate_left
              · intro w hSw; (try dsimp only at hSw); go_simp; all_goals (with_reducible rfl)
              try simp only [Act.put, List.setIfInBounds_toArray, List.set_cons_zero, List.set_cons_succ]
              refine wpAnyH_take (i := 4) (oi := ⟨some 71, _, _, _, _, _⟩) (v := ?_) rfl (by kernel_rfl) (by kernel_rfl) (by kernel_rfl) (fun _ _ _ h => h) (Or.inl ⟨by rfl, ?_⟩) hHeld ?_
              rotate_left
              · intro w hSw; (try dsimp only at hSw); go_simp; all_goals (with_reducible rfl)
              try simp only [Act.put, List.setIfInBounds_toArray, List.set_cons_zero, List.set_cons_succ]
              refine wpAnyH_take (i := 5) (oi := ⟨some 72, _, _, _, _, _⟩) (v := ?_) rfl (by kernel_rfl) (by kernel_rfl) (by kernel_rfl) (fun _ _ _ h => h) (Or.inl ⟨by rfl, ?_⟩) hHeld ?_
              rotate_left
              · intro w hSw; (try dsimp only at hSw); go_simp; all_goals (with_reducible rfl)
              try simp only [Act.put, List.setIfInBounds_toArray, List.set_cons_zero, List.set_cons_succ]
              refine wpAnyH_take (i := 6) (oi := ⟨some 73, _, _, _, _, _⟩) (v := ?_) rfl (by kernel_rfl) (by kernel_rfl) (by kernel_rfl) (fun _ _ _ h => h) (Or.inl ⟨by rfl, ?_⟩) hHeld ?_
              rotate_left
              · intro w hSw; (try dsimp only at hSw); go_simp; all_goals (with_reducible rfl)
              try simp only [Act.put, List.setIfInBounds_toArray, List.set_cons_zero, List.set_cons_succ]
              refine wpAnyH_take (i := 7) (oi := ⟨some 74, _, _, _, _, _⟩) (v := ?_) rfl (by kernel_rfl) (by kernel_rfl) (by kernel_rfl) (fun _ _ _ h => h) (Or.inl ⟨by rfl, ?_⟩) hHeld ?_
              rotate_left
              · intro w hSw; (try dsimp only at hSw); go_simp; all_goals (with_reducible rfl)
              try simp only [Act.put, List.setIfInBounds_toArray, List.set_cons_zero, List.set_cons_succ]
              refine wpAnyH_take (i := 8) (oi := ⟨some 75, _, _, _, _, _⟩) (v := ?_) rfl (by kernel_rfl) (by kernel_rfl) (by kernel_rfl) (fun _ _ _ h => h) (Or.inl ⟨by rfl, ?_⟩) hHeld ?_
              rotate_left
              · intro w hSw; (try dsimp only at hSw); go_simp; all_goals (with_reducible rfl)
              try simp only [Act.put, List.setIfInBounds_toArray, List.set_cons_zero, List.set_cons_succ]
              refine wpAnyH_take (i := 9) (oi := ⟨some 76, _, _, _, _, _⟩) (v := ?_) rfl (by kernel_rfl) (by kernel_rfl) (by kernel_rfl) (fun _ _ _ h => h) (Or.inl ⟨by rfl, ?_⟩) hHeld ?_
              rotate_left
              · intro w hSw; (try dsimp only at hSw); go_simp; all_goals (with_reducible rfl)
              try simp only [Act.put, List.setIfInBounds_toArray, List.set_cons_zero, List.set_cons_succ]
              refine wpAnyH_take (i := 10) (oi := ⟨some 77, _, _, _, _, _⟩) (v := ?_) rfl (by kernel_rfl) (by kernel_rfl) (by kernel_rfl) (fun _ _ _ h => h) (Or.inl ⟨by rfl, ?_⟩) hHeld ?_
              rotate_left
              · intro w hSw; (try dsimp only at hSw); go_simp; all_goals (with_reducible rfl)
              try simp only [Act.put, List.setIfInBounds_toArray, List.set_cons_zero, List.set_cons_succ]
              refine wpAnyH_take (i := 11) (oi := ⟨some 78, _, _, _, _, _⟩) (v := ?_) rfl (by kernel_rfl) (by kernel_rfl) (by kernel_rfl) (fun _ _ _ h => h) (Or.inl ⟨by rfl, ?_⟩) hHeld ?_
              rotate_left
              · intro w hSw; (try dsimp only at hSw); go_simp; all_goals (with_reducible rfl)
              try simp only [Act.put, List.setIfInBounds_toArray, List.set_cons_zero, List.set_cons_succ]
              refine wpAnyH_take (i := 12) (oi := ⟨some 79, _, _, _, _, _⟩) (v := ?_) rfl (by kernel_rfl) (by kernel_rfl) (by kernel_rfl) (fun _ _ _ h => h) (Or.inl ⟨by rfl, ?_⟩) hHeld ?_
              rotate_left
              · intro w hSw; (try dsimp only at hSw); go_simp; all_goals (with_reducible rfl)
              try simp only [Act.put, List.setIfInBounds_toArray, List.set_cons_zero, List.set_cons_succ]
              refine wpAnyH_ready (rs := [13]) (by kernel_rfl) (by simp) ?_
              refine AllReadyH.cons (o := ⟨some 80, _, _, _, _, _⟩) rfl (fun K hK => ?_) AllReadyH.nil
              go_simp
              refine (kind_walk (p := p) m.T (HO5.out.below hHeld)).mono ?_
              rw [HKD.out]
              rintro e wK ⟨rfl, hBK⟩
              have HBK2 : Hid (Below w5a.heap.size w5a wK) := below_trans hHeld hBK
              clear hBK
              refine hK.out _ _ ?_ (fun hHeld => ?_)
              · exact HBK2.out
              clear hK K
              try simp only [Act.put, List.setIfInBounds_toArray, List.set_cons_zero, List.set_cons_succ]
              refine wpAnyH_take (i := 14) (oi := ⟨some 81, _, _, _, _, _⟩) (v := ?_) rfl (by kernel_rfl) (by kernel_rfl) (by kernel_rfl) (fun _ _ _ h => h) (Or.inl ⟨by rfl, ?_⟩) hHeld ?_
              rotate_left
              · intro w hSw; (try dsimp only at hSw); go_simp; all_goals (with_reducible rfl)
              try simp only [Act.put, List.setIfInBounds_toArray, List.set_cons_zero, List.set_cons_succ]
              refine wpAnyH_take (i := 15) (oi := ⟨some 82, _, _, _, _, _⟩) (v := ?_) rfl (by kernel_rfl) (by kernel_rfl) (by kernel_rfl) (fun _ _ _ h => h) (Or.inl ⟨by rfl, ?_⟩) hHeld ?_
              rotate_left
              · intro w hSw; (try dsimp only at hSw); go_simp; all_goals (with_reducible rfl)
              try simp only [Act.put, List.setIfInBounds_toArray, List.set_cons_zero, List.set_cons_succ]
              refine wpAnyH_take (i := 16) (oi := ⟨some 83, _, _, _, _, _⟩) (v := ?_) rfl (by kernel_rfl) (by kernel_rfl) (by kernel_rfl) (fun _ _ _ h => h) (Or.inl ⟨by rfl, ?_⟩) hHeld ?_
              rotate_left
              · intro w hSw; (try dsimp only at hSw); go_simp; all_goals (with_reducible rfl)
              try simp only [Act.put, List.setIfInBounds_toArray, List.set_cons_zero, List.set_cons_succ]
              refine wpAnyH_take (i := 17) (oi := ⟨some 84, _, _, _, _, _⟩) (v := ?_) rfl (by kernel_rfl) (by kernel_rfl) (by kernel_rfl) (fun _ _ _ h => h) (Or.inl ⟨by rfl, ?_⟩) hHeld ?_
              rotate_left
              · intro w hSw; (try dsimp only at hSw); go_simp; all_goals (with_reducible rfl)
              try simp only [Act.put, List.setIfInBounds_toArray, List.set_cons_zero, List.set_cons_succ]
              refine wpAnyH_take (i := 18) (oi := ⟨some 85, _, _, _, _, _⟩) (v := ?_) rfl (by kernel_rfl) (by kernel_rfl) (by kernel_rfl) (fun _ _ _ h => h) (Or.inl ⟨by rfl, ?_⟩) hHeld ?_
              rotate_left
              · intro w hSw; (try dsimp only at hSw); go_simp; all_goals (with_reducible rfl)
              try simp only [Act.put, List.setIfInBounds_toArray, List.set_cons_zero, List.set_cons_succ]
              refine wpAnyH_take (i := 19) (oi := ⟨some 86, _, _, _, _, _⟩) (v := ?_) rfl (by kernel_rfl) (by kernel_rfl) (by kernel_rfl) (fun _ _ _ h => h) (Or.inl ⟨by rfl, ?_⟩) hHeld ?_
              rotate_left
              · intro w hSw; (try dsimp only at hSw); go_simp; all_goals (with_reducible rfl)
              try simp only [Act.put, List.setIfInBounds_toArray, List.set_cons_zero, List.set_cons_succ]
              refine wpAnyH_take (i := 20) (oi := ⟨some 87, _, _, _, _, _⟩) (v := ?_) rfl (by kernel_rfl) (by kernel_rfl) (by kernel_rfl) (fun _ _ _ h => h) (Or.inl ⟨by rfl, ?_⟩) hHeld ?_
              rotate_left
              · intro w hSw; (try dsimp only at hSw); go_simp; all_goals (with_reducible rfl)
              try simp only [Act.put, List.setIfInBounds_toArray, List.set_cons_zero, List.set_cons_succ]
              refine wpAnyH_take (i := 21) (oi := ⟨some 88, _, _, _, _, _⟩) (v := ?_) rfl (by kernel_rfl) (by kernel_rfl) (by kernel_rfl) (fun _ _ _ h => h) (Or.inl ⟨by rfl, ?_⟩) hHeld ?_
              rotate_left
              · intro w hSw; (try dsimp only at hSw); go_simp; all_goals (with_reducible rfl)
              try simp only [Act.put, List.setIfInBounds_toArray, List.set_cons_zero, List.set_cons_succ]
              refine wpAnyH_take (i := 22) (oi := ⟨some 89, _, _, _, _, _⟩) (v := ?_) rfl (by kernel_rfl) (by kernel_rfl) (by kernel_rfl) (fun _ _ _ h => h) (Or.inl ⟨by rfl, ?_⟩) hHeld ?_
              rotate_left
              · intro w hSw; (try dsimp only at hSw); go_simp; all_goals (with_reducible rfl)
              try simp only [Act.put, List.setIfInBounds_toArray, List.set_cons_zero, List.set_cons_succ]
              refine wpAnyH_take (i := 23) (oi := ⟨some 90, _, _, _, _, _⟩) (v := ?_) rfl (by kernel_rfl) (by kernel_rfl) (by kernel_rfl) (fun _ _ _ h => h) (Or.inl ⟨by rfl, ?_⟩) hHeld ?_
              rotate_left
              · intro w hSw; (try dsimp only at hSw); go_simp; all_goals (with_reducible rfl)
              try simp only [Act.put, List.setIfInBounds_toArray, List.set_cons_zero, List.set_cons_succ]
              refine wpAnyH_take (i := 24) (oi := ⟨some 91, _, _, _, _, _⟩) (v := ?_) rfl (by kernel_rfl) (by kernel_rfl) (by kernel_rfl) (fun _ _ _ h => h) (Or.inl ⟨by rfl, ?_⟩) hHeld ?_
              rotate_left
              · intro w hSw; (try dsimp only at hSw); go_simp; all_goals (with_reducible rfl)
              try simp only [Act.put, List.setIfInBounds_toArray, List.set_cons_zero, List.set_cons_succ]
              refine wpAnyH_take (i := 25) (oi := ⟨some 92, _, _, _, _, _⟩) (v := ?_) rfl (by kernel_rfl) (by kernel_rfl) (by kernel_rfl) (fun _ _ _ h => h) (Or.inl ⟨by rfl, ?_⟩) hHeld ?_
              rotate_left
              · intro w hSw; (try dsimp only at hSw); go_simp; all_goals (with_reducible rfl)
              try simp only [Act.put, List.setIfInBounds_toArray, List.set_cons_zero, List.set_cons_succ]
              refine wpAnyH_take (i := 26) (oi := ⟨some 93, _, _, _, _, _⟩) (v := ?_) rfl (by kernel_rfl) (by kernel_rfl) (by kernel_rfl) (fun _ _ _ h => h) (Or.inl ⟨by rfl, ?_⟩) hHeld ?_
              rotate_left
              · intro w hSw; (try dsimp only at hSw); go_simp; all_goals (with_reducible rfl)
              try simp only [Act.put, List.setIfInBounds_toArray, List.set_cons_zero, List.set_cons_succ]
              refine wpAnyH_take (i := 27) (oi := ⟨some 94, _, _, _, _, _⟩) (v := ?_) rfl (by kernel_rfl) (by kernel_rfl) (by kernel_rfl) (fun _ _ _ h => h) (Or.inl ⟨by rfl, ?_⟩) hHeld ?_
              rotate_left
              · intro w hSw; (try dsimp only at hSw); go_simp; all_goals (with_reducible rfl)
              try simp only [Act.put, List.setIfInBounds_toArray, List.set_cons_zero, List.set_cons_succ]
              refine wpAnyH_take (i := 28) (oi := ⟨some 95, _, _, _, _, _⟩) (v := ?_) rfl (by kernel_rfl) (by kernel_rfl) (by kernel_rfl) (fun _ _ _ h => h) (Or.inl ⟨by rfl, ?_⟩) hHeld ?_
              rotate_left
              · intro w hSw; (try dsimp only at hSw); go_simp; all_goals (with_reducible rfl)
              try simp only [Act.put, List.setIfInBounds_toArray, List.set_cons_zero, List.set_cons_succ]
              refine wpAnyH_take (i := 29) (oi := ⟨some 96, _, _, _, _, _⟩) (v := ?_) rfl (by kernel_rfl) (by kernel_rfl) (by kernel_rfl) (fun _ _ _ h => h) (Or.inl ⟨by rfl, ?_⟩) hHeld ?_
              rotate_left
              · intro w hSw; (try dsimp only at hSw); go_simp; all_goals (with_reducible rfl)
              try simp only [Act.put, List.setIfInBounds_toArray, List.set_cons_zero, List.set_cons_succ]
              refine wpAnyH_take (i := 30) (oi := ⟨some 97, _, _, _, _, _⟩) (v := ?_) rfl (by kernel_rfl) (by kernel_rfl) (by kernel_rfl) (fun _ _ _ h => h) (Or.inl ⟨by rfl, ?_⟩) hHeld ?_
              rotate_left
              · intro w hSw; (try dsimp only at hSw); go_simp; all_goals (with_reducible rfl)
              try simp only [Act.put, List.setIfInBounds_toArray, List.set_cons_zero, List.set_cons_succ]
              refine wpAnyH_take (i := 31) (oi := ⟨some 98, _, _, _, _, _⟩) (v := ?_) rfl (by kernel_rfl) (by kernel_rfl) (by kernel_rfl) (fun _ _ _ h => h) (Or.inl ⟨by rfl, ?_⟩) hHeld ?_
              rotate_left
              · intro w hSw; (try dsimp only at hSw); go_simp; all_goals (with_reducible rfl)
              try simp only [Act.put, List.setIfInBounds_toArray, List.set_cons_zero, List.set_cons_succ]
              refine wpAnyH_take (i := 32) (oi := ⟨some 99, _, _, _, _, _⟩) (v := ?_) rfl (by kernel_rfl) (by kernel_rfl) (by kernel_rfl) (fun _ _ _ h => h) (Or.inl ⟨by rfl, ?_⟩) hHeld ?_
              rotate_left
              · intro w hSw; (try dsimp only at hSw); go_simp; all_goals (with_reducible rfl)
              try simp only [Act.put, List.setIfInBounds_toArray, List.set_cons_zero, List.set_cons_succ]
              refine wpAnyH_take (i := 33) (oi := ⟨some 100, _, _, _, _, _⟩) (v := ?_) rfl (by kernel_rfl) (by kernel_rfl) (by kernel_rfl) (fun _ _ _ h => h) (Or.inl ⟨by rfl, ?_⟩) hHeld ?_
              rotate_left
              · intro w hSw; (try dsimp only at hSw); go_simp; all_goals (with_reducible rfl)
              try simp only [Act.put, List.setIfInBounds_toArray, List.set_cons_zero, List.set_cons_succ]
              refine wpAnyH_take (i := 34) (oi := ⟨some 101, _, _, _, _, _⟩) (v := ?_) rfl (by kernel_rfl) (by kernel_rfl) (by kernel_rfl) (fun _ _ _ h => h) (Or.inl ⟨by rfl, ?_⟩) hHeld ?_
              rotate_left
              · intro w hSw; (try dsimp only at hSw); go_simp; all_goals (with_reducible rfl)
              try simp only [Act.put, List.setIfInBounds_toArray, List.set_cons_zero, List.set_cons_succ]
              refine wpAnyH_take (i := 35) (oi := ⟨some 102, _, _, _, _, _⟩) (v := ?_) rfl (by kernel_rfl) (by kernel_rfl) (by kernel_rfl) (fun _ _ _ h => h) (Or.inl ⟨by rfl, ?_⟩) hHeld ?_
              rotate_left
              · intro w hSw; (try dsimp only at hSw); go_simp; all_goals (with_reducible rfl)
              try simp only [Act.put, List.setIfInBounds_toArray, List.set_cons_zero, List.set_cons_succ]
              refine wpAnyH_take (i := 36) (oi := ⟨some 103, _, _, _, _, _⟩) (v := ?_) rfl (by kernel_rfl) (by kernel_rfl) (by kernel_rfl) (fun _ _ _ h => h) (Or.inl ⟨by rfl, ?_⟩) hHeld ?_
              rotate_left
              · intro w hSw; (try dsimp only at hSw); go_simp; all_goals (with_reducible rfl)
              try simp only [Act.put, List.setIfInBounds_toArray, List.set_cons_zero, List.set_cons_succ]
              refine wpAnyH_take (i := 37) (oi := ⟨some 104, _, _, _, _, _⟩) (v := ?_) rfl (by kernel_rfl) (by kernel_rfl) (by kernel_rfl) (fun _ _ _ h => h) (Or.inl ⟨by rfl, ?_⟩) hHeld ?_
              rotate_left
              · intro w hSw; (try dsimp only at hSw); go_simp; all_goals (with_reducible rfl)
              try simp only [Act.put, List.setIfInBounds_toArray, List.set_cons_zero, List.set_cons_succ]
              refine wpAnyH_take (i := 38) (oi := ⟨some 105, _, _, _, _, _⟩) (v := ?_) rfl (by kernel_rfl) (by kernel_rfl) (by kernel_rfl) (fun _ _ _ h => h) (Or.inl ⟨by rfl, ?_⟩) hHeld ?_
              rotate_left
              · intro w hSw; (try dsimp only at hSw); go_simp; all_goals (with_reducible rfl)
              try simp only [Act.put, List.setIfInBounds_toArray, List.set_cons_zero, List.set_cons_succ]
              refine wpAnyH_take (i := 39) (oi := ⟨some 106, _, _, _, _, _⟩) (v := ?_) rfl (by kernel_rfl) (by kernel_rfl) (by kernel_rfl) (fun _ _ _ h => h) (Or.inl ⟨by rfl, ?_⟩) hHeld ?_
              rotate_left
              · intro w hSw; (try dsimp only at hSw); go_simp; all_goals (with_reducible rfl)
              try simp only [Act.put, List.setIfInBounds_toArray, List.set_cons_zero, List.set_cons_succ]
              refine wpAnyH_take (i := 40) (oi := ⟨some 107, _, _, _, _, _⟩) (v := ?_) rfl (by kernel_rfl) (by kernel_rfl) (by kernel_rfl) (fun _ _ _ h => h) (Or.inl ⟨by rfl, ?_⟩) hHeld ?_
              rotate_left
              · intro w hSw; (try dsimp only at hSw); go_simp; all_goals (with_reducible rfl)
              try simp only [Act.put, List.setIfInBounds_toArray, List.set_cons_zero, List.set_cons_succ]
              refine wpAnyH_take (i := 41) (oi := ⟨some 108, _, _, _, _, _⟩) (v := ?_) rfl (by kernel_rfl) (by kernel_rfl) (by kernel_rfl) (fun _ _ _ h => h) (Or.inl ⟨by rfl, ?_⟩) hHeld ?_
              rotate_left
              · intro w hSw; (try dsimp only at hSw); go_simp; all_goals (with_reducible rfl)
              try simp only [Act.put, List.setIfInBounds_toArray, List.set_cons_zero, List.set_cons_succ]
              refine wpAnyH_take (i := 42) (oi := ⟨some 109, _, _, _, _, _⟩) (v := ?_) rfl (by kernel_rfl) (by kernel_rfl) (by kernel_rfl) (fun _ _ _ h => h) (Or.inl ⟨by rfl, ?_⟩) hHeld ?_
              rotate_left
              · intro w hSw; (try dsimp only at hSw); go_simp; all_goals (with_reducible rfl)
              try simp only [Act.put, List.setIfInBounds_toArray, List.set_cons_zero, List.set_cons_succ]
              refine wpAnyH_take (i := 43) (oi := ⟨some 110, _, _, _, _, _⟩) (v := ?_) rfl (by kernel_rfl) (by kernel_rfl) (by kernel_rfl) (fun _ _ _ h => h) (Or.inl ⟨by rfl, ?_⟩) hHeld ?_
              rotate_left
              · intro w hSw; (try dsimp only at hSw); go_simp; all_goals (with_reducible rfl)
              try simp only [Act.put, List.setIfInBounds_toArray, List.set_cons_zero, List.set_cons_succ]
              refine wpAnyH_take (i := 44) (oi := ⟨some 111, _, _, _, _, _⟩) (v := undef) rfl (by kernel_rfl) (by kernel_rfl) (by kernel_rfl) (fun _ _ _ h => h) (Or.inr ⟨by rfl, rfl⟩) hHeld ?_
              try simp only [Act.put, List.setIfInBounds_toArray, List.set_cons_zero, List.set_cons_succ]
              refine wpAnyH_take (i := 45) (oi := ⟨some 112, _, _, _, _, _⟩) (v := undef) rfl (by kernel_rfl) (by kernel_rfl) (by kernel_rfl) (fun _ _ _ h => h) (Or.inr ⟨by rfl, rfl⟩) hHeld ?_
              try simp only [Act.put, List.setIfInBounds_toArray, List.set_cons_zero, List.set_cons_succ]
              refine wpAnyH_take (i := 46) (oi := ⟨some 113, _, _, _, _, _⟩) (v := undef) rfl (by kernel_rfl) (by kernel_rfl) (by kernel_rfl) (fun _ _ _ h => h) (Or.inr ⟨by rfl, rfl⟩) hHeld ?_
              try simp only [Act.put, List.setIfInBounds_toArray, List.set_cons_zero, List.set_cons_succ]
              refine wpAnyH_take (i := 47) (oi := ⟨some 114, _, _, _, _, _⟩) (v := undef) rfl (by kernel_rfl) (by kernel_rfl) (by kernel_rfl) (fun _ _ _ h => h) (Or.inr ⟨by rfl, rfl⟩) hHeld ?_
              try simp only [Act.put, List.setIfInBounds_toArray, List.set_cons_zero, List.set_cons_succ]
              refine wpAnyH_take (i := 48) (oi := ⟨some 115, _, _, _, _, _⟩) (v := undef) rfl (by kernel_rfl) (by kernel_rfl) (by kernel_rfl) (fun _ _ _ h => h) (Or.inr ⟨by rfl, rfl⟩) hHeld ?_
              try simp only [Act.put, List.setIfInBounds_toArray, List.set_cons_zero, List.set_cons_succ]
              refine wpAnyH_take (i := 49) (oi := ⟨some 116, _, _, _, _, _⟩) (v := undef) rfl (by kernel_rfl) (by kernel_rfl) (by kernel_rfl) (fun _ _ _ h => h) (Or.inr ⟨by rfl, rfl⟩) hHeld ?_
              try simp only [Act.put, List.setIfInBounds_toArray, List.set_cons_zero, List.set_cons_succ]
              refine wpAnyH_take (i := 50) (oi := ⟨some 117, _, _, _, _, _⟩) (v := ?_) rfl (by kernel_rfl) (by kernel_rfl) (by kernel_rfl) (fun _ _ _ h => h) (Or.inl ⟨by rfl, ?_⟩) hHeld ?_
              rotate_left
              · intro w hSw; (try dsimp only at hSw); go_simp; all_goals (with_reducible rfl)
              try simp only [Act.put, List.setIfInBounds_toArray, List.set_cons_zero, List.set_cons_succ]
              refine wpAnyH_take (i := 51) (oi := ⟨some 118, _, _, _, _, _⟩) (v := ?_) rfl (by kernel_rfl) (by kernel_rfl) (by kernel_rfl) (fun _ _ _ h => h) (Or.inl ⟨by rfl, ?_⟩) hHeld ?_
              rotate_left
              · intro w hSw; (try dsimp only at hSw); go_simp; all_goals (with_reducible rfl)
              try simp only [Act.put, List.setIfInBounds_toArray, List.set_cons_zero, List.set_cons_succ]
              refine wpAnyH_done (by kernel_rfl) ?_ _
              refine NoPanic.normal ?_
              clear m0 m1 m2 m3 pl0 pl1 pl2 pl3 pl4 pl5 pl6 pl7 nb0
              go_wp2_with fail
              go_roundw
              case rel => exact ⟨1, by go_num, by omega, HBK2.out⟩
              case measure => simp [intOf]
        as_aux_lemma =>
          have hkl : ¬ ((k : Int) < (n2 : Int)) := by omega
          have hkl2 : ¬ k < n2 := hk2
          have nb2 : wk.cell? ⟨N2, 2, none⟩ = some (.slice ca n'.c.length cc) := by rw [blk_cell (blk_below HN5.out HBK.out)]; rfl
          go_upto_region 20 with fail
          clear nb2 hkl hkl2 hk2 hkn
          go_wp2_with fail
          go_loopw [13, 14] (fun fv kv wx => ∃ (k : Nat) (fa : Option Addr) (fc : Nat) (F : List Int), kv = .int .i64 k ∧ fv = .slice fa F.length fc ∧ k ≤ nW ∧ Nv wx (.slice fa F.length fc) F ∧ Chn p c'.J.n.a (decide (k = 0)) (n'.b + 1 + k) F (c'.L.drop k) ∧ Below w5a.heap.size w5a wx) (fun _ kv _ => nW - (intOf kv).toNat)
          case atStart => exact ⟨0, _, _, n'.c, rfl, rfl, Nat.zero_le _, HNC5.out.below HBK.out, by rw [HNN.out]; simpa using HAI2.out.ch, HBK.out⟩
          case round =>
            obtain ⟨j, fa, fc, F, rfl, rfl, hjn, hnF, hchn, hBj⟩ := hrel
            obtain ⟨wi, hwi⟩ : ∃ wi, wi = wr := ⟨_, rfl⟩
            subst hwi
            have HBI : Hid (Below w5a.heap.size w5a wi) := hBj
            have HNF : Hid (Nv wi (.slice fa F.length fc) F) := hnF
            have HCHN : Hid (Chn p c'.J.n.a (decide (j = 0)) (n'.b + 1 + j) F (c'.L.drop j)) := hchn
            clear hBj hnF hchn
            by_cases hj2 : j < nW
            rotate_left
            · have hjl : ¬ ((j : Int) < (nW : Int)) := by omega
              have hjl2 : ¬ j < nW := hj2
              clear hj2
              go_wp2_with fail
              go_roundw
              case rel => exact ⟨i + 1, by go_num, by omega, by omega, ⟨⟨_, c', M', HAW2.out.below (below_trans HB25.out HBI.out), HAI2.out, HML2.out⟩⟩⟩
              case measure => simp [intOf]; omega
            have hjl : (j : Int) < (nW : Int) := by omega
            have hjW : j < W.length := by rw [← HNW.out]; exact hj2
            obtain ⟨gl, cpl, hvl, _, _, _, hgl⟩ := row_formY HRW.out (by omega)
            cases hvl
            obtain ⟨x, hx⟩ : ∃ x, x = W[j] := ⟨_, rfl⟩
            have hxm : x ∈ W := by rw [hx]; exact List.getElem_mem _
            have hcel : ∀ q u, q < 7 → (cellsY x)[q]? = some u → wi.cell? ⟨gl, j * 7 + q, none⟩ = some u := fun q u hq hu => cell_bel HBI.out hgl ((own_cellY (j := j * 7 + q) HRW.out (by rw [flatY_get W j q hjW hq, ← hx]; exact hu)).1)
            have hLj : j < c'.L.length := by rw [← HLN.out]; exact hj2
            have hLe : c'.L[j] = x.y := by rw [hx]; have := HYW.out; simp [← this]
            have hdr := drop_consY hLj
            rw [hLe] at hdr
            have hyok : x.y.ok := by rw [← hLe]; exact HAW2.out.yok _ (List.getElem_mem _)
            have htk : 0 ≤ x.y.t ∧ x.y.t < p.G := by rw [← hLe]; exact HAI2.out.tk _ (List.getElem_mem _)
            obtain ⟨y, fv, ev⟩ := x
            obtain ⟨hlf, hle⟩ := HLW.out _ hxm
            replace hlf : OwN w4a.heap.size w5a fv y.f := hlf
            replace hle : OwN w4a.heap.size w5a ev y.e := hle
            replace hyok : y.ok := hyok
            replace htk : 0 ≤ y.t ∧ y.t < p.G := htk
            replace hdr : c'.L.drop j = y :: c'.L.drop (j + 1) := hdr
            obtain ⟨ta, tc, rfl, _, _⟩ := own_formY hlf
            obtain ⟨ea, ec, rfl, _, _⟩ := own_formY hle
            have HNTF : Hid (Nv wi (.slice ta y.f.length tc) y.f) := (own_nv hlf (in64_of hyok.fm)).below HBI.out
            have HNTE : Hid (Nv wi (.slice ea y.e.length ec) y.e) := (own_nv hle (in64_of hyok.em)).below HBI.out
            have hch := HCHN.out
            rw [hdr] at hch
            obtain ⟨hyg, hyb, hyf, hdis⟩ := hch
            have HYF : Hid (y.f = F) := hyf
            have HDIS := hidH hdis
            have t0 : wi.cell? ⟨gl, j * 7, none⟩ = some (.int .i64 y.b) := hcel 0 _ (by omega) rfl
            have t1 : wi.cell? ⟨gl, j * 7 + 1, none⟩ = some (.int .i64 y.a) := hcel 1 _ (by omega) rfl
            have t2 : wi.cell? ⟨gl, j * 7 + 2, none⟩ = some (.int .i64 y.n) := hcel 2 _ (by omega) rfl
            have t3 : wi.cell? ⟨gl, j * 7 + 3, none⟩ = some (.int .i64 y.h) := hcel 3 _ (by omega) rfl
            have t4 : wi.cell? ⟨gl, j * 7 + 4, none⟩ = some (.int .i64 y.t) := hcel 4 _ (by omega) rfl
            have t5 : wi.cell? ⟨gl, j * 7 + 5, none⟩ = some (.slice ta y.f.length tc) := hcel 5 _ (by omega) rfl
            have t6 : wi.cell? ⟨gl, j * 7 + 6, none⟩ = some (.slice ea y.e.length ec) := hcel 6 _ (by omega) rfl
            obtain ⟨wj, hwj⟩ : ∃ wj, wj = wi.alloc (Obj.cells #[.int .i64 y.b, .int .i64 y.a, .int .i64 y.n, .int .i64 y.h, .int .i64 y.t, .slice ta y.f.length tc, .slice ea y.e.length ec] 56) := ⟨_, rfl⟩
            have HWJ : Hid (wj = wi.alloc (Obj.cells #[.int .i64 y.b, .int .i64 y.a, .int .i64 y.n, .int .i64 y.h, .int .i64 y.t, .slice ta y.f.length tc, .slice ea y.e.length ec] 56)) := hwj
            have hbij : Below wi.heap.size wi wj := by rw [hwj]; exact below_alloc _ _
            have HBIJ : Hid (Below wi.heap.size wi wj) := hbij
            have HB5J : Hid (Below w5a.heap.size w5a wj) := below_trans HBI.out hbij
            obtain ⟨TB, hTB⟩ : ∃ TB, TB = wi.heap.size := ⟨_, rfl⟩
            have HTBD : Hid (TB = wi.heap.size) := hTB
            have hTBb : wj.heap[TB]? = some (.cells #[.int .i64 y.b, .int .i64 y.a, .int .i64 y.n, .int .i64 y.h, .int .i64 y.t, .slice ta y.f.length tc, .slice ea y.e.length ec] 56 (0, 0)) := by rw [hwj, hTB]; exact alloc_at rfl
            have HTBB := hidH hTBb
            have HNJ := hidH (blk_below HN5.out HB5J.out)
            have HPJ := hidH (blk_below HPB5.out HB5J.out)
            have h1000 : (j : Int) ≤ 1000 := by have h1 := HAI2.out.wn; have h2 := HLN.out; have h3 := (Pn.is_num HIS.out).2.2.2.2.2.1.2; omega
            have hwk : IntKind.i64.wrap (n'.b + 1 + (j : Int)) = n'.b + 1 + j := by have := HAB.out; rw [IntKind.wrap_i64]; omega
            have qb : (y.b != n'.b + 1 + (j : Int)) = false := by simp [hyb]
            have HWK : Hid ((y.n != p.worker y.a) = false) := by show _ = _; rw [hyg.n, wk_same HIS.out]; simp
            have qa : decide (n'.a < y.a) = false := decide_eq_false (by have h1 := hyg.a2; rw [HNN.out]; omega)
            have qt : decide (y.t < 0) = false := decide_eq_false (by omega)
            have qg : decide (p.G ≤ y.t) = false := decide_eq_false (by omega)
            have HYA : Hid (y.a < 9223372036854775808) := by have h1 := hyg.a2; have h2 := HAB.out; rw [HNN.out] at h2; show _ < _; omega
            obtain ⟨wn, hwn⟩ : ∃ wn, wn = p.worker y.a := ⟨_, rfl⟩
            have HWN : Hid (wn = p.worker y.a) := hwn
            have qn : (y.n != wn) = false := by rw [hwn]; exact HWK.out
            have tb0 : ∀ wx, Below wj.heap.size wj wx → wx.cell? ⟨TB, 0, none⟩ = some (.int .i64 y.b) := fun wx hb => cell_bel hb (blk_lt HTBB.out) (by rw [blk_cell HTBB.out]; rfl)
            have tb1 : ∀ wx, Below wj.heap.size wj wx → wx.cell? ⟨TB, 1, none⟩ = some (.int .i64 y.a) := fun wx hb => cell_bel hb (blk_lt HTBB.out) (by rw [blk_cell HTBB.out]; rfl)
            have tb2 : ∀ wx, Below wj.heap.size wj wx → wx.cell? ⟨TB, 2, none⟩ = some (.int .i64 y.n) := fun wx hb => cell_bel hb (blk_lt HTBB.out) (by rw [blk_cell HTBB.out]; rfl)
            have tb3 : ∀ wx, Below wj.heap.size wj wx → wx.cell? ⟨TB, 3, none⟩ = some (.int .i64 y.h) := fun wx hb => cell_bel hb (blk_lt HTBB.out) (by rw [blk_cell HTBB.out]; rfl)
            have tb4 : ∀ wx, Below wj.heap.size wj wx → wx.cell? ⟨TB, 4, none⟩ = some (.int .i64 y.t) := fun wx hb => cell_bel hb (blk_lt HTBB.out) (by rw [blk_cell HTBB.out]; rfl)
            have tb5 : ∀ wx, Below wj.heap.size wj wx → wx.cell? ⟨TB, 5, none⟩ = some (.slice ta y.f.length tc) := fun wx hb => cell_bel hb (blk_lt HTBB.out) (by rw [blk_cell HTBB.out]; rfl)
            have tb6 : ∀ wx, Below wj.heap.size wj wx → wx.cell? ⟨TB, 6, none⟩ = some (.slice ea y.e.length ec) := fun wx hb => cell_bel hb (blk_lt HTBB.out) (by rw [blk_cell HTBB.out]; rfl)
            have pl0 : ∀ wx, Below wj.heap.size wj wx → wx.cell? ⟨PB, 0, none⟩ = some (.int .i64 p.P) := fun wx hb => cell_bel hb (blk_lt HPJ.out) (by rw [blk_cell HPJ.out]; rfl)
            have pl1 : ∀ wx, Below wj.heap.size wj wx → wx.cell? ⟨PB, 1, none⟩ = some (.int .i64 p.S) := fun wx hb => cell_bel hb (blk_lt HPJ.out) (by rw [blk_cell HPJ.out]; rfl)
            have pl2 : ∀ wx, Below wj.heap.size wj wx → wx.cell? ⟨PB, 2, none⟩ = some (.int .i64 p.W) := fun wx hb => cell_bel hb (blk_lt HPJ.out) (by rw [blk_cell HPJ.out]; rfl)
            have pl3 : ∀ wx, Below wj.heap.size wj wx → wx.cell? ⟨PB, 3, none⟩ = some (.slice oa p.l.length oc) := fun wx hb => cell_bel hb (blk_lt HPJ.out) (by rw [blk_cell HPJ.out]; rfl)
            have pl4 : ∀ wx, Below wj.heap.size wj wx → wx.cell? ⟨PB, 4, none⟩ = some (.int .i64 p.A) := fun wx hb => cell_bel hb (blk_lt HPJ.out) (by rw [blk_cell HPJ.out]; rfl)
            have pl5 : ∀ wx, Below wj.heap.size wj wx → wx.cell? ⟨PB, 5, none⟩ = some (.int .i64 p.B) := fun wx hb => cell_bel hb (blk_lt HPJ.out) (by rw [blk_cell HPJ.out]; rfl)
            have pl6 : ∀ wx, Below wj.heap.size wj wx → wx.cell? ⟨PB, 6, none⟩ = some (.int .i64 p.N) := fun wx hb => cell_bel hb (blk_lt HPJ.out) (by rw [blk_cell HPJ.out]; rfl)
            have pl7 : ∀ wx, Below wj.heap.size wj wx → wx.cell? ⟨PB, 7, none⟩ = some (.int .i64 p.G) := fun wx hb => cell_bel hb (blk_lt HPJ.out) (by rw [blk_cell HPJ.out]; rfl)
            have nb0 : ∀ wx, Below wj.heap.size wj wx → wx.cell? ⟨N2, 0, none⟩ = some (.int .i64 n'.b) := fun wx hb => cell_bel hb (blk_lt HNJ.out) (by rw [blk_cell HNJ.out]; rfl)
            have nb3 : ∀ wx, Below wj.heap.size wj wx → wx.cell? ⟨N2, 3, none⟩ = some (.int .i64 n'.a) := fun wx hb => cell_bel hb (blk_lt HNJ.out) (by rw [blk_cell HNJ.out]; rfl)
            clear hx hxm hcel hLe hdr hyok htk hlf hle hyf hyb hyg hdis hwj hbij hTB hTBb hwn hjW hgl hjn
            go_upto_region 24 with fail
            rw [← HWJ.out, ← HTBD.out]
            clear t0 t1 t2 t3 t4 t5 t6
            refine wp_region_noPanic ?_
            refine wp_region_held_drew (S := (fun wx => Below wj.heap.size wj wx)) (by kernel_rfl) ?_ (fun hHeld => ?_)
            · exact (below_drewN wj 1)
            refine wpAnyH_take (i := 0) (oi := ⟨some 132, _, _, _, _, _⟩) (v := ?_) rfl (by kernel_rfl) (by kernel_rfl) (by kernel_rfl) (fun _ _ _ h => h) (Or.inl ⟨by rfl, ?_⟩) hHeld ?_
            rotate_left
            · intro w hSw; (try dsimp only at hSw); go_simp; all_goals (with_reducible rfl)
            try simp only [Act.put, List.setIfInBounds_toArray, List.set_cons_zero, List.set_cons_succ]
            refine wpAnyH_take (i := 1) (oi := ⟨some 133, _, _, _, _, _⟩) (v := ?_) rfl (by kernel_rfl) (by kernel_rfl) (by kernel_rfl) (fun _ _ _ h => h) (Or.inl ⟨by rfl, ?_⟩) hHeld ?_
            rotate_left
            · intro w hSw; (try dsimp only at hSw); go_simp; all_goals (with_reducible rfl)
            try simp only [Act.put, List.setIfInBounds_toArray, List.set_cons_zero, List.set_cons_succ]
            refine wpAnyH_take (i := 2) (oi := ⟨some 134, _, _, _, _, _⟩) (v := ?_) rfl (by kernel_rfl) (by kernel_rfl) (by kernel_rfl) (fun _ _ _ h => h) (Or.inl ⟨by rfl, ?_⟩) hHeld ?_
            rotate_left
            · intro w hSw; (try dsimp only at hSw); go_simp; all_goals (with_reducible rfl)
            try simp only [Act.put, List.setIfInBounds_toArray, List.set_cons_zero, List.set_cons_succ]
            refine wpAnyH_take (i := 3) (oi := ⟨some 135, _, _, _, _, _⟩) (v := ?_) rfl (by kernel_rfl) (by kernel_rfl) (by kernel_rfl) (fun _ _ _ h => h) (Or.inl ⟨by rfl, ?_⟩) hHeld ?_
            rotate_left
            · intro w hSw; (try dsimp only at hSw); go_simp; all_goals (with_reducible rfl)
            try simp only [Act.put, List.setIfInBounds_toArray, List.set_cons_zero, List.set_cons_succ]
            refine wpAnyH_take (i := 4) (oi := ⟨some 136, _, _, _, _, _⟩) (v := ?_) rfl (by kernel_rfl) (by kernel_rfl) (by kernel_rfl) (fun _ _ _ h => h) (Or.inl ⟨by rfl, ?_⟩) hHeld ?_
            rotate_left
            · intro w hSw; (try dsimp only at hSw); go_simp; all_goals (with_reducible rfl)
            try simp only [Act.put, List.setIfInBounds_toArray, List.set_cons_zero, List.set_cons_succ]
            refine wpAnyH_take (i := 5) (oi := ⟨some 137, _, _, _, _, _⟩) (v := ?_) rfl (by kernel_rfl) (by kernel_rfl) (by kernel_rfl) (fun _ _ _ h => h) (Or.inl ⟨by rfl, ?_⟩) hHeld ?_
            rotate_left
            · intro w hSw; (try dsimp only at hSw); go_simp; all_goals (with_reducible rfl)
            try simp only [Act.put, List.setIfInBounds_toArray, List.set_cons_zero, List.set_cons_succ]
            refine wpAnyH_take (i := 6) (oi := ⟨some 138, _, _, _, _, _⟩) (v := ?_) rfl (by kernel_rfl) (by kernel_rfl) (by kernel_rfl) (fun _ _ _ h => h) (Or.inl ⟨by rfl, ?_⟩) hHeld ?_
            rotate_left
            · intro w hSw; (try dsimp only at hSw); go_simp; all_goals (with_reducible rfl)
            try simp only [Act.put, List.setIfInBounds_toArray, List.set_cons_zero, List.set_cons_succ]
            refine wpAnyH_take (i := 7) (oi := ⟨some 139, _, _, _, _, _⟩) (v := ?_) rfl (by kernel_rfl) (by kernel_rfl) (by kernel_rfl) (fun _ _ _ h => h) (Or.inl ⟨by rfl, ?_⟩) hHeld ?_
            rotate_left
            · intro w hSw; (try dsimp only at hSw); go_simp; all_goals (with_reducible rfl)
            try simp only [Act.put, List.setIfInBounds_toArray, List.set_cons_zero, List.set_cons_succ]
            refine wpAnyH_take (i := 8) (oi := ⟨some 140, _, _, _, _, _⟩) (v := ?_) rfl (by kernel_rfl) (by kernel_rfl) (by kernel_rfl) (fun _ _ _ h => h) (Or.inl ⟨by rfl, ?_⟩) hHeld ?_
            rotate_left
            · intro w hSw; (try dsimp only at hSw); go_simp; all_goals (with_reducible rfl)
            try simp only [Act.put, List.setIfInBounds_toArray, List.set_cons_zero, List.set_cons_succ]
            refine wpAnyH_take (i := 9) (oi := ⟨some 141, _, _, _, _, _⟩) (v := ?_) rfl (by kernel_rfl) (by kernel_rfl) (by kernel_rfl) (fun _ _ _ h => h) (Or.inl ⟨by rfl, ?_⟩) hHeld ?_
            rotate_left
            · intro w hSw; (try dsimp only at hSw); go_simp; all_goals (with_reducible rfl)
            try simp only [Act.put, List.setIfInBounds_toArray, List.set_cons_zero, List.set_cons_succ]
            refine wpAnyH_take (i := 10) (oi := ⟨some 142, _, _, _, _, _⟩) (v := ?_) rfl (by kernel_rfl) (by kernel_rfl) (by kernel_rfl) (fun _ _ _ h => h) (Or.inl ⟨by rfl, ?_⟩) hHeld ?_
            rotate_left
            · intro w hSw; (try dsimp only at hSw); go_simp; all_goals (with_reducible rfl)
            try simp only [Act.put, List.setIfInBounds_toArray, List.set_cons_zero, List.set_cons_succ]
            refine wpAnyH_take (i := 11) (oi := ⟨some 143, _, _, _, _, _⟩) (v := ?_) rfl (by kernel_rfl) (by kernel_rfl) (by kernel_rfl) (fun _ _ _ h => h) (Or.inl ⟨by rfl, ?_⟩) hHeld ?_
            rotate_left
            · intro w hSw; (try dsimp only at hSw); go_simp; all_goals (with_reducible rfl)
            try simp only [Act.put, List.setIfInBounds_toArray, List.set_cons_zero, List.set_cons_succ]
            refine wpAnyH_take (i := 12) (oi := ⟨some 144, _, _, _, _, _⟩) (v := ?_) rfl (by kernel_rfl) (by kernel_rfl) (by kernel_rfl) (fun _ _ _ h => h) (Or.inl ⟨by rfl, ?_⟩) hHeld ?_
            rotate_left
            · intro w hSw; (try dsimp only at hSw); go_simp; all_goals (with_reducible rfl)
            try simp only [Act.put, List.setIfInBounds_toArray, List.set_cons_zero, List.set_cons_succ]
            refine wpAnyH_ready (rs := [13]) (by kernel_rfl) (by simp) ?_
            refine AllReadyH.cons (o := ⟨some 145, _, _, _, _, _⟩) rfl (fun K hK => ?_) AllReadyH.nil
            go_simp
            refine (ints19_walk (HNTF.out.below (below_trans HBIJ.out hHeld)) (HNF.out.below (below_trans HBIJ.out hHeld))).mono ?_
            rw [decide_eq_true HYF.out]
            rintro e wA ⟨rfl, hBA⟩
            have HBA : Hid (Below wj.heap.size wj wA) := below_trans hHeld hBA
            clear hBA
            refine hK.out _ _ ?_ (fun hHeld => ?_)
            · exact HBA.out
            clear hK K
            try simp only [Act.put, List.setIfInBounds_toArray, List.set_cons_zero, List.set_cons_succ]
            refine wpAnyH_take (i := 14) (oi := ⟨some 146, _, _, _, _, _⟩) (v := ?_) rfl (by kernel_rfl) (by kernel_rfl) (by kernel_rfl) (fun _ _ _ h => h) (Or.inl ⟨by rfl, ?_⟩) hHeld ?_
            rotate_left
            · intro w hSw; (try dsimp only at hSw); go_simp; all_goals (with_reducible rfl)
            try simp only [Act.put, List.setIfInBounds_toArray, List.set_cons_zero, List.set_cons_succ]
            refine wpAnyH_take (i := 15) (oi := ⟨some 147, _, _, _, _, _⟩) (v := ?_) rfl (by kernel_rfl) (by kernel_rfl) (by kernel_rfl) (fun _ _ _ h => h) (Or.inl ⟨by rfl, ?_⟩) hHeld ?_
            rotate_left
            · intro w hSw; (try dsimp only at hSw); go_simp; all_goals (with_reducible rfl)
            try simp only [Act.put, List.setIfInBounds_toArray, List.set_cons_zero, List.set_cons_succ]
            refine wpAnyH_take (i := 16) (oi := ⟨some 148, _, _, _, _, _⟩) (v := ?_) rfl (by kernel_rfl) (by kernel_rfl) (by kernel_rfl) (fun _ _ _ h => h) (Or.inl ⟨by rfl, ?_⟩) hHeld ?_
            rotate_left
            · intro w hSw; (try dsimp only at hSw); go_simp; all_goals (with_reducible rfl)
            try simp only [Act.put, List.setIfInBounds_toArray, List.set_cons_zero, List.set_cons_succ]
            refine wpAnyH_take (i := 17) (oi := ⟨some 149, _, _, _, _, _⟩) (v := ?_) rfl (by kernel_rfl) (by kernel_rfl) (by kernel_rfl) (fun _ _ _ h => h) (Or.inl ⟨by rfl, ?_⟩) hHeld ?_
            rotate_left
            · intro w hSw; (try dsimp only at hSw); go_simp; all_goals (with_reducible rfl)
            try simp only [Act.put, List.setIfInBounds_toArray, List.set_cons_zero, List.set_cons_succ]
            refine wpAnyH_take (i := 18) (oi := ⟨some 150, _, _, _, _, _⟩) (v := ?_) rfl (by kernel_rfl) (by kernel_rfl) (by kernel_rfl) (fun _ _ _ h => h) (Or.inl ⟨by rfl, ?_⟩) hHeld ?_
            rotate_left
            · intro w hSw; (try dsimp only at hSw); go_simp; all_goals (with_reducible rfl)
            try simp only [Act.put, List.setIfInBounds_toArray, List.set_cons_zero, List.set_cons_succ]
            refine wpAnyH_take (i := 19) (oi := ⟨some 151, _, _, _, _, _⟩) (v := ?_) rfl (by kernel_rfl) (by kernel_rfl) (by kernel_rfl) (fun _ _ _ h => h) (Or.inl ⟨by rfl, ?_⟩) hHeld ?_
            rotate_left
            · intro w hSw; (try dsimp only at hSw); go_simp; all_goals (with_reducible rfl)
            try simp only [Act.put, List.setIfInBounds_toArray, List.set_cons_zero, List.set_cons_succ]
            refine wpAnyH_take (i := 20) (oi := ⟨some 152, _, _, _, _, _⟩) (v := ?_) rfl (by kernel_rfl) (by kernel_rfl) (by kernel_rfl) (fun _ _ _ h => h) (Or.inl ⟨by rfl, ?_⟩) hHeld ?_
            rotate_left
            · intro w hSw; (try dsimp only at hSw); go_simp; all_goals (with_reducible rfl)
            try simp only [Act.put, List.setIfInBounds_toArray, List.set_cons_zero, List.set_cons_succ]
            refine wpAnyH_take (i := 21) (oi := ⟨some 153, _, _, _, _, _⟩) (v := ?_) rfl (by kernel_rfl) (by kernel_rfl) (by kernel_rfl) (fun _ _ _ h => h) (Or.inl ⟨by rfl, ?_⟩) hHeld ?_
            rotate_left
            · intro w hSw; (try dsimp only at hSw); go_simp; all_goals (with_reducible rfl)
            try simp only [Act.put, List.setIfInBounds_toArray, List.set_cons_zero, List.set_cons_succ]
            refine wpAnyH_ready (rs := [22]) (by kernel_rfl) (by simp) ?_
            refine AllReadyH.cons (o := ⟨some 154, _, _, _, _, _⟩) rfl (fun K hK => ?_) AllReadyH.nil
            go_simp
            refine (worker_walk (p := p) y.a HYA.out (HO5.out.below (below_trans HB5J.out hHeld))).mono ?_
            rw [← HWN.out]
            rintro e wB ⟨rfl, hBB⟩
            have HBB : Hid (Below wj.heap.size wj wB) := below_trans hHeld hBB
            clear hBB
            refine hK.out _ _ ?_ (fun hHeld => ?_)
            · exact HBB.out
            clear hK K
            try simp only [Act.put, List.setIfInBounds_toArray, List.set_cons_zero, List.set_cons_succ]
            refine wpAnyH_take (i := 23) (oi := ⟨some 155, _, _, _, _, _⟩) (v := ?_) rfl (by kernel_rfl) (by kernel_rfl) (by kernel_rfl) (fun _ _ _ h => h) (Or.inl ⟨by rfl, ?_⟩) hHeld ?_
            rotate_left
            · intro w hSw; (try dsimp only at hSw); go_simp; all_goals (with_reducible rfl)
            try simp only [Act.put, List.setIfInBounds_toArray, List.set_cons_zero, List.set_cons_succ]
            refine wpAnyH_take (i := 24) (oi := ⟨some 156, _, _, _, _, _⟩) (v := ?_) rfl (by kernel_rfl) (by kernel_rfl) (by kernel_rfl) (fun _ _ _ h => h) (Or.inl ⟨by rfl, ?_⟩) hHeld ?_
            rotate_left
            · intro w hSw; (try dsimp only at hSw); go_simp; all_goals (with_reducible rfl)
            try simp only [Act.put, List.setIfInBounds_toArray, List.set_cons_zero, List.set_cons_succ]
            refine wpAnyH_take (i := 25) (oi := ⟨some 157, _, _, _, _, _⟩) (v := ?_) rfl (by kernel_rfl) (by kernel_rfl) (by kernel_rfl) (fun _ _ _ h => h) (Or.inl ⟨by rfl, ?_⟩) hHeld ?_
            rotate_left
            · intro w hSw; (try dsimp only at hSw); go_simp; all_goals (with_reducible rfl)
            try simp only [Act.put, List.setIfInBounds_toArray, List.set_cons_zero, List.set_cons_succ]
            refine wpAnyH_take (i := 26) (oi := ⟨some 158, _, _, _, _, _⟩) (v := ?_) rfl (by kernel_rfl) (by kernel_rfl) (by kernel_rfl) (fun _ _ _ h => h) (Or.inl ⟨by rfl, ?_⟩) hHeld ?_
            rotate_left
            · intro w hSw; (try dsimp only at hSw); go_simp; all_goals (with_reducible rfl)
            try simp only [Act.put, List.setIfInBounds_toArray, List.set_cons_zero, List.set_cons_succ]
            refine wpAnyH_take (i := 27) (oi := ⟨some 159, _, _, _, _, _⟩) (v := ?_) rfl (by kernel_rfl) (by kernel_rfl) (by kernel_rfl) (fun _ _ _ h => h) (Or.inl ⟨by rfl, ?_⟩) hHeld ?_
            rotate_left
            · intro w hSw; (try dsimp only at hSw); go_simp; all_goals (with_reducible rfl)
            try simp only [Act.put, List.setIfInBounds_toArray, List.set_cons_zero, List.set_cons_succ]
            refine wpAnyH_take (i := 28) (oi := ⟨some 160, _, _, _, _, _⟩) (v := ?_) rfl (by kernel_rfl) (by kernel_rfl) (by kernel_rfl) (fun _ _ _ h => h) (Or.inl ⟨by rfl, ?_⟩) hHeld ?_
            rotate_left
            · intro w hSw; (try dsimp only at hSw); go_simp; all_goals (with_reducible rfl)
            try simp only [Act.put, List.setIfInBounds_toArray, List.set_cons_zero, List.set_cons_succ]
            refine wpAnyH_take (i := 29) (oi := ⟨some 161, _, _, _, _, _⟩) (v := ?_) rfl (by kernel_rfl) (by kernel_rfl) (by kernel_rfl) (fun _ _ _ h => h) (Or.inl ⟨by rfl, ?_⟩) hHeld ?_
            rotate_left
            · intro w hSw; (try dsimp only at hSw); go_simp; all_goals (with_reducible rfl)
            try simp only [Act.put, List.setIfInBounds_toArray, List.set_cons_zero, List.set_cons_succ]
            refine wpAnyH_take (i := 30) (oi := ⟨some 162, _, _, _, _, _⟩) (v := ?_) rfl (by kernel_rfl) (by kernel_rfl) (by kernel_rfl) (fun _ _ _ h => h) (Or.inl ⟨by rfl, ?_⟩) hHeld ?_
            rotate_left
            · intro w hSw; (try dsimp only at hSw); go_simp; all_goals (with_reducible rfl)
            try simp only [Act.put, List.setIfInBounds_toArray, List.set_cons_zero, List.set_cons_succ]
            refine wpAnyH_take (i := 31) (oi := ⟨some 163, _, _, _, _, _⟩) (v := ?_) rfl (by kernel_rfl) (by kernel_rfl) (by kernel_rfl) (fun _ _ _ h => h) (Or.inl ⟨by rfl, ?_⟩) hHeld ?_
            rotate_left
            · intro w hSw; (try dsimp only at hSw); go_simp; all_goals (with_reducible rfl)
            try simp only [Act.put, List.setIfInBounds_toArray, List.set_cons_zero, List.set_cons_succ]
            refine wpAnyH_take (i := 32) (oi := ⟨some 164, _, _, _, _, _⟩) (v := ?_) rfl (by kernel_rfl) (by kernel_rfl) (by kernel_rfl) (fun _ _ _ h => h) (Or.inl ⟨by rfl, ?_⟩) hHeld ?_
            rotate_left
            · intro w hSw; (try dsimp only at hSw); go_simp; all_goals (with_reducible rfl)
            try simp only [Act.put, List.setIfInBounds_toArray, List.set_cons_zero, List.set_cons_succ]
            refine wpAnyH_take (i := 33) (oi := ⟨some 165, _, _, _, _, _⟩) (v := ?_) rfl (by kernel_rfl) (by kernel_rfl) (by kernel_rfl) (fun _ _ _ h => h) (Or.inl ⟨by rfl, ?_⟩) hHeld ?_
            rotate_left
            · intro w hSw; (try dsimp only at hSw); go_simp; all_goals (with_reducible rfl)
            try simp only [Act.put, List.setIfInBounds_toArray, List.set_cons_zero, List.set_cons_succ]
            refine wpAnyH_take (i := 34) (oi := ⟨some 166, _, _, _, _, _⟩) (v := ?_) rfl (by kernel_rfl) (by kernel_rfl) (by kernel_rfl) (fun _ _ _ h => h) (Or.inl ⟨by rfl, ?_⟩) hHeld ?_
            rotate_left
            · intro w hSw; (try dsimp only at hSw); go_simp; all_goals (with_reducible rfl)
            try simp only [Act.put, List.setIfInBounds_toArray, List.set_cons_zero, List.set_cons_succ]
            refine wpAnyH_take (i := 35) (oi := ⟨some 167, _, _, _, _, _⟩) (v := ?_) rfl (by kernel_rfl) (by kernel_rfl) (by kernel_rfl) (fun _ _ _ h => h) (Or.inl ⟨by rfl, ?_⟩) hHeld ?_
            rotate_left
            · intro w hSw; (try dsimp only at hSw); go_simp; all_goals (with_reducible rfl)
            try simp only [Act.put, List.setIfInBounds_toArray, List.set_cons_zero, List.set_cons_succ]
            refine wpAnyH_take (i := 36) (oi := ⟨some 168, _, _, _, _, _⟩) (v := ?_) rfl (by kernel_rfl) (by kernel_rfl) (by kernel_rfl) (fun _ _ _ h => h) (Or.inl ⟨by rfl, ?_⟩) hHeld ?_
            rotate_left
            · intro w hSw; (try dsimp only at hSw); go_simp; all_goals (with_reducible rfl)
            try simp only [Act.put, List.setIfInBounds_toArray, List.set_cons_zero, List.set_cons_succ]
            refine wpAnyH_take (i := 37) (oi := ⟨some 169, _, _, _, _, _⟩) (v := ?_) rfl (by kernel_rfl) (by kernel_rfl) (by kernel_rfl) (fun _ _ _ h => h) (Or.inl ⟨by rfl, ?_⟩) hHeld ?_
            rotate_left
            · intro w hSw; (try dsimp only at hSw); go_simp; all_goals (with_reducible rfl)
            try simp only [Act.put, List.setIfInBounds_toArray, List.set_cons_zero, List.set_cons_succ]
            refine wpAnyH_take (i := 38) (oi := ⟨some 170, _, _, _, _, _⟩) (v := ?_) rfl (by kernel_rfl) (by kernel_rfl) (by kernel_rfl) (fun _ _ _ h => h) (Or.inl ⟨by rfl, ?_⟩) hHeld ?_
            rotate_left
            · intro w hSw; (try dsimp only at hSw); go_simp; all_goals (with_reducible rfl)
            try simp only [Act.put, List.setIfInBounds_toArray, List.set_cons_zero, List.set_cons_succ]
            refine wpAnyH_take (i := 39) (oi := ⟨some 171, _, _, _, _, _⟩) (v := ?_) rfl (by kernel_rfl) (by kernel_rfl) (by kernel_rfl) (fun _ _ _ h => h) (Or.inl ⟨by rfl, ?_⟩) hHeld ?_
            rotate_left
            · intro w hSw; (try dsimp only at hSw); go_simp; all_goals (with_reducible rfl)
            try simp only [Act.put, List.setIfInBounds_toArray, List.set_cons_zero, List.set_cons_succ]
            refine wpAnyH_take (i := 40) (oi := ⟨some 172, _, _, _, _, _⟩) (v := ?_) rfl (by kernel_rfl) (by kernel_rfl) (by kernel_rfl) (fun _ _ _ h => h) (Or.inl ⟨by rfl, ?_⟩) hHeld ?_
            rotate_left
            · intro w hSw; (try dsimp only at hSw); go_simp; all_goals (with_reducible rfl)
            try simp only [Act.put, List.setIfInBounds_toArray, List.set_cons_zero, List.set_cons_succ]
            refine wpAnyH_take (i := 41) (oi := ⟨some 173, _, _, _, _, _⟩) (v := ?_) rfl (by kernel_rfl) (by kernel_rfl) (by kernel_rfl) (fun _ _ _ h => h) (Or.inl ⟨by rfl, ?_⟩) hHeld ?_
            rotate_left
            · intro w hSw; (try dsimp only at hSw); go_simp; all_goals (with_reducible rfl)
            try simp only [Act.put, List.setIfInBounds_toArray, List.set_cons_zero, List.set_cons_succ]
            refine wpAnyH_take (i := 42) (oi := ⟨some 174, _, _, _, _, _⟩) (v := ?_) rfl (by kernel_rfl) (by kernel_rfl) (by kernel_rfl) (fun _ _ _ h => h) (Or.inl ⟨by rfl, ?_⟩) hHeld ?_
            rotate_left
            · intro w hSw; (try dsimp only at hSw); go_simp; all_goals (with_reducible rfl)
            try simp only [Act.put, List.setIfInBounds_toArray, List.set_cons_zero, List.set_cons_succ]
            refine wpAnyH_take (i := 43) (oi := ⟨some 175, _, _, _, _, _⟩) (v := ?_) rfl (by kernel_rfl) (by kernel_rfl) (by kernel_rfl) (fun _ _ _ h => h) (Or.inl ⟨by rfl, ?_⟩) hHeld ?_
            rotate_left
            · intro w hSw; (try dsimp only at hSw); go_simp; all_goals (with_reducible rfl)
            try simp only [Act.put, List.setIfInBounds_toArray, List.set_cons_zero, List.set_cons_succ]
            refine wpAnyH_done (by kernel_rfl) ?_ _
            refine NoPanic.normal ?_
            have b3 : wB.cell? ⟨TB, 3, none⟩ = some (.int .i64 y.h) := tb3 _ HBB.out
            have b6 : wB.cell? ⟨TB, 6, none⟩ = some (.slice ea y.e.length ec) := tb6 _ HBB.out
            clear tb0 tb1 tb2 tb3 tb4 tb5 tb6 pl0 pl1 pl2 pl3 pl4 pl5 pl6 pl7 nb0 nb3 qb qa qt qg qn hwk
            have hnWb : (nW : Int) ≤ 1000 := by have h1 := HAI2.out.wn; have h2 := HLN.out; have h3 := (Pn.is_num HIS.out).2.2.2.2.2.1.2; omega
            have hsub : IntKind.i64.wrap ((nW : Int) - 1) = (nW : Int) - 1 := by rw [IntKind.wrap_i64]; omega
            go_upto_region 26 with fail
            have hw1 : IntKind.i64.wrap ((j : Int) + 1) = (j : Int) + 1 := by rw [IntKind.wrap_i64]; omega
            as_aux_lemma =>
              rcases HDIS.out with ⟨hh, he, ht⟩ | ⟨hh, hfw, hne, hnx⟩
              · have hjl2 : j + 1 = nW := by
                  have := congrArg List.length ht
                  rw [List.length_drop] at this
                  have := HLN.out
                  simp at *
                  omega
                have qe : y.e.length = 0 := by rw [he]; rfl
                rw [qe] at b6
                rw [hh] at b3
                have hlast : ¬ ((j : Int) < (nW : Int) - 1) := by omega
                have HT := hidH ht
                clear hh he ht qe
                by_cases hj0 : j = 0
                · subst hj0
                  go_wp2_with fail
                  go_roundw
                  case rel => exact ⟨1, fa, fc, F, by go_num, rfl, by omega, HNF.out.below (below_trans HBIJ.out HBB.out), by rw [show c'.L.drop 1 = [] from HT.out]; trivial, below_trans HB5J.out HBB.out⟩
                  case measure => simp [intOf]; omega
                · have hj0b : ((j : Int) == 0) = false := by simp [hj0]
                  have hj0c : ¬ (j : Int) = 0 := by omega
                  go_wp2_with fail
                  go_roundw
                  case rel => exact ⟨j + 1, fa, fc, F, by go_num, rfl, by omega, HNF.out.below (below_trans HBIJ.out HBB.out), by rw [HT.out]; trivial, below_trans HB5J.out HBB.out⟩
                  case measure => simp [intOf]; omega
              · have HFW : Hid (fwdB F y.e = true) := hfw.yes
                have HNE : Hid (decide (F = y.e) = false) := decide_eq_false hne
                have HNX := hidH hnx
                clear hfw hne hnx
                go_cut [198] (fun bv wx => bv = .bool false ∧ wx = wB)
                case first =>
                  by_cases hj0 : j = 0
                  · subst hj0
                    have hh3 : y.h = 3 := by simpa using hh
                    rw [hh3] at b3
                    clear hh hh3
                    go_wp2_with fail
                    go_meet
                    exact ⟨rfl, rfl⟩
                  · have hj0b : ((j : Int) == 0) = false := by simp [hj0]
                    have hj0c : ¬ (j : Int) = 0 := by omega
                    have hh2 : y.h = 2 := by simpa [hj0] using hh
                    rw [hh2] at b3
                    clear hh hh2
                    go_wp2_with fail
                    go_meet
                    exact ⟨rfl, rfl⟩
                case rest =>
                  obtain ⟨rfl, hw⟩ := hcut
                  replace hw := hw.symm
                  subst hw
                  have hh1 : (y.h == 1) = false := by split at hh <;> simp [hh]
                  clear hh
                  go_wp2_with fail
                  refine (fwd_walk (HNF.out.below (below_trans HBIJ.out HBB.out)) (HNTE.out.below (below_trans HBIJ.out HBB.out))).mono ?_
                  rw [HFW.out]
                  rintro e wC ⟨rfl, hBC⟩
                  have HBC : Hid (Below wB.heap.size wB wC) := hBC
                  have b6c : wC.cell? ⟨TB, 6, none⟩ = some (.slice ea y.e.length ec) := cell_bel hBC (by have := blk_lt HTBB.out; have := HBB.out.size; omega) b6
                  clear hBC b3 b6
                  go_wp2_with fail
                  refine (ints19_walk (HNF.out.below (below_trans HBIJ.out (below_trans HBB.out HBC.out))) (HNTE.out.below (below_trans HBIJ.out (below_trans HBB.out HBC.out)))).mono ?_
                  rw [HNE.out]
                  rintro e wD ⟨rfl, hBD⟩
                  have HBD : Hid (Below wi.heap.size wi wD) := below_trans HBIJ.out (below_trans HBB.out (below_trans HBC.out hBD))
                  have b6d : wD.cell? ⟨TB, 6, none⟩ = some (.slice ea y.e.length ec) := cell_bel hBD (by have := blk_lt HTBB.out; have := HBB.out.size; have := HBC.out.size; omega) b6c
                  clear hBD b6c
                  go_wp2_with fail
                  go_roundw
                  case rel => exact ⟨j + 1, ea, ec, y.e, by go_num, rfl, by omega, HNTE.out.below HBD.out, by have := HNX.out; simpa [Int.add_assoc] using this, below_trans HBI.out HBD.out⟩
                  case measure => simp [intOf]; omega
end Go.Proofs.Ytmpdjobllpigpaa
