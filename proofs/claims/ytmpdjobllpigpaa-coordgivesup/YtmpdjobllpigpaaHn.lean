/- CoordGivesUp: the walk. -/
import Derived.Test.YtmpdjobllpigpaaHm
namespace Go.Proofs.Ytmpdjobllpigpaa

open Ieee Go.RowKit

structure Lq (wz : World) (WB : Nat) (p : Pn) (ov : Value) (i : Nat) (wr : World) : Prop where
  ex : ∃ (K : Nat → Prop) (c : Cs) (M : List Ms), AW wz K WB p ov c M wr ∧ Ai p i c ∧ M.length ≤ i
theorem one_of {W : List Ye} {y : Yt} (h : W.map Ye.y = [y]) : ∃ x, W = [x] ∧ x.y = y := by
  cases W with
  | nil => cases h
  | cons a t =>
    have h1 := List.cons.inj h
    have h2 : t = [] := List.map_eq_nil_iff.1 h1.2
    exact ⟨a, by rw [h2], h1.1⟩
structure Nz (Q : Nat → Prop) (NB : Nat) (pv cv : Value) (n : Nt) (w : World) : Prop where
  tb : w.heap[NB]? = some (.cells #[.int .i64 n.b, pv, cv, .int .i64 n.a] 40 (0, 0))
  q : Q NB
  f : OwN 0 w pv n.p
  e : OwN 0 w cv n.c
  kf : ∀ b, pv.ownBlock = some b → Q b
  ke : ∀ b, cv.ownBlock = some b → Q b
theorem Nz.keep {Q : Nat → Prop} {NB : Nat} {pv cv : Value} {n : Nt} {w w' : World} (h : Nz Q NB pv cv n w) (hk : ∀ b, Q b → w'.heap[b]? = w.heap[b]?) : Nz Q NB pv cv n w' :=
  ⟨by rw [hk _ h.q]; exact h.tb, h.q, row_keep h.f fun b hb => hk b (h.kf b hb), row_keep h.e fun b hb => hk b (h.ke b hb), h.kf, h.ke⟩
theorem none_of {W : List Ye} (h : W.map Ye.y = []) : W = [] := List.map_eq_nil_iff.1 h
set_option maxRecDepth 100000 in
set_option maxHeartbeats 8000000 in
theorem coordgivesup_walk {w : World} {p : Pn} {ov : Value} {av ov2 : Value} {l : List Ac0} {ol : List Int} (ho : Ov w ov p.l) (ha : Acl w av l) (hol : Nv w ov2 ol) : Calls Try.prog 5 #[.agg #[.int .i64 p.P, .int .i64 p.S, .int .i64 p.W, ov, .int .i64 p.A, .int .i64 p.B, .int .i64 p.N, .int .i64 p.G], av, ov2] w fun e w' => e = .returned (.bool true) ∧ Below w.heap.size w w' := by
  obtain ⟨w0, hw0⟩ : ∃ w0, w0 = w.alloc (Obj.cells #[.int .i64 p.P, .int .i64 p.S, .int .i64 p.W, ov, .int .i64 p.A, .int .i64 p.B, .int .i64 p.N, .int .i64 p.G] 24) := ⟨_, rfl⟩
  have hb0 : Below w.heap.size w w0 := by rw [hw0]; exact below_alloc _ _
  have HB0 : Hid (Below w.heap.size w w0) := hb0
  have HO : Hid (Ov w0 ov p.l) := ho.below hb0
  have HBX : Hid (w0.heap[w.heap.size]? = some (.cells #[.int .i64 p.P, .int .i64 p.S, .int .i64 p.W, ov, .int .i64 p.A, .int .i64 p.B, .int .i64 p.N, .int .i64 p.G] 24 (0, 0))) := by show _ = _; rw [hw0]; exact alloc_at rfl
  obtain ⟨⟨oa, oc, rfl, _⟩, _⟩ := ho
  have HW0 : Hid (w0 = w.alloc (Obj.cells #[.int .i64 p.P, .int .i64 p.S, .int .i64 p.W, .slice oa p.l.length oc, .int .i64 p.A, .int .i64 p.B, .int .i64 p.N, .int .i64 p.G] 24)) := hw0
  have HACL : Hid (Acl w av l) := ha
  obtain ⟨ao, acp, rfl, _⟩ := ha
  have HOL : Hid (Nv w ov2 ol) := hol
  obtain ⟨oa2, oc2, rfl, _⟩ := hol.form
  clear hol
  clear hw0 hb0
  go_enter Try.func5, Try.ntmps5
  go_wp2_with fail
  rw [← HW0.out]
  refine awake19_walk.mono ?_
  rintro e w1 ⟨rfl, hB1⟩
  have HB1 : Hid (Below w.heap.size w w1) := HB0.out.trans (hB1.mono HB0.out.size)
  have hX1 := blk_below HBX.out hB1
  have HX1 : Hid (w1.heap[w.heap.size]? = some (.cells #[.int .i64 p.P, .int .i64 p.S, .int .i64 p.W, .slice oa p.l.length oc, .int .i64 p.A, .int .i64 p.B, .int .i64 p.N, .int .i64 p.G] 24 (0, 0))) := hX1
  have HO1 : Hid (Ov w1 (.slice oa p.l.length oc) p.l) := HO.out.below hB1
  have x0 : w1.cell? ⟨w.heap.size, 0, none⟩ = some (.int .i64 p.P) := by rw [blk_cell hX1]; rfl
  have x1 : w1.cell? ⟨w.heap.size, 1, none⟩ = some (.int .i64 p.S) := by rw [blk_cell hX1]; rfl
  have x2 : w1.cell? ⟨w.heap.size, 2, none⟩ = some (.int .i64 p.W) := by rw [blk_cell hX1]; rfl
  have x3 : w1.cell? ⟨w.heap.size, 3, none⟩ = some (.slice oa p.l.length oc) := by rw [blk_cell hX1]; rfl
  have x4 : w1.cell? ⟨w.heap.size, 4, none⟩ = some (.int .i64 p.A) := by rw [blk_cell hX1]; rfl
  have x5 : w1.cell? ⟨w.heap.size, 5, none⟩ = some (.int .i64 p.B) := by rw [blk_cell hX1]; rfl
  have x6 : w1.cell? ⟨w.heap.size, 6, none⟩ = some (.int .i64 p.N) := by rw [blk_cell hX1]; rfl
  have x7 : w1.cell? ⟨w.heap.size, 7, none⟩ = some (.int .i64 p.G) := by rw [blk_cell hX1]; rfl
  clear hB1 hX1
  go_wp2_with fail
  refine (laid_walk19 HO1.out).mono ?_
  rintro e w2 (⟨his, hB2, d, rfl⟩ | ⟨his, sb, cb, rfl, hcw⟩)
  · have HIS : Hid (p.is = false) := his
    obtain ⟨w3, hw3⟩ : ∃ w3, w3 = w2.alloc (Obj.cells #[.int .i64 p.P, .int .i64 p.S, .int .i64 p.W, .slice oa p.l.length oc, .int .i64 p.A, .int .i64 p.B, .int .i64 p.N, .int .i64 p.G, .pointer d, .pointer none, .slice none 0 0] 31) := ⟨_, rfl⟩
    have hb13 : Below w1.heap.size w1 w3 := by rw [hw3]; exact below_trans hB2 (below_alloc _ _)
    have HW3 : Hid (w3 = w2.alloc (Obj.cells #[.int .i64 p.P, .int .i64 p.S, .int .i64 p.W, .slice oa p.l.length oc, .int .i64 p.A, .int .i64 p.B, .int .i64 p.N, .int .i64 p.G, .pointer d, .pointer none, .slice none 0 0] 31)) := hw3
    have HB3 : Hid (Below w1.heap.size w1 w3) := hb13
    have hX3 := blk_below HX1.out hb13
    have u0 : w3.cell? ⟨w.heap.size, 0, none⟩ = some (.int .i64 p.P) := by rw [blk_cell hX3]; rfl
    have u1 : w3.cell? ⟨w.heap.size, 1, none⟩ = some (.int .i64 p.S) := by rw [blk_cell hX3]; rfl
    have u2 : w3.cell? ⟨w.heap.size, 2, none⟩ = some (.int .i64 p.W) := by rw [blk_cell hX3]; rfl
    have u3 : w3.cell? ⟨w.heap.size, 3, none⟩ = some (.slice oa p.l.length oc) := by rw [blk_cell hX3]; rfl
    have u4 : w3.cell? ⟨w.heap.size, 4, none⟩ = some (.int .i64 p.A) := by rw [blk_cell hX3]; rfl
    have u5 : w3.cell? ⟨w.heap.size, 5, none⟩ = some (.int .i64 p.B) := by rw [blk_cell hX3]; rfl
    have u6 : w3.cell? ⟨w.heap.size, 6, none⟩ = some (.int .i64 p.N) := by rw [blk_cell hX3]; rfl
    have u7 : w3.cell? ⟨w.heap.size, 7, none⟩ = some (.int .i64 p.G) := by rw [blk_cell hX3]; rfl
    clear his hB2 hw3 hb13 hX3 x0 x1 x2 x3 x4 x5 x6 x7
    go_upto_region 4 with fail
    rw [← HW3.out]
    go_wp2_with fail
    refine (pcheck_walk (p := p) (HO1.out.below HB3.out)).mono ?_
    rintro e w4 ⟨rfl, hB4⟩
    have hk : (p.chk != 0) = true := by
      have := Pn.chk_no HIS.out
      rw [bne, this]; rfl
    have HB4 : Hid (Below w.heap.size w w4) := (HB1.out.trans (HB3.out.mono HB1.out.size)).trans (hB4.mono (Nat.le_trans HB1.out.size HB3.out.size))
    generalize p.chk = ck at hk
    clear hB4
    go_wp2_with fail
    go_ret
    exact ⟨by first | rfl | rw [hk], HB4.out⟩
  have HIS : Hid (p.is = true) := his
  obtain ⟨w3, hw3⟩ : ∃ w3, w3 = w2.alloc (Obj.cells #[.int .i64 p.P, .int .i64 p.S, .int .i64 p.W, .slice oa p.l.length oc, .int .i64 p.A, .int .i64 p.B, .int .i64 p.N, .int .i64 p.G, Pt sb, Pt cb, .slice none 0 0] 31) := ⟨_, rfl⟩
  have HW3 : Hid (w3 = w2.alloc (Obj.cells #[.int .i64 p.P, .int .i64 p.S, .int .i64 p.W, .slice oa p.l.length oc, .int .i64 p.A, .int .i64 p.B, .int .i64 p.N, .int .i64 p.G, Pt sb, Pt cb, .slice none 0 0] 31)) := hw3
  have HAW3x := hidH (aw_laid (p := p) (ov := .slice oa p.l.length oc) hcw hw3)
  obtain ⟨WB, hWBd⟩ : ∃ WB, WB = w2.heap.size := ⟨_, rfl⟩
  have HWBD : Hid (WB = w2.heap.size) := hWBd
  rw [← hWBd] at HAW3x
  have HAW3 : Hid (AW w1 (fun _ => False) WB p (.slice oa p.l.length oc) (frC p) [] w3) := HAW3x
  clear his hcw hw3 HAW3x x0 x1 x2 x3 x4 x5 x6 x7 hWBd
  go_upto_region 4 with fail
  rw [← HW3.out, ← HWBD.out]
  have HLP5 : Hid (Lq w1 WB p (.slice oa p.l.length oc) 0 w3) := ⟨⟨_, frC p, [], HAW3.out, fr_ai HIS.out, Nat.le_refl _⟩⟩
  obtain ⟨PB, hPB⟩ : ∃ PB, PB = w.heap.size := ⟨_, rfl⟩
  have HPBD : Hid (PB = w.heap.size) := hPB
  rw [← HPBD.out]
  have HPB1 : Hid (w1.heap[PB]? = some (.cells #[.int .i64 p.P, .int .i64 p.S, .int .i64 p.W, .slice oa p.l.length oc, .int .i64 p.A, .int .i64 p.B, .int .i64 p.N, .int .i64 p.G] 24 (0, 0))) := by show _ = _; rw [hPB]; exact HX1.out
  clear hPB
  go_wp2_with fail
  go_loopw [9] (fun iv wr => ∃ (i : Nat), iv = .int .i64 i ∧ i ≤ l.length ∧ i ≤ 600 ∧ Lq w1 WB p (.slice oa p.l.length oc) i wr) (fun iv _ => l.length - (intOf iv).toNat)
  case atStart => exact ⟨0, rfl, Nat.zero_le _, Nat.zero_le _, HLP5.out⟩
  case round =>
    obtain ⟨i, rfl, hil, hi6, hlp⟩ := hrel
    obtain ⟨wo, hwo⟩ : ∃ wo, wo = wr := ⟨_, rfl⟩
    subst hwo
    obtain ⟨K, c, M, hawr, hai, hml⟩ := hlp.ex
    have HAWr : Hid (AW w1 K WB p (.slice oa p.l.length oc) c M wo) := hawr
    have HAIr : Hid (Ai p i c) := hai
    have HML : Hid (M.length ≤ i) := hml
    have HBr : Hid (Below w.heap.size w wo) := HB1.out.trans (hawr.bel.mono HB1.out.size)
    clear hlp hawr hai hml
    by_cases hgo : i < l.length ∧ i < 600
    · obtain ⟨hlt, h6⟩ := hgo
      have hli : (i : Int) < (l.length : Int) := by omega
      have h6i : (i : Int) < 600 := by omega
      obtain ⟨ab, aoff, onv, hao, hel⟩ := acl_at HACL.out hlt
      subst hao
      obtain ⟨g0, g1, g2, _⟩ := hel wo HBr.out
      obtain ⟨kd, hkd⟩ : ∃ kd, kd = (ath l i).kd := ⟨_, rfl⟩
      obtain ⟨kk, hkk⟩ : ∃ kk, kk = (ath l i).kk := ⟨_, rfl⟩
      obtain ⟨on, hon⟩ : ∃ on, on = (ath l i).on := ⟨_, rfl⟩
      have hnv : Nv w1 onv on := by rw [hon]; exact (hel w1 HB1.out).2.2.2
      have HNV : Hid (Nv w1 onv on) := hnv
      obtain ⟨na, nc, rfl, _⟩ := hnv.form
      rw [← hkd] at g0
      rw [← hkk] at g1
      clear hel hnv hkd hkk hon
      go_wp2_with fail
      refine (act_walk HAWr.out HO1.out HIS.out HNV.out HAIr.out (by omega) (by have := HML.out; omega)).mono ?_
      rintro e w2a ⟨c', M', mo, ⟨hai', _⟩, hml', v2, B, rfl, hmg, _, haw, _⟩
      obtain ⟨a2, n2, k2, rfl⟩ := hmg.nil_or
      have HLQ : Hid (Lq w1 WB p (.slice oa p.l.length oc) (i + 1) w2a) := ⟨⟨_, c', M', haw, hai', by have := HML.out; omega⟩⟩
      clear haw hmg hai' hml' g0 g1 g2
      go_wp2_with fail
      go_roundw
      case rel => exact ⟨i + 1, by go_num, by omega, by omega, HLQ.out⟩
      case measure => simp [intOf]; omega
    have HI1 : Hid (i ≤ 600) := hi6
    obtain ⟨A, sb0, cb0, sv, V, hA, hcw, hW, hAw, _, _⟩ := HAWr.out.ex
    obtain ⟨S0, hs0, hgd, hai1, _⟩ := open_math HAIr.out
    obtain ⟨J, hJ⟩ : ∃ J, J = c.J := ⟨_, rfl⟩
    rw [← hJ] at hgd hai1
    have HCo : Hid (CW w1 (fun x => K x ∨ A x) sb0 cb0 c wo) := hcw
    have HWo := hidH hW
    have HAwo : Hid (A WB) := hAw
    have HS0 : Hid (onS c.S = S0) := hs0
    have HGD : Hid (Gd p.P J S0) := hgd
    have HAI1 : Hid (Ai p (i + 1) ⟨p0 p, J, rdK S0 2, [], false⟩) := hai1
    have HRD : Hid (S0.rd < 9223372036854775800) := by have h1 := HAIr.out.rd; show _ < _; rw [← hs0]; show c.S.rd < _; omega
    have k8 : wo.cell? ⟨WB, 8, none⟩ = some (.pointer (some ⟨sb0, 0, none⟩)) := by rw [blk_cell hW]; rfl
    have hex : ¬ ((i : Int) < (l.length : Int)) ∨ ¬ ((i : Int) < 600) := by omega
    clear hA hcw hW hAw hs0 hgd hai1 hgo hil hi6 hJ
    go_upto_region 7 with fail
    go_cut [39] (fun bv wx => bv = .bool false ∧ wx = wo)
    case first =>
      rcases hex with hx | hx
      · go_wp2_with fail
        go_meet
        exact ⟨rfl, rfl⟩
      · by_cases hx2 : (i : Int) < (l.length : Int)
        · have hx3 : ¬ i < 600 := by omega
          go_wp2_with fail
          go_meet
          exact ⟨rfl, rfl⟩
        · go_wp2_with fail
          go_meet
          exact ⟨rfl, rfl⟩
    case rest =>
      obtain ⟨rfl, hwc⟩ := hcut
      replace hwc := hwc.symm
      subst hwc
      clear hex
      go_wp2_with fail
      refine (cw_on HCo.out).mono ?_
      rintro e w2 ⟨rfl, hcw2, hch2⟩
      have HC2 : Hid (CW w1 (fun x => K x ∨ A x) sb0 cb0 { c with S := S0 } w2) := by show CW _ _ _ _ _ _; rw [← HS0.out]; exact hcw2
      have k8 : w2.cell? ⟨WB, 8, none⟩ = some (.pointer (some ⟨sb0, 0, none⟩)) := by rw [blk_cell ((kp_cha hch2 HCo.out WB (.inr HAwo.out)).trans HWo.out)]; rfl
      have pl0 : w2.cell? ⟨PB, 0, none⟩ = some (.int .i64 p.P) := by rw [blk_cell (blk_below HPB1.out HC2.out.bel)]; rfl
      have pl1 : w2.cell? ⟨PB, 1, none⟩ = some (.int .i64 p.S) := by rw [blk_cell (blk_below HPB1.out HC2.out.bel)]; rfl
      have pl2 : w2.cell? ⟨PB, 2, none⟩ = some (.int .i64 p.W) := by rw [blk_cell (blk_below HPB1.out HC2.out.bel)]; rfl
      have pl3 : w2.cell? ⟨PB, 3, none⟩ = some (.slice oa p.l.length oc) := by rw [blk_cell (blk_below HPB1.out HC2.out.bel)]; rfl
      have pl4 : w2.cell? ⟨PB, 4, none⟩ = some (.int .i64 p.A) := by rw [blk_cell (blk_below HPB1.out HC2.out.bel)]; rfl
      have pl5 : w2.cell? ⟨PB, 5, none⟩ = some (.int .i64 p.B) := by rw [blk_cell (blk_below HPB1.out HC2.out.bel)]; rfl
      have pl6 : w2.cell? ⟨PB, 6, none⟩ = some (.int .i64 p.N) := by rw [blk_cell (blk_below HPB1.out HC2.out.bel)]; rfl
      have pl7 : w2.cell? ⟨PB, 7, none⟩ = some (.int .i64 p.G) := by rw [blk_cell (blk_below HPB1.out HC2.out.bel)]; rfl
      clear hcw2 hch2
      go_wp2_with fail
      refine (cw_open (J := J) (p := p) HC2.out (HO1.out.below HC2.out.bel) HIS.out HGD.out HRD.out).mono ?_
      rintro e w4 ⟨cb, rfl, hcw4, _⟩
      obtain ⟨Q0, hQ0⟩ : ∃ Q0 : Nat → Prop, Q0 = fun x => K x ∨ A x := ⟨_, rfl⟩
      rw [← hQ0] at hcw4
      obtain ⟨S1, hS1⟩ : ∃ S1, S1 = rdK S0 2 := ⟨_, rfl⟩
      have hg1 : Gd p.P J S1 := by rw [hS1]; exact HGD.out.rd 2
      have hai1 := HAI1.out
      replace hcw4 : CW w1 Q0 sb0 cb ⟨p0 p, J, S1, [], false⟩ w4 := by rw [hS1]; exact hcw4
      rw [← hS1] at hai1
      have HC4 : Hid (CW w1 Q0 sb0 cb ⟨p0 p, J, S1, [], false⟩ w4) := hcw4
      have ha1 : J.n.a ≤ i + 1 := hai1.a
      have hb1 : J.n.b ≤ i + 1 := hai1.b
      have hgg1 : J.g ≤ 1 + (i + 1) := hai1.g
      have hw1 : S1.wr ≤ 2 + (i + 1) := hai1.wr
      have ha0 : 0 ≤ J.n.a := hai1.rgt.a0
      have hb0' : 0 ≤ J.n.b := hai1.rgt.r.1
      have hI := HI1.out
      have HWR1 : Hid (S1.wr < 1000000) := by show _ < _; omega
      obtain ⟨J1, S2, t1, t2, t3, hg2, hn2, hgj2, hwr2⟩ := tick_new (p := p) HIS.out hg1 (by omega) (by omega)
      have HT1 : Hid (tikC ⟨p0 p, J, S1, [], false⟩ = ⟨p0 p, J1, S2, [yN p J.n], false⟩ ∧ tikM ⟨p0 p, J, S1, [], false⟩ = some (abtM 1 (yN p J.n) J.n.c) ∧ tikE ⟨p0 p, J, S1, [], false⟩ = 0) := ⟨t1, t2, t3⟩
      have HG2 : Hid (Gd p.P J1 S2) := hg2
      have HWR2 : Hid (S2.wr < 1000000) := by show _ < _; omega
      have HNum : Hid (0 ≤ J.n.a ∧ J.n.a ≤ 700 ∧ 0 ≤ J.n.b ∧ J.n.b ≤ 700 ∧ J1.n = { J.n with a := J.n.a + 1 } ∧ J1.g ≤ 1000) := ⟨ha0, by omega, hb0', by omega, hn2, by omega⟩
      have HRG : Hid (Rgt J.n p.P) := hai1.rgt
      clear hQ0 hcw4 hg1 hai1 hS1 ha1 hb1 hgg1 hw1 ha0 hb0' hI t1 t2 t3 hg2 hn2 hgj2 hwr2 k8 pl0 pl1 pl2 pl3 pl4 pl5 pl6 pl7
      go_wp2_with fail
      refine (ctries_walk HC4.out).mono ?_
      rintro e w5 ⟨v5, W5, rfl, hy5, hr5, _, hB5⟩
      have hW5 := none_of hy5
      subst hW5
      obtain ⟨a5, k5, rfl, _, _⟩ := own_formY hr5
      have HC5 : Hid (CW w1 Q0 sb0 cb ⟨p0 p, J, S1, [], false⟩ w5) := HC4.out.below hB5
      clear hy5 hr5 hB5
      go_wp2_with fail
      refine (tick_walk HC5.out (fun y hy => by cases hy) (by have := HWR1.out; show S1.wr < _; omega)).mono ?_
      rw [HT1.out.1, HT1.out.2.1, HT1.out.2.2]
      rintro e w6 ⟨v6, B6, rfl, ⟨g6, ev6, rfl, hg6, _, _, _⟩, _, hcw6, _⟩
      have HC6 : Hid (CW w1 Q0 sb0 cb ⟨p0 p, J1, S2, [yN p J.n], false⟩ w6) := hcw6.less (fun x hx => .inl hx)
      have m0 : w6.cell? ⟨g6, 0, none⟩ = some (.int .i64 1) := by rw [blk_cell hg6]; rfl
      have h01 : (0 : Int) < (1 : Int) := by omega
      clear hg6 hcw6
      go_wp2_with fail
      refine (ctries_walk HC6.out).mono ?_
      rintro e w7 ⟨v7, W7, rfl, hy7, hr7, hl7, hB7⟩
      obtain ⟨x7, rfl, hxy⟩ := one_of hy7
      obtain ⟨hlf, hle⟩ := hl7 _ (List.mem_singleton.2 rfl)
      obtain ⟨y, fv, ev⟩ := x7
      replace hxy : y = yN p J.n := hxy
      replace hlf : OwN w6.heap.size w7 fv y.f := hlf
      replace hle : OwN w6.heap.size w7 ev y.e := hle
      obtain ⟨fa, fc, rfl, _, _⟩ := own_formY hlf
      obtain ⟨ea, ec, rfl, _, _⟩ := own_formY hle
      obtain ⟨g7, cap7, rfl, _, _, _, _⟩ := row_formY hr7 (by simp)
      have hcel := fun q (hq : q < 7) => (own_cellY (j := q) (u := (cellsY ⟨y, .slice fa y.f.length fc, .slice ea y.e.length ec⟩)[q]'(by simpa [cellsY] using hq)) hr7 (by have := flatY_get [⟨y, .slice fa y.f.length fc, .slice ea y.e.length ec⟩] 0 q (by simp) hq; rw [Nat.zero_mul, Nat.zero_add] at this; rw [this, List.getElem?_eq_getElem]; rfl)).1
      have c7_0 : w7.cell? ⟨g7, 0, none⟩ = some (.int .i64 y.b) := hcel 0 (by omega)
      have c7_1 : w7.cell? ⟨g7, 1, none⟩ = some (.int .i64 y.a) := hcel 1 (by omega)
      have c7_2 : w7.cell? ⟨g7, 2, none⟩ = some (.int .i64 y.n) := hcel 2 (by omega)
      have c7_3 : w7.cell? ⟨g7, 3, none⟩ = some (.int .i64 y.h) := hcel 3 (by omega)
      have c7_4 : w7.cell? ⟨g7, 4, none⟩ = some (.int .i64 y.t) := hcel 4 (by omega)
      have c7_5 : w7.cell? ⟨g7, 5, none⟩ = some (.slice fa y.f.length fc) := hcel 5 (by omega)
      have c7_6 : w7.cell? ⟨g7, 6, none⟩ = some (.slice ea y.e.length ec) := hcel 6 (by omega)
      obtain ⟨w8, hw8⟩ : ∃ w8, w8 = w7.alloc (Obj.cells #[.int .i64 y.b, .int .i64 y.a, .int .i64 y.n, .int .i64 y.h, .int .i64 y.t, .slice fa y.f.length fc, .slice ea y.e.length ec] 56) := ⟨_, rfl⟩
      have HW8 := hidH hw8
      have hb78 : Below w7.heap.size w7 w8 := by rw [hw8]; exact below_alloc _ _
      have hb68 : Below w6.heap.size w6 w8 := below_trans hB7 hb78
      obtain ⟨TB, hTB⟩ : ∃ TB, TB = w7.heap.size := ⟨_, rfl⟩
      have HTBD : Hid (TB = w7.heap.size) := hTB
      have hTB8 : w8.heap[TB]? = some (.cells #[.int .i64 y.b, .int .i64 y.a, .int .i64 y.n, .int .i64 y.h, .int .i64 y.t, .slice fa y.f.length fc, .slice ea y.e.length ec] 56 (0, 0)) := by rw [hw8, hTB]; exact alloc_at rfl
      obtain ⟨Q, hQ⟩ : ∃ Q : Nat → Prop, Q = fun x => Q0 x ∨ (w6.heap.size ≤ x ∧ x < w8.heap.size) := ⟨_, rfl⟩
      have HC8 : Hid (CW w1 Q sb0 cb ⟨p0 p, J1, S2, [yT y 0], false⟩ w8) := by
        have e : yT y 0 = yN p J.n := by rw [hxy]; rfl
        show CW _ _ _ _ _ _
        rw [hQ, e]; exact HC6.out.more hb68
      have HOT8 : Hid (Ot Q TB ⟨y, .slice fa y.f.length fc, .slice ea y.e.length ec⟩ w8) := by
        have hs := hb78.size
        refine ⟨hTB8, by rw [hQ]; exact .inr ⟨by rw [hTB]; exact hB7.size, blk_lt hTB8⟩, own_base (own_below hlf hb78) (Nat.zero_le _), own_base (own_below hle hb78) (Nat.zero_le _), fun b hb => by rw [hQ]; have := hlf.lt b hb; exact .inr ⟨this.1, by omega⟩, fun b hb => by rw [hQ]; have := hle.lt b hb; exact .inr ⟨this.1, by omega⟩⟩
      have HY : Hid (y = yN p J.n) := hxy
      have HYOK : Hid y.ok := by
        have := HC6.out.yok y (by rw [hxy]; exact List.mem_singleton.2 rfl)
        exact this
      have hyh : y.h = 1 := by rw [hxy]; rfl
      have HYH : Hid (y.h = 1) := hyh
      have hG8 := (Pn.is_num HIS.out).2.2.2.2.2.2
      clear hy7 hr7 hl7 hB7 hxy hlf hle hcel hw8 hb78 hb68 hTB hTB8 hQ m0 hyh
      go_upto_region 20 with fail
      rw [← HW8.out, ← HTBD.out]
      clear c7_0 c7_1 c7_2 c7_3 c7_4 c7_5 c7_6
      go_wp2_with fail
      go_loopw [16] (fun nv wr => ∃ n : Nat, nv = .int .i64 n ∧ 1 ≤ n ∧ (n : Int) ≤ p.G ∧ CW w1 Q sb0 cb ⟨p0 p, J1, S2, [yT y ((n : Int) - 1)], false⟩ wr ∧ Ot Q TB ⟨y, .slice fa y.f.length fc, .slice ea y.e.length ec⟩ wr) (fun nv _ => p.G.toNat - (intOf nv).toNat)
      case atStart => exact ⟨1, rfl, Nat.le_refl _, by omega, by simpa using HC8.out, HOT8.out⟩
      case round =>
        obtain ⟨n, rfl, hn1, hnG, hcwn, hotn⟩ := hrel
        obtain ⟨wn, hwn⟩ : ∃ wn, wn = wr := ⟨_, rfl⟩
        subst hwn
        have HCn : Hid (CW w1 Q sb0 cb ⟨p0 p, J1, S2, [yT y ((n : Int) - 1)], false⟩ wn) := hcwn
        have HOTn : Hid (Ot Q TB ⟨y, .slice fa y.f.length fc, .slice ea y.e.length ec⟩ wn) := hotn
        have pl7 : wn.cell? ⟨PB, 7, none⟩ = some (.int .i64 p.G) := by rw [blk_cell (blk_below HPB1.out hcwn.bel)]; rfl
        clear hcwn hotn
        by_cases hlast : (n : Int) < p.G
        · have HT2 : Hid (tikC ⟨p0 p, J1, S2, [yT y ((n : Int) - 1)], false⟩ = ⟨p0 p, J1, S2, [yT y n], false⟩ ∧ tikM ⟨p0 p, J1, S2, [yT y ((n : Int) - 1)], false⟩ = none ∧ tikE ⟨p0 p, J1, S2, [yT y ((n : Int) - 1)], false⟩ = 0) := by
            have := tick_idle (p := p) (y := y) HG2.out HYH.out (n := (n : Int) - 1) (by omega)
            rwa [show (n : Int) - 1 + 1 = n by omega] at this
          go_wp2_with fail
          refine (tick_walk HCn.out (fun z hz => by rw [List.mem_singleton] at hz; rw [hz]; show (n : Int) - 1 < _; omega) (by have := HWR2.out; show S2.wr < _; omega)).mono ?_
          rw [HT2.out.1, HT2.out.2.1, HT2.out.2.2]
          rintro e w9 ⟨v9, B9, rfl, hv9, _, hcw9, hch9⟩
          have hv9 : v9 = .slice none 0 0 := hv9
          subst hv9
          have HC9 : Hid (CW w1 Q sb0 cb ⟨p0 p, J1, S2, [yT y n], false⟩ w9) := hcw9.less (fun x hx => .inl hx)
          have HOT9 : Hid (Ot Q TB ⟨y, .slice fa y.f.length fc, .slice ea y.e.length ec⟩ w9) := HOTn.out.keep (kp_cha hch9 HCn.out)
          clear hcw9 hch9
          go_wp2_with fail
          refine (ctries_walk HC9.out).mono ?_
          rintro e w10 ⟨v10, W10, rfl, hy10, hr10, hl10, hB10⟩
          obtain ⟨x10, rfl, hx10⟩ := one_of hy10
          obtain ⟨g10, cap10, rfl, _, _, _, _⟩ := row_formY hr10 (by simp)
          have hcel := fun q (hq : q < 7) => (own_cellY (j := q) (u := (cellsY x10)[q]'(by simpa [cellsY] using hq)) hr10 (by have := flatY_get [x10] 0 q (by simp) hq; rw [Nat.zero_mul, Nat.zero_add] at this; rw [this, List.getElem?_eq_getElem]; rfl)).1
          have r1 : w10.cell? ⟨g10, 1, none⟩ = some (.int .i64 y.a) := by have := hcel 1 (by omega); rw [this]; show some (Value.int .i64 x10.y.a) = _; rw [hx10]; rfl
          have r4 : w10.cell? ⟨g10, 4, none⟩ = some (.int .i64 n) := by have := hcel 4 (by omega); rw [this]; show some (Value.int .i64 x10.y.t) = _; rw [hx10]; rfl
          have HC10 : Hid (CW w1 Q sb0 cb ⟨p0 p, J1, S2, [yT y n], false⟩ w10) := HC9.out.below hB10
          have hot10 := HOT9.out.keep (kp_bel hB10 HC9.out)
          have HOT10 : Hid (Ot Q TB ⟨y, .slice fa y.f.length fc, .slice ea y.e.length ec⟩ w10) := hot10
          have HS10 : Hid (w10.cell? ⟨g10, 1, none⟩ = some (.int .i64 y.a) ∧ w10.cell? ⟨g10, 4, none⟩ = some (.int .i64 n) ∧ w10.cell? ⟨TB, 1, none⟩ = some (.int .i64 y.a)) := ⟨r1, r4, by rw [blk_cell hot10.tb]; rfl⟩
          have s1 : ∀ wx : World, (wx.cell? ⟨g10, 1, none⟩ = some (.int .i64 y.a) ∧ wx.cell? ⟨g10, 4, none⟩ = some (.int .i64 n) ∧ wx.cell? ⟨TB, 1, none⟩ = some (.int .i64 y.a)) → wx.cell? ⟨g10, 1, none⟩ = some (.int .i64 y.a) := fun _ h => h.1
          have s2 : ∀ wx : World, (wx.cell? ⟨g10, 1, none⟩ = some (.int .i64 y.a) ∧ wx.cell? ⟨g10, 4, none⟩ = some (.int .i64 n) ∧ wx.cell? ⟨TB, 1, none⟩ = some (.int .i64 y.a)) → wx.cell? ⟨g10, 4, none⟩ = some (.int .i64 n) := fun _ h => h.2.1
          have s3 : ∀ wx : World, (wx.cell? ⟨g10, 1, none⟩ = some (.int .i64 y.a) ∧ wx.cell? ⟨g10, 4, none⟩ = some (.int .i64 n) ∧ wx.cell? ⟨TB, 1, none⟩ = some (.int .i64 y.a)) → wx.cell? ⟨TB, 1, none⟩ = some (.int .i64 y.a) := fun _ h => h.2.2
          clear hy10 hr10 hl10 hB10 hx10 hcel r1 r4 hot10
          go_upto_region 25 with fail
          refine wp_region_noPanic ?_
          refine wp_region_held_drew (S := (fun wx : World => wx.cell? ⟨g10, 1, none⟩ = some (.int .i64 y.a) ∧ wx.cell? ⟨g10, 4, none⟩ = some (.int .i64 n) ∧ wx.cell? ⟨TB, 1, none⟩ = some (.int .i64 y.a))) (by kernel_rfl) ?_ (fun hHeld => ?_)
          · exact HS10.out
          refine wpAnyH_take (i := 0) (oi := ⟨some 106, _, _, _, _, _⟩) (v := ?_) rfl (by kernel_rfl) (by kernel_rfl) (by kernel_rfl) (fun _ _ _ h => h) (Or.inl ⟨by rfl, ?_⟩) hHeld ?_
          rotate_left
          · intro w hSw; (try dsimp only at hSw); go_simp; all_goals (with_reducible rfl)
          try simp only [Act.put, List.setIfInBounds_toArray, List.set_cons_zero, List.set_cons_succ]
          refine wpAnyH_take (i := 1) (oi := ⟨some 107, _, _, _, _, _⟩) (v := ?_) rfl (by kernel_rfl) (by kernel_rfl) (by kernel_rfl) (fun _ _ _ h => h) (Or.inl ⟨by rfl, ?_⟩) hHeld ?_
          rotate_left
          · intro w hSw; (try dsimp only at hSw); go_simp; all_goals (with_reducible rfl)
          try simp only [Act.put, List.setIfInBounds_toArray, List.set_cons_zero, List.set_cons_succ]
          refine wpAnyH_take (i := 2) (oi := ⟨some 108, _, _, _, _, _⟩) (v := ?_) rfl (by kernel_rfl) (by kernel_rfl) (by kernel_rfl) (fun _ _ _ h => h) (Or.inl ⟨by rfl, ?_⟩) hHeld ?_
          rotate_left
          · intro w hSw; (try dsimp only at hSw); go_simp; all_goals (with_reducible rfl)
          try simp only [Act.put, List.setIfInBounds_toArray, List.set_cons_zero, List.set_cons_succ]
          refine wpAnyH_take (i := 3) (oi := ⟨some 109, _, _, _, _, _⟩) (v := ?_) rfl (by kernel_rfl) (by kernel_rfl) (by kernel_rfl) (fun _ _ _ h => h) (Or.inl ⟨by rfl, ?_⟩) hHeld ?_
          rotate_left
          · intro w hSw; (try dsimp only at hSw); go_simp; all_goals (with_reducible rfl)
          try simp only [Act.put, List.setIfInBounds_toArray, List.set_cons_zero, List.set_cons_succ]
          refine wpAnyH_take (i := 4) (oi := ⟨some 110, _, _, _, _, _⟩) (v := ?_) rfl (by kernel_rfl) (by kernel_rfl) (by kernel_rfl) (fun _ _ _ h => h) (Or.inl ⟨by rfl, ?_⟩) hHeld ?_
          rotate_left
          · intro w hSw; (try dsimp only at hSw); go_simp; all_goals (with_reducible rfl)
          try simp only [Act.put, List.setIfInBounds_toArray, List.set_cons_zero, List.set_cons_succ]
          refine wpAnyH_take (i := 5) (oi := ⟨some 111, _, _, _, _, _⟩) (v := ?_) rfl (by kernel_rfl) (by kernel_rfl) (by kernel_rfl) (fun _ _ _ h => h) (Or.inl ⟨by rfl, ?_⟩) hHeld ?_
          rotate_left
          · intro w hSw; (try dsimp only at hSw); go_simp; all_goals (with_reducible rfl)
          try simp only [Act.put, List.setIfInBounds_toArray, List.set_cons_zero, List.set_cons_succ]
          refine wpAnyH_take (i := 6) (oi := ⟨some 112, _, _, _, _, _⟩) (v := ?_) rfl (by kernel_rfl) (by kernel_rfl) (by kernel_rfl) (fun _ _ _ h => h) (Or.inl ⟨by rfl, ?_⟩) hHeld ?_
          rotate_left
          · intro w hSw; (try dsimp only at hSw); go_simp; all_goals (with_reducible rfl)
          try simp only [Act.put, List.setIfInBounds_toArray, List.set_cons_zero, List.set_cons_succ]
          refine wpAnyH_take (i := 7) (oi := ⟨some 113, _, _, _, _, _⟩) (v := ?_) rfl (by kernel_rfl) (by kernel_rfl) (by kernel_rfl) (fun _ _ _ h => h) (Or.inl ⟨by rfl, ?_⟩) hHeld ?_
          rotate_left
          · intro w hSw; (try dsimp only at hSw); go_simp; all_goals (with_reducible rfl)
          try simp only [Act.put, List.setIfInBounds_toArray, List.set_cons_zero, List.set_cons_succ]
          refine wpAnyH_take (i := 8) (oi := ⟨some 114, _, _, _, _, _⟩) (v := ?_) rfl (by kernel_rfl) (by kernel_rfl) (by kernel_rfl) (fun _ _ _ h => h) (Or.inl ⟨by rfl, ?_⟩) hHeld ?_
          rotate_left
          · intro w hSw; (try dsimp only at hSw); go_simp; all_goals (with_reducible rfl)
          try simp only [Act.put, List.setIfInBounds_toArray, List.set_cons_zero, List.set_cons_succ]
          refine wpAnyH_take (i := 9) (oi := ⟨some 115, _, _, _, _, _⟩) (v := ?_) rfl (by kernel_rfl) (by kernel_rfl) (by kernel_rfl) (fun _ _ _ h => h) (Or.inl ⟨by rfl, ?_⟩) hHeld ?_
          rotate_left
          · intro w hSw; (try dsimp only at hSw); go_simp; all_goals (with_reducible rfl)
          try simp only [Act.put, List.setIfInBounds_toArray, List.set_cons_zero, List.set_cons_succ]
          refine wpAnyH_take (i := 10) (oi := ⟨some 116, _, _, _, _, _⟩) (v := ?_) rfl (by kernel_rfl) (by kernel_rfl) (by kernel_rfl) (fun _ _ _ h => h) (Or.inl ⟨by rfl, ?_⟩) hHeld ?_
          rotate_left
          · intro w hSw; (try dsimp only at hSw); go_simp; all_goals (with_reducible rfl)
          try simp only [Act.put, List.setIfInBounds_toArray, List.set_cons_zero, List.set_cons_succ]
          refine wpAnyH_take (i := 11) (oi := ⟨some 117, _, _, _, _, _⟩) (v := ?_) rfl (by kernel_rfl) (by kernel_rfl) (by kernel_rfl) (fun _ _ _ h => h) (Or.inl ⟨by rfl, ?_⟩) hHeld ?_
          rotate_left
          · intro w hSw; (try dsimp only at hSw); go_simp; all_goals (with_reducible rfl)
          try simp only [Act.put, List.setIfInBounds_toArray, List.set_cons_zero, List.set_cons_succ]
          refine wpAnyH_take (i := 12) (oi := ⟨some 118, _, _, _, _, _⟩) (v := ?_) rfl (by kernel_rfl) (by kernel_rfl) (by kernel_rfl) (fun _ _ _ h => h) (Or.inl ⟨by rfl, ?_⟩) hHeld ?_
          rotate_left
          · intro w hSw; (try dsimp only at hSw); go_simp; all_goals (with_reducible rfl)
          try simp only [Act.put, List.setIfInBounds_toArray, List.set_cons_zero, List.set_cons_succ]
          refine wpAnyH_take (i := 13) (oi := ⟨some 119, _, _, _, _, _⟩) (v := ?_) rfl (by kernel_rfl) (by kernel_rfl) (by kernel_rfl) (fun _ _ _ h => h) (Or.inl ⟨by rfl, ?_⟩) hHeld ?_
          rotate_left
          · intro w hSw; (try dsimp only at hSw); go_simp; all_goals (with_reducible rfl)
          try simp only [Act.put, List.setIfInBounds_toArray, List.set_cons_zero, List.set_cons_succ]
          refine wpAnyH_take (i := 14) (oi := ⟨some 120, _, _, _, _, _⟩) (v := ?_) rfl (by kernel_rfl) (by kernel_rfl) (by kernel_rfl) (fun _ _ _ h => h) (Or.inl ⟨by rfl, ?_⟩) hHeld ?_
          rotate_left
          · intro w hSw; (try dsimp only at hSw); go_simp; all_goals (with_reducible rfl)
          try simp only [Act.put, List.setIfInBounds_toArray, List.set_cons_zero, List.set_cons_succ]
          refine wpAnyH_take (i := 15) (oi := ⟨some 121, _, _, _, _, _⟩) (v := ?_) rfl (by kernel_rfl) (by kernel_rfl) (by kernel_rfl) (fun _ _ _ h => h) (Or.inl ⟨by rfl, ?_⟩) hHeld ?_
          rotate_left
          · intro w hSw; (try dsimp only at hSw); go_simp; all_goals (with_reducible rfl)
          try simp only [Act.put, List.setIfInBounds_toArray, List.set_cons_zero, List.set_cons_succ]
          refine wpAnyH_take (i := 16) (oi := ⟨some 122, _, _, _, _, _⟩) (v := ?_) rfl (by kernel_rfl) (by kernel_rfl) (by kernel_rfl) (fun _ _ _ h => h) (Or.inl ⟨by rfl, ?_⟩) hHeld ?_
          rotate_left
          · intro w hSw; (try dsimp only at hSw); go_simp; all_goals (with_reducible rfl)
          try simp only [Act.put, List.setIfInBounds_toArray, List.set_cons_zero, List.set_cons_succ]
          refine wpAnyH_take (i := 17) (oi := ⟨some 123, _, _, _, _, _⟩) (v := ?_) rfl (by kernel_rfl) (by kernel_rfl) (by kernel_rfl) (fun _ _ _ h => h) (Or.inl ⟨by rfl, ?_⟩) hHeld ?_
          rotate_left
          · intro w hSw; (try dsimp only at hSw); go_simp; all_goals (with_reducible rfl)
          try simp only [Act.put, List.setIfInBounds_toArray, List.set_cons_zero, List.set_cons_succ]
          refine wpAnyH_take (i := 18) (oi := ⟨some 124, _, _, _, _, _⟩) (v := ?_) rfl (by kernel_rfl) (by kernel_rfl) (by kernel_rfl) (fun _ _ _ h => h) (Or.inl ⟨by rfl, ?_⟩) hHeld ?_
          rotate_left
          · intro w hSw; (try dsimp only at hSw); go_simp; all_goals (with_reducible rfl)
          try simp only [Act.put, List.setIfInBounds_toArray, List.set_cons_zero, List.set_cons_succ]
          refine wpAnyH_take (i := 19) (oi := ⟨some 125, _, _, _, _, _⟩) (v := ?_) rfl (by kernel_rfl) (by kernel_rfl) (by kernel_rfl) (fun _ _ _ h => h) (Or.inl ⟨by rfl, ?_⟩) hHeld ?_
          rotate_left
          · intro w hSw; (try dsimp only at hSw); go_simp; all_goals (with_reducible rfl)
          try simp only [Act.put, List.setIfInBounds_toArray, List.set_cons_zero, List.set_cons_succ]
          refine wpAnyH_take (i := 20) (oi := ⟨some 126, _, _, _, _, _⟩) (v := ?_) rfl (by kernel_rfl) (by kernel_rfl) (by kernel_rfl) (fun _ _ _ h => h) (Or.inl ⟨by rfl, ?_⟩) hHeld ?_
          rotate_left
          · intro w hSw; (try dsimp only at hSw); go_simp; all_goals (with_reducible rfl)
          try simp only [Act.put, List.setIfInBounds_toArray, List.set_cons_zero, List.set_cons_succ]
          refine wpAnyH_take (i := 21) (oi := ⟨some 127, _, _, _, _, _⟩) (v := ?_) rfl (by kernel_rfl) (by kernel_rfl) (by kernel_rfl) (fun _ _ _ h => h) (Or.inl ⟨by rfl, ?_⟩) hHeld ?_
          rotate_left
          · intro w hSw; (try dsimp only at hSw); go_simp; all_goals (with_reducible rfl)
          try simp only [Act.put, List.setIfInBounds_toArray, List.set_cons_zero, List.set_cons_succ]
          refine wpAnyH_take (i := 22) (oi := ⟨some 128, _, _, _, _, _⟩) (v := ?_) rfl (by kernel_rfl) (by kernel_rfl) (by kernel_rfl) (fun _ _ _ h => h) (Or.inl ⟨by rfl, ?_⟩) hHeld ?_
          rotate_left
          · intro w hSw; (try dsimp only at hSw); go_simp; all_goals (with_reducible rfl)
          try simp only [Act.put, List.setIfInBounds_toArray, List.set_cons_zero, List.set_cons_succ]
          refine wpAnyH_take (i := 23) (oi := ⟨some 129, _, _, _, _, _⟩) (v := ?_) rfl (by kernel_rfl) (by kernel_rfl) (by kernel_rfl) (fun _ _ _ h => h) (Or.inl ⟨by rfl, ?_⟩) hHeld ?_
          rotate_left
          · intro w hSw; (try dsimp only at hSw); go_simp; all_goals (with_reducible rfl)
          try simp only [Act.put, List.setIfInBounds_toArray, List.set_cons_zero, List.set_cons_succ]
          refine wpAnyH_take (i := 24) (oi := ⟨some 130, _, _, _, _, _⟩) (v := ?_) rfl (by kernel_rfl) (by kernel_rfl) (by kernel_rfl) (fun _ _ _ h => h) (Or.inl ⟨by rfl, ?_⟩) hHeld ?_
          rotate_left
          · intro w hSw; (try dsimp only at hSw); go_simp; all_goals (with_reducible rfl)
          try simp only [Act.put, List.setIfInBounds_toArray, List.set_cons_zero, List.set_cons_succ]
          refine wpAnyH_take (i := 25) (oi := ⟨some 131, _, _, _, _, _⟩) (v := ?_) rfl (by kernel_rfl) (by kernel_rfl) (by kernel_rfl) (fun _ _ _ h => h) (Or.inl ⟨by rfl, ?_⟩) hHeld ?_
          rotate_left
          · intro w hSw; (try dsimp only at hSw); go_simp; all_goals (with_reducible rfl)
          try simp only [Act.put, List.setIfInBounds_toArray, List.set_cons_zero, List.set_cons_succ]
          refine wpAnyH_take (i := 26) (oi := ⟨some 132, _, _, _, _, _⟩) (v := ?_) rfl (by kernel_rfl) (by kernel_rfl) (by kernel_rfl) (fun _ _ _ h => h) (Or.inl ⟨by rfl, ?_⟩) hHeld ?_
          rotate_left
          · intro w hSw; (try dsimp only at hSw); go_simp; all_goals (with_reducible rfl)
          try simp only [Act.put, List.setIfInBounds_toArray, List.set_cons_zero, List.set_cons_succ]
          refine wpAnyH_take (i := 27) (oi := ⟨some 133, _, _, _, _, _⟩) (v := ?_) rfl (by kernel_rfl) (by kernel_rfl) (by kernel_rfl) (fun _ _ _ h => h) (Or.inl ⟨by rfl, ?_⟩) hHeld ?_
          rotate_left
          · intro w hSw; (try dsimp only at hSw); go_simp; all_goals (with_reducible rfl)
          try simp only [Act.put, List.setIfInBounds_toArray, List.set_cons_zero, List.set_cons_succ]
          refine wpAnyH_take (i := 28) (oi := ⟨some 134, _, _, _, _, _⟩) (v := ?_) rfl (by kernel_rfl) (by kernel_rfl) (by kernel_rfl) (fun _ _ _ h => h) (Or.inl ⟨by rfl, ?_⟩) hHeld ?_
          rotate_left
          · intro w hSw; (try dsimp only at hSw); go_simp; all_goals (with_reducible rfl)
          try simp only [Act.put, List.setIfInBounds_toArray, List.set_cons_zero, List.set_cons_succ]
          refine wpAnyH_done (by kernel_rfl) ?_ _
          refine NoPanic.normal ?_
          clear s1 s2 s3
          have hwn1 : IntKind.i64.wrap ((n : Int) + 1) = (n : Int) + 1 := by rw [IntKind.wrap_i64]; omega
          go_wp2_with fail
          go_roundw
          case rel =>
            have h9 := HC10.out.below (below_drewN w10 1)
            have e9 : (((n + 1 : Nat) : Int) - 1) = (n : Int) := by omega
            rw [← e9] at h9
            exact ⟨n + 1, by go_num, by omega, by omega, h9, HOT10.out.keep (kp_bel (below_drewN w10 1) HC10.out)⟩
          case measure => simp [intOf]; omega
        as_aux_lemma =>
          have hlG : (n : Int) = p.G := by omega
          have hnl : ¬ ((n : Int) < p.G) := hlast
          obtain ⟨J2, S3, u1, u2, u3, hg3, hn3, _, hwr3⟩ := tick_last (p := p) (y := y) HIS.out HG2.out HYH.out (n := (n : Int) - 1) (by omega) (by have := HNum.out; have e := this.2.2.2.2.1; rw [e]; show J.n.a + 1 < _; omega) (by have := HNum.out; omega)
          have HT3 : Hid (tikC ⟨p0 p, J1, S2, [yT y ((n : Int) - 1)], false⟩ = ⟨p0 p, J2, S3, [yN p J1.n], false⟩ ∧ tikM ⟨p0 p, J1, S2, [yT y ((n : Int) - 1)], false⟩ = some (abtM 1 (yN p J1.n) J1.n.c) ∧ tikE ⟨p0 p, J1, S2, [yT y ((n : Int) - 1)], false⟩ = 0) := ⟨u1, u2, u3⟩
          have HG3 : Hid (Gd p.P J2 S3) := hg3
          have HWR3 : Hid (S3.wr < 9223372036854775800) := by have := HWR2.out; show _ < _; omega
          have hG64 := (Pn.is_num HIS.out).2.2.2.2.2.2.2
          have hn64 : (n : Int) ≤ 64 := by omega
          clear u1 u2 u3 hg3 hn3 hwr3 hlast hlG hnG
          go_wp2_with fail
          refine (tick_walk HCn.out (fun z hz => by rw [List.mem_singleton] at hz; rw [hz]; show (n : Int) - 1 < _; omega) (by have := HWR2.out; show S2.wr < _; omega)).mono ?_
          rw [HT3.out.1, HT3.out.2.1, HT3.out.2.2]
          rintro e w9 ⟨v9, B9, rfl, ⟨g9, ev9, rfl, _, _, _, _⟩, _, hcw9, hch9⟩
          have HC9 : Hid (CW w1 Q sb0 cb ⟨p0 p, J2, S3, [yN p J1.n], false⟩ w9) := hcw9.less (fun x hx => .inl hx)
          have HOT9 : Hid (Ot Q TB ⟨y, .slice fa y.f.length fc, .slice ea y.e.length ec⟩ w9) := HOTn.out.keep (kp_cha hch9 HCn.out)
          clear hcw9 hch9
          go_wp2_with fail
          refine (ctries_walk HC9.out).mono ?_
          rintro e w10 ⟨v10, W10, rfl, hy10, hr10, hl10, hB10⟩
          obtain ⟨x10, rfl, hx10⟩ := one_of hy10
          obtain ⟨hlf, hle⟩ := hl10 _ (List.mem_singleton.2 rfl)
          obtain ⟨z, zv, ze⟩ := x10
          replace hx10 : z = yN p J1.n := hx10
          replace hlf : OwN w9.heap.size w10 zv z.f := hlf
          replace hle : OwN w9.heap.size w10 ze z.e := hle
          obtain ⟨za, zc, rfl, _, _⟩ := own_formY hlf
          obtain ⟨zea, zec, rfl, _, _⟩ := own_formY hle
          obtain ⟨g10, cap10, rfl, _, _, _, hg10⟩ := row_formY hr10 (by simp)
          have hcel := fun q (hq : q < 7) => (own_cellY (j := q) (u := (cellsY ⟨z, .slice za z.f.length zc, .slice zea z.e.length zec⟩)[q]'(by simpa [cellsY] using hq)) hr10 (by have := flatY_get [⟨z, .slice za z.f.length zc, .slice zea z.e.length zec⟩] 0 q (by simp) hq; rw [Nat.zero_mul, Nat.zero_add] at this; rw [this, List.getElem?_eq_getElem]; rfl)).1
          obtain ⟨Q2, hQ2⟩ : ∃ Q2 : Nat → Prop, Q2 = fun x => Q x ∨ (w9.heap.size ≤ x ∧ x < w10.heap.size) := ⟨_, rfl⟩
          have HC10 : Hid (CW w1 Q2 sb0 cb ⟨p0 p, J2, S3, [z], false⟩ w10) := by show CW _ _ _ _ _ _; rw [hQ2, hx10]; exact HC9.out.more hB10
          have hot10 := (HOT9.out.keep (kp_bel hB10 HC9.out)).mono (Q' := Q2) (fun b hb => by rw [hQ2]; exact .inl hb)
          have HOT10 : Hid (Ot Q2 TB ⟨y, .slice fa y.f.length fc, .slice ea y.e.length ec⟩ w10) := hot10
          have HRT10 : Hid (Rt Q2 (.slice (some ⟨g10, 0, none⟩) 1 cap10) ⟨z, .slice za z.f.length zc, .slice zea z.e.length zec⟩ w10) := by
            refine ⟨own_base hr10 (Nat.zero_le _), fun b hb => by rw [hQ2]; exact .inr (hr10.lt b hb), own_base hlf (Nat.zero_le _), own_base hle (Nat.zero_le _), fun b hb => by rw [hQ2]; exact .inr (hlf.lt b hb), fun b hb => by rw [hQ2]; exact .inr (hle.lt b hb)⟩
          have HZOK : Hid z.ok := by have := HC9.out.yok z (by rw [hx10]; exact List.mem_singleton.2 rfl); exact this
          have hy0 := HY.out
          have hnum := HNum.out
          obtain ⟨hna0, hna1, hnb0, hnb1, hJ1n, _⟩ := hnum
          have zb : (z.b != y.b) = false := by rw [hx10, hy0, hJ1n]; simp [yN]
          have za1 : (z.a != y.a + 1) = false := by rw [hx10, hy0, hJ1n]; simp [yN]
          have zt : (z.t != 0) = false := by rw [hx10]; simp [yN]
          have hwa : IntKind.i64.wrap (y.a + 1) = y.a + 1 := by rw [hy0, IntKind.wrap_i64]; show (J.n.a + 1 + 1 + 9223372036854775808) % 18446744073709551616 - 9223372036854775808 = J.n.a + 1 + 1; omega
          have HZF : Hid (z.f = y.f) := by show _ = _; rw [hx10, hy0, hJ1n]; rfl
          have HZA : Hid (z.a ≠ y.a) := by show _ ≠ _; rw [hx10, hy0, hJ1n]; show J.n.a + 1 + 1 ≠ J.n.a + 1; omega
          have HYL : Hid (y.f.length = p.P.toNat ∧ 1 ≤ y.f.length ∧ y.f.length ≤ 4) := by
            have h1 := HRG.out.lc
            have h2 := (Pn.is_num HIS.out).1
            rw [hy0]
            show J.n.c.length = _ ∧ _ ∧ _
            refine ⟨by omega, ?_, ?_⟩
            · show 1 ≤ J.n.c.length; omega
            · show J.n.c.length ≤ 4; omega
          have HMK : Hid (∀ (kq : Int) (lo : List Int), kq = 2 ∨ kq = 8 → lo.length = y.f.length → (∀ v ∈ lo, 0 ≤ v ∧ v ≤ 256) → Mok ⟨kq, y.n, 0, y.b, y.a, 0, lo, [], []⟩) := by
            intro kq lo hkq hlo hlm
            have hl4 := HYL.out
            obtain ⟨_, _, ⟨hW1, hW4⟩, _⟩ := Pn.is_num HIS.out
            have hwk : 0 ≤ y.n ∧ y.n < 9 := by
              rw [hy0]
              show 0 ≤ (p0 p).worker (J.n.a + 1) ∧ (p0 p).worker (J.n.a + 1) < 9
              unfold Pn.worker
              rw [show (p0 p).is = true from is_less HIS.out, decide_eq_true (show 1 ≤ J.n.a + 1 by omega)]
              show 0 ≤ 1 + (J.n.a + 1) % p.W ∧ 1 + (J.n.a + 1) % p.W < 9
              have h5 := Int.emod_nonneg (J.n.a + 1) (show p.W ≠ 0 by omega)
              have h6 := Int.emod_lt_of_pos (J.n.a + 1) (show 0 < p.W by omega)
              omega
            have hyb : y.b = J.n.b + 1 := by rw [hy0]; rfl
            have hya : y.a = J.n.a + 1 := by rw [hy0]; rfl
            exact ⟨snd_ok hkq hwk ⟨by omega, by omega⟩ ⟨by omega, by omega⟩ ⟨by omega, by omega⟩ hlm, rfl, hkq, rfl, rfl⟩
          have hg10n : ¬ g10 = w10.heap.size := by omega
          have qa0 : ∀ wx, Below w10.heap.size w10 wx → wx.cell? ⟨g10, 0, none⟩ = some (.int .i64 z.b) := fun wx hb => cell_bel hb hg10 (hcel 0 (by omega))
          have qa1 : ∀ wx, Below w10.heap.size w10 wx → wx.cell? ⟨g10, 1, none⟩ = some (.int .i64 z.a) := fun wx hb => cell_bel hb hg10 (hcel 1 (by omega))
          have qa4 : ∀ wx, Below w10.heap.size w10 wx → wx.cell? ⟨g10, 4, none⟩ = some (.int .i64 z.t) := fun wx hb => cell_bel hb hg10 (hcel 4 (by omega))
          have qa5 : ∀ wx, Below w10.heap.size w10 wx → wx.cell? ⟨g10, 5, none⟩ = some (.slice za z.f.length zc) := fun wx hb => cell_bel hb hg10 (hcel 5 (by omega))
          have tq0 : ∀ wx, Below w10.heap.size w10 wx → wx.cell? ⟨TB, 0, none⟩ = some (.int .i64 y.b) := fun wx hb => cell_bel hb (blk_lt hot10.tb) (by rw [blk_cell hot10.tb]; rfl)
          have tq1 : ∀ wx, Below w10.heap.size w10 wx → wx.cell? ⟨TB, 1, none⟩ = some (.int .i64 y.a) := fun wx hb => cell_bel hb (blk_lt hot10.tb) (by rw [blk_cell hot10.tb]; rfl)
          have tq5 : ∀ wx, Below w10.heap.size w10 wx → wx.cell? ⟨TB, 5, none⟩ = some (.slice fa y.f.length fc) := fun wx hb => cell_bel hb (blk_lt hot10.tb) (by rw [blk_cell hot10.tb]; rfl)
          clear hy10 hr10 hl10 hB10 hx10 hcel hot10 hQ2 hlf hle hy0 hna0 hna1 hnb0 hnb1 hJ1n
          go_upto_region 29 with fail
          refine wp_region_noPanic ?_
          refine wp_region_held_drew (S := (fun wx => Below w10.heap.size w10 wx)) (by kernel_rfl) ?_ (fun hHeld => ?_)
          · exact (below_drewN w10 1)
          refine wpAnyH_take (i := 0) (oi := ⟨some 142, _, _, _, _, _⟩) (v := ?_) rfl (by kernel_rfl) (by kernel_rfl) (by kernel_rfl) (fun _ _ _ h => h) (Or.inl ⟨by rfl, ?_⟩) hHeld ?_
          rotate_left
          · intro w hSw; (try dsimp only at hSw); go_simp; all_goals (with_reducible rfl)
          try simp only [Act.put, List.setIfInBounds_toArray, List.set_cons_zero, List.set_cons_succ]
          refine wpAnyH_take (i := 1) (oi := ⟨some 143, _, _, _, _, _⟩) (v := ?_) rfl (by kernel_rfl) (by kernel_rfl) (by kernel_rfl) (fun _ _ _ h => h) (Or.inl ⟨by rfl, ?_⟩) hHeld ?_
          rotate_left
          · intro w hSw; (try dsimp only at hSw); go_simp; all_goals (with_reducible rfl)
          try simp only [Act.put, List.setIfInBounds_toArray, List.set_cons_zero, List.set_cons_succ]
          refine wpAnyH_take (i := 2) (oi := ⟨some 144, _, _, _, _, _⟩) (v := ?_) rfl (by kernel_rfl) (by kernel_rfl) (by kernel_rfl) (fun _ _ _ h => h) (Or.inl ⟨by rfl, ?_⟩) hHeld ?_
          rotate_left
          · intro w hSw; (try dsimp only at hSw); go_simp; all_goals (with_reducible rfl)
          try simp only [Act.put, List.setIfInBounds_toArray, List.set_cons_zero, List.set_cons_succ]
          refine wpAnyH_take (i := 3) (oi := ⟨some 145, _, _, _, _, _⟩) (v := ?_) rfl (by kernel_rfl) (by kernel_rfl) (by kernel_rfl) (fun _ _ _ h => h) (Or.inl ⟨by rfl, ?_⟩) hHeld ?_
          rotate_left
          · intro w hSw; (try dsimp only at hSw); go_simp; all_goals (with_reducible rfl)
          try simp only [Act.put, List.setIfInBounds_toArray, List.set_cons_zero, List.set_cons_succ]
          refine wpAnyH_take (i := 4) (oi := ⟨some 146, _, _, _, _, _⟩) (v := ?_) rfl (by kernel_rfl) (by kernel_rfl) (by kernel_rfl) (fun _ _ _ h => h) (Or.inl ⟨by rfl, ?_⟩) hHeld ?_
          rotate_left
          · intro w hSw; (try dsimp only at hSw); go_simp; all_goals (with_reducible rfl)
          try simp only [Act.put, List.setIfInBounds_toArray, List.set_cons_zero, List.set_cons_succ]
          refine wpAnyH_take (i := 5) (oi := ⟨some 147, _, _, _, _, _⟩) (v := ?_) rfl (by kernel_rfl) (by kernel_rfl) (by kernel_rfl) (fun _ _ _ h => h) (Or.inl ⟨by rfl, ?_⟩) hHeld ?_
          rotate_left
          · intro w hSw; (try dsimp only at hSw); go_simp; all_goals (with_reducible rfl)
          try simp only [Act.put, List.setIfInBounds_toArray, List.set_cons_zero, List.set_cons_succ]
          refine wpAnyH_take (i := 6) (oi := ⟨some 148, _, _, _, _, _⟩) (v := ?_) rfl (by kernel_rfl) (by kernel_rfl) (by kernel_rfl) (fun _ _ _ h => h) (Or.inl ⟨by rfl, ?_⟩) hHeld ?_
          rotate_left
          · intro w hSw; (try dsimp only at hSw); go_simp; all_goals (with_reducible rfl)
          try simp only [Act.put, List.setIfInBounds_toArray, List.set_cons_zero, List.set_cons_succ]
          refine wpAnyH_take (i := 7) (oi := ⟨some 149, _, _, _, _, _⟩) (v := ?_) rfl (by kernel_rfl) (by kernel_rfl) (by kernel_rfl) (fun _ _ _ h => h) (Or.inl ⟨by rfl, ?_⟩) hHeld ?_
          rotate_left
          · intro w hSw; (try dsimp only at hSw); go_simp; all_goals (with_reducible rfl)
          try simp only [Act.put, List.setIfInBounds_toArray, List.set_cons_zero, List.set_cons_succ]
          refine wpAnyH_take (i := 8) (oi := ⟨some 150, _, _, _, _, _⟩) (v := ?_) rfl (by kernel_rfl) (by kernel_rfl) (by kernel_rfl) (fun _ _ _ h => h) (Or.inl ⟨by rfl, ?_⟩) hHeld ?_
          rotate_left
          · intro w hSw; (try dsimp only at hSw); go_simp; all_goals (with_reducible rfl)
          try simp only [Act.put, List.setIfInBounds_toArray, List.set_cons_zero, List.set_cons_succ]
          refine wpAnyH_take (i := 9) (oi := ⟨some 151, _, _, _, _, _⟩) (v := ?_) rfl (by kernel_rfl) (by kernel_rfl) (by kernel_rfl) (fun _ _ _ h => h) (Or.inl ⟨by rfl, ?_⟩) hHeld ?_
          rotate_left
          · intro w hSw; (try dsimp only at hSw); go_simp; all_goals (with_reducible rfl)
          try simp only [Act.put, List.setIfInBounds_toArray, List.set_cons_zero, List.set_cons_succ]
          refine wpAnyH_take (i := 10) (oi := ⟨some 152, _, _, _, _, _⟩) (v := ?_) rfl (by kernel_rfl) (by kernel_rfl) (by kernel_rfl) (fun _ _ _ h => h) (Or.inl ⟨by rfl, ?_⟩) hHeld ?_
          rotate_left
          · intro w hSw; (try dsimp only at hSw); go_simp; all_goals (with_reducible rfl)
          try simp only [Act.put, List.setIfInBounds_toArray, List.set_cons_zero, List.set_cons_succ]
          refine wpAnyH_take (i := 11) (oi := ⟨some 153, _, _, _, _, _⟩) (v := ?_) rfl (by kernel_rfl) (by kernel_rfl) (by kernel_rfl) (fun _ _ _ h => h) (Or.inl ⟨by rfl, ?_⟩) hHeld ?_
          rotate_left
          · intro w hSw; (try dsimp only at hSw); go_simp; all_goals (with_reducible rfl)
          try simp only [Act.put, List.setIfInBounds_toArray, List.set_cons_zero, List.set_cons_succ]
          refine wpAnyH_take (i := 12) (oi := ⟨some 154, _, _, _, _, _⟩) (v := ?_) rfl (by kernel_rfl) (by kernel_rfl) (by kernel_rfl) (fun _ _ _ h => h) (Or.inl ⟨by rfl, ?_⟩) hHeld ?_
          rotate_left
          · intro w hSw; (try dsimp only at hSw); go_simp; all_goals (with_reducible rfl)
          try simp only [Act.put, List.setIfInBounds_toArray, List.set_cons_zero, List.set_cons_succ]
          refine wpAnyH_take (i := 13) (oi := ⟨some 155, _, _, _, _, _⟩) (v := ?_) rfl (by kernel_rfl) (by kernel_rfl) (by kernel_rfl) (fun _ _ _ h => h) (Or.inl ⟨by rfl, ?_⟩) hHeld ?_
          rotate_left
          · intro w hSw; (try dsimp only at hSw); go_simp; all_goals (with_reducible rfl)
          try simp only [Act.put, List.setIfInBounds_toArray, List.set_cons_zero, List.set_cons_succ]
          refine wpAnyH_take (i := 14) (oi := ⟨some 156, _, _, _, _, _⟩) (v := ?_) rfl (by kernel_rfl) (by kernel_rfl) (by kernel_rfl) (fun _ _ _ h => h) (Or.inl ⟨by rfl, ?_⟩) hHeld ?_
          rotate_left
          · intro w hSw; (try dsimp only at hSw); go_simp; all_goals (with_reducible rfl)
          try simp only [Act.put, List.setIfInBounds_toArray, List.set_cons_zero, List.set_cons_succ]
          refine wpAnyH_take (i := 15) (oi := ⟨some 157, _, _, _, _, _⟩) (v := ?_) rfl (by kernel_rfl) (by kernel_rfl) (by kernel_rfl) (fun _ _ _ h => h) (Or.inl ⟨by rfl, ?_⟩) hHeld ?_
          rotate_left
          · intro w hSw; (try dsimp only at hSw); go_simp; all_goals (with_reducible rfl)
          try simp only [Act.put, List.setIfInBounds_toArray, List.set_cons_zero, List.set_cons_succ]
          refine wpAnyH_take (i := 16) (oi := ⟨some 158, _, _, _, _, _⟩) (v := ?_) rfl (by kernel_rfl) (by kernel_rfl) (by kernel_rfl) (fun _ _ _ h => h) (Or.inl ⟨by rfl, ?_⟩) hHeld ?_
          rotate_left
          · intro w hSw; (try dsimp only at hSw); go_simp; all_goals (with_reducible rfl)
          try simp only [Act.put, List.setIfInBounds_toArray, List.set_cons_zero, List.set_cons_succ]
          refine wpAnyH_take (i := 17) (oi := ⟨some 159, _, _, _, _, _⟩) (v := ?_) rfl (by kernel_rfl) (by kernel_rfl) (by kernel_rfl) (fun _ _ _ h => h) (Or.inl ⟨by rfl, ?_⟩) hHeld ?_
          rotate_left
          · intro w hSw; (try dsimp only at hSw); go_simp; all_goals (with_reducible rfl)
          try simp only [Act.put, List.setIfInBounds_toArray, List.set_cons_zero, List.set_cons_succ]
          refine wpAnyH_take (i := 18) (oi := ⟨some 160, _, _, _, _, _⟩) (v := ?_) rfl (by kernel_rfl) (by kernel_rfl) (by kernel_rfl) (fun _ _ _ h => h) (Or.inl ⟨by rfl, ?_⟩) hHeld ?_
          rotate_left
          · intro w hSw; (try dsimp only at hSw); go_simp; all_goals (with_reducible rfl)
          try simp only [Act.put, List.setIfInBounds_toArray, List.set_cons_zero, List.set_cons_succ]
          refine wpAnyH_take (i := 19) (oi := ⟨some 161, _, _, _, _, _⟩) (v := ?_) rfl (by kernel_rfl) (by kernel_rfl) (by kernel_rfl) (fun _ _ _ h => h) (Or.inl ⟨by rfl, ?_⟩) hHeld ?_
          rotate_left
          · intro w hSw; (try dsimp only at hSw); go_simp; all_goals (with_reducible rfl)
          try simp only [Act.put, List.setIfInBounds_toArray, List.set_cons_zero, List.set_cons_succ]
          refine wpAnyH_take (i := 20) (oi := ⟨some 162, _, _, _, _, _⟩) (v := ?_) rfl (by kernel_rfl) (by kernel_rfl) (by kernel_rfl) (fun _ _ _ h => h) (Or.inl ⟨by rfl, ?_⟩) hHeld ?_
          rotate_left
          · intro w hSw; (try dsimp only at hSw); go_simp; all_goals (with_reducible rfl)
          try simp only [Act.put, List.setIfInBounds_toArray, List.set_cons_zero, List.set_cons_succ]
          refine wpAnyH_take (i := 21) (oi := ⟨some 163, _, _, _, _, _⟩) (v := ?_) rfl (by kernel_rfl) (by kernel_rfl) (by kernel_rfl) (fun _ _ _ h => h) (Or.inl ⟨by rfl, ?_⟩) hHeld ?_
          rotate_left
          · intro w hSw; (try dsimp only at hSw); go_simp; all_goals (with_reducible rfl)
          try simp only [Act.put, List.setIfInBounds_toArray, List.set_cons_zero, List.set_cons_succ]
          refine wpAnyH_take (i := 22) (oi := ⟨some 164, _, _, _, _, _⟩) (v := ?_) rfl (by kernel_rfl) (by kernel_rfl) (by kernel_rfl) (fun _ _ _ h => h) (Or.inl ⟨by rfl, ?_⟩) hHeld ?_
          rotate_left
          · intro w hSw; (try dsimp only at hSw); go_simp; all_goals (with_reducible rfl)
          try simp only [Act.put, List.setIfInBounds_toArray, List.set_cons_zero, List.set_cons_succ]
          refine wpAnyH_take (i := 23) (oi := ⟨some 165, _, _, _, _, _⟩) (v := ?_) rfl (by kernel_rfl) (by kernel_rfl) (by kernel_rfl) (fun _ _ _ h => h) (Or.inl ⟨by rfl, ?_⟩) hHeld ?_
          rotate_left
          · intro w hSw; (try dsimp only at hSw); go_simp; all_goals (with_reducible rfl)
          try simp only [Act.put, List.setIfInBounds_toArray, List.set_cons_zero, List.set_cons_succ]
          refine wpAnyH_take (i := 24) (oi := ⟨some 166, _, _, _, _, _⟩) (v := ?_) rfl (by kernel_rfl) (by kernel_rfl) (by kernel_rfl) (fun _ _ _ h => h) (Or.inl ⟨by rfl, ?_⟩) hHeld ?_
          rotate_left
          · intro w hSw; (try dsimp only at hSw); go_simp; all_goals (with_reducible rfl)
          try simp only [Act.put, List.setIfInBounds_toArray, List.set_cons_zero, List.set_cons_succ]
          refine wpAnyH_take (i := 25) (oi := ⟨some 167, _, _, _, _, _⟩) (v := ?_) rfl (by kernel_rfl) (by kernel_rfl) (by kernel_rfl) (fun _ _ _ h => h) (Or.inl ⟨by rfl, ?_⟩) hHeld ?_
          rotate_left
          · intro w hSw; (try dsimp only at hSw); go_simp; all_goals (with_reducible rfl)
          try simp only [Act.put, List.setIfInBounds_toArray, List.set_cons_zero, List.set_cons_succ]
          refine wpAnyH_take (i := 26) (oi := ⟨some 168, _, _, _, _, _⟩) (v := ?_) rfl (by kernel_rfl) (by kernel_rfl) (by kernel_rfl) (fun _ _ _ h => h) (Or.inl ⟨by rfl, ?_⟩) hHeld ?_
          rotate_left
          · intro w hSw; (try dsimp only at hSw); go_simp; all_goals (with_reducible rfl)
          try simp only [Act.put, List.setIfInBounds_toArray, List.set_cons_zero, List.set_cons_succ]
          refine wpAnyH_take (i := 27) (oi := ⟨some 169, _, _, _, _, _⟩) (v := ?_) rfl (by kernel_rfl) (by kernel_rfl) (by kernel_rfl) (fun _ _ _ h => h) (Or.inl ⟨by rfl, ?_⟩) hHeld ?_
          rotate_left
          · intro w hSw; (try dsimp only at hSw); go_simp; all_goals (with_reducible rfl)
          try simp only [Act.put, List.setIfInBounds_toArray, List.set_cons_zero, List.set_cons_succ]
          refine wpAnyH_take (i := 28) (oi := ⟨some 170, _, _, _, _, _⟩) (v := ?_) rfl (by kernel_rfl) (by kernel_rfl) (by kernel_rfl) (fun _ _ _ h => h) (Or.inl ⟨by rfl, ?_⟩) hHeld ?_
          rotate_left
          · intro w hSw; (try dsimp only at hSw); go_simp; all_goals (with_reducible rfl)
          try simp only [Act.put, List.setIfInBounds_toArray, List.set_cons_zero, List.set_cons_succ]
          refine wpAnyH_take (i := 29) (oi := ⟨some 171, _, _, _, _, _⟩) (v := ?_) rfl (by kernel_rfl) (by kernel_rfl) (by kernel_rfl) (fun _ _ _ h => h) (Or.inl ⟨by rfl, ?_⟩) hHeld ?_
          rotate_left
          · intro w hSw; (try dsimp only at hSw); go_simp; all_goals (with_reducible rfl)
          try simp only [Act.put, List.setIfInBounds_toArray, List.set_cons_zero, List.set_cons_succ]
          refine wpAnyH_take (i := 30) (oi := ⟨some 172, _, _, _, _, _⟩) (v := ?_) rfl (by kernel_rfl) (by kernel_rfl) (by kernel_rfl) (fun _ _ _ h => h) (Or.inl ⟨by rfl, ?_⟩) hHeld ?_
          rotate_left
          · intro w hSw; (try dsimp only at hSw); go_simp; all_goals (with_reducible rfl)
          try simp only [Act.put, List.setIfInBounds_toArray, List.set_cons_zero, List.set_cons_succ]
          refine wpAnyH_take (i := 31) (oi := ⟨some 173, _, _, _, _, _⟩) (v := ?_) rfl (by kernel_rfl) (by kernel_rfl) (by kernel_rfl) (fun _ _ _ h => h) (Or.inl ⟨by rfl, ?_⟩) hHeld ?_
          rotate_left
          · intro w hSw; (try dsimp only at hSw); go_simp; all_goals (with_reducible rfl)
          try simp only [Act.put, List.setIfInBounds_toArray, List.set_cons_zero, List.set_cons_succ]
          refine wpAnyH_take (i := 32) (oi := ⟨some 174, _, _, _, _, _⟩) (v := ?_) rfl (by kernel_rfl) (by kernel_rfl) (by kernel_rfl) (fun _ _ _ h => h) (Or.inl ⟨by rfl, ?_⟩) hHeld ?_
          rotate_left
          · intro w hSw; (try dsimp only at hSw); go_simp; all_goals (with_reducible rfl)
          try simp only [Act.put, List.setIfInBounds_toArray, List.set_cons_zero, List.set_cons_succ]
          refine wpAnyH_take (i := 33) (oi := ⟨some 175, _, _, _, _, _⟩) (v := ?_) rfl (by kernel_rfl) (by kernel_rfl) (by kernel_rfl) (fun _ _ _ h => h) (Or.inl ⟨by rfl, ?_⟩) hHeld ?_
          rotate_left
          · intro w hSw; (try dsimp only at hSw); go_simp; all_goals (with_reducible rfl)
          try simp only [Act.put, List.setIfInBounds_toArray, List.set_cons_zero, List.set_cons_succ]
          refine wpAnyH_take (i := 34) (oi := ⟨some 176, _, _, _, _, _⟩) (v := ?_) rfl (by kernel_rfl) (by kernel_rfl) (by kernel_rfl) (fun _ _ _ h => h) (Or.inl ⟨by rfl, ?_⟩) hHeld ?_
          rotate_left
          · intro w hSw; (try dsimp only at hSw); go_simp; all_goals (with_reducible rfl)
          try simp only [Act.put, List.setIfInBounds_toArray, List.set_cons_zero, List.set_cons_succ]
          refine wpAnyH_take (i := 35) (oi := ⟨some 177, _, _, _, _, _⟩) (v := ?_) rfl (by kernel_rfl) (by kernel_rfl) (by kernel_rfl) (fun _ _ _ h => h) (Or.inl ⟨by rfl, ?_⟩) hHeld ?_
          rotate_left
          · intro w hSw; (try dsimp only at hSw); go_simp; all_goals (with_reducible rfl)
          try simp only [Act.put, List.setIfInBounds_toArray, List.set_cons_zero, List.set_cons_succ]
          refine wpAnyH_take (i := 36) (oi := ⟨some 178, _, _, _, _, _⟩) (v := ?_) rfl (by kernel_rfl) (by kernel_rfl) (by kernel_rfl) (fun _ _ _ h => h) (Or.inl ⟨by rfl, ?_⟩) hHeld ?_
          rotate_left
          · intro w hSw; (try dsimp only at hSw); go_simp; all_goals (with_reducible rfl)
          try simp only [Act.put, List.setIfInBounds_toArray, List.set_cons_zero, List.set_cons_succ]
          refine wpAnyH_take (i := 37) (oi := ⟨some 179, _, _, _, _, _⟩) (v := ?_) rfl (by kernel_rfl) (by kernel_rfl) (by kernel_rfl) (fun _ _ _ h => h) (Or.inl ⟨by rfl, ?_⟩) hHeld ?_
          rotate_left
          · intro w hSw; (try dsimp only at hSw); go_simp; all_goals (with_reducible rfl)
          try simp only [Act.put, List.setIfInBounds_toArray, List.set_cons_zero, List.set_cons_succ]
          refine wpAnyH_take (i := 38) (oi := ⟨some 180, _, _, _, _, _⟩) (v := ?_) rfl (by kernel_rfl) (by kernel_rfl) (by kernel_rfl) (fun _ _ _ h => h) (Or.inl ⟨by rfl, ?_⟩) hHeld ?_
          rotate_left
          · intro w hSw; (try dsimp only at hSw); go_simp; all_goals (with_reducible rfl)
          try simp only [Act.put, List.setIfInBounds_toArray, List.set_cons_zero, List.set_cons_succ]
          refine wpAnyH_take (i := 39) (oi := ⟨some 181, _, _, _, _, _⟩) (v := ?_) rfl (by kernel_rfl) (by kernel_rfl) (by kernel_rfl) (fun _ _ _ h => h) (Or.inl ⟨by rfl, ?_⟩) hHeld ?_
          rotate_left
          · intro w hSw; (try dsimp only at hSw); go_simp; all_goals (with_reducible rfl)
          try simp only [Act.put, List.setIfInBounds_toArray, List.set_cons_zero, List.set_cons_succ]
          refine wpAnyH_take (i := 40) (oi := ⟨some 182, _, _, _, _, _⟩) (v := ?_) rfl (by kernel_rfl) (by kernel_rfl) (by kernel_rfl) (fun _ _ _ h => h) (Or.inl ⟨by rfl, ?_⟩) hHeld ?_
          rotate_left
          · intro w hSw; (try dsimp only at hSw); go_simp; all_goals (with_reducible rfl)
          try simp only [Act.put, List.setIfInBounds_toArray, List.set_cons_zero, List.set_cons_succ]
          refine wpAnyH_take (i := 41) (oi := ⟨some 183, _, _, _, _, _⟩) (v := ?_) rfl (by kernel_rfl) (by kernel_rfl) (by kernel_rfl) (fun _ _ _ h => h) (Or.inl ⟨by rfl, ?_⟩) hHeld ?_
          rotate_left
          · intro w hSw; (try dsimp only at hSw); go_simp; all_goals (with_reducible rfl)
          try simp only [Act.put, List.setIfInBounds_toArray, List.set_cons_zero, List.set_cons_succ]
          refine wpAnyH_take (i := 42) (oi := ⟨some 184, _, _, _, _, _⟩) (v := ?_) rfl (by kernel_rfl) (by kernel_rfl) (by kernel_rfl) (fun _ _ _ h => h) (Or.inl ⟨by rfl, ?_⟩) hHeld ?_
          rotate_left
          · intro w hSw; (try dsimp only at hSw); go_simp; all_goals (with_reducible rfl)
          try simp only [Act.put, List.setIfInBounds_toArray, List.set_cons_zero, List.set_cons_succ]
          refine wpAnyH_take (i := 43) (oi := ⟨some 185, _, _, _, _, _⟩) (v := ?_) rfl (by kernel_rfl) (by kernel_rfl) (by kernel_rfl) (fun _ _ _ h => h) (Or.inl ⟨by rfl, ?_⟩) hHeld ?_
          rotate_left
          · intro w hSw; (try dsimp only at hSw); go_simp; all_goals (with_reducible rfl)
          try simp only [Act.put, List.setIfInBounds_toArray, List.set_cons_zero, List.set_cons_succ]
          refine wpAnyH_take (i := 44) (oi := ⟨some 186, _, _, _, _, _⟩) (v := ?_) rfl (by kernel_rfl) (by kernel_rfl) (by kernel_rfl) (fun _ _ _ h => h) (Or.inl ⟨by rfl, ?_⟩) hHeld ?_
          rotate_left
          · intro w hSw; (try dsimp only at hSw); go_simp; all_goals (with_reducible rfl)
          try simp only [Act.put, List.setIfInBounds_toArray, List.set_cons_zero, List.set_cons_succ]
          refine wpAnyH_ready (rs := [45]) (by kernel_rfl) (by simp) ?_
          refine AllReadyH.cons (o := ⟨some 187, _, _, _, _, _⟩) rfl (fun K hK => ?_) AllReadyH.nil
          go_simp
          refine (ints19_walk (own_nv ((HRT10.out.keep (kp_bel hHeld HC10.out)).f) (in64_of HZOK.out.fm)) (own_nv ((HOT10.out.keep (kp_bel hHeld HC10.out)).f) (in64_of HYOK.out.fm))).mono ?_
          rw [decide_eq_true HZF.out]
          rintro e wA ⟨rfl, hBA⟩
          have HBA : Hid (Below w10.heap.size w10 wA) := below_trans hHeld hBA
          clear hBA
          refine hK.out _ _ ?_ (fun hHeld => ?_)
          · exact HBA.out
          clear hK K
          try simp only [Act.put, List.setIfInBounds_toArray, List.set_cons_zero, List.set_cons_succ]
          refine wpAnyH_take (i := 46) (oi := ⟨some 188, _, _, _, _, _⟩) (v := ?_) rfl (by kernel_rfl) (by kernel_rfl) (by kernel_rfl) (fun _ _ _ h => h) (Or.inl ⟨by rfl, ?_⟩) hHeld ?_
          rotate_left
          · intro w hSw; (try dsimp only at hSw); go_simp; all_goals (with_reducible rfl)
          try simp only [Act.put, List.setIfInBounds_toArray, List.set_cons_zero, List.set_cons_succ]
          refine wpAnyH_take (i := 47) (oi := ⟨some 189, _, _, _, _, _⟩) (v := ?_) rfl (by kernel_rfl) (by kernel_rfl) (by kernel_rfl) (fun _ _ _ h => h) (Or.inl ⟨by rfl, ?_⟩) hHeld ?_
          rotate_left
          · intro w hSw; (try dsimp only at hSw); go_simp; all_goals (with_reducible rfl)
          try simp only [Act.put, List.setIfInBounds_toArray, List.set_cons_zero, List.set_cons_succ]
          refine wpAnyH_done (by kernel_rfl) ?_ _
          refine NoPanic.normal ?_
          clear qa0 qa1 qa4 qa5 tq0 tq1 tq5 zb za1 zt hwa
          go_wp2_with fail
          refine (cnote_walk (HC10.out.below HBA.out)).mono ?_
          rintro e w11 ⟨pa, pc, ca, cc, rfl, ho1, ho2, hB11⟩
          obtain ⟨nn, hnn⟩ : ∃ nn, nn = (⟨p0 p, J2, S3, [z], false⟩ : Cs).J.n := ⟨_, rfl⟩
          rw [← hnn] at ho1 ho2 ⊢
          obtain ⟨w12, hw12⟩ : ∃ w12, w12 = w11.alloc (Obj.cells #[.int .i64 nn.b, .slice pa nn.p.length pc, .slice ca nn.c.length cc, .int .i64 nn.a] 40) := ⟨_, rfl⟩
          have HW12 := hidH hw12
          have hb1112 : Below w11.heap.size w11 w12 := by rw [hw12]; exact below_alloc _ _
          obtain ⟨NB, hNB⟩ : ∃ NB, NB = w11.heap.size := ⟨_, rfl⟩
          have HNBD := hidH hNB
          have hb1012 : Below w10.heap.size w10 w12 := below_trans HBA.out (below_trans hB11 hb1112)
          have hN12 : w12.heap[NB]? = some (.cells #[.int .i64 nn.b, .slice pa nn.p.length pc, .slice ca nn.c.length cc, .int .i64 nn.a] 40 (0, 0)) := by rw [hw12, hNB]; exact alloc_at rfl
          obtain ⟨Q3, hQ3⟩ : ∃ Q3 : Nat → Prop, Q3 = fun x => Q2 x ∨ (w10.heap.size ≤ x ∧ x < w12.heap.size) := ⟨_, rfl⟩
          have hq23 : ∀ b, Q2 b → Q3 b := fun b hb => by rw [hQ3]; exact .inl hb
          have HC12 : Hid (CW w1 Q3 sb0 cb ⟨p0 p, J2, S3, [z], false⟩ w12) := by show CW _ _ _ _ _ _; rw [hQ3]; exact HC10.out.more hb1012
          have HOT12 : Hid (Ot Q3 TB ⟨y, .slice fa y.f.length fc, .slice ea y.e.length ec⟩ w12) := (HOT10.out.keep (kp_bel hb1012 HC10.out)).mono hq23
          have HRT12 : Hid (Rt Q3 (.slice (some ⟨g10, 0, none⟩) 1 cap10) ⟨z, .slice za z.f.length zc, .slice zea z.e.length zec⟩ w12) := by
            have h := HRT10.out.keep (kp_bel hb1012 HC10.out)
            exact ⟨h.row, fun b hb => hq23 b (h.kr b hb), h.f, h.e, fun b hb => hq23 b (h.kf b hb), fun b hb => hq23 b (h.ke b hb)⟩
          have HNK12 : Hid (Nz Q3 NB (.slice pa nn.p.length pc) (.slice ca nn.c.length cc) nn w12) := by
            have hs1 := HBA.out.size
            have hs2 := hb1112.size
            refine ⟨hN12, by rw [hQ3]; exact .inr ⟨by rw [hNB]; exact Nat.le_trans hs1 hB11.size, blk_lt hN12⟩, own_base (own_below ho1 hb1112) (Nat.zero_le _), own_base (own_below ho2 hb1112) (Nat.zero_le _), fun b hb => ?_, fun b hb => ?_⟩
            · have := ho1.lt b hb; rw [hQ3]; exact .inr ⟨by omega, by omega⟩
            · have := ho2.lt b hb; rw [hQ3]; exact .inr ⟨by omega, by omega⟩
          have HNN : Hid (nn = J2.n) := hnn
          have HI64 : Hid (In64 nn.p ∧ In64 nn.c) := by show _ ∧ _; rw [HNN.out]; exact rgt_in64 HG3.out.ok.r
          obtain ⟨_, _, _, _, ⟨hB0, hB16⟩, _⟩ := Pn.is_num HIS.out
          have HBB : Hid (0 ≤ p.B ∧ p.B ≤ 16) := ⟨by omega, hB16⟩
          have tz0 : ∀ wx : World, (wx.heap[TB]? = some (.cells #[.int .i64 y.b, .int .i64 y.a, .int .i64 y.n, .int .i64 y.h, .int .i64 y.t, .slice fa y.f.length fc, .slice ea y.e.length ec] 56 (0, 0)) ∧ wx.heap[PB]? = some (.cells #[.int .i64 p.P, .int .i64 p.S, .int .i64 p.W, .slice oa p.l.length oc, .int .i64 p.A, .int .i64 p.B, .int .i64 p.N, .int .i64 p.G] 24 (0, 0))) → wx.cell? ⟨TB, 0, none⟩ = some (.int .i64 y.b) := fun wx h => by rw [blk_cell h.1]; rfl
          have tz1 : ∀ wx : World, (wx.heap[TB]? = some (.cells #[.int .i64 y.b, .int .i64 y.a, .int .i64 y.n, .int .i64 y.h, .int .i64 y.t, .slice fa y.f.length fc, .slice ea y.e.length ec] 56 (0, 0)) ∧ wx.heap[PB]? = some (.cells #[.int .i64 p.P, .int .i64 p.S, .int .i64 p.W, .slice oa p.l.length oc, .int .i64 p.A, .int .i64 p.B, .int .i64 p.N, .int .i64 p.G] 24 (0, 0))) → wx.cell? ⟨TB, 1, none⟩ = some (.int .i64 y.a) := fun wx h => by rw [blk_cell h.1]; rfl
          have tz2 : ∀ wx : World, (wx.heap[TB]? = some (.cells #[.int .i64 y.b, .int .i64 y.a, .int .i64 y.n, .int .i64 y.h, .int .i64 y.t, .slice fa y.f.length fc, .slice ea y.e.length ec] 56 (0, 0)) ∧ wx.heap[PB]? = some (.cells #[.int .i64 p.P, .int .i64 p.S, .int .i64 p.W, .slice oa p.l.length oc, .int .i64 p.A, .int .i64 p.B, .int .i64 p.N, .int .i64 p.G] 24 (0, 0))) → wx.cell? ⟨TB, 2, none⟩ = some (.int .i64 y.n) := fun wx h => by rw [blk_cell h.1]; rfl
          have tz3 : ∀ wx : World, (wx.heap[TB]? = some (.cells #[.int .i64 y.b, .int .i64 y.a, .int .i64 y.n, .int .i64 y.h, .int .i64 y.t, .slice fa y.f.length fc, .slice ea y.e.length ec] 56 (0, 0)) ∧ wx.heap[PB]? = some (.cells #[.int .i64 p.P, .int .i64 p.S, .int .i64 p.W, .slice oa p.l.length oc, .int .i64 p.A, .int .i64 p.B, .int .i64 p.N, .int .i64 p.G] 24 (0, 0))) → wx.cell? ⟨TB, 3, none⟩ = some (.int .i64 y.h) := fun wx h => by rw [blk_cell h.1]; rfl
          have tz4 : ∀ wx : World, (wx.heap[TB]? = some (.cells #[.int .i64 y.b, .int .i64 y.a, .int .i64 y.n, .int .i64 y.h, .int .i64 y.t, .slice fa y.f.length fc, .slice ea y.e.length ec] 56 (0, 0)) ∧ wx.heap[PB]? = some (.cells #[.int .i64 p.P, .int .i64 p.S, .int .i64 p.W, .slice oa p.l.length oc, .int .i64 p.A, .int .i64 p.B, .int .i64 p.N, .int .i64 p.G] 24 (0, 0))) → wx.cell? ⟨TB, 4, none⟩ = some (.int .i64 y.t) := fun wx h => by rw [blk_cell h.1]; rfl
          have tz5 : ∀ wx : World, (wx.heap[TB]? = some (.cells #[.int .i64 y.b, .int .i64 y.a, .int .i64 y.n, .int .i64 y.h, .int .i64 y.t, .slice fa y.f.length fc, .slice ea y.e.length ec] 56 (0, 0)) ∧ wx.heap[PB]? = some (.cells #[.int .i64 p.P, .int .i64 p.S, .int .i64 p.W, .slice oa p.l.length oc, .int .i64 p.A, .int .i64 p.B, .int .i64 p.N, .int .i64 p.G] 24 (0, 0))) → wx.cell? ⟨TB, 5, none⟩ = some (.slice fa y.f.length fc) := fun wx h => by rw [blk_cell h.1]; rfl
          have tz6 : ∀ wx : World, (wx.heap[TB]? = some (.cells #[.int .i64 y.b, .int .i64 y.a, .int .i64 y.n, .int .i64 y.h, .int .i64 y.t, .slice fa y.f.length fc, .slice ea y.e.length ec] 56 (0, 0)) ∧ wx.heap[PB]? = some (.cells #[.int .i64 p.P, .int .i64 p.S, .int .i64 p.W, .slice oa p.l.length oc, .int .i64 p.A, .int .i64 p.B, .int .i64 p.N, .int .i64 p.G] 24 (0, 0))) → wx.cell? ⟨TB, 6, none⟩ = some (.slice ea y.e.length ec) := fun wx h => by rw [blk_cell h.1]; rfl
          have pz0 : ∀ wx : World, (wx.heap[TB]? = some (.cells #[.int .i64 y.b, .int .i64 y.a, .int .i64 y.n, .int .i64 y.h, .int .i64 y.t, .slice fa y.f.length fc, .slice ea y.e.length ec] 56 (0, 0)) ∧ wx.heap[PB]? = some (.cells #[.int .i64 p.P, .int .i64 p.S, .int .i64 p.W, .slice oa p.l.length oc, .int .i64 p.A, .int .i64 p.B, .int .i64 p.N, .int .i64 p.G] 24 (0, 0))) → wx.cell? ⟨PB, 0, none⟩ = some (.int .i64 p.P) := fun wx h => by rw [blk_cell h.2]; rfl
          have pz1 : ∀ wx : World, (wx.heap[TB]? = some (.cells #[.int .i64 y.b, .int .i64 y.a, .int .i64 y.n, .int .i64 y.h, .int .i64 y.t, .slice fa y.f.length fc, .slice ea y.e.length ec] 56 (0, 0)) ∧ wx.heap[PB]? = some (.cells #[.int .i64 p.P, .int .i64 p.S, .int .i64 p.W, .slice oa p.l.length oc, .int .i64 p.A, .int .i64 p.B, .int .i64 p.N, .int .i64 p.G] 24 (0, 0))) → wx.cell? ⟨PB, 1, none⟩ = some (.int .i64 p.S) := fun wx h => by rw [blk_cell h.2]; rfl
          have pz2 : ∀ wx : World, (wx.heap[TB]? = some (.cells #[.int .i64 y.b, .int .i64 y.a, .int .i64 y.n, .int .i64 y.h, .int .i64 y.t, .slice fa y.f.length fc, .slice ea y.e.length ec] 56 (0, 0)) ∧ wx.heap[PB]? = some (.cells #[.int .i64 p.P, .int .i64 p.S, .int .i64 p.W, .slice oa p.l.length oc, .int .i64 p.A, .int .i64 p.B, .int .i64 p.N, .int .i64 p.G] 24 (0, 0))) → wx.cell? ⟨PB, 2, none⟩ = some (.int .i64 p.W) := fun wx h => by rw [blk_cell h.2]; rfl
          have pz3 : ∀ wx : World, (wx.heap[TB]? = some (.cells #[.int .i64 y.b, .int .i64 y.a, .int .i64 y.n, .int .i64 y.h, .int .i64 y.t, .slice fa y.f.length fc, .slice ea y.e.length ec] 56 (0, 0)) ∧ wx.heap[PB]? = some (.cells #[.int .i64 p.P, .int .i64 p.S, .int .i64 p.W, .slice oa p.l.length oc, .int .i64 p.A, .int .i64 p.B, .int .i64 p.N, .int .i64 p.G] 24 (0, 0))) → wx.cell? ⟨PB, 3, none⟩ = some (.slice oa p.l.length oc) := fun wx h => by rw [blk_cell h.2]; rfl
          have pz4 : ∀ wx : World, (wx.heap[TB]? = some (.cells #[.int .i64 y.b, .int .i64 y.a, .int .i64 y.n, .int .i64 y.h, .int .i64 y.t, .slice fa y.f.length fc, .slice ea y.e.length ec] 56 (0, 0)) ∧ wx.heap[PB]? = some (.cells #[.int .i64 p.P, .int .i64 p.S, .int .i64 p.W, .slice oa p.l.length oc, .int .i64 p.A, .int .i64 p.B, .int .i64 p.N, .int .i64 p.G] 24 (0, 0))) → wx.cell? ⟨PB, 4, none⟩ = some (.int .i64 p.A) := fun wx h => by rw [blk_cell h.2]; rfl
          have pz5 : ∀ wx : World, (wx.heap[TB]? = some (.cells #[.int .i64 y.b, .int .i64 y.a, .int .i64 y.n, .int .i64 y.h, .int .i64 y.t, .slice fa y.f.length fc, .slice ea y.e.length ec] 56 (0, 0)) ∧ wx.heap[PB]? = some (.cells #[.int .i64 p.P, .int .i64 p.S, .int .i64 p.W, .slice oa p.l.length oc, .int .i64 p.A, .int .i64 p.B, .int .i64 p.N, .int .i64 p.G] 24 (0, 0))) → wx.cell? ⟨PB, 5, none⟩ = some (.int .i64 p.B) := fun wx h => by rw [blk_cell h.2]; rfl
          have pz6 : ∀ wx : World, (wx.heap[TB]? = some (.cells #[.int .i64 y.b, .int .i64 y.a, .int .i64 y.n, .int .i64 y.h, .int .i64 y.t, .slice fa y.f.length fc, .slice ea y.e.length ec] 56 (0, 0)) ∧ wx.heap[PB]? = some (.cells #[.int .i64 p.P, .int .i64 p.S, .int .i64 p.W, .slice oa p.l.length oc, .int .i64 p.A, .int .i64 p.B, .int .i64 p.N, .int .i64 p.G] 24 (0, 0))) → wx.cell? ⟨PB, 6, none⟩ = some (.int .i64 p.N) := fun wx h => by rw [blk_cell h.2]; rfl
          have pz7 : ∀ wx : World, (wx.heap[TB]? = some (.cells #[.int .i64 y.b, .int .i64 y.a, .int .i64 y.n, .int .i64 y.h, .int .i64 y.t, .slice fa y.f.length fc, .slice ea y.e.length ec] 56 (0, 0)) ∧ wx.heap[PB]? = some (.cells #[.int .i64 p.P, .int .i64 p.S, .int .i64 p.W, .slice oa p.l.length oc, .int .i64 p.A, .int .i64 p.B, .int .i64 p.N, .int .i64 p.G] 24 (0, 0))) → wx.cell? ⟨PB, 7, none⟩ = some (.int .i64 p.G) := fun wx h => by rw [blk_cell h.2]; rfl
          clear ho1 ho2 hB11 hnn hw12 hb1112 hNB hb1012 hN12 hQ3 hq23 hg10n hB0 hB16 hG64 hn64
          go_upto_region 32 with fail
          rw [← HW12.out, ← HNBD.out]
          refine wp_region_noPanic ?_
          refine wp_region_held_drew (S := (fun wx : World => wx.heap[TB]? = some (.cells #[.int .i64 y.b, .int .i64 y.a, .int .i64 y.n, .int .i64 y.h, .int .i64 y.t, .slice fa y.f.length fc, .slice ea y.e.length ec] 56 (0, 0)) ∧ wx.heap[PB]? = some (.cells #[.int .i64 p.P, .int .i64 p.S, .int .i64 p.W, .slice oa p.l.length oc, .int .i64 p.A, .int .i64 p.B, .int .i64 p.N, .int .i64 p.G] 24 (0, 0)))) (by kernel_rfl) ?_ (fun hHeld => ?_)
          · exact ⟨(HOT12.out.keep (kp_bel (below_drewN w12 1) HC12.out)).tb, blk_below HPB1.out (HC12.out.below (below_drewN w12 1)).bel⟩
          refine wpAnyH_take (i := 0) (oi := ⟨some 193, _, _, _, _, _⟩) (v := ?_) rfl (by kernel_rfl) (by kernel_rfl) (by kernel_rfl) (fun _ _ _ h => h) (Or.inl ⟨by rfl, ?_⟩) hHeld ?_
          rotate_left
          · intro w hSw; (try dsimp only at hSw); go_simp; all_goals (with_reducible rfl)
          try simp only [Act.put, List.setIfInBounds_toArray, List.set_cons_zero, List.set_cons_succ]
          refine wpAnyH_take (i := 1) (oi := ⟨some 194, _, _, _, _, _⟩) (v := ?_) rfl (by kernel_rfl) (by kernel_rfl) (by kernel_rfl) (fun _ _ _ h => h) (Or.inl ⟨by rfl, ?_⟩) hHeld ?_
          rotate_left
          · intro w hSw; (try dsimp only at hSw); go_simp; all_goals (with_reducible rfl)
          try simp only [Act.put, List.setIfInBounds_toArray, List.set_cons_zero, List.set_cons_succ]
          refine wpAnyH_take (i := 2) (oi := ⟨some 195, _, _, _, _, _⟩) (v := ?_) rfl (by kernel_rfl) (by kernel_rfl) (by kernel_rfl) (fun _ _ _ h => h) (Or.inl ⟨by rfl, ?_⟩) hHeld ?_
          rotate_left
          · intro w hSw; (try dsimp only at hSw); go_simp; all_goals (with_reducible rfl)
          try simp only [Act.put, List.setIfInBounds_toArray, List.set_cons_zero, List.set_cons_succ]
          refine wpAnyH_take (i := 3) (oi := ⟨some 196, _, _, _, _, _⟩) (v := ?_) rfl (by kernel_rfl) (by kernel_rfl) (by kernel_rfl) (fun _ _ _ h => h) (Or.inl ⟨by rfl, ?_⟩) hHeld ?_
          rotate_left
          · intro w hSw; (try dsimp only at hSw); go_simp; all_goals (with_reducible rfl)
          try simp only [Act.put, List.setIfInBounds_toArray, List.set_cons_zero, List.set_cons_succ]
          refine wpAnyH_take (i := 4) (oi := ⟨some 197, _, _, _, _, _⟩) (v := ?_) rfl (by kernel_rfl) (by kernel_rfl) (by kernel_rfl) (fun _ _ _ h => h) (Or.inl ⟨by rfl, ?_⟩) hHeld ?_
          rotate_left
          · intro w hSw; (try dsimp only at hSw); go_simp; all_goals (with_reducible rfl)
          try simp only [Act.put, List.setIfInBounds_toArray, List.set_cons_zero, List.set_cons_succ]
          refine wpAnyH_take (i := 5) (oi := ⟨some 198, _, _, _, _, _⟩) (v := ?_) rfl (by kernel_rfl) (by kernel_rfl) (by kernel_rfl) (fun _ _ _ h => h) (Or.inl ⟨by rfl, ?_⟩) hHeld ?_
          rotate_left
          · intro w hSw; (try dsimp only at hSw); go_simp; all_goals (with_reducible rfl)
          try simp only [Act.put, List.setIfInBounds_toArray, List.set_cons_zero, List.set_cons_succ]
          refine wpAnyH_ready (rs := [6]) (by kernel_rfl) (by simp) ?_
          refine AllReadyH.cons (o := ⟨some 199, _, _, _, _, _⟩) rfl (fun K hK => ?_) AllReadyH.nil
          go_simp
          refine (onward_walk (p := p) (f := y.f) (l := ol) ⟨_, _, _, rfl⟩ (own_nv ((HOT12.out.keep (kp_bel (below_drewN w12 1) HC12.out)).f) (in64_of HYOK.out.fm)) (HOL.out.below (HB1.out.trans ((HC12.out.below (below_drewN w12 1)).bel.mono HB1.out.size))) HYOK.out.fm HYOK.out.fl HBB.out.1 HBB.out.2).mono ?_
          rintro e wB ⟨vB, rfl, hoB, hBB⟩
          obtain ⟨lo12, hlo⟩ : ∃ lo, lo = onw p.B y.f ol := ⟨_, rfl⟩
          have HLO : Hid (lo12.length = y.f.length ∧ ∀ v ∈ lo12, 0 ≤ v ∧ v ≤ 256) := ⟨by rw [hlo, onw_len], by rw [hlo]; exact onw_m HBB.out.1 HYOK.out.fm⟩
          rw [← hlo] at hoB
          obtain ⟨ab12, kb12, rfl, _, _⟩ := own_formY hoB
          have HBB1 : Hid (Below w12.heap.size w12 wB) := below_trans (below_drewN w12 1) hBB
          have HOB : Hid (OwN w12.heap.size wB (.slice ab12 lo12.length kb12) lo12) := own_base hoB (below_drewN w12 1).size
          clear hoB hBB hlo
          refine hK.out _ _ ?_ (fun hHeld => ?_)
          · exact ⟨(HOT12.out.keep (kp_bel HBB1.out HC12.out)).tb, blk_below HPB1.out (HC12.out.below HBB1.out).bel⟩
          clear hK K
          try simp only [Act.put, List.setIfInBounds_toArray, List.set_cons_zero, List.set_cons_succ]
          refine wpAnyH_ready (rs := [7]) (by kernel_rfl) (by simp) ?_
          refine AllReadyH.cons (o := ⟨some 200, _, _, _, _, _⟩) rfl (fun K hK => ?_) AllReadyH.nil
          go_simp
          refine (about19_walk (x := ⟨y, .slice fa y.f.length fc, .slice ea y.e.length ec⟩) (k := 2) (ev := .slice ab12 lo12.length kb12) (l := lo12) ((HOT12.out.keep (kp_bel HBB1.out HC12.out)).yl HYOK.out) (own_nv HOB.out (in64_of HLO.out.2))).mono ?_
          rintro e wC ⟨rfl, hBC⟩
          have HBC1 : Hid (Below w12.heap.size w12 wC) := below_trans HBB1.out hBC
          have HOC : Hid (OwN w12.heap.size wC (.slice ab12 lo12.length kb12) lo12) := own_below HOB.out hBC
          clear hBC
          refine hK.out _ _ ?_ (fun hHeld => ?_)
          · exact ⟨(HOT12.out.keep (kp_bel HBC1.out HC12.out)).tb, blk_below HPB1.out (HC12.out.below HBC1.out).bel⟩
          clear hK K
          refine wpAnyH_ready (rs := [8]) (by kernel_rfl) (by simp) ?_
          refine AllReadyH.cons (o := ⟨some 201, _, _, _, _, _⟩) rfl (fun K hK => ?_) AllReadyH.nil
          go_simp
          have HMKX : Hid (Mok (⟨2, y.n, 0, y.b, y.a, 0, lo12, [], []⟩ : Ms)) := HMK.out 2 lo12 (by decide) HLO.out.1 HLO.out.2
          have hta := take_old (p := p) (y := z) (m := (⟨2, y.n, 0, y.b, y.a, 0, lo12, [], []⟩ : Ms)) HG3.out HMKX.out HZA.out
          refine (take_walk19 (m := (⟨2, y.n, 0, y.b, y.a, 0, lo12, [], []⟩ : Ms)) (HC12.out.more HBC1.out) (ml_sn (own_base HOC.out (Nat.zero_le _)) (in64_of HLO.out.2) (fun b hb => .inr (HOC.out.lt b hb)) rfl rfl) HWR3.out).mono ?_
          rw [hta.1, hta.2.1, hta.2.2]
          rintro e w14 ⟨vD, BD, rfl, hvD, _, hcwD, hchD⟩
          have hvD : vD = .slice none 0 0 := hvD
          subst hvD
          have HC14 : Hid (CW w1 Q3 sb0 cb ⟨p0 p, J2, S3, [z], false⟩ w14) := hcwD.less (fun x hx => .inl (.inl hx))
          have hkD : ∀ b, Q3 b → w14.heap[b]? = w12.heap[b]? := fun b hb => (kp_cha hchD (HC12.out.more HBC1.out) b (.inl hb)).trans (HBC1.out.block b (HC12.out.al hb))
          have HOT14 : Hid (Ot Q3 TB ⟨y, .slice fa y.f.length fc, .slice ea y.e.length ec⟩ w14) := HOT12.out.keep hkD
          have HRT14 : Hid (Rt Q3 (.slice (some ⟨g10, 0, none⟩) 1 cap10) ⟨z, .slice za z.f.length zc, .slice zea z.e.length zec⟩ w14) := HRT12.out.keep hkD
          have HNK14 : Hid (Nz Q3 NB (.slice pa nn.p.length pc) (.slice ca nn.c.length cc) nn w14) := HNK12.out.keep hkD
          clear hta hcwD hchD hkD
          refine hK.out _ _ ?_ (fun hHeld => ?_)
          · exact ⟨HOT14.out.tb, blk_below HPB1.out HC14.out.bel⟩
          clear hK K
          try simp only [Act.put, List.setIfInBounds_toArray, List.set_cons_zero, List.set_cons_succ]
          refine wpAnyH_take (i := 9) (oi := ⟨some 192, _, _, _, _, _⟩) (v := ?_) rfl (by kernel_rfl) (by kernel_rfl) (by kernel_rfl) (fun _ _ _ h => h) (Or.inl ⟨by rfl, ?_⟩) hHeld ?_
          rotate_left
          · intro w hSw; (try dsimp only at hSw); go_simp; all_goals (with_reducible rfl)
          try simp only [Act.put, List.setIfInBounds_toArray, List.set_cons_zero, List.set_cons_succ]
          refine wpAnyH_take (i := 10) (oi := ⟨some 202, _, _, _, _, _⟩) (v := ?_) rfl (by kernel_rfl) (by kernel_rfl) (by kernel_rfl) (fun _ _ _ h => h) (Or.inl ⟨by rfl, ?_⟩) hHeld ?_
          rotate_left
          · intro w hSw; (try dsimp only at hSw); go_simp; all_goals (with_reducible rfl)
          try simp only [Act.put, List.setIfInBounds_toArray, List.set_cons_zero, List.set_cons_succ]
          refine wpAnyH_take (i := 11) (oi := ⟨some 203, _, _, _, _, _⟩) (v := ?_) rfl (by kernel_rfl) (by kernel_rfl) (by kernel_rfl) (fun _ _ _ h => h) (Or.inl ⟨by rfl, ?_⟩) hHeld ?_
          rotate_left
          · intro w hSw; (try dsimp only at hSw); go_simp; all_goals (with_reducible rfl)
          try simp only [Act.put, List.setIfInBounds_toArray, List.set_cons_zero, List.set_cons_succ]
          refine wpAnyH_take (i := 12) (oi := ⟨some 14, _, _, _, _, _⟩) (v := ?_) rfl (by kernel_rfl) (by kernel_rfl) (by kernel_rfl) (fun _ _ _ h => h) (Or.inl ⟨by rfl, ?_⟩) hHeld ?_
          rotate_left
          · intro w hSw; (try dsimp only at hSw); go_simp; all_goals (with_reducible rfl)
          try simp only [Act.put, List.setIfInBounds_toArray, List.set_cons_zero, List.set_cons_succ]
          refine wpAnyH_take (i := 13) (oi := ⟨some 13, _, _, _, _, _⟩) (v := ?_) rfl (by kernel_rfl) (by kernel_rfl) (by kernel_rfl) (fun _ _ _ h => h) (Or.inl ⟨by rfl, ?_⟩) hHeld ?_
          rotate_left
          · intro w hSw; (try dsimp only at hSw); go_simp; all_goals (with_reducible rfl)
          try simp only [Act.put, List.setIfInBounds_toArray, List.set_cons_zero, List.set_cons_succ]
          refine wpAnyH_done (by kernel_rfl) ?_ _
          refine NoPanic.normal ?_
          go_upto_region 35 with fail
          refine wp_region_noPanic ?_
          refine wp_region_held_drew (S := (fun wx : World => wx.heap[TB]? = some (.cells #[.int .i64 y.b, .int .i64 y.a, .int .i64 y.n, .int .i64 y.h, .int .i64 y.t, .slice fa y.f.length fc, .slice ea y.e.length ec] 56 (0, 0)) ∧ wx.heap[PB]? = some (.cells #[.int .i64 p.P, .int .i64 p.S, .int .i64 p.W, .slice oa p.l.length oc, .int .i64 p.A, .int .i64 p.B, .int .i64 p.N, .int .i64 p.G] 24 (0, 0)))) (by kernel_rfl) ?_ (fun hHeld => ?_)
          · exact ⟨(HOT14.out.keep (kp_bel (below_drewN w14 1) HC14.out)).tb, blk_below HPB1.out (HC14.out.below (below_drewN w14 1)).bel⟩
          refine wpAnyH_take (i := 0) (oi := ⟨some 212, _, _, _, _, _⟩) (v := ?_) rfl (by kernel_rfl) (by kernel_rfl) (by kernel_rfl) (fun _ _ _ h => h) (Or.inl ⟨by rfl, ?_⟩) hHeld ?_
          rotate_left
          · intro w hSw; (try dsimp only at hSw); go_simp; all_goals (with_reducible rfl)
          try simp only [Act.put, List.setIfInBounds_toArray, List.set_cons_zero, List.set_cons_succ]
          refine wpAnyH_take (i := 1) (oi := ⟨some 213, _, _, _, _, _⟩) (v := ?_) rfl (by kernel_rfl) (by kernel_rfl) (by kernel_rfl) (fun _ _ _ h => h) (Or.inl ⟨by rfl, ?_⟩) hHeld ?_
          rotate_left
          · intro w hSw; (try dsimp only at hSw); go_simp; all_goals (with_reducible rfl)
          try simp only [Act.put, List.setIfInBounds_toArray, List.set_cons_zero, List.set_cons_succ]
          refine wpAnyH_take (i := 2) (oi := ⟨some 214, _, _, _, _, _⟩) (v := ?_) rfl (by kernel_rfl) (by kernel_rfl) (by kernel_rfl) (fun _ _ _ h => h) (Or.inl ⟨by rfl, ?_⟩) hHeld ?_
          rotate_left
          · intro w hSw; (try dsimp only at hSw); go_simp; all_goals (with_reducible rfl)
          try simp only [Act.put, List.setIfInBounds_toArray, List.set_cons_zero, List.set_cons_succ]
          refine wpAnyH_take (i := 3) (oi := ⟨some 215, _, _, _, _, _⟩) (v := ?_) rfl (by kernel_rfl) (by kernel_rfl) (by kernel_rfl) (fun _ _ _ h => h) (Or.inl ⟨by rfl, ?_⟩) hHeld ?_
          rotate_left
          · intro w hSw; (try dsimp only at hSw); go_simp; all_goals (with_reducible rfl)
          try simp only [Act.put, List.setIfInBounds_toArray, List.set_cons_zero, List.set_cons_succ]
          refine wpAnyH_take (i := 4) (oi := ⟨some 216, _, _, _, _, _⟩) (v := ?_) rfl (by kernel_rfl) (by kernel_rfl) (by kernel_rfl) (fun _ _ _ h => h) (Or.inl ⟨by rfl, ?_⟩) hHeld ?_
          rotate_left
          · intro w hSw; (try dsimp only at hSw); go_simp; all_goals (with_reducible rfl)
          try simp only [Act.put, List.setIfInBounds_toArray, List.set_cons_zero, List.set_cons_succ]
          refine wpAnyH_take (i := 5) (oi := ⟨some 217, _, _, _, _, _⟩) (v := ?_) rfl (by kernel_rfl) (by kernel_rfl) (by kernel_rfl) (fun _ _ _ h => h) (Or.inl ⟨by rfl, ?_⟩) hHeld ?_
          rotate_left
          · intro w hSw; (try dsimp only at hSw); go_simp; all_goals (with_reducible rfl)
          try simp only [Act.put, List.setIfInBounds_toArray, List.set_cons_zero, List.set_cons_succ]
          refine wpAnyH_ready (rs := [6]) (by kernel_rfl) (by simp) ?_
          refine AllReadyH.cons (o := ⟨some 218, _, _, _, _, _⟩) rfl (fun K hK => ?_) AllReadyH.nil
          go_simp
          refine (onward_walk (p := p) (f := y.f) (l := ol) ⟨_, _, _, rfl⟩ (own_nv ((HOT14.out.keep (kp_bel (below_drewN w14 1) HC14.out)).f) (in64_of HYOK.out.fm)) (HOL.out.below (HB1.out.trans ((HC14.out.below (below_drewN w14 1)).bel.mono HB1.out.size))) HYOK.out.fm HYOK.out.fl HBB.out.1 HBB.out.2).mono ?_
          rintro e wB ⟨vB, rfl, hoB, hBB⟩
          obtain ⟨lo14, hlo⟩ : ∃ lo, lo = onw p.B y.f ol := ⟨_, rfl⟩
          have HLO : Hid (lo14.length = y.f.length ∧ ∀ v ∈ lo14, 0 ≤ v ∧ v ≤ 256) := ⟨by rw [hlo, onw_len], by rw [hlo]; exact onw_m HBB.out.1 HYOK.out.fm⟩
          rw [← hlo] at hoB
          obtain ⟨ab14, kb14, rfl, _, _⟩ := own_formY hoB
          have HBB1 : Hid (Below w14.heap.size w14 wB) := below_trans (below_drewN w14 1) hBB
          have HOB : Hid (OwN w14.heap.size wB (.slice ab14 lo14.length kb14) lo14) := own_base hoB (below_drewN w14 1).size
          clear hoB hBB hlo
          refine hK.out _ _ ?_ (fun hHeld => ?_)
          · exact ⟨(HOT14.out.keep (kp_bel HBB1.out HC14.out)).tb, blk_below HPB1.out (HC14.out.below HBB1.out).bel⟩
          clear hK K
          try simp only [Act.put, List.setIfInBounds_toArray, List.set_cons_zero, List.set_cons_succ]
          refine wpAnyH_ready (rs := [7]) (by kernel_rfl) (by simp) ?_
          refine AllReadyH.cons (o := ⟨some 219, _, _, _, _, _⟩) rfl (fun K hK => ?_) AllReadyH.nil
          go_simp
          refine (about19_walk (x := ⟨y, .slice fa y.f.length fc, .slice ea y.e.length ec⟩) (k := 8) (ev := .slice ab14 lo14.length kb14) (l := lo14) ((HOT14.out.keep (kp_bel HBB1.out HC14.out)).yl HYOK.out) (own_nv HOB.out (in64_of HLO.out.2))).mono ?_
          rintro e wC ⟨rfl, hBC⟩
          have HBC1 : Hid (Below w14.heap.size w14 wC) := below_trans HBB1.out hBC
          have HOC : Hid (OwN w14.heap.size wC (.slice ab14 lo14.length kb14) lo14) := own_below HOB.out hBC
          clear hBC
          refine hK.out _ _ ?_ (fun hHeld => ?_)
          · exact ⟨(HOT14.out.keep (kp_bel HBC1.out HC14.out)).tb, blk_below HPB1.out (HC14.out.below HBC1.out).bel⟩
          clear hK K
          refine wpAnyH_ready (rs := [8]) (by kernel_rfl) (by simp) ?_
          refine AllReadyH.cons (o := ⟨some 220, _, _, _, _, _⟩) rfl (fun K hK => ?_) AllReadyH.nil
          go_simp
          have HMKX : Hid (Mok (⟨8, y.n, 0, y.b, y.a, 0, lo14, [], []⟩ : Ms)) := HMK.out 8 lo14 (by decide) HLO.out.1 HLO.out.2
          have hta := take_old (p := p) (y := z) (m := (⟨8, y.n, 0, y.b, y.a, 0, lo14, [], []⟩ : Ms)) HG3.out HMKX.out HZA.out
          refine (take_walk19 (m := (⟨8, y.n, 0, y.b, y.a, 0, lo14, [], []⟩ : Ms)) (HC14.out.more HBC1.out) (ml_sn (own_base HOC.out (Nat.zero_le _)) (in64_of HLO.out.2) (fun b hb => .inr (HOC.out.lt b hb)) rfl rfl) HWR3.out).mono ?_
          rw [hta.1, hta.2.1, hta.2.2]
          rintro e w16 ⟨vD, BD, rfl, hvD, _, hcwD, hchD⟩
          have hvD : vD = .slice none 0 0 := hvD
          subst hvD
          have HC16 : Hid (CW w1 Q3 sb0 cb ⟨p0 p, J2, S3, [z], false⟩ w16) := hcwD.less (fun x hx => .inl (.inl hx))
          have hkD : ∀ b, Q3 b → w16.heap[b]? = w14.heap[b]? := fun b hb => (kp_cha hchD (HC14.out.more HBC1.out) b (.inl hb)).trans (HBC1.out.block b (HC14.out.al hb))
          have HOT16 : Hid (Ot Q3 TB ⟨y, .slice fa y.f.length fc, .slice ea y.e.length ec⟩ w16) := HOT14.out.keep hkD
          have HRT16 : Hid (Rt Q3 (.slice (some ⟨g10, 0, none⟩) 1 cap10) ⟨z, .slice za z.f.length zc, .slice zea z.e.length zec⟩ w16) := HRT14.out.keep hkD
          have HNK16 : Hid (Nz Q3 NB (.slice pa nn.p.length pc) (.slice ca nn.c.length cc) nn w16) := HNK14.out.keep hkD
          clear hta hcwD hchD hkD
          refine hK.out _ _ ?_ (fun hHeld => ?_)
          · exact ⟨HOT16.out.tb, blk_below HPB1.out HC16.out.bel⟩
          clear hK K
          try simp only [Act.put, List.setIfInBounds_toArray, List.set_cons_zero, List.set_cons_succ]
          refine wpAnyH_take (i := 9) (oi := ⟨some 211, _, _, _, _, _⟩) (v := ?_) rfl (by kernel_rfl) (by kernel_rfl) (by kernel_rfl) (fun _ _ _ h => h) (Or.inl ⟨by rfl, ?_⟩) hHeld ?_
          rotate_left
          · intro w hSw; (try dsimp only at hSw); go_simp; all_goals (with_reducible rfl)
          try simp only [Act.put, List.setIfInBounds_toArray, List.set_cons_zero, List.set_cons_succ]
          refine wpAnyH_take (i := 10) (oi := ⟨some 221, _, _, _, _, _⟩) (v := ?_) rfl (by kernel_rfl) (by kernel_rfl) (by kernel_rfl) (fun _ _ _ h => h) (Or.inl ⟨by rfl, ?_⟩) hHeld ?_
          rotate_left
          · intro w hSw; (try dsimp only at hSw); go_simp; all_goals (with_reducible rfl)
          try simp only [Act.put, List.setIfInBounds_toArray, List.set_cons_zero, List.set_cons_succ]
          refine wpAnyH_take (i := 11) (oi := ⟨some 222, _, _, _, _, _⟩) (v := ?_) rfl (by kernel_rfl) (by kernel_rfl) (by kernel_rfl) (fun _ _ _ h => h) (Or.inl ⟨by rfl, ?_⟩) hHeld ?_
          rotate_left
          · intro w hSw; (try dsimp only at hSw); go_simp; all_goals (with_reducible rfl)
          try simp only [Act.put, List.setIfInBounds_toArray, List.set_cons_zero, List.set_cons_succ]
          refine wpAnyH_take (i := 12) (oi := ⟨some 14, _, _, _, _, _⟩) (v := ?_) rfl (by kernel_rfl) (by kernel_rfl) (by kernel_rfl) (fun _ _ _ h => h) (Or.inl ⟨by rfl, ?_⟩) hHeld ?_
          rotate_left
          · intro w hSw; (try dsimp only at hSw); go_simp; all_goals (with_reducible rfl)
          try simp only [Act.put, List.setIfInBounds_toArray, List.set_cons_zero, List.set_cons_succ]
          refine wpAnyH_take (i := 13) (oi := ⟨some 13, _, _, _, _, _⟩) (v := ?_) rfl (by kernel_rfl) (by kernel_rfl) (by kernel_rfl) (fun _ _ _ h => h) (Or.inl ⟨by rfl, ?_⟩) hHeld ?_
          rotate_left
          · intro w hSw; (try dsimp only at hSw); go_simp; all_goals (with_reducible rfl)
          try simp only [Act.put, List.setIfInBounds_toArray, List.set_cons_zero, List.set_cons_succ]
          refine wpAnyH_done (by kernel_rfl) ?_ _
          refine NoPanic.normal ?_
          clear tz0 tz1 tz2 tz3 tz4 tz5 tz6 pz0 pz1 pz2 pz3 pz4 pz5 pz6 pz7
          have nz0 : ∀ wx, Below w16.heap.size w16 wx → wx.cell? ⟨NB, 0, none⟩ = some (.int .i64 nn.b) := fun wx hb => cell_bel hb (blk_lt HNK16.out.tb) (by rw [blk_cell HNK16.out.tb]; rfl)
          have nz1 : ∀ wx, Below w16.heap.size w16 wx → wx.cell? ⟨NB, 1, none⟩ = some (.slice pa nn.p.length pc) := fun wx hb => cell_bel hb (blk_lt HNK16.out.tb) (by rw [blk_cell HNK16.out.tb]; rfl)
          have nz2 : ∀ wx, Below w16.heap.size w16 wx → wx.cell? ⟨NB, 2, none⟩ = some (.slice ca nn.c.length cc) := fun wx hb => cell_bel hb (blk_lt HNK16.out.tb) (by rw [blk_cell HNK16.out.tb]; rfl)
          have nz3 : ∀ wx, Below w16.heap.size w16 wx → wx.cell? ⟨NB, 3, none⟩ = some (.int .i64 nn.a) := fun wx hb => cell_bel hb (blk_lt HNK16.out.tb) (by rw [blk_cell HNK16.out.tb]; rfl)
          as_aux_lemma =>
            go_upto_region 36 with fail
            refine wp_region_noPanic ?_
            refine wp_region_held_drew (S := (fun wx => Below w16.heap.size w16 wx)) (by kernel_rfl) ?_ (fun hHeld => ?_)
            · exact (below_drewN w16 1)
            refine wpAnyH_take (i := 0) (oi := ⟨some 223, _, _, _, _, _⟩) (v := ?_) rfl (by kernel_rfl) (by kernel_rfl) (by kernel_rfl) (fun _ _ _ h => h) (Or.inl ⟨by rfl, ?_⟩) hHeld ?_
            rotate_left
            · intro w hSw; (try dsimp only at hSw); go_simp; all_goals (with_reducible rfl)
            try simp only [Act.put, List.setIfInBounds_toArray, List.set_cons_zero, List.set_cons_succ]
            refine wpAnyH_take (i := 1) (oi := ⟨some 224, _, _, _, _, _⟩) (v := ?_) rfl (by kernel_rfl) (by kernel_rfl) (by kernel_rfl) (fun _ _ _ h => h) (Or.inl ⟨by rfl, ?_⟩) hHeld ?_
            rotate_left
            · intro w hSw; (try dsimp only at hSw); go_simp; all_goals (with_reducible rfl)
            try simp only [Act.put, List.setIfInBounds_toArray, List.set_cons_zero, List.set_cons_succ]
            refine wpAnyH_take (i := 2) (oi := ⟨some 225, _, _, _, _, _⟩) (v := ?_) rfl (by kernel_rfl) (by kernel_rfl) (by kernel_rfl) (fun _ _ _ h => h) (Or.inl ⟨by rfl, ?_⟩) hHeld ?_
            rotate_left
            · intro w hSw; (try dsimp only at hSw); go_simp; all_goals (with_reducible rfl)
            try simp only [Act.put, List.setIfInBounds_toArray, List.set_cons_zero, List.set_cons_succ]
            refine wpAnyH_take (i := 3) (oi := ⟨some 226, _, _, _, _, _⟩) (v := ?_) rfl (by kernel_rfl) (by kernel_rfl) (by kernel_rfl) (fun _ _ _ h => h) (Or.inl ⟨by rfl, ?_⟩) hHeld ?_
            rotate_left
            · intro w hSw; (try dsimp only at hSw); go_simp; all_goals (with_reducible rfl)
            try simp only [Act.put, List.setIfInBounds_toArray, List.set_cons_zero, List.set_cons_succ]
            refine wpAnyH_take (i := 4) (oi := ⟨some 227, _, _, _, _, _⟩) (v := ?_) rfl (by kernel_rfl) (by kernel_rfl) (by kernel_rfl) (fun _ _ _ h => h) (Or.inl ⟨by rfl, ?_⟩) hHeld ?_
            rotate_left
            · intro w hSw; (try dsimp only at hSw); go_simp; all_goals (with_reducible rfl)
            try simp only [Act.put, List.setIfInBounds_toArray, List.set_cons_zero, List.set_cons_succ]
            refine wpAnyH_take (i := 5) (oi := ⟨some 228, _, _, _, _, _⟩) (v := ?_) rfl (by kernel_rfl) (by kernel_rfl) (by kernel_rfl) (fun _ _ _ h => h) (Or.inl ⟨by rfl, ?_⟩) hHeld ?_
            rotate_left
            · intro w hSw; (try dsimp only at hSw); go_simp; all_goals (with_reducible rfl)
            try simp only [Act.put, List.setIfInBounds_toArray, List.set_cons_zero, List.set_cons_succ]
            refine wpAnyH_take (i := 6) (oi := ⟨some 229, _, _, _, _, _⟩) (v := ?_) rfl (by kernel_rfl) (by kernel_rfl) (by kernel_rfl) (fun _ _ _ h => h) (Or.inl ⟨by rfl, ?_⟩) hHeld ?_
            rotate_left
            · intro w hSw; (try dsimp only at hSw); go_simp; all_goals (with_reducible rfl)
            try simp only [Act.put, List.setIfInBounds_toArray, List.set_cons_zero, List.set_cons_succ]
            refine wpAnyH_take (i := 7) (oi := ⟨some 230, _, _, _, _, _⟩) (v := ?_) rfl (by kernel_rfl) (by kernel_rfl) (by kernel_rfl) (fun _ _ _ h => h) (Or.inl ⟨by rfl, ?_⟩) hHeld ?_
            rotate_left
            · intro w hSw; (try dsimp only at hSw); go_simp; all_goals (with_reducible rfl)
            try simp only [Act.put, List.setIfInBounds_toArray, List.set_cons_zero, List.set_cons_succ]
            refine wpAnyH_take (i := 8) (oi := ⟨some 231, _, _, _, _, _⟩) (v := ?_) rfl (by kernel_rfl) (by kernel_rfl) (by kernel_rfl) (fun _ _ _ h => h) (Or.inl ⟨by rfl, ?_⟩) hHeld ?_
            rotate_left
            · intro w hSw; (try dsimp only at hSw); go_simp; all_goals (with_reducible rfl)
            try simp only [Act.put, List.setIfInBounds_toArray, List.set_cons_zero, List.set_cons_succ]
            refine wpAnyH_take (i := 10) (oi := ⟨some 233, _, _, _, _, _⟩) (v := ?_) rfl (by kernel_rfl) (by kernel_rfl) (by kernel_rfl) (fun _ _ _ h => h) (Or.inl ⟨by rfl, ?_⟩) hHeld ?_
            rotate_left
            · intro w hSw; (try dsimp only at hSw); go_simp; all_goals (with_reducible rfl)
            try simp only [Act.put, List.setIfInBounds_toArray, List.set_cons_zero, List.set_cons_succ]
            refine wpAnyH_ready (rs := [9]) (by kernel_rfl) (by simp) ?_
            refine AllReadyH.cons (o := ⟨some 232, _, _, _, _, _⟩) rfl (fun K hK => ?_) AllReadyH.nil
            go_simp
            refine (ctries_walk (HC16.out.below hHeld)).mono ?_
            rintro e wE ⟨vE, WE, rfl, hyE, hrE, hlE, hBE⟩
            have hokE : ∀ x ∈ WE, x.y.ok := fun x hx => by
                have hm : x.y ∈ WE.map Ye.y := List.mem_map_of_mem hx
                rw [hyE] at hm
                rw [List.mem_singleton.1 hm]; exact HZOK.out
            have HYE : Hid (Yr wE vE WE) := trg_yr hrE hlE hokE
            have HYEQ : Hid (WE.map Ye.y = [z]) := hyE
            have HLE1 : Hid (WE.length = 1) := by have h9 := congrArg List.length hyE; rw [List.length_map] at h9; exact h9
            obtain ⟨aE, cE, rfl, _, _⟩ := own_formY hrE
            have HBE : Hid (Below w16.heap.size w16 wE) := below_trans hHeld hBE
            clear hyE hrE hlE hBE hokE
            refine hK.out _ _ ?_ (fun hHeld => ?_)
            · exact HBE.out
            clear hK K
            try simp only [Act.put, List.setIfInBounds_toArray, List.set_cons_zero, List.set_cons_succ]
            refine wpAnyH_ready (rs := [11]) (by kernel_rfl) (by simp) ?_
            refine AllReadyH.cons (o := ⟨some 234, _, _, _, _, _⟩) rfl (fun K hK => ?_) AllReadyH.nil
            go_simp
            refine (tries19_walk HYE.out ((HRT16.out.keep (kp_bel HBE.out HC16.out)).yr HZOK.out) HYEQ.out (by rw [HLE1.out]; omega)).mono ?_
            rintro e wG ⟨rfl, hBG⟩
            have HBG : Hid (Below w16.heap.size w16 wG) := below_trans HBE.out hBG
            clear hBG
            refine hK.out _ _ ?_ (fun hHeld => ?_)
            · exact HBG.out
            clear hK K
            try simp only [Act.put, List.setIfInBounds_toArray, List.set_cons_zero, List.set_cons_succ]
            refine wpAnyH_take (i := 12) (oi := ⟨some 235, _, _, _, _, _⟩) (v := ?_) rfl (by kernel_rfl) (by kernel_rfl) (by kernel_rfl) (fun _ _ _ h => h) (Or.inl ⟨by rfl, ?_⟩) hHeld ?_
            rotate_left
            · intro w hSw; (try dsimp only at hSw); go_simp; all_goals (with_reducible rfl)
            try simp only [Act.put, List.setIfInBounds_toArray, List.set_cons_zero, List.set_cons_succ]
            refine wpAnyH_take (i := 13) (oi := ⟨some 236, _, _, _, _, _⟩) (v := ?_) rfl (by kernel_rfl) (by kernel_rfl) (by kernel_rfl) (fun _ _ _ h => h) (Or.inl ⟨by rfl, ?_⟩) hHeld ?_
            rotate_left
            · intro w hSw; (try dsimp only at hSw); go_simp; all_goals (with_reducible rfl)
            try simp only [Act.put, List.setIfInBounds_toArray, List.set_cons_zero, List.set_cons_succ]
            refine wpAnyH_take (i := 14) (oi := ⟨some 237, _, _, _, _, _⟩) (v := ?_) rfl (by kernel_rfl) (by kernel_rfl) (by kernel_rfl) (fun _ _ _ h => h) (Or.inl ⟨by rfl, ?_⟩) hHeld ?_
            rotate_left
            · intro w hSw; (try dsimp only at hSw); go_simp; all_goals (with_reducible rfl)
            try simp only [Act.put, List.setIfInBounds_toArray, List.set_cons_zero, List.set_cons_succ]
            refine wpAnyH_take (i := 16) (oi := ⟨some 239, _, _, _, _, _⟩) (v := ?_) rfl (by kernel_rfl) (by kernel_rfl) (by kernel_rfl) (fun _ _ _ h => h) (Or.inl ⟨by rfl, ?_⟩) hHeld ?_
            rotate_left
            · intro w hSw; (try dsimp only at hSw); go_simp; all_goals (with_reducible rfl)
            try simp only [Act.put, List.setIfInBounds_toArray, List.set_cons_zero, List.set_cons_succ]
            refine wpAnyH_ready (rs := [15]) (by kernel_rfl) (by simp) ?_
            refine AllReadyH.cons (o := ⟨some 238, _, _, _, _, _⟩) rfl (fun K hK => ?_) AllReadyH.nil
            go_simp
            refine (cnote_walk (HC16.out.below HBG.out)).mono ?_
            have hJn : (⟨p0 p, J2, S3, [z], false⟩ : Cs).J.n = nn := HNN.out.symm
            rw [hJn]
            clear hJn
            rintro e wH ⟨pa2, pc2, ca2, cc2, rfl, ho1, ho2, hBH⟩
            have HO1h := hidH ho1
            have HO2h := hidH ho2
            have HBH : Hid (Below w16.heap.size w16 wH) := below_trans HBG.out hBH
            clear ho1 ho2 hBH
            refine hK.out _ _ ?_ (fun hHeld => ?_)
            · exact HBH.out
            clear hK K
            try simp only [Act.put, List.setIfInBounds_toArray, List.set_cons_zero, List.set_cons_succ]
            refine wpAnyH_ready (rs := [17]) (by kernel_rfl) (by simp) ?_
            refine AllReadyH.cons (o := ⟨some 240, _, _, _, _, _⟩) rfl (fun K hK => ?_) AllReadyH.nil
            go_simp
            refine (notes_walk (n := nn) (own_nv HO1h.out HI64.out.1) (own_nv (HNK16.out.keep (kp_bel HBH.out HC16.out)).f HI64.out.1) (own_nv HO2h.out HI64.out.2) (own_nv (HNK16.out.keep (kp_bel HBH.out HC16.out)).e HI64.out.2)).mono ?_
            rintro e wF ⟨rfl, hBF⟩
            have HBF : Hid (Below w16.heap.size w16 wF) := below_trans HBH.out hBF
            clear hBF
            refine hK.out _ _ ?_ (fun hHeld => ?_)
            · exact HBF.out
            clear hK K
            try simp only [Act.put, List.setIfInBounds_toArray, List.set_cons_zero, List.set_cons_succ]
            refine wpAnyH_take (i := 18) (oi := ⟨some 241, _, _, _, _, _⟩) (v := ?_) rfl (by kernel_rfl) (by kernel_rfl) (by kernel_rfl) (fun _ _ _ h => h) (Or.inl ⟨by rfl, ?_⟩) hHeld ?_
            rotate_left
            · intro w hSw; (try dsimp only at hSw); go_simp; all_goals (with_reducible rfl)
            try simp only [Act.put, List.setIfInBounds_toArray, List.set_cons_zero, List.set_cons_succ]
            refine wpAnyH_take (i := 19) (oi := ⟨some 6, _, _, _, _, _⟩) (v := ?_) rfl (by kernel_rfl) (by kernel_rfl) (by kernel_rfl) (fun _ _ _ h => h) (Or.inl ⟨by rfl, ?_⟩) hHeld ?_
            rotate_left
            · intro w hSw; (try dsimp only at hSw); go_simp; all_goals (with_reducible rfl)
            try simp only [Act.put, List.setIfInBounds_toArray, List.set_cons_zero, List.set_cons_succ]
            refine wpAnyH_done (by kernel_rfl) ?_ _
            refine NoPanic.normal ?_
            clear nz0 nz1 nz2 nz3
            go_wp2_with fail
            go_ret
            exact ⟨rfl, HB1.out.trans ((HC16.out.bel.trans (HBF.out.mono HC16.out.bel.size)).mono HB1.out.size)⟩
end Go.Proofs.Ytmpdjobllpigpaa
