/- CoordNumbers: the walk. -/
import Derived.Test.YtmpdjobllpigpaaM38
namespace Go.Proofs.Ytmpdjobllpigpaa

open Ieee Go.RowKit

/-- What holds ahead of the act i. -/
structure Lp (wz : World) (WB NB : Nat) (p : Pn) (ov : Value) (i : Nat) (la : Int) (wr : World) : Prop where
  ex : ∃ (K : Nat → Prop) (c : Cs) (M : List Ms), AW wz K WB p ov c M wr ∧ Nk K NB c.J.n wr ∧ Ai p i c ∧ M.length ≤ i ∧ la ≤ c.J.n.a
theorem ao_num {p : Pn} {c c' : Cs} {mo : Option Ms} (h : Ao p c c' mo) : (¬ c'.J.n.a < c.J.n.a) ∧ (¬ c.J.n.a + 1 < c'.J.n.a) ∧ (¬ c'.J.n.b < c.J.n.b) ∧ (¬ c.J.n.b + 1 < c'.J.n.b) ∧ fwdB c.J.n.c c'.J.n.c = true ∧ ((c'.J.n.b = c.J.n.b ∧ c'.J.n.c = c.J.n.c) ∨ (c'.J.n.b = c.J.n.b + 1 ∧ c'.J.n.p = c.J.n.c)) := by
  have hr : Fwd c.J.n.c c.J.n.c := ⟨rfl, fun i _ => Int.le_refl _⟩
  rcases h.nt with e | e | ⟨l, e, hf⟩ <;> rw [e]
  · exact ⟨by omega, by omega, by omega, by omega, hr.yes, .inl ⟨rfl, rfl⟩⟩
  · exact ⟨by show ¬ c.J.n.a + 1 < c.J.n.a; omega, by show ¬ c.J.n.a + 1 < c.J.n.a + 1; omega, by show ¬ c.J.n.b < c.J.n.b; omega, by show ¬ c.J.n.b + 1 < c.J.n.b; omega, hr.yes, .inl ⟨rfl, rfl⟩⟩
  · exact ⟨by show ¬ c.J.n.a < c.J.n.a; omega, by show ¬ c.J.n.a + 1 < c.J.n.a; omega, by show ¬ c.J.n.b + 1 < c.J.n.b; omega, by show ¬ c.J.n.b + 1 < c.J.n.b + 1; omega, hf.yes, .inr ⟨rfl, rfl⟩⟩
def isA : Option Ms → Bool
  | none => false
  | some m => m.K == 1
/-- The note is turned into the newest one. -/
theorem lp_end {wz w2 w7 : World} {K B : Nat → Prop} {WB NB i : Nat} {p : Pn} {ov : Value} {c' : Cs} {M' : List Ms} {n n' : Nt} {la' : Int} {pa ca po co : Option Addr} {pc cc pco cco : Nat} (haw : AW wz (fun x => K x ∨ B x) WB p ov c' M' w2) (hb : Below w2.heap.size w2 w7) (hkb : K NB) (hzn : wz.heap.size ≤ NB) (hO : w7.heap[NB]? = some (.cells #[.int .i64 n.b, .slice po n.p.length pco, .slice co n.c.length cco, .int .i64 n.a] 40 (0, 0))) (hp : OwN w2.heap.size w7 (.slice pa n'.p.length pc) n'.p) (hq : OwN w2.heap.size w7 (.slice ca n'.c.length cc) n'.c) (hn : n' = c'.J.n) (hai : Ai p (i + 1) c') (hml : M'.length ≤ i + 1) (hla : la' ≤ n'.a) :
    Lp wz WB NB p ov (i + 1) la' ((((w7.setCell ⟨NB, 0, none⟩ (.int .i64 n'.b)).setCell ⟨NB, 1, none⟩ (.slice pa n'.p.length pc)).setCell ⟨NB, 2, none⟩ (.slice ca n'.c.length cc)).setCell ⟨NB, 3, none⟩ (.int .i64 n'.a)) := by
  have hc : Ch (fun x => x = NB) w7 ((((w7.setCell ⟨NB, 0, none⟩ (.int .i64 n'.b)).setCell ⟨NB, 1, none⟩ (.slice pa n'.p.length pc)).setCell ⟨NB, 2, none⟩ (.slice ca n'.c.length cc)).setCell ⟨NB, 3, none⟩ (.int .i64 n'.a)) := (((ch_set _ _ _ _).self (ch_set _ _ _ _)).self (ch_set _ _ _ _)).self (ch_set _ _ _ _)
  have hNl : NB < w2.heap.size := haw.al (.inl hkb)
  have ha7 := (haw.more hb).write hc (fun x hx => by rw [hx]; exact .inl (.inl hkb)) (fun x hx => by rw [hx]; exact hzn)
  have hkeep : ∀ {u : Value} {l : List Int}, OwN w2.heap.size w7 u l → OwN 0 ((((w7.setCell ⟨NB, 0, none⟩ (.int .i64 n'.b)).setCell ⟨NB, 1, none⟩ (.slice pa n'.p.length pc)).setCell ⟨NB, 2, none⟩ (.slice ca n'.c.length cc)).setCell ⟨NB, 3, none⟩ (.int .i64 n'.a)) u l := fun ho => own_base (row_keep ho fun b hb' => hc.block b (ho.lt b hb').2 (fun e => by have := (ho.lt b hb').1; omega)) (Nat.zero_le _)
  refine ⟨⟨_, c', M', ha7, ⟨⟨pa, pc, ca, cc, ?_, by rw [← hn]; exact hkeep hp, by rw [← hn]; exact hkeep hq, fun b hb' => .inr ?_, fun b hb' => .inr ?_⟩, .inl (.inl hkb)⟩, hai, hml, by rw [← hn]; exact hla⟩⟩
  · rw [← hn]
    refine (set_row (set_row (set_row (set_row hO 0 _) 1 _) 2 _) 3 _).trans ?_
    simp only [List.setIfInBounds_toArray, List.set_cons_zero, List.set_cons_succ]
  · rw [← hn] at hb'; exact hp.lt b hb'
  · rw [← hn] at hb'; exact hq.lt b hb'
set_option maxRecDepth 100000 in
set_option maxHeartbeats 8000000 in
theorem coordnumbers_walk {w : World} {p : Pn} {ov : Value} {av : Value} {l : List Ac0} (ho : Ov w ov p.l) (ha : Acl w av l) : Calls Try.prog 3 #[.agg #[.int .i64 p.P, .int .i64 p.S, .int .i64 p.W, ov, .int .i64 p.A, .int .i64 p.B, .int .i64 p.N, .int .i64 p.G], av] w fun e w' => e = .returned (.bool true) ∧ Below w.heap.size w w' := by
  obtain ⟨w0, hw0⟩ : ∃ w0, w0 = w.alloc (Obj.cells #[.int .i64 p.P, .int .i64 p.S, .int .i64 p.W, ov, .int .i64 p.A, .int .i64 p.B, .int .i64 p.N, .int .i64 p.G] 24) := ⟨_, rfl⟩
  have hb0 : Below w.heap.size w w0 := by rw [hw0]; exact below_alloc _ _
  have HB0 : Hid (Below w.heap.size w w0) := hb0
  have HO : Hid (Ov w0 ov p.l) := ho.below hb0
  have HBX : Hid (w0.heap[w.heap.size]? = some (.cells #[.int .i64 p.P, .int .i64 p.S, .int .i64 p.W, ov, .int .i64 p.A, .int .i64 p.B, .int .i64 p.N, .int .i64 p.G] 24 (0, 0))) := by show _ = _; rw [hw0]; exact alloc_at rfl
  obtain ⟨⟨oa, oc, rfl, _⟩, _⟩ := ho
  have HW0 : Hid (w0 = w.alloc (Obj.cells #[.int .i64 p.P, .int .i64 p.S, .int .i64 p.W, .slice oa p.l.length oc, .int .i64 p.A, .int .i64 p.B, .int .i64 p.N, .int .i64 p.G] 24)) := hw0
  have HACL : Hid (Acl w av l) := ha
  obtain ⟨ao, acp, rfl, _⟩ := ha
  clear hw0 hb0
  go_enter Try.func3, Try.ntmps3
  go_wp2_with fail
  rw [← HW0.out]
  refine awake19_walk.mono ?_
  rintro e w1 ⟨rfl, hB1⟩
  have HB1 : Hid (Below w.heap.size w w1) := HB0.out.trans (hB1.mono HB0.out.size)
  have hX1 := blk_below HBX.out hB1
  have HX1 : Hid (w1.heap[w.heap.size]? = some (.cells #[.int .i64 p.P, .int .i64 p.S, .int .i64 p.W, .slice oa p.l.length oc, .int .i64 p.A, .int .i64 p.B, .int .i64 p.N, .int .i64 p.G] 24 (0, 0))) := hX1
  have HO1 : Hid (Ov w1 (.slice oa p.l.length oc) p.l) := HO.out.below hB1
  have x0 : w1.cell? ⟨w.heap.size, 0, none⟩ = some (.int .i64 p.P) := by rw [blk_cell hX1]; rfl
  have x1 : w1.cell? ⟨w.heap.size, 1, none⟩ = some (.int .i64 p.S) := by rw [blk_cell hX1]; rfl
  have x2 : w1.cell? ⟨w.heap.size, 2, none⟩ = some (.int .i64 p.W) := by rw [blk_cell hX1]; rfl
  have x3 : w1.cell? ⟨w.heap.size, 3, none⟩ = some (.slice oa p.l.length oc) := by rw [blk_cell hX1]; rfl
  have x4 : w1.cell? ⟨w.heap.size, 4, none⟩ = some (.int .i64 p.A) := by rw [blk_cell hX1]; rfl
  have x5 : w1.cell? ⟨w.heap.size, 5, none⟩ = some (.int .i64 p.B) := by rw [blk_cell hX1]; rfl
  have x6 : w1.cell? ⟨w.heap.size, 6, none⟩ = some (.int .i64 p.N) := by rw [blk_cell hX1]; rfl
  have x7 : w1.cell? ⟨w.heap.size, 7, none⟩ = some (.int .i64 p.G) := by rw [blk_cell hX1]; rfl
  clear hB1 hX1
  go_wp2_with fail
  refine (laid_walk19 HO1.out).mono ?_
  rintro e w2 (⟨his, hB2, d, rfl⟩ | ⟨his, sb, cb, rfl, hcw⟩)
  · have HIS : Hid (p.is = false) := his
    obtain ⟨w3, hw3⟩ : ∃ w3, w3 = w2.alloc (Obj.cells #[.int .i64 p.P, .int .i64 p.S, .int .i64 p.W, .slice oa p.l.length oc, .int .i64 p.A, .int .i64 p.B, .int .i64 p.N, .int .i64 p.G, .pointer d, .pointer none, .slice none 0 0] 31) := ⟨_, rfl⟩
    have hb13 : Below w1.heap.size w1 w3 := by rw [hw3]; exact below_trans hB2 (below_alloc _ _)
    have HW3 : Hid (w3 = w2.alloc (Obj.cells #[.int .i64 p.P, .int .i64 p.S, .int .i64 p.W, .slice oa p.l.length oc, .int .i64 p.A, .int .i64 p.B, .int .i64 p.N, .int .i64 p.G, .pointer d, .pointer none, .slice none 0 0] 31)) := hw3
    have HB3 : Hid (Below w1.heap.size w1 w3) := hb13
    have hX3 := blk_below HX1.out hb13
    have u0 : w3.cell? ⟨w.heap.size, 0, none⟩ = some (.int .i64 p.P) := by rw [blk_cell hX3]; rfl
    have u1 : w3.cell? ⟨w.heap.size, 1, none⟩ = some (.int .i64 p.S) := by rw [blk_cell hX3]; rfl
    have u2 : w3.cell? ⟨w.heap.size, 2, none⟩ = some (.int .i64 p.W) := by rw [blk_cell hX3]; rfl
    have u3 : w3.cell? ⟨w.heap.size, 3, none⟩ = some (.slice oa p.l.length oc) := by rw [blk_cell hX3]; rfl
    have u4 : w3.cell? ⟨w.heap.size, 4, none⟩ = some (.int .i64 p.A) := by rw [blk_cell hX3]; rfl
    have u5 : w3.cell? ⟨w.heap.size, 5, none⟩ = some (.int .i64 p.B) := by rw [blk_cell hX3]; rfl
    have u6 : w3.cell? ⟨w.heap.size, 6, none⟩ = some (.int .i64 p.N) := by rw [blk_cell hX3]; rfl
    have u7 : w3.cell? ⟨w.heap.size, 7, none⟩ = some (.int .i64 p.G) := by rw [blk_cell hX3]; rfl
    clear his hB2 hw3 hb13 hX3 x0 x1 x2 x3 x4 x5 x6 x7
    go_upto_region 4 with fail
    rw [← HW3.out]
    go_wp2_with fail
    refine (pcheck_walk (p := p) (HO1.out.below HB3.out)).mono ?_
    rintro e w4 ⟨rfl, hB4⟩
    have hk : (p.chk != 0) = true := by
      have := Pn.chk_no HIS.out
      rw [bne, this]; rfl
    have HB4 : Hid (Below w.heap.size w w4) := (HB1.out.trans (HB3.out.mono HB1.out.size)).trans (hB4.mono (Nat.le_trans HB1.out.size HB3.out.size))
    generalize p.chk = ck at hk
    clear hB4
    go_wp2_with fail
    go_ret
    exact ⟨by first | rfl | rw [hk], HB4.out⟩
  have HIS : Hid (p.is = true) := his
  obtain ⟨w3, hw3⟩ : ∃ w3, w3 = w2.alloc (Obj.cells #[.int .i64 p.P, .int .i64 p.S, .int .i64 p.W, .slice oa p.l.length oc, .int .i64 p.A, .int .i64 p.B, .int .i64 p.N, .int .i64 p.G, Pt sb, Pt cb, .slice none 0 0] 31) := ⟨_, rfl⟩
  have HW3 : Hid (w3 = w2.alloc (Obj.cells #[.int .i64 p.P, .int .i64 p.S, .int .i64 p.W, .slice oa p.l.length oc, .int .i64 p.A, .int .i64 p.B, .int .i64 p.N, .int .i64 p.G, Pt sb, Pt cb, .slice none 0 0] 31)) := hw3
  have HAW3x := hidH (aw_laid (p := p) (ov := .slice oa p.l.length oc) hcw hw3)
  obtain ⟨WB, hWBd⟩ : ∃ WB, WB = w2.heap.size := ⟨_, rfl⟩
  have HWBD : Hid (WB = w2.heap.size) := hWBd
  rw [← hWBd] at HAW3x
  have HAW3 : Hid (AW w1 (fun _ => False) WB p (.slice oa p.l.length oc) (frC p) [] w3) := HAW3x
  clear his hcw hw3 HAW3x x0 x1 x2 x3 x4 x5 x6 x7 hWBd
  go_upto_region 4 with fail
  rw [← HW3.out, ← HWBD.out]
  obtain ⟨A3, sb3, cb3, sv3, V3, hA3, hcw3, hW3, hAw3, _⟩ := HAW3.out.ex
  have i9 : w3.cell? ⟨WB, 9, none⟩ = some (.pointer (some ⟨cb3, 0, none⟩)) := by rw [blk_cell hW3]; rfl
  have HCW3 : Hid (CW w1 (fun x => False ∨ A3 x) sb3 cb3 (frC p) w3) := hcw3
  clear hA3 hcw3 hW3 hAw3
  go_wp2_with fail
  refine (cnote_walk HCW3.out).mono ?_
  rintro e w4 ⟨pa0, pc0, ca0, cc0, rfl, ho1, ho2, hB4⟩
  obtain ⟨n, hn⟩ : ∃ n, n = (frC p).J.n := ⟨_, rfl⟩
  rw [← hn] at ho1 ho2 ⊢
  obtain ⟨w5, hw5⟩ : ∃ w5, w5 = w4.alloc (Obj.cells #[.int .i64 n.b, .slice pa0 n.p.length pc0, .slice ca0 n.c.length cc0, .int .i64 n.a] 40) := ⟨_, rfl⟩
  have HW5 : Hid (w5 = w4.alloc (Obj.cells #[.int .i64 n.b, .slice pa0 n.p.length pc0, .slice ca0 n.c.length cc0, .int .i64 n.a] 40)) := hw5
  have hb45 : Below w4.heap.size w4 w5 := by rw [hw5]; exact below_alloc _ _
  have hb35 : Below w3.heap.size w3 w5 := below_trans hB4 hb45
  obtain ⟨NB, hNB⟩ : ∃ NB, NB = w4.heap.size := ⟨_, rfl⟩
  have HNB : Hid (NB = w4.heap.size) := hNB
  have hN5 : w5.heap[NB]? = some (.cells #[.int .i64 n.b, .slice pa0 n.p.length pc0, .slice ca0 n.c.length cc0, .int .i64 n.a] 40 (0, 0)) := by rw [hw5, hNB]; exact alloc_at rfl
  have HZN : Hid (w1.heap.size ≤ NB) := by show _ ≤ _; rw [hNB]; exact Nat.le_trans HAW3.out.bel.size hB4.size
  have HLP5 : Hid (Lp w1 WB NB p (.slice oa p.l.length oc) 0 0 w5) := by
    have hs5 := hb45.size
    refine ⟨⟨_, frC p, [], HAW3.out.more hb35, ⟨⟨pa0, pc0, ca0, cc0, by rw [← hn]; exact hN5, by rw [← hn]; exact own_base (own_below ho1 hb45) (Nat.zero_le _), by rw [← hn]; exact own_base (own_below ho2 hb45) (Nat.zero_le _), fun b hb => .inr ?_, fun b hb => .inr ?_⟩, .inr ⟨by rw [hNB]; exact hB4.size, blk_lt hN5⟩⟩, fr_ai HIS.out, Nat.le_refl _, ?_⟩⟩
    · rw [← hn] at hb; have := ho1.lt b hb; exact ⟨this.1, by omega⟩
    · rw [← hn] at hb; have := ho2.lt b hb; exact ⟨this.1, by omega⟩
    · have := (fr_ai HIS.out).rgt.a0; exact this
  clear ho1 ho2 hB4 hw5 hb45 hb35 hN5 hn i9 hNB
  go_upto_region 8 with fail
  rw [← HW5.out, ← HNB.out]
  go_wp2_with fail
  go_loopw [7, 9] (fun lv iv wr => ∃ (i : Nat) (la : Int), lv = .int .i64 la ∧ iv = .int .i64 i ∧ i ≤ l.length ∧ i ≤ 600 ∧ Lp w1 WB NB p (.slice oa p.l.length oc) i la wr) (fun _ iv _ => l.length - (intOf iv).toNat)
  case atStart => exact ⟨0, 0, rfl, rfl, Nat.zero_le _, Nat.zero_le _, HLP5.out⟩
  case round =>
    obtain ⟨i, la, rfl, rfl, hil, hi6, hlp⟩ := hrel
    obtain ⟨K, c, M, hawr, hnk, hai, hml, hla⟩ := hlp.ex
    have HAWr : Hid (AW w1 K WB p (.slice oa p.l.length oc) c M wr) := hawr
    have HNKr : Hid (Nk K NB c.J.n wr) := hnk
    have HAIr : Hid (Ai p i c) := hai
    have HML : Hid (M.length ≤ i) := hml
    have HLA : Hid (la ≤ c.J.n.a) := hla
    have HBr : Hid (Below w.heap.size w wr) := HB1.out.trans (hawr.bel.mono HB1.out.size)
    clear hlp hawr hnk hai hml hla
    by_cases hlt : i < l.length
    rotate_left
    · have hnl : ¬ ((i : Int) < (l.length : Int)) := by omega
      go_wp2_with fail
      go_ret
      exact ⟨rfl, HBr.out⟩
    have hli : (i : Int) < (l.length : Int) := by omega
    by_cases h6 : i < 600
    rotate_left
    · have hn6 : ¬ ((i : Int) < 600) := by omega
      have hn6b : ¬ i < 600 := h6
      go_wp2_with fail
      go_ret
      exact ⟨rfl, HBr.out⟩
    have h6i : (i : Int) < 600 := by omega
    obtain ⟨ab, aoff, onv, hao, hel⟩ := acl_at HACL.out hlt
    subst hao
    obtain ⟨g0, g1, g2, _⟩ := hel wr HBr.out
    obtain ⟨kd, hkd⟩ : ∃ kd, kd = (ath l i).kd := ⟨_, rfl⟩
    obtain ⟨kk, hkk⟩ : ∃ kk, kk = (ath l i).kk := ⟨_, rfl⟩
    obtain ⟨on, hon⟩ : ∃ on, on = (ath l i).on := ⟨_, rfl⟩
    have hnv : Nv w1 onv on := by rw [hon]; exact (hel w1 HB1.out).2.2.2
    have HNV : Hid (Nv w1 onv on) := hnv
    obtain ⟨na, nc, rfl, _⟩ := hnv.form
    rw [← hkd] at g0
    rw [← hkk] at g1
    clear hel hnv hkd hkk hon
    go_wp2_with fail
    refine (act_walk HAWr.out HO1.out HIS.out HNV.out HAIr.out (by omega) (by have := HML.out; omega)).mono ?_
    rintro e w2a ⟨c', M', mo, ⟨hai', hao'⟩, hml', v2, B, rfl, hmg, hBn, haw, hch⟩
    have HAW2 : Hid (AW w1 (fun x => K x ∨ B x) WB p (.slice oa p.l.length oc) c' M' w2a) := haw
    have HMG : Hid (MgR B w2a v2 mo) := hmg
    have HBN : Hid (∀ x, B x → wr.heap.size ≤ x) := hBn
    have HAI2 : Hid (Ai p (i + 1) c') := hai'
    have HAO : Hid (Ao p c c' mo) := hao'
    have HML2 : Hid (M'.length ≤ i + 1) := by have := HML.out; show _ ≤ _; omega
    have HNK2 : Hid (Nk K NB c.J.n w2a) := HNKr.out.keep (fun b hb => hch.block b (HAWr.out.al hb) (fun h => h.2 hb))
    obtain ⟨a2, n2, k2, rfl⟩ := hmg.nil_or
    obtain ⟨A, sbx, cbx, sv, V, _, hcw, hW, _, _⟩ := haw.ex
    have HCWx : Hid (CW w1 (fun x => (K x ∨ B x) ∨ A x) sbx cbx c' w2a) := hcw
    have i9 : w2a.cell? ⟨WB, 9, none⟩ = some (.pointer (some ⟨cbx, 0, none⟩)) := by rw [blk_cell hW]; rfl
    clear haw hmg hBn hai' hao' hml' hch hcw hW g0 g1 g2
    go_wp2_with fail
    refine (cnote_walk HCWx.out).mono ?_
    rintro e w3a ⟨pa, pc, ca, cc, rfl, ho1, ho2, hB3⟩
    obtain ⟨n', hn'⟩ : ∃ n', n' = c'.J.n := ⟨_, rfl⟩
    rw [← hn'] at ho1 ho2 ⊢
    obtain ⟨w4a, hw4⟩ : ∃ w4a, w4a = w3a.alloc (Obj.cells #[.int .i64 n'.b, .slice pa n'.p.length pc, .slice ca n'.c.length cc, .int .i64 n'.a] 40) := ⟨_, rfl⟩
    have HW4 : Hid (w4a = w3a.alloc (Obj.cells #[.int .i64 n'.b, .slice pa n'.p.length pc, .slice ca n'.c.length cc, .int .i64 n'.a] 40)) := hw4
    have hb34 : Below w3a.heap.size w3a w4a := by rw [hw4]; exact below_alloc _ _
    have hb24 : Below w2a.heap.size w2a w4a := below_trans hB3 hb34
    have HB24 : Hid (Below w2a.heap.size w2a w4a) := hb24
    obtain ⟨N2, hN2⟩ : ∃ N2, N2 = w3a.heap.size := ⟨_, rfl⟩
    have HN2 : Hid (N2 = w3a.heap.size) := hN2
    have hN2b : w4a.heap[N2]? = some (.cells #[.int .i64 n'.b, .slice pa n'.p.length pc, .slice ca n'.c.length cc, .int .i64 n'.a] 40 (0, 0)) := by rw [hw4, hN2]; exact alloc_at rfl
    have HN2B : Hid (w4a.heap[N2]? = some (.cells #[.int .i64 n'.b, .slice pa n'.p.length pc, .slice ca n'.c.length cc, .int .i64 n'.a] 40 (0, 0))) := hN2b
    have HP2 : Hid (OwN w2a.heap.size w4a (.slice pa n'.p.length pc) n'.p) := own_below ho1 hb34
    have HQ2 : Hid (OwN w2a.heap.size w4a (.slice ca n'.c.length cc) n'.c) := own_below ho2 hb34
    have HN2L : Hid (w2a.heap.size ≤ N2) := by show _ ≤ _; rw [hN2]; exact hB3.size
    have HNN : Hid (n' = c'.J.n) := hn'
    obtain ⟨n, hn⟩ : ∃ n, n = c.J.n := ⟨_, rfl⟩
    have HNK4 : Hid (Nk K NB n w4a) := by show Nk K NB n w4a; rw [hn]; exact HNK2.out.keep (fun b hb => hb24.block b (HAW2.out.al (.inl hb)))
    obtain ⟨po, pco, co, cco, hNBb, hpo, hco, hkp, hkc⟩ := HNK4.out.ex
    have HNBb : Hid (w4a.heap[NB]? = some (.cells #[.int .i64 n.b, .slice po n.p.length pco, .slice co n.c.length cco, .int .i64 n.a] 40 (0, 0))) := hNBb
    obtain ⟨q1, q2, q3, q4, q5, q6⟩ := ao_num HAO.out
    rw [← hn, ← hn'] at q1 q2 q3 q4 q5 q6
    have HFW : Hid (fwdB n.c n'.c = true) := q5
    have HAB : Hid (n.a ≤ 1000 ∧ 0 ≤ n.a ∧ n.b ≤ 1000 ∧ 0 ≤ n.b) := by have h1 := HAIr.out.a; have h2 := HAIr.out.b; have h3 := HAIr.out.rgt.a0; have h4 := HAIr.out.rgt.r.1; rw [hn]; exact ⟨by omega, h3, by omega, h4⟩
    have hwa : IntKind.i64.wrap (n.a + 1) = n.a + 1 := by have := HAB.out; rw [IntKind.wrap_i64]; omega
    have hwb : IntKind.i64.wrap (n.b + 1) = n.b + 1 := by have := HAB.out; rw [IntKind.wrap_i64]; omega
    have HNVO : Hid (Nv w4a (.slice co n.c.length cco) n.c) := own_nv hco (by rw [hn]; exact (rgt_in64 HAIr.out.rgt).2)
    have HNV2 : Hid (Nv w4a (.slice ca n'.c.length cc) n'.c) := own_nv HQ2.out (by rw [hn']; exact (rgt_in64 HAI2.out.rgt).2)
    have HNV1 : Hid (Nv w4a (.slice pa n'.p.length pc) n'.p) := own_nv HP2.out (by rw [hn']; exact (rgt_in64 HAI2.out.rgt).1)
    have HAOM : Hid (∀ m, mo = some m → m.K = 1 → m.A = n'.a ∧ n'.a = n.a + 1) := fun m hm hk => by
      obtain ⟨_, _, h3⟩ := HAO.out.ms m hm
      rcases h3 with ⟨_, h4, h5⟩ | ⟨h4, _⟩
      · rw [hn, hn']; exact ⟨h4, h5⟩
      · omega
    have HLA2 : Hid (la ≤ n.a ∧ n.a ≤ n'.a) := ⟨by rw [hn]; exact HLA.out, by omega⟩
    have d0 : w4a.cell? ⟨N2, 0, none⟩ = some (.int .i64 n'.b) := by rw [blk_cell hN2b]; rfl
    have d1 : w4a.cell? ⟨N2, 1, none⟩ = some (.slice pa n'.p.length pc) := by rw [blk_cell hN2b]; rfl
    have d2 : w4a.cell? ⟨N2, 2, none⟩ = some (.slice ca n'.c.length cc) := by rw [blk_cell hN2b]; rfl
    have d3 : w4a.cell? ⟨N2, 3, none⟩ = some (.int .i64 n'.a) := by rw [blk_cell hN2b]; rfl
    have e0 : w4a.cell? ⟨NB, 0, none⟩ = some (.int .i64 n.b) := by rw [blk_cell hNBb]; rfl
    have e1 : w4a.cell? ⟨NB, 1, none⟩ = some (.slice po n.p.length pco) := by rw [blk_cell hNBb]; rfl
    have e2 : w4a.cell? ⟨NB, 2, none⟩ = some (.slice co n.c.length cco) := by rw [blk_cell hNBb]; rfl
    have e3 : w4a.cell? ⟨NB, 3, none⟩ = some (.int .i64 n.a) := by rw [blk_cell hNBb]; rfl
    have hlen : ¬ ((1 : Int) < (n2 : Int)) := by
      have := HMG.out
      cases mo with
      | none => have h9 : Value.slice a2 n2 k2 = .slice none 0 0 := this; cases h9; omega
      | some m => obtain ⟨g, ev, h9, _⟩ := this; cases h9; omega
    have hl1 : decide ((1 : Int) < (n2 : Int)) = false := decide_eq_false hlen
    have hl2 : decide (1 < n2) = false := decide_eq_false (by omega)
    have q1b : decide (n'.a < n.a) = false := decide_eq_false q1
    have q2b : decide (n.a + 1 < n'.a) = false := decide_eq_false q2
    have q3b : decide (n'.b < n.b) = false := decide_eq_false q3
    have q4b : decide (n.b + 1 < n'.b) = false := decide_eq_false q4
    clear q1 q2 q3 q4 hlen
    clear ho1 ho2 hB3 hw4 hb34 hb24 hN2 hN2b hn' hn hNBb hpo hco hkp hkc q5 i9
    go_upto_region 13 with fail
    rw [← HW4.out, ← HN2.out]
    go_wp2_with fail
    refine (fwd_walk HNVO.out HNV2.out).mono ?_
    rw [HFW.out]
    rintro e w5a ⟨rfl, hB5⟩
    have HB5 : Hid (Below w4a.heap.size w4a w5a) := hB5
    have hN5 := blk_below HN2B.out hB5
    have hO5 := blk_below HNBb.out hB5
    have d0 : w5a.cell? ⟨N2, 0, none⟩ = some (.int .i64 n'.b) := by rw [blk_cell hN5]; rfl
    have d1 : w5a.cell? ⟨N2, 1, none⟩ = some (.slice pa n'.p.length pc) := by rw [blk_cell hN5]; rfl
    have d2 : w5a.cell? ⟨N2, 2, none⟩ = some (.slice ca n'.c.length cc) := by rw [blk_cell hN5]; rfl
    have d3 : w5a.cell? ⟨N2, 3, none⟩ = some (.int .i64 n'.a) := by rw [blk_cell hN5]; rfl
    have e0 : w5a.cell? ⟨NB, 0, none⟩ = some (.int .i64 n.b) := by rw [blk_cell hO5]; rfl
    have e1 : w5a.cell? ⟨NB, 1, none⟩ = some (.slice po n.p.length pco) := by rw [blk_cell hO5]; rfl
    have e2 : w5a.cell? ⟨NB, 2, none⟩ = some (.slice co n.c.length cco) := by rw [blk_cell hO5]; rfl
    have e3 : w5a.cell? ⟨NB, 3, none⟩ = some (.int .i64 n.a) := by rw [blk_cell hO5]; rfl
    clear hB5 hN5 hO5
    go_upto_region 15 with fail
    clear q1b q2b q3b q4b hwa hl1 hl2
    go_cut [135] (fun bv wx => bv = .bool false ∧ Below w5a.heap.size w5a wx)
    case first =>
      rcases q6 with ⟨hbe, hce⟩ | ⟨hbe, hpe⟩
      · have hbe' : (n'.b == n.b) = true := by simp [hbe]
        have hng : decide (n.b < n'.b) = false := decide_eq_false (by omega)
        have HCE := hidH hce
        clear hbe hce
        go_wp2_with fail
        refine (ints19_walk (HNV2.out.below HB5.out) (HNVO.out.below HB5.out)).mono ?_
        rw [decide_eq_true HCE.out]
        rintro e w6 ⟨rfl, hB6⟩
        have f0 := cell_bel hB6 (blk_lt (blk_below HN2B.out HB5.out)) d0
        have f1 := cell_bel hB6 (blk_lt (blk_below HNBb.out HB5.out)) e0
        go_wp2_with fail
        go_meet
        exact ⟨rfl, hB6⟩
      · have hbe' : (n'.b == n.b) = false := by simp; omega
        have hng : decide (n.b < n'.b) = true := decide_eq_true (by omega)
        have HPE := hidH hpe
        clear hbe hpe
        go_wp2_with fail
        refine (ints19_walk (HNV1.out.below HB5.out) (HNVO.out.below HB5.out)).mono ?_
        rw [decide_eq_true HPE.out]
        rintro e w6 ⟨rfl, hB6⟩
        go_wp2_with fail
        go_meet
        exact ⟨rfl, hB6⟩
    case rest =>
      obtain ⟨rfl, hB6⟩ := hcut
      obtain ⟨w6, hw6⟩ : ∃ w6, w6 = wc := ⟨_, rfl⟩
      subst hw6
      have HB46 : Hid (Below w4a.heap.size w4a w6) := HB5.out.trans (hB6.mono HB5.out.size)
      have HN6 := hidH (blk_below HN2B.out HB46.out)
      have HO6 := hidH (blk_below HNBb.out HB46.out)
      clear hB6 d0 d1 d2 d3 e0 e1 e2 e3 q6
      go_upto_region 17 with fail
      go_cut [145] (fun bv wx => bv = .bool (isA mo) ∧ wx = w6)
      case first =>
        cases mo with
        | none =>
          have h9 : Value.slice a2 n2 k2 = .slice none 0 0 := HMG.out
          cases h9
          go_wp2_with fail
          go_meet
          exact ⟨rfl, rfl⟩
        | some m =>
          obtain ⟨g, ev, h9, hg, _, hBg, _⟩ := HMG.out
          cases h9
          have hg6 := blk_below hg (below_trans HB24.out HB46.out)
          have m0 : w6.cell? ⟨g, 0, none⟩ = some (.int .i64 m.K) := by rw [blk_cell hg6]; rfl
          have h01 : (0 : Int) < (1 : Int) := by omega
          clear hg hg6 hBg
          go_wp2_with fail
          go_meet
          exact ⟨rfl, rfl⟩
      case rest =>
       obtain ⟨rfl, hw⟩ := hcut
       replace hw := hw.symm
       subst hw
       go_upto_if 145 with fail
       go_cut [7] (fun lv wx => ∃ la' : Int, lv = .int .i64 la' ∧ la' ≤ n'.a ∧ Below w6.heap.size w6 wx)
       case first =>
        cases hA : isA mo
        · go_wp2_with fail
          go_meet
          exact ⟨la, rfl, by have := HLA2.out; omega, below_same _⟩
        · obtain ⟨m, hmm, hk⟩ : ∃ m, mo = some m ∧ m.K = 1 := by
            cases mo with
            | none => cases hA
            | some m => exact ⟨m, rfl, by have : (m.K == 1) = true := hA; simpa using this⟩
          obtain ⟨hm1, hm2⟩ := HAOM.out m hmm hk
          have hmg := HMG.out
          rw [hmm] at hmg
          obtain ⟨g, ev, h9, hg, _, hBg, _⟩ := hmg
          cases h9
          have hg6 := blk_below hg (below_trans HB24.out HB46.out)
          have m4 : w6.cell? ⟨g, 4, none⟩ = some (.int .i64 m.A) := by rw [blk_cell hg6]; rfl
          have h01 : (0 : Int) < (1 : Int) := by omega
          have hle : decide (m.A ≤ la) = false := decide_eq_false (by have := HLA2.out; omega)
          have hne : (m.A != n'.a) = false := by simp [hm1]
          have HM1 := hidH hm1
          have HS6 : Hid (w6.drew.cell? ⟨g, 4, none⟩ = some (.int .i64 m.A) ∧ w6.drew.cell? ⟨N2, 3, none⟩ = some (.int .i64 n'.a)) := ⟨m4, by rw [← show (w6.cell? ⟨N2, 3, none⟩ = some (.int .i64 n'.a)) from by rw [blk_cell HN6.out]; rfl]; rfl⟩
          have s1 : ∀ wx : World, (wx.cell? ⟨g, 4, none⟩ = some (.int .i64 m.A) ∧ wx.cell? ⟨N2, 3, none⟩ = some (.int .i64 n'.a)) → wx.cell? ⟨g, 4, none⟩ = some (.int .i64 m.A) := fun _ h => h.1
          have s2 : ∀ wx : World, (wx.cell? ⟨g, 4, none⟩ = some (.int .i64 m.A) ∧ wx.cell? ⟨N2, 3, none⟩ = some (.int .i64 n'.a)) → wx.cell? ⟨N2, 3, none⟩ = some (.int .i64 n'.a) := fun _ h => h.2
          clear hg hg6 hBg hk hm1 hm2 hmm hA
          go_upto_region 18 with fail
          refine wp_region_noPanic ?_
          refine wp_region_held_drew (S := (fun wx : World => wx.cell? ⟨g, 4, none⟩ = some (.int .i64 m.A) ∧ wx.cell? ⟨N2, 3, none⟩ = some (.int .i64 n'.a))) (by kernel_rfl) ?_ (fun hHeld => ?_)
          · exact HS6.out
          refine wpAnyH_take (i := 0) (oi := ⟨some 146, _, _, _, _, _⟩) (v := ?_) rfl (by kernel_rfl) (by kernel_rfl) (by kernel_rfl) (fun _ _ _ h => h) (Or.inl ⟨by rfl, ?_⟩) hHeld ?_
          rotate_left
          · intro w hSw; (try dsimp only at hSw); go_simp; all_goals (with_reducible rfl)
          try simp only [Act.put, List.setIfInBounds_toArray, List.set_cons_zero, List.set_cons_succ]
          refine wpAnyH_take (i := 1) (oi := ⟨some 147, _, _, _, _, _⟩) (v := ?_) rfl (by kernel_rfl) (by kernel_rfl) (by kernel_rfl) (fun _ _ _ h => h) (Or.inl ⟨by rfl, ?_⟩) hHeld ?_
          rotate_left
          · intro w hSw; (try dsimp only at hSw); go_simp; all_goals (with_reducible rfl)
          try simp only [Act.put, List.setIfInBounds_toArray, List.set_cons_zero, List.set_cons_succ]
          refine wpAnyH_take (i := 2) (oi := ⟨some 148, _, _, _, _, _⟩) (v := ?_) rfl (by kernel_rfl) (by kernel_rfl) (by kernel_rfl) (fun _ _ _ h => h) (Or.inl ⟨by rfl, ?_⟩) hHeld ?_
          rotate_left
          · intro w hSw; (try dsimp only at hSw); go_simp; all_goals (with_reducible rfl)
          try simp only [Act.put, List.setIfInBounds_toArray, List.set_cons_zero, List.set_cons_succ]
          refine wpAnyH_take (i := 3) (oi := ⟨some 149, _, _, _, _, _⟩) (v := ?_) rfl (by kernel_rfl) (by kernel_rfl) (by kernel_rfl) (fun _ _ _ h => h) (Or.inl ⟨by rfl, ?_⟩) hHeld ?_
          rotate_left
          · intro w hSw; (try dsimp only at hSw); go_simp; all_goals (with_reducible rfl)
          try simp only [Act.put, List.setIfInBounds_toArray, List.set_cons_zero, List.set_cons_succ]
          refine wpAnyH_take (i := 4) (oi := ⟨some 150, _, _, _, _, _⟩) (v := ?_) rfl (by kernel_rfl) (by kernel_rfl) (by kernel_rfl) (fun _ _ _ h => h) (Or.inl ⟨by rfl, ?_⟩) hHeld ?_
          rotate_left
          · intro w hSw; (try dsimp only at hSw); go_simp; all_goals (with_reducible rfl)
          try simp only [Act.put, List.setIfInBounds_toArray, List.set_cons_zero, List.set_cons_succ]
          refine wpAnyH_take (i := 5) (oi := ⟨some 151, _, _, _, _, _⟩) (v := ?_) rfl (by kernel_rfl) (by kernel_rfl) (by kernel_rfl) (fun _ _ _ h => h) (Or.inl ⟨by rfl, ?_⟩) hHeld ?_
          rotate_left
          · intro w hSw; (try dsimp only at hSw); go_simp; all_goals (with_reducible rfl)
          try simp only [Act.put, List.setIfInBounds_toArray, List.set_cons_zero, List.set_cons_succ]
          refine wpAnyH_take (i := 6) (oi := ⟨some 152, _, _, _, _, _⟩) (v := ?_) rfl (by kernel_rfl) (by kernel_rfl) (by kernel_rfl) (fun _ _ _ h => h) (Or.inl ⟨by rfl, ?_⟩) hHeld ?_
          rotate_left
          · intro w hSw; (try dsimp only at hSw); go_simp; all_goals (with_reducible rfl)
          try simp only [Act.put, List.setIfInBounds_toArray, List.set_cons_zero, List.set_cons_succ]
          refine wpAnyH_take (i := 7) (oi := ⟨some 153, _, _, _, _, _⟩) (v := ?_) rfl (by kernel_rfl) (by kernel_rfl) (by kernel_rfl) (fun _ _ _ h => h) (Or.inl ⟨by rfl, ?_⟩) hHeld ?_
          rotate_left
          · intro w hSw; (try dsimp only at hSw); go_simp; all_goals (with_reducible rfl)
          try simp only [Act.put, List.setIfInBounds_toArray, List.set_cons_zero, List.set_cons_succ]
          refine wpAnyH_take (i := 8) (oi := ⟨some 154, _, _, _, _, _⟩) (v := ?_) rfl (by kernel_rfl) (by kernel_rfl) (by kernel_rfl) (fun _ _ _ h => h) (Or.inl ⟨by rfl, ?_⟩) hHeld ?_
          rotate_left
          · intro w hSw; (try dsimp only at hSw); go_simp; all_goals (with_reducible rfl)
          try simp only [Act.put, List.setIfInBounds_toArray, List.set_cons_zero, List.set_cons_succ]
          refine wpAnyH_take (i := 9) (oi := ⟨some 155, _, _, _, _, _⟩) (v := ?_) rfl (by kernel_rfl) (by kernel_rfl) (by kernel_rfl) (fun _ _ _ h => h) (Or.inl ⟨by rfl, ?_⟩) hHeld ?_
          rotate_left
          · intro w hSw; (try dsimp only at hSw); go_simp; all_goals (with_reducible rfl)
          try simp only [Act.put, List.setIfInBounds_toArray, List.set_cons_zero, List.set_cons_succ]
          refine wpAnyH_take (i := 10) (oi := ⟨some 156, _, _, _, _, _⟩) (v := ?_) rfl (by kernel_rfl) (by kernel_rfl) (by kernel_rfl) (fun _ _ _ h => h) (Or.inl ⟨by rfl, ?_⟩) hHeld ?_
          rotate_left
          · intro w hSw; (try dsimp only at hSw); go_simp; all_goals (with_reducible rfl)
          try simp only [Act.put, List.setIfInBounds_toArray, List.set_cons_zero, List.set_cons_succ]
          refine wpAnyH_take (i := 11) (oi := ⟨some 157, _, _, _, _, _⟩) (v := ?_) rfl (by kernel_rfl) (by kernel_rfl) (by kernel_rfl) (fun _ _ _ h => h) (Or.inl ⟨by rfl, ?_⟩) hHeld ?_
          rotate_left
          · intro w hSw; (try dsimp only at hSw); go_simp; all_goals (with_reducible rfl)
          try simp only [Act.put, List.setIfInBounds_toArray, List.set_cons_zero, List.set_cons_succ]
          refine wpAnyH_take (i := 12) (oi := ⟨some 158, _, _, _, _, _⟩) (v := ?_) rfl (by kernel_rfl) (by kernel_rfl) (by kernel_rfl) (fun _ _ _ h => h) (Or.inl ⟨by rfl, ?_⟩) hHeld ?_
          rotate_left
          · intro w hSw; (try dsimp only at hSw); go_simp; all_goals (with_reducible rfl)
          try simp only [Act.put, List.setIfInBounds_toArray, List.set_cons_zero, List.set_cons_succ]
          refine wpAnyH_take (i := 13) (oi := ⟨some 159, _, _, _, _, _⟩) (v := ?_) rfl (by kernel_rfl) (by kernel_rfl) (by kernel_rfl) (fun _ _ _ h => h) (Or.inl ⟨by rfl, ?_⟩) hHeld ?_
          rotate_left
          · intro w hSw; (try dsimp only at hSw); go_simp; all_goals (with_reducible rfl)
          try simp only [Act.put, List.setIfInBounds_toArray, List.set_cons_zero, List.set_cons_succ]
          refine wpAnyH_take (i := 14) (oi := ⟨some 160, _, _, _, _, _⟩) (v := ?_) rfl (by kernel_rfl) (by kernel_rfl) (by kernel_rfl) (fun _ _ _ h => h) (Or.inl ⟨by rfl, ?_⟩) hHeld ?_
          rotate_left
          · intro w hSw; (try dsimp only at hSw); go_simp; all_goals (with_reducible rfl)
          try simp only [Act.put, List.setIfInBounds_toArray, List.set_cons_zero, List.set_cons_succ]
          refine wpAnyH_done (by kernel_rfl) ?_ _
          refine NoPanic.normal ?_
          clear s1 s2 hle hne
          go_wp2_with fail
          go_meet
          exact ⟨m.A, rfl, by have := HM1.out; omega, below_drewN w6 1⟩
       case rest =>
        obtain ⟨la', rfl, hla', hB7⟩ := hcut
        obtain ⟨w7, hw7⟩ : ∃ w7, w7 = wc := ⟨_, rfl⟩
        subst hw7
        have HLA7 : Hid (la' ≤ n'.a) := hla'
        have HB67 : Hid (Below w6.heap.size w6 w7) := hB7
        have hN7 := blk_below HN6.out hB7
        have hO7 := blk_below HO6.out hB7
        have d0 : w7.cell? ⟨N2, 0, none⟩ = some (.int .i64 n'.b) := by rw [blk_cell hN7]; rfl
        have d1 : w7.cell? ⟨N2, 1, none⟩ = some (.slice pa n'.p.length pc) := by rw [blk_cell hN7]; rfl
        have d2 : w7.cell? ⟨N2, 2, none⟩ = some (.slice ca n'.c.length cc) := by rw [blk_cell hN7]; rfl
        have d3 : w7.cell? ⟨N2, 3, none⟩ = some (.int .i64 n'.a) := by rw [blk_cell hN7]; rfl
        have e0 : w7.cell? ⟨NB, 0, none⟩ = some (.int .i64 n.b) := by rw [blk_cell hO7]; rfl
        have z0 : w7.frozen? ⟨NB, 0, none⟩ = false := blk_soft hO7 0
        have e1 : w7.cell? ⟨NB, 1, none⟩ = some (.slice po n.p.length pco) := by rw [blk_cell hO7]; rfl
        have z1 : w7.frozen? ⟨NB, 1, none⟩ = false := blk_soft hO7 1
        have e2 : w7.cell? ⟨NB, 2, none⟩ = some (.slice co n.c.length cco) := by rw [blk_cell hO7]; rfl
        have z2 : w7.frozen? ⟨NB, 2, none⟩ = false := blk_soft hO7 2
        have e3 : w7.cell? ⟨NB, 3, none⟩ = some (.int .i64 n.a) := by rw [blk_cell hO7]; rfl
        have z3 : w7.frozen? ⟨NB, 3, none⟩ = false := blk_soft hO7 3
        have HO7 := hidH hO7
        clear hla' hB7 hN7 hO7
        go_wp2_with fail
        have hla64 : IntKind.i64.wrap ((i : Int) + 1) = (i : Int) + 1 := by rw [IntKind.wrap_i64]; omega
        go_roundw
        case rel =>
          have hb27 : Below w2a.heap.size w2a w7 := below_trans HB24.out (below_trans HB46.out HB67.out)
          have hb47 : Below w4a.heap.size w4a w7 := below_trans HB46.out HB67.out
          refine ⟨i + 1, la', rfl, by go_num, by omega, by omega, ?_⟩
          exact lp_end HAW2.out hb27 HNK4.out.kb HZN.out HO7.out (own_below HP2.out hb47) (own_below HQ2.out hb47) HNN.out HAI2.out HML2.out HLA7.out
        case measure => simp [intOf]; omega
end Go.Proofs.Ytmpdjobllpigpaa
