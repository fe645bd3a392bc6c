/- CoordIdle: the walk. -/
import Derived.Test.YtiliomgnmdpebaaCx
namespace Go.Proofs.Ytiliomgnmdpebaa

open Ieee Go.RowKit

theorem wl_app {P : Program} {w : World} {ops : Array Oper} {rest : List Oper} {o : Oper} {a : Act} {Q : Exit → Act → World → Prop} (hgd : o.guard = none) (s x : Operand)
    (ho : o.op = .call { callee := .builtin .append, args := #[s, x], argTypes := #[36, 36] })
    (ht : P.underlying 36 = some (.slice 3)) (hinf : (P.info? 3).map (fun i => (i.zero, i.size, i.bytes)) = some (some (.int .i64 0), 1, 8))
    (w6 : World) (hw : w = w6.alloc (Obj.cells #[] 3)) (hs : a.eval s = .slice (some ⟨w6.heap.size, 0, none⟩) 0 0) (y : Value) (l : List Int) (hx : a.eval x = y) (hy : Nv w6 y l) (hl : l.length ≤ 4)
    (h : ∀ v' w', OwN w6.heap.size w' v' l → Below w6.heap.size w6 w' → wpList P ops Q rest (a.put o.dst v') w') : wpList P ops Q (o :: rest) a w := by
  subst hw
  refine wpList_append_nv hgd s x 36 ho w6.heap.size 3 ht hinf _ 0 [] hs (World.ownsRow_made w6 #[] 0 (Nat.le_refl _) (by simp [maxLen]) (by simp)) y l hx (hy.below (below_alloc _ _)) (by unfold maxLen; omega) (by omega) (by simp) ?_
  intro v' w' h1 h2
  exact h v' w' (by simpa using h1) ((below_alloc w6 (Obj.cells #[] 3)).grown h2 (by simp) (by simp [Value.ownBlock]))
theorem fd_note0 (a d : Int) (pa ca : Option Addr) (pn pc cn cc : Nat) (w : World) : (Instr.field 40 (.agg #[.int .i64 a, .slice pa pn pc, .slice ca cn cc, .int .i64 d]) 0).run Try.prog w = .ok (.agg #[.int .i64 a, .slice pa pn pc, .slice ca cn cc]) w := by
  simp [Instr.field, run_underlying Try.underlying40, go_sem, asAgg]
theorem fd_tri0 (a : Int) (pa ca : Option Addr) (pn pc cn cc : Nat) (w : World) : (Instr.field 38 (.agg #[.int .i64 a, .slice pa pn pc, .slice ca cn cc]) 0).run Try.prog w = .ok (.int .i64 a) w := by
  simp [Instr.field, run_underlying Try.underlying38, go_sem, asAgg]
theorem fd_tri2 (a : Int) (pa ca : Option Addr) (pn pc cn cc : Nat) (w : World) : (Instr.field 38 (.agg #[.int .i64 a, .slice pa pn pc, .slice ca cn cc]) 2).run Try.prog w = .ok (.slice ca cn cc) w := by
  simp [Instr.field, run_underlying Try.underlying38, go_sem, asAgg]
theorem own_set0 {w : World} {b g n cap : Nat} {l : List Int} (x : Int) (h : OwN b w (.slice (some ⟨g, 0, none⟩) n cap) l) (hn : n = l.length) : OwN b (w.setCell ⟨g, 0, none⟩ (.int .i64 x)) (.slice (some ⟨g, 0, none⟩) n cap) (l.set 0 x) := by
  subst hn
  have := own_setY (o := 0) (.int .i64 x) h
  have e : (cellsN l).set 0 (.int .i64 x) = cellsN (l.set 0 x) := by unfold cellsN; rw [List.map_set]
  rw [e] at this
  have e2 : (l.set 0 x).length = l.length := List.length_set
  show World.ownsRow _ _ _ _ _ (l.set 0 x).length _
  rw [e2]; exact this
set_option maxRecDepth 100000 in
set_option maxHeartbeats 8000000 in
theorem coordidle_walk {w : World} {p : Pn} {ov : Value} {by' node : Int} (ho : Ov w ov p.l) : Calls Try.prog 6 #[.agg #[.int .i64 p.P, .int .i64 p.S, .int .i64 p.W, ov, .int .i64 p.A, .int .i64 p.B, .int .i64 p.N, .int .i64 p.G], .int .i64 by', .int .i64 node] w fun e w' => e = .returned (.bool true) ∧ Below w.heap.size w w' := by
  obtain ⟨w0, hw0⟩ : ∃ w0, w0 = w.alloc (Obj.cells #[.int .i64 p.P, .int .i64 p.S, .int .i64 p.W, ov, .int .i64 p.A, .int .i64 p.B, .int .i64 p.N, .int .i64 p.G] 24) := ⟨_, rfl⟩
  have hb0 : Below w.heap.size w w0 := by rw [hw0]; exact below_alloc _ _
  have HB0 : Hid (Below w.heap.size w w0) := hb0
  have HO : Hid (Ov w0 ov p.l) := ho.below hb0
  have HBX : Hid (w0.heap[w.heap.size]? = some (.cells #[.int .i64 p.P, .int .i64 p.S, .int .i64 p.W, ov, .int .i64 p.A, .int .i64 p.B, .int .i64 p.N, .int .i64 p.G] 24 (0, 0))) := by show _ = _; rw [hw0]; exact alloc_at rfl
  obtain ⟨⟨oa, oc, rfl, _⟩, _⟩ := ho
  have HW0 : Hid (w0 = w.alloc (Obj.cells #[.int .i64 p.P, .int .i64 p.S, .int .i64 p.W, .slice oa p.l.length oc, .int .i64 p.A, .int .i64 p.B, .int .i64 p.N, .int .i64 p.G] 24)) := hw0
  clear hw0 hb0
  go_enter Try.func6, Try.ntmps6
  go_wp2_with fail
  rw [← HW0.out]
  refine awake19_walk.mono ?_
  rintro e w1 ⟨rfl, hB1⟩
  have HB1 : Hid (Below w.heap.size w w1) := HB0.out.trans (hB1.mono HB0.out.size)
  have hX1 := blk_below HBX.out hB1
  have HX1 : Hid (w1.heap[w.heap.size]? = some (.cells #[.int .i64 p.P, .int .i64 p.S, .int .i64 p.W, .slice oa p.l.length oc, .int .i64 p.A, .int .i64 p.B, .int .i64 p.N, .int .i64 p.G] 24 (0, 0))) := hX1
  have HO1 : Hid (Ov w1 (.slice oa p.l.length oc) p.l) := HO.out.below hB1
  have x0 : w1.cell? ⟨w.heap.size, 0, none⟩ = some (.int .i64 p.P) := by rw [blk_cell hX1]; rfl
  have x1 : w1.cell? ⟨w.heap.size, 1, none⟩ = some (.int .i64 p.S) := by rw [blk_cell hX1]; rfl
  have x2 : w1.cell? ⟨w.heap.size, 2, none⟩ = some (.int .i64 p.W) := by rw [blk_cell hX1]; rfl
  have x3 : w1.cell? ⟨w.heap.size, 3, none⟩ = some (.slice oa p.l.length oc) := by rw [blk_cell hX1]; rfl
  have x4 : w1.cell? ⟨w.heap.size, 4, none⟩ = some (.int .i64 p.A) := by rw [blk_cell hX1]; rfl
  have x5 : w1.cell? ⟨w.heap.size, 5, none⟩ = some (.int .i64 p.B) := by rw [blk_cell hX1]; rfl
  have x6 : w1.cell? ⟨w.heap.size, 6, none⟩ = some (.int .i64 p.N) := by rw [blk_cell hX1]; rfl
  have x7 : w1.cell? ⟨w.heap.size, 7, none⟩ = some (.int .i64 p.G) := by rw [blk_cell hX1]; rfl
  clear hB1 hX1
  go_wp2_with fail
  refine (laid_walk19 HO1.out).mono ?_
  rintro e w2 (⟨his, hB2, d, rfl⟩ | ⟨his, sb, cb, rfl, hcw⟩)
  · have HIS : Hid (p.is = false) := his
    obtain ⟨w3, hw3⟩ : ∃ w3, w3 = w2.alloc (Obj.cells #[.int .i64 p.P, .int .i64 p.S, .int .i64 p.W, .slice oa p.l.length oc, .int .i64 p.A, .int .i64 p.B, .int .i64 p.N, .int .i64 p.G, .pointer d, .pointer none, .slice none 0 0] 31) := ⟨_, rfl⟩
    have hb13 : Below w1.heap.size w1 w3 := by rw [hw3]; exact below_trans hB2 (below_alloc _ _)
    have HW3 : Hid (w3 = w2.alloc (Obj.cells #[.int .i64 p.P, .int .i64 p.S, .int .i64 p.W, .slice oa p.l.length oc, .int .i64 p.A, .int .i64 p.B, .int .i64 p.N, .int .i64 p.G, .pointer d, .pointer none, .slice none 0 0] 31)) := hw3
    have HB3 : Hid (Below w1.heap.size w1 w3) := hb13
    have hX3 := blk_below HX1.out hb13
    have u0 : w3.cell? ⟨w.heap.size, 0, none⟩ = some (.int .i64 p.P) := by rw [blk_cell hX3]; rfl
    have u1 : w3.cell? ⟨w.heap.size, 1, none⟩ = some (.int .i64 p.S) := by rw [blk_cell hX3]; rfl
    have u2 : w3.cell? ⟨w.heap.size, 2, none⟩ = some (.int .i64 p.W) := by rw [blk_cell hX3]; rfl
    have u3 : w3.cell? ⟨w.heap.size, 3, none⟩ = some (.slice oa p.l.length oc) := by rw [blk_cell hX3]; rfl
    have u4 : w3.cell? ⟨w.heap.size, 4, none⟩ = some (.int .i64 p.A) := by rw [blk_cell hX3]; rfl
    have u5 : w3.cell? ⟨w.heap.size, 5, none⟩ = some (.int .i64 p.B) := by rw [blk_cell hX3]; rfl
    have u6 : w3.cell? ⟨w.heap.size, 6, none⟩ = some (.int .i64 p.N) := by rw [blk_cell hX3]; rfl
    have u7 : w3.cell? ⟨w.heap.size, 7, none⟩ = some (.int .i64 p.G) := by rw [blk_cell hX3]; rfl
    clear his hB2 hw3 hb13 hX3 x0 x1 x2 x3 x4 x5 x6 x7
    go_upto_region 4 with fail
    rw [← HW3.out]
    go_wp2_with fail
    refine (pcheck_walk (p := p) (HO1.out.below HB3.out)).mono ?_
    rintro e w4 ⟨rfl, hB4⟩
    have hk : (p.chk != 0) = true := by
      have := Pn.chk_no HIS.out
      rw [bne, this]; rfl
    have HB4 : Hid (Below w.heap.size w w4) := (HB1.out.trans (HB3.out.mono HB1.out.size)).trans (hB4.mono (Nat.le_trans HB1.out.size HB3.out.size))
    generalize p.chk = ck at hk
    clear hB4
    go_wp2_with fail
    go_ret
    exact ⟨by first | rfl | rw [hk], HB4.out⟩
  have HIS : Hid (p.is = true) := his
  have HC2 : Hid (CW w1 (fun _ => False) sb cb (frC p) w2) := hcw
  obtain ⟨w3, hw3⟩ : ∃ w3, w3 = w2.alloc (Obj.cells #[.int .i64 p.P, .int .i64 p.S, .int .i64 p.W, .slice oa p.l.length oc, .int .i64 p.A, .int .i64 p.B, .int .i64 p.N, .int .i64 p.G, Pt sb, Pt cb, .slice none 0 0] 31) := ⟨_, rfl⟩
  have hb23 : Below w2.heap.size w2 w3 := by rw [hw3]; exact below_alloc _ _
  have HW3 : Hid (w3 = w2.alloc (Obj.cells #[.int .i64 p.P, .int .i64 p.S, .int .i64 p.W, .slice oa p.l.length oc, .int .i64 p.A, .int .i64 p.B, .int .i64 p.N, .int .i64 p.G, Pt sb, Pt cb, .slice none 0 0] 31)) := hw3
  obtain ⟨WB, hWBd⟩ : ∃ WB, WB = w2.heap.size := ⟨_, rfl⟩
  have HWBD : Hid (WB = w2.heap.size) := hWBd
  have HWB3 : Hid (w3.heap[WB]? = some (.cells (wC p (.slice oa p.l.length oc) sb cb (.slice none 0 0)) 31 (0, 0))) := by show _ = _; rw [hw3, hWBd]; exact alloc_at rfl
  have HC3 : Hid (CW w1 (fun x => False ∨ (w2.heap.size ≤ x ∧ x < w3.heap.size)) sb cb (frC p) w3) := hcw.more hb23
  have HA3 : Hid (False ∨ (w2.heap.size ≤ WB ∧ WB < w3.heap.size)) := .inr ⟨by rw [hWBd]; exact Nat.le_refl _, blk_lt HWB3.out⟩
  obtain ⟨J1, S1, t1, t2, t3, hg1, hn1, hj1, hw1⟩ := tk_fr his
  have HG1 : Hid (Gd p.P J1 S1) := hg1
  have HN1 : Hid (J1.n = ⟨0, zeros p.P.toNat, zeros p.P.toNat, 1⟩) := hn1
  have HJ1 : Hid (J1.g = 2) := hj1
  have HWR : Hid (S1.wr < 9223372036854775800) := by show _ < _; rw [hw1]; omega
  have HT1 : Hid (tikC (frC p) = ⟨p0 p, J1, S1, [yF p], false⟩ ∧ tikM (frC p) = some (abtM 1 (yF p) (zeros p.P.toNat)) ∧ tikE (frC p) = 0) := ⟨t1, t2, t3⟩
  clear his hcw hw3 hb23 t1 t2 t3 hg1 hn1 hj1 hw1 x0 x1 x2 x3 x4 x5 x6 x7 hWBd
  go_upto_region 4 with fail
  rw [← HW3.out, ← HWBD.out]
  go_wp2_with fail
  refine (act1_walk (p := p) HC3.out HWB3.out HA3.out (fun y hy => by cases hy) (by rw [(fr_gd HIS.out).2.1]; omega) HT1.out.1 HT1.out.2.1 HT1.out.2.2).mono ?_
  rintro e w4 ⟨a4, n4, k4, rfl, hcw4, hch4⟩
  have HC4 : Hid (CW w1 (fun x => False ∨ (w2.heap.size ≤ x ∧ x < w3.heap.size)) sb cb ⟨p0 p, J1, S1, [yF p], false⟩ w4) := hcw4
  have hWB4 : w4.heap[WB]? = some (.cells (wC p (.slice oa p.l.length oc) sb cb (.slice none 0 0)) 31 (0, 0)) := by rw [hch4.block WB (blk_lt HWB3.out) (fun h => h.2 HA3.out)]; exact HWB3.out
  have HWB4 : Hid (w4.heap[WB]? = some (.cells (wC p (.slice oa p.l.length oc) sb cb (.slice none 0 0)) 31 (0, 0))) := hWB4
  have i9 : w4.cell? ⟨WB, 9, none⟩ = some (.pointer (some ⟨cb, 0, none⟩)) := by rw [blk_cell hWB4]; rfl
  clear hcw4 hch4 hWB4
  go_wp2_with fail
  refine (ctries_walk HC4.out).mono ?_
  rintro e w5 ⟨vl, W5, rfl, hy5, hr5, hl5, hB5⟩
  obtain ⟨x5, rfl, hxy⟩ : ∃ x5, W5 = [x5] ∧ x5.y = yF p := by
    cases W5 with
    | nil => cases hy5
    | cons a t =>
      have h1 := List.cons.inj hy5
      have h2 : t = [] := List.map_eq_nil_iff.1 h1.2
      exact ⟨a, by rw [h2], h1.1⟩
  obtain ⟨y, fv, ev⟩ := x5
  replace hxy : y = yF p := hxy
  have HY : Hid (y = yF p) := hxy
  have HYO : Hid y.ok := by show y.ok; rw [hxy]; exact yF_ok HIS.out
  obtain ⟨hlf, hle⟩ := hl5 _ (List.mem_singleton.2 rfl)
  replace hlf : OwN w4.heap.size w5 fv y.f := hlf
  replace hle : OwN w4.heap.size w5 ev y.e := hle
  have HLF : Hid (OwN w4.heap.size w5 fv y.f) := hlf
  have HLE : Hid (OwN w4.heap.size w5 ev y.e) := hle
  obtain ⟨_, fa, fc, rfl, _⟩ := own_nl hlf
  obtain ⟨_, ea, ec, rfl, _⟩ := own_nl hle
  obtain ⟨g5, cap5, rfl, hcp5, _, _, hgl5⟩ := row_formY hr5 (by simp)
  have HROW : Hid (w5.ownsRow w4.heap.size 56 7 (.slice (some ⟨g5, 0, none⟩) 1 cap5) 1 (flatY [⟨y, .slice fa y.f.length fc, .slice ea y.e.length ec⟩])) := hr5
  have hcell := fun j (hj : j < 7) => (own_cellY (u := (cellsY ⟨y, .slice fa y.f.length fc, .slice ea y.e.length ec⟩)[j]'(by simpa [cellsY] using hj)) hr5 (by have := flatY_get [⟨y, .slice fa y.f.length fc, .slice ea y.e.length ec⟩] 0 j (by simp) hj; rw [Nat.zero_mul, Nat.zero_add] at this; rw [this, List.getElem?_eq_getElem]; rfl)).1
  have d0 : w5.cell? ⟨g5, 0, none⟩ = some (.int .i64 y.b) := hcell 0 (by omega)
  have d1 : w5.cell? ⟨g5, 1, none⟩ = some (.int .i64 y.a) := hcell 1 (by omega)
  have d2 : w5.cell? ⟨g5, 2, none⟩ = some (.int .i64 y.n) := hcell 2 (by omega)
  have d3 : w5.cell? ⟨g5, 3, none⟩ = some (.int .i64 y.h) := hcell 3 (by omega)
  have d4 : w5.cell? ⟨g5, 4, none⟩ = some (.int .i64 y.t) := hcell 4 (by omega)
  have d5 : w5.cell? ⟨g5, 5, none⟩ = some (.slice fa y.f.length fc) := hcell 5 (by omega)
  have d6 : w5.cell? ⟨g5, 6, none⟩ = some (.slice ea y.e.length ec) := hcell 6 (by omega)
  have HB5 : Hid (Below w4.heap.size w4 w5) := hB5
  obtain ⟨w6, hw6⟩ : ∃ w6, w6 = w5.alloc (Obj.cells #[.int .i64 y.b, .int .i64 y.a, .int .i64 y.n, .int .i64 y.h, .int .i64 y.t, .slice fa y.f.length fc, .slice ea y.e.length ec] 56) := ⟨_, rfl⟩
  have hb56 : Below w5.heap.size w5 w6 := by rw [hw6]; exact below_alloc _ _
  have HW6 : Hid (w6 = w5.alloc (Obj.cells #[.int .i64 y.b, .int .i64 y.a, .int .i64 y.n, .int .i64 y.h, .int .i64 y.t, .slice fa y.f.length fc, .slice ea y.e.length ec] 56)) := hw6
  obtain ⟨TB, hTBd⟩ : ∃ TB, TB = w5.heap.size := ⟨_, rfl⟩
  have HTBD : Hid (TB = w5.heap.size) := hTBd
  have hb46 : Below w4.heap.size w4 w6 := below_trans hB5 hb56
  have HB46 : Hid (Below w4.heap.size w4 w6) := hb46
  have HTB6 : Hid (w6.heap[TB]? = some (.cells #[.int .i64 y.b, .int .i64 y.a, .int .i64 y.n, .int .i64 y.h, .int .i64 y.t, .slice fa y.f.length fc, .slice ea y.e.length ec] 56 (0, 0))) := by show _ = _; rw [hw6, hTBd]; exact alloc_at rfl
  have HID6 : Hid (Ids (fun x => (False ∨ (w2.heap.size ≤ x ∧ x < w3.heap.size)) ∨ (w4.heap.size ≤ x ∧ x < w6.heap.size)) WB TB p (.slice oa p.l.length oc) sb cb ⟨y, .slice fa y.f.length fc, .slice ea y.e.length ec⟩ (.slice (some ⟨g5, 0, none⟩) 1 cap5) w6) := by
    have hs := hb56.size
    refine ⟨blk_below HWB4.out hb46, .inl HA3.out, HTB6.out, .inr ⟨by rw [hTBd]; exact hB5.size, blk_lt HTB6.out⟩, own_base (own_below HLF.out hb56) (Nat.zero_le _), own_base (own_below HLE.out hb56) (Nat.zero_le _), fun b hb => .inr ⟨(HLF.out.lt b hb).1, ?_⟩, fun b hb => .inr ⟨(HLE.out.lt b hb).1, ?_⟩, own_base (own_below HROW.out hb56) (Nat.zero_le _), fun b hb => .inr ⟨(HROW.out.lt b hb).1, ?_⟩⟩
    · have := (HLF.out.lt b hb).2; omega
    · have := (HLE.out.lt b hb).2; omega
    · have := (HROW.out.lt b hb).2; omega
  have HC6 : Hid (CW w1 (fun x => (False ∨ (w2.heap.size ≤ x ∧ x < w3.heap.size)) ∨ (w4.heap.size ≤ x ∧ x < w6.heap.size)) sb cb ⟨p0 p, J1, S1, [y], false⟩ w6) := by show CW _ _ _ _ _ _; rw [HY.out]; exact HC4.out.more hb46
  generalize hA : (fun x => (False ∨ (w2.heap.size ≤ x ∧ x < w3.heap.size)) ∨ (w4.heap.size ≤ x ∧ x < w6.heap.size)) = A at HID6 HC6
  have t5 : w6.cell? ⟨TB, 5, none⟩ = some (.slice fa y.f.length fc) := by rw [blk_cell HTB6.out]; rfl
  have htbl : TB < w6.heap.size := blk_lt HTB6.out
  have htbn : ¬ TB = w6.heap.size := by omega
  have hl1 : (0 : Int) < (1 : Int) := by omega
  have HYF : Hid (y.f = zeros p.P.toNat ∧ 1 ≤ y.f.length ∧ y.f.length ≤ 4) := by
    obtain ⟨kk, hk, hk1, hk4⟩ := is_P HIS.out
    have e : y.f = zeros p.P.toNat := by rw [HY.out]; rfl
    refine ⟨e, ?_, ?_⟩ <;> rw [e, zeros_len] <;> omega
  clear hy5 hr5 hl5 hB5 hxy hlf hle hcell hw6 hb56 hb46 hA i9 hcp5 hTBd
  go_upto_region 11 with fail
  rw [← HW6.out, ← HTBD.out]
  clear d0 d1 d2 d3 d4 d5 d6
  go_upto_region 12 with (at_builtin; refine wl_app (by rfl) _ _ (by rfl) Try.underlying36 info_int w6 rfl (by rfl) _ y.f (by rfl) (HID6.out.yl HYO.out).f HYO.out.fl ?_; intro v7 w6a ho7 hb67; obtain ⟨gfar, capfar, rfl, hc7, hm7, hg7b, hg7l⟩ := row_formY ho7 (by have := HYF.out.2.1; omega); go_frame)
  have hbz7 : Below w1.heap.size w1 w6a := HC6.out.bel.trans (hb67.mono HC6.out.bel.size)
  have hX7 := blk_below HX1.out hbz7
  have u5 : w6a.cell? ⟨w.heap.size, 5, none⟩ = some (.int .i64 p.B) := by rw [blk_cell hX7]; rfl
  have hcl := own_cellY (j := 0) (u := (cellsN y.f)[0]'(by have := HYF.out.2.1; unfold cellsN; rw [List.length_map]; omega)) ho7 (by rw [List.getElem?_eq_getElem])
  obtain ⟨u0, hu0⟩ : ∃ u0, u0 = (cellsN y.f)[0]'(by have := HYF.out.2.1; unfold cellsN; rw [List.length_map]; omega) := ⟨_, rfl⟩
  rw [← hu0] at hcl
  have k0 := hcl.1
  have z0 := hcl.2
  have hu0' : ∃ q, u0 = .int .i64 q := ⟨_, by rw [hu0]; unfold cellsN; rw [List.getElem_map]⟩
  obtain ⟨q0, rfl⟩ := hu0'
  have hyl : (0 : Int) < (y.f.length : Int) := by have := HYF.out.2.1; omega
  obtain ⟨w7, hw8⟩ : ∃ w7, w7 = w6a.setCell ⟨gfar, 0, none⟩ (.int .i64 (p.B + 1)) := ⟨_, rfl⟩
  have HWROW : Hid (w7 = w6a.setCell ⟨gfar, 0, none⟩ (.int .i64 (p.B + 1))) := hw8
  have hch8 : Ch (fun b => b = gfar) w6a w7 := by rw [hw8]; exact ch_set _ _ _ _
  have hb68 : Below w6.heap.size w6 w7 := hb67.trans (hch8.to_below hb67.size (fun b hb => by rw [hb]; exact hg7b))
  have hO8 : OwN w6.heap.size w7 (.slice (some ⟨gfar, 0, none⟩) y.f.length capfar) (zset p.P.toNat (p.B + 1)) := by
    have := own_set0 (p.B + 1) ho7 rfl
    rw [← hw8] at this
    have e : y.f.set 0 (p.B + 1) = zset p.P.toNat (p.B + 1) := by rw [HYF.out.1]; rfl
    rw [e] at this
    have e2 : y.f.length = (zset p.P.toNat (p.B + 1)).length := by rw [HYF.out.1, zset_len, zeros_len]
    exact this
  have HC8x := hidH (HC6.out.more hb68)
  have HI8x := hidH ((HID6.out.keep (kp_bel hb68 HC6.out)).mono (A' := fun x => A x ∨ (w6.heap.size ≤ x ∧ x < w7.heap.size)) (fun b hb => .inl hb))
  have HL8x : Hid (Lk (fun x => A x ∨ (w6.heap.size ≤ x ∧ x < w7.heap.size)) (.slice (some ⟨gfar, 0, none⟩) y.f.length capfar) (zset p.P.toNat (p.B + 1)) w7) := ⟨own_base hO8 (Nat.zero_le _), fun b hb => .inr (hO8.lt b hb)⟩
  obtain ⟨Aa, hA2⟩ : ∃ Aa : Nat → Prop, Aa = fun x => A x ∨ (w6.heap.size ≤ x ∧ x < w7.heap.size) := ⟨_, rfl⟩
  rw [← hA2] at HC8x HI8x HL8x
  have HC7 := HC8x
  have HID7 := HI8x
  have HLfar7 := HL8x
  have hwb : IntKind.i64.wrap (p.B + 1) = p.B + 1 := by obtain ⟨_, _, _, _, ⟨hB1, hB2⟩, _⟩ := Pn.is_num HIS.out; rw [IntKind.wrap_i64]; omega
  clear HC8x HI8x HL8x hbz7 hX7 hcl hu0 hw8 hch8 hb68 hO8 hA2 ho7 hb67 hc7 hm7 hg7b hg7l
  clear HC6 HID6
  have HBF : Hid (∀ v ∈ zset p.P.toNat (p.B + 1), 0 ≤ v ∧ v ≤ 256) := by obtain ⟨_, _, _, _, ⟨hB1, hB2⟩, _⟩ := Pn.is_num HIS.out; exact zset_m (by omega) (by omega)
  have HTF : Hid (taC (⟨p0 p, J1, S1, [y], false⟩ : Cs) (⟨2, y.n, 0, y.b, y.a, 0, zset p.P.toNat (p.B + 1), [], []⟩ : Ms) = (⟨p0 p, J1, S1, [y], false⟩ : Cs) ∧ taM (⟨p0 p, J1, S1, [y], false⟩ : Cs) (⟨2, y.n, 0, y.b, y.a, 0, zset p.P.toNat (p.B + 1), [], []⟩ : Ms) = none ∧ taE (⟨p0 p, J1, S1, [y], false⟩ : Cs) (⟨2, y.n, 0, y.b, y.a, 0, zset p.P.toNat (p.B + 1), [], []⟩ : Ms) = 0) := (id_math (rr := 0) (nd := 0) HIS.out HG1.out HN1.out HJ1.out HY.out (by omega) (by obtain ⟨_, _, _, _, ⟨hB1, hB2⟩, _⟩ := Pn.is_num HIS.out; omega) ⟨by omega, by omega⟩).1
  have i9 : ∀ wx, Ids Aa WB TB p (.slice oa p.l.length oc) sb cb ⟨y, .slice fa y.f.length fc, .slice ea y.e.length ec⟩ (.slice (some ⟨g5, 0, none⟩) 1 cap5) wx → wx.cell? ⟨WB, 9, none⟩ = some (.pointer (some ⟨cb, 0, none⟩)) := fun wx h => by rw [blk_cell h.wb]; rfl
  have t0 : ∀ wx, Ids Aa WB TB p (.slice oa p.l.length oc) sb cb ⟨y, .slice fa y.f.length fc, .slice ea y.e.length ec⟩ (.slice (some ⟨g5, 0, none⟩) 1 cap5) wx → wx.cell? ⟨TB, 0, none⟩ = some (.int .i64 y.b) := fun wx h => by rw [blk_cell h.tb]; rfl
  have t1 : ∀ wx, Ids Aa WB TB p (.slice oa p.l.length oc) sb cb ⟨y, .slice fa y.f.length fc, .slice ea y.e.length ec⟩ (.slice (some ⟨g5, 0, none⟩) 1 cap5) wx → wx.cell? ⟨TB, 1, none⟩ = some (.int .i64 y.a) := fun wx h => by rw [blk_cell h.tb]; rfl
  have t2 : ∀ wx, Ids Aa WB TB p (.slice oa p.l.length oc) sb cb ⟨y, .slice fa y.f.length fc, .slice ea y.e.length ec⟩ (.slice (some ⟨g5, 0, none⟩) 1 cap5) wx → wx.cell? ⟨TB, 2, none⟩ = some (.int .i64 y.n) := fun wx h => by rw [blk_cell h.tb]; rfl
  have t3 : ∀ wx, Ids Aa WB TB p (.slice oa p.l.length oc) sb cb ⟨y, .slice fa y.f.length fc, .slice ea y.e.length ec⟩ (.slice (some ⟨g5, 0, none⟩) 1 cap5) wx → wx.cell? ⟨TB, 3, none⟩ = some (.int .i64 y.h) := fun wx h => by rw [blk_cell h.tb]; rfl
  have t4 : ∀ wx, Ids Aa WB TB p (.slice oa p.l.length oc) sb cb ⟨y, .slice fa y.f.length fc, .slice ea y.e.length ec⟩ (.slice (some ⟨g5, 0, none⟩) 1 cap5) wx → wx.cell? ⟨TB, 4, none⟩ = some (.int .i64 y.t) := fun wx h => by rw [blk_cell h.tb]; rfl
  have t5 : ∀ wx, Ids Aa WB TB p (.slice oa p.l.length oc) sb cb ⟨y, .slice fa y.f.length fc, .slice ea y.e.length ec⟩ (.slice (some ⟨g5, 0, none⟩) 1 cap5) wx → wx.cell? ⟨TB, 5, none⟩ = some (.slice fa y.f.length fc) := fun wx h => by rw [blk_cell h.tb]; rfl
  have t6 : ∀ wx, Ids Aa WB TB p (.slice oa p.l.length oc) sb cb ⟨y, .slice fa y.f.length fc, .slice ea y.e.length ec⟩ (.slice (some ⟨g5, 0, none⟩) 1 cap5) wx → wx.cell? ⟨TB, 6, none⟩ = some (.slice ea y.e.length ec) := fun wx h => by rw [blk_cell h.tb]; rfl
  go_upto_region 13 with fail
  rw [← HWROW.out]
  clear HWROW u5 k0 z0
  refine wp_region_noPanic ?_
  refine wp_region_held_drew (S := (fun wx => Ids Aa WB TB p (.slice oa p.l.length oc) sb cb ⟨y, .slice fa y.f.length fc, .slice ea y.e.length ec⟩ (.slice (some ⟨g5, 0, none⟩) 1 cap5) wx)) (by kernel_rfl) ?_ (fun hHeld => ?_)
  · exact (HID7.out.keep (kp_bel (below_drewN w7 1) HC7.out))
  refine wpAnyH_take (i := 0) (oi := ⟨some 49, _, _, _, _, _⟩) (v := ?_) rfl (by kernel_rfl) (by kernel_rfl) (by kernel_rfl) (fun _ _ _ h => h) (Or.inl ⟨by rfl, ?_⟩) hHeld ?_
  rotate_left
  · intro w hSw; (try dsimp only at hSw); go_simp; all_goals (with_reducible rfl)
  try simp only [Act.put, List.setIfInBounds_toArray, List.set_cons_zero, List.set_cons_succ]
  refine wpAnyH_take (i := 1) (oi := ⟨some 50, _, _, _, _, _⟩) (v := ?_) rfl (by kernel_rfl) (by kernel_rfl) (by kernel_rfl) (fun _ _ _ h => h) (Or.inl ⟨by rfl, ?_⟩) hHeld ?_
  rotate_left
  · intro w hSw; (try dsimp only at hSw); go_simp; all_goals (with_reducible rfl)
  try simp only [Act.put, List.setIfInBounds_toArray, List.set_cons_zero, List.set_cons_succ]
  refine wpAnyH_take (i := 2) (oi := ⟨some 51, _, _, _, _, _⟩) (v := ?_) rfl (by kernel_rfl) (by kernel_rfl) (by kernel_rfl) (fun _ _ _ h => h) (Or.inl ⟨by rfl, ?_⟩) hHeld ?_
  rotate_left
  · intro w hSw; (try dsimp only at hSw); go_simp; all_goals (with_reducible rfl)
  try simp only [Act.put, List.setIfInBounds_toArray, List.set_cons_zero, List.set_cons_succ]
  refine wpAnyH_take (i := 3) (oi := ⟨some 52, _, _, _, _, _⟩) (v := ?_) rfl (by kernel_rfl) (by kernel_rfl) (by kernel_rfl) (fun _ _ _ h => h) (Or.inl ⟨by rfl, ?_⟩) hHeld ?_
  rotate_left
  · intro w hSw; (try dsimp only at hSw); go_simp; all_goals (with_reducible rfl)
  try simp only [Act.put, List.setIfInBounds_toArray, List.set_cons_zero, List.set_cons_succ]
  refine wpAnyH_ready (rs := [4]) (by kernel_rfl) (by simp) ?_
  refine AllReadyH.cons (o := ⟨some 53, _, _, _, _, _⟩) rfl (fun K hK => ?_) AllReadyH.nil
  go_simp
  refine (about19_walk (x := ⟨y, .slice fa y.f.length fc, .slice ea y.e.length ec⟩) (k := 2) (ev := (.slice (some ⟨gfar, 0, none⟩) y.f.length capfar)) (l := (zset p.P.toNat (p.B + 1))) ((HID7.out.keep (kp_bel (below_drewN w7 1) HC7.out)).yl HYO.out) (own_nv (HLfar7.out.keep (kp_bel (below_drewN w7 1) HC7.out)).o (in64_of HBF.out))).mono ?_
  rintro e wA ⟨rfl, hBA⟩
  have HBA : Hid (Below w7.heap.size w7 wA) := below_trans (below_drewN w7 1) hBA
  clear hBA
  refine hK.out _ _ ?_ (fun hHeld => ?_)
  · exact (HID7.out.keep (kp_bel HBA.out HC7.out))
  clear hK K
  refine wpAnyH_ready (rs := [5]) (by kernel_rfl) (by simp) ?_
  refine AllReadyH.cons (o := ⟨some 54, _, _, _, _, _⟩) rfl (fun K hK => ?_) AllReadyH.nil
  go_simp
  refine (take_walk19 (m := (⟨2, y.n, 0, y.b, y.a, 0, zset p.P.toNat (p.B + 1), [], []⟩ : Ms)) (HC7.out.below HBA.out) (ml_own (HLfar7.out.keep (kp_bel HBA.out HC7.out)).o (in64_of HBF.out) HLfar7.out.a) HWR.out).mono ?_
  rw [HTF.out.1, HTF.out.2.1, HTF.out.2.2]
  rintro e w8 ⟨vB, BB, rfl, hmg, _, hcw, hch⟩
  have HC8 : Hid (CW w1 Aa sb cb (⟨p0 p, J1, S1, [y], false⟩ : Cs) w8) := hcw.less (fun x hx => .inl hx)
  have hkp := kp_cha hch (HC7.out.below HBA.out)
  have HID8 : Hid (Ids Aa WB TB p (.slice oa p.l.length oc) sb cb ⟨y, .slice fa y.f.length fc, .slice ea y.e.length ec⟩ (.slice (some ⟨g5, 0, none⟩) 1 cap5) w8) := (HID7.out.keep (kp_bel HBA.out HC7.out)).keep hkp
  have HLfar8 := hidH ((HLfar7.out.keep (kp_bel HBA.out HC7.out)).keep hkp)
  have hv : vB = .slice none 0 0 := hmg
  subst hv
  clear hmg hcw hch hkp
  refine hK.out _ _ ?_ (fun hHeld => ?_)
  · exact HID8.out
  clear hK K
  try simp only [Act.put, List.setIfInBounds_toArray, List.set_cons_zero, List.set_cons_succ]
  refine wpAnyH_take (i := 6) (oi := ⟨some 48, _, _, _, _, _⟩) (v := ?_) rfl (by kernel_rfl) (by kernel_rfl) (by kernel_rfl) (fun _ _ _ h => h) (Or.inl ⟨by rfl, ?_⟩) hHeld ?_
  rotate_left
  · intro w hSw; (try dsimp only at hSw); go_simp; all_goals (with_reducible rfl)
  try simp only [Act.put, List.setIfInBounds_toArray, List.set_cons_zero, List.set_cons_succ]
  refine wpAnyH_take (i := 7) (oi := ⟨some 55, _, _, _, _, _⟩) (v := ?_) rfl (by kernel_rfl) (by kernel_rfl) (by kernel_rfl) (fun _ _ _ h => h) (Or.inl ⟨by rfl, ?_⟩) hHeld ?_
  rotate_left
  · intro w hSw; (try dsimp only at hSw); go_simp; all_goals (with_reducible rfl)
  try simp only [Act.put, List.setIfInBounds_toArray, List.set_cons_zero, List.set_cons_succ]
  refine wpAnyH_take (i := 8) (oi := ⟨some 56, _, _, _, _, _⟩) (v := ?_) rfl (by kernel_rfl) (by kernel_rfl) (by kernel_rfl) (fun _ _ _ h => h) (Or.inl ⟨by rfl, ?_⟩) hHeld ?_
  rotate_left
  · intro w hSw; (try dsimp only at hSw); go_simp; all_goals (with_reducible rfl)
  try simp only [Act.put, List.setIfInBounds_toArray, List.set_cons_zero, List.set_cons_succ]
  refine wpAnyH_take (i := 9) (oi := ⟨some 12, _, _, _, _, _⟩) (v := ?_) rfl (by kernel_rfl) (by kernel_rfl) (by kernel_rfl) (fun _ _ _ h => h) (Or.inl ⟨by rfl, ?_⟩) hHeld ?_
  rotate_left
  · intro w hSw; (try dsimp only at hSw); go_simp; all_goals (with_reducible rfl)
  try simp only [Act.put, List.setIfInBounds_toArray, List.set_cons_zero, List.set_cons_succ]
  refine wpAnyH_take (i := 10) (oi := ⟨some 13, _, _, _, _, _⟩) (v := ?_) rfl (by kernel_rfl) (by kernel_rfl) (by kernel_rfl) (fun _ _ _ h => h) (Or.inl ⟨by rfl, ?_⟩) hHeld ?_
  rotate_left
  · intro w hSw; (try dsimp only at hSw); go_simp; all_goals (with_reducible rfl)
  try simp only [Act.put, List.setIfInBounds_toArray, List.set_cons_zero, List.set_cons_succ]
  refine wpAnyH_done (by kernel_rfl) ?_ _
  refine NoPanic.normal ?_
  clear HC7 HID7 HBA HLfar7
  have i9n : w8.cell? ⟨WB, 9, none⟩ = some (.pointer (some ⟨cb, 0, none⟩)) := i9 _ HID8.out
  go_wp2_with fail
  refine (ctries_walk HC8.out).mono ?_
  rintro e wT ⟨vT, WT, rfl, hyT, hrT, hlT, hBT⟩
  have hyT : WT.map Ye.y = [y] := hyT
  have HYT : Hid (WT.map Ye.y = [y]) := hyT
  have hokT : ∀ x ∈ WT, x.y.ok := fun x hx => by
    have hm : x.y ∈ WT.map Ye.y := List.mem_map_of_mem hx
    rw [hyT, List.mem_singleton] at hm
    rw [hm]; exact HYO.out
  have HYR : Hid (Yr wT vT WT) := trg_yr hrT hlT hokT
  have HLT : Hid (WT.length = 1) := by have h9 := congrArg List.length hyT; rw [List.length_map] at h9; exact h9
  have HBT : Hid (Below w8.heap.size w8 wT) := hBT
  obtain ⟨aT, cT, rfl, _, _⟩ := own_formY hrT
  clear hyT hokT hrT hlT hBT i9n
  go_wp2_with fail
  refine (tries19_walk HYR.out ((HID8.out.keep (kp_bel HBT.out HC8.out)).yr HYO.out) HYT.out (by rw [HLT.out]; omega)).mono ?_
  rintro e w9 ⟨rfl, hBM⟩
  have HBM : Hid (Below w8.heap.size w8 w9) := HBT.out.trans (hBM.mono HBT.out.size)
  have HC9 : Hid (CW w1 Aa sb cb (⟨p0 p, J1, S1, [y], false⟩ : Cs) w9) := HC8.out.below HBM.out
  have HID9 : Hid (Ids Aa WB TB p (.slice oa p.l.length oc) sb cb ⟨y, .slice fa y.f.length fc, .slice ea y.e.length ec⟩ (.slice (some ⟨g5, 0, none⟩) 1 cap5) w9) := HID8.out.keep (kp_bel HBM.out HC8.out)
  have HLfar9 := hidH (HLfar8.out.keep (kp_bel HBM.out HC8.out))
  clear hBM HBT HBM HYT HYR HLT HC8 HID8 HLfar8
  obtain ⟨rr, hrr⟩ : ∃ rr : Int, rr = (IntKind.u64.wrap by').tmod p.B := ⟨_, rfl⟩
  have HRR : Hid (0 ≤ rr ∧ 1 + rr ≤ p.B) := by
    obtain ⟨_, _, _, _, ⟨hB1, hB2⟩, _⟩ := Pn.is_num HIS.out
    have h0 : 0 ≤ IntKind.u64.wrap by' := by rw [IntKind.wrap_u64]; omega
    have e : (IntKind.u64.wrap by').tmod p.B = IntKind.u64.wrap by' % p.B := Int.tmod_eq_emod_of_nonneg h0
    rw [hrr, e]
    have h1 := Int.emod_nonneg (IntKind.u64.wrap by') (show p.B ≠ 0 by omega)
    have h2 := Int.emod_lt_of_pos (IntKind.u64.wrap by') (show 0 < p.B by omega)
    exact ⟨h1, by omega⟩
  have hub : IntKind.u64.wrap p.B = p.B := by obtain ⟨_, _, _, _, ⟨hB1, hB2⟩, _⟩ := Pn.is_num HIS.out; rw [IntKind.wrap_u64]; omega
  have hB0 : ¬ p.B = 0 := by obtain ⟨_, _, _, _, ⟨hB1, hB2⟩, _⟩ := Pn.is_num HIS.out; omega
  have hrw : IntKind.i64.wrap ((IntKind.u64.wrap by').tmod p.B) = rr := by
    obtain ⟨_, _, _, _, ⟨hB1, hB2⟩, _⟩ := Pn.is_num HIS.out
    have := HRR.out
    rw [← hrr, IntKind.wrap_i64]; omega
  have hr1 : IntKind.i64.wrap (1 + rr) = 1 + rr := by
    obtain ⟨_, _, _, _, ⟨hB1, hB2⟩, _⟩ := Pn.is_num HIS.out
    have := HRR.out
    rw [IntKind.wrap_i64]; omega
  clear hrr
  have t5n : w9.cell? ⟨TB, 5, none⟩ = some (.slice fa y.f.length fc) := t5 _ HID9.out
  have htbl : TB < w9.heap.size := blk_lt HID9.out.tb
  have htbn : ¬ TB = w9.heap.size := by omega
  go_upto_region 17 with (at_builtin; refine wl_app (by rfl) _ _ (by rfl) Try.underlying36 info_int w9 rfl (by rfl) _ y.f (by rfl) (HID9.out.yl HYO.out).f HYO.out.fl ?_; intro v7 w9a ho7 hb67; obtain ⟨gfine, capfine, rfl, hc7, hm7, hg7b, hg7l⟩ := row_formY ho7 (by have := HYF.out.2.1; omega); go_frame)
  have hbz7 : Below w1.heap.size w1 w9a := HC9.out.bel.trans (hb67.mono HC9.out.bel.size)
  have hX7 := blk_below HX1.out hbz7
  have u5 : w9a.cell? ⟨w.heap.size, 5, none⟩ = some (.int .i64 p.B) := by rw [blk_cell hX7]; rfl
  have hcl := own_cellY (j := 0) (u := (cellsN y.f)[0]'(by have := HYF.out.2.1; unfold cellsN; rw [List.length_map]; omega)) ho7 (by rw [List.getElem?_eq_getElem])
  obtain ⟨u0, hu0⟩ : ∃ u0, u0 = (cellsN y.f)[0]'(by have := HYF.out.2.1; unfold cellsN; rw [List.length_map]; omega) := ⟨_, rfl⟩
  rw [← hu0] at hcl
  have k0 := hcl.1
  have z0 := hcl.2
  have hu0' : ∃ q, u0 = .int .i64 q := ⟨_, by rw [hu0]; unfold cellsN; rw [List.getElem_map]⟩
  obtain ⟨q0, rfl⟩ := hu0'
  have hyl : (0 : Int) < (y.f.length : Int) := by have := HYF.out.2.1; omega
  obtain ⟨w10, hw8⟩ : ∃ w10, w10 = w9a.setCell ⟨gfine, 0, none⟩ (.int .i64 (1 + rr)) := ⟨_, rfl⟩
  have HWROW : Hid (w10 = w9a.setCell ⟨gfine, 0, none⟩ (.int .i64 (1 + rr))) := hw8
  have hch8 : Ch (fun b => b = gfine) w9a w10 := by rw [hw8]; exact ch_set _ _ _ _
  have hb68 : Below w9.heap.size w9 w10 := hb67.trans (hch8.to_below hb67.size (fun b hb => by rw [hb]; exact hg7b))
  have hO8 : OwN w9.heap.size w10 (.slice (some ⟨gfine, 0, none⟩) y.f.length capfine) (zset p.P.toNat (1 + rr)) := by
    have := own_set0 (1 + rr) ho7 rfl
    rw [← hw8] at this
    have e : y.f.set 0 (1 + rr) = zset p.P.toNat (1 + rr) := by rw [HYF.out.1]; rfl
    rw [e] at this
    have e2 : y.f.length = (zset p.P.toNat (1 + rr)).length := by rw [HYF.out.1, zset_len, zeros_len]
    exact this
  have HC8x := hidH (HC9.out.more hb68)
  have HI8x := hidH ((HID9.out.keep (kp_bel hb68 HC9.out)).mono (A' := fun x => Aa x ∨ (w9.heap.size ≤ x ∧ x < w10.heap.size)) (fun b hb => .inl hb))
  have HL8x : Hid (Lk (fun x => Aa x ∨ (w9.heap.size ≤ x ∧ x < w10.heap.size)) (.slice (some ⟨gfine, 0, none⟩) y.f.length capfine) (zset p.P.toNat (1 + rr)) w10) := ⟨own_base hO8 (Nat.zero_le _), fun b hb => .inr (hO8.lt b hb)⟩
  have HLfarx := hidH ((HLfar9.out.keep (kp_bel hb68 HC9.out)).mono (A' := fun x => Aa x ∨ (w9.heap.size ≤ x ∧ x < w10.heap.size)) (fun b hb => .inl hb))
  obtain ⟨Ab, hA2⟩ : ∃ Ab : Nat → Prop, Ab = fun x => Aa x ∨ (w9.heap.size ≤ x ∧ x < w10.heap.size) := ⟨_, rfl⟩
  rw [← hA2] at HC8x HI8x HL8x HLfarx
  have HC10 := HC8x
  have HID10 := HI8x
  have HLfine10 := HL8x
  have HLfar10 := HLfarx
  clear HC8x HI8x HL8x HLfarx hbz7 hX7 hcl hu0 hw8 hch8 hb68 hO8 hA2 ho7 hb67 hc7 hm7 hg7b hg7l
  clear HC9 HID9 HLfar9
  clear i9 t0 t1 t2 t3 t4 t5 t6 t5n
  go_upto_region 18 with fail
  rw [← HWROW.out]
  clear HWROW u5 k0 z0 hub hB0 hrw hr1
  have t0n : w10.cell? ⟨TB, 0, none⟩ = some (.int .i64 y.b) := by rw [blk_cell HID10.out.tb]; rfl
  have t1n : w10.cell? ⟨TB, 1, none⟩ = some (.int .i64 y.a) := by rw [blk_cell HID10.out.tb]; rfl
  have t2n : w10.cell? ⟨TB, 2, none⟩ = some (.int .i64 y.n) := by rw [blk_cell HID10.out.tb]; rfl
  have t3n : w10.cell? ⟨TB, 3, none⟩ = some (.int .i64 y.h) := by rw [blk_cell HID10.out.tb]; rfl
  have t4n : w10.cell? ⟨TB, 4, none⟩ = some (.int .i64 y.t) := by rw [blk_cell HID10.out.tb]; rfl
  have t5n : w10.cell? ⟨TB, 5, none⟩ = some (.slice fa y.f.length fc) := by rw [blk_cell HID10.out.tb]; rfl
  have t6n : w10.cell? ⟨TB, 6, none⟩ = some (.slice ea y.e.length ec) := by rw [blk_cell HID10.out.tb]; rfl
  have HBN : Hid (∀ v ∈ zset p.P.toNat (1 + rr), 0 ≤ v ∧ v ≤ 256) := by obtain ⟨_, _, _, _, ⟨hB1, hB2⟩, _⟩ := Pn.is_num HIS.out; have := HRR.out; exact zset_m (by omega) (by omega)
  go_wp2_with fail
  refine (about19_walk (x := ⟨y, .slice fa y.f.length fc, .slice ea y.e.length ec⟩) (k := 2) (ev := (.slice (some ⟨gfine, 0, none⟩) y.f.length capfine)) (l := zset p.P.toNat (1 + rr)) (HID10.out.yl HYO.out) (own_nv HLfine10.out.o (in64_of HBN.out))).mono ?_
  rintro e w11 ⟨rfl, hB11⟩
  obtain ⟨nd, hnd⟩ : ∃ nd : Int, nd = (IntKind.u64.wrap node).tmod 9 := ⟨_, rfl⟩
  have HND : Hid (0 ≤ nd ∧ nd < 9) := by
    have h0 : 0 ≤ IntKind.u64.wrap node := wrap_u64_nonneg node
    have e : (IntKind.u64.wrap node).tmod 9 = IntKind.u64.wrap node % 9 := Int.tmod_eq_emod_of_nonneg h0
    rw [hnd, e]
    exact ⟨Int.emod_nonneg _ (by decide), Int.emod_lt_of_pos _ (by decide)⟩
  have hnw : IntKind.i64.wrap ((IntKind.u64.wrap node).tmod 9) = nd := by
    have := HND.out
    rw [← hnd, IntKind.wrap_i64]; omega
  obtain ⟨w12, hw12⟩ : ∃ w12, w12 = w11.alloc (Obj.cells #[.int .i64 2, .int .i64 y.n, .int .i64 0, .int .i64 y.b, .int .i64 y.a, .int .i64 0, .slice (some ⟨gfine, 0, none⟩) y.f.length capfine, .slice none 0 0, .slice none 0 0] 50) := ⟨_, rfl⟩
  obtain ⟨w13, hw13⟩ : ∃ w13, w13 = w12.setCell ⟨w11.heap.size, 1, none⟩ (.int .i64 nd) := ⟨_, rfl⟩
  have hM12 : w12.heap[w11.heap.size]? = some (.cells #[.int .i64 2, .int .i64 y.n, .int .i64 0, .int .i64 y.b, .int .i64 y.a, .int .i64 0, .slice (some ⟨gfine, 0, none⟩) y.f.length capfine, .slice none 0 0, .slice none 0 0] 50 (0, 0)) := by rw [hw12]; exact alloc_at rfl
  have hM13 : w13.heap[w11.heap.size]? = some (.cells #[.int .i64 2, .int .i64 nd, .int .i64 0, .int .i64 y.b, .int .i64 y.a, .int .i64 0, .slice (some ⟨gfine, 0, none⟩) y.f.length capfine, .slice none 0 0, .slice none 0 0] 50 (0, 0)) := by rw [hw13, set_row hM12]; rfl
  have hb1013 : Below w10.heap.size w10 w13 := by
    have h1 : Below w10.heap.size w10 w12 := by rw [hw12]; exact below_trans hB11 (below_alloc _ _)
    have h2 : Ch (fun b => b = w11.heap.size) w12 w13 := by rw [hw13]; exact ch_set _ _ _ _
    exact h1.trans (h2.to_below h1.size (fun b hb => by rw [hb]; exact hB11.size))
  obtain ⟨MB, hMB⟩ : ∃ MB, MB = w11.heap.size := ⟨_, rfl⟩
  have HMB : Hid (MB = w11.heap.size) := hMB
  have HC13x := hidH (HC10.out.more hb1013)
  have HI13x := hidH ((HID10.out.keep (kp_bel hb1013 HC10.out)).mono (A' := fun x => Ab x ∨ (w10.heap.size ≤ x ∧ x < w13.heap.size)) (fun b hb => .inl hb))
  have HF13x := hidH ((HLfar10.out.keep (kp_bel hb1013 HC10.out)).mono (A' := fun x => Ab x ∨ (w10.heap.size ≤ x ∧ x < w13.heap.size)) (fun b hb => .inl hb))
  have HN13x := hidH ((HLfine10.out.keep (kp_bel hb1013 HC10.out)).mono (A' := fun x => Ab x ∨ (w10.heap.size ≤ x ∧ x < w13.heap.size)) (fun b hb => .inl hb))
  have HA13x : Hid ((fun x => Ab x ∨ (w10.heap.size ≤ x ∧ x < w13.heap.size)) MB) := .inr ⟨by rw [hMB]; exact hB11.size, by rw [hMB]; exact blk_lt hM13⟩
  have hM13b : w13.heap[MB]? = some (.cells #[.int .i64 2, .int .i64 nd, .int .i64 0, .int .i64 y.b, .int .i64 y.a, .int .i64 0, .slice (some ⟨gfine, 0, none⟩) y.f.length capfine, .slice none 0 0, .slice none 0 0] 50 (0, 0)) := by rw [hMB]; exact hM13
  have HM13 : Hid (w13.heap[MB]? = some (.cells #[.int .i64 2, .int .i64 nd, .int .i64 0, .int .i64 y.b, .int .i64 y.a, .int .i64 0, .slice (some ⟨gfine, 0, none⟩) y.f.length capfine, .slice none 0 0, .slice none 0 0] 50 (0, 0))) := hM13b
  obtain ⟨Ac, hAc⟩ : ∃ Ac : Nat → Prop, Ac = fun x => Ab x ∨ (w10.heap.size ≤ x ∧ x < w13.heap.size) := ⟨_, rfl⟩
  rw [← hAc] at HC13x HI13x HF13x HN13x HA13x
  have HC13 := HC13x
  have HID13 := HI13x
  have HLfar13 := HF13x
  have HLfine13 := HN13x
  have HAMB := HA13x
  have HW12 : Hid (w12 = w11.alloc (Obj.cells #[.int .i64 2, .int .i64 y.n, .int .i64 0, .int .i64 y.b, .int .i64 y.a, .int .i64 0, .slice (some ⟨gfine, 0, none⟩) y.f.length capfine, .slice none 0 0, .slice none 0 0] 50)) := hw12
  have HW13 : Hid (w13 = w12.setCell ⟨w11.heap.size, 1, none⟩ (.int .i64 nd)) := hw13
  have f1 : w12.cell? ⟨w11.heap.size, 1, none⟩ = some (.int .i64 y.n) := by rw [blk_cell hM12]; rfl
  have z1 : w12.frozen? ⟨w11.heap.size, 1, none⟩ = false := blk_soft hM12 1
  clear hB11 hnd hw12 hw13 hM12 hM13 hM13b hb1013 hMB hAc HC13x HI13x HF13x HN13x HA13x HC10 HID10 HLfar10 HLfine10 t0n t1n t2n t3n t4n t5n t6n htbl htbn
  go_upto_region 19 with fail
  rw [← HW12.out]
  go_upto_region 20 with fail
  rw [← HW13.out, ← HMB.out]
  clear f1 z1 hnw HW12 HW13
  have i9 : ∀ wx, Ids Ac WB TB p (.slice oa p.l.length oc) sb cb ⟨y, .slice fa y.f.length fc, .slice ea y.e.length ec⟩ (.slice (some ⟨g5, 0, none⟩) 1 cap5) wx → wx.cell? ⟨WB, 9, none⟩ = some (.pointer (some ⟨cb, 0, none⟩)) := fun wx h => by rw [blk_cell h.wb]; rfl
  have t0 : ∀ wx, Ids Ac WB TB p (.slice oa p.l.length oc) sb cb ⟨y, .slice fa y.f.length fc, .slice ea y.e.length ec⟩ (.slice (some ⟨g5, 0, none⟩) 1 cap5) wx → wx.cell? ⟨TB, 0, none⟩ = some (.int .i64 y.b) := fun wx h => by rw [blk_cell h.tb]; rfl
  have t1 : ∀ wx, Ids Ac WB TB p (.slice oa p.l.length oc) sb cb ⟨y, .slice fa y.f.length fc, .slice ea y.e.length ec⟩ (.slice (some ⟨g5, 0, none⟩) 1 cap5) wx → wx.cell? ⟨TB, 1, none⟩ = some (.int .i64 y.a) := fun wx h => by rw [blk_cell h.tb]; rfl
  have t2 : ∀ wx, Ids Ac WB TB p (.slice oa p.l.length oc) sb cb ⟨y, .slice fa y.f.length fc, .slice ea y.e.length ec⟩ (.slice (some ⟨g5, 0, none⟩) 1 cap5) wx → wx.cell? ⟨TB, 2, none⟩ = some (.int .i64 y.n) := fun wx h => by rw [blk_cell h.tb]; rfl
  have t3 : ∀ wx, Ids Ac WB TB p (.slice oa p.l.length oc) sb cb ⟨y, .slice fa y.f.length fc, .slice ea y.e.length ec⟩ (.slice (some ⟨g5, 0, none⟩) 1 cap5) wx → wx.cell? ⟨TB, 3, none⟩ = some (.int .i64 y.h) := fun wx h => by rw [blk_cell h.tb]; rfl
  have t4 : ∀ wx, Ids Ac WB TB p (.slice oa p.l.length oc) sb cb ⟨y, .slice fa y.f.length fc, .slice ea y.e.length ec⟩ (.slice (some ⟨g5, 0, none⟩) 1 cap5) wx → wx.cell? ⟨TB, 4, none⟩ = some (.int .i64 y.t) := fun wx h => by rw [blk_cell h.tb]; rfl
  have t5 : ∀ wx, Ids Ac WB TB p (.slice oa p.l.length oc) sb cb ⟨y, .slice fa y.f.length fc, .slice ea y.e.length ec⟩ (.slice (some ⟨g5, 0, none⟩) 1 cap5) wx → wx.cell? ⟨TB, 5, none⟩ = some (.slice fa y.f.length fc) := fun wx h => by rw [blk_cell h.tb]; rfl
  have t6 : ∀ wx, Ids Ac WB TB p (.slice oa p.l.length oc) sb cb ⟨y, .slice fa y.f.length fc, .slice ea y.e.length ec⟩ (.slice (some ⟨g5, 0, none⟩) 1 cap5) wx → wx.cell? ⟨TB, 6, none⟩ = some (.slice ea y.e.length ec) := fun wx h => by rw [blk_cell h.tb]; rfl
  have mb0 : w13.cell? ⟨MB, 0, none⟩ = some (.int .i64 2) := by rw [blk_cell HM13.out]; rfl
  have mb1 : w13.cell? ⟨MB, 1, none⟩ = some (.int .i64 nd) := by rw [blk_cell HM13.out]; rfl
  have mb2 : w13.cell? ⟨MB, 2, none⟩ = some (.int .i64 0) := by rw [blk_cell HM13.out]; rfl
  have mb3 : w13.cell? ⟨MB, 3, none⟩ = some (.int .i64 y.b) := by rw [blk_cell HM13.out]; rfl
  have mb4 : w13.cell? ⟨MB, 4, none⟩ = some (.int .i64 y.a) := by rw [blk_cell HM13.out]; rfl
  have mb5 : w13.cell? ⟨MB, 5, none⟩ = some (.int .i64 0) := by rw [blk_cell HM13.out]; rfl
  have mb6 : w13.cell? ⟨MB, 6, none⟩ = some (.slice (some ⟨gfine, 0, none⟩) y.f.length capfine) := by rw [blk_cell HM13.out]; rfl
  have mb7 : w13.cell? ⟨MB, 7, none⟩ = some (.slice none 0 0) := by rw [blk_cell HM13.out]; rfl
  have mb8 : w13.cell? ⟨MB, 8, none⟩ = some (.slice none 0 0) := by rw [blk_cell HM13.out]; rfl
  have t2m := t2 _ HID13.out
  have HTA := hidH (id_math HIS.out HG1.out HN1.out HJ1.out HY.out HRR.out.1 HRR.out.2 HND.out)
  go_upto_if 98 with fail
  go_cut [12, 13] (fun _ _ wx => CW w1 Ac sb cb (⟨p0 p, J1, S1, [y], false⟩ : Cs) wx ∧ Ids Ac WB TB p (.slice oa p.l.length oc) sb cb ⟨y, .slice fa y.f.length fc, .slice ea y.e.length ec⟩ (.slice (some ⟨g5, 0, none⟩) 1 cap5) wx ∧ Lk Ac (.slice (some ⟨gfar, 0, none⟩) y.f.length capfar) (zset p.P.toNat (p.B + 1)) wx ∧ Lk Ac (.slice (some ⟨gfine, 0, none⟩) y.f.length capfine) (zset p.P.toNat (1 + rr)) wx)
  case first =>
    by_cases hne : nd = y.n
    · have qn : (nd != y.n) = false := by simp [hne]
      clear hne
      go_wp2_with fail
      go_meet
      exact ⟨HC13.out, HID13.out, HLfar13.out, HLfine13.out⟩
    · have qn : (nd != y.n) = true := by simp [hne]
      have HTN := hidH (HTA.out.2.1 hne)
      have i9m := i9 _ HID13.out
      clear hne
      go_wp2_with fail
      refine (take_walk19 (m := (⟨2, nd, 0, y.b, y.a, 0, zset p.P.toNat (1 + rr), [], []⟩ : Ms)) HC13.out (ml_own HLfine13.out.o (in64_of HBN.out) HLfine13.out.a) HWR.out).mono ?_
      rw [HTN.out.1, HTN.out.2.1, HTN.out.2.2]
      rintro e w14 ⟨vB, BB, rfl, hmg, _, hcw, hch⟩
      have HC14 : Hid (CW w1 Ac sb cb (⟨p0 p, J1, S1, [y], false⟩ : Cs) w14) := hcw.less (fun x hx => .inl hx)
      have hkp := kp_cha hch HC13.out
      have HID14 : Hid (Ids Ac WB TB p (.slice oa p.l.length oc) sb cb ⟨y, .slice fa y.f.length fc, .slice ea y.e.length ec⟩ (.slice (some ⟨g5, 0, none⟩) 1 cap5) w14) := HID13.out.keep hkp
      have HLfar14 := hidH (HLfar13.out.keep hkp)
      have HLfine14 := hidH (HLfine13.out.keep hkp)
      have hv : vB = .slice none 0 0 := hmg
      subst hv
      clear hmg hcw hch hkp i9m t2m mb0 mb1 mb2 mb3 mb4 mb5 mb6 mb7 mb8
      have i9n : w14.cell? ⟨WB, 9, none⟩ = some (.pointer (some ⟨cb, 0, none⟩)) := i9 _ HID14.out
      go_wp2_with fail
      refine (ctries_walk HC14.out).mono ?_
      rintro e wT ⟨vT, WT, rfl, hyT, hrT, hlT, hBT⟩
      have hyT : WT.map Ye.y = [y] := hyT
      have HYT : Hid (WT.map Ye.y = [y]) := hyT
      have hokT : ∀ x ∈ WT, x.y.ok := fun x hx => by
        have hm : x.y ∈ WT.map Ye.y := List.mem_map_of_mem hx
        rw [hyT, List.mem_singleton] at hm
        rw [hm]; exact HYO.out
      have HYR : Hid (Yr wT vT WT) := trg_yr hrT hlT hokT
      have HLT : Hid (WT.length = 1) := by have h9 := congrArg List.length hyT; rw [List.length_map] at h9; exact h9
      have HBT : Hid (Below w14.heap.size w14 wT) := hBT
      obtain ⟨aT, cT, rfl, _, _⟩ := own_formY hrT
      clear hyT hokT hrT hlT hBT i9n
      go_wp2_with fail
      refine (tries19_walk HYR.out ((HID14.out.keep (kp_bel HBT.out HC14.out)).yr HYO.out) HYT.out (by rw [HLT.out]; omega)).mono ?_
      rintro e w15 ⟨rfl, hBM⟩
      have HBM : Hid (Below w14.heap.size w14 w15) := HBT.out.trans (hBM.mono HBT.out.size)
      have HC15 : Hid (CW w1 Ac sb cb (⟨p0 p, J1, S1, [y], false⟩ : Cs) w15) := HC14.out.below HBM.out
      have HID15 : Hid (Ids Ac WB TB p (.slice oa p.l.length oc) sb cb ⟨y, .slice fa y.f.length fc, .slice ea y.e.length ec⟩ (.slice (some ⟨g5, 0, none⟩) 1 cap5) w15) := HID14.out.keep (kp_bel HBM.out HC14.out)
      have HLfar15 := hidH (HLfar14.out.keep (kp_bel HBM.out HC14.out))
      have HLfine15 := hidH (HLfine14.out.keep (kp_bel HBM.out HC14.out))
      clear hBM HBT HBM HYT HYR HLT HC14 HID14 HLfar14 HLfine14
      go_wp2_with fail
      go_meet
      exact ⟨HC15.out, HID15.out, HLfar15.out, HLfine15.out⟩
  case rest =>
    obtain ⟨hc16, hi16, hf16, hn16⟩ := hcut
    obtain ⟨w16, hw16⟩ : ∃ w16, w16 = wc := ⟨_, rfl⟩
    subst hw16
    have HC16 := hidH hc16
    have HID16 := hidH hi16
    have HLfar16 := hidH hf16
    have HLfine16 := hidH hn16
    clear hc16 hi16 hf16 hn16 HC13 HID13 HLfar13 HLfine13 HM13 HAMB t2m mb0 mb1 mb2 mb3 mb4 mb5 mb6 mb7 mb8
    go_wp2_with fail
    refine wp_region_noPanic ?_
    refine wp_region_held_drew (S := (fun wx => Ids Ac WB TB p (.slice oa p.l.length oc) sb cb ⟨y, .slice fa y.f.length fc, .slice ea y.e.length ec⟩ (.slice (some ⟨g5, 0, none⟩) 1 cap5) wx)) (by kernel_rfl) ?_ (fun hHeld => ?_)
    · exact (HID16.out.keep (kp_bel (below_drewN w16 1) HC16.out))
    refine wpAnyH_take (i := 0) (oi := ⟨some 122, _, _, _, _, _⟩) (v := ?_) rfl (by kernel_rfl) (by kernel_rfl) (by kernel_rfl) (fun _ _ _ h => h) (Or.inl ⟨by rfl, ?_⟩) hHeld ?_
    rotate_left
    · intro w hSw; (try dsimp only at hSw); go_simp; all_goals (with_reducible rfl)
    try simp only [Act.put, List.setIfInBounds_toArray, List.set_cons_zero, List.set_cons_succ]
    refine wpAnyH_take (i := 1) (oi := ⟨some 123, _, _, _, _, _⟩) (v := ?_) rfl (by kernel_rfl) (by kernel_rfl) (by kernel_rfl) (fun _ _ _ h => h) (Or.inl ⟨by rfl, ?_⟩) hHeld ?_
    rotate_left
    · intro w hSw; (try dsimp only at hSw); go_simp; all_goals (with_reducible rfl)
    try simp only [Act.put, List.setIfInBounds_toArray, List.set_cons_zero, List.set_cons_succ]
    refine wpAnyH_take (i := 2) (oi := ⟨some 124, _, _, _, _, _⟩) (v := ?_) rfl (by kernel_rfl) (by kernel_rfl) (by kernel_rfl) (fun _ _ _ h => h) (Or.inl ⟨by rfl, ?_⟩) hHeld ?_
    rotate_left
    · intro w hSw; (try dsimp only at hSw); go_simp; all_goals (with_reducible rfl)
    try simp only [Act.put, List.setIfInBounds_toArray, List.set_cons_zero, List.set_cons_succ]
    refine wpAnyH_take (i := 3) (oi := ⟨some 125, _, _, _, _, _⟩) (v := ?_) rfl (by kernel_rfl) (by kernel_rfl) (by kernel_rfl) (fun _ _ _ h => h) (Or.inl ⟨by rfl, ?_⟩) hHeld ?_
    rotate_left
    · intro w hSw; (try dsimp only at hSw); go_simp; all_goals (with_reducible rfl)
    try simp only [Act.put, List.setIfInBounds_toArray, List.set_cons_zero, List.set_cons_succ]
    refine wpAnyH_ready (rs := [4]) (by kernel_rfl) (by simp) ?_
    refine AllReadyH.cons (o := ⟨some 126, _, _, _, _, _⟩) rfl (fun K hK => ?_) AllReadyH.nil
    go_simp
    refine (about19_walk (x := ⟨y, .slice fa y.f.length fc, .slice ea y.e.length ec⟩) (k := 8) (ev := (.slice (some ⟨gfine, 0, none⟩) y.f.length capfine)) (l := (zset p.P.toNat (1 + rr))) ((HID16.out.keep (kp_bel (below_drewN w16 1) HC16.out)).yl HYO.out) (own_nv (HLfine16.out.keep (kp_bel (below_drewN w16 1) HC16.out)).o (in64_of HBN.out))).mono ?_
    rintro e wA ⟨rfl, hBA⟩
    have HBA : Hid (Below w16.heap.size w16 wA) := below_trans (below_drewN w16 1) hBA
    clear hBA
    refine hK.out _ _ ?_ (fun hHeld => ?_)
    · exact (HID16.out.keep (kp_bel HBA.out HC16.out))
    clear hK K
    refine wpAnyH_ready (rs := [5]) (by kernel_rfl) (by simp) ?_
    refine AllReadyH.cons (o := ⟨some 127, _, _, _, _, _⟩) rfl (fun K hK => ?_) AllReadyH.nil
    go_simp
    refine (take_walk19 (m := (⟨8, y.n, 0, y.b, y.a, 0, zset p.P.toNat (1 + rr), [], []⟩ : Ms)) (HC16.out.below HBA.out) (ml_own (HLfine16.out.keep (kp_bel HBA.out HC16.out)).o (in64_of HBN.out) HLfine16.out.a) HWR.out).mono ?_
    rw [HTA.out.2.2.1.1, HTA.out.2.2.1.2.1, HTA.out.2.2.1.2.2]
    rintro e w17 ⟨vB, BB, rfl, hmg, _, hcw, hch⟩
    have HC17 : Hid (CW w1 Ac sb cb (⟨p0 p, J1, S1, [y], false⟩ : Cs) w17) := hcw.less (fun x hx => .inl hx)
    have hkp := kp_cha hch (HC16.out.below HBA.out)
    have HID17 : Hid (Ids Ac WB TB p (.slice oa p.l.length oc) sb cb ⟨y, .slice fa y.f.length fc, .slice ea y.e.length ec⟩ (.slice (some ⟨g5, 0, none⟩) 1 cap5) w17) := (HID16.out.keep (kp_bel HBA.out HC16.out)).keep hkp
    have HLfar17 := hidH ((HLfar16.out.keep (kp_bel HBA.out HC16.out)).keep hkp)
    have HLfine17 := hidH ((HLfine16.out.keep (kp_bel HBA.out HC16.out)).keep hkp)
    have hv : vB = .slice none 0 0 := hmg
    subst hv
    clear hmg hcw hch hkp
    refine hK.out _ _ ?_ (fun hHeld => ?_)
    · exact HID17.out
    clear hK K
    try simp only [Act.put, List.setIfInBounds_toArray, List.set_cons_zero, List.set_cons_succ]
    refine wpAnyH_take (i := 6) (oi := ⟨some 121, _, _, _, _, _⟩) (v := ?_) rfl (by kernel_rfl) (by kernel_rfl) (by kernel_rfl) (fun _ _ _ h => h) (Or.inl ⟨by rfl, ?_⟩) hHeld ?_
    rotate_left
    · intro w hSw; (try dsimp only at hSw); go_simp; all_goals (with_reducible rfl)
    try simp only [Act.put, List.setIfInBounds_toArray, List.set_cons_zero, List.set_cons_succ]
    refine wpAnyH_take (i := 7) (oi := ⟨some 128, _, _, _, _, _⟩) (v := ?_) rfl (by kernel_rfl) (by kernel_rfl) (by kernel_rfl) (fun _ _ _ h => h) (Or.inl ⟨by rfl, ?_⟩) hHeld ?_
    rotate_left
    · intro w hSw; (try dsimp only at hSw); go_simp; all_goals (with_reducible rfl)
    try simp only [Act.put, List.setIfInBounds_toArray, List.set_cons_zero, List.set_cons_succ]
    refine wpAnyH_take (i := 8) (oi := ⟨some 129, _, _, _, _, _⟩) (v := ?_) rfl (by kernel_rfl) (by kernel_rfl) (by kernel_rfl) (fun _ _ _ h => h) (Or.inl ⟨by rfl, ?_⟩) hHeld ?_
    rotate_left
    · intro w hSw; (try dsimp only at hSw); go_simp; all_goals (with_reducible rfl)
    try simp only [Act.put, List.setIfInBounds_toArray, List.set_cons_zero, List.set_cons_succ]
    refine wpAnyH_take (i := 9) (oi := ⟨some 12, _, _, _, _, _⟩) (v := ?_) rfl (by kernel_rfl) (by kernel_rfl) (by kernel_rfl) (fun _ _ _ h => h) (Or.inl ⟨by rfl, ?_⟩) hHeld ?_
    rotate_left
    · intro w hSw; (try dsimp only at hSw); go_simp; all_goals (with_reducible rfl)
    try simp only [Act.put, List.setIfInBounds_toArray, List.set_cons_zero, List.set_cons_succ]
    refine wpAnyH_take (i := 10) (oi := ⟨some 13, _, _, _, _, _⟩) (v := ?_) rfl (by kernel_rfl) (by kernel_rfl) (by kernel_rfl) (fun _ _ _ h => h) (Or.inl ⟨by rfl, ?_⟩) hHeld ?_
    rotate_left
    · intro w hSw; (try dsimp only at hSw); go_simp; all_goals (with_reducible rfl)
    try simp only [Act.put, List.setIfInBounds_toArray, List.set_cons_zero, List.set_cons_succ]
    refine wpAnyH_done (by kernel_rfl) ?_ _
    refine NoPanic.normal ?_
    clear HC16 HID16 HBA HLfar16 HLfine16
    have i9n : w17.cell? ⟨WB, 9, none⟩ = some (.pointer (some ⟨cb, 0, none⟩)) := i9 _ HID17.out
    go_wp2_with fail
    refine (ctries_walk HC17.out).mono ?_
    rintro e wT ⟨vT, WT, rfl, hyT, hrT, hlT, hBT⟩
    have hyT : WT.map Ye.y = [y] := hyT
    have HYT : Hid (WT.map Ye.y = [y]) := hyT
    have hokT : ∀ x ∈ WT, x.y.ok := fun x hx => by
      have hm : x.y ∈ WT.map Ye.y := List.mem_map_of_mem hx
      rw [hyT, List.mem_singleton] at hm
      rw [hm]; exact HYO.out
    have HYR : Hid (Yr wT vT WT) := trg_yr hrT hlT hokT
    have HLT : Hid (WT.length = 1) := by have h9 := congrArg List.length hyT; rw [List.length_map] at h9; exact h9
    have HBT : Hid (Below w17.heap.size w17 wT) := hBT
    obtain ⟨aT, cT, rfl, _, _⟩ := own_formY hrT
    clear hyT hokT hrT hlT hBT i9n
    go_wp2_with fail
    refine (tries19_walk HYR.out ((HID17.out.keep (kp_bel HBT.out HC17.out)).yr HYO.out) HYT.out (by rw [HLT.out]; omega)).mono ?_
    rintro e w18 ⟨rfl, hBM⟩
    have HBM : Hid (Below w17.heap.size w17 w18) := HBT.out.trans (hBM.mono HBT.out.size)
    have HC18 : Hid (CW w1 Ac sb cb (⟨p0 p, J1, S1, [y], false⟩ : Cs) w18) := HC17.out.below HBM.out
    have HID18 : Hid (Ids Ac WB TB p (.slice oa p.l.length oc) sb cb ⟨y, .slice fa y.f.length fc, .slice ea y.e.length ec⟩ (.slice (some ⟨g5, 0, none⟩) 1 cap5) w18) := HID17.out.keep (kp_bel HBM.out HC17.out)
    have HLfar18 := hidH (HLfar17.out.keep (kp_bel HBM.out HC17.out))
    have HLfine18 := hidH (HLfine17.out.keep (kp_bel HBM.out HC17.out))
    clear hBM HBT HBM HYT HYR HLT HC17 HID17 HLfar17 HLfine17
    by_cases hev : by'.tmod 2 = 0
    · have q2 : (by'.tmod 2 == 0) = true := by simp [hev]
      have HTZ : Hid (taC (⟨p0 p, J1, S1, [y], false⟩ : Cs) (⟨2, y.n, 0, y.b, y.a, 0, y.f, [], []⟩ : Ms) = (⟨p0 p, J1, S1, [], false⟩ : Cs) ∧ taM (⟨p0 p, J1, S1, [y], false⟩ : Cs) (⟨2, y.n, 0, y.b, y.a, 0, y.f, [], []⟩ : Ms) = none ∧ taE (⟨p0 p, J1, S1, [y], false⟩ : Cs) (⟨2, y.n, 0, y.b, y.a, 0, y.f, [], []⟩ : Ms) = 0) := by show _ ∧ _; rw [HYF.out.1]; exact HTA.out.2.2.2.1
      clear hev
      go_wp2_with fail
      refine wp_region_noPanic ?_
      refine wp_region_held_drew (S := (fun wx => Ids Ac WB TB p (.slice oa p.l.length oc) sb cb ⟨y, .slice fa y.f.length fc, .slice ea y.e.length ec⟩ (.slice (some ⟨g5, 0, none⟩) 1 cap5) wx)) (by kernel_rfl) ?_ (fun hHeld => ?_)
      · exact (HID18.out.keep (kp_bel (below_drewN w18 1) HC18.out))
      refine wpAnyH_take (i := 0) (oi := ⟨some 149, _, _, _, _, _⟩) (v := ?_) rfl (by kernel_rfl) (by kernel_rfl) (by kernel_rfl) (fun _ _ _ h => h) (Or.inl ⟨by rfl, ?_⟩) hHeld ?_
      rotate_left
      · intro w hSw; (try dsimp only at hSw); go_simp; all_goals (with_reducible rfl)
      try simp only [Act.put, List.setIfInBounds_toArray, List.set_cons_zero, List.set_cons_succ]
      refine wpAnyH_take (i := 1) (oi := ⟨some 150, _, _, _, _, _⟩) (v := ?_) rfl (by kernel_rfl) (by kernel_rfl) (by kernel_rfl) (fun _ _ _ h => h) (Or.inl ⟨by rfl, ?_⟩) hHeld ?_
      rotate_left
      · intro w hSw; (try dsimp only at hSw); go_simp; all_goals (with_reducible rfl)
      try simp only [Act.put, List.setIfInBounds_toArray, List.set_cons_zero, List.set_cons_succ]
      refine wpAnyH_take (i := 2) (oi := ⟨some 151, _, _, _, _, _⟩) (v := ?_) rfl (by kernel_rfl) (by kernel_rfl) (by kernel_rfl) (fun _ _ _ h => h) (Or.inl ⟨by rfl, ?_⟩) hHeld ?_
      rotate_left
      · intro w hSw; (try dsimp only at hSw); go_simp; all_goals (with_reducible rfl)
      try simp only [Act.put, List.setIfInBounds_toArray, List.set_cons_zero, List.set_cons_succ]
      refine wpAnyH_take (i := 3) (oi := ⟨some 152, _, _, _, _, _⟩) (v := ?_) rfl (by kernel_rfl) (by kernel_rfl) (by kernel_rfl) (fun _ _ _ h => h) (Or.inl ⟨by rfl, ?_⟩) hHeld ?_
      rotate_left
      · intro w hSw; (try dsimp only at hSw); go_simp; all_goals (with_reducible rfl)
      try simp only [Act.put, List.setIfInBounds_toArray, List.set_cons_zero, List.set_cons_succ]
      refine wpAnyH_take (i := 4) (oi := ⟨some 153, _, _, _, _, _⟩) (v := ?_) rfl (by kernel_rfl) (by kernel_rfl) (by kernel_rfl) (fun _ _ _ h => h) (Or.inl ⟨by rfl, ?_⟩) hHeld ?_
      rotate_left
      · intro w hSw; (try dsimp only at hSw); go_simp; all_goals (with_reducible rfl)
      try simp only [Act.put, List.setIfInBounds_toArray, List.set_cons_zero, List.set_cons_succ]
      refine wpAnyH_ready (rs := [5]) (by kernel_rfl) (by simp) ?_
      refine AllReadyH.cons (o := ⟨some 154, _, _, _, _, _⟩) rfl (fun K hK => ?_) AllReadyH.nil
      go_simp
      refine (about19_walk (x := ⟨y, .slice fa y.f.length fc, .slice ea y.e.length ec⟩) (k := 2) (ev := (.slice fa y.f.length fc)) (l := y.f) ((HID18.out.keep (kp_bel (below_drewN w18 1) HC18.out)).yl HYO.out) (own_nv (HID18.out.keep (kp_bel (below_drewN w18 1) HC18.out)).xf (in64_of HYO.out.fm))).mono ?_
      rintro e wA ⟨rfl, hBA⟩
      have HBA : Hid (Below w18.heap.size w18 wA) := below_trans (below_drewN w18 1) hBA
      clear hBA
      refine hK.out _ _ ?_ (fun hHeld => ?_)
      · exact (HID18.out.keep (kp_bel HBA.out HC18.out))
      clear hK K
      refine wpAnyH_ready (rs := [6]) (by kernel_rfl) (by simp) ?_
      refine AllReadyH.cons (o := ⟨some 155, _, _, _, _, _⟩) rfl (fun K hK => ?_) AllReadyH.nil
      go_simp
      refine (take_walk19 (m := (⟨2, y.n, 0, y.b, y.a, 0, y.f, [], []⟩ : Ms)) (HC18.out.below HBA.out) (ml_own (HID18.out.keep (kp_bel HBA.out HC18.out)).xf (in64_of HYO.out.fm) HID18.out.af) HWR.out).mono ?_
      rw [HTZ.out.1, HTZ.out.2.1, HTZ.out.2.2]
      rintro e w19 ⟨vB, BB, rfl, hmg, _, hcw, hch⟩
      have HC19 : Hid (CW w1 Ac sb cb (⟨p0 p, J1, S1, [], false⟩ : Cs) w19) := hcw.less (fun x hx => .inl hx)
      have hkp := kp_cha hch (HC18.out.below HBA.out)
      have HID19 : Hid (Ids Ac WB TB p (.slice oa p.l.length oc) sb cb ⟨y, .slice fa y.f.length fc, .slice ea y.e.length ec⟩ (.slice (some ⟨g5, 0, none⟩) 1 cap5) w19) := (HID18.out.keep (kp_bel HBA.out HC18.out)).keep hkp
      have hv : vB = .slice none 0 0 := hmg
      subst hv
      clear hmg hcw hch hkp
      refine hK.out _ _ ?_ (fun hHeld => ?_)
      · exact HID19.out
      clear hK K
      try simp only [Act.put, List.setIfInBounds_toArray, List.set_cons_zero, List.set_cons_succ]
      refine wpAnyH_take (i := 7) (oi := ⟨some 148, _, _, _, _, _⟩) (v := ?_) rfl (by kernel_rfl) (by kernel_rfl) (by kernel_rfl) (fun _ _ _ h => h) (Or.inl ⟨by rfl, ?_⟩) hHeld ?_
      rotate_left
      · intro w hSw; (try dsimp only at hSw); go_simp; all_goals (with_reducible rfl)
      try simp only [Act.put, List.setIfInBounds_toArray, List.set_cons_zero, List.set_cons_succ]
      refine wpAnyH_take (i := 8) (oi := ⟨some 156, _, _, _, _, _⟩) (v := ?_) rfl (by kernel_rfl) (by kernel_rfl) (by kernel_rfl) (fun _ _ _ h => h) (Or.inl ⟨by rfl, ?_⟩) hHeld ?_
      rotate_left
      · intro w hSw; (try dsimp only at hSw); go_simp; all_goals (with_reducible rfl)
      try simp only [Act.put, List.setIfInBounds_toArray, List.set_cons_zero, List.set_cons_succ]
      refine wpAnyH_take (i := 9) (oi := ⟨some 157, _, _, _, _, _⟩) (v := ?_) rfl (by kernel_rfl) (by kernel_rfl) (by kernel_rfl) (fun _ _ _ h => h) (Or.inl ⟨by rfl, ?_⟩) hHeld ?_
      rotate_left
      · intro w hSw; (try dsimp only at hSw); go_simp; all_goals (with_reducible rfl)
      try simp only [Act.put, List.setIfInBounds_toArray, List.set_cons_zero, List.set_cons_succ]
      refine wpAnyH_take (i := 10) (oi := ⟨some 12, _, _, _, _, _⟩) (v := ?_) rfl (by kernel_rfl) (by kernel_rfl) (by kernel_rfl) (fun _ _ _ h => h) (Or.inl ⟨by rfl, ?_⟩) hHeld ?_
      rotate_left
      · intro w hSw; (try dsimp only at hSw); go_simp; all_goals (with_reducible rfl)
      try simp only [Act.put, List.setIfInBounds_toArray, List.set_cons_zero, List.set_cons_succ]
      refine wpAnyH_take (i := 11) (oi := ⟨some 13, _, _, _, _, _⟩) (v := ?_) rfl (by kernel_rfl) (by kernel_rfl) (by kernel_rfl) (fun _ _ _ h => h) (Or.inl ⟨by rfl, ?_⟩) hHeld ?_
      rotate_left
      · intro w hSw; (try dsimp only at hSw); go_simp; all_goals (with_reducible rfl)
      try simp only [Act.put, List.setIfInBounds_toArray, List.set_cons_zero, List.set_cons_succ]
      refine wpAnyH_done (by kernel_rfl) ?_ _
      refine NoPanic.normal ?_
      clear HC18 HID18 HBA
      have i9n := i9 _ HID19.out
      go_wp2_with fail
      refine (ctries_walk HC19.out).mono ?_
      rintro e wT ⟨vT, WT, rfl, hyT, hrT, _, hBT⟩
      have hWT : WT = [] := List.map_eq_nil_iff.1 hyT
      subst hWT
      obtain ⟨aT, cT, rfl, _, _⟩ := own_formY hrT
      have HCT := hidH (HC19.out.below hBT)
      have HIT := hidH (HID19.out.keep (kp_bel hBT HC19.out))
      have i9t := i9 _ HIT.out
      clear hyT hrT hBT i9n
      simp only [List.length_nil]
      go_wp2_with fail
      refine (cnote_walk HCT.out).mono ?_
      rw [show ((⟨p0 p, J1, S1, [], false⟩ : Cs)).J.n = ⟨0, zeros p.P.toNat, zeros p.P.toNat, 1⟩ from HN1.out]
      rintro e wU ⟨pa, pc, ca, cc, rfl, _, _, hBU⟩
      have hfa := fun w => fd_note0 0 1 pa ca (zeros p.P.toNat).length pc (zeros p.P.toNat).length cc w
      have hfb := fun w => fd_tri0 0 pa ca (zeros p.P.toNat).length pc (zeros p.P.toNat).length cc w
      have HBU := hidH ((HCT.out.below hBU).bel)
      clear hBU i9t
      go_wp2_with fail
      go_ret
      exact ⟨rfl, HB1.out.trans (HBU.out.mono HB1.out.size)⟩
    · have q2 : (by'.tmod 2 == 0) = false := by simp [hev]
      clear hev
      go_wp2_with fail
      refine wp_region_noPanic ?_
      refine wp_region_held_drew (S := (fun wx => Ids Ac WB TB p (.slice oa p.l.length oc) sb cb ⟨y, .slice fa y.f.length fc, .slice ea y.e.length ec⟩ (.slice (some ⟨g5, 0, none⟩) 1 cap5) wx)) (by kernel_rfl) ?_ (fun hHeld => ?_)
      · exact (HID18.out.keep (kp_bel (below_drewN w18 1) HC18.out))
      refine wpAnyH_take (i := 0) (oi := ⟨some 181, _, _, _, _, _⟩) (v := ?_) rfl (by kernel_rfl) (by kernel_rfl) (by kernel_rfl) (fun _ _ _ h => h) (Or.inl ⟨by rfl, ?_⟩) hHeld ?_
      rotate_left
      · intro w hSw; (try dsimp only at hSw); go_simp; all_goals (with_reducible rfl)
      try simp only [Act.put, List.setIfInBounds_toArray, List.set_cons_zero, List.set_cons_succ]
      refine wpAnyH_take (i := 1) (oi := ⟨some 182, _, _, _, _, _⟩) (v := ?_) rfl (by kernel_rfl) (by kernel_rfl) (by kernel_rfl) (fun _ _ _ h => h) (Or.inl ⟨by rfl, ?_⟩) hHeld ?_
      rotate_left
      · intro w hSw; (try dsimp only at hSw); go_simp; all_goals (with_reducible rfl)
      try simp only [Act.put, List.setIfInBounds_toArray, List.set_cons_zero, List.set_cons_succ]
      refine wpAnyH_take (i := 2) (oi := ⟨some 183, _, _, _, _, _⟩) (v := ?_) rfl (by kernel_rfl) (by kernel_rfl) (by kernel_rfl) (fun _ _ _ h => h) (Or.inl ⟨by rfl, ?_⟩) hHeld ?_
      rotate_left
      · intro w hSw; (try dsimp only at hSw); go_simp; all_goals (with_reducible rfl)
      try simp only [Act.put, List.setIfInBounds_toArray, List.set_cons_zero, List.set_cons_succ]
      refine wpAnyH_take (i := 3) (oi := ⟨some 184, _, _, _, _, _⟩) (v := ?_) rfl (by kernel_rfl) (by kernel_rfl) (by kernel_rfl) (fun _ _ _ h => h) (Or.inl ⟨by rfl, ?_⟩) hHeld ?_
      rotate_left
      · intro w hSw; (try dsimp only at hSw); go_simp; all_goals (with_reducible rfl)
      try simp only [Act.put, List.setIfInBounds_toArray, List.set_cons_zero, List.set_cons_succ]
      refine wpAnyH_ready (rs := [4]) (by kernel_rfl) (by simp) ?_
      refine AllReadyH.cons (o := ⟨some 185, _, _, _, _, _⟩) rfl (fun K hK => ?_) AllReadyH.nil
      go_simp
      refine (about19_walk (x := ⟨y, .slice fa y.f.length fc, .slice ea y.e.length ec⟩) (k := 2) (ev := (.slice (some ⟨gfine, 0, none⟩) y.f.length capfine)) (l := (zset p.P.toNat (1 + rr))) ((HID18.out.keep (kp_bel (below_drewN w18 1) HC18.out)).yl HYO.out) (own_nv (HLfine18.out.keep (kp_bel (below_drewN w18 1) HC18.out)).o (in64_of HBN.out))).mono ?_
      rintro e wA ⟨rfl, hBA⟩
      have HBA : Hid (Below w18.heap.size w18 wA) := below_trans (below_drewN w18 1) hBA
      clear hBA
      refine hK.out _ _ ?_ (fun hHeld => ?_)
      · exact (HID18.out.keep (kp_bel HBA.out HC18.out))
      clear hK K
      refine wpAnyH_ready (rs := [5]) (by kernel_rfl) (by simp) ?_
      refine AllReadyH.cons (o := ⟨some 186, _, _, _, _, _⟩) rfl (fun K hK => ?_) AllReadyH.nil
      go_simp
      refine (take_walk19 (m := (⟨2, y.n, 0, y.b, y.a, 0, zset p.P.toNat (1 + rr), [], []⟩ : Ms)) (HC18.out.below HBA.out) (ml_own (HLfine18.out.keep (kp_bel HBA.out HC18.out)).o (in64_of HBN.out) HLfine18.out.a) HWR.out).mono ?_
      rw [HTA.out.2.2.2.2.1.1, HTA.out.2.2.2.2.1.2.1, HTA.out.2.2.2.2.1.2.2]
      rintro e w19 ⟨vB, BB, rfl, hmg, _, hcw, hch⟩
      have HC19 : Hid (CW w1 Ac sb cb (⟨p0 p, J1, S1, [goY (rdyY y (zset p.P.toNat (1 + rr)))], false⟩ : Cs) w19) := hcw.less (fun x hx => .inl hx)
      have hkp := kp_cha hch (HC18.out.below HBA.out)
      have HID19 : Hid (Ids Ac WB TB p (.slice oa p.l.length oc) sb cb ⟨y, .slice fa y.f.length fc, .slice ea y.e.length ec⟩ (.slice (some ⟨g5, 0, none⟩) 1 cap5) w19) := (HID18.out.keep (kp_bel HBA.out HC18.out)).keep hkp
      have HLfar19 := hidH ((HLfar18.out.keep (kp_bel HBA.out HC18.out)).keep hkp)
      have HLfine19 := hidH ((HLfine18.out.keep (kp_bel HBA.out HC18.out)).keep hkp)
      have HMG19 : Hid (MgR BB w19 vB (some (abtM 3 (goY (rdyY y (zset p.P.toNat (1 + rr)))) (zset p.P.toNat (1 + rr))))) := hmg
      obtain ⟨gB, eB, rfl, _⟩ := hmg
      clear hcw hch hkp
      refine hK.out _ _ ?_ (fun hHeld => ?_)
      · exact HID19.out
      clear hK K
      try simp only [Act.put, List.setIfInBounds_toArray, List.set_cons_zero, List.set_cons_succ]
      refine wpAnyH_take (i := 6) (oi := ⟨some 180, _, _, _, _, _⟩) (v := ?_) rfl (by kernel_rfl) (by kernel_rfl) (by kernel_rfl) (fun _ _ _ h => h) (Or.inl ⟨by rfl, ?_⟩) hHeld ?_
      rotate_left
      · intro w hSw; (try dsimp only at hSw); go_simp; all_goals (with_reducible rfl)
      try simp only [Act.put, List.setIfInBounds_toArray, List.set_cons_zero, List.set_cons_succ]
      refine wpAnyH_take (i := 7) (oi := ⟨some 187, _, _, _, _, _⟩) (v := ?_) rfl (by kernel_rfl) (by kernel_rfl) (by kernel_rfl) (fun _ _ _ h => h) (Or.inl ⟨by rfl, ?_⟩) hHeld ?_
      rotate_left
      · intro w hSw; (try dsimp only at hSw); go_simp; all_goals (with_reducible rfl)
      try simp only [Act.put, List.setIfInBounds_toArray, List.set_cons_zero, List.set_cons_succ]
      refine wpAnyH_take (i := 8) (oi := ⟨some 188, _, _, _, _, _⟩) (v := ?_) rfl (by kernel_rfl) (by kernel_rfl) (by kernel_rfl) (fun _ _ _ h => h) (Or.inl ⟨by rfl, ?_⟩) hHeld ?_
      rotate_left
      · intro w hSw; (try dsimp only at hSw); go_simp; all_goals (with_reducible rfl)
      try simp only [Act.put, List.setIfInBounds_toArray, List.set_cons_zero, List.set_cons_succ]
      refine wpAnyH_take (i := 9) (oi := ⟨some 12, _, _, _, _, _⟩) (v := ?_) rfl (by kernel_rfl) (by kernel_rfl) (by kernel_rfl) (fun _ _ _ h => h) (Or.inl ⟨by rfl, ?_⟩) hHeld ?_
      rotate_left
      · intro w hSw; (try dsimp only at hSw); go_simp; all_goals (with_reducible rfl)
      try simp only [Act.put, List.setIfInBounds_toArray, List.set_cons_zero, List.set_cons_succ]
      refine wpAnyH_take (i := 10) (oi := ⟨some 13, _, _, _, _, _⟩) (v := ?_) rfl (by kernel_rfl) (by kernel_rfl) (by kernel_rfl) (fun _ _ _ h => h) (Or.inl ⟨by rfl, ?_⟩) hHeld ?_
      rotate_left
      · intro w hSw; (try dsimp only at hSw); go_simp; all_goals (with_reducible rfl)
      try simp only [Act.put, List.setIfInBounds_toArray, List.set_cons_zero, List.set_cons_succ]
      refine wpAnyH_done (by kernel_rfl) ?_ _
      refine NoPanic.normal ?_
      clear HC18 HID18 HBA HLfar18 HLfine18
      obtain ⟨gB', eB', eq', hgB, hoB, _⟩ := HMG19.out
      cases eq'
      have hb0 : w19.cell? ⟨gB, 0, none⟩ = some (.int .i64 3) := by rw [blk_cell hgB]; rfl
      have hb6 : w19.cell? ⟨gB, 6, none⟩ = some eB' := by rw [blk_cell hgB]; rfl
      have HOB : Hid (OwN 0 w19 eB' (zset p.P.toNat (1 + rr))) := hoB
      obtain ⟨_, ba, bc, rfl, _⟩ := own_nl hoB
      clear hgB hoB
      go_wp2_with fail
      refine (ints19_walk (own_nv HOB.out (in64_of HBN.out)) (own_nv HLfine19.out.o (in64_of HBN.out))).mono ?_
      rw [decide_eq_true rfl]
      rintro e w20 ⟨rfl, hB20⟩
      have HC20 := hidH (HC19.out.below hB20)
      have HID20 := hidH (HID19.out.keep (kp_bel hB20 HC19.out))
      have HLfine20 := hidH (HLfine19.out.keep (kp_bel hB20 HC19.out))
      have HTY : Hid (taC (⟨p0 p, J1, S1, [goY (rdyY y (zset p.P.toNat (1 + rr)))], false⟩ : Cs) (⟨8, y.n, 0, y.b, y.a, 0, y.f, [], []⟩ : Ms) = (⟨p0 p, J1, S1, [goY (rdyY y (zset p.P.toNat (1 + rr)))], false⟩ : Cs) ∧ taM (⟨p0 p, J1, S1, [goY (rdyY y (zset p.P.toNat (1 + rr)))], false⟩ : Cs) (⟨8, y.n, 0, y.b, y.a, 0, y.f, [], []⟩ : Ms) = none ∧ taE (⟨p0 p, J1, S1, [goY (rdyY y (zset p.P.toNat (1 + rr)))], false⟩ : Cs) (⟨8, y.n, 0, y.b, y.a, 0, y.f, [], []⟩ : Ms) = 0) := by show _ ∧ _; rw [HYF.out.1]; exact HTA.out.2.2.2.2.2.1
      clear hB20 hb0 hb6 HOB HMG19 HC19 HID19 HLfine19 HLfar19
      go_wp2_with fail
      refine wp_region_noPanic ?_
      refine wp_region_held_drew (S := (fun wx => Ids Ac WB TB p (.slice oa p.l.length oc) sb cb ⟨y, .slice fa y.f.length fc, .slice ea y.e.length ec⟩ (.slice (some ⟨g5, 0, none⟩) 1 cap5) wx)) (by kernel_rfl) ?_ (fun hHeld => ?_)
      · exact (HID20.out.keep (kp_bel (below_drewN w20 1) HC20.out))
      refine wpAnyH_take (i := 0) (oi := ⟨some 213, _, _, _, _, _⟩) (v := ?_) rfl (by kernel_rfl) (by kernel_rfl) (by kernel_rfl) (fun _ _ _ h => h) (Or.inl ⟨by rfl, ?_⟩) hHeld ?_
      rotate_left
      · intro w hSw; (try dsimp only at hSw); go_simp; all_goals (with_reducible rfl)
      try simp only [Act.put, List.setIfInBounds_toArray, List.set_cons_zero, List.set_cons_succ]
      refine wpAnyH_take (i := 1) (oi := ⟨some 214, _, _, _, _, _⟩) (v := ?_) rfl (by kernel_rfl) (by kernel_rfl) (by kernel_rfl) (fun _ _ _ h => h) (Or.inl ⟨by rfl, ?_⟩) hHeld ?_
      rotate_left
      · intro w hSw; (try dsimp only at hSw); go_simp; all_goals (with_reducible rfl)
      try simp only [Act.put, List.setIfInBounds_toArray, List.set_cons_zero, List.set_cons_succ]
      refine wpAnyH_take (i := 2) (oi := ⟨some 215, _, _, _, _, _⟩) (v := ?_) rfl (by kernel_rfl) (by kernel_rfl) (by kernel_rfl) (fun _ _ _ h => h) (Or.inl ⟨by rfl, ?_⟩) hHeld ?_
      rotate_left
      · intro w hSw; (try dsimp only at hSw); go_simp; all_goals (with_reducible rfl)
      try simp only [Act.put, List.setIfInBounds_toArray, List.set_cons_zero, List.set_cons_succ]
      refine wpAnyH_take (i := 3) (oi := ⟨some 216, _, _, _, _, _⟩) (v := ?_) rfl (by kernel_rfl) (by kernel_rfl) (by kernel_rfl) (fun _ _ _ h => h) (Or.inl ⟨by rfl, ?_⟩) hHeld ?_
      rotate_left
      · intro w hSw; (try dsimp only at hSw); go_simp; all_goals (with_reducible rfl)
      try simp only [Act.put, List.setIfInBounds_toArray, List.set_cons_zero, List.set_cons_succ]
      refine wpAnyH_take (i := 4) (oi := ⟨some 217, _, _, _, _, _⟩) (v := ?_) rfl (by kernel_rfl) (by kernel_rfl) (by kernel_rfl) (fun _ _ _ h => h) (Or.inl ⟨by rfl, ?_⟩) hHeld ?_
      rotate_left
      · intro w hSw; (try dsimp only at hSw); go_simp; all_goals (with_reducible rfl)
      try simp only [Act.put, List.setIfInBounds_toArray, List.set_cons_zero, List.set_cons_succ]
      refine wpAnyH_ready (rs := [5]) (by kernel_rfl) (by simp) ?_
      refine AllReadyH.cons (o := ⟨some 218, _, _, _, _, _⟩) rfl (fun K hK => ?_) AllReadyH.nil
      go_simp
      refine (about19_walk (x := ⟨y, .slice fa y.f.length fc, .slice ea y.e.length ec⟩) (k := 8) (ev := (.slice fa y.f.length fc)) (l := y.f) ((HID20.out.keep (kp_bel (below_drewN w20 1) HC20.out)).yl HYO.out) (own_nv (HID20.out.keep (kp_bel (below_drewN w20 1) HC20.out)).xf (in64_of HYO.out.fm))).mono ?_
      rintro e wA ⟨rfl, hBA⟩
      have HBA : Hid (Below w20.heap.size w20 wA) := below_trans (below_drewN w20 1) hBA
      clear hBA
      refine hK.out _ _ ?_ (fun hHeld => ?_)
      · exact (HID20.out.keep (kp_bel HBA.out HC20.out))
      clear hK K
      refine wpAnyH_ready (rs := [6]) (by kernel_rfl) (by simp) ?_
      refine AllReadyH.cons (o := ⟨some 219, _, _, _, _, _⟩) rfl (fun K hK => ?_) AllReadyH.nil
      go_simp
      refine (take_walk19 (m := (⟨8, y.n, 0, y.b, y.a, 0, y.f, [], []⟩ : Ms)) (HC20.out.below HBA.out) (ml_own (HID20.out.keep (kp_bel HBA.out HC20.out)).xf (in64_of HYO.out.fm) HID20.out.af) HWR.out).mono ?_
      rw [HTY.out.1, HTY.out.2.1, HTY.out.2.2]
      rintro e w21 ⟨vB, BB, rfl, hmg, _, hcw, hch⟩
      have HC21 : Hid (CW w1 Ac sb cb (⟨p0 p, J1, S1, [goY (rdyY y (zset p.P.toNat (1 + rr)))], false⟩ : Cs) w21) := hcw.less (fun x hx => .inl hx)
      have hkp := kp_cha hch (HC20.out.below HBA.out)
      have HID21 : Hid (Ids Ac WB TB p (.slice oa p.l.length oc) sb cb ⟨y, .slice fa y.f.length fc, .slice ea y.e.length ec⟩ (.slice (some ⟨g5, 0, none⟩) 1 cap5) w21) := (HID20.out.keep (kp_bel HBA.out HC20.out)).keep hkp
      have HLfine21 := hidH ((HLfine20.out.keep (kp_bel HBA.out HC20.out)).keep hkp)
      have hv : vB = .slice none 0 0 := hmg
      subst hv
      clear hmg hcw hch hkp
      refine hK.out _ _ ?_ (fun hHeld => ?_)
      · exact HID21.out
      clear hK K
      try simp only [Act.put, List.setIfInBounds_toArray, List.set_cons_zero, List.set_cons_succ]
      refine wpAnyH_take (i := 7) (oi := ⟨some 212, _, _, _, _, _⟩) (v := ?_) rfl (by kernel_rfl) (by kernel_rfl) (by kernel_rfl) (fun _ _ _ h => h) (Or.inl ⟨by rfl, ?_⟩) hHeld ?_
      rotate_left
      · intro w hSw; (try dsimp only at hSw); go_simp; all_goals (with_reducible rfl)
      try simp only [Act.put, List.setIfInBounds_toArray, List.set_cons_zero, List.set_cons_succ]
      refine wpAnyH_take (i := 8) (oi := ⟨some 220, _, _, _, _, _⟩) (v := ?_) rfl (by kernel_rfl) (by kernel_rfl) (by kernel_rfl) (fun _ _ _ h => h) (Or.inl ⟨by rfl, ?_⟩) hHeld ?_
      rotate_left
      · intro w hSw; (try dsimp only at hSw); go_simp; all_goals (with_reducible rfl)
      try simp only [Act.put, List.setIfInBounds_toArray, List.set_cons_zero, List.set_cons_succ]
      refine wpAnyH_take (i := 9) (oi := ⟨some 221, _, _, _, _, _⟩) (v := ?_) rfl (by kernel_rfl) (by kernel_rfl) (by kernel_rfl) (fun _ _ _ h => h) (Or.inl ⟨by rfl, ?_⟩) hHeld ?_
      rotate_left
      · intro w hSw; (try dsimp only at hSw); go_simp; all_goals (with_reducible rfl)
      try simp only [Act.put, List.setIfInBounds_toArray, List.set_cons_zero, List.set_cons_succ]
      refine wpAnyH_take (i := 10) (oi := ⟨some 12, _, _, _, _, _⟩) (v := ?_) rfl (by kernel_rfl) (by kernel_rfl) (by kernel_rfl) (fun _ _ _ h => h) (Or.inl ⟨by rfl, ?_⟩) hHeld ?_
      rotate_left
      · intro w hSw; (try dsimp only at hSw); go_simp; all_goals (with_reducible rfl)
      try simp only [Act.put, List.setIfInBounds_toArray, List.set_cons_zero, List.set_cons_succ]
      refine wpAnyH_take (i := 11) (oi := ⟨some 13, _, _, _, _, _⟩) (v := ?_) rfl (by kernel_rfl) (by kernel_rfl) (by kernel_rfl) (fun _ _ _ h => h) (Or.inl ⟨by rfl, ?_⟩) hHeld ?_
      rotate_left
      · intro w hSw; (try dsimp only at hSw); go_simp; all_goals (with_reducible rfl)
      try simp only [Act.put, List.setIfInBounds_toArray, List.set_cons_zero, List.set_cons_succ]
      refine wpAnyH_done (by kernel_rfl) ?_ _
      refine NoPanic.normal ?_
      clear HC20 HID20 HBA HLfine20
      have i9n := i9 _ HID21.out
      go_wp2_with fail
      refine (cnote_walk HC21.out).mono ?_
      rw [show ((⟨p0 p, J1, S1, [goY (rdyY y (zset p.P.toNat (1 + rr)))], false⟩ : Cs)).J.n = ⟨0, zeros p.P.toNat, zeros p.P.toNat, 1⟩ from HN1.out]
      rintro e w22 ⟨pa, pc, ca, cc, rfl, _, _, hBU⟩
      have hfa := fun w => fd_note0 0 1 pa ca (zeros p.P.toNat).length pc (zeros p.P.toNat).length cc w
      have hfb := fun w => fd_tri0 0 pa ca (zeros p.P.toNat).length pc (zeros p.P.toNat).length cc w
      have HC22 := hidH (HC21.out.below hBU)
      have HID22 := hidH (HID21.out.keep (kp_bel hBU HC21.out))
      have HLfine22 := hidH (HLfine21.out.keep (kp_bel hBU HC21.out))
      obtain ⟨J3, S3, r1, r2, r3, rn⟩ := HTA.out.2.2.2.2.2.2
      have HT6 := hidH (And.intro r1 (And.intro r2 r3))
      have HN3 := hidH rn
      clear hBU i9n HC21 HID21 HLfine21 r1 r2 r3 rn
      go_wp2_with fail
      refine wp_region_noPanic ?_
      refine wp_region_held_drew (S := (fun wx => Ids Ac WB TB p (.slice oa p.l.length oc) sb cb ⟨y, .slice fa y.f.length fc, .slice ea y.e.length ec⟩ (.slice (some ⟨g5, 0, none⟩) 1 cap5) wx)) (by kernel_rfl) ?_ (fun hHeld => ?_)
      · exact (HID22.out.keep (kp_bel (below_drewN w22 1) HC22.out))
      refine wpAnyH_take (i := 0) (oi := ⟨some 238, _, _, _, _, _⟩) (v := ?_) rfl (by kernel_rfl) (by kernel_rfl) (by kernel_rfl) (fun _ _ _ h => h) (Or.inl ⟨by rfl, ?_⟩) hHeld ?_
      rotate_left
      · intro w hSw; (try dsimp only at hSw); go_simp; all_goals (with_reducible rfl)
      try simp only [Act.put, List.setIfInBounds_toArray, List.set_cons_zero, List.set_cons_succ]
      refine wpAnyH_take (i := 1) (oi := ⟨some 239, _, _, _, _, _⟩) (v := ?_) rfl (by kernel_rfl) (by kernel_rfl) (by kernel_rfl) (fun _ _ _ h => h) (Or.inl ⟨by rfl, ?_⟩) hHeld ?_
      rotate_left
      · intro w hSw; (try dsimp only at hSw); go_simp; all_goals (with_reducible rfl)
      try simp only [Act.put, List.setIfInBounds_toArray, List.set_cons_zero, List.set_cons_succ]
      refine wpAnyH_take (i := 2) (oi := ⟨some 240, _, _, _, _, _⟩) (v := ?_) rfl (by kernel_rfl) (by kernel_rfl) (by kernel_rfl) (fun _ _ _ h => h) (Or.inl ⟨by rfl, ?_⟩) hHeld ?_
      rotate_left
      · intro w hSw; (try dsimp only at hSw); go_simp; all_goals (with_reducible rfl)
      try simp only [Act.put, List.setIfInBounds_toArray, List.set_cons_zero, List.set_cons_succ]
      refine wpAnyH_take (i := 3) (oi := ⟨some 241, _, _, _, _, _⟩) (v := ?_) rfl (by kernel_rfl) (by kernel_rfl) (by kernel_rfl) (fun _ _ _ h => h) (Or.inl ⟨by rfl, ?_⟩) hHeld ?_
      rotate_left
      · intro w hSw; (try dsimp only at hSw); go_simp; all_goals (with_reducible rfl)
      try simp only [Act.put, List.setIfInBounds_toArray, List.set_cons_zero, List.set_cons_succ]
      refine wpAnyH_ready (rs := [4]) (by kernel_rfl) (by simp) ?_
      refine AllReadyH.cons (o := ⟨some 242, _, _, _, _, _⟩) rfl (fun K hK => ?_) AllReadyH.nil
      go_simp
      refine (about19_walk (x := ⟨y, .slice fa y.f.length fc, .slice ea y.e.length ec⟩) (k := 8) (ev := (.slice (some ⟨gfine, 0, none⟩) y.f.length capfine)) (l := (zset p.P.toNat (1 + rr))) ((HID22.out.keep (kp_bel (below_drewN w22 1) HC22.out)).yl HYO.out) (own_nv (HLfine22.out.keep (kp_bel (below_drewN w22 1) HC22.out)).o (in64_of HBN.out))).mono ?_
      rintro e wA ⟨rfl, hBA⟩
      have HBA : Hid (Below w22.heap.size w22 wA) := below_trans (below_drewN w22 1) hBA
      clear hBA
      refine hK.out _ _ ?_ (fun hHeld => ?_)
      · exact (HID22.out.keep (kp_bel HBA.out HC22.out))
      clear hK K
      refine wpAnyH_ready (rs := [5]) (by kernel_rfl) (by simp) ?_
      refine AllReadyH.cons (o := ⟨some 243, _, _, _, _, _⟩) rfl (fun K hK => ?_) AllReadyH.nil
      go_simp
      refine (take_walk19 (m := (⟨8, y.n, 0, y.b, y.a, 0, zset p.P.toNat (1 + rr), [], []⟩ : Ms)) (HC22.out.below HBA.out) (ml_own (HLfine22.out.keep (kp_bel HBA.out HC22.out)).o (in64_of HBN.out) HLfine22.out.a) HWR.out).mono ?_
      rw [HT6.out.1, HT6.out.2.1, HT6.out.2.2]
      rintro e w23 ⟨vB, BB, rfl, hmg, _, hcw, hch⟩
      have HC23 : Hid (CW w1 Ac sb cb (⟨p0 p, J3, S3, [], false⟩ : Cs) w23) := hcw.less (fun x hx => .inl hx)
      have hkp := kp_cha hch (HC22.out.below HBA.out)
      have HID23 : Hid (Ids Ac WB TB p (.slice oa p.l.length oc) sb cb ⟨y, .slice fa y.f.length fc, .slice ea y.e.length ec⟩ (.slice (some ⟨g5, 0, none⟩) 1 cap5) w23) := (HID22.out.keep (kp_bel HBA.out HC22.out)).keep hkp
      have HLfine23 := hidH ((HLfine22.out.keep (kp_bel HBA.out HC22.out)).keep hkp)
      have hv : vB = .slice none 0 0 := hmg
      subst hv
      clear hmg hcw hch hkp
      refine hK.out _ _ ?_ (fun hHeld => ?_)
      · exact HID23.out
      clear hK K
      try simp only [Act.put, List.setIfInBounds_toArray, List.set_cons_zero, List.set_cons_succ]
      refine wpAnyH_take (i := 6) (oi := ⟨some 237, _, _, _, _, _⟩) (v := ?_) rfl (by kernel_rfl) (by kernel_rfl) (by kernel_rfl) (fun _ _ _ h => h) (Or.inl ⟨by rfl, ?_⟩) hHeld ?_
      rotate_left
      · intro w hSw; (try dsimp only at hSw); go_simp; all_goals (with_reducible rfl)
      try simp only [Act.put, List.setIfInBounds_toArray, List.set_cons_zero, List.set_cons_succ]
      refine wpAnyH_take (i := 7) (oi := ⟨some 244, _, _, _, _, _⟩) (v := ?_) rfl (by kernel_rfl) (by kernel_rfl) (by kernel_rfl) (fun _ _ _ h => h) (Or.inl ⟨by rfl, ?_⟩) hHeld ?_
      rotate_left
      · intro w hSw; (try dsimp only at hSw); go_simp; all_goals (with_reducible rfl)
      try simp only [Act.put, List.setIfInBounds_toArray, List.set_cons_zero, List.set_cons_succ]
      refine wpAnyH_take (i := 8) (oi := ⟨some 245, _, _, _, _, _⟩) (v := ?_) rfl (by kernel_rfl) (by kernel_rfl) (by kernel_rfl) (fun _ _ _ h => h) (Or.inl ⟨by rfl, ?_⟩) hHeld ?_
      rotate_left
      · intro w hSw; (try dsimp only at hSw); go_simp; all_goals (with_reducible rfl)
      try simp only [Act.put, List.setIfInBounds_toArray, List.set_cons_zero, List.set_cons_succ]
      refine wpAnyH_take (i := 9) (oi := ⟨some 12, _, _, _, _, _⟩) (v := ?_) rfl (by kernel_rfl) (by kernel_rfl) (by kernel_rfl) (fun _ _ _ h => h) (Or.inl ⟨by rfl, ?_⟩) hHeld ?_
      rotate_left
      · intro w hSw; (try dsimp only at hSw); go_simp; all_goals (with_reducible rfl)
      try simp only [Act.put, List.setIfInBounds_toArray, List.set_cons_zero, List.set_cons_succ]
      refine wpAnyH_take (i := 10) (oi := ⟨some 13, _, _, _, _, _⟩) (v := ?_) rfl (by kernel_rfl) (by kernel_rfl) (by kernel_rfl) (fun _ _ _ h => h) (Or.inl ⟨by rfl, ?_⟩) hHeld ?_
      rotate_left
      · intro w hSw; (try dsimp only at hSw); go_simp; all_goals (with_reducible rfl)
      try simp only [Act.put, List.setIfInBounds_toArray, List.set_cons_zero, List.set_cons_succ]
      refine wpAnyH_done (by kernel_rfl) ?_ _
      refine NoPanic.normal ?_
      clear HC22 HID22 HBA HLfine22
      have i9n := i9 _ HID23.out
      go_wp2_with fail
      refine (cnote_walk HC23.out).mono ?_
      rw [show ((⟨p0 p, J3, S3, [], false⟩ : Cs)).J.n = ⟨1, zeros p.P.toNat, zset p.P.toNat (1 + rr), 1⟩ from HN3.out]
      rintro e w24 ⟨pa4, pc4, ca4, cc4, rfl, _, _, hBU⟩
      have hfa4 := fun w => fd_note0 1 1 pa4 ca4 (zeros p.P.toNat).length pc4 (zset p.P.toNat (1 + rr)).length cc4 w
      have hfb4 := fun w => fd_tri0 1 pa4 ca4 (zeros p.P.toNat).length pc4 (zset p.P.toNat (1 + rr)).length cc4 w
      have HC24 := hidH (HC23.out.below hBU)
      have HID24 := hidH (HID23.out.keep (kp_bel hBU HC23.out))
      have HLfine24 := hidH (HLfine23.out.keep (kp_bel hBU HC23.out))
      have i9o := i9 _ HID24.out
      clear hBU i9n
      go_wp2_with fail
      refine (cnote_walk HC24.out).mono ?_
      rw [show ((⟨p0 p, J3, S3, [], false⟩ : Cs)).J.n = ⟨1, zeros p.P.toNat, zset p.P.toNat (1 + rr), 1⟩ from HN3.out]
      rintro e w25 ⟨pa5, pc5, ca5, cc5, rfl, _, ho5, hBU⟩
      have hfa5 := fun w => fd_note0 1 1 pa5 ca5 (zeros p.P.toNat).length pc5 (zset p.P.toNat (1 + rr)).length cc5 w
      have hfb5 := fun w => fd_tri2 1 pa5 ca5 (zeros p.P.toNat).length pc5 (zset p.P.toNat (1 + rr)).length cc5 w
      have HC25 := hidH (HC24.out.below hBU)
      have HO25 : Hid (OwN w24.heap.size w25 (.slice ca5 (zset p.P.toNat (1 + rr)).length cc5) (zset p.P.toNat (1 + rr))) := ho5
      have HLfine25 := hidH (HLfine24.out.keep (kp_bel hBU HC24.out))
      clear hBU i9o ho5
      go_wp2_with fail
      refine (ints19_walk (own_nv HO25.out (in64_of HBN.out)) (own_nv HLfine25.out.o (in64_of HBN.out))).mono ?_
      rw [decide_eq_true rfl]
      rintro e w26 ⟨rfl, hB26⟩
      have HBE := hidH ((HC25.out.below hB26).bel)
      clear hB26
      go_wp2_with fail
      go_ret
      exact ⟨rfl, HB1.out.trans (HBE.out.mono HB1.out.size)⟩
end Go.Proofs.Ytiliomgnmdpebaa
