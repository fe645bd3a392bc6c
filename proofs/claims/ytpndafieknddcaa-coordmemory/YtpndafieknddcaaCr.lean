/- laid, about, onward, ints of the statements. -/
import Derived.Test.YtpndafieknddcaaM24
namespace Go.Proofs.Ytpndafieknddcaa

open Ieee Go.RowKit

section

variable {wz w w' w2 : World} {A E C : Nat → Prop} {sb cb jb : Nat} {c : Cs} {p : Pn} {q : Int} {J : Jn} {S : Dk} {F dv jv tv ov av bv : Value} {a b : List Int}

set_option maxRecDepth 100000 in
theorem ints19_walk (ha : Nv w av a) (hb : Nv w bv b) :
    Calls Try.prog 9 #[av, bv] w fun e w' => e = .returned (.bool (decide (a = b))) ∧ Below w.heap.size w w' := by
  have HA : Hid (Nv w av a) := ha
  have HB : Hid (Nv w bv b) := hb
  obtain ⟨ao, ca, rfl, hla, _⟩ := ha.form
  obtain ⟨bo, cb, rfl, hlb, _⟩ := hb.form
  clear ha hb
  by_cases hl : a.length = b.length
  · have hln : ((a.length : Int) != (b.length : Int)) = false := by simp [hl]
    have HL : Hid (a.length = b.length) := hl
    clear hl
    go_enter Try.func9, Try.ntmps9
    go_wp2_with fail
    go_loopw [5] (fun iv wr => ∃ k : Nat, k ≤ a.length ∧ iv = .int .i64 k ∧ (∀ i, i < k → nth a i = nth b i) ∧ Below w.heap.size w wr) (fun iv _ => a.length - (intOf iv).toNat)
    case atStart => exact ⟨0, Nat.zero_le _, rfl, fun i hi => by omega, below_same _⟩
    case round =>
      obtain ⟨k, hk, rfl, hall, hB⟩ := hrel
      have HALL : Hid (∀ i, i < k → nth a i = nth b i) := hall
      have HW : Hid (Below w.heap.size w wr) := hB
      clear hB hall
      by_cases hlt : k < a.length
      · have hltb : k < b.length := by have := HL.out; omega
        obtain ⟨g, off, rfl, c0⟩ := (HA.out.below HW.out).at hlt
        obtain ⟨d, doff, rfl, d0⟩ := (HB.out.below HW.out).at hltb
        obtain ⟨x, hx⟩ : ∃ x, x = nth a k := ⟨_, rfl⟩
        obtain ⟨y, hy⟩ : ∃ y, y = nth b k := ⟨_, rfl⟩
        rw [← hx] at c0
        rw [← hy] at d0
        have HX : Hid (x = nth a k) := hx
        have HY : Hid (y = nth b k) := hy
        clear hx hy
        have hlti : (k : Int) < (a.length : Int) := by omega
        have hltbi : (k : Int) < (b.length : Int) := by omega
        by_cases hle : x = y
        · have hq : (x != y) = false := by simp [hle]
          have HXY : Hid (x = y) := hle
          clear hle
          go_wp2_with fail
          go_quiet (fail)
          go_wp2_with fail
          go_roundw
          case rel =>
            refine ⟨k + 1, by omega, by go_num, fun i hi => ?_, below_trans HW.out (below_drewN _ _)⟩
            by_cases hik : i = k
            · subst hik; rw [← HX.out, ← HY.out]; exact HXY.out
            · exact HALL.out i (by omega)
          case measure => simp [intOf]; omega
        · have hq : (x != y) = true := by simp [hle]
          have HD : Hid (decide (a = b) = false) := by
            show _ = _
            refine decide_eq_false fun h => hle ?_
            rw [HX.out, HY.out, h]
          go_wp2_with fail
          go_quiet (fail)
          go_wp2_with fail
          go_ret
          exact ⟨HD.out ▸ rfl, below_trans HW.out (below_drewN _ _)⟩
      · have hnl : ¬ ((k : Int) < (a.length : Int)) := by omega
        have HD : Hid (decide (a = b) = true) := decide_eq_true (nth_ext HL.out fun i hi => HALL.out i (by omega))
        go_wp2_with fail
        go_ret
        exact ⟨HD.out ▸ rfl, HW.out⟩
  · have hln : ((a.length : Int) != (b.length : Int)) = true := by simp; omega
    have HD : Hid (decide (a = b) = false) := decide_eq_false fun h => hl (by rw [h])
    clear hl
    go_enter Try.func9, Try.ntmps9
    go_wp2_with fail
    go_ret
    exact ⟨HD.out ▸ rfl, below_same _⟩




/-- What lies below the floor is written. -/
theorem CW.beside {wy : World} (h : CW wz A sb cb c w) (hc : Ch E w w') (hE : ∀ x, E x → x < wz.heap.size) (hy : Below wy.heap.size wy w') (hs : wy.heap.size ≤ wz.heap.size) : CW wy A sb cb c w' := by
  obtain ⟨C, jb, tv, V, h1, h2, h3, h4⟩ := h.ex
  obtain ⟨D, K, l1, l2⟩ := h2.ex
  refine ⟨⟨C, jb, tv, V, fun x hx => ⟨Nat.le_trans hs (h1 x hx).1, (h1 x hx).2⟩, ⟨⟨D, K, l1.ch hc (fun x hx he => ?_), fun x hx => ⟨Nat.le_trans hs (l2 x hx).1, (l2 x hx).2⟩⟩, hy, fun x hx => Nat.lt_of_lt_of_le (h2.al x hx) hc.size⟩, h3.keep (fun x hx => hc.block x (h3.kl x hx) (fun he => ?_)) hc.size, h4⟩, h.ok⟩
  · have := (l2 x hx).1; have := hE x he; omega
  · have := (h1 x hx).1; have := hE x he; omega
/-- What laid answers. -/
def LdG (p : Pn) (ov : Value) (w : World) (e : Ending) (w' : World) : Prop := (p.is = false ∧ Below w.heap.size w w' ∧ ∃ d, e = .returned (.tuple #[.agg #[.int .i64 p.P, .int .i64 p.S, .int .i64 p.W, ov, .int .i64 p.A, .int .i64 p.B, .int .i64 p.N, .int .i64 p.G, .pointer d, .pointer none, .slice none 0 0], .bool false])) ∨ (p.is = true ∧ ∃ sb cb, e = .returned (.tuple #[.agg #[.int .i64 p.P, .int .i64 p.S, .int .i64 p.W, ov, .int .i64 p.A, .int .i64 p.B, .int .i64 p.N, .int .i64 p.G, Pt sb, Pt cb, .slice none 0 0], .bool true]) ∧ CW w (fun _ => False) sb cb (frC p) w')
theorem ch_wr11 (w : World) (P : Nat) (v0 v1 v2 v3 v4 v5 v6 v7 v8 v9 v10 : Value) : Ch (fun x => x = P) w (((((((((((w.setCell ⟨P, 0, none⟩ v0).setCell ⟨P, 1, none⟩ v1).setCell ⟨P, 2, none⟩ v2).setCell ⟨P, 3, none⟩ v3).setCell ⟨P, 4, none⟩ v4).setCell ⟨P, 5, none⟩ v5).setCell ⟨P, 6, none⟩ v6).setCell ⟨P, 7, none⟩ v7).setCell ⟨P, 8, none⟩ v8).setCell ⟨P, 9, none⟩ v9).setCell ⟨P, 10, none⟩ v10) := ((((((((((ch_set _ _ _ _).self (ch_set _ _ _ _)).self (ch_set _ _ _ _)).self (ch_set _ _ _ _)).self (ch_set _ _ _ _)).self (ch_set _ _ _ _)).self (ch_set _ _ _ _)).self (ch_set _ _ _ _)).self (ch_set _ _ _ _)).self (ch_set _ _ _ _)).self (ch_set _ _ _ _)
set_option maxRecDepth 100000 in
set_option maxHeartbeats 2000000 in
theorem laid_walk19 (ho : Ov w ov p.l) : Calls Try.prog 5 #[.agg #[.int .i64 p.P, .int .i64 p.S, .int .i64 p.W, ov, .int .i64 p.A, .int .i64 p.B, .int .i64 p.N, .int .i64 p.G]] w (LdG p ov w) := by
  obtain ⟨Z, hZ⟩ : ∃ Z : Obj, Z = Obj.cells #[.int .i64 0, .int .i64 0, .int .i64 0, .slice none 0 0, .int .i64 0, .int .i64 0, .int .i64 0, .int .i64 0, .pointer none, .pointer none, .slice none 0 0] 31 := ⟨_, rfl⟩
  obtain ⟨w0, hw0⟩ : ∃ w0, w0 = (w.alloc (Obj.cells #[.int .i64 p.P, .int .i64 p.S, .int .i64 p.W, ov, .int .i64 p.A, .int .i64 p.B, .int .i64 p.N, .int .i64 p.G] 24)).alloc Z := ⟨_, rfl⟩
  have hb0 : Below w.heap.size w w0 := by rw [hw0]; exact below_trans (below_alloc _ _) (below_alloc _ _)
  have HB0 : Hid (Below w.heap.size w w0) := hb0
  have HO : Hid (Ov w0 ov p.l) := ho.below hb0
  have hs0 : w0.heap.size = w.heap.size + 2 := by rw [hw0]; simp
  have HS0 : Hid (w0.heap.size = w.heap.size + 2) := hs0
  have HBX : Hid (w0.heap[w.heap.size]? = some (.cells #[.int .i64 p.P, .int .i64 p.S, .int .i64 p.W, ov, .int .i64 p.A, .int .i64 p.B, .int .i64 p.N, .int .i64 p.G] 24 (0, 0))) := by show _ = _; rw [hw0]; exact alloc_old (alloc_at rfl)
  have HZX : Hid (w0.heap[w.heap.size + 1]? = some Z) := by show _ = _; rw [hw0]; exact alloc_at (by simp)
  obtain ⟨⟨oa, oc, rfl, _⟩, _⟩ := ho
  have HW0 : Hid (w0 = (w.alloc (Obj.cells #[.int .i64 p.P, .int .i64 p.S, .int .i64 p.W, .slice oa p.l.length oc, .int .i64 p.A, .int .i64 p.B, .int .i64 p.N, .int .i64 p.G] 24)).alloc (Obj.cells #[.int .i64 0, .int .i64 0, .int .i64 0, .slice none 0 0, .int .i64 0, .int .i64 0, .int .i64 0, .int .i64 0, .pointer none, .pointer none, .slice none 0 0] 31)) := by show _ = _; rw [hw0, hZ]
  have HZZ : Hid (Z = Obj.cells #[.int .i64 0, .int .i64 0, .int .i64 0, .slice none 0 0, .int .i64 0, .int .i64 0, .int .i64 0, .int .i64 0, .pointer none, .pointer none, .slice none 0 0] 31) := hZ
  have HX0 := hidH HBX.out
  have x0 : w0.cell? ⟨w.heap.size, 0, none⟩ = some (.int .i64 p.P) := by rw [blk_cell HBX.out]; rfl
  have x1 : w0.cell? ⟨w.heap.size, 1, none⟩ = some (.int .i64 p.S) := by rw [blk_cell HBX.out]; rfl
  have x2 : w0.cell? ⟨w.heap.size, 2, none⟩ = some (.int .i64 p.W) := by rw [blk_cell HBX.out]; rfl
  have x3 : w0.cell? ⟨w.heap.size, 3, none⟩ = some (.slice oa p.l.length oc) := by rw [blk_cell HBX.out]; rfl
  have x4 : w0.cell? ⟨w.heap.size, 4, none⟩ = some (.int .i64 p.A) := by rw [blk_cell HBX.out]; rfl
  have x5 : w0.cell? ⟨w.heap.size, 5, none⟩ = some (.int .i64 p.B) := by rw [blk_cell HBX.out]; rfl
  have x6 : w0.cell? ⟨w.heap.size, 6, none⟩ = some (.int .i64 p.N) := by rw [blk_cell HBX.out]; rfl
  have x7 : w0.cell? ⟨w.heap.size, 7, none⟩ = some (.int .i64 p.G) := by rw [blk_cell HBX.out]; rfl
  clear hw0 hb0 hs0 hZ
  go_enter Try.func5, Try.ntmps5
  go_wp2_with fail
  rw [← HW0.out]
  refine (fresh_walk HO.out).mono ?_
  rintro e w1 (⟨his, hB1, d, rfl⟩ | ⟨his, sb, cb, rfl, hcw⟩)
  · have HIS : Hid (p.is = false) := his
    have HB1 : Hid (Below w0.heap.size w0 w1) := hB1
    have hX1 := blk_below HBX.out hB1
    have hZ1 := blk_below HZX.out hB1
    rw [HZZ.out] at hZ1
    have y0 : w1.cell? ⟨w.heap.size, 0, none⟩ = some (.int .i64 p.P) := by rw [blk_cell hX1]; rfl
    have y1 : w1.cell? ⟨w.heap.size, 1, none⟩ = some (.int .i64 p.S) := by rw [blk_cell hX1]; rfl
    have y2 : w1.cell? ⟨w.heap.size, 2, none⟩ = some (.int .i64 p.W) := by rw [blk_cell hX1]; rfl
    have y3 : w1.cell? ⟨w.heap.size, 3, none⟩ = some (.slice oa p.l.length oc) := by rw [blk_cell hX1]; rfl
    have y4 : w1.cell? ⟨w.heap.size, 4, none⟩ = some (.int .i64 p.A) := by rw [blk_cell hX1]; rfl
    have y5 : w1.cell? ⟨w.heap.size, 5, none⟩ = some (.int .i64 p.B) := by rw [blk_cell hX1]; rfl
    have y6 : w1.cell? ⟨w.heap.size, 6, none⟩ = some (.int .i64 p.N) := by rw [blk_cell hX1]; rfl
    have y7 : w1.cell? ⟨w.heap.size, 7, none⟩ = some (.int .i64 p.G) := by rw [blk_cell hX1]; rfl
    have z0 : w1.cell? ⟨w.heap.size + 1, 0, none⟩ = some (.int .i64 0) := by rw [blk_cell hZ1]; rfl
    have f0 : w1.frozen? ⟨w.heap.size + 1, 0, none⟩ = false := blk_soft hZ1 0
    have z1 : w1.cell? ⟨w.heap.size + 1, 1, none⟩ = some (.int .i64 0) := by rw [blk_cell hZ1]; rfl
    have f1 : w1.frozen? ⟨w.heap.size + 1, 1, none⟩ = false := blk_soft hZ1 1
    have z2 : w1.cell? ⟨w.heap.size + 1, 2, none⟩ = some (.int .i64 0) := by rw [blk_cell hZ1]; rfl
    have f2 : w1.frozen? ⟨w.heap.size + 1, 2, none⟩ = false := blk_soft hZ1 2
    have z3 : w1.cell? ⟨w.heap.size + 1, 3, none⟩ = some (.slice none 0 0) := by rw [blk_cell hZ1]; rfl
    have f3 : w1.frozen? ⟨w.heap.size + 1, 3, none⟩ = false := blk_soft hZ1 3
    have z4 : w1.cell? ⟨w.heap.size + 1, 4, none⟩ = some (.int .i64 0) := by rw [blk_cell hZ1]; rfl
    have f4 : w1.frozen? ⟨w.heap.size + 1, 4, none⟩ = false := blk_soft hZ1 4
    have z5 : w1.cell? ⟨w.heap.size + 1, 5, none⟩ = some (.int .i64 0) := by rw [blk_cell hZ1]; rfl
    have f5 : w1.frozen? ⟨w.heap.size + 1, 5, none⟩ = false := blk_soft hZ1 5
    have z6 : w1.cell? ⟨w.heap.size + 1, 6, none⟩ = some (.int .i64 0) := by rw [blk_cell hZ1]; rfl
    have f6 : w1.frozen? ⟨w.heap.size + 1, 6, none⟩ = false := blk_soft hZ1 6
    have z7 : w1.cell? ⟨w.heap.size + 1, 7, none⟩ = some (.int .i64 0) := by rw [blk_cell hZ1]; rfl
    have f7 : w1.frozen? ⟨w.heap.size + 1, 7, none⟩ = false := blk_soft hZ1 7
    have z8 : w1.cell? ⟨w.heap.size + 1, 8, none⟩ = some (.pointer none) := by rw [blk_cell hZ1]; rfl
    have f8 : w1.frozen? ⟨w.heap.size + 1, 8, none⟩ = false := blk_soft hZ1 8
    have z9 : w1.cell? ⟨w.heap.size + 1, 9, none⟩ = some (.pointer none) := by rw [blk_cell hZ1]; rfl
    have f9 : w1.frozen? ⟨w.heap.size + 1, 9, none⟩ = false := blk_soft hZ1 9
    have z10 : w1.cell? ⟨w.heap.size + 1, 10, none⟩ = some (.slice none 0 0) := by rw [blk_cell hZ1]; rfl
    have f10 : w1.frozen? ⟨w.heap.size + 1, 10, none⟩ = false := blk_soft hZ1 10
    clear hX1 hZ1 x0 x1 x2 x3 x4 x5 x6 x7
    clear his hB1
    go_wp2_with fail
    (try simp only [Exit.inBlock, Exit.then])
    refine bodyPost_ret (v := .tuple #[.agg #[.int .i64 p.P, .int .i64 p.S, .int .i64 p.W, .slice oa p.l.length oc, .int .i64 p.A, .int .i64 p.B, .int .i64 p.N, .int .i64 p.G, .pointer d, .pointer none, .slice none 0 0], .bool false]) (by rw [results_cell_tmp rfl]; go_simp) rfl ?_
    refine .inl ⟨HIS.out, ?_, d, rfl⟩
    have hb : Below w.heap.size w w1 := HB0.out.trans (HB1.out.mono HB0.out.size)
    exact hb.trans ((ch_wr11 w1 (w.heap.size + 1) _ _ _ _ _ _ _ _ _ _ _).to_below hb.size (fun x hx => by rw [hx]; omega))
  · have HIS : Hid (p.is = true) := his
    have HCW : Hid (CW w0 (fun _ => False) sb cb (frC p) w1) := hcw
    have hB1 := hcw.bel
    have HB1 : Hid (Below w0.heap.size w0 w1) := hB1
    have hX1 := blk_below HBX.out hB1
    have hZ1 := blk_below HZX.out hB1
    rw [HZZ.out] at hZ1
    have y0 : w1.cell? ⟨w.heap.size, 0, none⟩ = some (.int .i64 p.P) := by rw [blk_cell hX1]; rfl
    have y1 : w1.cell? ⟨w.heap.size, 1, none⟩ = some (.int .i64 p.S) := by rw [blk_cell hX1]; rfl
    have y2 : w1.cell? ⟨w.heap.size, 2, none⟩ = some (.int .i64 p.W) := by rw [blk_cell hX1]; rfl
    have y3 : w1.cell? ⟨w.heap.size, 3, none⟩ = some (.slice oa p.l.length oc) := by rw [blk_cell hX1]; rfl
    have y4 : w1.cell? ⟨w.heap.size, 4, none⟩ = some (.int .i64 p.A) := by rw [blk_cell hX1]; rfl
    have y5 : w1.cell? ⟨w.heap.size, 5, none⟩ = some (.int .i64 p.B) := by rw [blk_cell hX1]; rfl
    have y6 : w1.cell? ⟨w.heap.size, 6, none⟩ = some (.int .i64 p.N) := by rw [blk_cell hX1]; rfl
    have y7 : w1.cell? ⟨w.heap.size, 7, none⟩ = some (.int .i64 p.G) := by rw [blk_cell hX1]; rfl
    have z0 : w1.cell? ⟨w.heap.size + 1, 0, none⟩ = some (.int .i64 0) := by rw [blk_cell hZ1]; rfl
    have f0 : w1.frozen? ⟨w.heap.size + 1, 0, none⟩ = false := blk_soft hZ1 0
    have z1 : w1.cell? ⟨w.heap.size + 1, 1, none⟩ = some (.int .i64 0) := by rw [blk_cell hZ1]; rfl
    have f1 : w1.frozen? ⟨w.heap.size + 1, 1, none⟩ = false := blk_soft hZ1 1
    have z2 : w1.cell? ⟨w.heap.size + 1, 2, none⟩ = some (.int .i64 0) := by rw [blk_cell hZ1]; rfl
    have f2 : w1.frozen? ⟨w.heap.size + 1, 2, none⟩ = false := blk_soft hZ1 2
    have z3 : w1.cell? ⟨w.heap.size + 1, 3, none⟩ = some (.slice none 0 0) := by rw [blk_cell hZ1]; rfl
    have f3 : w1.frozen? ⟨w.heap.size + 1, 3, none⟩ = false := blk_soft hZ1 3
    have z4 : w1.cell? ⟨w.heap.size + 1, 4, none⟩ = some (.int .i64 0) := by rw [blk_cell hZ1]; rfl
    have f4 : w1.frozen? ⟨w.heap.size + 1, 4, none⟩ = false := blk_soft hZ1 4
    have z5 : w1.cell? ⟨w.heap.size + 1, 5, none⟩ = some (.int .i64 0) := by rw [blk_cell hZ1]; rfl
    have f5 : w1.frozen? ⟨w.heap.size + 1, 5, none⟩ = false := blk_soft hZ1 5
    have z6 : w1.cell? ⟨w.heap.size + 1, 6, none⟩ = some (.int .i64 0) := by rw [blk_cell hZ1]; rfl
    have f6 : w1.frozen? ⟨w.heap.size + 1, 6, none⟩ = false := blk_soft hZ1 6
    have z7 : w1.cell? ⟨w.heap.size + 1, 7, none⟩ = some (.int .i64 0) := by rw [blk_cell hZ1]; rfl
    have f7 : w1.frozen? ⟨w.heap.size + 1, 7, none⟩ = false := blk_soft hZ1 7
    have z8 : w1.cell? ⟨w.heap.size + 1, 8, none⟩ = some (.pointer none) := by rw [blk_cell hZ1]; rfl
    have f8 : w1.frozen? ⟨w.heap.size + 1, 8, none⟩ = false := blk_soft hZ1 8
    have z9 : w1.cell? ⟨w.heap.size + 1, 9, none⟩ = some (.pointer none) := by rw [blk_cell hZ1]; rfl
    have f9 : w1.frozen? ⟨w.heap.size + 1, 9, none⟩ = false := blk_soft hZ1 9
    have z10 : w1.cell? ⟨w.heap.size + 1, 10, none⟩ = some (.slice none 0 0) := by rw [blk_cell hZ1]; rfl
    have f10 : w1.frozen? ⟨w.heap.size + 1, 10, none⟩ = false := blk_soft hZ1 10
    clear hX1 hZ1 x0 x1 x2 x3 x4 x5 x6 x7
    clear his hcw hB1
    go_wp2_with fail
    (try simp only [Exit.inBlock, Exit.then])
    refine bodyPost_ret (v := .tuple #[.agg #[.int .i64 p.P, .int .i64 p.S, .int .i64 p.W, .slice oa p.l.length oc, .int .i64 p.A, .int .i64 p.B, .int .i64 p.N, .int .i64 p.G, Pt sb, Pt cb, .slice none 0 0], .bool true]) (by rw [results_cell_tmp rfl]; go_simp) rfl ?_
    refine .inr ⟨HIS.out, sb, cb, rfl, ?_⟩
    have hb : Below w.heap.size w w1 := HB0.out.trans (HB1.out.mono HB0.out.size)
    have hc := ch_wr11 w1 (w.heap.size + 1) (.int .i64 p.P) (.int .i64 p.S) (.int .i64 p.W) (.slice oa p.l.length oc) (.int .i64 p.A) (.int .i64 p.B) (.int .i64 p.N) (.int .i64 p.G) (Pt sb) (Pt cb) (.slice none 0 0)
    exact HCW.out.beside hc (fun x hx => by rw [hx]; have := HS0.out; omega) (hb.trans (hc.to_below hb.size (fun x hx => by rw [hx]; omega))) (by have := HS0.out; omega)
theorem about19_walk {x : Ye} {k : Int} {ev : Value} {l : List Int} (hx : Yl w x) (he : Nv w ev l) : Calls Try.prog 12 #[.int .i64 k, .agg #[.int .i64 x.y.b, .int .i64 x.y.a, .int .i64 x.y.n, .int .i64 x.y.h, .int .i64 x.y.t, x.fv, x.ev], ev] w fun e w' => e = .returned (.agg #[.int .i64 k, .int .i64 x.y.n, .int .i64 0, .int .i64 x.y.b, .int .i64 x.y.a, .int .i64 0, ev, .slice none 0 0, .slice none 0 0]) ∧ Below w.heap.size w w' := by
  obtain ⟨fa, fc, ea, ec, e1, e2⟩ := hx.form
  obtain ⟨la, lc, rfl, _⟩ := he.form
  rw [e1, e2]
  clear hx he e1 e2
  go_enter Try.func12, Try.ntmps12
  go_wp2_with fail
  (try simp only [Exit.inBlock, Exit.then])
  refine bodyPost_ret (v := .agg #[.int .i64 k, .int .i64 x.y.n, .int .i64 0, .int .i64 x.y.b, .int .i64 x.y.a, .int .i64 0, .slice la l.length lc, .slice none 0 0, .slice none 0 0]) (by rw [results_cell1 rfl]; go_simp) rfl ?_
  exact ⟨rfl, by first | exact below_trans (below_alloc _ _) (below_alloc _ _) | exact ((below_trans (below_alloc _ _) (below_alloc _ _))).trans ((ch_setM _ _ ⟨k, x.y.n, 0, x.y.b, x.y.a, 0, l, [], []⟩ _ _ _).to_below (by simp) (fun x hx => by rw [hx]; simp))⟩
end

end Go.Proofs.Ytpndafieknddcaa
