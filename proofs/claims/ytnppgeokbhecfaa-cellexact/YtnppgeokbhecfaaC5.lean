/- The walk of CellExact. -/
import Derived.Test.YtnppgeokbhecfaaCj
import Derived.Test.YtnppgeokbhecfaaC3
namespace Go.Proofs.Ytnppgeokbhecfaa
open Ieee Go.RowKit

theorem AB.other {w : World} {x : Nat} {a b : Int} {v : Vl} (h : AB w x a b v) {p : Addr} (hne : x ≠ p.block) (u : Value) : AB (w.setCell p u) x a b v := by
  obtain ⟨c0, c1, c2, c3⟩ := h
  refine ⟨?_, ?_, ?_, ?_⟩
  all_goals (rw [World.cell?_setCell_other _ _ _ _ (by rintro ⟨⟩; exact hne rfl)]; assumption)

theorem AB.six {w : World} {x y : Nat} {a b : Int} {v : Vl} (h : AB w x a b v) (hne : x ≠ y) (d : Cl) : AB ((((((w.setCell ⟨y, 0, none⟩ (.int .u64 d.k)).setCell ⟨y, 1, none⟩ (.bool d.p.h)).setCell ⟨y, 2, none⟩ (.int .u64 d.p.b)).setCell ⟨y, 3, none⟩ (.bool d.c.h)).setCell ⟨y, 4, none⟩ (.int .u64 d.c.b)).setCell ⟨y, 5, none⟩ (.int .i64 d.n)) x a b v :=
  (((((h.other hne _).other hne _).other hne _).other hne _).other hne _).other hne _

theorem CB.six {w : World} {x y : Nat} {c : Cl} (h : CB w x c) (hne : x ≠ y) (d : Cl) : CB ((((((w.setCell ⟨y, 0, none⟩ (.int .u64 d.k)).setCell ⟨y, 1, none⟩ (.bool d.p.h)).setCell ⟨y, 2, none⟩ (.int .u64 d.p.b)).setCell ⟨y, 3, none⟩ (.bool d.c.h)).setCell ⟨y, 4, none⟩ (.int .u64 d.c.b)).setCell ⟨y, 5, none⟩ (.int .i64 d.n)) x c :=
  (((((h.other hne _).other hne _).other hne _).other hne _).other hne _).other hne _

theorem ab_new (w : World) (x : At) : AB (w.alloc (Obj.cells #[.int .i64 x.a, .int .i64 x.b, .bool x.v.h, .int .u64 x.v.b] 30)) w.heap.size x.a x.b x.v := by
  constructor <;> simp [go_sem]

theorem app_okC {k : Int} {c : Cl} {b : Int} {v : Vl} (hc : c.ok) (hv : v.ok) : (appC k c b v).ok := by
  unfold appC
  split
  · have h : (aheadC c b).ok := by unfold aheadC; split; exact hc.2; exact hc.1
    exact ⟨h, mergeV_ok k h hv⟩
  · exact ⟨noV_ok, noV_ok⟩

theorem rev_okC {c : Cl} {b : Int} (hc : c.ok) : (revC c b).ok := by
  unfold revC
  split
  · exact hc
  · exact ⟨hc.1, hc.1⟩

/-- A block that holds three ints. -/
structure IB3 (w : World) (x : Nat) (a b c : Int) : Prop where
  c0 : w.cell? ⟨x, 0, none⟩ = some (.int .i64 a)
  c1 : w.cell? ⟨x, 1, none⟩ = some (.int .i64 b)
  c2 : w.cell? ⟨x, 2, none⟩ = some (.int .i64 c)

theorem IB3.below {w w' : World} {x B : Nat} {a b c : Int} (h : IB3 w x a b c) (hb : Below B w w') (hl : x < B) : IB3 w' x a b c :=
  ⟨by rw [hb.cell (p := ⟨x, 0, none⟩) hl]; exact h.c0, by rw [hb.cell (p := ⟨x, 1, none⟩) hl]; exact h.c1, by rw [hb.cell (p := ⟨x, 2, none⟩) hl]; exact h.c2⟩

theorem ib3_new (w : World) (a b c : Int) : IB3 (w.alloc (Obj.cells #[.int .i64 a, .int .i64 b, .int .i64 c] 37)) w.heap.size a b c := by
  constructor <;> simp [go_sem]

/-- Where the loop stands: both sides hold one cell. -/
def El (w : World) (db : Nat) (l : List At) (iv : Value) (wr : World) : Prop :=
  ∃ (i : Nat) (c : Cl), i ≤ l.length ∧ iv = .int .i64 i ∧ CB wr w.heap.size c ∧ CB wr db c ∧ c.ok ∧ Below w.heap.size w wr

set_option maxRecDepth 100000 in
set_option maxHeartbeats 16000000 in
theorem cellexact_walk (k : Int) {c0 : Cl} (hc : c0.ok) {v : Value} {l : List At} {w : World} (hv : Gv w v 4 actF l) (ho : ∀ x ∈ l, x.ok) :
    Calls Try.prog 3 #[.int .i64 k, .agg #[.int .u64 c0.k, .bool c0.p.h, .int .u64 c0.p.b, .bool c0.c.h, .int .u64 c0.c.b, .int .i64 c0.n], v] w fun e w' => e = .returned (.bool true) ∧ Below w.heap.size w w' := by
  obtain ⟨ao, cap, rfl, hl1, hl2, _, hgl⟩ := hv
  have HGL : Hid (Gl w ao 4 actF l) := hgl
  have HO : Hid (∀ x ∈ l, x.ok) := ho
  have HC0 : Hid c0.ok := hc
  have hli : (l.length : Int) ≤ 9223372036854775807 := by have h := Nat.le_trans hl1 hl2; simp only [maxLen] at h; omega
  clear hgl ho hc hl1 hl2
  have hg1 := guard_val
  have hg2 := guard_cell
  go_enter Try.func3, Try.ntmps3
  go_wp2_with fail
  have H1 : Hid (CB (w.alloc (Obj.cells #[.int .u64 c0.k, .bool c0.p.h, .int .u64 c0.p.b, .bool c0.c.h, .int .u64 c0.c.b, .int .i64 c0.n] 26)) w.heap.size c0) := cb_new w c0
  have H2 : Hid (Below w.heap.size w (w.alloc (Obj.cells #[.int .u64 c0.k, .bool c0.p.h, .int .u64 c0.p.b, .bool c0.c.h, .int .u64 c0.c.b, .int .i64 c0.n] 26))) := below_alloc _ _
  generalize w.alloc (Obj.cells #[.int .u64 c0.k, .bool c0.p.h, .int .u64 c0.p.b, .bool c0.c.h, .int .u64 c0.c.b, .int .i64 c0.n] 26) = w1 at H1 H2 ⊢
  refine (awake_walk _).mono ?_
  rintro e w2 ⟨rfl, hB2⟩
  have H3 : Hid (CB w2 w.heap.size c0) := H1.out.below hB2 (cell_lt H1.out.c0)
  have H4 : Hid (Below w.heap.size w w2) := below_trans H2.out hB2
  have HWD : Hid (w.heap.size < w2.heap.size) := cell_lt H3.out.c0
  clear hB2 H1 H2
  obtain ⟨z0, z1, z2, z3, z4, z5, zz⟩ := H3.out
  go_upto_region 4 with fail
  clear z0 z1 z2 z3 z4 z5 zz
  have H5 : Hid (CB (w2.alloc (Obj.cells #[.int .u64 c0.k, .bool c0.p.h, .int .u64 c0.p.b, .bool c0.c.h, .int .u64 c0.c.b, .int .i64 c0.n] 26)) w2.heap.size c0) := cb_new w2 c0
  have hB3 : Below w2.heap.size w2 (w2.alloc (Obj.cells #[.int .u64 c0.k, .bool c0.p.h, .int .u64 c0.p.b, .bool c0.c.h, .int .u64 c0.c.b, .int .i64 c0.n] 26)) := below_alloc _ _
  generalize w2.alloc (Obj.cells #[.int .u64 c0.k, .bool c0.p.h, .int .u64 c0.p.b, .bool c0.c.h, .int .u64 c0.c.b, .int .i64 c0.n] 26) = w3 at H5 hB3 ⊢
  have H6 : Hid (CB w3 w.heap.size c0) := H3.out.below hB3 (cell_lt H3.out.c0)
  have H7 : Hid (Below w.heap.size w w3) := below_trans H4.out hB3
  clear hB3 H3 H4
  obtain ⟨db, hdb⟩ : ∃ db, db = w2.heap.size := ⟨_, rfl⟩
  rw [← hdb] at H5 HWD ⊢
  clear hdb
  go_wp2_with fail
  go_loopw [8] (fun iv wr => El w db l iv wr) (fun iv _ => l.length - (intOf iv).toNat)
  case atStart => exact ⟨0, c0, Nat.zero_le _, rfl, H6.out, H5.out, HC0.out, H7.out⟩
  case round =>
    clear H5 H6 H7
    obtain ⟨i, c, hil, rfl, hC, hD, hK, hB⟩ := hrel
    have HC : Hid (CB wr w.heap.size c) := hC
    have HD : Hid (CB wr db c) := hD
    have HK : Hid c.ok := hK
    have HB : Hid (Below w.heap.size w wr) := hB
    clear hC hD hK hB
    by_cases hlt : i < l.length
    · obtain ⟨rb, roff, rfl, hrc⟩ := HGL.out i hlt
      obtain ⟨x, hx⟩ : ∃ x, x = l[i] := ⟨_, rfl⟩
      rw [← hx] at hrc
      have HXO : Hid x.ok := by rw [hx]; exact HO.out _ (List.getElem_mem _)
      have g0 : wr.cell? ⟨rb, roff + i * 4, none⟩ = some (.int .i64 x.a) := by
        have h1 : w.cell? ⟨rb, roff + i * 4, none⟩ = some (.int .i64 x.a) := by simpa [actF, Nat.add_assoc] using hrc 0 (by omega)
        rw [HB.out.cell (p := ⟨rb, roff + i * 4, none⟩) (cell_lt h1)]
        exact h1
      have g1 : wr.cell? ⟨rb, roff + i * 4 + 1, none⟩ = some (.int .i64 x.b) := by
        have h1 : w.cell? ⟨rb, roff + i * 4 + 1, none⟩ = some (.int .i64 x.b) := by simpa [actF, Nat.add_assoc] using hrc 1 (by omega)
        rw [HB.out.cell (p := ⟨rb, roff + i * 4 + 1, none⟩) (cell_lt h1)]
        exact h1
      have g2 : wr.cell? ⟨rb, roff + i * 4 + 2, none⟩ = some (.bool x.v.h) := by
        have h1 : w.cell? ⟨rb, roff + i * 4 + 2, none⟩ = some (.bool x.v.h) := by simpa [actF, Nat.add_assoc] using hrc 2 (by omega)
        rw [HB.out.cell (p := ⟨rb, roff + i * 4 + 2, none⟩) (cell_lt h1)]
        exact h1
      have g3 : wr.cell? ⟨rb, roff + i * 4 + 3, none⟩ = some (.int .u64 x.v.b) := by
        have h1 : w.cell? ⟨rb, roff + i * 4 + 3, none⟩ = some (.int .u64 x.v.b) := by simpa [actF, Nat.add_assoc] using hrc 3 (by omega)
        rw [HB.out.cell (p := ⟨rb, roff + i * 4 + 3, none⟩) (cell_lt h1)]
        exact h1
      clear hrc hx
      have hlti : (i : Int) < (l.length : Int) := by omega
      go_upto_region 8 with fail
      clear g0 g1 g2 g3
      have HR1 : Hid (AB (wr.alloc (Obj.cells #[.int .i64 x.a, .int .i64 x.b, .bool x.v.h, .int .u64 x.v.b] 30)) wr.heap.size x.a x.b x.v) := ab_new wr x
      have hBr : Below wr.heap.size wr (wr.alloc (Obj.cells #[.int .i64 x.a, .int .i64 x.b, .bool x.v.h, .int .u64 x.v.b] 30)) := below_alloc _ _
      generalize wr.alloc (Obj.cells #[.int .i64 x.a, .int .i64 x.b, .bool x.v.h, .int .u64 x.v.b] 30) = w4 at HR1 hBr ⊢
      have HC4 : Hid (CB w4 w.heap.size c) := HC.out.below hBr (cell_lt HC.out.c0)
      have HD4 : Hid (CB w4 db c) := HD.out.below hBr (cell_lt HD.out.c0)
      have HB4 : Hid (Below w.heap.size w w4) := below_trans HB.out hBr
      have HRX : Hid (db < wr.heap.size) := cell_lt HD.out.c0
      obtain ⟨rx, hrx⟩ : ∃ rx, rx = wr.heap.size := ⟨_, rfl⟩
      rw [← hrx] at HR1 HRX ⊢
      clear hBr HC HD HB hrx
      obtain ⟨r0, r1, r2, r3⟩ := HR1.out
      go_upto_if 31 with fail
      go_cut [10, 11, 12, 13] (fun _ _ _ _ wx => ∃ c2, CB wx w.heap.size c2 ∧ CB wx db c2 ∧ AB wx rx x.a x.b x.v ∧ c2.ok ∧ Below w.heap.size w wx)
      case first =>
        obtain ⟨c0, c1, c2, c3, c4, c5, zz⟩ := HC4.out
        obtain ⟨d0, d1, d2, d3, d4, d5, yy⟩ := HD4.out
        by_cases hxa : x.a = 1
        · have hxd : (x.a == 1) = true := by rw [hxa]; rfl
          obtain ⟨D, hD⟩ : ∃ D, D = appC k c x.b x.v := ⟨_, rfl⟩
          obtain ⟨I, hI⟩ : ∃ I, I = appI k c x.b := ⟨_, rfl⟩
          have HDE : Hid (appC k c x.b x.v = D) := hD.symm
          have HIE : Hid (appI k c x.b = I) := hI.symm
          have HDO : Hid D.ok := by rw [hD]; exact app_okC HK.out HXO.out.1
          clear hD hI
          go_upto_region 10 with (go_at_call 9; refine (apply_walk k HK.out x.b HXO.out.1 _).mono ?_; rw [HDE.out, HIE.out]; rintro e w5 ⟨rfl, hB5⟩)
          clear c0 c1 c2 c3 c4 c5 zz d0 d1 d2 d3 d4 d5 yy r0 r1 r2 r3
          have HX5 : Hid (CB (w5.alloc (Obj.cells #[.int .u64 D.k, .bool D.p.h, .int .u64 D.p.b, .bool D.c.h, .int .u64 D.c.b, .int .i64 D.n] 26)) w5.heap.size D) := cb_new w5 D
          have hBd : Below w4.heap.size w4 (w5.alloc (Obj.cells #[.int .u64 D.k, .bool D.p.h, .int .u64 D.p.b, .bool D.c.h, .int .u64 D.c.b, .int .i64 D.n] 26)) := below_trans hB5 (below_alloc _ _)
          generalize w5.alloc (Obj.cells #[.int .u64 D.k, .bool D.p.h, .int .u64 D.p.b, .bool D.c.h, .int .u64 D.c.b, .int .i64 D.n] 26) = w6 at HX5 hBd ⊢
          have HC6 : Hid (CB w6 w.heap.size c) := HC4.out.below hBd (cell_lt HC4.out.c0)
          have HD6 : Hid (CB w6 db c) := HD4.out.below hBd (cell_lt HD4.out.c0)
          have HR6 : Hid (AB w6 rx x.a x.b x.v) := HR1.out.below hBd (cell_lt HR1.out.c0)
          have HB6 : Hid (Below w.heap.size w w6) := below_trans HB4.out hBd
          have HP5 : Hid (rx < w5.heap.size) := Nat.lt_of_lt_of_le (cell_lt HR1.out.c0) hB5.size
          obtain ⟨px, hpx⟩ : ∃ px, px = w5.heap.size := ⟨_, rfl⟩
          rw [← hpx] at HX5 HP5 ⊢
          clear hBd hB5 HC4 HD4 HR1 HB4 hpx
          obtain ⟨d0, d1, d2, d3, d4, d5, yy⟩ := HD6.out
          obtain ⟨r0, r1, r2, r3⟩ := HR6.out
          go_upto_region 11 with (go_at_call 10; refine (rapply_walk k HK.out x.b HXO.out.1 _).mono ?_; rw [HDE.out, HIE.out]; rintro e w7 ⟨rfl, hB7⟩)
          clear d0 d1 d2 d3 d4 d5 yy r0 r1 r2 r3
          have HY7 : Hid (CB (w7.alloc (Obj.cells #[.int .u64 D.k, .bool D.p.h, .int .u64 D.p.b, .bool D.c.h, .int .u64 D.c.b, .int .i64 D.n] 26)) w7.heap.size D) := cb_new w7 D
          have hBd : Below w6.heap.size w6 (w7.alloc (Obj.cells #[.int .u64 D.k, .bool D.p.h, .int .u64 D.p.b, .bool D.c.h, .int .u64 D.c.b, .int .i64 D.n] 26)) := below_trans hB7 (below_alloc _ _)
          generalize w7.alloc (Obj.cells #[.int .u64 D.k, .bool D.p.h, .int .u64 D.p.b, .bool D.c.h, .int .u64 D.c.b, .int .i64 D.n] 26) = w8 at HY7 hBd ⊢
          have HX8 : Hid (CB w8 px D) := HX5.out.below hBd (cell_lt HX5.out.c0)
          have HC8 : Hid (CB w8 w.heap.size c) := HC6.out.below hBd (cell_lt HC6.out.c0)
          have HD8 : Hid (CB w8 db c) := HD6.out.below hBd (cell_lt HD6.out.c0)
          have HR8 : Hid (AB w8 rx x.a x.b x.v) := HR6.out.below hBd (cell_lt HR6.out.c0)
          have HB8 : Hid (Below w.heap.size w w8) := below_trans HB6.out hBd
          have HP7 : Hid (px < w7.heap.size) := Nat.lt_of_lt_of_le (cell_lt HX5.out.c0) hB7.size
          obtain ⟨py, hpy⟩ : ∃ py, py = w7.heap.size := ⟨_, rfl⟩
          rw [← hpy] at HY7 HP7 ⊢
          clear hBd hB7 HX5 HC6 HD6 HR6 HB6 hpy
          obtain ⟨p0, p1, p2, p3, p4, p5, _⟩ := HX8.out
          obtain ⟨q0, q1, q2, q3, q4, q5, _⟩ := HY7.out
          have n1 := neq_cell D
          by_cases hI0 : I = 0
          · have hId : (I == 0) = true := by rw [hI0]; rfl
            obtain ⟨c0, c1, c2, c3, c4, c5, zz⟩ := HC8.out
            go_upto_region 15 with fail
            clear c0 c1 c2 c3 c4 c5 zz p0 p1 p2 p3 p4 p5 q0 q1 q2 q3 q4 q5
            have HC9 := CB.set HC8.out D
            have HD9 := CB.six HD8.out (y := w.heap.size) (by have := HWD.out; omega) D
            have HR9 := AB.six HR8.out (y := w.heap.size) (by have := HWD.out; have := HRX.out; omega) D
            have HY9 := CB.six HY7.out (y := w.heap.size) (by have := HWD.out; have := HRX.out; have := HP5.out; have := HP7.out; omega) D
            have HB9 := keep_cell HB8.out w.heap.size (Nat.le_refl _) (.int .u64 D.k) (.bool D.p.h) (.int .u64 D.p.b) (.bool D.c.h) (.int .u64 D.c.b) (.int .i64 D.n)
            generalize ((((((w8.setCell ⟨w.heap.size, 0, none⟩ (.int .u64 D.k)).setCell ⟨w.heap.size, 1, none⟩ (.bool D.p.h)).setCell ⟨w.heap.size, 2, none⟩ (.int .u64 D.p.b)).setCell ⟨w.heap.size, 3, none⟩ (.bool D.c.h)).setCell ⟨w.heap.size, 4, none⟩ (.int .u64 D.c.b)).setCell ⟨w.heap.size, 5, none⟩ (.int .i64 D.n)) = w9 at HC9 HD9 HR9 HY9 HB9 ⊢
            have HC10 : Hid (CB w9 w.heap.size D) := HC9
            have HD10 : Hid (CB w9 db c) := HD9
            have HR10 : Hid (AB w9 rx x.a x.b x.v) := HR9
            have HB10 : Hid (Below w.heap.size w w9) := HB9
            obtain ⟨q0, q1, q2, q3, q4, q5, _⟩ := HY9
            obtain ⟨d0, d1, d2, d3, d4, d5, yy⟩ := HD10.out
            clear HC9 HD9 HR9 HB9 HC8 HD8 HR8 HB8 HX8 HY7
            go_wp2_with fail
            go_meet
            exact ⟨D, CB.six HC10.out (by have := HWD.out; omega) D, CB.set HD10.out D, AB.six HR10.out (by have := HRX.out; omega) D, HDO.out, keep_cell HB10.out _ (Nat.le_of_lt HWD.out) _ _ _ _ _ _⟩
          · have hId : (I == 0) = false := by rw [beq_eq_false_iff_ne]; exact hI0
            go_wp2_with fail
            go_meet
            exact ⟨c, HC8.out, HD8.out, HR8.out, HK.out, HB8.out⟩
        · have hxd : (x.a == 1) = false := by rw [beq_eq_false_iff_ne]; exact hxa
          obtain ⟨D, hD⟩ : ∃ D, D = revC c x.b := ⟨_, rfl⟩
          have HDE : Hid (revC c x.b = D) := hD.symm
          have HDO : Hid D.ok := by rw [hD]; exact rev_okC HK.out
          clear hD
          go_upto_region 17 with (go_at_call 11; refine (revert_walk c (b := x.b) (by have := HXO.out.2.2; omega) _).mono ?_; rw [HDE.out]; rintro e w5 ⟨rfl, hB5⟩; obtain ⟨c0, c1, c2, c3, c4, c5, zz⟩ := HC4.out.below hB5 (cell_lt HC4.out.c0))
          clear c0 c1 c2 c3 c4 c5 zz d0 d1 d2 d3 d4 d5 yy r0 r1 r2 r3
          have HC9 := CB.set (HC4.out.below hB5 (cell_lt HC4.out.c0)) D
          have HD9 := CB.six (HD4.out.below hB5 (cell_lt HD4.out.c0)) (y := w.heap.size) (by have := HWD.out; omega) D
          have HR9 := AB.six (HR1.out.below hB5 (cell_lt HR1.out.c0)) (y := w.heap.size) (by have := HWD.out; have := HRX.out; omega) D
          have HB9 := keep_cell (below_trans HB4.out hB5) w.heap.size (Nat.le_refl _) (.int .u64 D.k) (.bool D.p.h) (.int .u64 D.p.b) (.bool D.c.h) (.int .u64 D.c.b) (.int .i64 D.n)
          generalize ((((((w5.setCell ⟨w.heap.size, 0, none⟩ (.int .u64 D.k)).setCell ⟨w.heap.size, 1, none⟩ (.bool D.p.h)).setCell ⟨w.heap.size, 2, none⟩ (.int .u64 D.p.b)).setCell ⟨w.heap.size, 3, none⟩ (.bool D.c.h)).setCell ⟨w.heap.size, 4, none⟩ (.int .u64 D.c.b)).setCell ⟨w.heap.size, 5, none⟩ (.int .i64 D.n)) = w9 at HC9 HD9 HR9 HB9 ⊢
          have HC10 : Hid (CB w9 w.heap.size D) := HC9
          have HD10 : Hid (CB w9 db c) := HD9
          have HR10 : Hid (AB w9 rx x.a x.b x.v) := HR9
          have HB10 : Hid (Below w.heap.size w w9) := HB9
          clear HC9 HD9 HR9 HB9 HC4 HD4 HR1 HB4 hB5
          obtain ⟨d0, d1, d2, d3, d4, d5, yy⟩ := HD10.out
          obtain ⟨r0, r1, r2, r3⟩ := HR10.out
          go_wp2_with (go_at_call 12; refine (rrevert_walk c (b := x.b) (by have := HXO.out.2.2; omega) _).mono ?_; rw [HDE.out]; rintro e w10 ⟨rfl, hB10⟩; obtain ⟨d0, d1, d2, d3, d4, d5, yy⟩ := HD10.out.below hB10 (cell_lt HD10.out.c0))
          go_meet
          exact ⟨D, CB.six (HC10.out.below hB10 (cell_lt HC10.out.c0)) (by have := HWD.out; omega) D, CB.set (HD10.out.below hB10 (cell_lt HD10.out.c0)) D, AB.six (HR10.out.below hB10 (cell_lt HR10.out.c0)) (by have := HRX.out; omega) D, HDO.out, keep_cell (below_trans HB10.out hB10) _ (Nat.le_of_lt HWD.out) _ _ _ _ _ _⟩
      case rest =>
        clear HC4 HD4 HR1 HB4 r0 r1 r2 r3
        obtain ⟨c2, hC, hD, hR, hK, hB⟩ := hcut
        obtain ⟨w5, hw5⟩ : ∃ w5, w5 = wc := ⟨_, rfl⟩
        rw [← hw5] at hC hD hR hB ⊢
        clear hw5
        have HC5 : Hid (CB w5 w.heap.size c2) := hC
        have HD5 : Hid (CB w5 db c2) := hD
        have HR5 : Hid (AB w5 rx x.a x.b x.v) := hR
        have HK5 : Hid c2.ok := hK
        have HB5 : Hid (Below w.heap.size w w5) := hB
        clear hC hD hR hK hB HK
        have n1 := neq_cell c2
        go_upto_region 18 with fail
        go_cut [90] (fun g wx => g = .bool false ∧ Below w5.heap.size w5 wx)
        case first =>
          have l0 : ∀ wx, Below w5.heap.size w5 wx → wx.cell? ⟨w.heap.size, 0, none⟩ = some (.int .u64 c2.k) := fun wx h => (HC5.out.below h (cell_lt HC5.out.c0)).c0
          have l1 : ∀ wx, Below w5.heap.size w5 wx → wx.cell? ⟨w.heap.size, 1, none⟩ = some (.bool c2.p.h) := fun wx h => (HC5.out.below h (cell_lt HC5.out.c0)).c1
          have l2 : ∀ wx, Below w5.heap.size w5 wx → wx.cell? ⟨w.heap.size, 2, none⟩ = some (.int .u64 c2.p.b) := fun wx h => (HC5.out.below h (cell_lt HC5.out.c0)).c2
          have l3 : ∀ wx, Below w5.heap.size w5 wx → wx.cell? ⟨w.heap.size, 3, none⟩ = some (.bool c2.c.h) := fun wx h => (HC5.out.below h (cell_lt HC5.out.c0)).c3
          have l4 : ∀ wx, Below w5.heap.size w5 wx → wx.cell? ⟨w.heap.size, 4, none⟩ = some (.int .u64 c2.c.b) := fun wx h => (HC5.out.below h (cell_lt HC5.out.c0)).c4
          have l5 : ∀ wx, Below w5.heap.size w5 wx → wx.cell? ⟨w.heap.size, 5, none⟩ = some (.int .i64 c2.n) := fun wx h => (HC5.out.below h (cell_lt HC5.out.c0)).c5
          have m0 : ∀ wx, Below w5.heap.size w5 wx → wx.cell? ⟨db, 0, none⟩ = some (.int .u64 c2.k) := fun wx h => (HD5.out.below h (cell_lt HD5.out.c0)).c0
          have m1 : ∀ wx, Below w5.heap.size w5 wx → wx.cell? ⟨db, 1, none⟩ = some (.bool c2.p.h) := fun wx h => (HD5.out.below h (cell_lt HD5.out.c0)).c1
          have m2 : ∀ wx, Below w5.heap.size w5 wx → wx.cell? ⟨db, 2, none⟩ = some (.int .u64 c2.p.b) := fun wx h => (HD5.out.below h (cell_lt HD5.out.c0)).c2
          have m3 : ∀ wx, Below w5.heap.size w5 wx → wx.cell? ⟨db, 3, none⟩ = some (.bool c2.c.h) := fun wx h => (HD5.out.below h (cell_lt HD5.out.c0)).c3
          have m4 : ∀ wx, Below w5.heap.size w5 wx → wx.cell? ⟨db, 4, none⟩ = some (.int .u64 c2.c.b) := fun wx h => (HD5.out.below h (cell_lt HD5.out.c0)).c4
          have m5 : ∀ wx, Below w5.heap.size w5 wx → wx.cell? ⟨db, 5, none⟩ = some (.int .i64 c2.n) := fun wx h => (HD5.out.below h (cell_lt HD5.out.c0)).c5
          refine wp_region_noPanic ?_
          refine wp_region_held_drew (S := fun wx => Below w5.heap.size w5 wx) (by kernel_rfl) ?_ (fun hHeld => ?_)
          · exact (Below.refl _ _).drew
          refine wpAnyH_take (i := 0) (oi := ⟨some 72, _, _, _, _, _⟩) (v := ?_) rfl (by kernel_rfl) (by kernel_rfl) (by kernel_rfl) (fun _ _ _ h => h) (Or.inl ⟨by rfl, ?_⟩) hHeld ?_
          rotate_left
          · intro w hSw; (try dsimp only at hSw); go_simp; all_goals (with_reducible rfl)
          try simp only [Act.put, List.setIfInBounds_toArray, List.set_cons_zero, List.set_cons_succ]
          refine wpAnyH_take (i := 1) (oi := ⟨some 73, _, _, _, _, _⟩) (v := ?_) rfl (by kernel_rfl) (by kernel_rfl) (by kernel_rfl) (fun _ _ _ h => h) (Or.inl ⟨by rfl, ?_⟩) hHeld ?_
          rotate_left
          · intro w hSw; (try dsimp only at hSw); go_simp; all_goals (with_reducible rfl)
          try simp only [Act.put, List.setIfInBounds_toArray, List.set_cons_zero, List.set_cons_succ]
          refine wpAnyH_take (i := 2) (oi := ⟨some 74, _, _, _, _, _⟩) (v := ?_) rfl (by kernel_rfl) (by kernel_rfl) (by kernel_rfl) (fun _ _ _ h => h) (Or.inl ⟨by rfl, ?_⟩) hHeld ?_
          rotate_left
          · intro w hSw; (try dsimp only at hSw); go_simp; all_goals (with_reducible rfl)
          try simp only [Act.put, List.setIfInBounds_toArray, List.set_cons_zero, List.set_cons_succ]
          refine wpAnyH_take (i := 3) (oi := ⟨some 75, _, _, _, _, _⟩) (v := ?_) rfl (by kernel_rfl) (by kernel_rfl) (by kernel_rfl) (fun _ _ _ h => h) (Or.inl ⟨by rfl, ?_⟩) hHeld ?_
          rotate_left
          · intro w hSw; (try dsimp only at hSw); go_simp; all_goals (with_reducible rfl)
          try simp only [Act.put, List.setIfInBounds_toArray, List.set_cons_zero, List.set_cons_succ]
          refine wpAnyH_take (i := 4) (oi := ⟨some 76, _, _, _, _, _⟩) (v := ?_) rfl (by kernel_rfl) (by kernel_rfl) (by kernel_rfl) (fun _ _ _ h => h) (Or.inl ⟨by rfl, ?_⟩) hHeld ?_
          rotate_left
          · intro w hSw; (try dsimp only at hSw); go_simp; all_goals (with_reducible rfl)
          try simp only [Act.put, List.setIfInBounds_toArray, List.set_cons_zero, List.set_cons_succ]
          refine wpAnyH_take (i := 6) (oi := ⟨some 78, _, _, _, _, _⟩) (v := ?_) rfl (by kernel_rfl) (by kernel_rfl) (by kernel_rfl) (fun _ _ _ h => h) (Or.inl ⟨by rfl, ?_⟩) hHeld ?_
          rotate_left
          · intro w hSw; (try dsimp only at hSw); go_simp; all_goals (with_reducible rfl)
          try simp only [Act.put, List.setIfInBounds_toArray, List.set_cons_zero, List.set_cons_succ]
          refine wpAnyH_ready (rs := [5]) (by kernel_rfl) (by simp) ?_
          refine AllReadyH.cons (o := ⟨some 77, _, _, _, _, _⟩) rfl (fun K hK => ?_) AllReadyH.nil
          go_simp
          refine (empty_walk c2 _).mono ?_
          rintro e w9 ⟨rfl, hB9⟩
          have hS9 := below_trans hHeld hB9
          clear hB9 hHeld
          go_simp
          refine hK.out _ _ ?_ (fun hHeld => ?_)
          · exact hS9
          clear hK K
          try simp only [Act.put, List.setIfInBounds_toArray, List.set_cons_zero, List.set_cons_succ]
          refine wpAnyH_ready (rs := [7]) (by kernel_rfl) (by simp) ?_
          refine AllReadyH.cons (o := ⟨some 79, _, _, _, _, _⟩) rfl (fun K hK => ?_) AllReadyH.nil
          go_simp
          refine (rempty_walk c2 _).mono ?_
          rintro e w9 ⟨rfl, hB9⟩
          have hS9 := below_trans hHeld hB9
          clear hB9 hHeld
          go_simp
          refine hK.out _ _ ?_ (fun hHeld => ?_)
          · exact hS9
          clear hK K
          try simp only [Act.put, List.setIfInBounds_toArray, List.set_cons_zero, List.set_cons_succ]
          refine wpAnyH_take (i := 8) (oi := ⟨some 80, _, _, _, _, _⟩) (v := ?_) rfl (by kernel_rfl) (by kernel_rfl) (by kernel_rfl) (fun _ _ _ h => h) (Or.inl ⟨by rfl, ?_⟩) hHeld ?_
          rotate_left
          · intro w hSw; (try dsimp only at hSw); go_simp; all_goals (with_reducible rfl)
          try simp only [Act.put, List.setIfInBounds_toArray, List.set_cons_zero, List.set_cons_succ]
          refine wpAnyH_take (i := 9) (oi := ⟨some 81, _, _, _, _, _⟩) (v := ?_) rfl (by kernel_rfl) (by kernel_rfl) (by kernel_rfl) (fun _ _ _ h => h) (Or.inl ⟨by rfl, ?_⟩) hHeld ?_
          rotate_left
          · intro w hSw; (try dsimp only at hSw); go_simp; all_goals (with_reducible rfl)
          try simp only [Act.put, List.setIfInBounds_toArray, List.set_cons_zero, List.set_cons_succ]
          refine wpAnyH_take (i := 10) (oi := ⟨some 82, _, _, _, _, _⟩) (v := ?_) rfl (by kernel_rfl) (by kernel_rfl) (by kernel_rfl) (fun _ _ _ h => h) (Or.inl ⟨by rfl, ?_⟩) hHeld ?_
          rotate_left
          · intro w hSw; (try dsimp only at hSw); go_simp; all_goals (with_reducible rfl)
          try simp only [Act.put, List.setIfInBounds_toArray, List.set_cons_zero, List.set_cons_succ]
          refine wpAnyH_take (i := 11) (oi := ⟨some 83, _, _, _, _, _⟩) (v := ?_) rfl (by kernel_rfl) (by kernel_rfl) (by kernel_rfl) (fun _ _ _ h => h) (Or.inl ⟨by rfl, ?_⟩) hHeld ?_
          rotate_left
          · intro w hSw; (try dsimp only at hSw); go_simp; all_goals (with_reducible rfl)
          try simp only [Act.put, List.setIfInBounds_toArray, List.set_cons_zero, List.set_cons_succ]
          refine wpAnyH_take (i := 12) (oi := ⟨some 84, _, _, _, _, _⟩) (v := ?_) rfl (by kernel_rfl) (by kernel_rfl) (by kernel_rfl) (fun _ _ _ h => h) (Or.inl ⟨by rfl, ?_⟩) hHeld ?_
          rotate_left
          · intro w hSw; (try dsimp only at hSw); go_simp; all_goals (with_reducible rfl)
          try simp only [Act.put, List.setIfInBounds_toArray, List.set_cons_zero, List.set_cons_succ]
          refine wpAnyH_take (i := 14) (oi := ⟨some 86, _, _, _, _, _⟩) (v := ?_) rfl (by kernel_rfl) (by kernel_rfl) (by kernel_rfl) (fun _ _ _ h => h) (Or.inl ⟨by rfl, ?_⟩) hHeld ?_
          rotate_left
          · intro w hSw; (try dsimp only at hSw); go_simp; all_goals (with_reducible rfl)
          try simp only [Act.put, List.setIfInBounds_toArray, List.set_cons_zero, List.set_cons_succ]
          refine wpAnyH_take (i := 15) (oi := ⟨some 87, _, _, _, _, _⟩) (v := ?_) rfl (by kernel_rfl) (by kernel_rfl) (by kernel_rfl) (fun _ _ _ h => h) (Or.inl ⟨by rfl, ?_⟩) hHeld ?_
          rotate_left
          · intro w hSw; (try dsimp only at hSw); go_simp; all_goals (with_reducible rfl)
          try simp only [Act.put, List.setIfInBounds_toArray, List.set_cons_zero, List.set_cons_succ]
          refine wpAnyH_ready (rs := [13]) (by kernel_rfl) (by simp) ?_
          refine AllReadyH.cons (o := ⟨some 85, _, _, _, _, _⟩) rfl (fun K hK => ?_) AllReadyH.nil
          go_simp
          refine (cfit_walk k HK5.out _).mono ?_
          rintro e w9 ⟨rfl, hB9⟩
          have hS9 := below_trans hHeld hB9
          clear hB9 hHeld
          go_simp
          refine hK.out _ _ ?_ (fun hHeld => ?_)
          · exact hS9
          clear hK K
          try simp only [Act.put, List.setIfInBounds_toArray, List.set_cons_zero, List.set_cons_succ]
          refine wpAnyH_ready (rs := [16]) (by kernel_rfl) (by simp) ?_
          refine AllReadyH.cons (o := ⟨some 88, _, _, _, _, _⟩) rfl (fun K hK => ?_) AllReadyH.nil
          go_simp
          refine (rcfit_walk k HK5.out _).mono ?_
          rintro e w9 ⟨rfl, hB9⟩
          have hS9 := below_trans hHeld hB9
          clear hB9 hHeld
          go_simp
          refine hK.out _ _ ?_ (fun hHeld => ?_)
          · exact hS9
          clear hK K
          try simp only [Act.put, List.setIfInBounds_toArray, List.set_cons_zero, List.set_cons_succ]
          refine wpAnyH_take (i := 17) (oi := ⟨some 89, _, _, _, _, _⟩) (v := ?_) rfl (by kernel_rfl) (by kernel_rfl) (by kernel_rfl) (fun _ _ _ h => h) (Or.inl ⟨by rfl, ?_⟩) hHeld ?_
          rotate_left
          · intro w hSw; (try dsimp only at hSw); go_simp; all_goals (with_reducible rfl)
          try simp only [Act.put, List.setIfInBounds_toArray, List.set_cons_zero, List.set_cons_succ]
          refine wpAnyH_take (i := 18) (oi := ⟨some 90, _, _, _, _, _⟩) (v := ?_) rfl (by kernel_rfl) (by kernel_rfl) (by kernel_rfl) (fun _ _ _ h => h) (Or.inl ⟨by rfl, ?_⟩) hHeld ?_
          rotate_left
          · intro w hSw; (try dsimp only at hSw); go_simp; all_goals (with_reducible rfl)
          try simp only [Act.put, List.setIfInBounds_toArray, List.set_cons_zero, List.set_cons_succ]
          refine wpAnyH_done (by kernel_rfl) ?_ _
          refine NoPanic.normal ?_
          go_wp2_with fail
          go_meet
          exact ⟨rfl, hHeld⟩
        case rest =>
          obtain ⟨rfl, hBc⟩ := hcut
          have HC6 : Hid (CB wc w.heap.size c2) := HC5.out.below hBc (cell_lt HC5.out.c0)
          have HD6 : Hid (CB wc db c2) := HD5.out.below hBc (cell_lt HD5.out.c0)
          have HR6 : Hid (AB wc rx x.a x.b x.v) := HR5.out.below hBc (cell_lt HR5.out.c0)
          have HB6 : Hid (Below w.heap.size w wc) := below_trans HB5.out hBc
          clear hBc HC5 HD5 HR5 HB5 n1
          obtain ⟨wo, hwo⟩ : ∃ wo, wo = wr := ⟨_, rfl⟩
          go_wp2_with fail
          go_loopw [14] (fun jv wr => ∃ j : Nat, j ≤ 3 ∧ jv = .int .i64 j ∧ CB wr w.heap.size c2 ∧ CB wr db c2 ∧ AB wr rx x.a x.b x.v ∧ Below w.heap.size w wr) (fun jv _ => 3 - (intOf jv).toNat)
          case atStart => exact ⟨0, by omega, rfl, HC6.out, HD6.out, HR6.out, HB6.out⟩
          case round =>
            clear HC6 HD6 HR6 HB6
            obtain ⟨j, hj, rfl, hC, hD, hR, hB⟩ := hrel
            have HC7 : Hid (CB wr w.heap.size c2) := hC
            have HD7 : Hid (CB wr db c2) := hD
            have HR7 : Hid (AB wr rx x.a x.b x.v) := hR
            have HB7 : Hid (Below w.heap.size w wr) := hB
            clear hC hD hR hB
            by_cases hj3 : j < 3
            · have hj3i : (j : Int) < 3 := by omega
              obtain ⟨c0, c1, d2, c3, c4, c5, zz⟩ := HC7.out
              obtain ⟨r0, r1, r2, r3⟩ := HR7.out
              go_upto_region 24 with fail
              clear c0 c1 d2 c3 c4 c5 zz r0 r1 r2 r3
              have HY : Hid (IB3 (wr.alloc (Obj.cells #[.int .i64 x.b, .int .i64 c2.n, .int .i64 0] 37)) wr.heap.size x.b c2.n 0) := ib3_new _ _ _ _
              have hBy : Below wr.heap.size wr (wr.alloc (Obj.cells #[.int .i64 x.b, .int .i64 c2.n, .int .i64 0] 37)) := below_alloc _ _
              obtain ⟨ay, hay⟩ : ∃ ay, ay = wr.heap.size := ⟨_, rfl⟩
              rw [← hay] at HY ⊢
              generalize wr.alloc (Obj.cells #[.int .i64 x.b, .int .i64 c2.n, .int .i64 0] 37) = w7 at HY hBy ⊢
              have HC8 : Hid (CB w7 w.heap.size c2) := HC7.out.below hBy (cell_lt HC7.out.c0)
              have HD8 : Hid (CB w7 db c2) := HD7.out.below hBy (cell_lt HD7.out.c0)
              have HR8 : Hid (AB w7 rx x.a x.b x.v) := HR7.out.below hBy (cell_lt HR7.out.c0)
              have HB8 : Hid (Below w.heap.size w w7) := below_trans HB7.out hBy
              clear hBy hay HC7 HD7 HR7 HB7
              go_cut [110] (fun g wx => g = .bool false ∧ Below w7.heap.size w7 wx)
              case first =>
                have l0 : ∀ wx, Below w7.heap.size w7 wx → wx.cell? ⟨w.heap.size, 0, none⟩ = some (.int .u64 c2.k) := fun wx h => (HC8.out.below h (cell_lt HC8.out.c0)).c0
                have l1 : ∀ wx, Below w7.heap.size w7 wx → wx.cell? ⟨w.heap.size, 1, none⟩ = some (.bool c2.p.h) := fun wx h => (HC8.out.below h (cell_lt HC8.out.c0)).c1
                have l2 : ∀ wx, Below w7.heap.size w7 wx → wx.cell? ⟨w.heap.size, 2, none⟩ = some (.int .u64 c2.p.b) := fun wx h => (HC8.out.below h (cell_lt HC8.out.c0)).c2
                have l3 : ∀ wx, Below w7.heap.size w7 wx → wx.cell? ⟨w.heap.size, 3, none⟩ = some (.bool c2.c.h) := fun wx h => (HC8.out.below h (cell_lt HC8.out.c0)).c3
                have l4 : ∀ wx, Below w7.heap.size w7 wx → wx.cell? ⟨w.heap.size, 4, none⟩ = some (.int .u64 c2.c.b) := fun wx h => (HC8.out.below h (cell_lt HC8.out.c0)).c4
                have l5 : ∀ wx, Below w7.heap.size w7 wx → wx.cell? ⟨w.heap.size, 5, none⟩ = some (.int .i64 c2.n) := fun wx h => (HC8.out.below h (cell_lt HC8.out.c0)).c5
                have m0 : ∀ wx, Below w7.heap.size w7 wx → wx.cell? ⟨db, 0, none⟩ = some (.int .u64 c2.k) := fun wx h => (HD8.out.below h (cell_lt HD8.out.c0)).c0
                have m1 : ∀ wx, Below w7.heap.size w7 wx → wx.cell? ⟨db, 1, none⟩ = some (.bool c2.p.h) := fun wx h => (HD8.out.below h (cell_lt HD8.out.c0)).c1
                have m2 : ∀ wx, Below w7.heap.size w7 wx → wx.cell? ⟨db, 2, none⟩ = some (.int .u64 c2.p.b) := fun wx h => (HD8.out.below h (cell_lt HD8.out.c0)).c2
                have m3 : ∀ wx, Below w7.heap.size w7 wx → wx.cell? ⟨db, 3, none⟩ = some (.bool c2.c.h) := fun wx h => (HD8.out.below h (cell_lt HD8.out.c0)).c3
                have m4 : ∀ wx, Below w7.heap.size w7 wx → wx.cell? ⟨db, 4, none⟩ = some (.int .u64 c2.c.b) := fun wx h => (HD8.out.below h (cell_lt HD8.out.c0)).c4
                have m5 : ∀ wx, Below w7.heap.size w7 wx → wx.cell? ⟨db, 5, none⟩ = some (.int .i64 c2.n) := fun wx h => (HD8.out.below h (cell_lt HD8.out.c0)).c5
                have y0 : ∀ wx, Below w7.heap.size w7 wx → wx.cell? ⟨ay, 0, none⟩ = some (.int .i64 x.b) := fun wx h => (HY.out.below h (cell_lt HY.out.c0)).c0
                have y1 : ∀ wx, Below w7.heap.size w7 wx → wx.cell? ⟨ay, 1, none⟩ = some (.int .i64 c2.n) := fun wx h => (HY.out.below h (cell_lt HY.out.c0)).c1
                have y2 : ∀ wx, Below w7.heap.size w7 wx → wx.cell? ⟨ay, 2, none⟩ = some (.int .i64 0) := fun wx h => (HY.out.below h (cell_lt HY.out.c0)).c2
                obtain rfl | rfl | rfl : j = 0 ∨ j = 1 ∨ j = 2 := by omega
                · have n2 := neq_val (resC c2 x.b)
                  refine wp_region_noPanic ?_
                  refine wp_region_held_drew (S := fun wx => Below w7.heap.size w7 wx) (by kernel_rfl) ?_ (fun hHeld => ?_)
                  · exact (Below.refl _ _).drew
                  refine wpAnyH_take (i := 0) (oi := ⟨some 100, _, _, _, _, _⟩) (v := ?_) rfl (by kernel_rfl) (by kernel_rfl) (by kernel_rfl) (fun _ _ _ h => h) (Or.inl ⟨by rfl, ?_⟩) hHeld ?_
                  rotate_left
                  · intro w hSw; (try dsimp only at hSw); go_simp; all_goals (with_reducible rfl)
                  try simp only [Act.put, List.setIfInBounds_toArray, List.set_cons_zero, List.set_cons_succ]
                  refine wpAnyH_take (i := 1) (oi := ⟨some 101, _, _, _, _, _⟩) (v := ?_) rfl (by kernel_rfl) (by kernel_rfl) (by kernel_rfl) (fun _ _ _ h => h) (Or.inl ⟨by rfl, ?_⟩) hHeld ?_
                  rotate_left
                  · intro w hSw; (try dsimp only at hSw); go_simp; all_goals (with_reducible rfl)
                  try simp only [Act.put, List.setIfInBounds_toArray, List.set_cons_zero, List.set_cons_succ]
                  refine wpAnyH_take (i := 2) (oi := ⟨some 102, _, _, _, _, _⟩) (v := ?_) rfl (by kernel_rfl) (by kernel_rfl) (by kernel_rfl) (fun _ _ _ h => h) (Or.inl ⟨by rfl, ?_⟩) hHeld ?_
                  rotate_left
                  · intro w hSw; (try dsimp only at hSw); go_simp; all_goals (with_reducible rfl)
                  try simp only [Act.put, List.setIfInBounds_toArray, List.set_cons_zero, List.set_cons_succ]
                  refine wpAnyH_take (i := 3) (oi := ⟨some 103, _, _, _, _, _⟩) (v := ?_) rfl (by kernel_rfl) (by kernel_rfl) (by kernel_rfl) (fun _ _ _ h => h) (Or.inl ⟨by rfl, ?_⟩) hHeld ?_
                  rotate_left
                  · intro w hSw; (try dsimp only at hSw); go_simp; all_goals (with_reducible rfl)
                  try simp only [Act.put, List.setIfInBounds_toArray, List.set_cons_zero, List.set_cons_succ]
                  refine wpAnyH_take (i := 5) (oi := ⟨some 105, _, _, _, _, _⟩) (v := ?_) rfl (by kernel_rfl) (by kernel_rfl) (by kernel_rfl) (fun _ _ _ h => h) (Or.inl ⟨by rfl, ?_⟩) hHeld ?_
                  rotate_left
                  · intro w hSw; (try dsimp only at hSw); go_simp; all_goals (with_reducible rfl)
                  try simp only [Act.put, List.setIfInBounds_toArray, List.set_cons_zero, List.set_cons_succ]
                  refine wpAnyH_take (i := 6) (oi := ⟨some 106, _, _, _, _, _⟩) (v := ?_) rfl (by kernel_rfl) (by kernel_rfl) (by kernel_rfl) (fun _ _ _ h => h) (Or.inl ⟨by rfl, ?_⟩) hHeld ?_
                  rotate_left
                  · intro w hSw; (try dsimp only at hSw); go_simp; all_goals (with_reducible rfl)
                  try simp only [Act.put, List.setIfInBounds_toArray, List.set_cons_zero, List.set_cons_succ]
                  refine wpAnyH_take (i := 7) (oi := ⟨some 107, _, _, _, _, _⟩) (v := ?_) rfl (by kernel_rfl) (by kernel_rfl) (by kernel_rfl) (fun _ _ _ h => h) (Or.inl ⟨by rfl, ?_⟩) hHeld ?_
                  rotate_left
                  · intro w hSw; (try dsimp only at hSw); go_simp; all_goals (with_reducible rfl)
                  try simp only [Act.put, List.setIfInBounds_toArray, List.set_cons_zero, List.set_cons_succ]
                  refine wpAnyH_take (i := 8) (oi := ⟨some 108, _, _, _, _, _⟩) (v := ?_) rfl (by kernel_rfl) (by kernel_rfl) (by kernel_rfl) (fun _ _ _ h => h) (Or.inl ⟨by rfl, ?_⟩) hHeld ?_
                  rotate_left
                  · intro w hSw; (try dsimp only at hSw); go_simp; all_goals (with_reducible rfl)
                  try simp only [Act.put, List.setIfInBounds_toArray, List.set_cons_zero, List.set_cons_succ]
                  refine wpAnyH_ready (rs := [4]) (by kernel_rfl) (by simp) ?_
                  refine AllReadyH.cons (o := ⟨some 104, _, _, _, _, _⟩) rfl (fun K hK => ?_) AllReadyH.nil
                  go_simp
                  refine (resolve_walk c2 x.b _).mono ?_
                  rintro e w9 ⟨rfl, hB9⟩
                  have hS9 := below_trans hHeld hB9
                  clear hB9 hHeld
                  go_simp
                  refine hK.out _ _ ?_ (fun hHeld => ?_)
                  · exact hS9
                  clear hK K
                  try simp only [Act.put, List.setIfInBounds_toArray, List.set_cons_zero, List.set_cons_succ]
                  refine wpAnyH_ready (rs := [9]) (by kernel_rfl) (by simp) ?_
                  refine AllReadyH.cons (o := ⟨some 109, _, _, _, _, _⟩) rfl (fun K hK => ?_) AllReadyH.nil
                  go_simp
                  refine (rresolve_walk c2 x.b _).mono ?_
                  rintro e w9 ⟨rfl, hB9⟩
                  have hS9 := below_trans hHeld hB9
                  clear hB9 hHeld
                  go_simp
                  refine hK.out _ _ ?_ (fun hHeld => ?_)
                  · exact hS9
                  clear hK K
                  try simp only [Act.put, List.setIfInBounds_toArray, List.set_cons_zero, List.set_cons_succ]
                  refine wpAnyH_take (i := 10) (oi := ⟨some 110, _, _, _, _, _⟩) (v := ?_) rfl (by kernel_rfl) (by kernel_rfl) (by kernel_rfl) (fun _ _ _ h => h) (Or.inl ⟨by rfl, ?_⟩) hHeld ?_
                  rotate_left
                  · intro w hSw; (try dsimp only at hSw); go_simp; all_goals (with_reducible rfl)
                  try simp only [Act.put, List.setIfInBounds_toArray, List.set_cons_zero, List.set_cons_succ]
                  refine wpAnyH_done (by kernel_rfl) ?_ _
                  refine NoPanic.normal ?_
                  go_wp2_with fail
                  go_meet
                  exact ⟨rfl, hHeld⟩
                · have n2 := neq_val (resC c2 c2.n)
                  refine wp_region_noPanic ?_
                  refine wp_region_held_drew (S := fun wx => Below w7.heap.size w7 wx) (by kernel_rfl) ?_ (fun hHeld => ?_)
                  · exact (Below.refl _ _).drew
                  refine wpAnyH_take (i := 0) (oi := ⟨some 100, _, _, _, _, _⟩) (v := ?_) rfl (by kernel_rfl) (by kernel_rfl) (by kernel_rfl) (fun _ _ _ h => h) (Or.inl ⟨by rfl, ?_⟩) hHeld ?_
                  rotate_left
                  · intro w hSw; (try dsimp only at hSw); go_simp; all_goals (with_reducible rfl)
                  try simp only [Act.put, List.setIfInBounds_toArray, List.set_cons_zero, List.set_cons_succ]
                  refine wpAnyH_take (i := 1) (oi := ⟨some 101, _, _, _, _, _⟩) (v := ?_) rfl (by kernel_rfl) (by kernel_rfl) (by kernel_rfl) (fun _ _ _ h => h) (Or.inl ⟨by rfl, ?_⟩) hHeld ?_
                  rotate_left
                  · intro w hSw; (try dsimp only at hSw); go_simp; all_goals (with_reducible rfl)
                  try simp only [Act.put, List.setIfInBounds_toArray, List.set_cons_zero, List.set_cons_succ]
                  refine wpAnyH_take (i := 2) (oi := ⟨some 102, _, _, _, _, _⟩) (v := ?_) rfl (by kernel_rfl) (by kernel_rfl) (by kernel_rfl) (fun _ _ _ h => h) (Or.inl ⟨by rfl, ?_⟩) hHeld ?_
                  rotate_left
                  · intro w hSw; (try dsimp only at hSw); go_simp; all_goals (with_reducible rfl)
                  try simp only [Act.put, List.setIfInBounds_toArray, List.set_cons_zero, List.set_cons_succ]
                  refine wpAnyH_take (i := 3) (oi := ⟨some 103, _, _, _, _, _⟩) (v := ?_) rfl (by kernel_rfl) (by kernel_rfl) (by kernel_rfl) (fun _ _ _ h => h) (Or.inl ⟨by rfl, ?_⟩) hHeld ?_
                  rotate_left
                  · intro w hSw; (try dsimp only at hSw); go_simp; all_goals (with_reducible rfl)
                  try simp only [Act.put, List.setIfInBounds_toArray, List.set_cons_zero, List.set_cons_succ]
                  refine wpAnyH_take (i := 5) (oi := ⟨some 105, _, _, _, _, _⟩) (v := ?_) rfl (by kernel_rfl) (by kernel_rfl) (by kernel_rfl) (fun _ _ _ h => h) (Or.inl ⟨by rfl, ?_⟩) hHeld ?_
                  rotate_left
                  · intro w hSw; (try dsimp only at hSw); go_simp; all_goals (with_reducible rfl)
                  try simp only [Act.put, List.setIfInBounds_toArray, List.set_cons_zero, List.set_cons_succ]
                  refine wpAnyH_take (i := 6) (oi := ⟨some 106, _, _, _, _, _⟩) (v := ?_) rfl (by kernel_rfl) (by kernel_rfl) (by kernel_rfl) (fun _ _ _ h => h) (Or.inl ⟨by rfl, ?_⟩) hHeld ?_
                  rotate_left
                  · intro w hSw; (try dsimp only at hSw); go_simp; all_goals (with_reducible rfl)
                  try simp only [Act.put, List.setIfInBounds_toArray, List.set_cons_zero, List.set_cons_succ]
                  refine wpAnyH_take (i := 7) (oi := ⟨some 107, _, _, _, _, _⟩) (v := ?_) rfl (by kernel_rfl) (by kernel_rfl) (by kernel_rfl) (fun _ _ _ h => h) (Or.inl ⟨by rfl, ?_⟩) hHeld ?_
                  rotate_left
                  · intro w hSw; (try dsimp only at hSw); go_simp; all_goals (with_reducible rfl)
                  try simp only [Act.put, List.setIfInBounds_toArray, List.set_cons_zero, List.set_cons_succ]
                  refine wpAnyH_take (i := 8) (oi := ⟨some 108, _, _, _, _, _⟩) (v := ?_) rfl (by kernel_rfl) (by kernel_rfl) (by kernel_rfl) (fun _ _ _ h => h) (Or.inl ⟨by rfl, ?_⟩) hHeld ?_
                  rotate_left
                  · intro w hSw; (try dsimp only at hSw); go_simp; all_goals (with_reducible rfl)
                  try simp only [Act.put, List.setIfInBounds_toArray, List.set_cons_zero, List.set_cons_succ]
                  refine wpAnyH_ready (rs := [4]) (by kernel_rfl) (by simp) ?_
                  refine AllReadyH.cons (o := ⟨some 104, _, _, _, _, _⟩) rfl (fun K hK => ?_) AllReadyH.nil
                  go_simp
                  refine (resolve_walk c2 c2.n _).mono ?_
                  rintro e w9 ⟨rfl, hB9⟩
                  have hS9 := below_trans hHeld hB9
                  clear hB9 hHeld
                  go_simp
                  refine hK.out _ _ ?_ (fun hHeld => ?_)
                  · exact hS9
                  clear hK K
                  try simp only [Act.put, List.setIfInBounds_toArray, List.set_cons_zero, List.set_cons_succ]
                  refine wpAnyH_ready (rs := [9]) (by kernel_rfl) (by simp) ?_
                  refine AllReadyH.cons (o := ⟨some 109, _, _, _, _, _⟩) rfl (fun K hK => ?_) AllReadyH.nil
                  go_simp
                  refine (rresolve_walk c2 c2.n _).mono ?_
                  rintro e w9 ⟨rfl, hB9⟩
                  have hS9 := below_trans hHeld hB9
                  clear hB9 hHeld
                  go_simp
                  refine hK.out _ _ ?_ (fun hHeld => ?_)
                  · exact hS9
                  clear hK K
                  try simp only [Act.put, List.setIfInBounds_toArray, List.set_cons_zero, List.set_cons_succ]
                  refine wpAnyH_take (i := 10) (oi := ⟨some 110, _, _, _, _, _⟩) (v := ?_) rfl (by kernel_rfl) (by kernel_rfl) (by kernel_rfl) (fun _ _ _ h => h) (Or.inl ⟨by rfl, ?_⟩) hHeld ?_
                  rotate_left
                  · intro w hSw; (try dsimp only at hSw); go_simp; all_goals (with_reducible rfl)
                  try simp only [Act.put, List.setIfInBounds_toArray, List.set_cons_zero, List.set_cons_succ]
                  refine wpAnyH_done (by kernel_rfl) ?_ _
                  refine NoPanic.normal ?_
                  go_wp2_with fail
                  go_meet
                  exact ⟨rfl, hHeld⟩
                · have n2 := neq_val (resC c2 0)
                  refine wp_region_noPanic ?_
                  refine wp_region_held_drew (S := fun wx => Below w7.heap.size w7 wx) (by kernel_rfl) ?_ (fun hHeld => ?_)
                  · exact (Below.refl _ _).drew
                  refine wpAnyH_take (i := 0) (oi := ⟨some 100, _, _, _, _, _⟩) (v := ?_) rfl (by kernel_rfl) (by kernel_rfl) (by kernel_rfl) (fun _ _ _ h => h) (Or.inl ⟨by rfl, ?_⟩) hHeld ?_
                  rotate_left
                  · intro w hSw; (try dsimp only at hSw); go_simp; all_goals (with_reducible rfl)
                  try simp only [Act.put, List.setIfInBounds_toArray, List.set_cons_zero, List.set_cons_succ]
                  refine wpAnyH_take (i := 1) (oi := ⟨some 101, _, _, _, _, _⟩) (v := ?_) rfl (by kernel_rfl) (by kernel_rfl) (by kernel_rfl) (fun _ _ _ h => h) (Or.inl ⟨by rfl, ?_⟩) hHeld ?_
                  rotate_left
                  · intro w hSw; (try dsimp only at hSw); go_simp; all_goals (with_reducible rfl)
                  try simp only [Act.put, List.setIfInBounds_toArray, List.set_cons_zero, List.set_cons_succ]
                  refine wpAnyH_take (i := 2) (oi := ⟨some 102, _, _, _, _, _⟩) (v := ?_) rfl (by kernel_rfl) (by kernel_rfl) (by kernel_rfl) (fun _ _ _ h => h) (Or.inl ⟨by rfl, ?_⟩) hHeld ?_
                  rotate_left
                  · intro w hSw; (try dsimp only at hSw); go_simp; all_goals (with_reducible rfl)
                  try simp only [Act.put, List.setIfInBounds_toArray, List.set_cons_zero, List.set_cons_succ]
                  refine wpAnyH_take (i := 3) (oi := ⟨some 103, _, _, _, _, _⟩) (v := ?_) rfl (by kernel_rfl) (by kernel_rfl) (by kernel_rfl) (fun _ _ _ h => h) (Or.inl ⟨by rfl, ?_⟩) hHeld ?_
                  rotate_left
                  · intro w hSw; (try dsimp only at hSw); go_simp; all_goals (with_reducible rfl)
                  try simp only [Act.put, List.setIfInBounds_toArray, List.set_cons_zero, List.set_cons_succ]
                  refine wpAnyH_take (i := 5) (oi := ⟨some 105, _, _, _, _, _⟩) (v := ?_) rfl (by kernel_rfl) (by kernel_rfl) (by kernel_rfl) (fun _ _ _ h => h) (Or.inl ⟨by rfl, ?_⟩) hHeld ?_
                  rotate_left
                  · intro w hSw; (try dsimp only at hSw); go_simp; all_goals (with_reducible rfl)
                  try simp only [Act.put, List.setIfInBounds_toArray, List.set_cons_zero, List.set_cons_succ]
                  refine wpAnyH_take (i := 6) (oi := ⟨some 106, _, _, _, _, _⟩) (v := ?_) rfl (by kernel_rfl) (by kernel_rfl) (by kernel_rfl) (fun _ _ _ h => h) (Or.inl ⟨by rfl, ?_⟩) hHeld ?_
                  rotate_left
                  · intro w hSw; (try dsimp only at hSw); go_simp; all_goals (with_reducible rfl)
                  try simp only [Act.put, List.setIfInBounds_toArray, List.set_cons_zero, List.set_cons_succ]
                  refine wpAnyH_take (i := 7) (oi := ⟨some 107, _, _, _, _, _⟩) (v := ?_) rfl (by kernel_rfl) (by kernel_rfl) (by kernel_rfl) (fun _ _ _ h => h) (Or.inl ⟨by rfl, ?_⟩) hHeld ?_
                  rotate_left
                  · intro w hSw; (try dsimp only at hSw); go_simp; all_goals (with_reducible rfl)
                  try simp only [Act.put, List.setIfInBounds_toArray, List.set_cons_zero, List.set_cons_succ]
                  refine wpAnyH_take (i := 8) (oi := ⟨some 108, _, _, _, _, _⟩) (v := ?_) rfl (by kernel_rfl) (by kernel_rfl) (by kernel_rfl) (fun _ _ _ h => h) (Or.inl ⟨by rfl, ?_⟩) hHeld ?_
                  rotate_left
                  · intro w hSw; (try dsimp only at hSw); go_simp; all_goals (with_reducible rfl)
                  try simp only [Act.put, List.setIfInBounds_toArray, List.set_cons_zero, List.set_cons_succ]
                  refine wpAnyH_ready (rs := [4]) (by kernel_rfl) (by simp) ?_
                  refine AllReadyH.cons (o := ⟨some 104, _, _, _, _, _⟩) rfl (fun K hK => ?_) AllReadyH.nil
                  go_simp
                  refine (resolve_walk c2 0 _).mono ?_
                  rintro e w9 ⟨rfl, hB9⟩
                  have hS9 := below_trans hHeld hB9
                  clear hB9 hHeld
                  go_simp
                  refine hK.out _ _ ?_ (fun hHeld => ?_)
                  · exact hS9
                  clear hK K
                  try simp only [Act.put, List.setIfInBounds_toArray, List.set_cons_zero, List.set_cons_succ]
                  refine wpAnyH_ready (rs := [9]) (by kernel_rfl) (by simp) ?_
                  refine AllReadyH.cons (o := ⟨some 109, _, _, _, _, _⟩) rfl (fun K hK => ?_) AllReadyH.nil
                  go_simp
                  refine (rresolve_walk c2 0 _).mono ?_
                  rintro e w9 ⟨rfl, hB9⟩
                  have hS9 := below_trans hHeld hB9
                  clear hB9 hHeld
                  go_simp
                  refine hK.out _ _ ?_ (fun hHeld => ?_)
                  · exact hS9
                  clear hK K
                  try simp only [Act.put, List.setIfInBounds_toArray, List.set_cons_zero, List.set_cons_succ]
                  refine wpAnyH_take (i := 10) (oi := ⟨some 110, _, _, _, _, _⟩) (v := ?_) rfl (by kernel_rfl) (by kernel_rfl) (by kernel_rfl) (fun _ _ _ h => h) (Or.inl ⟨by rfl, ?_⟩) hHeld ?_
                  rotate_left
                  · intro w hSw; (try dsimp only at hSw); go_simp; all_goals (with_reducible rfl)
                  try simp only [Act.put, List.setIfInBounds_toArray, List.set_cons_zero, List.set_cons_succ]
                  refine wpAnyH_done (by kernel_rfl) ?_ _
                  refine NoPanic.normal ?_
                  go_wp2_with fail
                  go_meet
                  exact ⟨rfl, hHeld⟩
              case rest =>
                obtain ⟨rfl, hBc⟩ := hcut
                have HC9 : Hid (CB wc w.heap.size c2) := HC8.out.below hBc (cell_lt HC8.out.c0)
                have HD9 : Hid (CB wc db c2) := HD8.out.below hBc (cell_lt HD8.out.c0)
                have HR9 : Hid (AB wc rx x.a x.b x.v) := HR8.out.below hBc (cell_lt HR8.out.c0)
                have HB9 : Hid (Below w.heap.size w wc) := below_trans HB8.out hBc
                clear hBc HC8 HD8 HR8 HB8
                go_wp2_with fail
                go_roundw
                case rel => exact ⟨j + 1, by omega, by go_num, HC9.out, HD9.out, HR9.out, HB9.out⟩
                case measure => simp [intOf]; omega
            · have hj3i : ¬ (j : Int) < 3 := by omega
              go_wp2_with fail
              go_roundw
              case rel => exact ⟨i + 1, c2, hlt, by go_num, HC7.out, HD7.out, HK5.out, HB7.out⟩
              case measure => simp [intOf]; omega
    · have hlti : ¬ (i : Int) < (l.length : Int) := by omega
      have n2 := eql_val (resC c 1)
      go_upto_region 26 with fail
      have l0 : ∀ wx, Below wr.heap.size wr wx → wx.cell? ⟨w.heap.size, 0, none⟩ = some (.int .u64 c.k) := fun wx h => (HC.out.below h (cell_lt HC.out.c0)).c0
      have l1 : ∀ wx, Below wr.heap.size wr wx → wx.cell? ⟨w.heap.size, 1, none⟩ = some (.bool c.p.h) := fun wx h => (HC.out.below h (cell_lt HC.out.c0)).c1
      have l2 : ∀ wx, Below wr.heap.size wr wx → wx.cell? ⟨w.heap.size, 2, none⟩ = some (.int .u64 c.p.b) := fun wx h => (HC.out.below h (cell_lt HC.out.c0)).c2
      have l3 : ∀ wx, Below wr.heap.size wr wx → wx.cell? ⟨w.heap.size, 3, none⟩ = some (.bool c.c.h) := fun wx h => (HC.out.below h (cell_lt HC.out.c0)).c3
      have l4 : ∀ wx, Below wr.heap.size wr wx → wx.cell? ⟨w.heap.size, 4, none⟩ = some (.int .u64 c.c.b) := fun wx h => (HC.out.below h (cell_lt HC.out.c0)).c4
      have l5 : ∀ wx, Below wr.heap.size wr wx → wx.cell? ⟨w.heap.size, 5, none⟩ = some (.int .i64 c.n) := fun wx h => (HC.out.below h (cell_lt HC.out.c0)).c5
      have m0 : ∀ wx, Below wr.heap.size wr wx → wx.cell? ⟨db, 0, none⟩ = some (.int .u64 c.k) := fun wx h => (HD.out.below h (cell_lt HD.out.c0)).c0
      have m1 : ∀ wx, Below wr.heap.size wr wx → wx.cell? ⟨db, 1, none⟩ = some (.bool c.p.h) := fun wx h => (HD.out.below h (cell_lt HD.out.c0)).c1
      have m2 : ∀ wx, Below wr.heap.size wr wx → wx.cell? ⟨db, 2, none⟩ = some (.int .u64 c.p.b) := fun wx h => (HD.out.below h (cell_lt HD.out.c0)).c2
      have m3 : ∀ wx, Below wr.heap.size wr wx → wx.cell? ⟨db, 3, none⟩ = some (.bool c.c.h) := fun wx h => (HD.out.below h (cell_lt HD.out.c0)).c3
      have m4 : ∀ wx, Below wr.heap.size wr wx → wx.cell? ⟨db, 4, none⟩ = some (.int .u64 c.c.b) := fun wx h => (HD.out.below h (cell_lt HD.out.c0)).c4
      have m5 : ∀ wx, Below wr.heap.size wr wx → wx.cell? ⟨db, 5, none⟩ = some (.int .i64 c.n) := fun wx h => (HD.out.below h (cell_lt HD.out.c0)).c5
      refine wp_region_noPanic ?_
      refine wp_region_held_drew (S := fun wx => Below wr.heap.size wr wx) (by kernel_rfl) ?_ (fun hHeld => ?_)
      · exact (Below.refl _ _).drew
      refine wpAnyH_take (i := 0) (oi := ⟨some 111, _, _, _, _, _⟩) (v := ?_) rfl (by kernel_rfl) (by kernel_rfl) (by kernel_rfl) (fun _ _ _ h => h) (Or.inl ⟨by rfl, ?_⟩) hHeld ?_
      rotate_left
      · intro w hSw; (try dsimp only at hSw); go_simp; all_goals (with_reducible rfl)
      try simp only [Act.put, List.setIfInBounds_toArray, List.set_cons_zero, List.set_cons_succ]
      refine wpAnyH_take (i := 1) (oi := ⟨some 112, _, _, _, _, _⟩) (v := ?_) rfl (by kernel_rfl) (by kernel_rfl) (by kernel_rfl) (fun _ _ _ h => h) (Or.inl ⟨by rfl, ?_⟩) hHeld ?_
      rotate_left
      · intro w hSw; (try dsimp only at hSw); go_simp; all_goals (with_reducible rfl)
      try simp only [Act.put, List.setIfInBounds_toArray, List.set_cons_zero, List.set_cons_succ]
      refine wpAnyH_take (i := 3) (oi := ⟨some 114, _, _, _, _, _⟩) (v := ?_) rfl (by kernel_rfl) (by kernel_rfl) (by kernel_rfl) (fun _ _ _ h => h) (Or.inl ⟨by rfl, ?_⟩) hHeld ?_
      rotate_left
      · intro w hSw; (try dsimp only at hSw); go_simp; all_goals (with_reducible rfl)
      try simp only [Act.put, List.setIfInBounds_toArray, List.set_cons_zero, List.set_cons_succ]
      refine wpAnyH_take (i := 4) (oi := ⟨some 115, _, _, _, _, _⟩) (v := ?_) rfl (by kernel_rfl) (by kernel_rfl) (by kernel_rfl) (fun _ _ _ h => h) (Or.inl ⟨by rfl, ?_⟩) hHeld ?_
      rotate_left
      · intro w hSw; (try dsimp only at hSw); go_simp; all_goals (with_reducible rfl)
      try simp only [Act.put, List.setIfInBounds_toArray, List.set_cons_zero, List.set_cons_succ]
      refine wpAnyH_ready (rs := [2]) (by kernel_rfl) (by simp) ?_
      refine AllReadyH.cons (o := ⟨some 113, _, _, _, _, _⟩) rfl (fun K hK => ?_) AllReadyH.nil
      go_simp
      refine (cfit_walk k HK.out _).mono ?_
      rintro e w9 ⟨rfl, hB9⟩
      have hS9 := below_trans hHeld hB9
      clear hB9 hHeld
      go_simp
      refine hK.out _ _ ?_ (fun hHeld => ?_)
      · exact hS9
      clear hK K
      try simp only [Act.put, List.setIfInBounds_toArray, List.set_cons_zero, List.set_cons_succ]
      refine wpAnyH_ready (rs := [5]) (by kernel_rfl) (by simp) ?_
      refine AllReadyH.cons (o := ⟨some 116, _, _, _, _, _⟩) rfl (fun K hK => ?_) AllReadyH.nil
      go_simp
      refine (rcfit_walk k HK.out _).mono ?_
      rintro e w9 ⟨rfl, hB9⟩
      have hS9 := below_trans hHeld hB9
      clear hB9 hHeld
      go_simp
      refine hK.out _ _ ?_ (fun hHeld => ?_)
      · exact hS9
      clear hK K
      try simp only [Act.put, List.setIfInBounds_toArray, List.set_cons_zero, List.set_cons_succ]
      refine wpAnyH_take (i := 6) (oi := ⟨some 117, _, _, _, _, _⟩) (v := ?_) rfl (by kernel_rfl) (by kernel_rfl) (by kernel_rfl) (fun _ _ _ h => h) (Or.inl ⟨by rfl, ?_⟩) hHeld ?_
      rotate_left
      · intro w hSw; (try dsimp only at hSw); go_simp; all_goals (with_reducible rfl)
      try simp only [Act.put, List.setIfInBounds_toArray, List.set_cons_zero, List.set_cons_succ]
      refine wpAnyH_take (i := 7) (oi := ⟨some 118, _, _, _, _, _⟩) (v := ?_) rfl (by kernel_rfl) (by kernel_rfl) (by kernel_rfl) (fun _ _ _ h => h) (Or.inl ⟨by rfl, ?_⟩) hHeld ?_
      rotate_left
      · intro w hSw; (try dsimp only at hSw); go_simp; all_goals (with_reducible rfl)
      try simp only [Act.put, List.setIfInBounds_toArray, List.set_cons_zero, List.set_cons_succ]
      refine wpAnyH_take (i := 8) (oi := ⟨some 119, _, _, _, _, _⟩) (v := ?_) rfl (by kernel_rfl) (by kernel_rfl) (by kernel_rfl) (fun _ _ _ h => h) (Or.inl ⟨by rfl, ?_⟩) hHeld ?_
      rotate_left
      · intro w hSw; (try dsimp only at hSw); go_simp; all_goals (with_reducible rfl)
      try simp only [Act.put, List.setIfInBounds_toArray, List.set_cons_zero, List.set_cons_succ]
      refine wpAnyH_take (i := 10) (oi := ⟨some 121, _, _, _, _, _⟩) (v := ?_) rfl (by kernel_rfl) (by kernel_rfl) (by kernel_rfl) (fun _ _ _ h => h) (Or.inl ⟨by rfl, ?_⟩) hHeld ?_
      rotate_left
      · intro w hSw; (try dsimp only at hSw); go_simp; all_goals (with_reducible rfl)
      try simp only [Act.put, List.setIfInBounds_toArray, List.set_cons_zero, List.set_cons_succ]
      refine wpAnyH_ready (rs := [9]) (by kernel_rfl) (by simp) ?_
      refine AllReadyH.cons (o := ⟨some 120, _, _, _, _, _⟩) rfl (fun K hK => ?_) AllReadyH.nil
      go_simp
      refine (resolve_walk c 1 _).mono ?_
      rintro e w9 ⟨rfl, hB9⟩
      have hS9 := below_trans hHeld hB9
      clear hB9 hHeld
      go_simp
      refine hK.out _ _ ?_ (fun hHeld => ?_)
      · exact hS9
      clear hK K
      try simp only [Act.put, List.setIfInBounds_toArray, List.set_cons_zero, List.set_cons_succ]
      refine wpAnyH_ready (rs := [11]) (by kernel_rfl) (by simp) ?_
      refine AllReadyH.cons (o := ⟨some 122, _, _, _, _, _⟩) rfl (fun K hK => ?_) AllReadyH.nil
      go_simp
      refine (rresolve_walk c 1 _).mono ?_
      rintro e w9 ⟨rfl, hB9⟩
      have hS9 := below_trans hHeld hB9
      clear hB9 hHeld
      go_simp
      refine hK.out _ _ ?_ (fun hHeld => ?_)
      · exact hS9
      clear hK K
      try simp only [Act.put, List.setIfInBounds_toArray, List.set_cons_zero, List.set_cons_succ]
      refine wpAnyH_take (i := 12) (oi := ⟨some 123, _, _, _, _, _⟩) (v := ?_) rfl (by kernel_rfl) (by kernel_rfl) (by kernel_rfl) (fun _ _ _ h => h) (Or.inl ⟨by rfl, ?_⟩) hHeld ?_
      rotate_left
      · intro w hSw; (try dsimp only at hSw); go_simp; all_goals (with_reducible rfl)
      try simp only [Act.put, List.setIfInBounds_toArray, List.set_cons_zero, List.set_cons_succ]
      refine wpAnyH_take (i := 13) (oi := ⟨some 124, _, _, _, _, _⟩) (v := ?_) rfl (by kernel_rfl) (by kernel_rfl) (by kernel_rfl) (fun _ _ _ h => h) (Or.inl ⟨by rfl, ?_⟩) hHeld ?_
      rotate_left
      · intro w hSw; (try dsimp only at hSw); go_simp; all_goals (with_reducible rfl)
      try simp only [Act.put, List.setIfInBounds_toArray, List.set_cons_zero, List.set_cons_succ]
      refine wpAnyH_take (i := 14) (oi := ⟨some 6, _, _, _, _, _⟩) (v := ?_) rfl (by kernel_rfl) (by kernel_rfl) (by kernel_rfl) (fun _ _ _ h => h) (Or.inl ⟨by rfl, ?_⟩) hHeld ?_
      rotate_left
      · intro w hSw; (try dsimp only at hSw); go_simp; all_goals (with_reducible rfl)
      try simp only [Act.put, List.setIfInBounds_toArray, List.set_cons_zero, List.set_cons_succ]
      refine wpAnyH_done (by kernel_rfl) ?_ _
      refine NoPanic.normal ?_
      go_wp2_with fail
      go_ret
      exact ⟨rfl, below_trans HB.out hHeld⟩
end Go.Proofs.Ytnppgeokbhecfaa
