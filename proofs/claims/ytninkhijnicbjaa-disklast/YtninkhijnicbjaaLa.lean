/- DiskLast's walk. -/
import Derived.Test.YtninkhijnicbjaaDi
namespace Go.Proofs.Ytninkhijnicbjaa
open Go.RowKit

/-- Between two writes: the disk is up, not armed, and holds what is wanted. -/
def Ls (w : World) (dv : Value) (gw k : Nat) (wr : World) : Prop :=
  ∃ (D : Nat → Prop) (S : Dk), Dsk 59 D wr dv S ∧ (∀ x, D x → w.heap.size ≤ x) ∧ Gw D wr gw S.bl ∧ w.heap.size ≤ gw ∧ Below w.heap.size w wr ∧ S.bl.length = 5 ∧ S.down = false ∧ S.left = -1 ∧ S.rd ≤ k ∧ S.wr ≤ k
def LsRel (w : World) (dv : Value) (gw n : Nat) (iv : Value) (wr : World) : Prop := ∃ k : Nat, k ≤ n ∧ iv = .int .i64 k ∧ Ls w dv gw k wr

theorem lit_lost (w : World) : Bv (w.alloc (.cells #[.int .u8 108, .int .u8 111, .int .u8 115, .int .u8 116] 5 (4, 5))) (.slice (some ⟨w.heap.size, 0, none⟩) 4 4) [108, 111, 115, 116] := lit_bv w [108, 111, 115, 116] _ _ (by simp [maxLen]) (by simp)

/-- One round's end. -/
theorem ls_step {w : World} {dv : Value} {gw k m : Nat} {D2 : Nat → Prop} {S : Dk} {b : List Nat} {w3 w5 : World} (hbl : S.bl.length = 5) (hl : S.left = -1) (hd : S.down = false) (hrd : S.rd ≤ k) (hwr : S.wr ≤ k)
    (h5 : Dsk 59 D2 w5 dv { putS S m b with rd := (putS S m b).rd + 1 }) (hx : ∀ x, D2 x → w.heap.size ≤ x) (hG : Gw D2 w3 gw (S.bl.set m b)) (hC : Ch D2 w3 w5) (hg : w.heap.size ≤ gw) (hB : Below w.heap.size w w5) : Ls w dv gw (k + 1) w5 :=
  ⟨D2, _, h5, hx, hG.ch hC (fun _ hx => .inl hx), hg, hB, by simpa [putS] using hbl, hd, by show decL S.left = -1; rw [hl]; rfl, by show S.rd + 1 ≤ k + 1; omega, by show S.wr + 1 ≤ k + 1; omega⟩

set_option maxRecDepth 100000 in
set_option maxHeartbeats 4000000 in
theorem last_walk {w : World} {pv fv : Value} {ps : List (Int × List Nat)} {bs : List Bool} (hp : Tv w pv ps) (hf : Fv w fv bs) :
    Calls Try.prog 6 #[pv, fv] w fun e w' => e = .returned (.bool true) ∧ Below w.heap.size w w' := by
  have hcv := conv_lit
  have HPV : Hid (Tv w pv ps) := hp
  have HFV : Hid (Fv w fv bs) := hf
  obtain ⟨po, pc, rfl, hp1, hp2⟩ := hp.form
  obtain ⟨fo, fc, rfl, hf1, hf2⟩ := hf.form
  have hmk : ∀ wx : World, (Instr.makeSlice 22 (.int .i64 5) (.int .i64 5)).run Try.prog wx = .ok (.slice (some ⟨wx.heap.size, 0, none⟩) 5 5) (wx.alloc (.cells (madeCells #[.slice none 0 0] (5 * 1)) 36)) := make_rows (q := 5) (by omega)
  obtain ⟨Z, hZ⟩ : ∃ Z, Z = madeCells #[.slice none 0 0] (5 * 1) := ⟨_, rfl⟩
  rw [← hZ] at hmk
  have HZ : Hid (Z = madeCells #[.slice none 0 0] (5 * 1)) := hZ
  have HPL : Hid (ps.length ≤ maxLen) := Nat.le_trans hp1 hp2
  have hpl : (ps.length : Int) ≤ 9223372036854775807 := by simp only [maxLen] at hp2; omega
  have hfl : (bs.length : Int) ≤ 9223372036854775807 := by simp only [maxLen] at hf2; omega
  clear hp hf hp1 hp2 hf1 hf2 hZ
  go_enter Try.func6, Try.ntmps6
  go_wp2_with fail
  refine (awake_walk w).mono ?_
  rintro e w0 ⟨rfl, hB0⟩
  have HB0 : Hid (Below w.heap.size w w0) := hB0
  clear hB0
  go_wp2_with fail
  refine (new_walk (n := 5) (by omega) (by omega)).mono ?_
  rintro e w1 ⟨v, D1, rfl, hD1, hB1, hx1⟩
  obtain ⟨sb, hv⟩ : ∃ sb, v = .pointer (some ⟨sb, 0, none⟩) := by obtain ⟨sb, _, _, e, _⟩ := hD1; exact ⟨sb, e⟩
  subst hv
  have HL1 : Hid (Ls w (.pointer (some ⟨sb, 0, none⟩)) w1.heap.size 0 (w1.alloc (.cells Z 36))) := by
    have hs0 := HB0.out.size
    have hs1 := hB1.size
    refine ⟨D1, _, hD1.below (below_alloc _ _), fun x hx => Nat.le_trans hs0 (hx1 x hx), made_gw D1 w1 HZ.out (fun e => Nat.lt_irrefl _ (hD1.lt e)), by omega, below_trans (below_trans HB0.out hB1) (below_alloc _ _), by simp [loadS], rfl, rfl, Nat.zero_le _, Nat.zero_le _⟩
  clear hD1 hB1 hx1
  go_wp2_with fail
  go_loopw [8] (fun iv wr => LsRel w (.pointer (some ⟨sb, 0, none⟩)) w1.heap.size ps.length iv wr) (fun iv _ => ps.length - (intOf iv).toNat)
  case atStart => exact ⟨0, Nat.zero_le _, rfl, HL1.out⟩
  case round =>
    obtain ⟨k, hk, rfl, hL⟩ := hrel
    by_cases hgo : k < ps.length ∧ k < 4096
    · obtain ⟨hlt, h4096⟩ := hgo
      obtain ⟨D, S, hD, hxD, hG, hgw, hB, hbl, hdn, hlf, hrd, hwr⟩ := hL
      obtain ⟨⟨ao, cap, e0, q1, q2, q3, q4⟩, q5⟩ := HPV.out
      simp only [Value.slice.injEq] at e0
      obtain ⟨b0, off0, u, e1, c0, c1, hbv⟩ := q4 k hlt
      obtain ⟨I, hI⟩ : ∃ I, I = ps[k].1 := ⟨_, rfl⟩
      obtain ⟨l, hl⟩ : ∃ l, l = ps[k].2 := ⟨_, rfl⟩
      rw [← hI] at c0
      rw [← hl] at hbv
      have e2 : po = some ⟨b0, off0, none⟩ := e0.1.trans e1
      clear e0 q1 q2 q3 q4 q5 e1 hI hl
      subst e2
      have j0 : wr.cell? ⟨b0, off0 + k * 2, none⟩ = some (.int .i64 I) := by rw [hB.cell (p := ⟨b0, off0 + k * 2, none⟩) (cell_lt c0)]; exact c0
      have j1 : wr.cell? ⟨b0, off0 + k * 2 + 1, none⟩ = some u := by rw [hB.cell (p := ⟨b0, off0 + k * 2 + 1, none⟩) (cell_lt c1)]; exact c1
      have HLB : Hid (Bv wr u l) := hbv.below hB
      have HLW : Hid (Bv w u l) := hbv
      obtain ⟨lo, lc, rfl, _, _⟩ := bv_form hbv
      have hm1 : modN I 5 < 5 := mod_lt I (by omega)
      have hm2 : (IntKind.u64.wrap I).tmod 5 = (modN I 5 : Int) := mod_eq I (n := 5)
      obtain ⟨m, hm⟩ : ∃ m, m = modN I 5 := ⟨_, rfl⟩
      rw [← hm] at hm1 hm2
      have hm3 : IntKind.i64.wrap (m : Int) = (m : Int) := wrapU (by omega) (by omega)
      have hmi : (m : Int) < 5 := by omega
      have HM5 : Hid (m < 5) := hm1
      have HD : Hid (Dsk 59 D wr (.pointer (some ⟨sb, 0, none⟩)) S) := hD
      have HX : Hid (∀ x, D x → w.heap.size ≤ x) := hxD
      obtain ⟨gw, hgwe⟩ : ∃ gw, gw = w1.heap.size := ⟨_, rfl⟩
      have HG : Hid (Gw D wr w1.heap.size S.bl) := hG
      have HGW : Hid (w.heap.size ≤ w1.heap.size) := hgw
      have HB : Hid (Below w.heap.size w wr) := hB
      have HBL : Hid (S.bl.length = 5) := hbl
      have HDN : Hid (S.down = false) := hdn
      have HLF : Hid (S.left = -1) := hlf
      have HRD : Hid (S.rd ≤ k) := hrd
      have HWR : Hid (S.wr ≤ k) := hwr
      have HKN : Hid (k < 4096) := h4096
      have hki : (k : Int) < 4096 := by omega
      clear hm hm1 c0 c1 hbv hD hxD hG hgw hB hbl hdn hlf hrd hwr h4096 hgwe gw
      go_wp2_with fail
      refine (laid_walk HLB.out).mono ?_
      rintro e w9 ⟨bo, bc, rfl, hbb, h9⟩
      have h9 := h9.symm
      subst h9
      have HBL2 : Hid ((l.take 1024).length ≤ 1024) := by show _ ≤ _; simp; omega
      obtain ⟨b, hb⟩ : ∃ b, b = l.take 1024 := ⟨_, rfl⟩
      rw [← hb] at hbb HBL2 ⊢
      have HBW : Hid (Bv w (.slice bo b.length bc) b) := hbb w HLW.out
      have HBR : Hid (Bv wr (.slice bo b.length bc) b) := hbb wr HLB.out
      have HBB : Hid (∀ c ∈ b, c < 256) := HBW.out.2
      clear hbb hb
      go_wp2_with fail
      refine (write_walk HD.out m HBR.out (by have := HWR.out; have := HKN.out; omega)).mono ?_
      rintro e w2 ⟨rfl, ⟨D2, hD2, hx2⟩, hC2⟩
      obtain ⟨wi1, wi2⟩ := write_in (S := S) (k := m) (b := b) HDN.out (by rw [HBL.out]; exact HM5.out) (by rw [HLF.out]; decide) HBL2.out
      rw [wi1]
      rw [wi2] at hD2
      have HX2 : Hid (∀ x, D2 x → w.heap.size ≤ x) := fun x hx => by
        rcases hx2 x hx with h | h
        · exact HX.out x h
        · exact Nat.le_trans HB.out.size h
      have HB2 : Hid (Below w.heap.size w w2) := HB.out.trans (hC2.to_below HB.out.size HX.out)
      have hG2 := HG.out.ch hC2 hx2
      have hG3 : Gw D2 (w2.setCell ⟨w1.heap.size, m, none⟩ (.slice bo b.length bc)) w1.heap.size (S.bl.set m b) := hG2.set (by rw [HBL.out]; exact HM5.out) ((HBW.out.bx.below HB2.out).mono (fun x hx => by
        rcases hx with h | h
        · exact HX2.out x h
        · rw [h]; exact HGW.out))
      have hD3 : Dsk 59 D2 (w2.setCell ⟨w1.heap.size, m, none⟩ (.slice bo b.length bc)) (.pointer (some ⟨sb, 0, none⟩)) (putS S m b) := hD2.beside hG2.2
      obtain ⟨ux, cx, _⟩ := hG2.at (i := m) (by rw [HBL.out]; exact HM5.out)
      have fx := hG2.soft m
      obtain ⟨w3, hw3⟩ : ∃ w3, w3 = w2.setCell ⟨w1.heap.size, m, none⟩ (.slice bo b.length bc) := ⟨_, rfl⟩
      rw [← hw3] at hG3 hD3
      have HB3 : Hid (Below w.heap.size w w3) := by show Below _ _ _; rw [hw3]; exact HB2.out.setCell (p := ⟨w1.heap.size, m, none⟩) HGW.out _
      have HW3 : Hid (w3 = w2.setCell ⟨w1.heap.size, m, none⟩ (.slice bo b.length bc)) := hw3
      have HG3 : Hid (Gw D2 w3 w1.heap.size (S.bl.set m b)) := hG3
      have HD3 : Hid (Dsk 59 D2 w3 (.pointer (some ⟨sb, 0, none⟩)) (putS S m b)) := hD3
      clear hG2 hG3 hD3 hD2 hx2 hC2 wi1 wi2 hw3
      by_cases hoff : ∃ h : k < bs.length, bs[k] = true
      · obtain ⟨hkf, hbt⟩ := hoff
        obtain ⟨f1, f2, e0, _, _, _, q4⟩ := HFV.out
        simp only [Value.slice.injEq] at e0
        obtain ⟨b3, off3, e1, c3⟩ := q4 k hkf
        rw [hbt] at c3
        have e2 : fo = some ⟨b3, off3, none⟩ := e0.1.trans e1
        clear e0 e1 q4 hbt
        subst e2
        have HC3 : Hid (w3.cell? ⟨b3, off3 + k, none⟩ = some (.bool true)) := by show _ = _; rw [HB3.out.cell (p := ⟨b3, off3 + k, none⟩) (cell_lt c3)]; exact c3
        have hc3 : (w2.setCell ⟨w1.heap.size, m, none⟩ (.slice bo b.length bc)).cell? ⟨b3, off3 + k, none⟩ = some (.bool true) := by rw [← HW3.out]; exact HC3.out
        have hc3' : w2.cell? ⟨b3, off3 + k, none⟩ = some (.bool true) := by rw [HB2.out.cell (p := ⟨b3, off3 + k, none⟩) (cell_lt c3)]; exact c3
        have hne3 : ¬ w1.heap.size = b3 := by have := cell_lt c3; have := HGW.out; simp at *; omega
        clear c3
        go_wp2_with fail
        rw [← HW3.out]
        refine (off_walk HD3.out).mono ?_
        rintro e w6 ⟨rfl, hD6, hC6⟩
        have HD6 : Hid (Dsk 59 D2 w6 (.pointer (some ⟨sb, 0, none⟩)) (offS (putS S m b))) := hD6
        have HG6 : Hid (Gw D2 w6 w1.heap.size (S.bl.set m b)) := HG3.out.ch hC6 (fun _ hx => .inl hx)
        have HB6 : Hid (Below w.heap.size w w6) := HB3.out.trans (hC6.to_below HB3.out.size HX2.out)
        clear hD6 hC6 hc3 hc3' hne3
        go_wp2_with fail
        refine (write_walk (HD6.out.below (below_alloc _ _)) m (lit_lost w6) (by show S.wr + 1 < _; have := HWR.out; have := HKN.out; omega)).mono ?_
        rintro e w7 ⟨rfl, ⟨D7, hD7, hx7⟩, hC7⟩
        obtain ⟨wo1, wo2⟩ := write_off (S := offS (putS S m b)) (i := m) (b := [108, 111, 115, 116]) rfl
        rw [wo1]
        rw [wo2] at hD7
        have HD7 : Hid (Dsk 59 D7 w7 (.pointer (some ⟨sb, 0, none⟩)) (offS (putS S m b))) := hD7
        have HG7 : Hid (Gw D7 w7 w1.heap.size (S.bl.set m b)) := (HG6.out.below (below_alloc _ _)).ch hC7 hx7
        have HB7 : Hid (Below w.heap.size w w7) := (below_trans HB6.out (below_alloc _ _)).trans (hC7.to_below (by have := HB6.out.size; simp; omega) HX2.out)
        have HX7 : Hid (∀ x, D7 x → w.heap.size ≤ x) := fun x hx => by
          rcases hx7 x hx with h | h
          · exact HX2.out x h
          · have := HB6.out.size; simp at h; omega
        clear hD7 hx7 hC7 wo1 wo2
        go_wp2_with fail
        refine (on_walk HD7.out).mono ?_
        rintro e w4 ⟨rfl, hD4, hC4⟩
        rw [on_off (S := putS S m b) HDN.out (by show decL S.left = -1; rw [HLF.out]; rfl)] at hD4
        have HD4 : Hid (Dsk 59 D7 w4 (.pointer (some ⟨sb, 0, none⟩)) (putS S m b)) := hD4
        have HG4 : Hid (Gw D7 w4 w1.heap.size (S.bl.set m b)) := HG7.out.ch hC4 (fun _ hx => .inl hx)
        have HB4 : Hid (Below w.heap.size w w4) := HB7.out.trans (hC4.to_below HB7.out.size HX7.out)
        clear hD4 hC4
        clear HX2
        have HX2 : Hid (∀ x, D7 x → w.heap.size ≤ x) := HX7.out
        go_wp2_with fail
        refine (read_walk HD4.out m (by show S.rd < _; have := HRD.out; have := HKN.out; omega)).mono ?_
        rintro e w5 ⟨r, rfl, ho5, hD5, hC5⟩
        obtain ⟨ri1, ri2, ri3⟩ := read_in (S := putS S m b) (k := m) HDN.out (by simpa [putS, HBL.out] using HM5.out)
        rw [ri1]
        rw [ri2, put_bk (by rw [HBL.out]; exact HM5.out)] at ho5
        rw [ri3] at hD5
        have HB5 : Hid (Below w.heap.size w w5) := HB4.out.trans (hC5.to_below HB4.out.size HX2.out)
        have HLS : Hid (Ls w (.pointer (some ⟨sb, 0, none⟩)) w1.heap.size (k + 1) w5) := ls_step HBL.out HLF.out HDN.out HRD.out HWR.out hD5 HX2.out HG4.out hC5 HGW.out HB5.out
        have s1 := str_of (own_bv ho5 HBB.out)
        have s2 := str_of (HBW.out.below HB5.out)
        obtain ⟨ro, rc, hro, _, _⟩ := row_form ho5
        subst hro
        clear ri1 ri2 ri3 ho5 hD5 hC5
        go_wp2_with fail
        go_roundw
        case rel => exact ⟨k + 1, hlt, by simp, HLS.out⟩
        case measure => simp [intOf]; omega
      · have HD4 : Hid (Dsk 59 D2 w3 (.pointer (some ⟨sb, 0, none⟩)) (putS S m b)) := HD3.out
        have HG4 : Hid (Gw D2 w3 w1.heap.size (S.bl.set m b)) := HG3.out
        have HB4 : Hid (Below w.heap.size w w3) := HB3.out
        by_cases hkf : k < bs.length
        · obtain ⟨f1, f2, e0, _, _, _, q4⟩ := HFV.out
          simp only [Value.slice.injEq] at e0
          obtain ⟨b3, off3, e1, c3⟩ := q4 k hkf
          have hbt : bs[k] = false := by
            cases hh : bs[k]
            · rfl
            · exact absurd ⟨hkf, hh⟩ hoff
          rw [hbt] at c3
          have e2 : fo = some ⟨b3, off3, none⟩ := e0.1.trans e1
          clear e0 e1 q4 hbt hoff
          subst e2
          have hc3' : w2.cell? ⟨b3, off3 + k, none⟩ = some (.bool false) := by rw [HB2.out.cell (p := ⟨b3, off3 + k, none⟩) (cell_lt c3)]; exact c3
          have hne3 : ¬ w1.heap.size = b3 := by have := cell_lt c3; have := HGW.out; simp at *; omega
          clear c3
          go_wp2_with fail
          rw [← HW3.out]
          refine (read_walk HD4.out m (by show S.rd < _; have := HRD.out; have := HKN.out; omega)).mono ?_
          rintro e w5 ⟨r, rfl, ho5, hD5, hC5⟩
          obtain ⟨ri1, ri2, ri3⟩ := read_in (S := putS S m b) (k := m) HDN.out (by simpa [putS, HBL.out] using HM5.out)
          rw [ri1]
          rw [ri2, put_bk (by rw [HBL.out]; exact HM5.out)] at ho5
          rw [ri3] at hD5
          have HB5 : Hid (Below w.heap.size w w5) := HB4.out.trans (hC5.to_below HB4.out.size HX2.out)
          have HLS : Hid (Ls w (.pointer (some ⟨sb, 0, none⟩)) w1.heap.size (k + 1) w5) := ls_step HBL.out HLF.out HDN.out HRD.out HWR.out hD5 HX2.out HG4.out hC5 HGW.out HB5.out
          have s1 := str_of (own_bv ho5 HBB.out)
          have s2 := str_of (HBW.out.below HB5.out)
          obtain ⟨ro, rc, hro, _, _⟩ := row_form ho5
          subst hro
          clear ri1 ri2 ri3 ho5 hD5 hC5
          go_wp2_with fail
          go_roundw
          case rel => exact ⟨k + 1, hlt, by simp, HLS.out⟩
          case measure => simp [intOf]; omega
        · have hkf2 : (bs.length : Int) ≤ (k : Int) := by omega
          clear hoff
          go_wp2_with fail
          rw [← HW3.out]
          refine (read_walk HD4.out m (by show S.rd < _; have := HRD.out; have := HKN.out; omega)).mono ?_
          rintro e w5 ⟨r, rfl, ho5, hD5, hC5⟩
          obtain ⟨ri1, ri2, ri3⟩ := read_in (S := putS S m b) (k := m) HDN.out (by simpa [putS, HBL.out] using HM5.out)
          rw [ri1]
          rw [ri2, put_bk (by rw [HBL.out]; exact HM5.out)] at ho5
          rw [ri3] at hD5
          have HB5 : Hid (Below w.heap.size w w5) := HB4.out.trans (hC5.to_below HB4.out.size HX2.out)
          have HLS : Hid (Ls w (.pointer (some ⟨sb, 0, none⟩)) w1.heap.size (k + 1) w5) := ls_step HBL.out HLF.out HDN.out HRD.out HWR.out hD5 HX2.out HG4.out hC5 HGW.out HB5.out
          have s1 := str_of (own_bv ho5 HBB.out)
          have s2 := str_of (HBW.out.below HB5.out)
          obtain ⟨ro, rc, hro, _, _⟩ := row_form ho5
          subst hro
          clear ri1 ri2 ri3 ho5 hD5 hC5
          go_wp2_with fail
          go_roundw
          case rel => exact ⟨k + 1, hlt, by simp, HLS.out⟩
          case measure => simp [intOf]; omega
    · obtain ⟨D, S, hD, hxD, hG, hgw, hB, hbl, hdn, hlf, hrd, hwr⟩ := hL
      have HD : Hid (Dsk 59 D wr (.pointer (some ⟨sb, 0, none⟩)) S) := hD
      have HG : Hid (Gw D wr w1.heap.size S.bl) := hG
      have HB : Hid (Below w.heap.size w wr) := hB
      have HBL : Hid (S.bl.length = 5) := hbl
      have hd1 : ¬ ((k : Int) < (ps.length : Int) ∧ (k : Int) < 4096) := by omega
      have HGO : Hid (¬ (k < ps.length ∧ k < 4096)) := hgo
      clear hD hxD hG hgw hB hbl hdn hlf hrd hwr hgo hd1
      by_cases hlt : k < ps.length
      · have h4 : (4096 : Int) ≤ (k : Int) := by have := HGO.out; omega
        have h4d : decide ((k : Int) < 4096) = false := decide_eq_false (by omega)
        go_wp2_with fail
        refine (image_walk HD.out).mono ?_
        rintro e w2 ⟨g, cap, rfl, hG2, _, hB2⟩
        have HP1 : Hid (Pv w2 (.slice (some ⟨g, 0, none⟩) S.bl.length cap) S.bl) := hG2.pv HD.out.good.byt
        have HP2 : Hid (Pv w2 (.slice (some ⟨w1.heap.size, 0, none⟩) 5 5) S.bl) := by
          have := (HG.out.below hB2).pv (cap := 5) (by rw [HBL.out]; exact Nat.le_refl _) (by simp [maxLen])
          rw [HBL.out] at this; exact this
        have HB2 : Hid (Below w.heap.size w w2) := below_trans HB.out hB2
        clear hG2 hB2
        go_wp2_with fail
        refine (images_walk HP1.out HP2.out).mono ?_
        rintro e w3 ⟨rfl, hB3⟩
        rw [decide_eq_true rfl]
        go_wp2_with fail
        go_ret
        exact ⟨rfl, below_trans HB2.out hB3⟩
      · have h4 : (ps.length : Int) ≤ (k : Int) := by omega
        go_wp2_with fail
        refine (image_walk HD.out).mono ?_
        rintro e w2 ⟨g, cap, rfl, hG2, _, hB2⟩
        have HP1 : Hid (Pv w2 (.slice (some ⟨g, 0, none⟩) S.bl.length cap) S.bl) := hG2.pv HD.out.good.byt
        have HP2 : Hid (Pv w2 (.slice (some ⟨w1.heap.size, 0, none⟩) 5 5) S.bl) := by
          have := (HG.out.below hB2).pv (cap := 5) (by rw [HBL.out]; exact Nat.le_refl _) (by simp [maxLen])
          rw [HBL.out] at this; exact this
        have HB2 : Hid (Below w.heap.size w w2) := below_trans HB.out hB2
        clear hG2 hB2
        go_wp2_with fail
        refine (images_walk HP1.out HP2.out).mono ?_
        rintro e w3 ⟨rfl, hB3⟩
        rw [decide_eq_true rfl]
        go_wp2_with fail
        go_ret
        exact ⟨rfl, below_trans HB2.out hB3⟩
end Go.Proofs.Ytninkhijnicbjaa
