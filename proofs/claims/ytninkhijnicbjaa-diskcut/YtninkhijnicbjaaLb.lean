/- DiskCut's walk (printed by gen_lb.py). -/
import Derived.Test.YtninkhijnicbjaaDi
namespace Go.Proofs.Ytninkhijnicbjaa
open Go.RowKit

/-- The power beside the number: up with what is left, or gone. -/
def Pw (n : Int) (c : Nat) (S : Dk) : Prop := (S.down = false ∧ ((n < 0 ∧ S.left = -1) ∨ (0 ≤ n ∧ S.left = n - c ∧ (c : Int) ≤ n))) ∨ S.down = true
def Cs (w : World) (dv : Value) (n : Int) (gw k c : Nat) (wr : World) : Prop :=
  ∃ (D : Nat → Prop) (S : Dk), Dsk 59 D wr dv S ∧ (∀ x, D x → w.heap.size ≤ x) ∧ Gw D wr gw S.bl ∧ w.heap.size ≤ gw ∧ Below w.heap.size w wr ∧ S.bl.length = 8 ∧ Pw n c S ∧ S.rd = 0 ∧ S.wr = c ∧ c ≤ k
def CsRel (w : World) (dv : Value) (n : Int) (gw N : Nat) (cv iv : Value) (wr : World) : Prop := ∃ k c : Nat, k ≤ N ∧ k ≤ 4096 ∧ iv = .int .i64 k ∧ cv = .int .i64 c ∧ Cs w dv n gw k c wr
/-- Behind the loop, the power on: reading all. -/
def Oz (w : World) (dv : Value) (bl : List (List Nat)) (gw k : Nat) (wr : World) : Prop :=
  ∃ (D : Nat → Prop) (S : Dk), Dsk 59 D wr dv S ∧ (∀ x, D x → w.heap.size ≤ x) ∧ Gw D wr gw bl ∧ w.heap.size ≤ gw ∧ Below w.heap.size w wr ∧ S.bl = bl ∧ S.down = false ∧ S.left = -1 ∧ S.rd ≤ k + 1 ∧ S.wr ≤ 4096
def OsRel (w : World) (dv : Value) (bl : List (List Nat)) (gw : Nat) (iv : Value) (wr : World) : Prop := ∃ k : Nat, k ≤ 8 ∧ iv = .int .i64 k ∧ Oz w dv bl gw k wr

theorem lit_on (w : World) : Bv (w.alloc (.cells #[.int .u8 111, .int .u8 110] 5 (2, 3))) (.slice (some ⟨w.heap.size, 0, none⟩) 2 2) [111, 110] := lit_bv w [111, 110] _ _ (by simp [maxLen]) (by simp)
theorem write_far {S : Dk} {b : List Nat} {m : Nat} (hd : S.down = false) (hm : S.bl.length ≤ m) : writeI S m b = 81 ∧ writeS S m b = S := by
  have hr : refI S m = 81 := by unfold refI; rw [hd, if_neg (by simp), if_pos (.inr (by omega))]
  exact ⟨by unfold writeI; rw [if_pos (by omega), hr], by unfold writeS; rw [if_pos (by omega)]⟩
theorem write_cut {S : Dk} {b : List Nat} {m : Nat} (hd : S.down = false) (hm : m < S.bl.length) (hl : S.left = 0) (hb : b.length ≤ 1024) : writeI S m b = 80 ∧ writeS S m b = offS S := by
  have hr := ref_in hd hm
  exact ⟨by unfold writeI; rw [if_neg (fun e => e hr), if_neg (by omega), if_pos hl], by unfold writeS; rw [if_neg (fun e => e hr), if_neg (by omega), if_pos hl]⟩
theorem pw_put {n : Int} {c m : Nat} {S : Dk} {b : List Nat} (h : Pw n c S) (hd : S.down = false) (hl : S.left ≠ 0) : Pw n (c + 1) (putS S m b) := by
  rcases h with ⟨_, h⟩ | h
  · refine .inl ⟨hd, ?_⟩
    rcases h with ⟨h1, h2⟩ | ⟨h1, h2, h3⟩
    · exact .inl ⟨h1, by show decL S.left = -1; rw [h2]; rfl⟩
    · refine .inr ⟨h1, ?_, ?_⟩
      · show decL S.left = _
        unfold decL
        rw [if_neg (by omega), h2]; omega
      · rw [h2] at hl; omega
  · rw [hd] at h; cases h

theorem ref_zero {S : Dk} (h : 0 < S.bl.length) : (refI S 0 == 80) = S.down := by
  cases hd : S.down
  · rw [show refI S 0 = 0 from ref_in (k := 0) hd h]; rfl
  · have : refI S 0 = 80 := by unfold refI; rw [if_pos hd]
    rw [this]; rfl
theorem read_same (S : Dk) (i : Int) : (readS S i).bl = S.bl ∧ (readS S i).down = S.down ∧ (readS S i).wr = S.wr ∧ (readS S i).rd ≤ S.rd + 1 := by
  unfold readS
  split
  · exact ⟨rfl, rfl, rfl, Nat.le_refl _⟩
  · exact ⟨rfl, rfl, rfl, by omega⟩

set_option maxRecDepth 100000 in
set_option maxHeartbeats 8000000 in
theorem cut_law_walk {w : World} {pv : Value} {ps : List (Int × List Nat)} {n : Int} (hp : Tv w pv ps) (hn : -9223372036854775808 ≤ n ∧ n < 9223372036854775808) :
    Calls Try.prog 4 #[pv, .int .i64 n] w fun e w' => e = .returned (.bool true) ∧ Below w.heap.size w w' := by
  have hcv := conv_lit
  have HPV : Hid (Tv w pv ps) := hp
  obtain ⟨po, pc, rfl, hp1, hp2⟩ := hp.form
  have hmk : ∀ wx : World, (Instr.makeSlice 22 (.int .i64 8) (.int .i64 8)).run Try.prog wx = .ok (.slice (some ⟨wx.heap.size, 0, none⟩) 8 8) (wx.alloc (.cells (madeCells #[.slice none 0 0] (8 * 1)) 36)) := make_rows (q := 8) (by omega)
  obtain ⟨Z, hZ⟩ : ∃ Z, Z = madeCells #[.slice none 0 0] (8 * 1) := ⟨_, rfl⟩
  rw [← hZ] at hmk
  have HZ : Hid (Z = madeCells #[.slice none 0 0] (8 * 1)) := hZ
  have HN : Hid (n < 9223372036854775808) := hn.2
  have hpl : (ps.length : Int) ≤ 9223372036854775807 := by simp only [maxLen] at hp2; omega
  clear hp hp1 hp2 hZ hn
  go_enter Try.func4, Try.ntmps4
  go_wp2_with fail
  refine (awake_walk w).mono ?_
  rintro e w0 ⟨rfl, hB0⟩
  have HB0 : Hid (Below w.heap.size w w0) := hB0
  clear hB0
  go_wp2_with fail
  refine (new_walk (n := 8) (by omega) (by omega)).mono ?_
  rintro e w1 ⟨v, D1, rfl, hD1, hB1, hx1⟩
  obtain ⟨sb, hv⟩ : ∃ sb, v = .pointer (some ⟨sb, 0, none⟩) := by obtain ⟨sb, _, _, e, _⟩ := hD1; exact ⟨sb, e⟩
  subst hv
  have hs0 := HB0.out.size
  have hs1 := hB1.size
  have HD1 : Hid (Dsk 59 D1 (w1.alloc (.cells Z 36)) (.pointer (some ⟨sb, 0, none⟩)) (loadS (List.replicate 8 []))) := hD1.below (below_alloc _ _)
  have HG1 : Hid (Gw D1 (w1.alloc (.cells Z 36)) w1.heap.size (List.replicate 8 [])) := made_gw D1 w1 HZ.out (fun e => Nat.lt_irrefl _ (hD1.lt e))
  have HX1 : Hid (∀ x, D1 x → w.heap.size ≤ x) := fun x hx => Nat.le_trans hs0 (hx1 x hx)
  have HGW : Hid (w.heap.size ≤ w1.heap.size) := by show _ ≤ _; omega
  have HB1 : Hid (Below w.heap.size w (w1.alloc (.cells Z 36))) := below_trans (below_trans HB0.out hB1) (below_alloc _ _)
  clear hD1 hB1 hx1 hs0 hs1
  go_wp2_with fail
  refine (cut_walk HD1.out HN.out).mono ?_
  rintro e w2 ⟨rfl, hD2, hC2⟩
  have HL1 : Hid (Cs w (.pointer (some ⟨sb, 0, none⟩)) n w1.heap.size 0 0 w2) := by
    refine ⟨D1, _, hD2, HX1.out, HG1.out.ch hC2 (fun _ hx => .inl hx), HGW.out, HB1.out.trans (hC2.to_below HB1.out.size HX1.out), by simp [loadS, cutS], .inl ⟨rfl, ?_⟩, rfl, rfl, Nat.zero_le _⟩
    by_cases h : n < 0
    · exact .inl ⟨h, by show (if n < 0 then (-1 : Int) else n) = -1; rw [if_pos h]⟩
    · exact .inr ⟨by omega, by show (if n < 0 then (-1 : Int) else n) = _; rw [if_neg h]; simp, by simp; omega⟩
  clear hD2 hC2
  go_wp2_with fail
  go_loopw [8, 9] (fun cv iv wr => CsRel w (.pointer (some ⟨sb, 0, none⟩)) n w1.heap.size ps.length cv iv wr) (fun _ iv _ => ps.length - (intOf iv).toNat)
  case atStart => exact ⟨0, 0, Nat.zero_le _, Nat.zero_le _, rfl, rfl, HL1.out⟩
  case round =>
    obtain ⟨k, c, hk, hk4, rfl, rfl, hL⟩ := hrel
    by_cases hgo : k < ps.length ∧ k < 4096
    · obtain ⟨hlt, h4096⟩ := hgo
      obtain ⟨D, S, hD, hxD, hG, hgw, hB, hbl, hpw, hrd, hwr, hck⟩ := hL
      obtain ⟨⟨ao, cap, e0, q1, q2, q3, q4⟩, q5⟩ := HPV.out
      simp only [Value.slice.injEq] at e0
      obtain ⟨b0, off0, u, e1, c0, c1, hbv⟩ := q4 k hlt
      obtain ⟨I, hI⟩ : ∃ I, I = ps[k].1 := ⟨_, rfl⟩
      obtain ⟨l, hl⟩ : ∃ l, l = ps[k].2 := ⟨_, rfl⟩
      rw [← hI] at c0
      rw [← hl] at hbv
      have e2 : po = some ⟨b0, off0, none⟩ := e0.1.trans e1
      clear e0 q1 q2 q3 q4 q5 e1 hI hl
      subst e2
      have j0 : wr.cell? ⟨b0, off0 + k * 2, none⟩ = some (.int .i64 I) := by rw [hB.cell (p := ⟨b0, off0 + k * 2, none⟩) (cell_lt c0)]; exact c0
      have j1 : wr.cell? ⟨b0, off0 + k * 2 + 1, none⟩ = some u := by rw [hB.cell (p := ⟨b0, off0 + k * 2 + 1, none⟩) (cell_lt c1)]; exact c1
      have HLB : Hid (Bv wr u l) := hbv.below hB
      have HLW : Hid (Bv w u l) := hbv
      obtain ⟨lo, lc, rfl, _, _⟩ := bv_form hbv
      have hm1 : modN I 9 < 9 := mod_lt I (by omega)
      have hm2 : (IntKind.u64.wrap I).tmod 9 = (modN I 9 : Int) := mod_eq I (n := 9)
      obtain ⟨m, hm⟩ : ∃ m, m = modN I 9 := ⟨_, rfl⟩
      rw [← hm] at hm1 hm2
      have hm3 : IntKind.i64.wrap (m : Int) = (m : Int) := wrapU (by omega) (by omega)
      have hmi : (m : Int) < 9 := by omega
      have HM9 : Hid (m < 9) := hm1
      have HD : Hid (Dsk 59 D wr (.pointer (some ⟨sb, 0, none⟩)) S) := hD
      have HX : Hid (∀ x, D x → w.heap.size ≤ x) := hxD
      have HG : Hid (Gw D wr w1.heap.size S.bl) := hG
      have HB : Hid (Below w.heap.size w wr) := hB
      have HBL : Hid (S.bl.length = 8) := hbl
      have HPW : Hid (Pw n c S) := hpw
      have HRD : Hid (S.rd = 0) := hrd
      have HWR : Hid (S.wr = c) := hwr
      have HCK : Hid (c ≤ k) := hck
      have HKN : Hid (k < 4096) := h4096
      have hki : (k : Int) < 4096 := by omega
      have hci : (c : Int) ≤ 4096 := by omega
      clear hm hm1 c0 c1 hbv hD hxD hG hgw hB hbl hpw hrd hwr hck h4096 hk4
      go_wp2_with fail
      refine (laid_walk HLB.out).mono ?_
      rintro e w9 ⟨bo, bc, rfl, hbb, h9⟩
      have h9 := h9.symm
      subst h9
      have HBL2 : Hid ((l.take 1024).length ≤ 1024) := by show _ ≤ _; simp; omega
      obtain ⟨b, hb⟩ : ∃ b, b = l.take 1024 := ⟨_, rfl⟩
      rw [← hb] at hbb HBL2 ⊢
      have HBW : Hid (Bv w (.slice bo b.length bc) b) := hbb w HLW.out
      have HBR : Hid (Bv wr (.slice bo b.length bc) b) := hbb wr HLB.out
      clear hbb hb
      go_wp2_with fail
      refine (down_walk HD.out).mono ?_
      rintro e w9 ⟨rfl, h9⟩
      have h9 := h9.symm
      subst h9
      cases hdn : S.down
      · by_cases hm8 : m = 8
        · have HM8 : Hid (m = 8) := hm8
          have HDN : Hid (S.down = false) := hdn
          have hm8b : ((m : Int) == 8) = true := by rw [hm8]; rfl
          clear hdn hm8
          go_wp2_with fail
          refine (write_walk HD.out m HBR.out (by have := HWR.out; have := HKN.out; have := HCK.out; omega)).mono ?_
          rintro e w4 ⟨rfl, ⟨D4, hD4, hx4⟩, hC4⟩
          obtain ⟨wi1, wi2⟩ := write_far (S := S) (m := m) (b := b) HDN.out (by rw [HBL.out, HM8.out]; exact Nat.le_refl _)
          rw [wi1]
          rw [wi2] at hD4
          have HX4 : Hid (∀ x, D4 x → w.heap.size ≤ x) := fun x hx => by
            rcases hx4 x hx with h | h
            · exact HX.out x h
            · exact Nat.le_trans HB.out.size h
          have HB4 : Hid (Below w.heap.size w w4) := HB.out.trans (hC4.to_below HB.out.size HX.out)
          have HG4 : Hid (Gw D4 w4 w1.heap.size S.bl) := HG.out.ch hC4 hx4
          have HD4 : Hid (Dsk 59 D4 w4 (.pointer (some ⟨sb, 0, none⟩)) S) := hD4
          clear hD4 hx4 hC4 wi1 wi2
          go_wp2_with fail
          refine (down_walk HD4.out).mono ?_
          rintro e w9 ⟨rfl, h9⟩
          have h9 := h9.symm
          subst h9
          rw [HDN.out]
          go_wp2_with fail
          go_roundw
          case rel => exact ⟨k + 1, c, hlt, by have := HKN.out; omega, by simp, rfl, D4, _, HD4.out, HX4.out, HG4.out, HGW.out, HB4.out, HBL.out, HPW.out, HRD.out, HWR.out, by have := HCK.out; omega⟩
          case measure => simp [intOf]; omega
        · have HM8 : Hid (m < 8) := by have := HM9.out; show _ < _; omega
          have HDN : Hid (S.down = false) := hdn
          have hm8b : ((m : Int) == 8) = false := by simp; omega
          have hm8c : (m : Int) ≠ 8 := by omega
          have hmi8 : (m : Int) < 8 := by have := HM8.out; omega
          clear hdn hm8
          by_cases hcut : 0 ≤ n ∧ (c : Int) = n
          · have hn0 : 0 ≤ n := hcut.1
            have hcn : ((c : Int) == n) = true := by simp [hcut.2]
            have HL0 : Hid (S.left = 0) := by
              show _ = _
              rcases HPW.out with ⟨_, h | h⟩ | h
              · omega
              · rw [h.2.1]; omega
              · rw [HDN.out] at h; cases h
            clear hcut
            go_wp2_with fail
            refine (write_walk HD.out m HBR.out (by have := HWR.out; have := HKN.out; have := HCK.out; omega)).mono ?_
            rintro e w4 ⟨rfl, ⟨D4, hD4, hx4⟩, hC4⟩
            obtain ⟨wi1, wi2⟩ := write_cut (S := S) (m := m) (b := b) HDN.out (by rw [HBL.out]; exact HM8.out) HL0.out HBL2.out
            rw [wi1]
            rw [wi2] at hD4
            have HX4 : Hid (∀ x, D4 x → w.heap.size ≤ x) := fun x hx => by
              rcases hx4 x hx with h | h
              · exact HX.out x h
              · exact Nat.le_trans HB.out.size h
            have HB4 : Hid (Below w.heap.size w w4) := HB.out.trans (hC4.to_below HB.out.size HX.out)
            have HG4 : Hid (Gw D4 w4 w1.heap.size S.bl) := HG.out.ch hC4 hx4
            have HD4 : Hid (Dsk 59 D4 w4 (.pointer (some ⟨sb, 0, none⟩)) (offS S)) := hD4
            clear hD4 hx4 hC4 wi1 wi2
            go_wp2_with fail
            refine (down_walk HD4.out).mono ?_
            rintro e w9 ⟨rfl, h9⟩
            have h9 := h9.symm
            subst h9
            rw [show (offS S).down = true from rfl]
            go_wp2_with fail
            go_roundw
            case rel => exact ⟨k + 1, c, hlt, by have := HKN.out; omega, by simp, rfl, D4, _, HD4.out, HX4.out, HG4.out, HGW.out, HB4.out, HBL.out, .inr rfl, HRD.out, HWR.out, by have := HCK.out; omega⟩
            case measure => simp [intOf]; omega
          · have HL0 : Hid (S.left ≠ 0) := by
              show _ ≠ _
              rcases HPW.out with ⟨_, h | h⟩ | h
              · omega
              · omega
              · rw [HDN.out] at h; cases h
            by_cases hn0 : n < 0
            · clear hcut
              go_wp2_with fail
              refine (write_walk HD.out m HBR.out (by have := HWR.out; have := HKN.out; have := HCK.out; omega)).mono ?_
              rintro e w4 ⟨rfl, ⟨D4, hD4, hx4⟩, hC4⟩
              obtain ⟨wi1, wi2⟩ := write_in (S := S) (k := m) (b := b) HDN.out (by rw [HBL.out]; exact HM8.out) HL0.out HBL2.out
              rw [wi1]
              rw [wi2] at hD4
              have HX4 : Hid (∀ x, D4 x → w.heap.size ≤ x) := fun x hx => by
                rcases hx4 x hx with h | h
                · exact HX.out x h
                · exact Nat.le_trans HB.out.size h
              have HB4 : Hid (Below w.heap.size w w4) := HB.out.trans (hC4.to_below HB.out.size HX.out)
              have HG4 : Hid (Gw D4 w4 w1.heap.size S.bl) := HG.out.ch hC4 hx4
              have HD4 : Hid (Dsk 59 D4 w4 (.pointer (some ⟨sb, 0, none⟩)) (putS S m b)) := hD4
              clear hD4 hx4 hC4 wi1 wi2
              go_wp2_with fail
              refine (down_walk HD4.out).mono ?_
              rintro e w9 ⟨rfl, h9⟩
              have h9 := h9.symm
              subst h9
              rw [show (putS S m b).down = false from HDN.out]
              obtain ⟨ux, cx, _⟩ := HG4.out.at (i := m) (by rw [HBL.out]; exact HM8.out)
              have fx := HG4.out.soft m
              have HG5 : Hid (Gw D4 (w4.setCell ⟨w1.heap.size, m, none⟩ (.slice bo b.length bc)) w1.heap.size (S.bl.set m b)) := HG4.out.set (by rw [HBL.out]; exact HM8.out) ((HBW.out.bx.below HB4.out).mono (fun x hx => by
                rcases hx with h | h
                · exact HX4.out x h
                · rw [h]; exact HGW.out))
              have HD5 : Hid (Dsk 59 D4 (w4.setCell ⟨w1.heap.size, m, none⟩ (.slice bo b.length bc)) (.pointer (some ⟨sb, 0, none⟩)) (putS S m b)) := HD4.out.beside HG4.out.2
              have HB5 : Hid (Below w.heap.size w (w4.setCell ⟨w1.heap.size, m, none⟩ (.slice bo b.length bc))) := HB4.out.setCell (p := ⟨w1.heap.size, m, none⟩) HGW.out _
              go_wp2_with fail
              go_roundw
              case rel => exact ⟨k + 1, c + 1, hlt, by have := HKN.out; omega, by simp, by simp, D4, _, HD5.out, HX4.out, HG5.out, HGW.out, HB5.out, by simpa [putS] using HBL.out, pw_put HPW.out HDN.out HL0.out, HRD.out, by show S.wr + 1 = c + 1; rw [HWR.out], by have := HCK.out; omega⟩
              case measure => simp [intOf]; omega
            · have hn1 : 0 ≤ n := by omega
              have hcn : ((c : Int) == n) = false := by simp; omega
              have hcn2 : (c : Int) ≠ n := by omega
              clear hcut hn0
              go_wp2_with fail
              refine (write_walk HD.out m HBR.out (by have := HWR.out; have := HKN.out; have := HCK.out; omega)).mono ?_
              rintro e w4 ⟨rfl, ⟨D4, hD4, hx4⟩, hC4⟩
              obtain ⟨wi1, wi2⟩ := write_in (S := S) (k := m) (b := b) HDN.out (by rw [HBL.out]; exact HM8.out) HL0.out HBL2.out
              rw [wi1]
              rw [wi2] at hD4
              have HX4 : Hid (∀ x, D4 x → w.heap.size ≤ x) := fun x hx => by
                rcases hx4 x hx with h | h
                · exact HX.out x h
                · exact Nat.le_trans HB.out.size h
              have HB4 : Hid (Below w.heap.size w w4) := HB.out.trans (hC4.to_below HB.out.size HX.out)
              have HG4 : Hid (Gw D4 w4 w1.heap.size S.bl) := HG.out.ch hC4 hx4
              have HD4 : Hid (Dsk 59 D4 w4 (.pointer (some ⟨sb, 0, none⟩)) (putS S m b)) := hD4
              clear hD4 hx4 hC4 wi1 wi2
              go_wp2_with fail
              refine (down_walk HD4.out).mono ?_
              rintro e w9 ⟨rfl, h9⟩
              have h9 := h9.symm
              subst h9
              rw [show (putS S m b).down = false from HDN.out]
              obtain ⟨ux, cx, _⟩ := HG4.out.at (i := m) (by rw [HBL.out]; exact HM8.out)
              have fx := HG4.out.soft m
              have HG5 : Hid (Gw D4 (w4.setCell ⟨w1.heap.size, m, none⟩ (.slice bo b.length bc)) w1.heap.size (S.bl.set m b)) := HG4.out.set (by rw [HBL.out]; exact HM8.out) ((HBW.out.bx.below HB4.out).mono (fun x hx => by
                rcases hx with h | h
                · exact HX4.out x h
                · rw [h]; exact HGW.out))
              have HD5 : Hid (Dsk 59 D4 (w4.setCell ⟨w1.heap.size, m, none⟩ (.slice bo b.length bc)) (.pointer (some ⟨sb, 0, none⟩)) (putS S m b)) := HD4.out.beside HG4.out.2
              have HB5 : Hid (Below w.heap.size w (w4.setCell ⟨w1.heap.size, m, none⟩ (.slice bo b.length bc))) := HB4.out.setCell (p := ⟨w1.heap.size, m, none⟩) HGW.out _
              go_wp2_with fail
              go_roundw
              case rel => exact ⟨k + 1, c + 1, hlt, by have := HKN.out; omega, by simp, by simp, D4, _, HD5.out, HX4.out, HG5.out, HGW.out, HB5.out, by simpa [putS] using HBL.out, pw_put HPW.out HDN.out HL0.out, HRD.out, by show S.wr + 1 = c + 1; rw [HWR.out], by have := HCK.out; omega⟩
              case measure => simp [intOf]; omega
      · have HDN : Hid (S.down = true) := hdn
        clear hdn
        go_wp2_with fail
        refine (write_walk HD.out m HBR.out (by have := HWR.out; have := HKN.out; have := HCK.out; omega)).mono ?_
        rintro e w4 ⟨rfl, ⟨D4, hD4, hx4⟩, hC4⟩
        obtain ⟨wi1, wi2⟩ := write_off (S := S) (i := m) (b := b) HDN.out
        rw [wi1]
        rw [wi2] at hD4
        have HX4 : Hid (∀ x, D4 x → w.heap.size ≤ x) := fun x hx => by
          rcases hx4 x hx with h | h
          · exact HX.out x h
          · exact Nat.le_trans HB.out.size h
        have HB4 : Hid (Below w.heap.size w w4) := HB.out.trans (hC4.to_below HB.out.size HX.out)
        have HG4 : Hid (Gw D4 w4 w1.heap.size S.bl) := HG.out.ch hC4 hx4
        have HD4 : Hid (Dsk 59 D4 w4 (.pointer (some ⟨sb, 0, none⟩)) S) := hD4
        clear hD4 hx4 hC4 wi1 wi2
        go_wp2_with fail
        refine (down_walk HD4.out).mono ?_
        rintro e w9 ⟨rfl, h9⟩
        have h9 := h9.symm
        subst h9
        rw [HDN.out]
        go_wp2_with fail
        go_roundw
        case rel => exact ⟨k + 1, c, hlt, by have := HKN.out; omega, by simp, rfl, D4, _, HD4.out, HX4.out, HG4.out, HGW.out, HB4.out, HBL.out, HPW.out, HRD.out, HWR.out, by have := HCK.out; omega⟩
        case measure => simp [intOf]; omega
    · obtain ⟨D, S, hD, hxD, hG, hgw, hB, hbl, hpw, hrd, hwr, hck⟩ := hL
      have HD : Hid (Dsk 59 D wr (.pointer (some ⟨sb, 0, none⟩)) S) := hD
      have HX : Hid (∀ x, D x → w.heap.size ≤ x) := hxD
      have HG : Hid (Gw D wr w1.heap.size S.bl) := hG
      have HB : Hid (Below w.heap.size w wr) := hB
      have HBL : Hid (S.bl.length = 8) := hbl
      have HRD : Hid (S.rd = 0) := hrd
      have HWR : Hid (S.wr = c) := hwr
      have HCK : Hid (c ≤ 4096) := by show _ ≤ _; omega
      have HGO : Hid (¬ (k < ps.length ∧ k < 4096)) := hgo
      have HK4 : Hid (k ≤ 4096) := hk4
      have hci : (c : Int) ≤ 4096 := by omega
      clear hD hxD hG hgw hB hbl hpw hrd hwr hck hk4 hgo
      go_upto_region 10 with fail
      go_cut [40] (fun cv wx => cv = .bool false ∧ wx = wr)
      case first =>
        by_cases hlt : k < ps.length
        · have h4 : (4096 : Int) ≤ (k : Int) := by have := HGO.out; omega
          have h4d : decide ((k : Int) < 4096) = false := decide_eq_false (by omega)
          go_wp2_with fail
          go_meet
          exact ⟨rfl, rfl⟩
        · have h4 : (ps.length : Int) ≤ (k : Int) := by omega
          go_wp2_with fail
          go_meet
          exact ⟨rfl, rfl⟩
      case rest =>
        obtain ⟨rfl, hwx⟩ := hcut
        subst hwx
        go_wp2_with fail
        refine (read_walk HD.out 0 (by rw [HRD.out]; omega)).mono ?_
        rintro e w4 ⟨r, rfl, ho4, hD4, hC4⟩
        obtain ⟨q, hq⟩ : ∃ q, q = refI S 0 := ⟨_, rfl⟩
        obtain ⟨dn, hdn⟩ : ∃ dn, dn = S.down := ⟨_, rfl⟩
        have hqd : (q == 80) = dn := by rw [hq, hdn]; exact ref_zero (by rw [HBL.out]; omega)
        obtain ⟨g1, g2, g3, g4⟩ := read_same S 0
        rw [← hq]
        have HD4 : Hid (Dsk 59 D w4 (.pointer (some ⟨sb, 0, none⟩)) (readS S 0)) := hD4
        have HG4 : Hid (Gw D w4 w1.heap.size S.bl) := HG.out.ch hC4 (fun _ hx => .inl hx)
        have HB4 : Hid (Below w.heap.size w w4) := HB.out.trans (hC4.to_below HB.out.size HX.out)
        have HDN : Hid (S.down = dn) := hdn.symm
        have H1 : Hid ((readS S 0).bl = S.bl) := g1
        have H2 : Hid ((readS S 0).down = S.down) := g2
        have H3 : Hid ((readS S 0).wr = S.wr) := g3
        have H4 : Hid ((readS S 0).rd ≤ S.rd + 1) := g4
        obtain ⟨ro, rc, hro, _, _⟩ := row_form ho4
        subst hro
        clear hq hdn g1 g2 g3 g4 ho4 hD4 hC4
        go_wp2_with fail
        refine (down_walk HD4.out).mono ?_
        rintro e w9 ⟨rfl, h9⟩
        have h9 := h9.symm
        subst h9
        rw [H2.out, HDN.out]
        go_wp2_with fail
        refine (writes_walk HD4.out).mono ?_
        rintro e w9 ⟨rfl, h9⟩
        have h9 := h9.symm
        subst h9
        rw [H3.out, HWR.out]
        go_wp2_with fail
        refine (image_walk HD4.out).mono ?_
        rintro e w5 ⟨g, cap, rfl, hG5, _, hB5⟩
        rw [H1.out] at hG5 ⊢
        have HP1 : Hid (Pv w5 (.slice (some ⟨g, 0, none⟩) S.bl.length cap) S.bl) := hG5.pv HD.out.good.byt
        have HG5 : Hid (Gw D w5 w1.heap.size S.bl) := HG4.out.below hB5
        have HP2 : Hid (Pv w5 (.slice (some ⟨w1.heap.size, 0, none⟩) 8 8) S.bl) := by
          have := HG5.out.pv (cap := 8) (by rw [HBL.out]; exact Nat.le_refl _) (by simp [maxLen])
          rw [HBL.out] at this; exact this
        have HB5 : Hid (Below w.heap.size w w5) := below_trans HB4.out hB5
        have HD5 : Hid (Dsk 59 D w5 (.pointer (some ⟨sb, 0, none⟩)) (readS S 0)) := HD4.out.below hB5
        clear hG5 hB5
        go_wp2_with fail
        refine (images_walk HP1.out HP2.out).mono ?_
        rintro e w6 ⟨rfl, hB6⟩
        rw [decide_eq_true rfl]
        have HB6 : Hid (Below w.heap.size w w6) := below_trans HB5.out hB6
        have HG6 : Hid (Gw D w6 w1.heap.size S.bl) := HG5.out.below hB6
        have HD6 : Hid (Dsk 59 D w6 (.pointer (some ⟨sb, 0, none⟩)) (readS S 0)) := HD5.out.below hB6
        clear hB6
        go_wp2_with fail
        refine (on_walk HD6.out).mono ?_
        rintro e w7 ⟨rfl, hD7, hC7⟩
        obtain ⟨bl, hbl⟩ : ∃ bl, bl = S.bl := ⟨_, rfl⟩
        have HBB : Hid (bl.length = 8 ∧ ∀ b ∈ bl, ∀ c ∈ b, c < 256) := by rw [hbl]; exact ⟨HBL.out, HD.out.good.byt⟩
        have HOS : Hid (Oz w (.pointer (some ⟨sb, 0, none⟩)) bl w1.heap.size 0 w7) := by
          rw [hbl]
          exact ⟨D, _, hD7, HX.out, HG6.out.ch hC7 (fun _ hx => .inl hx), HGW.out, HB6.out.trans (hC7.to_below HB6.out.size HX.out), H1.out, rfl, rfl, by show (readS S 0).rd ≤ _; have := H4.out; have := HRD.out; omega, by show (readS S 0).wr ≤ _; rw [H3.out, HWR.out]; exact HCK.out⟩
        clear hD7 hC7 hbl
        clear HD HG HBL HRD HWR HCK HD4 HG4 HDN H1 H2 H3 H4 HP1 HP2 HG5 HD5 HG6 HD6 HX
        go_wp2_with fail
        go_loopw [14] (fun iv wy => OsRel w (.pointer (some ⟨sb, 0, none⟩)) bl w1.heap.size iv wy) (fun iv _ => 8 - (intOf iv).toNat)
        case atStart => exact ⟨0, Nat.zero_le _, rfl, HOS.out⟩
        case round =>
          obtain ⟨i, hi8, rfl, hL⟩ := hrel
          obtain ⟨D, S, hD, hxD, hG, hgw, hB, hbl, hdn, hlf, hrd, hwr⟩ := hL
          have HD : Hid (Dsk 59 D wr (.pointer (some ⟨sb, 0, none⟩)) S) := hD
          have HX : Hid (∀ x, D x → w.heap.size ≤ x) := hxD
          have HG : Hid (Gw D wr w1.heap.size bl) := hG
          have HB : Hid (Below w.heap.size w wr) := hB
          have HBL : Hid (S.bl = bl) := hbl
          have HDN : Hid (S.down = false) := hdn
          have HLF : Hid (S.left = -1) := hlf
          have HRD : Hid (S.rd ≤ i + 1) := hrd
          have HWR : Hid (S.wr ≤ 4096) := hwr
          clear hD hxD hG hgw hB hbl hdn hlf hrd hwr
          by_cases hi : i < 8
          · have hii : (i : Int) < 8 := by omega
            have HI8 : Hid (i < 8) := hi
            go_wp2_with fail
            refine (read_walk HD.out i (by have := HRD.out; omega)).mono ?_
            rintro e w8 ⟨r, rfl, ho8, hD8, hC8⟩
            obtain ⟨ri1, ri2, ri3⟩ := read_in (S := S) (k := i) HDN.out (by rw [HBL.out, HBB.out.1]; exact HI8.out)
            rw [ri1]
            rw [ri2, HBL.out] at ho8
            rw [ri3] at hD8
            have HB8 : Hid (Below w.heap.size w w8) := HB.out.trans (hC8.to_below HB.out.size HX.out)
            have HG8 : Hid (Gw D w8 w1.heap.size bl) := HG.out.ch hC8 (fun _ hx => .inl hx)
            have HOS2 : Hid (Oz w (.pointer (some ⟨sb, 0, none⟩)) bl w1.heap.size (i + 1) w8) := ⟨D, _, hD8, HX.out, HG8.out, HGW.out, HB8.out, HBL.out, HDN.out, HLF.out, by show S.rd + 1 ≤ _; have := HRD.out; omega, HWR.out⟩
            obtain ⟨x, cx, bx⟩ := HG8.out.at (i := i) (by rw [HBB.out.1]; exact HI8.out)
            have ob := own_bv ho8 (HBB.out.2 _ (bk_mem (by rw [HBB.out.1]; exact HI8.out)))
            obtain ⟨p, hp⟩ : ∃ p, p = bk bl i := ⟨_, rfl⟩
            rw [← hp] at ob bx ho8
            obtain ⟨ro2, rc2, hro2, _, _⟩ := row_form ho8
            subst hro2
            obtain ⟨xo, xc, rfl, _, _⟩ := bv_form bx
            have j1 : ∀ wx, Below w8.heap.size w8 wx → wx.cell? ⟨w1.heap.size, i, none⟩ = some (.slice xo p.length xc) := fun wx h => by
              rw [h.cell (p := ⟨w1.heap.size, i, none⟩) (cell_lt cx)]; exact cx
            have s1 : ∀ wx, Below w8.heap.size w8 wx → (convert 36 9 (.slice ro2 p.length rc2)).run Try.prog wx = .ok (.string (str p)) wx := fun wx h => str_of (ob.below h)
            have s2 : ∀ wx, Below w8.heap.size w8 wx → (convert 36 9 (.slice xo p.length xc)).run Try.prog wx = .ok (.string (str p)) wx := fun wx h => str_of (bx.below h)
            have hSd : Below w8.heap.size w8 w8.drew := (Below.refl _ _).drew
            clear ri1 ri2 ri3 ho8 hD8 hC8 ob bx cx hp
            go_wp2_with fail
            go_region_held3 (fun wx => Below w8.heap.size w8 wx) (first | assumption) (fail)
            all_goals go_wp2_with fail
            all_goals go_roundw
            case rel =>
              refine ⟨i + 1, HI8.out, by simp, ?_⟩
              obtain ⟨D9, S9, a1, a2, a3, a4, a5, a6⟩ := HOS2.out
              exact ⟨D9, S9, a1.below (below_drewN _ _), a2, a3.below (below_drewN _ _), a4, below_trans a5 (below_drewN _ _), a6⟩
            case measure => simp [intOf]; omega
          · have hii : (8 : Int) ≤ (i : Int) := by omega
            have HI8 : Hid (i ≤ 8) := hi8
            go_wp2_with fail
            refine (write_walk (HD.out.below (below_alloc _ _)) 0 (lit_on wr) (by have := HWR.out; omega)).mono ?_
            rintro e w8 ⟨rfl, ⟨D8, hD8, hx8⟩, hC8⟩
            obtain ⟨wi1, wi2⟩ := write_in (S := S) (k := 0) (b := [111, 110]) HDN.out (by rw [HBL.out, HBB.out.1]; omega) (by rw [HLF.out]; decide) (by simp)
            have wi1' : writeI S 0 [111, 110] = 0 := wi1
            have wi2' : writeS S 0 [111, 110] = putS S 0 [111, 110] := wi2
            rw [wi1']
            rw [wi2'] at hD8
            have HB8 : Hid (Below w.heap.size w w8) := (below_trans HB.out (below_alloc _ _)).trans (hC8.to_below (by have := HB.out.size; simp; omega) HX.out)
            have HD8 : Hid (Dsk 59 D8 w8 (.pointer (some ⟨sb, 0, none⟩)) (putS S 0 [111, 110])) := hD8
            clear hD8 hx8 hC8 wi1 wi2 wi1' wi2'
            go_wp2_with fail
            refine (down_walk HD8.out).mono ?_
            rintro e w9 ⟨rfl, h9⟩
            have h9 := h9.symm
            subst h9
            rw [show (putS S 0 [111, 110]).down = false from HDN.out]
            go_wp2_with fail
            go_ret
            exact ⟨rfl, HB8.out⟩
end Go.Proofs.Ytninkhijnicbjaa
