/- DiskLoads' walk. -/
import Derived.Test.YtninkhijnicbjaaDi
namespace Go.Proofs.Ytninkhijnicbjaa
open Go.RowKit

theorem write_keeps {S : Dk} (i : Int) (b : List Nat) : (writeS S i b).bl.length = S.bl.length ∧ (writeS S i b).rd = S.rd ∧ (writeS S i b).wr ≤ S.wr + 1 := by
  unfold writeS
  split
  · exact ⟨rfl, rfl, by omega⟩
  · split
    · exact ⟨rfl, rfl, by omega⟩
    · split
      · exact ⟨rfl, rfl, by show S.wr ≤ _; omega⟩
      · exact ⟨by simp [putS], rfl, Nat.le_refl _⟩
/-- Between two writes. -/
def Lx (w : World) (dv : Value) (n k : Nat) (wr : World) : Prop :=
  ∃ (D : Nat → Prop) (S : Dk), Dsk 59 D wr dv S ∧ (∀ x, D x → w.heap.size ≤ x) ∧ Below w.heap.size w wr ∧ S.bl.length = n ∧ S.rd = 0 ∧ S.wr ≤ k
def LxRel (w : World) (dv : Value) (n N : Nat) (iv : Value) (wr : World) : Prop := ∃ k : Nat, k ≤ N ∧ k ≤ 4096 ∧ iv = .int .i64 k ∧ Lx w dv n k wr
/-- Both disks, reading. -/
def Ly (w : World) (dv cv : Value) (bl : List (List Nat)) (k : Nat) (wr : World) : Prop :=
  ∃ (D C : Nat → Prop) (S Q : Dk), Dsk 59 D wr dv S ∧ Dsk 59 C wr cv Q ∧ (∀ x, D x → w.heap.size ≤ x) ∧ (∀ x, C x → w.heap.size ≤ x) ∧ (∀ x, C x → ¬ D x) ∧ Below w.heap.size w wr ∧ S.bl = bl ∧ Q.bl = bl ∧ S.down = false ∧ Q.down = false ∧ S.rd ≤ k ∧ Q.rd ≤ k
def LyRel (w : World) (dv cv : Value) (bl : List (List Nat)) (iv : Value) (wr : World) : Prop := ∃ k : Nat, k ≤ bl.length ∧ iv = .int .i64 k ∧ Ly w dv cv bl k wr

set_option maxRecDepth 100000 in
set_option maxHeartbeats 4000000 in
theorem loads_bad {w : World} {iv pv : Value} {ls : List (List Nat)} {ps : List (Int × List Nat)} (hi : Pv w iv ls) (hp : Tv w pv ps) (hb : (ls.length < 1 ∨ 64 < ls.length) ∨ (1 ≤ ls.length ∧ ls.length ≤ 64 ∧ longB ls = true)) :
    Calls Try.prog 5 #[iv, pv] w fun e w' => e = .returned (.bool true) ∧ Below w.heap.size w w' := by
  have HI : Hid (Pv w iv ls) := hi
  have HLB : Hid ((ls.length < 1 ∨ 64 < ls.length) ∨ (1 ≤ ls.length ∧ ls.length ≤ 64 ∧ longB ls = true)) := hb
  obtain ⟨po, pc, rfl, hp1, hp2⟩ := hp.form
  clear hi hp hb hp1 hp2
  go_enter Try.func5, Try.ntmps5
  go_wp2_with fail
  refine (awake_walk w).mono ?_
  rintro e w0 ⟨rfl, hB0⟩
  have HB0 : Hid (Below w.heap.size w w0) := hB0
  clear hB0
  go_wp2_with fail
  have hld : Calls Try.prog 11 #[iv] w0 fun e w' => ∃ c : Int, (c = 1 ∨ c = 6) ∧ e = .returned (.tuple #[.pointer none, .int .i64 c]) ∧ w' = w0 := by
    rcases HLB.out with h | ⟨h1, h2, h3⟩
    · refine (load_bad (HI.out.below HB0.out) h).mono ?_
      rintro e w' ⟨rfl, rfl⟩
      exact ⟨1, .inl rfl, rfl, rfl⟩
    · refine (load_walk (HI.out.below HB0.out) h1 h2).mono ?_
      intro e w' h
      unfold Ld at h
      rw [if_pos h3] at h
      obtain ⟨rfl, rfl⟩ := h
      exact ⟨6, .inr rfl, rfl, rfl⟩
  refine hld.mono ?_
  rintro e w9 ⟨c, hc, rfl, h9⟩
  have h9 := h9.symm
  subst h9
  clear hld
  rcases hc with rfl | rfl
  · go_wp2_with fail
    go_ret
    exact ⟨rfl, HB0.out⟩
  · go_wp2_with fail
    go_ret
    exact ⟨rfl, HB0.out⟩

set_option maxRecDepth 100000 in
set_option maxHeartbeats 8000000 in
theorem loads_walk {w : World} {iv pv : Value} {ls : List (List Nat)} {ps : List (Int × List Nat)} (hi : Pv w iv ls) (hp : Tv w pv ps) (h1 : 1 ≤ ls.length) (h64 : ls.length ≤ 64) (hlg : longB ls = false) :
    Calls Try.prog 5 #[iv, pv] w fun e w' => e = .returned (.bool true) ∧ Below w.heap.size w w' := by
  have HI : Hid (Pv w iv ls) := hi
  have HPV : Hid (Tv w pv ps) := hp
  obtain ⟨po, pc, rfl, hp1, hp2⟩ := hp.form
  obtain ⟨io, ic, rfl, _, _⟩ := hi.form
  have H1 : Hid (1 ≤ ls.length) := h1
  have H64 : Hid (ls.length ≤ 64) := h64
  have HLG : Hid (longB ls = false) := hlg
  have hpl : (ps.length : Int) ≤ 9223372036854775807 := by simp only [maxLen] at hp2; omega
  have hli : (ls.length : Int) ≤ 64 := by omega
  clear hi hp hp1 hp2 h1 h64 hlg
  go_enter Try.func5, Try.ntmps5
  go_wp2_with fail
  refine (awake_walk w).mono ?_
  rintro e w0 ⟨rfl, hB0⟩
  have HB0 : Hid (Below w.heap.size w w0) := hB0
  clear hB0
  go_wp2_with fail
  refine (load_walk (HI.out.below HB0.out) H1.out H64.out).mono ?_
  intro e w1 hld
  unfold Ld at hld
  rw [if_neg (by rw [HLG.out]; decide)] at hld
  obtain ⟨v, D1, rfl, hD1, hB1, hx1⟩ := hld
  obtain ⟨sb, hv⟩ : ∃ sb, v = .pointer (some ⟨sb, 0, none⟩) := by obtain ⟨sb, _, _, e, _⟩ := hD1; exact ⟨sb, e⟩
  subst hv
  have HD1 : Hid (Dsk 59 D1 w1 (.pointer (some ⟨sb, 0, none⟩)) (loadS ls)) := hD1
  have HX1 : Hid (∀ x, D1 x → w.heap.size ≤ x) := fun x hx => Nat.le_trans HB0.out.size (hx1 x hx)
  have HB1 : Hid (Below w.heap.size w w1) := below_trans HB0.out hB1
  clear hD1 hB1 hx1
  go_wp2_with fail
  refine (image_walk HD1.out).mono ?_
  rintro e w2 ⟨g, cap, rfl, hG2, _, hB2⟩
  have HP1 : Hid (Pv w2 (.slice (some ⟨g, 0, none⟩) ls.length cap) ls) := hG2.pv HD1.out.good.byt
  have HB2 : Hid (Below w.heap.size w w2) := below_trans HB1.out hB2
  have HD2 : Hid (Dsk 59 D1 w2 (.pointer (some ⟨sb, 0, none⟩)) (loadS ls)) := HD1.out.below hB2
  clear hG2 hB2
  rw [show (loadS ls).bl.length = ls.length from rfl]
  go_wp2_with fail
  refine (images_walk HP1.out (HI.out.below HB2.out)).mono ?_
  rintro e w3 ⟨rfl, hB3⟩
  rw [decide_eq_true rfl]
  have HB3 : Hid (Below w.heap.size w w3) := below_trans HB2.out hB3
  have HD3 : Hid (Dsk 59 D1 w3 (.pointer (some ⟨sb, 0, none⟩)) (loadS ls)) := HD2.out.below hB3
  clear hB3
  go_wp2_with fail
  refine (blocks_walk HD3.out).mono ?_
  rintro e w9 ⟨rfl, h9⟩
  have h9 := h9.symm
  subst h9
  rw [show (loadS ls).bl.length = ls.length from rfl]
  go_wp2_with fail
  refine (down_walk HD3.out).mono ?_
  rintro e w9 ⟨rfl, h9⟩
  have h9 := h9.symm
  subst h9
  rw [show (loadS ls).down = false from rfl]
  have HL0 : Hid (Lx w (.pointer (some ⟨sb, 0, none⟩)) ls.length 0 w3) := ⟨D1, _, HD3.out, HX1.out, HB3.out, rfl, rfl, Nat.zero_le _⟩
  clear HD1 HX1 HB1 HP1 HB2 HD2 HB3 HD3
  go_wp2_with fail
  go_loopw [7] (fun iv wr => LxRel w (.pointer (some ⟨sb, 0, none⟩)) ls.length ps.length iv wr) (fun iv _ => ps.length - (intOf iv).toNat)
  case atStart => exact ⟨0, Nat.zero_le _, Nat.zero_le _, rfl, HL0.out⟩
  case round =>
    obtain ⟨k, hk, hk4, rfl, hL⟩ := hrel
    obtain ⟨D, S, hD, hxD, hB, hbl, hrd, hwr⟩ := hL
    have HD : Hid (Dsk 59 D wr (.pointer (some ⟨sb, 0, none⟩)) S) := hD
    have HX : Hid (∀ x, D x → w.heap.size ≤ x) := hxD
    have HB : Hid (Below w.heap.size w wr) := hB
    have HBL : Hid (S.bl.length = ls.length) := hbl
    have HRD : Hid (S.rd = 0) := hrd
    have HWR : Hid (S.wr ≤ k) := hwr
    have HK4 : Hid (k ≤ 4096) := hk4
    clear hD hxD hbl hrd hwr hk4
    by_cases hgo : k < ps.length ∧ k < 4096
    · obtain ⟨hlt, h4096⟩ := hgo
      obtain ⟨⟨ao, cap, e0, q1, q2, q3, q4⟩, q5⟩ := HPV.out
      simp only [Value.slice.injEq] at e0
      obtain ⟨b0, off0, u, e1, c0, c1, hbv⟩ := q4 k hlt
      obtain ⟨I, hI⟩ : ∃ I, I = ps[k].1 := ⟨_, rfl⟩
      obtain ⟨l, hl⟩ : ∃ l, l = ps[k].2 := ⟨_, rfl⟩
      rw [← hI] at c0
      rw [← hl] at hbv
      have e2 : po = some ⟨b0, off0, none⟩ := e0.1.trans e1
      clear e0 q1 q2 q3 q4 q5 e1 hI hl
      subst e2
      have j0 : ∀ wx, Below w.heap.size w wx → wx.cell? ⟨b0, off0 + k * 2, none⟩ = some (.int .i64 I) := fun wx h => by rw [h.cell (p := ⟨b0, off0 + k * 2, none⟩) (cell_lt c0)]; exact c0
      have j1 : ∀ wx, Below w.heap.size w wx → wx.cell? ⟨b0, off0 + k * 2 + 1, none⟩ = some u := fun wx h => by rw [h.cell (p := ⟨b0, off0 + k * 2 + 1, none⟩) (cell_lt c1)]; exact c1
      have HLW : Hid (Bv w u l) := hbv
      obtain ⟨lo, lc, rfl, _, _⟩ := bv_form hbv
      have hSd : Below w.heap.size w wr.drew := below_trans hB (below_drewN _ _)
      have HKN : Hid (k < 4096) := h4096
      have hki : (k : Int) < 4096 := by omega
      clear c0 c1 hbv hB h4096
      go_wp2_with fail
      go_region_held3 (fun wx => Below w.heap.size w wx) (first | assumption)
        (first
          | (go_at_call 18; refine (laid_walk (HLW.out.below (by assumption))).mono ?_; rintro e w9 ⟨bo, bc, rfl, hbb, h9⟩; have h9 := h9.symm; subst h9; obtain ⟨b, hb⟩ : ∃ b, b = l.take 1024 := ⟨_, rfl⟩; rw [← hb] at hbb ⊢; have HBW : Hid (Bv w (.slice bo b.length bc) b) := hbb w HLW.out; clear hbb hb)
          | (go_at_call 20; refine (write_walk (HD.out.below (below_drewN _ _)) I (HBW.out.below (by assumption)) (by have := HWR.out; have := HKN.out; omega)).mono ?_; rintro e w4 ⟨rfl, ⟨D4, hD4, hx4⟩, hC4⟩; have hS4 : Below w.heap.size w w4 := (by assumption : Below w.heap.size w wr.drew).trans (hC4.to_below (Below.size (by assumption)) HX.out)))
      all_goals go_wp2_with fail
      all_goals go_roundw
      case rel =>
        obtain ⟨q1, q2, q3⟩ := write_keeps (S := S) I b
        refine ⟨k + 1, hlt, HKN.out, by simp, D4, _, hD4, fun x hx => ?_, hS4, by rw [q1]; exact HBL.out, by rw [q2]; exact HRD.out, Nat.le_trans q3 (by have := HWR.out; omega)⟩
        rcases hx4 x hx with h | h
        · exact HX.out x h
        · exact Nat.le_trans HB.out.size h
      case measure => simp [intOf]; omega
    · have HGO : Hid (¬ (k < ps.length ∧ k < 4096)) := hgo
      clear hgo hB
      go_upto_region 9 with fail
      go_cut [60] (fun cv wx => cv = .bool false ∧ wx = wr)
      case first =>
        by_cases hlt : k < ps.length
        · have h4 : (4096 : Int) ≤ (k : Int) := by have := HGO.out; omega
          have h4d : decide ((k : Int) < 4096) = false := decide_eq_false (by omega)
          go_wp2_with fail
          go_meet
          exact ⟨rfl, rfl⟩
        · have h4 : (ps.length : Int) ≤ (k : Int) := by omega
          go_wp2_with fail
          go_meet
          exact ⟨rfl, rfl⟩
      case rest =>
        obtain ⟨rfl, hwx⟩ := hcut
        subst hwx
        go_wp2_with fail
        refine (off_walk HD.out).mono ?_
        rintro e w4 ⟨rfl, hD4, hC4⟩
        have HD4 : Hid (Dsk 59 D w4 (.pointer (some ⟨sb, 0, none⟩)) (offS S)) := hD4
        have HB4 : Hid (Below w.heap.size w w4) := HB.out.trans (hC4.to_below HB.out.size HX.out)
        have HOK : Hid S.ok := HD.out.good
        clear hD4 hC4
        go_wp2_with fail
        refine (image_walk HD4.out).mono ?_
        rintro e w5 ⟨g5, cap5, rfl, hG5, _, hB5⟩
        have HP5 : Hid (Pv w5 (.slice (some ⟨g5, 0, none⟩) (offS S).bl.length cap5) (offS S).bl) := hG5.pv HD4.out.good.byt
        have HB5 : Hid (Below w.heap.size w w5) := below_trans HB4.out hB5
        have HD5 : Hid (Dsk 59 D w5 (.pointer (some ⟨sb, 0, none⟩)) (offS S)) := HD4.out.below hB5
        clear hG5 hB5
        obtain ⟨N, hN⟩ : ∃ N, N = (offS S).bl.length := ⟨_, rfl⟩
        have HN : Hid (N = (offS S).bl.length) := hN
        rw [← hN]
        clear hN
        go_wp2_with fail
        rw [HN.out]
        refine (load_walk HP5.out HOK.out.n1 HOK.out.n64).mono ?_
        intro e w6 hld
        unfold Ld at hld
        rw [if_neg (fun h => by
          obtain ⟨x, hx, h2⟩ := List.any_eq_true.1 h
          have := HOK.out.len x hx
          simp at h2; omega)] at hld
        obtain ⟨v, C6, rfl, hC6, hB6, hx6⟩ := hld
        obtain ⟨cb, hv⟩ : ∃ cb, v = .pointer (some ⟨cb, 0, none⟩) := by obtain ⟨sb, _, _, e, _⟩ := hC6; exact ⟨sb, e⟩
        subst hv
        have HC6 : Hid (Dsk 59 C6 w6 (.pointer (some ⟨cb, 0, none⟩)) (loadS S.bl)) := hC6
        have HD6 : Hid (Dsk 59 D w6 (.pointer (some ⟨sb, 0, none⟩)) (offS S)) := HD5.out.below hB6
        have HB6 : Hid (Below w.heap.size w w6) := below_trans HB5.out hB6
        have HX6 : Hid (∀ x, C6 x → w.heap.size ≤ x) := fun x hx => Nat.le_trans HB5.out.size (hx6 x hx)
        have HA6 : Hid (∀ x, C6 x → ¬ D x) := fun x hx e => by have h1 := hx6 x hx; have h2 := HD5.out.lt e; omega
        clear hC6 hB6 hx6
        rw [← HN.out]
        go_wp2_with fail
        refine (down_walk HC6.out).mono ?_
        rintro e w9 ⟨rfl, h9⟩
        have h9 := h9.symm
        subst h9
        rw [show (loadS S.bl).down = false from rfl]
        go_wp2_with fail
        refine (writes_walk HC6.out).mono ?_
        rintro e w9 ⟨rfl, h9⟩
        have h9 := h9.symm
        subst h9
        rw [show (((loadS S.bl).wr : Nat) : Int) = 0 from rfl]
        go_wp2_with fail
        refine (reads_walk HC6.out).mono ?_
        rintro e w9 ⟨rfl, h9⟩
        have h9 := h9.symm
        subst h9
        rw [show (((loadS S.bl).rd : Nat) : Int) = 0 from rfl]
        go_wp2_with fail
        refine (on_walk HD6.out).mono ?_
        rintro e w7 ⟨rfl, hD7, hC7⟩
        obtain ⟨bl, hbl⟩ : ∃ bl, bl = S.bl := ⟨_, rfl⟩
        have HBB : Hid (bl.length ≤ 64 ∧ ∀ b ∈ bl, ∀ c ∈ b, c < 256) := by rw [hbl]; exact ⟨HOK.out.n64, HOK.out.byt⟩
        have HLY : Hid (Ly w (.pointer (some ⟨sb, 0, none⟩)) (.pointer (some ⟨cb, 0, none⟩)) bl 0 w7) := by
          rw [hbl]
          exact ⟨D, C6, _, _, hD7, HC6.out.ch hC7 HA6.out, HX.out, HX6.out, HA6.out, HB6.out.trans (hC7.to_below HB6.out.size HX.out), rfl, rfl, rfl, rfl, by show S.rd ≤ 0; rw [HRD.out]; exact Nat.le_refl _, Nat.le_refl _⟩
        clear hD7 hC7 hbl
        clear HD HX HB HBL HRD HWR HK4 HGO HD4 HB4 HP5 HB5 HD5 HC6 HD6 HB6 HX6 HA6
        go_wp2_with fail
        go_loopw [9] (fun iv wy => LyRel w (.pointer (some ⟨sb, 0, none⟩)) (.pointer (some ⟨cb, 0, none⟩)) bl iv wy) (fun iv _ => bl.length - (intOf iv).toNat)
        case atStart => exact ⟨0, Nat.zero_le _, rfl, HLY.out⟩
        case round =>
          obtain ⟨i, hin, rfl, hL⟩ := hrel
          obtain ⟨D, C, S, Q, hD, hC, hxD, hxC, hap, hB, hbl, hql, hdn, hqn, hrd, hqd⟩ := hL
          have HD : Hid (Dsk 59 D wr (.pointer (some ⟨sb, 0, none⟩)) S) := hD
          have HC : Hid (Dsk 59 C wr (.pointer (some ⟨cb, 0, none⟩)) Q) := hC
          have HX : Hid (∀ x, D x → w.heap.size ≤ x) := hxD
          have HY : Hid (∀ x, C x → w.heap.size ≤ x) := hxC
          have HA : Hid (∀ x, C x → ¬ D x) := hap
          have HB : Hid (Below w.heap.size w wr) := hB
          have HBL : Hid (S.bl = bl) := hbl
          have HQL : Hid (Q.bl = bl) := hql
          have HDN : Hid (S.down = false) := hdn
          have HQN : Hid (Q.down = false) := hqn
          have HRD : Hid (S.rd ≤ i) := hrd
          have HQD : Hid (Q.rd ≤ i) := hqd
          have hbli : (bl.length : Int) ≤ 64 := by have := HBB.out.1; omega
          clear hD hC hxD hxC hap hB hbl hql hdn hqn hrd hqd
          go_wp2_with fail
          refine (blocks_walk HD.out).mono ?_
          rintro e w9 ⟨rfl, h9⟩
          have h9 := h9.symm
          subst h9
          rw [HBL.out]
          by_cases hi : i < bl.length
          · have hii : (i : Int) < (bl.length : Int) := by omega
            have HIN : Hid (i < bl.length) := hi
            go_wp2_with fail
            refine (read_walk HC.out i (by have := HQD.out; have := HIN.out; have := HBB.out.1; omega)).mono ?_
            rintro e w8 ⟨r, rfl, ho8, hC8, hH8⟩
            obtain ⟨ri1, ri2, ri3⟩ := read_in (S := Q) (k := i) HQN.out (by rw [HQL.out]; exact HIN.out)
            rw [ri1]
            rw [ri2, HQL.out] at ho8
            rw [ri3] at hC8
            have HB8 : Hid (Below w.heap.size w w8) := HB.out.trans (hH8.to_below HB.out.size HY.out)
            have HD8 : Hid (Dsk 59 D w8 (.pointer (some ⟨sb, 0, none⟩)) S) := HD.out.ch hH8 (fun x hx e => HA.out x e hx)
            have HC8 : Hid (Dsk 59 C w8 (.pointer (some ⟨cb, 0, none⟩)) { Q with rd := Q.rd + 1 }) := hC8
            have HR8 : Hid (Bx D w8 r (bk bl i)) := own_bx ho8 (HBB.out.2 _ (bk_mem HIN.out)) (fun x hx => HD.out.lt hx)
            obtain ⟨p, hp⟩ : ∃ p, p = bk bl i := ⟨_, rfl⟩
            rw [← hp] at ho8 HR8
            have HP : Hid (p = bk bl i) := hp
            obtain ⟨ro, rc, hro, _, _⟩ := row_form ho8
            subst hro
            clear ri1 ri2 ri3 ho8 hC8 hH8 hp
            go_wp2_with fail
            refine (read_walk HD8.out i (by have := HRD.out; have := HIN.out; have := HBB.out.1; omega)).mono ?_
            rintro e w10 ⟨r2, rfl, ho10, hD10, hH10⟩
            obtain ⟨ri1, ri2, ri3⟩ := read_in (S := S) (k := i) HDN.out (by rw [HBL.out]; exact HIN.out)
            rw [ri1]
            rw [ri2, HBL.out, ← HP.out] at ho10
            rw [ri3] at hD10
            have HB10 : Hid (Below w.heap.size w w10) := HB8.out.trans (hH10.to_below HB8.out.size HX.out)
            have s1 := str_of (HR8.out.ch hH10 (fun _ hx => .inl hx)).1
            have s2 := str_of (own_bv ho10 (by rw [HP.out]; exact HBB.out.2 _ (bk_mem HIN.out)))
            obtain ⟨so, sc, hso, _, _⟩ := row_form ho10
            subst hso
            have HLY2 : Hid (Ly w (.pointer (some ⟨sb, 0, none⟩)) (.pointer (some ⟨cb, 0, none⟩)) bl (i + 1) w10) :=
              ⟨D, C, _, _, hD10, HC8.out.ch hH10 HA.out, HX.out, HY.out, HA.out, HB10.out, HBL.out, HQL.out, HDN.out, HQN.out, by show S.rd + 1 ≤ i + 1; have := HRD.out; omega, by show Q.rd + 1 ≤ i + 1; have := HQD.out; omega⟩
            clear ri1 ri2 ri3 ho10 hD10 hH10
            go_wp2_with fail
            go_roundw
            case rel => exact ⟨i + 1, HIN.out, by simp, HLY2.out⟩
            case measure => simp [intOf]; omega
          · have hii : (bl.length : Int) ≤ (i : Int) := by omega
            go_wp2_with fail
            go_ret
            exact ⟨rfl, HB.out⟩
end Go.Proofs.Ytninkhijnicbjaa
