/- Contract of the reference's one: a cell, and the bytes behind it. -/
import Derived.Test.YtjcmmhonidamoaaCe
namespace Go.Proofs.Ytjcmmhonidamoaa
open Go.RowKit

/-- What the reference's one leaves. -/
def OneGot (r : Nat × Cl × List Nat) (v : Value) (w : World) (e : Ending) (w' : World) : Prop :=
  ∃ u, e = .returned (.tuple #[.agg #[.int .u64 r.2.1.k, .bool r.2.1.p.h, .int .u64 r.2.1.p.b, .bool r.2.1.c.h, .int .u64 r.2.1.c.b, .int .i64 r.2.1.n], u, .int .i64 (r.1 : Nat)]) ∧ Bv w' u r.2.2 ∧ Sb u v ∧ Below w.heap.size w w'
theorem onegot_bad {r : Nat × Cl × List Nat} {w w' : World} {e : Nat} {x : Int} (h : r = (e, zeroC, [])) (hx : x = e) {v : Value} (hb : Below w.heap.size w w') : OneGot r v w (.returned (.tuple #[.agg #[.int .u64 0, .bool false, .int .u64 0, .bool false, .int .u64 0, .int .i64 0], .slice none 0 0, .int .i64 x])) w' := by
  subst hx h
  exact ⟨_, rfl, Bv.nil _, sb_nil _, hb⟩
theorem below_six {w wx : World} {R : Nat} (h : Below w.heap.size w wx) (hR : w.heap.size ≤ R) (u0 u1 u2 u3 u4 u5 : Value) :
    Below w.heap.size w ((((((wx.setCell ⟨R, 0, none⟩ u0).setCell ⟨R, 1, none⟩ u1).setCell ⟨R, 2, none⟩ u2).setCell ⟨R, 3, none⟩ u3).setCell ⟨R, 4, none⟩ u4).setCell ⟨R, 5, none⟩ u5) :=
  (((((h.setCell (p := ⟨R, 0, none⟩) hR u0).setCell (p := ⟨R, 1, none⟩) hR u1).setCell (p := ⟨R, 2, none⟩) hR u2).setCell (p := ⟨R, 3, none⟩) hR u3).setCell (p := ⟨R, 4, none⟩) hR u4).setCell (p := ⟨R, 5, none⟩) hR u5
theorem bv_six {w : World} {b : Nat} {v : Value} {l : List Nat} {c : Cl} (hC : CB w b c) (h : Bv w v l) (d : Cl) :
    Bv ((((((w.setCell ⟨b, 0, none⟩ (.int .u64 d.k)).setCell ⟨b, 1, none⟩ (.bool d.p.h)).setCell ⟨b, 2, none⟩ (.int .u64 d.p.b)).setCell ⟨b, 3, none⟩ (.bool d.c.h)).setCell ⟨b, 4, none⟩ (.int .u64 d.c.b)).setCell ⟨b, 5, none⟩ (.int .i64 d.n)) v l := by
  obtain ⟨c0, c1, c2, c3, c4, c5, _⟩ := hC
  refine (((((h.set c0 (by simp) _).set (p := ⟨b, 1, none⟩) (u := .bool c.p.h) (by simpa [go_sem] using c1) (by simp) _).set (p := ⟨b, 2, none⟩) (u := .int .u64 c.p.b) (by simpa [go_sem] using c2) (by simp) _).set (p := ⟨b, 3, none⟩) (u := .bool c.c.h) (by simpa [go_sem] using c3) (by simp) _).set (p := ⟨b, 4, none⟩) (u := .int .u64 c.c.b) (by simpa [go_sem] using c4) (by simp) _).set (p := ⟨b, 5, none⟩) (u := .int .i64 c.n) (by simpa [go_sem] using c5) (by simp) _

theorem VB.keep {w w' : World} {b : Nat} {v : Vl} (h : VB w b v) (hb : Below w.heap.size w w') : VB w' b v := by
  have hl := cell_lt h.c0
  exact ⟨by rw [hb.cell (p := ⟨b, 0, none⟩) hl]; exact h.c0, by rw [hb.cell (p := ⟨b, 1, none⟩) hl]; exact h.c1, fun j => by rw [hb.frozen (p := ⟨b, j, none⟩) hl]; exact h.z j⟩
theorem one_a {o : Option Nat} {l : List Nat} {e : Nat} (h : Wm.take l = (0, 0, e)) (he : e ≠ 0) : oneC o l = (e, zeroC, []) := by simp [oneC, h, he]
theorem one_f {o : Option Nat} {l : List Nat} {x n : Nat} (h : Wm.take l = (x, n, 0)) (hf : folB o x = false) : oneC o l = (7, zeroC, []) := by simp [oneC, h, hf]
theorem one_go {o : Option Nat} {l : List Nat} {x n : Nat} (h : Wm.take l = (x, n, 0)) (hf : folB o x = true) : oneC o l = oneH x (l.drop n) := by simp [oneC, h, hf]
theorem oneH_far {x h : Nat} {r : List Nat} (h3 : 3 < h) : oneH x (h :: r) = (4, zeroC, []) := by simp [oneH, h3]
theorem oneH_go {x h : Nat} {r : List Nat} (h3 : h ≤ 3) : oneH x (h :: r) = oneW x h r := by simp [oneH]; omega
theorem oneW_p {x h e : Nat} {r l3 : List Nat} {p : Vl} (h1 : oneV (decide (h % 2 = 1)) r = (e, p, l3)) (he : e ≠ 0) : oneW x h r = (e, zeroC, []) := by simp [oneW, h1, he]
theorem oneW_c {x h e : Nat} {r l3 l4 : List Nat} {p c : Vl} (h1 : oneV (decide (h % 2 = 1)) r = (0, p, l3)) (h2 : oneV (decide (2 ≤ h)) l3 = (e, c, l4)) (he : e ≠ 0) : oneW x h r = (e, zeroC, []) := by simp [oneW, h1, h2, he]
theorem oneW_go {x h : Nat} {r l3 l4 : List Nat} {p c : Vl} (h1 : oneV (decide (h % 2 = 1)) r = (0, p, l3)) (h2 : oneV (decide (2 ≤ h)) l3 = (0, c, l4)) : oneW x h r = oneN x p c l4 := by simp [oneW, h1, h2]
theorem oneN_a {x e : Nat} {l : List Nat} {p c : Vl} (h : Wm.take l = (0, 0, e)) (he : e ≠ 0) : oneN x p c l = (e, zeroC, []) := by simp [oneN, h, he]
theorem oneN_far {x y n : Nat} {l : List Nat} {p c : Vl} (h : Wm.take l = (y, n, 0)) (hy : 1099511627776 < y) : oneN x p c l = (4, zeroC, []) := by simp [oneN, h, hy]
theorem oneN_ok {x y n : Nat} {l : List Nat} {p c : Vl} (h : Wm.take l = (y, n, 0)) (hy : ¬ 1099511627776 < y) : oneN x p c l = (0, ⟨x, p, c, y⟩, l.drop n) := by simp [oneN, h, hy]
/-- A cut of bytes, whatever room they have. -/
theorem bv_cut {w : World} {ao : Option Addr} {k cap : Nat} {l : List Nat} (h : Bv w (.slice ao k cap) l) (n : Nat) (hn : n ≤ l.length) : (cap = n → Bv w (.slice ao (k - n) 0) (l.drop n)) ∧ (¬ cap = n → Bv w (.slice (ao.map fun a => a.add n) (k - n) (cap - n)) (l.drop n)) := by
  obtain ⟨hk, hle, _⟩ := bv_le h
  subst hk
  refine ⟨fun hc => ?_, fun hc => cut_any h rfl n hn hc⟩
  rw [show l.length - n = 0 from by omega]
  exact cut_end (by omega)

set_option maxRecDepth 100000 in
set_option maxHeartbeats 4000000 in
theorem rone_walk {w : World} {v : Value} {l : List Nat} {o : Option Nat} (h : Bv w v l) (last : Nat) (fb : Bool) (ho : o = if fb = true then none else some last) :
    Calls Try.prog 33 #[v, .int .u64 last, .bool fb] w (OneGot (oneC o l) v w) := by
  have HVA : Hid (Bv (w.alloc (Obj.cells #[.int .u64 zeroC.k, .bool zeroC.p.h, .int .u64 zeroC.p.b, .bool zeroC.c.h, .int .u64 zeroC.c.b, .int .i64 zeroC.n] 37)) v l) := h.below (below_alloc _ _)
  have HCA : Hid (CB (w.alloc (Obj.cells #[.int .u64 zeroC.k, .bool zeroC.p.h, .int .u64 zeroC.p.b, .bool zeroC.c.h, .int .u64 zeroC.c.b, .int .i64 zeroC.n] 37)) w.heap.size zeroC) := cb_new w zeroC
  have HBA : Hid (Below w.heap.size w (w.alloc (Obj.cells #[.int .u64 zeroC.k, .bool zeroC.p.h, .int .u64 zeroC.p.b, .bool zeroC.c.h, .int .u64 zeroC.c.b, .int .i64 zeroC.n] 37))) := below_alloc _ _
  have HOO : Hid (o = if fb = true then none else some last) := ho
  have hT := Wm.take_form l h.2
  have h256 := h.2
  have H256 : Hid (∀ c ∈ l, c < 256) := h256
  clear h ho h256
  go_enter Try.func33, Try.ntmps33
  go_wp2_with fail
  refine (rtake_walk HVA.out).mono ?_
  rcases hT with ⟨e, ht, h34⟩ | ⟨x, n, ht, hx, hn1, hn2, hn3⟩
  · have he : e ≠ 0 := by omega
    have HQ : Hid (oneC o l = (e, zeroC, [])) := one_a ht he
    rw [t3_litB ht]
    rintro e9 w2 ⟨rfl, hw2⟩
    have hei : ((e : Int) != 0) = true := by rw [bne_iff_ne]; omega
    have HB2 : Hid (Below w.heap.size w w2) := by show Below _ _ _; rw [hw2]; exact HBA.out
    have HC2 : Hid (CB w2 w.heap.size zeroC) := by show CB _ _ _; rw [hw2]; exact HCA.out
    obtain ⟨c0, c1, c2, c3, c4, c5, zz⟩ := HC2.out
    have z0 := zz 0; have z1 := zz 1; have z2 := zz 2; have z3 := zz 3; have z4 := zz 4; have z5 := zz 5
    clear hw2 he h34 ht zz
    go_wp2_with fail
    refine bodyPost_ret (v := .tuple #[.agg #[.int .u64 0, .bool false, .int .u64 0, .bool false, .int .u64 0, .int .i64 0], .slice none 0 0, .int .i64 e]) (by rw [results_ctt rfl]; go_simp) rfl ?_
    exact onegot_bad HQ.out rfl (below_six HB2.out (Nat.le_refl _) _ _ _ _ _ _)
  · rw [t3_litB ht]
    rintro e9 w2 ⟨rfl, hw2⟩
    have HB2 : Hid (Below w.heap.size w w2) := by show Below _ _ _; rw [hw2]; exact HBA.out
    have HC2 : Hid (CB w2 w.heap.size zeroC) := by show CB _ _ _; rw [hw2]; exact HCA.out
    have HV2 : Hid (Bv w2 v l) := by show Bv _ _ _; rw [hw2]; exact HVA.out
    have HT : Hid (Wm.take l = (x, n, 0)) := ht
    have HN : Hid (n ≤ l.length) := hn2
    clear hw2 ht hn1 hn2 hn3 HVA HCA HBA hx
    obtain ⟨va, vn, vc, hv⟩ := bv_any HV2.out
    subst hv
    obtain ⟨hvn, hvl, hvm⟩ := bv_le HV2.out
    have HVN : Hid (vn = l.length) := hvn
    unfold maxLen at hvm
    have hnv : (n : Int) ≤ (vn : Int) := by have := HN.out; omega
    have hvc : (vn : Int) ≤ (vc : Int) := by omega
    have hnc : (n : Int) ≤ (vc : Int) := by omega
    have hcm : (vc : Int) ≤ 9223372036854775807 := by omega
    clear hvn hvl hvm
    cases hf : folB o x
    · have HQ : Hid (oneC o l = (7, zeroC, [])) := one_f HT.out hf
      obtain ⟨c0, c1, c2, c3, c4, c5, zz⟩ := HC2.out
      have z0 := zz 0; have z1 := zz 1; have z2 := zz 2; have z3 := zz 3; have z4 := zz 4; have z5 := zz 5
      have ho := HOO.out
      cases fb
      · have hle : (x : Int) ≤ (last : Int) := by rw [ho] at hf; simp [folB] at hf; omega
        clear hf ho zz
        go_wp2_with fail
        refine bodyPost_ret (v := .tuple #[.agg #[.int .u64 0, .bool false, .int .u64 0, .bool false, .int .u64 0, .int .i64 0], .slice none 0 0, .int .i64 7]) (by rw [results_ctt rfl]; go_simp) rfl ?_
        exact onegot_bad HQ.out rfl (below_six HB2.out (Nat.le_refl _) _ _ _ _ _ _)
      · rw [ho] at hf; simp [folB] at hf
    · have HQ0 : Hid (oneC o l = oneH x (l.drop n)) := one_go HT.out hf
      go_upto_region 4 with fail
      go_cut [32] (fun t wx => t = .bool false ∧ wx = w2)
      case first =>
        have ho := HOO.out
        cases fb
        · have hle : ¬ (x : Int) ≤ (last : Int) := by rw [ho] at hf; simp [folB] at hf; omega
          clear hf ho
          go_wp2_with fail
          go_meet
          exact ⟨rfl, rfl⟩
        · clear hf ho
          go_wp2_with fail
          go_meet
          exact ⟨rfl, rfl⟩
      case rest =>
        obtain ⟨rfl, h2⟩ := hcut
        replace h2 := h2.symm
        subst h2
        clear hf
        go_upto_region 6 with fail
        go_cut [0] (fun u wx => Bv w2 u (l.drop n) ∧ Sb u (.slice va vn vc) ∧ wx = w2)
        case first =>
          obtain ⟨k1, k2⟩ := bv_cut HV2.out n HN.out
          by_cases hc : vc = n
          · have K := k1 hc
            clear k1 k2
            subst hc
            go_wp2_with fail
            go_meet
            exact ⟨K, sb_cut0, rfl⟩
          · have K := k2 hc
            clear k1 k2
            go_wp2_with fail
            go_meet
            exact ⟨K, sb_cutm, rfl⟩
        case rest =>
          obtain ⟨hV3, hsb, h2⟩ := hcut
          have HS3 : Hid (Sb u0 (.slice va vn vc)) := hsb
          clear hsb
          replace h2 := h2.symm
          subst h2
          obtain ⟨l1, hl1⟩ : ∃ l1, l1 = l.drop n := ⟨_, rfl⟩
          have HL1 : Hid (oneC o l = oneH x l1) := by show _ = _; rw [HQ0.out, hl1]
          rw [← hl1] at hV3
          have HV3 : Hid (Bv w2 u0 l1) := hV3
          clear hl1 HQ0 HV2 hnv hvc hnc hcm
          obtain ⟨c0, c1, c2, c3, c4, c5, zz⟩ := HC2.out
          have z0 := zz 0; have z1 := zz 1; have z2 := zz 2; have z3 := zz 3; have z4 := zz 4; have z5 := zz 5
          rcases bv_cases hV3 with ⟨rfl, ao, cap, rfl⟩ | ⟨b1, off1, cap1, rfl, hp, h1, h2, h3⟩
          · clear zz hV3
            go_wp2_with fail
            refine bodyPost_ret (v := .tuple #[.agg #[.int .u64 0, .bool false, .int .u64 0, .bool false, .int .u64 0, .int .i64 0], .slice none 0 0, .int .i64 3]) (by rw [results_ctt rfl]; go_simp) rfl ?_
            exact onegot_bad HL1.out rfl (below_six HB2.out (Nat.le_refl _) _ _ _ _ _ _)
          · cases l1 with
            | nil => simp at hp
            | cons h r =>
            have hb0 : w2.cell? ⟨b1, off1, none⟩ = some (.int .u8 (h : Nat)) := by simpa using h3 0 (by simp)
            have H56 : Hid (h < 256) := HV3.out.2 h (by simp)
            rw [List.length_cons] at *
            unfold maxLen at h2
            have hci : (cap1 : Int) ≤ 9223372036854775807 := by omega
            have hcl : ((r.length : Int) + 1) ≤ (cap1 : Int) := by omega
            have hcp : (1 : Int) ≤ (cap1 : Int) := by omega
            have hp1 : (0 : Int) < (r.length : Int) + 1 := by omega
            have hp2 : (1 : Int) ≤ (r.length : Int) + 1 := by omega
            have hl0 : ((r.length : Int) + 1 == 0) = false := by rw [beq_eq_false_iff_ne]; omega
            clear h1 h2 h3 hp hV3
            by_cases hh3 : 3 < h
            · have HQ : Hid (oneC o l = (4, zeroC, [])) := by show _ = _; rw [HL1.out, oneH_far hh3]
              have hh : (3 : Int) < (h : Int) := by omega
              clear zz
              go_wp2_with fail
              refine bodyPost_ret (v := .tuple #[.agg #[.int .u64 0, .bool false, .int .u64 0, .bool false, .int .u64 0, .int .i64 0], .slice none 0 0, .int .i64 4]) (by rw [results_ctt rfl]; go_simp) rfl ?_
              exact onegot_bad HQ.out rfl (below_six HB2.out (Nat.le_refl _) _ _ _ _ _ _)
            · have hh : ¬ (3 : Int) < (h : Int) := by omega
              have HW : Hid (oneC o l = oneW x h r) := by show _ = _; rw [HL1.out, oneH_go (by omega)]
              have H3 : Hid (h ≤ 3) := by show _ ≤ _; omega
              clear c0 c1 c2 c3 c4 c5 zz z0 z1 z2 z3 z4 z5 hh3 HL1
              obtain ⟨t1, ht1⟩ : ∃ t, t = decide (h % 2 = 1) := ⟨_, rfl⟩
              obtain ⟨t2, ht2⟩ : ∃ t, t = decide (2 ≤ h) := ⟨_, rfl⟩
              obtain ⟨e1, p1, l3, hE1⟩ : ∃ a b c, oneV t1 r = (a, b, c) := ⟨_, _, _, rfl⟩
              have HT1 : Hid (t1 = decide (h % 2 = 1)) := ht1
              have HT2 : Hid (t2 = decide (2 ≤ h)) := ht2
              have HE1 : Hid (oneV t1 r = (e1, p1, l3)) := hE1
              clear ht1 ht2 hE1
              go_upto_region 12 with fail
              go_cut [13, 0, 11] (fun pv u ev wx => ∃ P, pv = .pointer (some ⟨P, 0, none⟩) ∧ VB wx P p1 ∧ Bv wx u l3 ∧ Sb u (.slice va vn vc) ∧ ev = .int .i64 (e1 : Nat) ∧ Below w.heap.size w wx ∧ CB wx w.heap.size zeroC)
              case first =>
                have ht : ((h : Int) % 2 == 1) = t1 := by rw [HT1.out]; by_cases q : h % 2 = 1 <;> simp [q] <;> omega
                have ht' : ((h % 2 : Nat) == 1) = t1 := by rw [HT1.out]; by_cases q : h % 2 = 1 <;> simp [q]
                clear hb0
                obtain ⟨k1, k2⟩ := bv_cut HV3.out 1 (by simp)
                simp only [List.drop_succ_cons, List.drop_zero, Nat.add_sub_cancel] at k1 k2
                by_cases hc1 : cap1 = 1
                · have K := k1 hc1
                  clear k1 k2
                  subst hc1
                  go_wp2_with fail
                  refine (rvalue_walk K t1).mono ?_
                  rw [HE1.out]
                  rintro e w3 ⟨u3, rfl, hb3, hs3, hB3⟩
                  go_wp2_with fail
                  go_meet
                  exact ⟨_, rfl, vb_new w3 p1, hb3.below (below_alloc _ _), hs3.trans (sb_cut0.trans HS3.out), rfl, below_trans HB2.out (below_trans hB3 (below_alloc _ _)), (HC2.out.keep hB3).keep (below_alloc _ _)⟩
                · have K := k2 hc1
                  clear k1 k2
                  go_wp2_with fail
                  refine (rvalue_walk K t1).mono ?_
                  rw [HE1.out]
                  rintro e w3 ⟨u3, rfl, hb3, hs3, hB3⟩
                  go_wp2_with fail
                  go_meet
                  exact ⟨_, rfl, vb_new w3 p1, hb3.below (below_alloc _ _), hs3.trans (sb_cutm.trans HS3.out), rfl, below_trans HB2.out (below_trans hB3 (below_alloc _ _)), (HC2.out.keep hB3).keep (below_alloc _ _)⟩
              case rest =>
                obtain ⟨P, rfl, hvb, hbv, hsb, rfl, hbel, hcb⟩ := hcut
                have HSC : Hid (Sb u0 (.slice va vn vc)) := hsb
                clear hsb
                have HBC : Hid (Below w.heap.size w wc) := hbel
                have HCC : Hid (CB wc w.heap.size zeroC) := hcb
                have HPC : Hid (VB wc P p1) := hvb
                have HVC : Hid (Bv wc u0 l3) := hbv
                clear hvb hbv hbel hcb hb0 HV3 HB2 HC2 hp1 hp2 hl0 hci hcl hcp hh
                by_cases he1 : e1 = 0
                rotate_left
                · have HQ : Hid (oneC o l = (e1, zeroC, [])) := by show _ = _; rw [HW.out, oneW_p (by rw [← HT1.out]; exact HE1.out) he1]
                  have hei : ((e1 : Int) != 0) = true := by rw [bne_iff_ne]; omega
                  obtain ⟨c0, c1, c2, c3, c4, c5, zz⟩ := HCC.out
                  have z0 := zz 0; have z1 := zz 1; have z2 := zz 2; have z3 := zz 3; have z4 := zz 4; have z5 := zz 5
                  clear zz he1
                  go_wp2_with fail
                  refine bodyPost_ret (v := .tuple #[.agg #[.int .u64 0, .bool false, .int .u64 0, .bool false, .int .u64 0, .int .i64 0], .slice none 0 0, .int .i64 e1]) (by rw [results_ctt rfl]; go_simp) rfl ?_
                  exact onegot_bad HQ.out rfl (below_six HBC.out (Nat.le_refl _) _ _ _ _ _ _)
                · subst he1
                  obtain ⟨e2, p2, l4, hE2⟩ : ∃ a b c, oneV t2 l3 = (a, b, c) := ⟨_, _, _, rfl⟩
                  have HE2 : Hid (oneV t2 l3 = (e2, p2, l4)) := hE2
                  clear hE2
                  obtain ⟨wd, hwd⟩ : ∃ wd, wd = wc := ⟨_, rfl⟩
                  rw [← hwd] at HBC HCC HPC HVC ⊢
                  clear hwd
                  go_upto_region 15 with fail
                  go_cut [14, 0, 11] (fun pv u ev wx => ∃ Q, pv = .pointer (some ⟨Q, 0, none⟩) ∧ VB wx Q p2 ∧ VB wx P p1 ∧ Bv wx u l4 ∧ Sb u (.slice va vn vc) ∧ ev = .int .i64 (e2 : Nat) ∧ Below w.heap.size w wx ∧ CB wx w.heap.size zeroC)
                  case first =>
                    have ht : decide ((2 : Int) ≤ (h : Int)) = t2 := by rw [HT2.out]; congr 1; simp only [eq_iff_iff]; omega
                    have ht' : decide (2 ≤ h) = t2 := HT2.out.symm
                    go_wp2_with fail
                    refine (rvalue_walk HVC.out t2).mono ?_
                    rw [HE2.out]
                    rintro e w3 ⟨u3, rfl, hb3, hs3, hB3⟩
                    go_wp2_with fail
                    go_meet
                    exact ⟨_, rfl, vb_new w3 p2, (HPC.out.keep hB3).keep (below_alloc _ _), hb3.below (below_alloc _ _), hs3.trans HSC.out, rfl, below_trans HBC.out (below_trans hB3 (below_alloc _ _)), (HCC.out.keep hB3).keep (below_alloc _ _)⟩
                  case rest =>
                    obtain ⟨Q, rfl, hvq, hvb, hbv, hsb, rfl, hbel, hcb⟩ := hcut
                    have HSD : Hid (Sb u0 (.slice va vn vc)) := hsb
                    clear hsb HSC
                    have HBD : Hid (Below w.heap.size w wc) := hbel
                    have HCD : Hid (CB wc w.heap.size zeroC) := hcb
                    have HPD : Hid (VB wc P p1) := hvb
                    have HQD : Hid (VB wc Q p2) := hvq
                    have HVD : Hid (Bv wc u0 l4) := hbv
                    clear hvq hvb hbv hbel hcb HBC HCC HPC HVC
                    by_cases he2 : e2 = 0
                    rotate_left
                    · have HQ : Hid (oneC o l = (e2, zeroC, [])) := by show _ = _; rw [HW.out, oneW_c (by rw [← HT1.out]; exact HE1.out) (by rw [← HT2.out]; exact HE2.out) he2]
                      have hei : ((e2 : Int) != 0) = true := by rw [bne_iff_ne]; omega
                      obtain ⟨c0, c1, c2, c3, c4, c5, zz⟩ := HCD.out
                      have z0 := zz 0; have z1 := zz 1; have z2 := zz 2; have z3 := zz 3; have z4 := zz 4; have z5 := zz 5
                      clear zz he2
                      go_wp2_with fail
                      refine bodyPost_ret (v := .tuple #[.agg #[.int .u64 0, .bool false, .int .u64 0, .bool false, .int .u64 0, .int .i64 0], .slice none 0 0, .int .i64 e2]) (by rw [results_ctt rfl]; go_simp) rfl ?_
                      exact onegot_bad HQ.out rfl (below_six HBD.out (Nat.le_refl _) _ _ _ _ _ _)
                    · subst he2
                      have HN4 : Hid (oneC o l = oneN x p1 p2 l4) := by show _ = _; rw [HW.out, oneW_go (by rw [← HT1.out]; exact HE1.out) (by rw [← HT2.out]; exact HE2.out)]
                      have hT := Wm.take_form l4 HVD.out.2
                      go_wp2_with fail
                      refine (rtake_walk HVD.out).mono ?_
                      rcases hT with ⟨e, ht, h34⟩ | ⟨y, k, ht, hy, hk1, hk2, hk3⟩
                      · have he : e ≠ 0 := by omega
                        have HQ : Hid (oneC o l = (e, zeroC, [])) := by show _ = _; rw [HN4.out, oneN_a ht he]
                        rw [t3_litB ht]
                        rintro e9 w2 ⟨rfl, hw2⟩
                        have hei : ((e : Int) != 0) = true := by rw [bne_iff_ne]; omega
                        subst hw2
                        obtain ⟨c0, c1, c2, c3, c4, c5, zz⟩ := HCD.out
                        have z0 := zz 0; have z1 := zz 1; have z2 := zz 2; have z3 := zz 3; have z4 := zz 4; have z5 := zz 5
                        clear he h34 ht zz
                        go_wp2_with fail
                        refine bodyPost_ret (v := .tuple #[.agg #[.int .u64 0, .bool false, .int .u64 0, .bool false, .int .u64 0, .int .i64 0], .slice none 0 0, .int .i64 e]) (by rw [results_ctt rfl]; go_simp) rfl ?_
                        exact onegot_bad HQ.out rfl (below_six HBD.out (Nat.le_refl _) _ _ _ _ _ _)
                      · rw [t3_litB ht]
                        have HT4 : Hid (Wm.take l4 = (y, k, 0)) := ht
                        have HK : Hid (k ≤ l4.length) := hk2
                        rintro e9 w9 ⟨rfl, hw9⟩
                        subst hw9
                        clear ht hk1 hk2 hk3 hy
                        obtain ⟨c0, c1, c2, c3, c4, c5, zz⟩ := HCD.out
                        have z0 := zz 0; have z1 := zz 1; have z2 := zz 2; have z3 := zz 3; have z4 := zz 4; have z5 := zz 5
                        clear zz
                        by_cases hfar : (1099511627776 : Int) < (y : Int)
                        · have HQ : Hid (oneC o l = (4, zeroC, [])) := by show _ = _; rw [HN4.out, oneN_far HT4.out (by omega)]
                          go_wp2_with fail
                          refine bodyPost_ret (v := .tuple #[.agg #[.int .u64 0, .bool false, .int .u64 0, .bool false, .int .u64 0, .int .i64 0], .slice none 0 0, .int .i64 4]) (by rw [results_ctt rfl]; go_simp) rfl ?_
                          exact onegot_bad HQ.out rfl (below_six HBD.out (Nat.le_refl _) _ _ _ _ _ _)
                        · have HOK : Hid (oneC o l = (0, ⟨x, p1, p2, y⟩, l4.drop k)) := by show _ = _; rw [HN4.out, oneN_ok HT4.out (by omega)]
                          have hwy : IntKind.i64.wrap (y : Int) = (y : Int) := by rw [IntKind.wrap_i64]; omega
                          obtain ⟨va4, vn4, vc4, hv4⟩ := bv_any HVD.out
                          subst hv4
                          obtain ⟨q1, q2, q3⟩ := bv_le HVD.out
                          unfold maxLen at q3
                          have hkv : (k : Int) ≤ (vn4 : Int) := by have := HK.out; omega
                          have hvv : (vn4 : Int) ≤ (vc4 : Int) := by omega
                          have hkc : (k : Int) ≤ (vc4 : Int) := by omega
                          have hvx : (vc4 : Int) ≤ 9223372036854775807 := by omega
                          obtain ⟨k1, k2⟩ := bv_cut HVD.out k HK.out
                          have a0 := HPD.out.c0; have a1 := HPD.out.c1; have b0 := HQD.out.c0; have b1' := HQD.out.c1
                          clear q1 q2 q3
                          by_cases hck : vc4 = k
                          · have K := k1 hck
                            clear k1 k2
                            subst hck
                            go_upto_region 23 with fail
                            go_region_with (fail)
                            all_goals go_wp2_with fail
                            all_goals refine bodyPost_ret (v := .tuple #[.agg #[.int .u64 x, .bool p1.h, .int .u64 p1.b, .bool p2.h, .int .u64 p2.b, .int .i64 y], .slice va4 (vn4 - vc4) 0, .int .i64 0]) (by rw [results_ctt rfl]; go_simp) rfl ?_
                            all_goals exact ⟨_, by rw [HOK.out]; rfl, by rw [HOK.out]; exact (bv_six HCD.out K ⟨x, p1, p2, y⟩).below (below_drew _), sb_cut0.trans HSD.out, (below_six HBD.out (Nat.le_refl _) _ _ _ _ _ _).drew⟩
                          · have K := k2 hck
                            clear k1 k2
                            go_upto_region 23 with fail
                            go_region_with (fail)
                            all_goals go_wp2_with fail
                            all_goals refine bodyPost_ret (v := .tuple #[.agg #[.int .u64 x, .bool p1.h, .int .u64 p1.b, .bool p2.h, .int .u64 p2.b, .int .i64 y], .slice (va4.map fun a => a.add k) (vn4 - k) (vc4 - k), .int .i64 0]) (by rw [results_ctt rfl]; go_simp) rfl ?_
                            all_goals exact ⟨_, by rw [HOK.out]; rfl, by rw [HOK.out]; exact (bv_six HCD.out K ⟨x, p1, p2, y⟩).below (below_drew _), sb_cutm.trans HSD.out, (below_six HBD.out (Nat.le_refl _) _ _ _ _ _ _).drew⟩
end Go.Proofs.Ytjcmmhonidamoaa
