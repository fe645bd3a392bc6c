/- Contract of the reference's Decode over cells. -/
import Derived.Test.YtcmklbibehnloaaGreatB36
set_option maxRecDepth 100000
set_option maxHeartbeats 16000000
namespace Go.Proofs.YtcmklbibehnloaaGreat
open Go.RowKit
def OneGot (r : Nat × Cl × List Nat) (v : Value) (w : World) (e : Ending) (w' : World) : Prop :=
 ∃ u, e = .returned (.tuple #[.agg #[.int .u64 r.2.1.k, .bool r.2.1.p.h, .int .u64 r.2.1.p.b, .bool r.2.1.c.h, .int .u64 r.2.1.c.b, .int .i64 r.2.1.n], u, .int .i64 (r.1 : Nat)]) ∧ Bv w' u r.2.2 ∧ Sb u v ∧ Below w.heap.size w w'
theorem onegot_bad {r : Nat × Cl × List Nat} {w w' : World} {e : Nat} {x : Int} (h : r = (e, zeroC, [])) (hx : x = e) {v : Value} (hb : Below w.heap.size w w') : OneGot r v w (.returned (.tuple #[.agg #[.int .u64 0, .bool false, .int .u64 0, .bool false, .int .u64 0, .int .i64 0], .slice none 0 0, .int .i64 x])) w' := by
 subst hx h;exact ⟨_, rfl, Bv.nil _, sb_nil _, hb⟩
theorem below_sixB {w wx : World} {R : Nat} (h : Below w.heap.size w wx) (hR : w.heap.size ≤ R) (u0 u1 u2 u3 u4 u5 : Value) :
  Below w.heap.size w ((((((wx.setCell ⟨R, 0, none⟩ u0).setCell ⟨R, 1, none⟩ u1).setCell ⟨R, 2, none⟩ u2).setCell ⟨R, 3, none⟩ u3).setCell ⟨R, 4, none⟩ u4).setCell ⟨R, 5, none⟩ u5) :=
 (((((h.setCell (p := ⟨R, 0, none⟩) hR u0).setCell (p := ⟨R, 1, none⟩) hR u1).setCell (p := ⟨R, 2, none⟩) hR u2).setCell (p := ⟨R, 3, none⟩) hR u3).setCell (p := ⟨R, 4, none⟩) hR u4).setCell (p := ⟨R, 5, none⟩) hR u5
theorem bv_six {w : World} {b : Nat} {v : Value} {l : List Nat} {c : Cl} (hC : CB w b c) (h : Bv w v l) (d : Cl) :
  Bv ((((((w.setCell ⟨b, 0, none⟩ (.int .u64 d.k)).setCell ⟨b, 1, none⟩ (.bool d.p.h)).setCell ⟨b, 2, none⟩ (.int .u64 d.p.b)).setCell ⟨b, 3, none⟩ (.bool d.c.h)).setCell ⟨b, 4, none⟩ (.int .u64 d.c.b)).setCell ⟨b, 5, none⟩ (.int .i64 d.n)) v l := by
 obtain ⟨c0, c1, c2, c3, c4, c5, _⟩ := hC;refine (((((h.set c0 (by simp) _).set (p := ⟨b, 1, none⟩) (u := .bool c.p.h) (by simpa [go_sem] using c1) (by simp) _).set (p := ⟨b, 2, none⟩) (u := .int .u64 c.p.b) (by simpa [go_sem] using c2) (by simp) _).set (p := ⟨b, 3, none⟩) (u := .bool c.c.h) (by simpa [go_sem] using c3) (by simp) _).set (p := ⟨b, 4, none⟩) (u := .int .u64 c.c.b) (by simpa [go_sem] using c4) (by simp) _).set (p := ⟨b, 5, none⟩) (u := .int .i64 c.n) (by simpa [go_sem] using c5) (by simp) _
theorem VBB.keep {w w' : World} {b : Nat} {v : Vl} (h : VBB w b v) (hb : Below w.heap.size w w') : VBB w' b v := by
 have hl := cell_lt h.c0;exact ⟨by rw [hb.cell (p := ⟨b, 0, none⟩) hl]; exact h.c0, by rw [hb.cell (p := ⟨b, 1, none⟩) hl]; exact h.c1, fun j => by rw [hb.frozen (p := ⟨b, j, none⟩) hl]; exact h.z j⟩
theorem one_a {o : Option Nat} {l : List Nat} {e : Nat} (h : Wm.take l = (0, 0, e)) (he : e ≠ 0) : oneC o l = (e, zeroC, []) := by simp [oneC, h, he]
theorem one_f {o : Option Nat} {l : List Nat} {x n : Nat} (h : Wm.take l = (x, n, 0)) (hf : folB o x = false) : oneC o l = (7, zeroC, []) := by simp [oneC, h, hf]
theorem one_go {o : Option Nat} {l : List Nat} {x n : Nat} (h : Wm.take l = (x, n, 0)) (hf : folB o x = true) : oneC o l = oneH x (l.drop n) := by simp [oneC, h, hf]
theorem oneH_far {x h : Nat} {r : List Nat} (h3 : 3 < h) : oneH x (h :: r) = (4, zeroC, []) := by simp [oneH, h3]
theorem oneH_go {x h : Nat} {r : List Nat} (h3 : h ≤ 3) : oneH x (h :: r) = oneW x h r := by simp [oneH]; omega
theorem oneW_p {x h e : Nat} {r l3 : List Nat} {p : Vl} (h1 : oneV (decide (h % 2 = 1)) r = (e, p, l3)) (he : e ≠ 0) : oneW x h r = (e, zeroC, []) := by simp [oneW, h1, he]
theorem oneW_c {x h e : Nat} {r l3 l4 : List Nat} {p c : Vl} (h1 : oneV (decide (h % 2 = 1)) r = (0, p, l3)) (h2 : oneV (decide (2 ≤ h)) l3 = (e, c, l4)) (he : e ≠ 0) : oneW x h r = (e, zeroC, []) := by simp [oneW, h1, h2, he]
theorem oneW_go {x h : Nat} {r l3 l4 : List Nat} {p c : Vl} (h1 : oneV (decide (h % 2 = 1)) r = (0, p, l3)) (h2 : oneV (decide (2 ≤ h)) l3 = (0, c, l4)) : oneW x h r = oneN x p c l4 := by simp [oneW, h1, h2]
theorem oneN_a {x e : Nat} {l : List Nat} {p c : Vl} (h : Wm.take l = (0, 0, e)) (he : e ≠ 0) : oneN x p c l = (e, zeroC, []) := by simp [oneN, h, he]
theorem oneN_far {x y n : Nat} {l : List Nat} {p c : Vl} (h : Wm.take l = (y, n, 0)) (hy : 1099511627776 < y) : oneN x p c l = (4, zeroC, []) := by simp [oneN, h, hy]
theorem oneN_ok {x y n : Nat} {l : List Nat} {p c : Vl} (h : Wm.take l = (y, n, 0)) (hy : ¬ 1099511627776 < y) : oneN x p c l = (0, ⟨x, p, c, y⟩, l.drop n) := by simp [oneN, h, hy]
theorem bv_cut {w : World} {ao : Option Addr} {k cap : Nat} {l : List Nat} (h : Bv w (.slice ao k cap) l) (n : Nat) (hn : n ≤ l.length) : (cap = n → Bv w (.slice ao (k - n) 0) (l.drop n)) ∧ (¬ cap = n → Bv w (.slice (ao.map fun a => a.add n) (k - n) (cap - n)) (l.drop n)) := by
 obtain ⟨hk, hle, _⟩ := bv_le h;subst hk;refine ⟨fun hc => ?_, fun hc => cut_any h rfl n hn hc⟩;rw [show l.length - n = 0 from by omega];exact cut_end (by omega)
theorem rone_walk {w : World} {v : Value} {l : List Nat} {o : Option Nat} (h : Bv w v l) (last : Nat) (fb : Bool) (ho : o = if fb = true then none else some last) :
  Calls Tryz.prog 174 #[v, .int .u64 last, .bool fb] w (OneGot (oneC o l) v w) := by
 have HVA : Hid (Bv (w.alloc (Obj.cells #[.int .u64 zeroC.k, .bool zeroC.p.h, .int .u64 zeroC.p.b, .bool zeroC.c.h, .int .u64 zeroC.c.b, .int .i64 zeroC.n] 114)) v l) := h.below (below_alloc _ _);have HCA : Hid (CB (w.alloc (Obj.cells #[.int .u64 zeroC.k, .bool zeroC.p.h, .int .u64 zeroC.p.b, .bool zeroC.c.h, .int .u64 zeroC.c.b, .int .i64 zeroC.n] 114)) w.heap.size zeroC) := cb_new w zeroC;have HBA : Hid (Below w.heap.size w (w.alloc (Obj.cells #[.int .u64 zeroC.k, .bool zeroC.p.h, .int .u64 zeroC.p.b, .bool zeroC.c.h, .int .u64 zeroC.c.b, .int .i64 zeroC.n] 114))) := below_alloc _ _;have HOO : Hid (o = if fb = true then none else some last) := ho;have hT := Wm.take_form l h.2;have h256 := h.2;have H256 := hidH h256;clear h ho h256;go_in;go_wp2_with fail;refine (rtake_walk HVA.out).mono ?_;rcases hT with ⟨e, ht, h34⟩ | ⟨x, n, ht, hx, hn1, hn2, hn3⟩
 ·have he : e ≠ 0 := by omega
  have HQ : Hid (oneC o l = (e, zeroC, [])) := one_a ht he;rw [t3_litB ht];rintro e9 w2 ⟨rfl, hw2⟩;have hei : ((e : Int) != 0) = true := by rw [bne_iff_ne]; omega
  have HB2 : Hid (Below w.heap.size w w2) := by show Below _ _ _; rw [hw2]; exact HBA.out
  have HC2 : Hid (CB w2 w.heap.size zeroC) := by show CB _ _ _; rw [hw2]; exact HCA.out
  obtain ⟨c0, c1, c2, c3, c4, c5, zz⟩ := HC2.out;have z0 := zz 0; have z1 := zz 1; have z2 := zz 2; have z3 := zz 3; have z4 := zz 4; have z5 := zz 5;clear hw2 he h34 ht zz;go_wp2_with fail;refine bodyPost_ret (v := .tuple #[.agg #[.int .u64 0, .bool false, .int .u64 0, .bool false, .int .u64 0, .int .i64 0], .slice none 0 0, .int .i64 e]) (by rw [results_ctt rfl]; go_simp) rfl ?_;exact onegot_bad HQ.out rfl (below_sixB HB2.out (Nat.le_refl _) _ _ _ _ _ _)
 ·rw [t3_litB ht];rintro e9 w2 ⟨rfl, hw2⟩;have HB2 : Hid (Below w.heap.size w w2) := by show Below _ _ _; rw [hw2]; exact HBA.out
  have HC2 : Hid (CB w2 w.heap.size zeroC) := by show CB _ _ _; rw [hw2]; exact HCA.out
  have HV2 : Hid (Bv w2 v l) := by show Bv _ _ _; rw [hw2]; exact HVA.out
  have HT : Hid (Wm.take l = (x, n, 0)) := ht;have HN : Hid (n ≤ l.length) := hn2;clear hw2 ht hn1 hn2 hn3 HVA HCA HBA hx;obtain ⟨va, vn, vc, hv⟩ := bv_any HV2.out;subst hv;obtain ⟨hvn, hvl, hvm⟩ := bv_le HV2.out;have HVN : Hid (vn = l.length) := hvn;unfold maxLen at hvm;have hnv : (n : Int) ≤ (vn : Int) := by have := HN.out; omega
  have hvc : (vn : Int) ≤ (vc : Int) := by omega
  have hnc : (n : Int) ≤ (vc : Int) := by omega
  have hcm : (vc : Int) ≤ 9223372036854775807 := by omega
  clear hvn hvl hvm
  cases hf : folB o x
  ·have HQ : Hid (oneC o l = (7, zeroC, [])) := one_f HT.out hf;obtain ⟨c0, c1, c2, c3, c4, c5, zz⟩ := HC2.out;have z0 := zz 0; have z1 := zz 1; have z2 := zz 2; have z3 := zz 3; have z4 := zz 4; have z5 := zz 5;have ho := HOO.out
   cases fb
   ·have hle : (x : Int) ≤ (last : Int) := by rw [ho] at hf; simp [folB] at hf; omega
    clear hf ho zz;go_wp2_with fail;refine bodyPost_ret (v := .tuple #[.agg #[.int .u64 0, .bool false, .int .u64 0, .bool false, .int .u64 0, .int .i64 0], .slice none 0 0, .int .i64 7]) (by rw [results_ctt rfl]; go_simp) rfl ?_;exact onegot_bad HQ.out rfl (below_sixB HB2.out (Nat.le_refl _) _ _ _ _ _ _)
   ·rw [ho] at hf; simp [folB] at hf
  ·have HQ0 : Hid (oneC o l = oneH x (l.drop n)) := one_go HT.out hf;go_upto_region 4 with fail
   go_cut [32] (fun t wx => t = .bool false ∧ wx = w2)
   case first =>
    have ho := HOO.out
    cases fb
    ·have hle : ¬ (x : Int) ≤ (last : Int) := by rw [ho] at hf; simp [folB] at hf; omega
     clear hf ho;go_wp2_with fail;go_meet;exact ⟨rfl, rfl⟩
    ·clear hf ho;go_wp2_with fail;go_meet;exact ⟨rfl, rfl⟩
   case rest =>
    obtain ⟨rfl, h2⟩ := hcut;replace h2 := h2.symm;subst h2;clear hf;go_upto_region 6 with fail
    go_cut [0] (fun u wx => Bv w2 u (l.drop n) ∧ Sb u (.slice va vn vc) ∧ wx = w2)
    case first =>
     obtain ⟨k1, k2⟩ := bv_cut HV2.out n HN.out;by_cases hc : vc = n
     ·have K := k1 hc;clear k1 k2;subst hc;go_wp2_with fail;go_meet;exact ⟨K, sb_cut0, rfl⟩
     ·have K := k2 hc;clear k1 k2;go_wp2_with fail;go_meet;exact ⟨K, sb_cutm, rfl⟩
    case rest =>
     obtain ⟨hV3, hsb, h2⟩ := hcut;have HS3 := hidH hsb;clear hsb;replace h2 := h2.symm;subst h2;obtain ⟨l1, hl1⟩ : ∃ l1, l1 = l.drop n := ⟨_, rfl⟩;have HL1 : Hid (oneC o l = oneH x l1) := by show _ = _; rw [HQ0.out, hl1]
     rw [← hl1] at hV3;have HV3 : Hid (Bv w2 u0 l1) := hV3;clear hl1 HQ0 HV2 hnv hvc hnc hcm;obtain ⟨c0, c1, c2, c3, c4, c5, zz⟩ := HC2.out;have z0 := zz 0; have z1 := zz 1; have z2 := zz 2; have z3 := zz 3; have z4 := zz 4; have z5 := zz 5;rcases bv_cases hV3 with ⟨rfl, ao, cap, rfl⟩ | ⟨b1, off1, cap1, rfl, hp, h1, h2, h3⟩
     ·clear zz hV3;go_wp2_with fail;refine bodyPost_ret (v := .tuple #[.agg #[.int .u64 0, .bool false, .int .u64 0, .bool false, .int .u64 0, .int .i64 0], .slice none 0 0, .int .i64 3]) (by rw [results_ctt rfl]; go_simp) rfl ?_;exact onegot_bad HL1.out rfl (below_sixB HB2.out (Nat.le_refl _) _ _ _ _ _ _)
     ·cases l1 with
      | nil => simp at hp
      | cons h r =>
      have hb0 : w2.cell? ⟨b1, off1, none⟩ = some (.int .u8 (h : Nat)) := by have h := h3 0 (by simp); rw [Nat.add_zero] at h; exact h
      have H56 : Hid (h < 256) := HV3.out.2 h (by simp);rw [List.length_cons] at *;unfold maxLen at h2;have hci : (cap1 : Int) ≤ 9223372036854775807 := by omega
      have hcl : ((r.length : Int) + 1) ≤ (cap1 : Int) := by omega
      have hcp : (1 : Int) ≤ (cap1 : Int) := by omega
      have hp1 : (0 : Int) < (r.length : Int) + 1 := by omega
      have hp2 : (1 : Int) ≤ (r.length : Int) + 1 := by omega
      have hl0 : ((r.length : Int) + 1 == 0) = false := by rw [beq_eq_false_iff_ne]; omega
      clear h1 h2 h3 hp hV3;by_cases hh3 : 3 < h
      ·have HQ : Hid (oneC o l = (4, zeroC, [])) := by show _ = _; rw [HL1.out, oneH_far hh3]
       have hh : (3 : Int) < (h : Int) := by omega
       clear zz;go_wp2_with fail;refine bodyPost_ret (v := .tuple #[.agg #[.int .u64 0, .bool false, .int .u64 0, .bool false, .int .u64 0, .int .i64 0], .slice none 0 0, .int .i64 4]) (by rw [results_ctt rfl]; go_simp) rfl ?_;exact onegot_bad HQ.out rfl (below_sixB HB2.out (Nat.le_refl _) _ _ _ _ _ _)
      ·have hh : ¬ (3 : Int) < (h : Int) := by omega
       have HW : Hid (oneC o l = oneW x h r) := by show _ = _; rw [HL1.out, oneH_go (by omega)]
       have H3 : Hid (h ≤ 3) := by show _ ≤ _; omega
       clear c0 c1 c2 c3 c4 c5 zz z0 z1 z2 z3 z4 z5 hh3 HL1;obtain ⟨t1, ht1⟩ : ∃ t, t = decide (h % 2 = 1) := ⟨_, rfl⟩;obtain ⟨t2, ht2⟩ : ∃ t, t = decide (2 ≤ h) := ⟨_, rfl⟩;obtain ⟨e1, p1, l3, hE1⟩ : ∃ a b c, oneV t1 r = (a, b, c) := ⟨_, _, _, rfl⟩;have HT1 : Hid (t1 = decide (h % 2 = 1)) := ht1;have HT2 : Hid (t2 = decide (2 ≤ h)) := ht2;have HE1 : Hid (oneV t1 r = (e1, p1, l3)) := hE1;clear ht1 ht2 hE1;go_upto_region 12 with fail
       go_cut [13, 0, 11] (fun pv u ev wx => ∃ P, pv = .pointer (some ⟨P, 0, none⟩) ∧ VBB wx P p1 ∧ Bv wx u l3 ∧ Sb u (.slice va vn vc) ∧ ev = .int .i64 (e1 : Nat) ∧ Below w.heap.size w wx ∧ CB wx w.heap.size zeroC)
       case first =>
        have ht : ((h : Int) % 2 == 1) = t1 := by rw [HT1.out]; by_cases q : h % 2 = 1 <;> simp [q] <;> omega
        have ht' : ((h % 2 : Nat) == 1) = t1 := by rw [HT1.out]; by_cases q : h % 2 = 1 <;> simp [q]
        clear hb0;obtain ⟨k1, k2⟩ := bv_cut HV3.out 1 (by simp);simp only [List.drop_succ_cons, List.drop_zero, Nat.add_sub_cancel] at k1 k2;by_cases hc1 : cap1 = 1
        ·have K := k1 hc1;clear k1 k2;subst hc1;go_wp2_with fail;refine (rvalue_walk K t1).mono ?_;rw [HE1.out];rintro e w3 ⟨u3, rfl, hb3, hs3, hB3⟩;go_wp2_with fail;go_meet;exact ⟨_, rfl, vb_newB w3 p1, hb3.below (below_alloc _ _), hs3.trans (sb_cut0.trans HS3.out), rfl, below_trans HB2.out (below_trans hB3 (below_alloc _ _)), (HC2.out.keep hB3).keep (below_alloc _ _)⟩
        ·have K := k2 hc1;clear k1 k2;go_wp2_with fail;refine (rvalue_walk K t1).mono ?_;rw [HE1.out];rintro e w3 ⟨u3, rfl, hb3, hs3, hB3⟩;go_wp2_with fail;go_meet;exact ⟨_, rfl, vb_newB w3 p1, hb3.below (below_alloc _ _), hs3.trans (sb_cutm.trans HS3.out), rfl, below_trans HB2.out (below_trans hB3 (below_alloc _ _)), (HC2.out.keep hB3).keep (below_alloc _ _)⟩
       case rest =>
        obtain ⟨P, rfl, hvb, hbv, hsb, rfl, hbel, hcb⟩ := hcut;have HSC := hidH hsb;clear hsb;have HBC := hidH hbel;have HCC := hidH hcb;have HPC : Hid (VBB wc P p1) := hvb;have HVC : Hid (Bv wc u0 l3) := hbv;clear hvb hbv hbel hcb hb0 HV3 HB2 HC2 hp1 hp2 hl0 hci hcl hcp hh;by_cases he1 : e1 = 0;rotate_left
        ·have HQ : Hid (oneC o l = (e1, zeroC, [])) := by show _ = _; rw [HW.out, oneW_p (by rw [← HT1.out]; exact HE1.out) he1]
         have hei : ((e1 : Int) != 0) = true := by rw [bne_iff_ne]; omega
         obtain ⟨c0, c1, c2, c3, c4, c5, zz⟩ := HCC.out;have z0 := zz 0; have z1 := zz 1; have z2 := zz 2; have z3 := zz 3; have z4 := zz 4; have z5 := zz 5;clear zz he1;go_wp2_with fail;refine bodyPost_ret (v := .tuple #[.agg #[.int .u64 0, .bool false, .int .u64 0, .bool false, .int .u64 0, .int .i64 0], .slice none 0 0, .int .i64 e1]) (by rw [results_ctt rfl]; go_simp) rfl ?_;exact onegot_bad HQ.out rfl (below_sixB HBC.out (Nat.le_refl _) _ _ _ _ _ _)
        ·subst he1;obtain ⟨e2, p2, l4, hE2⟩ : ∃ a b c, oneV t2 l3 = (a, b, c) := ⟨_, _, _, rfl⟩;have HE2 : Hid (oneV t2 l3 = (e2, p2, l4)) := hE2;clear hE2;obtain ⟨wd, hwd⟩ : ∃ wd, wd = wc := ⟨_, rfl⟩;rw [← hwd] at HBC HCC HPC HVC ⊢;clear hwd;go_upto_region 15 with fail
         go_cut [14, 0, 11] (fun pv u ev wx => ∃ Q, pv = .pointer (some ⟨Q, 0, none⟩) ∧ VBB wx Q p2 ∧ VBB wx P p1 ∧ Bv wx u l4 ∧ Sb u (.slice va vn vc) ∧ ev = .int .i64 (e2 : Nat) ∧ Below w.heap.size w wx ∧ CB wx w.heap.size zeroC)
         case first =>
          have ht : decide ((2 : Int) ≤ (h : Int)) = t2 := by rw [HT2.out]; congr 1; simp only [eq_iff_iff]; omega
          have ht' : decide (2 ≤ h) = t2 := HT2.out.symm;go_wp2_with fail;refine (rvalue_walk HVC.out t2).mono ?_;rw [HE2.out];rintro e w3 ⟨u3, rfl, hb3, hs3, hB3⟩;go_wp2_with fail;go_meet;exact ⟨_, rfl, vb_newB w3 p2, (HPC.out.keep hB3).keep (below_alloc _ _), hb3.below (below_alloc _ _), hs3.trans HSC.out, rfl, below_trans HBC.out (below_trans hB3 (below_alloc _ _)), (HCC.out.keep hB3).keep (below_alloc _ _)⟩
         case rest =>
          obtain ⟨Q, rfl, hvq, hvb, hbv, hsb, rfl, hbel, hcb⟩ := hcut;have HSD := hidH hsb;clear hsb HSC;have HBD := hidH hbel;have HCD := hidH hcb;have HPD : Hid (VBB wc P p1) := hvb;have HQD : Hid (VBB wc Q p2) := hvq;have HVD : Hid (Bv wc u0 l4) := hbv;clear hvq hvb hbv hbel hcb HBC HCC HPC HVC;by_cases he2 : e2 = 0;rotate_left
          ·have HQ : Hid (oneC o l = (e2, zeroC, [])) := by show _ = _; rw [HW.out, oneW_c (by rw [← HT1.out]; exact HE1.out) (by rw [← HT2.out]; exact HE2.out) he2]
           have hei : ((e2 : Int) != 0) = true := by rw [bne_iff_ne]; omega
           obtain ⟨c0, c1, c2, c3, c4, c5, zz⟩ := HCD.out;have z0 := zz 0; have z1 := zz 1; have z2 := zz 2; have z3 := zz 3; have z4 := zz 4; have z5 := zz 5;clear zz he2;go_wp2_with fail;refine bodyPost_ret (v := .tuple #[.agg #[.int .u64 0, .bool false, .int .u64 0, .bool false, .int .u64 0, .int .i64 0], .slice none 0 0, .int .i64 e2]) (by rw [results_ctt rfl]; go_simp) rfl ?_;exact onegot_bad HQ.out rfl (below_sixB HBD.out (Nat.le_refl _) _ _ _ _ _ _)
          ·subst he2;have HN4 : Hid (oneC o l = oneN x p1 p2 l4) := by show _ = _; rw [HW.out, oneW_go (by rw [← HT1.out]; exact HE1.out) (by rw [← HT2.out]; exact HE2.out)]
           have hT := Wm.take_form l4 HVD.out.2;go_wp2_with fail;refine (rtake_walk HVD.out).mono ?_;rcases hT with ⟨e, ht, h34⟩ | ⟨y, k, ht, hy, hk1, hk2, hk3⟩
           ·have he : e ≠ 0 := by omega
            have HQ : Hid (oneC o l = (e, zeroC, [])) := by show _ = _; rw [HN4.out, oneN_a ht he]
            rw [t3_litB ht];rintro e9 w2 ⟨rfl, hw2⟩;have hei : ((e : Int) != 0) = true := by rw [bne_iff_ne]; omega
            subst hw2;obtain ⟨c0, c1, c2, c3, c4, c5, zz⟩ := HCD.out;have z0 := zz 0; have z1 := zz 1; have z2 := zz 2; have z3 := zz 3; have z4 := zz 4; have z5 := zz 5;clear he h34 ht zz;go_wp2_with fail;refine bodyPost_ret (v := .tuple #[.agg #[.int .u64 0, .bool false, .int .u64 0, .bool false, .int .u64 0, .int .i64 0], .slice none 0 0, .int .i64 e]) (by rw [results_ctt rfl]; go_simp) rfl ?_;exact onegot_bad HQ.out rfl (below_sixB HBD.out (Nat.le_refl _) _ _ _ _ _ _)
           ·rw [t3_litB ht];have HT4 : Hid (Wm.take l4 = (y, k, 0)) := ht;have HK : Hid (k ≤ l4.length) := hk2;rintro e9 w9 ⟨rfl, hw9⟩;subst hw9;clear ht hk1 hk2 hk3 hy;obtain ⟨c0, c1, c2, c3, c4, c5, zz⟩ := HCD.out;have z0 := zz 0; have z1 := zz 1; have z2 := zz 2; have z3 := zz 3; have z4 := zz 4; have z5 := zz 5;clear zz;by_cases hfar : (1099511627776 : Int) < (y : Int)
            ·have HQ : Hid (oneC o l = (4, zeroC, [])) := by show _ = _; rw [HN4.out, oneN_far HT4.out (by omega)]
             go_wp2_with fail;refine bodyPost_ret (v := .tuple #[.agg #[.int .u64 0, .bool false, .int .u64 0, .bool false, .int .u64 0, .int .i64 0], .slice none 0 0, .int .i64 4]) (by rw [results_ctt rfl]; go_simp) rfl ?_;exact onegot_bad HQ.out rfl (below_sixB HBD.out (Nat.le_refl _) _ _ _ _ _ _)
            ·have HOK : Hid (oneC o l = (0, ⟨x, p1, p2, y⟩, l4.drop k)) := by show _ = _; rw [HN4.out, oneN_ok HT4.out (by omega)]
             have hwy : IntKind.i64.wrap (y : Int) = (y : Int) := by rw [IntKind.wrap_i64]; omega
             obtain ⟨va4, vn4, vc4, hv4⟩ := bv_any HVD.out;subst hv4;obtain ⟨q1, q2, q3⟩ := bv_le HVD.out;unfold maxLen at q3;have hkv : (k : Int) ≤ (vn4 : Int) := by have := HK.out; omega
             have hvv : (vn4 : Int) ≤ (vc4 : Int) := by omega
             have hkc : (k : Int) ≤ (vc4 : Int) := by omega
             have hvx : (vc4 : Int) ≤ 9223372036854775807 := by omega
             obtain ⟨k1, k2⟩ := bv_cut HVD.out k HK.out;have a0 := HPD.out.c0; have a1 := HPD.out.c1; have b0 := HQD.out.c0; have b1' := HQD.out.c1;clear q1 q2 q3;by_cases hck : vc4 = k
             ·have K := k1 hck;clear k1 k2;subst hck;go_upto_region 23 with fail
              go_region_with (fail);all_goals go_wp2_with fail
              all_goals refine bodyPost_ret (v := .tuple #[.agg #[.int .u64 x, .bool p1.h, .int .u64 p1.b, .bool p2.h, .int .u64 p2.b, .int .i64 y], .slice va4 (vn4 - vc4) 0, .int .i64 0]) (by rw [results_ctt rfl]; go_simp) rfl ?_
              all_goals exact ⟨_, by rw [HOK.out]; rfl, by rw [HOK.out]; exact (bv_six HCD.out K ⟨x, p1, p2, y⟩).below (below_drew _), sb_cut0.trans HSD.out, (below_sixB HBD.out (Nat.le_refl _) _ _ _ _ _ _).drew⟩
             ·have K := k2 hck;clear k1 k2;go_upto_region 23 with fail
              go_region_with (fail);all_goals go_wp2_with fail
              all_goals refine bodyPost_ret (v := .tuple #[.agg #[.int .u64 x, .bool p1.h, .int .u64 p1.b, .bool p2.h, .int .u64 p2.b, .int .i64 y], .slice (va4.map fun a => a.add k) (vn4 - k) (vc4 - k), .int .i64 0]) (by rw [results_ctt rfl]; go_simp) rfl ?_
              all_goals exact ⟨_, by rw [HOK.out]; rfl, by rw [HOK.out]; exact (bv_six HCD.out K ⟨x, p1, p2, y⟩).below (below_drew _), sb_cutm.trans HSD.out, (below_sixB HBD.out (Nat.le_refl _) _ _ _ _ _ _).drew⟩
def RAt (D : Nat × List Cl × List Nat) (n : Nat) (acc : List Cl) (l : List Nat) : Prop :=
 D.1 = (decS (n - acc.length) (lastK acc) l).1 ∧ (D.1 = 0 → D.2.1 = acc ++ (decS (n - acc.length) (lastK acc) l).2.1 ∧ D.2.2 = (decS (n - acc.length) (lastK acc) l).2.2)
theorem rat_start (n : Nat) (l : List Nat) : RAt (decS n none l) n [] l := ⟨rfl, fun _ => ⟨rfl, rfl⟩⟩
theorem rat_bad {D : Nat × List Cl × List Nat} {n e : Nat} {acc : List Cl} {l r : List Nat} {c : Cl} (h : RAt D n acc l) (hi : acc.length < n) (ho : oneC (lastK acc) l = (e, c, r)) (he : e ≠ 0) : D.1 = e := by
 obtain ⟨h1, _⟩ := h;rw [h1, show n - acc.length = (n - (acc.length + 1)) + 1 by omega];simp only [decS, ho];rw [if_pos he]
theorem rat_ok {D : Nat × List Cl × List Nat} {n : Nat} {acc : List Cl} {l r : List Nat} {c : Cl} (h : RAt D n acc l) (hi : acc.length < n) (ho : oneC (lastK acc) l = (0, c, r)) : RAt D n (acc ++ [c]) r := by
 obtain ⟨h1, h2⟩ := h;rw [show n - acc.length = (n - (acc.length + 1)) + 1 by omega] at h1 h2;simp only [decS, ho] at h1 h2;rw [if_neg (by simp)] at h1 h2;unfold RAt;rw [List.length_append, List.length_singleton, lastK_snoc];by_cases q : (decS (n - (acc.length + 1)) (some c.k) r).1 = 0
 ·rw [if_neg (by simpa using q)] at h1 h2;refine ⟨by rw [h1, q], fun hD => ?_⟩;obtain ⟨a, b⟩ := h2 hD;exact ⟨by rw [a]; simp, b⟩
 ·rw [if_pos q] at h1 h2;exact ⟨h1, fun hD => absurd (h1.symm.trans hD) q⟩
def RDc (n : Nat) (l0 : List Nat) (w : World) (bv cv lv iv : Value) (wr : World) : Prop :=
 ∃ (i L : Nat) (acc : List Cl) (l : List Nat), iv = .int .i64 i ∧ lv = .int .u64 L ∧ i ≤ n ∧ acc.length = i ∧ (lastK acc = if decide (i = 0) = true then none else some L) ∧ RAt (decS n none l0) n acc l ∧ Bv wr bv l ∧ (∀ y, bv.ownBlock = some y → y < w.heap.size) ∧ wr.ownsRow w.heap.size 114 6 cv acc.length (flatC acc) ∧ Below w.heap.size w wr
theorem rdecode_void (ao : Option Addr) (cap : Nat) (w : World) : Calls Tryz.prog 113 #[.slice ao 0 cap] w (DecGot [] w) := by
 go_in;go_wp2_with fail;go_ret2;exact decgot_bad (e := 0) rfl rfl (Below.refl _ _)
theorem bv_belowB {w w' : World} {v : Value} {l : List Nat} {B : Nat} (h : Bv w v l) (hm : ∀ x, v.ownBlock = some x → x < B) (hb : Below B w w') : Bv w' v l := by
 obtain ⟨⟨ao, cap, e, h1, h2, h3, h4⟩, h5⟩ := h;refine ⟨⟨ao, cap, e, h1, h2, h3, fun i hi => ?_⟩, h5⟩;obtain ⟨b, off, e1, e2⟩ := h4 i hi;exact ⟨b, off, e1, by rw [hb.cell (p := ⟨b, off + i, none⟩) (hm b (by rw [e, e1]; rfl))]; exact e2⟩
theorem rdecode_some (l : List Nat) (b off cap : Nat) (w : World) (hp : 0 < l.length) (hv : Bv w (.slice (some ⟨b, off, none⟩) l.length cap) l) (hb : b < w.heap.size) :
  Calls Tryz.prog 113 #[.slice (some ⟨b, off, none⟩) l.length cap] w (DecGot l w) := by
 have hl0 : ((l.length : Int) == 0) = false := by rw [beq_eq_false_iff_ne]; omega
 have HL0 : Hid (l.length ≠ 0) := by show _ ≠ _; omega
 have HV := hidH hv;have HLB : Hid (b < w.heap.size) := hb;have hT := Wm.take_form l hv.2;obtain ⟨_, hlc, hmx⟩ := bv_le hv;unfold maxLen at hmx;have hci : (cap : Int) ≤ 9223372036854775807 := by omega
 have hli : (l.length : Int) ≤ (cap : Int) := by omega
 clear hp hv hb hlc hmx;go_in;go_wp2_with fail;refine (rtake_walk HV.out).mono ?_;rcases hT with ⟨e, ht, h34⟩ | ⟨x, n, ht, hx, hn1, hn2, hn3⟩
 ·have he : e ≠ 0 := by omega
  have HQ : Hid (decode l = ([], e)) := decode_err ht HL0.out he;rw [t3_litB ht];rintro e9 w2 ⟨rfl, hw2⟩;have hei : ((e : Int) != 0) = true := by rw [bne_iff_ne]; omega
  replace hw2 := hw2.symm;subst hw2;clear he h34 ht;go_wp2_with fail;go_ret2;exact decgot_bad HQ.out rfl (Below.refl _ _)
 ·rw [t3_litB ht];rintro e9 w2 ⟨rfl, hw2⟩;replace hw2 := hw2.symm;subst hw2;by_cases h0 : x = 0
  ·subst h0;have HQ : Hid (decode l = ([], 4)) := decode_none ht HL0.out;clear hn1 hn2 hn3 ht hx;go_wp2_with fail;go_ret2;exact decgot_bad HQ.out rfl (Below.refl _ _)
  ·have hx0 : ((x : Int) == 0) = false := by rw [beq_eq_false_iff_ne]; omega
   by_cases h16 : 16 < x
   ·have HQ : Hid (decode l = ([], 6)) := decode_far ht HL0.out h16;have h16i : (16 : Int) < (x : Int) := by omega
    clear hn1 hn2 hn3 ht hx h0 h16;go_wp2_with fail;go_ret2;exact decgot_bad HQ.out rfl (Below.refl _ _)
   ·have h16i : ¬ (16 : Int) < (x : Int) := by omega
    have HD : Hid (decode l = decT x (l.drop n)) := decode_go ht HL0.out h0 (by omega);have hwx : IntKind.i64.wrap (x : Int) = (x : Int) := by rw [IntKind.wrap_i64]; omega
    have H16 : Hid (x ≤ 16) := by show _ ≤ _; omega
    have HN : Hid (n ≤ l.length) := hn2;have hnl : (n : Int) ≤ (l.length : Int) := by omega
    have hnc : (n : Int) ≤ (cap : Int) := by omega
    clear hn1 hn2 hn3 ht hx h0 h16;go_upto_region 10 with fail
    go_cut [0] (fun u wx => Bv w u (l.drop n) ∧ Sb u (.slice (some ⟨b, off, none⟩) l.length cap) ∧ wx = w)
    case first =>
     obtain ⟨k1, k2⟩ := bv_cut HV.out n HN.out;by_cases hc : cap = n
     ·have K := k1 hc;clear k1 k2;subst hc;go_wp2_with fail;go_meet;exact ⟨K, sb_cut0, rfl⟩
     ·have K := k2 hc;clear k1 k2;go_wp2_with fail;go_meet;exact ⟨by simpa [WideShapes.add_plain] using K, fun y hy => by simpa [Value.ownBlock] using hy, rfl⟩
    case rest =>
     obtain ⟨hV3, hsb, h2⟩ := hcut;replace h2 := h2.symm;subst h2;obtain ⟨l0, hl00⟩ : ∃ l0, l0 = l.drop n := ⟨_, rfl⟩;rw [← hl00] at hV3 HD
     have HST : Hid (RDc x l0 w u0 (.slice (some ⟨w.heap.size, 0, none⟩) 0 0) (.int .u64 0) (.int .i64 0) (w.alloc (.cells #[] 114))) :=
      ⟨0, 0, [], l0, rfl, rfl, by omega, rfl, rfl, rat_start x l0, hV3.below (below_alloc _ _), fun y hy => by have := hsb y hy; cases this; exact HLB.out, World.ownsRow_made w #[] 0 (Nat.le_refl _) (by simp [maxLen]) rfl, below_alloc _ _⟩
     clear hl00 hV3 hsb HV hnl hnc hli;go_wp2_with fail;go_loopw [0, 7, 8, 9] (fun bv cv lv iv wr => RDc x l0 w bv cv lv iv wr) (fun _ _ _ iv _ => x - (intOf iv).toNat)
     case atStart => exact HST.out
     case round =>
      clear HST;obtain ⟨i, L, acc, l', rfl, rfl, hix, hacc, hlast, hat, hbv, hbm, hown, hbel⟩ := hrel;have HBV : Hid (Bv wr u0 l') := hbv;have HBM : Hid (∀ y, u0.ownBlock = some y → y < w.heap.size) := hbm;have HAT := hidH hat;have HAC : Hid (acc.length = i) := hacc;have HLA : Hid (lastK acc = if decide (i = 0) = true then none else some L) := hlast;have HO := hidH hown;have HB := hidH hbel;clear hbv hbm hat hacc hlast hown hbel;by_cases hlt : i < x
      ·have hlti : (i : Int) < (x : Int) := by omega
       obtain ⟨fb, hfb⟩ : ∃ fb, fb = decide (i = 0) := ⟨_, rfl⟩;have hfi : ((i : Int) == 0) = fb := by rw [hfb]; by_cases q : i = 0 <;> simp [q]
       have HFB : Hid (fb = decide (i = 0)) := hfb;clear hfb;obtain ⟨e, c, r, hOne⟩ : ∃ a b c, oneC (lastK acc) l' = (a, b, c) := ⟨_, _, _, rfl⟩;have HONE : Hid (oneC (lastK acc) l' = (e, c, r)) := hOne;clear hOne;go_wp2_with fail;refine (rone_walk HBV.out L fb (o := lastK acc) (by rw [HLA.out, HFB.out])).mono ?_;rw [HONE.out];rintro e9 w3 ⟨u3, rfl, hb3, hs3, hB3⟩;have HB3 : Hid (Bv w3 u3 r) := hb3;have HM3 : Hid (∀ y, u3.ownBlock = some y → y < w.heap.size) := fun y hy => HBM.out y (hs3 y hy);have HO3 : Hid (w3.ownsRow w.heap.size 114 6 u7 acc.length (flatC acc)) := own_belowC HO.out hB3;have HL3 := hidH (below_trans HB.out hB3);clear hb3 hs3 hB3 HO HB HBV hfi;by_cases he : e = 0;rotate_left
       ·have HQ : Hid (decode l = ([], e)) := by show _ = _; rw [HD.out, decT_fault (rat_bad HAT.out (by have := HAC.out; omega) HONE.out he) he]
        have hei : ((e : Int) != 0) = true := by rw [bne_iff_ne]; omega
        clear he;go_wp2_with fail;go_ret2;exact decgot_bad HQ.out rfl (below_trans HL3.out (below_alloc _ _))
       ·subst he;have HNX : Hid (RAt (decS x none l0) x (acc ++ [c]) r) := rat_ok HAT.out (by have := HAC.out; omega) HONE.out;have HPN : Hid (∀ k, u7.ownBlock = some k → k < w3.heap.size) := fun k hk => (HO3.out.lt k hk).2;go_upto_region 19 with fail
        have HC4 : Hid (CB (w3.alloc (Obj.cells #[.int .u64 c.k, .bool c.p.h, .int .u64 c.p.b, .bool c.c.h, .int .u64 c.c.b, .int .i64 c.n] 114)) w3.heap.size c) := cb_new w3 c;have HO4 : Hid ((w3.alloc (Obj.cells #[.int .u64 c.k, .bool c.p.h, .int .u64 c.p.b, .bool c.c.h, .int .u64 c.c.b, .int .i64 c.n] 114)).ownsRow w.heap.size 114 6 u7 acc.length (flatC acc)) := HO3.out.alloc _;have HL4 : Hid (Below w.heap.size w (w3.alloc (Obj.cells #[.int .u64 c.k, .bool c.p.h, .int .u64 c.p.b, .bool c.c.h, .int .u64 c.c.b, .int .i64 c.n] 114))) := below_trans HL3.out (below_alloc _ _);have HV4 : Hid (Bv (w3.alloc (Obj.cells #[.int .u64 c.k, .bool c.p.h, .int .u64 c.p.b, .bool c.c.h, .int .u64 c.c.b, .int .i64 c.n] 114)) u3 r) := HB3.out.below (below_alloc _ _);generalize w3.alloc (Obj.cells #[.int .u64 c.k, .bool c.p.h, .int .u64 c.p.b, .bool c.c.h, .int .u64 c.c.b, .int .i64 c.n] 114) = w4 at HC4 HO4 HL4 HV4 ⊢;obtain ⟨P, hP⟩ : ∃ P, P = w3.heap.size := ⟨_, rfl⟩;rw [← hP] at HC4 HPN ⊢;clear hP HO3 HL3 HB3;obtain ⟨c0, c1, c2, c3, c4, c5, zz⟩ := HC4.out;have HLE : Hid (acc.length + 1 ≤ 17) := by show _ ≤ _; have := HAC.out; have := H16.out; omega
        go_upto_region 20 with (at_builtin; refine wpList_append_cv (by rfl) (.tmp 51) (.tmp 53) (by rfl) w.heap.size _ _ _ (by rfl) (HO4.out.alloc _) _ [c] (by rfl) (cv_one w4 c) (by have := HLE.out; simp only [maxLen, List.length_singleton]; omega) (by have := HLE.out; simp only [List.length_singleton]; omega) (by rw [size_allocC]; have := HL4.out.size; omega) ?_; intro v5 w5 hown hgrow)
        have HG5 : Hid (Below w.heap.size w4 w5) := ((below_alloc w4 _).mono HL4.out.size).trans (grown_belowC (HO4.out.alloc _) hgrow (by rw [size_allocC]; have := HL4.out.size; omega));have HL5 : Hid (Below w.heap.size w w5) := HL4.out.trans HG5.out;have HV5 : Hid (Bv w5 u3 r) := bv_belowB HV4.out HM3.out HG5.out;have HO5 : Hid (w5.ownsRow w.heap.size 114 6 v5 (acc ++ [c]).length (flatC (acc ++ [c]))) := by show World.ownsRow _ _ _ _ _ _ _; rw [List.length_append, flatC_append]; exact hown
        have HCK : Hid (w5.cell? ⟨P, 0, none⟩ = some (.int .u64 c.k)) := (Ch.of_grown (D := fun x => u7.ownBlock = some x) hgrow (fun x hx => hx)).cell (p := ⟨P, 0, none⟩) ((HC4.out.keep (below_alloc _ _)).c0) (fun hx => by have := HPN.out P hx; omega);clear hown hgrow c0 c1 c2 c3 c4 c5 zz HO4 HV4 HC4 HG5 HL4;have k0 := HCK.out;have HREL : Hid (RDc x l0 w u3 v5 (.int .u64 c.k) (.int .i64 ((i : Int) + 1)) w5) := ⟨i + 1, c.k, acc ++ [c], r, rfl, rfl, hlt, by have := HAC.out; simp; omega, by rw [lastK_snoc]; simp, HNX.out, HV5.out, HM3.out, HO5.out, HL5.out⟩;go_wp2_with fail;go_roundw
        case rel => exact HREL.out
        case measure => simp [intOf]; omega
      ·have hlti : ¬ (i : Int) < (x : Int) := by omega
       obtain rfl : i = x := by omega
       have HFIN : Hid ((decS i none l0).1 = 0 ∧ (decS i none l0).2.1 = acc ∧ (decS i none l0).2.2 = l') := by
        obtain ⟨h1, h2⟩ := HAT.out;rw [HAC.out, Nat.sub_self] at h1 h2;simp only [decS] at h1 h2;obtain ⟨a, b⟩ := h2 h1;exact ⟨h1, by rw [a]; simp, b⟩
       obtain ⟨va, vn, vc, hvv⟩ := bv_any HBV.out;subst hvv;obtain ⟨hln, _, _⟩ := bv_le HBV.out;have HLN : Hid (vn = l'.length) := hln;clear hln;by_cases hll : vn = 0
       ·have HDE : Hid (decode l = (acc, 0)) := by
         show _ = _;rw [HD.out, decT_ok HFIN.out.1 (by rw [HFIN.out.2.2, ← HLN.out]; exact hll), HFIN.out.2.1]
        subst hll;go_wp2_with fail;go_ret2;exact decgot_ok HDE.out HO.out HB.out
       ·have HDE : Hid (decode l = ([], 5)) := by
         show _ = _;rw [HD.out, decT_tail HFIN.out.1 (by rw [HFIN.out.2.2, ← HLN.out]; exact hll)]
        have hpos : (0 : Int) < (vn : Int) := by omega
        go_wp2_with fail;go_ret2;exact decgot_bad HDE.out rfl HB.out
theorem rdecode_walk {w : World} {v : Value} {l : List Nat} (h : Bv w v l) : Calls Tryz.prog 113 #[v] w (DecGot l w) := by
 rcases bv_cases h with ⟨rfl, ao, cap, rfl⟩ | ⟨b, off, cap, rfl, hp, h1, h2, h3⟩
 ·exact rdecode_void ao cap w
 ·exact rdecode_some l b off cap w hp h (cell_lt (h3 0 hp))
end Go.Proofs.YtcmklbibehnloaaGreat
