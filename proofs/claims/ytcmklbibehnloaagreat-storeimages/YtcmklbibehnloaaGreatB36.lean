/- Contracts of the reference's value and one. -/
import Derived.Test.YtcmklbibehnloaaGreatB35
set_option maxRecDepth 100000
set_option maxHeartbeats 16000000
namespace Go.Proofs.YtcmklbibehnloaaGreat
open Go.RowKit
theorem rright_walk {w : World} {v : Value} {b : List Nat} (h : Bv w v b) (hl : b.length ≤ 1024) {B : Nat} (hB : B ≤ 64) :
  Calls Tryz.prog 110 #[v, .int .i64 B] w fun e w' => Rk w b B e w' := by
 have HV : Hid (Bv w v b) := h;have HL : Hid (b.length ≤ 1024) := hl;have HBB : Hid (B ≤ 64) := hB;have hBi : (B : Int) ≤ 64 := by omega
 obtain ⟨bo, bc, rfl, hb1, hb2⟩ := bv_formD h;have hbl : (b.length : Int) ≤ 1024 := by omega
 have hbc : (b.length : Int) ≤ (bc : Int) := by omega
 have HBC : Hid (b.length ≤ bc) := hb1;have HBY : Hid (∀ c ∈ b, c < 256) := h.2;rcases Wm.take_form b h.2 with ⟨er, her, h34⟩ | ⟨g, p, htx, hx, hn1, hn2, henc⟩
 ·have HER : Hid (Wm.take b = (0, 0, er)) := her;have HNO : Hid (rootOf b B = none) := root_take her h34;clear h hl hB hb1 hb2 her;rcases h34 with rfl | rfl
  all_goals
   go_in;go_wp2_with fail;refine (rtake_walk HV.out).mono ?_;rintro e w1 ⟨he, h9⟩;have h9 := h9.symm;subst h9;rw [t3_lit HER.out] at he;subst he;go_wp2_with fail;go_ret2;exact rk_no HNO.out (below_same _)
 ·have HT : Hid (Wm.take b = (g, p, 0)) := htx;have HP : Hid (p ≤ b.length) := hn2;have hpi : (p : Int) ≤ (b.length : Int) := by omega
  clear h hl hB hb1 hb2 htx henc hx hn1 hn2;by_cases hg1 : (g : Int) < 1
  ·have HNO : Hid (rootOf b B = none) := root_gen HT.out (.inl (by omega));go_in;go_wp2_with fail;refine (rtake_walk HV.out).mono ?_;rintro e w1 ⟨he, h9⟩;have h9 := h9.symm;subst h9;rw [t3_lit HT.out] at he;subst he;go_wp2_with fail;go_ret2;exact rk_no HNO.out (below_same _)
  ·have hg1i : 1 ≤ (g : Int) := by omega
   have hgd1 : decide ((g : Int) < 1) = false := decide_eq_false hg1;clear hg1;by_cases hg2 : (1099511627776 : Int) < (g : Int)
   ·have HNO : Hid (rootOf b B = none) := root_gen HT.out (.inr (by omega));go_in;go_wp2_with fail;refine (rtake_walk HV.out).mono ?_;rintro e w1 ⟨he, h9⟩;have h9 := h9.symm;subst h9;rw [t3_lit HT.out] at he;subst he;go_wp2_with fail;go_ret2;exact rk_no HNO.out (below_same _)
   ·have HG : Hid (1 ≤ g ∧ g ≤ 1099511627776) := ⟨by omega, by omega⟩;have hgd2 : decide ((1099511627776 : Int) < (g : Int)) = false := decide_eq_false hg2;have hgl : (g : Int) ≤ 1099511627776 := by omega
    clear hg2;obtain ⟨t, n, er, hnn⟩ : ∃ t n er, Wm.takeNums (b.drop p) 8 = (t, n, er) := ⟨_, _, _, rfl⟩;have HN : Hid (Wm.takeNums (b.drop p) 8 = (t, n, er)) := hnn;have HDL : Hid ((b.drop p).length * 8 ≤ 140737488355328) := by show _ ≤ _; rw [List.length_drop]; have := HL.out; omega
    clear hnn;by_cases hcp : bc = p
    ·have HLP : Hid (b.length ≤ p) := by show _ ≤ _; have := HBC.out; omega
     have HCP : Hid (bc = p) := hcp
     have h3 : er = 3 := by
      have hh := HN.out;rw [List.drop_eq_nil_of_le HLP.out] at hh;have : Wm.takeNums [] 8 = ([], 0, 3) := rfl;rw [this] at hh;simp only [Prod.mk.injEq] at hh;exact hh.2.2.symm
     subst h3;have HNO : Hid (rootOf b B = none) := root_nums HT.out HN.out (by omega);clear hcp;go_in;go_wp2_with fail;refine (rtake_walk HV.out).mono ?_;rintro e w1 ⟨he, h9⟩;have h9 := h9.symm;subst h9;rw [t3_lit HT.out] at he;subst he;have hcp := HCP.out;have hbp : b.length = p := by have := HLP.out; omega
     clear HCP;subst hcp;go_wp2_with fail;refine (rtakenums_walk 8 (Bv.cutEnd (ao := bo) HLP.out) HDL.out (by omega)).mono ?_;rw [HN.out];rintro e w2 ⟨ao, cap, rfl, hS, hB2, hnw⟩;simp only at hS hnw ⊢;have HB2 := hidH hB2;clear hS hnw hB2;go_wp2_with fail;go_ret2;exact rk_no HNO.out HB2.out
    ·by_cases he0 : er = 0
     ·subst he0;have HNF : Hid (n ≤ (b.drop p).length ∧ t.length ≤ 8) := nums_fit (fun c hc => HBY.out c (List.mem_of_mem_drop hc)) HN.out;have hpn : (p : Int) + (n : Int) ≤ (b.length : Int) := by have h1 := HNF.out.1; rw [List.length_drop] at h1; omega
      have ht8 : (t.length : Int) ≤ 8 := by have := HNF.out.2; omega
      go_in;go_wp2_with fail;refine (rtake_walk HV.out).mono ?_;rintro e w1 ⟨he, h9⟩;have h9 := h9.symm;subst h9;rw [t3_lit HT.out] at he;subst he;go_wp2_with fail;refine (rtakenums_walk 8 (HV.out.cutFrom p HP.out hcp) HDL.out (by omega)).mono ?_;rw [HN.out];rintro e w2 ⟨ao, cap, rfl, hS, hB2, hnw⟩;simp only [ib_len] at hS hnw ⊢;have HS : Hid (Tw w2 (.slice ao t.length cap) t) := hS;have HNW : Hid (∀ x, (Value.slice ao t.length cap).ownBlock = some x → w.heap.size ≤ x) := hnw;have HB2 := hidH hB2;clear hS hnw hB2;by_cases hln : p + n = b.length
      ·have HLN : Hid (p + n = b.length) := hln;have hlb : ((p : Int) + (n : Int) != (b.length : Int)) = false := by simp; omega
       clear hln;by_cases ht1 : t.length < 1
       ·have HNO : Hid (rootOf b B = none) := root_tab HT.out HN.out (tab_no (fun h => by have := h.1; omega));have ht1i : (t.length : Int) < 1 := by omega
        go_wp2_with fail;go_ret2;exact rk_no HNO.out HB2.out
       ·have ht1i : (1 : Int) ≤ (t.length : Int) := by omega
        have ht1d : decide ((t.length : Int) < (1 : Int)) = false := decide_eq_false (by omega);by_cases hBt : B < 2 + 2 * t.length
        ·have HNO : Hid (rootOf b B = none) := root_tab HT.out HN.out (tab_no (fun h => by have := h.2.1; omega));have hBti : (B : Int) < 2 + 2 * (t.length : Int) := by omega
         go_wp2_with fail;go_ret2;exact rk_no HNO.out HB2.out
        ·have hBti : 2 + 2 * (t.length : Int) ≤ (B : Int) := by omega
         have hBtd : decide ((B : Int) < 2 + 2 * (t.length : Int)) = false := decide_eq_false (by omega);have HC12 : Hid (1 ≤ t.length ∧ 2 + 2 * t.length ≤ B) := ⟨by omega, by omega⟩;clear ht1 hBt;go_wp2_with fail;go_loopw [11] (fun iv wr => ∃ k : Nat, k ≤ t.length ∧ iv = .int .i64 k ∧ (∀ i, i < k → Cok t B i) ∧ Below w2.heap.size w2 wr) (fun iv _ => t.length - (intOf iv).toNat)
         case atStart => exact ⟨0, Nat.zero_le _, rfl, fun i hi => by omega, below_same _⟩
         case round =>
          obtain ⟨k, hk, rfl, hcok, hbr⟩ := hrel;have HCK := hidH hcok;have HBR := hidH hbr;clear hcok hbr;by_cases hlt : k < t.length
          ·obtain ⟨tb, off, rfl, hc⟩ := (HS.out.below HBR.out).at hlt;have HSR := hidH (HS.out.below HBR.out);obtain ⟨y, hy⟩ : ∃ y, y = tn t k := ⟨_, rfl⟩;rw [← hy] at hc;have HY : Hid (tn t k = y) := hy.symm;have hki : (k : Int) < (t.length : Int) := by omega
           clear hy;by_cases hy0 : y = 0
           ·have HE : Hid (∀ i, i < k + 1 → Cok t B i) := fun i hi => by
             by_cases e : i = k
             ·subst e; exact .inl (by rw [HY.out]; exact hy0)
             ·exact HCK.out i (by omega)
            have hyb : ((y : Int) == 0) = true := by simp [hy0]
            clear hy0;go_wp2_with fail;go_roundw
            case rel => exact ⟨k + 1, hlt, by simp, HE.out, HBR.out⟩
            case measure => simp [intOf]; omega
           ·have hyb : ((y : Int) == 0) = false := by simp; omega
            have HY0 : Hid (y ≠ 0) := hy0;clear hy0;by_cases hy2 : y < 2
            ·have HNO : Hid (rootOf b B = none) := root_tab HT.out HN.out (tab_no (fun h => by rcases h.2.2 k hlt with e | e; rw [HY.out] at e; exact HY0.out e; rw [HY.out] at e; omega));have hy2i : (y : Int) < 2 := by omega
             have HBX := hidH (below_trans HB2.out HBR.out);go_wp2_with fail
             (try simp only [Exit.inBlock, Exit.then])
             go_ret2;exact rk_no HNO.out HBX.out
            ·have hy2i : (2 : Int) ≤ (y : Int) := by omega
             have hy2d : decide ((y : Int) < (2 : Int)) = false := decide_eq_false (by omega);by_cases hyB : B ≤ y
             ·have HNO : Hid (rootOf b B = none) := root_tab HT.out HN.out (tab_no (fun h => by rcases h.2.2 k hlt with e | e; rw [HY.out] at e; exact HY0.out e; rw [HY.out] at e; omega));have hyBi : (B : Int) ≤ (y : Int) := by omega
              have HBX := hidH (below_trans HB2.out HBR.out);go_wp2_with fail
              (try simp only [Exit.inBlock, Exit.then])
              go_ret2;exact rk_no HNO.out HBX.out
             ·have hyBi : (y : Int) < (B : Int) := by omega
              have hyBd : decide ((B : Int) ≤ (y : Int)) = false := decide_eq_false (by omega);have HYR : Hid (2 ≤ y ∧ y < B) := ⟨by omega, by omega⟩;clear hy2 hyB;go_wp2_with fail;go_loopw [12] (fun jv wx => ∃ j : Nat, j ≤ k ∧ jv = .int .i64 j ∧ (∀ i, i < j → tn t i ≠ y) ∧ Below w2.heap.size w2 wx) (fun jv _ => k - (intOf jv).toNat)
              case atStart => exact ⟨0, Nat.zero_le _, rfl, fun i hi => by omega, HBR.out⟩
              case round =>
               obtain ⟨j, hj, rfl, hno, hbx⟩ := hrel;have HNX := hidH hno;have HBX := hidH hbx;clear hno hbx;by_cases hjk : j < k
               ·have hjl : j < t.length := by omega
                obtain ⟨tb', off', e1, m0⟩ := (HS.out.below HBX.out).at hjl
                cases e1
                obtain ⟨_, _, e2, m1⟩ := (HS.out.below HBX.out).at hlt
                cases e2
                rw [HY.out] at m1;obtain ⟨z, hz⟩ : ∃ z, z = tn t j := ⟨_, rfl⟩;rw [← hz] at m0;have HZ : Hid (tn t j = z) := hz.symm;have hjki : (j : Int) < (k : Int) := by omega
                have hjli : (j : Int) < (t.length : Int) := by omega
                clear hz;by_cases hzy : z = y
                ·have HNO : Hid (rootOf b B = none) := root_tab HT.out HN.out (tab_no (fun h => by
                  rcases h.2.2 k hlt with e | e
                  ·rw [HY.out] at e; exact HY0.out e
                  ·exact e.2.2 ((mem_take (by omega)).2 ⟨j, hjk, by rw [HZ.out, HY.out]; exact hzy⟩)))
                 have hzb : ((z : Int) == (y : Int)) = true := by simp [hzy]
                 clear hzy;go_wp2_with fail;go_quiet (fail);obtain ⟨wq, hwq⟩ : ∃ wq, wq = wr.drewN nq := ⟨_, rfl⟩;rw [← hwq];have HBQ : Hid (Below w.heap.size w wq) := by show Below _ _ _; rw [hwq]; exact below_trans (below_trans HB2.out HBX.out) (below_drewN _ _)
                 clear hwq;go_wp2_with fail
                 (try simp only [Exit.inBlock, Exit.then])
                 go_ret2;exact rk_no HNO.out HBQ.out
                ·have HE : Hid (∀ i, i < j + 1 → tn t i ≠ y) := fun i hi => by
                  by_cases e : i = j
                  ·subst e; rw [HZ.out]; exact hzy
                  ·exact HNX.out i (by omega)
                 have hzb : ((z : Int) == (y : Int)) = false := by simp; omega
                 clear hzy;go_wp2_with fail;go_quiet (fail);obtain ⟨wq, hwq⟩ : ∃ wq, wq = wr.drewN nq := ⟨_, rfl⟩;rw [← hwq];have HBQ : Hid (Below w2.heap.size w2 wq) := by show Below _ _ _; rw [hwq]; exact below_trans HBX.out (below_drewN _ _)
                 clear hwq;go_wp2_with fail;go_roundw
                 case rel => exact ⟨j + 1, hjk, by simp, HE.out, HBQ.out⟩
                 case measure => simp [intOf]; omega
               ·have hjki : ¬ (j : Int) < (k : Int) := by omega
                have HE : Hid (∀ i, i < k + 1 → Cok t B i) := fun i hi => by
                 by_cases e : i = k
                 ·subst e;refine .inr ⟨by rw [HY.out]; exact HYR.out.1, by rw [HY.out]; exact HYR.out.2, fun m => ?_⟩;obtain ⟨q, h1, h2⟩ := (mem_take (by omega)).1 m;exact HNX.out q (by omega) (by rw [h2, HY.out])
                 ·exact HCK.out i (by omega)
                go_wp2_with fail;go_roundw
                case rel => exact ⟨k + 1, hlt, by simp, HE.out, HBX.out⟩
                case measure => simp [intOf]; omega
          ·have HYE : Hid (rootOf b B = some (g, t)) := root_some HT.out HG.out.1 HG.out.2 HN.out HLN.out (tab_yes ⟨HC12.out.1, HC12.out.2, fun i hi => HCK.out i (by omega)⟩);have hki : ¬ (k : Int) < (t.length : Int) := by omega
           have hgw : IntKind.i64.wrap (g : Int) = (g : Int) := wrapU (by omega) (by omega);have HSR := hidH (HS.out.below HBR.out);have HBX := hidH (below_trans HB2.out HBR.out);go_wp2_with fail;go_ret2;exact rk_yes HYE.out HSR.out HNW.out HBX.out
      ·have HNO : Hid (rootOf b B = none) := root_len HT.out HN.out hln;have hlb : ((p : Int) + (n : Int) != (b.length : Int)) = true := by simp; omega
       clear hln;go_wp2_with fail;go_ret2;exact rk_no HNO.out HB2.out
     ·have HNO : Hid (rootOf b B = none) := root_nums HT.out HN.out he0;have heb : ((er : Int) != 0) = true := by simp; omega
      go_in;go_wp2_with fail;refine (rtake_walk HV.out).mono ?_;rintro e w1 ⟨he, h9⟩;have h9 := h9.symm;subst h9;rw [t3_lit HT.out] at he;subst he;go_wp2_with fail;refine (rtakenums_walk 8 (HV.out.cutFrom p HP.out hcp) HDL.out (by omega)).mono ?_;rw [HN.out];rintro e w2 ⟨ao, cap, rfl, hS, hB2, hnw⟩;simp only [ib_len] at hS hnw ⊢;have HB2 := hidH hB2;clear hS hnw hB2;go_wp2_with fail;go_ret2;exact rk_no HNO.out HB2.out
section
theorem ob_new {F : Value → Value → Bo → Array Value} {TB TD : TypeId} {D : Nat → Prop} {w wx : World} {dv tv : Value} {P : Bo} {S' : Dk} (hD : Dsk TD D wx dv S') (hDl : ∀ x, D x → x < w.heap.size) (hT : Tw wx tv P.tab) (htn : ∀ x, tv.ownBlock = some x → w.heap.size ≤ x ∧ x < wx.heap.size) (hok : P.ok S'.bl.length) (hC : Ch D w wx) :
  Ob F TB TD D w dv 0 (some P) S' (.returned (.tuple #[.pointer (some ⟨wx.heap.size, 0, none⟩), .int .i64 0])) (wx.alloc (.cells (F tv dv P) TB)) := by
 have hs := hC.size;refine ⟨_, rfl, (fun e => by cases e), (fun P' e => ?_), hC.self (Ch.of_below (below_alloc _ _))⟩
 cases e
 refine ⟨fun x => D x ∨ x = wx.heap.size ∨ tv.ownBlock = some x, ⟨D, wx.heap.size, tv, rfl, ⟨heap_alloc_new wx _, hT.below (below_alloc _ _), hD.below (below_alloc _ _), fun x hx => .inl hx, .inr (.inl rfl), fun e => by have := hDl _ e; omega, fun x hx => ⟨.inr (.inr hx), fun e => by have h1 := hDl _ e; have h2 := (htn x hx).1; omega, by have := (htn x hx).2; omega⟩, fun x hx => ?_, hok⟩⟩, fun x hx => ?_⟩
 ·rcases hx with q | q | q
  ·have := hDl x q; simp; omega
  ·subst q; simp
  ·have := (htn x q).2; simp; omega
 ·rcases hx with q | q | q
  ·exact .inl q
  ·exact .inr (by omega)
  ·exact .inr (htn x q).1
theorem ob_none {F : Value → Value → Bo → Array Value} {TB TD : TypeId} {D : Nat → Prop} {w wx : World} {dv : Value} {S' : Dk} {c : Int} (hD : Dsk TD D wx dv S') (hC : Ch D w wx) :
  Ob F TB TD D w dv c none S' (.returned (.tuple #[.pointer none, .int .i64 c])) wx :=
 ⟨_, rfl, (fun _ => ⟨rfl, D, hD, fun x hx => .inl hx⟩), (fun P e => by cases e), hC⟩
theorem rd_short {S : Dk} (hd : S.down = false) (hb : S.bl.length ≤ 1) : readL (rdS S 1) ((1 : Nat) : Int) = [] ∧ rdS S 2 = rdS S 1 := by
 have h1 := rd_dn hd 1;have hr : refI (rdS S 1) ((1 : Nat) : Int) = 81 := by unfold refI; rw [if_neg (by rw [h1.1]; simp), if_pos (by rw [h1.2]; right; show (S.bl.length : Int) ≤ ((1 : Nat) : Int); omega)]
 refine ⟨by unfold readL; rw [if_neg (by rw [hr]; decide)], ?_⟩;show readS (rdS S 1) ((1 : Nat) : Int) = _;unfold readS; rw [if_neg (by rw [hr]; decide)]
theorem tw_lt {w : World} {ao : Option Addr} {cap x : Nat} {t : List Nat} (h : Tw w (.slice ao t.length cap) t) (h1 : 1 ≤ t.length) (hx : (Value.slice ao t.length cap).ownBlock = some x) : x < w.heap.size := by
 obtain ⟨bb, off, e, hcell⟩ := h.at (i := 0) h1;subst e;simp [Value.ownBlock] at hx;subst hx;exact cell_lt hcell
section

variable {D : Nat → Prop} {w : World} {dv : Value} {S : Dk}

theorem ropen_down (h : Dsk 94 D w dv S) (hd : S.down = true) : Calls Tryz.prog 51 #[dv] w fun e w' => Ob hdR 147 94 D w dv (opI S) (opB S) (opS S) e w' := by
 have HD := hidH h;have HDN : Hid (S.down = true) := hd;have HO : Hid (opI S = 80 ∧ opB S = none ∧ opS S = S) := by unfold opI opB opS; rw [if_pos hd, if_pos hd, if_pos hd]; exact ⟨rfl, rfl, rfl⟩
 obtain ⟨sb, hsb⟩ : ∃ sb, dv = .pointer (some ⟨sb, 0, none⟩) := by obtain ⟨sb, _, _, e, _⟩ := h; exact ⟨sb, e⟩
 rw [HO.out.1, HO.out.2.1, HO.out.2.2];subst hsb;clear h hd;go_in;go_wp2_with fail;refine (rdown_walk HD.out).mono ?_;rw [HDN.out];rintro e w9 ⟨rfl, h9⟩;have h9 := h9.symm;subst h9;go_wp2_with fail;go_ret2;exact ob_none HD.out (Ch.refl _ _)
theorem ropen_up (h : Dsk 94 D w dv S) (hd : S.down = false) (hrd : S.rd < 4611686018427387904) : Calls Tryz.prog 51 #[dv] w fun e w' => Ob hdR 147 94 D w dv (opI S) (opB S) (opS S) e w' := by
 have HD := hidH h;have HDN : Hid (S.down = false) := hd;have hnd : ¬ S.down = true := by rw [hd]; simp
 have HO : Hid (opI S = (if heldK S 2 = none then 90 else 0) ∧ opB S = heldK S 2 ∧ opS S = rdS S 2) := by unfold opI opB opS; rw [if_neg hnd, if_neg hnd, if_neg hnd]; exact ⟨rfl, rfl, rfl⟩
 obtain ⟨sb, hsb⟩ : ∃ sb, dv = .pointer (some ⟨sb, 0, none⟩) := by obtain ⟨sb, _, _, e, _⟩ := h; exact ⟨sb, e⟩
 have HG : Hid S.ok := h.good;have HRD := hidH hrd;have HDL : Hid (∀ x, D x → x < w.heap.size) := fun x hx => h.lt hx;rw [HO.out.1, HO.out.2.1, HO.out.2.2];obtain ⟨o, ho⟩ : ∃ o, o = heldK S 2 := ⟨_, rfl⟩;rw [← ho];have HOO : Hid (o = heldK S 2) := ho;obtain ⟨c, hc⟩ : ∃ c : Int, c = if o = none then 90 else 0 := ⟨_, rfl⟩
 rw [← hc];have HCO : Hid (c = if o = none then 90 else 0) := hc;clear ho hc;subst hsb;have hbi : (S.bl.length : Int) ≤ 64 := by have := h.good.n64; omega
 clear h hd hrd hnd;go_in;go_wp2_with fail;refine (rdown_walk HD.out).mono ?_;rw [HDN.out];rintro e w9 ⟨rfl, h9⟩;have h9 := h9.symm;subst h9;go_wp2_with fail;refine (rread_walk HD.out ((0 : Nat) : Int) (by have := HRD.out; omega)).mono ?_;rintro e w1 ⟨r0, rfl, ho1, hD1, hC1⟩;obtain ⟨a, ha⟩ : ∃ a, a = readL S ((0 : Nat) : Int) := ⟨_, rfl⟩;rw [← ha] at ho1;have HFA : Hid (a.length ≤ 1024 ∧ ∀ c ∈ a, c < 256) := by rw [ha]; exact read_fit HG.out _
 have HA : Hid (a = readL (rdS S 0) ((0 : Nat) : Int)) := ha;obtain ⟨ao, ac, rfl, _, _⟩ := row_form ho1;have HV1 : Hid (Bv (w1.alloc (.cells #[] 5)) (.slice ao a.length ac) a) := (own_bv ho1 HFA.out.2).below (below_alloc _ _);have HVL : Hid (∀ x, (Value.slice ao a.length ac).ownBlock = some x → w.heap.size ≤ x) := fun x hx => (ho1.lt x hx).1;have HD1 : Hid (Dsk 94 D (w1.alloc (.cells #[] 5)) (.pointer (some ⟨sb, 0, none⟩)) (rdS S 1)) := Dsk.below (by exact hD1) (below_alloc _ _);have HC1 : Hid (Ch D w (w1.alloc (.cells #[] 5))) := hC1.self (Ch.of_below (below_alloc _ _));have HE0 : Hid (Bv (w1.alloc (.cells #[] 5)) (.slice (some ⟨w1.heap.size, 0, none⟩) 0 0) []) := ⟨⟨_, 0, rfl, Nat.le_refl _, by simp [maxLen], fun e => rfl, fun i hi => by simp [ib] at hi⟩, by simp⟩;have HL1 : Hid ((rdS S 1).bl.length = S.bl.length) := rd_len S 1;have HR1 : Hid ((rdS S 1).rd < 9223372036854775807) := by show _ < _; have h1 := rd_rd S 1; have h2 := HRD.out; omega
 clear ha ho1 hD1 hC1;go_wp2_with fail;refine (rblocks_walk HD1.out).mono ?_;rw [HL1.out];rintro e w9 ⟨rfl, h9⟩;subst h9;go_upto_if 23 with (fail);go_cut [6] (fun bv wx => ∃ uo uc bb, bv = .slice uo bb.length uc ∧ Bv wx (.slice uo bb.length uc) bb ∧ bb = readL (rdS S 1) ((1 : Nat) : Int) ∧ Dsk 94 D wx (.pointer (some ⟨sb, 0, none⟩)) (rdS S 2) ∧ Ch D (w1.alloc (.cells #[] 5)) wx)
 case first =>
  by_cases hB1 : 1 < S.bl.length
  ·have hB1i : (1 : Int) < (S.bl.length : Int) := by omega
   go_wp2_with fail;refine (rread_walk HD1.out ((1 : Nat) : Int) HR1.out).mono ?_;rintro e w2 ⟨r1, rfl, ho2, hD2, hC2⟩;obtain ⟨bb, hbb⟩ : ∃ bb, bb = readL (rdS S 1) ((1 : Nat) : Int) := ⟨_, rfl⟩;rw [← hbb] at ho2;have HFB : Hid (∀ c ∈ bb, c < 256) := by rw [hbb]; exact (read_fit (ok_read HG.out _) _).2
   obtain ⟨uo, uc, rfl, _, _⟩ := row_form ho2;have HV2 : Hid (Bv w2 (.slice uo bb.length uc) bb) := own_bv ho2 HFB.out;have HBB : Hid (bb = readL (rdS S 1) ((1 : Nat) : Int)) := hbb;have HD2 := hidH hD2;have HC2 := hidH hC2;clear ho2 hD2 hC2 hbb;go_wp2_with fail;go_meet;exact ⟨uo, uc, bb, rfl, HV2.out, HBB.out, HD2.out, HC2.out⟩
  ·have hB1i : ¬ (1 : Int) < (S.bl.length : Int) := by omega
   have HSH : Hid (readL (rdS S 1) ((1 : Nat) : Int) = [] ∧ rdS S 2 = rdS S 1) := rd_short HDN.out (by omega);go_wp2_with fail;go_meet;exact ⟨_, 0, [], rfl, HE0.out, HSH.out.1.symm, by rw [HSH.out.2]; exact HD1.out, Ch.refl _ _⟩
 case rest =>
  obtain ⟨uo, uc, bb, rfl, hVb, hbb, hDc, hCc⟩ := hcut;have HVB := hidH hVb;have HK : Hid (o = pickB (pickB none (rootOf a S.bl.length) 0) (rootOf bb S.bl.length) 1) := by show _ = _; rw [HOO.out, HA.out, hbb]; rfl
  have HFB : Hid (bb.length ≤ 1024 ∧ ∀ c ∈ bb, c < 256) := by rw [hbb]; exact read_fit (ok_read HG.out _) _
  have HDC := hidH hDc;have HCC : Hid (Ch D w wc) := HC1.out.self hCc;have HVA : Hid (Bv wc (.slice ao a.length ac) a) := (Bx.ch (D := D) (D' := D) ⟨HV1.out, .inr (fun x hx e => by have h1 := HDL.out x e; have h2 := HVL.out x hx; omega)⟩ hCc (fun x hx => .inl hx)).1;have HL2 : Hid ((rdS S 2).bl.length = S.bl.length) := rd_len S 2;have HB64 : Hid (S.bl.length ≤ 64) := HG.out.n64;clear hVb hbb hDc hCc;go_wp2_with fail;refine (rblocks_walk HDC.out).mono ?_;rw [HL2.out];rintro e w9 ⟨rfl, h9⟩;have h9 := h9.symm;subst h9;go_wp2_with fail;refine (rright_walk HVA.out HFA.out.1 HB64.out).mono ?_;rintro e w3 ⟨hno, hye, hB3⟩;have HC3 : Hid (Ch D w w3) := HCC.out.self (Ch.of_below hB3);have HD3 := hidH (HDC.out.below hB3);have HV3 := hidH (HVB.out.below hB3);have HSC : Hid (w.heap.size ≤ wc.heap.size) := HCC.out.size;clear hB3
  cases hr0 : rootOf a S.bl.length with
  | none =>
   have he := hno hr0;subst he;have HR0 : Hid (rootOf a S.bl.length = none) := hr0;clear hno hye hr0;go_wp2_with fail;refine (rblocks_walk HD3.out).mono ?_;rw [HL2.out];rintro e w9 ⟨rfl, h9⟩;have h9 := h9.symm;subst h9;go_wp2_with fail;refine (rright_walk HV3.out HFB.out.1 HB64.out).mono ?_;rintro e w4 ⟨hno, hye, hB4⟩;have HC4 : Hid (Ch D w w4) := HC3.out.self (Ch.of_below hB4);have HD4 := hidH (HD3.out.below hB4);clear hB4
   cases hr1 : rootOf bb S.bl.length with
   | none =>
    have he := hno hr1;subst he;have HOE : Hid (o = none) := by show _ = _; rw [HK.out, HR0.out, hr1]; rfl
    clear hno hye hr1;go_wp2_with fail;go_ret2;rw [HCO.out, HOE.out, if_pos rfl];exact ob_none HD4.out HC4.out
   | some q =>
    obtain ⟨g, t⟩ := q;obtain ⟨to', tc, he, hTw, hTn⟩ := hye g t hr1;subst he;have HF : Hid (1 ≤ g ∧ g ≤ 1099511627776 ∧ t.length ≤ 8 ∧ Tok t S.bl.length) := root_fit HFB.out.2 hr1;have hg1 : (1 : Int) ≤ (g : Int) := by have := HF.out.1; omega
    have hg2 : (g : Int) ≤ 1099511627776 := by have := HF.out.2.1; omega
    have hgz : ((g : Int) == 0) = false := by simp; omega
    have HTW := hidH hTw;have HTN : Hid (∀ x, (Value.slice to' t.length tc).ownBlock = some x → w.heap.size ≤ x ∧ x < w4.heap.size) := fun x hx => ⟨Nat.le_trans HC3.out.size (hTn x hx), tw_lt hTw HF.out.2.2.2.1 hx⟩;have HOE : Hid (o = some ⟨g, t, 1, false⟩) := by show _ = _; rw [HK.out, HR0.out, hr1]; rfl
    clear hno hye hr1 hTw hTn;go_wp2_with fail;go_ret2;rw [HCO.out, HOE.out, if_neg (by simp)];exact ob_new (P := ⟨g, t, 1, false⟩) HD4.out HDL.out HTW.out HTN.out (by rw [HL2.out]; exact ⟨HF.out.1, HF.out.2.1, HF.out.2.2.1, HF.out.2.2.2, Nat.le_refl _⟩) HC4.out
  | some q =>
   obtain ⟨g, t⟩ := q;obtain ⟨to', tc, he, hTw, hTn⟩ := hye g t hr0;subst he;have HF : Hid (1 ≤ g ∧ g ≤ 1099511627776 ∧ t.length ≤ 8 ∧ Tok t S.bl.length) := root_fit HFA.out.2 hr0;have hg1 : (1 : Int) ≤ (g : Int) := by have := HF.out.1; omega
   have hg2 : (g : Int) ≤ 1099511627776 := by have := HF.out.2.1; omega
   have hgz : ((g : Int) == 0) = false := by simp; omega
   have HTW := hidH hTw;have HTN : Hid (∀ x, (Value.slice to' t.length tc).ownBlock = some x → w.heap.size ≤ x ∧ x < w3.heap.size) := fun x hx => ⟨Nat.le_trans HSC.out (hTn x hx), tw_lt hTw HF.out.2.2.2.1 hx⟩;have HR0 : Hid (rootOf a S.bl.length = some (g, t)) := hr0;clear hno hye hr0 hTw hTn;go_wp2_with fail;refine (rblocks_walk HD3.out).mono ?_;rw [HL2.out];rintro e w9 ⟨rfl, h9⟩;have h9 := h9.symm;subst h9;go_wp2_with fail;refine (rright_walk HV3.out HFB.out.1 HB64.out).mono ?_;rintro e w4 ⟨hno, hye, hB4⟩;have HC4 : Hid (Ch D w w4) := HC3.out.self (Ch.of_below hB4);have HD4 := hidH (HD3.out.below hB4);have HT4 := hidH (HTW.out.below hB4);have HN4 : Hid (∀ x, (Value.slice to' t.length tc).ownBlock = some x → w.heap.size ≤ x ∧ x < w4.heap.size) := fun x hx => ⟨(HTN.out x hx).1, Nat.lt_of_lt_of_le (HTN.out x hx).2 hB4.size⟩;clear hB4
   cases hr1 : rootOf bb S.bl.length with
   | none =>
    have he := hno hr1;subst he;have HOE : Hid (o = some ⟨g, t, 0, false⟩) := by show _ = _; rw [HK.out, HR0.out, hr1]; rfl
    clear hno hye hr1;have hgn : ¬ (g : Int) < 0 := by omega
    go_wp2_with fail;go_ret2;rw [HCO.out, HOE.out, if_neg (by simp)];exact ob_new (P := ⟨g, t, 0, false⟩) HD4.out HDL.out HT4.out HN4.out (by rw [HL2.out]; exact ⟨HF.out.1, HF.out.2.1, HF.out.2.2.1, HF.out.2.2.2, Nat.zero_le _⟩) HC4.out
   | some q2 =>
    obtain ⟨g2, t2⟩ := q2;obtain ⟨to2, tc2, he, hTw, hTn⟩ := hye g2 t2 hr1;subst he;have HF2 : Hid (1 ≤ g2 ∧ g2 ≤ 1099511627776 ∧ t2.length ≤ 8 ∧ Tok t2 S.bl.length) := root_fit HFB.out.2 hr1;have hh1 : (1 : Int) ≤ (g2 : Int) := by have := HF2.out.1; omega
    have HTW2 := hidH hTw;have HTN2 : Hid (∀ x, (Value.slice to2 t2.length tc2).ownBlock = some x → w.heap.size ≤ x ∧ x < w4.heap.size) := fun x hx => ⟨Nat.le_trans HC3.out.size (hTn x hx), tw_lt hTw HF2.out.2.2.2.1 hx⟩;have HOK : Hid (o = pickB (pickB none (some (g, t)) 0) (some (g2, t2)) 1) := by show _ = _; rw [HK.out, HR0.out, hr1]
    clear hno hye hr1 hTw hTn;by_cases hgg : g < g2
    ·have hggi : (g : Int) < (g2 : Int) := by omega
     have HPK : Hid (pickB (pickB none (some (g, t)) 0) (some (g2, t2)) 1 = some ⟨g2, t2, 1, false⟩) := by show _ = _; unfold pickB; simp only; rw [if_pos hgg]
     have HOE : Hid _ := HOK.out.trans HPK.out;clear hgg;go_wp2_with fail;go_ret2;rw [HCO.out, HOE.out, if_neg (by simp)];exact ob_new (P := ⟨g2, t2, 1, false⟩) HD4.out HDL.out HTW2.out HTN2.out (by rw [HL2.out]; exact ⟨HF2.out.1, HF2.out.2.1, HF2.out.2.2.1, HF2.out.2.2.2, Nat.le_refl _⟩) HC4.out
    ·have hggi : (g2 : Int) ≤ (g : Int) := by omega
     have HPK : Hid (pickB (pickB none (some (g, t)) 0) (some (g2, t2)) 1 = some ⟨g, t, 0, false⟩) := by show _ = _; unfold pickB; simp only; rw [if_neg hgg]
     have HOE : Hid _ := HOK.out.trans HPK.out;clear hgg;go_wp2_with fail;go_ret2;rw [HCO.out, HOE.out, if_neg (by simp)];exact ob_new (P := ⟨g, t, 0, false⟩) HD4.out HDL.out HT4.out HN4.out (by rw [HL2.out]; exact ⟨HF.out.1, HF.out.2.1, HF.out.2.2.1, HF.out.2.2.2, Nat.zero_le _⟩) HC4.out
theorem ropen_walk (h : Dsk 94 D w dv S) (hrd : S.rd < 4611686018427387904) : Calls Tryz.prog 51 #[dv] w fun e w' => Ob hdR 147 94 D w dv (opI S) (opB S) (opS S) e w' := by
 cases hd : S.down
 ·exact ropen_up h hd hrd
 ·exact ropen_down h hd
end
end
section
section

variable {D : Nat → Prop} {w : World} {dv : Value} {S : Dk}

end
end
section
section

variable {A D : Nat → Prop} {w w' : World} {v dv tv lv : Value} {P P' : Bo} {S S' : Dk} {pb : Nat} {ps : List (Int × List Nat)}

end
end
section
section

variable {A D : Nat → Prop} {w w' : World} {v dv tv lv : Value} {P P' : Bo} {S S' : Dk} {pb : Nat} {ps : List (Int × List Nat)}

end
end

theorem results_ctt {fn : Func} {p u x : Tmp} {ty : TypeId} (h : fn.results = #[.cell p ty, .tmp u, .tmp x]) (tmps : Array Value) (P : Program) (w : World) :
  (results fn tmps).run P w =
   ((asAddr (tmps.getD p undef)).run P w).andThen fun a w₁ => ((loadVar ty a).run P w₁).andThen fun v w₂ => .ok (.tuple #[v, tmps.getD u undef, tmps.getD x undef]) w₂ := by
 simp only [results, h];simp [Sem.run_bind, Result.andThen]
def Sb (u v : Value) : Prop := ∀ x, u.ownBlock = some x → v.ownBlock = some x
theorem Sb.refl (v : Value) : Sb v v := fun _ h => h
theorem Sb.trans {a b c : Value} (h : Sb a b) (k : Sb b c) : Sb a c := fun x hx => k x (h x hx)
theorem sb_nil (v : Value) : Sb (.slice none 0 0) v := fun x hx => by simp [Value.ownBlock] at hx
theorem sb_cut0 {ao : Option Addr} {n c n' c' : Nat} : Sb (.slice ao n c) (.slice ao n' c') := fun x hx => by rw [own_cut0 (n' := n') (c' := c')] at hx; exact hx
theorem sb_cutm {ao : Option Addr} {k n c n' c' : Nat} : Sb (.slice (ao.map fun a => a.add k) n c) (.slice ao n' c') := fun x hx => by rw [own_cutm (n' := n') (c' := c')] at hx; exact hx
def ValGot (r : Nat × Vl × List Nat) (v : Value) (w : World) (e : Ending) (w' : World) : Prop :=
 ∃ u, e = .returned (.tuple #[.agg #[.bool r.2.1.h, .int .u64 r.2.1.b], u, .int .i64 (r.1 : Nat)]) ∧ Bv w' u r.2.2 ∧ Sb u v ∧ Below w.heap.size w w'
theorem bv_val {w : World} {b : Nat} {v : Value} {l : List Nat} {a : Vl} (hW : VBB w b a) (h : Bv w v l) (y : Bool) (n : Nat) : Bv ((w.setCell ⟨b, 0, none⟩ (.bool y)).setCell ⟨b, 1, none⟩ (.int .u64 n)) v l := by
 have h1 := h.set hW.c0 (by simp) (.bool y);refine h1.set (p := ⟨b, 1, none⟩) (u := .int .u64 (a.b : Nat)) ?_ (by simp) _;have := hW.c1;simpa [go_sem] using this
theorem rvalue_no {w : World} {v : Value} {l : List Nat} (h : Bv w v l) : Calls Tryz.prog 202 #[v, .bool false] w (ValGot (oneV false l) v w) := by
 have e1 : oneV false l = (0, noV, l) := by simp [oneV]
 rw [e1];go_in;go_wp2_with fail;refine bodyPost_ret (v := .tuple #[.agg #[.bool false, .int .u64 0], v, .int .i64 0]) (by rw [results_ctt rfl]; go_simp) rfl ?_;exact ⟨v, rfl, h.below (below_alloc _ _), Sb.refl _, below_alloc _ _⟩
theorem rvalue_short {w : World} {v : Value} {l : List Nat} (h : Bv w v l) (h8 : l.length < 8) : Calls Tryz.prog 202 #[v, .bool true] w (ValGot (oneV true l) v w) := by
 have e1 : oneV true l = (3, noV, []) := by simp [oneV, h8]
 have HT : Hid (Wm.takeW l = (0, 3)) := if_pos h8;rw [e1];have HV : Hid (Bv (w.alloc (Obj.cells #[.bool false, .int .u64 0] 53)) v l) := h.below (below_alloc _ _);clear h h8 e1;go_in;go_wp2_with fail;refine (rtakew_walk HV.out).mono ?_;rw [t2_litB HT.out];rintro e w2 ⟨rfl, hw2⟩;have HB2 : Hid (Below w.heap.size w w2) := by show Below _ _ _; rw [hw2]; exact below_alloc _ _
 have hc0 : w2.cell? ⟨w.heap.size, 0, none⟩ = some (.bool false) := by rw [hw2]; simp [go_sem]
 have hc1 : w2.cell? ⟨w.heap.size, 1, none⟩ = some (.int .u64 0) := by rw [hw2]; simp [go_sem]
 have hz : ∀ j, w2.frozen? ⟨w.heap.size, j, none⟩ = false := by intro j; rw [hw2]; simp [go_sem]
 have z0 := hz 0;have z1 := hz 1;have HD : Hid (∀ u u', Below w.heap.size w ((w2.setCell ⟨w.heap.size, 0, none⟩ u).setCell ⟨w.heap.size, 1, none⟩ u')) := fun u u' => (HB2.out.setCell (Nat.le_refl _) u).setCell (Nat.le_refl _) u';clear hw2 hz;go_wp2_with fail;refine bodyPost_ret (v := .tuple #[.agg #[.bool false, .int .u64 0], .slice none 0 0, .int .i64 3]) (by rw [results_ctt rfl]; go_simp) rfl ?_;exact ⟨_, rfl, Bv.nil _, sb_nil _, HD.out _ _⟩
theorem rvalue_far {w : World} {l : List Nat} {b off cap : Nat} (h : Bv w (.slice (some ⟨b, off, none⟩) l.length cap) l) (h8 : 8 ≤ l.length) (hce : ¬ cap = 8) : Calls Tryz.prog 202 #[.slice (some ⟨b, off, none⟩) l.length cap, .bool true] w (ValGot (oneV true l) (.slice (some ⟨b, off, none⟩) l.length cap) w) := by
 obtain ⟨X, hX⟩ : ∃ X, Wm.unw (l.take 8) = X := ⟨_, rfl⟩;have e1 : oneV true l = (0, ⟨true, X⟩, l.drop 8) := by rw [← hX]; unfold oneV; rw [if_neg (by simp), if_neg (by omega)]
 have HT : Hid (Wm.takeW l = (X, 0)) := by show _ = _; rw [← hX]; exact if_neg (by omega)
 rw [e1];obtain ⟨_, hlc, hmx⟩ := bv_le h;unfold maxLen at hmx;have hci : (cap : Int) ≤ 9223372036854775807 := by omega
 have hli : (l.length : Int) ≤ (cap : Int) := by omega
 have hl8 : (8 : Int) ≤ (l.length : Int) := by omega
 have hc8 : (8 : Int) ≤ (cap : Int) := by omega
 have H8 : Hid (8 ≤ l.length) := h8;have HLC : Hid (l.length ≤ cap) := hlc;have HV : Hid (Bv (w.alloc (Obj.cells #[.bool false, .int .u64 0] 53)) (.slice (some ⟨b, off, none⟩) l.length cap) l) := h.below (below_alloc _ _);have hce' : ¬ (cap : Int) = 8 := by omega
 have HNE : Hid (¬ cap = 8) := hce;clear h h8 e1 hX hlc hmx;go_in;go_wp2_with fail;refine (rtakew_walk HV.out).mono ?_;rw [t2_litB HT.out];rintro e w2 ⟨rfl, hw2⟩;have HB2 : Hid (Below w.heap.size w w2) := by show Below _ _ _; rw [hw2]; exact below_alloc _ _
 have HV2 : Hid (Bv w2 (.slice (some ⟨b, off, none⟩) l.length cap) l) := by show Bv _ _ _; rw [hw2]; exact HV.out
 have HW2 : Hid (VBB w2 w.heap.size noV) := by show VBB _ _ _; rw [hw2]; exact vb_newB w noV
 clear hw2 HV;have HC2 : Hid (Bv w2 (.slice (some ⟨b, off + 8, none⟩) (l.length - 8) (cap - 8)) (l.drop 8)) := by show Bv _ _ _; have := cut_any HV2.out rfl 8 H8.out HNE.out; simpa [Addr.add] using this
 have HD : Hid (∀ u u', Below w.heap.size w ((w2.setCell ⟨w.heap.size, 0, none⟩ u).setCell ⟨w.heap.size, 1, none⟩ u').drew) := fun u u' => ((HB2.out.setCell (Nat.le_refl _) u).setCell (Nat.le_refl _) u').drew;obtain ⟨y0, y1, yz⟩ := HW2.out;have z0 := yz 0;have z1 := yz 1;clear yz;go_upto_region 6 with fail
 go_region_with (fail);all_goals go_wp2_with fail
 all_goals refine bodyPost_ret (v := .tuple #[.agg #[.bool true, .int .u64 X], .slice (some ⟨b, off + 8, none⟩) (l.length - 8) (cap - 8), .int .i64 0]) (by rw [results_ctt rfl]; go_simp) rfl ?_
 all_goals exact ⟨_, rfl, (bv_val HW2.out HC2.out _ _).below (below_drew _), sb_cutm (k := 8) (ao := some ⟨b, off, none⟩), HD.out _ _⟩
theorem rvalue_near {w : World} {l : List Nat} {b off cap : Nat} (h : Bv w (.slice (some ⟨b, off, none⟩) l.length cap) l) (h8 : 8 ≤ l.length) (hce : cap = 8) : Calls Tryz.prog 202 #[.slice (some ⟨b, off, none⟩) l.length cap, .bool true] w (ValGot (oneV true l) (.slice (some ⟨b, off, none⟩) l.length cap) w) := by
 obtain ⟨X, hX⟩ : ∃ X, Wm.unw (l.take 8) = X := ⟨_, rfl⟩;have e1 : oneV true l = (0, ⟨true, X⟩, l.drop 8) := by rw [← hX]; unfold oneV; rw [if_neg (by simp), if_neg (by omega)]
 have HT : Hid (Wm.takeW l = (X, 0)) := by show _ = _; rw [← hX]; exact if_neg (by omega)
 rw [e1];obtain ⟨_, hlc, hmx⟩ := bv_le h;unfold maxLen at hmx;have hci : (cap : Int) ≤ 9223372036854775807 := by omega
 have hli : (l.length : Int) ≤ (cap : Int) := by omega
 have hl8 : (8 : Int) ≤ (l.length : Int) := by omega
 have hc8 : (8 : Int) ≤ (cap : Int) := by omega
 have H8 : Hid (8 ≤ l.length) := h8;have HLC : Hid (l.length ≤ cap) := hlc;have HV : Hid (Bv (w.alloc (Obj.cells #[.bool false, .int .u64 0] 53)) (.slice (some ⟨b, off, none⟩) l.length cap) l) := h.below (below_alloc _ _);subst hce;clear h h8 e1 hX hlc hmx;go_in;go_wp2_with fail;refine (rtakew_walk HV.out).mono ?_;rw [t2_litB HT.out];rintro e w2 ⟨rfl, hw2⟩;have HB2 : Hid (Below w.heap.size w w2) := by show Below _ _ _; rw [hw2]; exact below_alloc _ _
 have HV2 : Hid (Bv w2 (.slice (some ⟨b, off, none⟩) l.length 8) l) := by show Bv _ _ _; rw [hw2]; exact HV.out
 have HW2 : Hid (VBB w2 w.heap.size noV) := by show VBB _ _ _; rw [hw2]; exact vb_newB w noV
 clear hw2 HV;have HC2 : Hid (Bv w2 (.slice (some ⟨b, off, none⟩) (l.length - 8) 0) (l.drop 8)) := by show Bv _ _ _; rw [show l.length - 8 = 0 from by have := HLC.out; omega]; exact cut_end HLC.out
 have HD : Hid (∀ u u', Below w.heap.size w ((w2.setCell ⟨w.heap.size, 0, none⟩ u).setCell ⟨w.heap.size, 1, none⟩ u').drew) := fun u u' => ((HB2.out.setCell (Nat.le_refl _) u).setCell (Nat.le_refl _) u').drew;obtain ⟨y0, y1, yz⟩ := HW2.out;have z0 := yz 0;have z1 := yz 1;clear yz;go_upto_region 6 with fail
 go_region_with (fail);all_goals go_wp2_with fail
 all_goals refine bodyPost_ret (v := .tuple #[.agg #[.bool true, .int .u64 X], .slice (some ⟨b, off, none⟩) (l.length - 8) 0, .int .i64 0]) (by rw [results_ctt rfl]; go_simp) rfl ?_
 all_goals exact ⟨_, rfl, (bv_val HW2.out HC2.out _ _).below (below_drew _), sb_cut0, HD.out _ _⟩
theorem rvalue_walk {w : World} {v : Value} {l : List Nat} (h : Bv w v l) (t : Bool) : Calls Tryz.prog 202 #[v, .bool t] w (ValGot (oneV t l) v w) := by
 cases t
 ·exact rvalue_no h
 ·by_cases h8 : l.length < 8
  ·exact rvalue_short h h8
  ·rcases bv_cases h with ⟨rfl, _⟩ | ⟨b, off, cap, rfl, _⟩
   ·simp at h8
   ·by_cases hce : cap = 8
    ·exact rvalue_near h (by omega) hce
    ·exact rvalue_far h (by omega) hce
end Go.Proofs.YtcmklbibehnloaaGreat
