/- Deal: the reference's. -/
import Derived.Test.YtombjgfajbhbbaaGreatB39
import Derived.Deep.CutBlock
set_option maxRecDepth 100000
set_option maxHeartbeats 16000000
namespace Go.Proofs.YtombjgfajbhbbaaGreat
open Go.RowKit
section
open Ieee Go.RowKit

theorem with_new (kind : Int) {g cap B k : Nat} {t : List Pr} {v : Vl} (w : World) (hO : Ow w g cap t) (hB : B ≤ g) (hr : Rise t) (hv : v.ok) (hat : ∀ hl : posT k t < t.length, t[posT k t].k ≠ k) (hsz : (t.length + 1) * 24 ≤ 140737488355328) :
  Calls Tryz.prog 105 #[.int .i64 kind, .slice (some ⟨g, 0, none⟩) t.length cap, .int .u64 k, .agg #[.bool v.h, .int .u64 v.b]] w fun e w' => ∃ g' cap', e = .returned (.slice (some ⟨g', 0, none⟩) (withT kind k v t).length cap') ∧ Ow w' g' cap' (withT kind k v t) ∧ B ≤ g' ∧ Below B w w' := by
 have HO : Hid (Ow w g cap t) := hO;have HBG : Hid (B ≤ g) := hB;have HV : Hid v.ok := hv;have HL : Hid (t.length ≤ maxLen) := Nat.le_trans hO.2.1 hO.2.2.1;have HSZ := hidH hsz;have hli : (t.length : Int) ≤ 5864062014805 := by omega
 have hpl : posT k t ≤ t.length := pos_le k t;obtain ⟨F, hF⟩ : ∃ F, F = fitV kind v := ⟨_, rfl⟩;have HF : Hid (fitV kind v = F) := hF.symm
 have HW : Hid (withT kind k v t = t.take (posT k t) ++ ⟨k, F⟩ :: t.drop (posT k t)) := by
  show _ = _;unfold withT;rw [(put_new hr _ hat).1, (put_new hr noV hat).2, no_merge, hF]
 have HWL : Hid ((withT kind k v t).length = t.length + 1) := by show _ = _; rw [HW.out]; exact shift_len hpl _
 obtain ⟨i0, hi0, hz0, hz1, hz2⟩ := info_partsQ info_pair;have HI0 : Hid (Tryz.prog.info? 66 = some i0) := hi0;have HI1 : Hid (i0.zero = some (.agg #[.int .u64 0, .bool false, .int .u64 0])) := hz0;have HI2 : Hid (i0.size = 3) := hz1;have HI3 : Hid (i0.bytes = 24) := hz2;have HAT := hidH hat;clear hF hO hv hr hsz hB hi0 hz0 hz1 hz2 hat;go_in;go_wp2_with fail;have hv0 : VB (w.alloc (Obj.cells #[.bool v.h, .int .u64 v.b] 64)) w.heap.size v := by constructor <;> simp [go_sem]
 refine (rplace_walk HL.out (mq_ql (HO.out.below (below_alloc w (Obj.cells #[.bool v.h, .int .u64 v.b] 64))).2.2.2) k).mono ?_;rintro e w1 ⟨rfl, hB1⟩;have HB1 : Hid (Below w.heap.size w w1) := below_trans (below_alloc _ _) hB1;have HV1 : Hid (VB w1 w.heap.size v) := hv0.below hB1 (cell_lt hv0.c0);have HO1 : Hid (Ow w1 g cap t) := HO.out.below HB1.out;have HG1 : Hid (g < w1.heap.size) := HO1.out.lt;have HGW : Hid (g < w.heap.size) := HO.out.lt;clear hB1 hv0;go_upto_region 2 with (fail)
 go_cut [26] (fun c wx => c = .bool false ∧ wx = w1)
 case first =>
  by_cases hat : posT k t < t.length
  ·obtain ⟨⟨m0, _, _⟩, _⟩ := HO1.out.2.2.2 (posT k t) hat;have hne := HAT.out hat;generalize t[posT k t].k = y at m0 hne;have hkb : ((y : Int) == (k : Int)) = false := by simp; omega
   have hai : ((posT k t : Nat) : Int) < (t.length : Int) := by omega
   clear hne;go_wp2_with fail;go_meet;exact ⟨rfl, rfl⟩
  ·have hai : ¬ (((posT k t : Nat) : Int) < (t.length : Int)) := by omega
   go_wp2_with fail;go_meet;exact ⟨rfl, rfl⟩
 case rest =>
  obtain ⟨rfl, rfl⟩ := hcut;obtain ⟨w1, hw1⟩ : ∃ w1, w1 = wc := ⟨_, rfl⟩;subst hw1;go_wp2_with (at_builtin; refine wpList_append_qg (by rfl) _ _ 46 (by rfl) B 66 i0 Tryz.underlying46 HI0.out HI1.out HI2.out HI3.out _ t.length t (by rfl) ((own_of_ow HO1.out HBG.out).alloc _) _ zP (by rfl) (by simp [go_sem, zP]) (by simp [go_sem, zP, noV]) (by simp [go_sem, zP, noV]) (by have := HSZ.out; simp only [maxLen]; omega) HSZ.out (by have := HG1.out; have := HBG.out; simp; omega) ?_; intro g2 cap2 w2 hown2 hgrow2);obtain ⟨hO2, hb2, _⟩ := ow_of_own hown2;have HO2 := hidH hO2;have HB2G : Hid (B ≤ g2) := hb2
  have HB2 : Hid (Below B w w2) := by
   have h1 : Below B w w1 := HB1.out.mono (Nat.le_trans HBG.out (Nat.le_of_lt HGW.out));exact (h1.alloc (Nat.le_trans HBG.out (Nat.le_of_lt HG1.out)) _).grown hgrow2 (by have := HG1.out; have := HBG.out; simp; omega) (by simp [Value.ownBlock]; exact HBG.out)
  have HV2 : Hid (VB w2 w.heap.size v) := by
   have h1 := HV1.out.below (below_alloc w1 (Obj.cells #[.int .u64 0, .bool false, .int .u64 0] 66)) (cell_lt HV1.out.c0);have hb := hgrow2.block w.heap.size (cell_lt h1.c0) (by have := HGW.out; simp [Value.ownBlock]; omega);exact ⟨by rw [World.cell?_of_block (w := w1.alloc _) hb]; exact h1.c0, by rw [World.cell?_of_block (w := w1.alloc _) hb]; exact h1.c1, by rw [World.frozen?_of_block (w := w1.alloc _) hb]; exact h1.z0, by rw [World.frozen?_of_block (w := w1.alloc _) hb]; exact h1.z1⟩
  have HGV : Hid (g2 ≠ w.heap.size) := by
   intro he;have hc := HV2.out.c0;obtain ⟨⟨m0, _, _⟩, _⟩ := HO2.out.2.2.2 0 (by simp);rw [he, Nat.zero_mul, hc] at m0
   cases m0
  have HAPP : Hid (Ow w2 g2 cap2 (t.take t.length ++ zP :: t.drop t.length)) := by
   have := HO2.out;show Ow _ _ _ _;rw [List.take_length, List.drop_length];exact this
  clear hown2 hgrow2 hO2 hb2;have R0 : Wh w B g2 cap2 w.heap.size v t (posT k t) (.int .i64 t.length) w2 := ⟨t.length, zP, hpl, Nat.le_refl _, rfl, HAPP.out, HV2.out, HB2.out⟩;generalize hNe : t.length + 1 = N;have HN : Hid (t.length + 1 = N) := hNe;have hw9 : IntKind.i64.wrap ((N : Int) - 1) = (t.length : Int) := by rw [wrap_small (by omega) (by omega)]; omega
  have hNi : (N : Int) ≤ 5864062014806 := by omega
  clear hNe;go_wp2_with fail;go_loopw [10] (fun iv wr => Wh w B g2 cap2 w.heap.size v t (posT k t) iv wr) (fun iv _ => (intOf iv).toNat)
  case atStart => exact R0
  case round =>
   clear R0 hw9;obtain ⟨i, x, hai, hil, rfl, hO, hVB, hBB⟩ := hrel;have HOI := hidH hO;have HVI : Hid (VB wr w.heap.size v) := hVB;have HBI : Hid (Below B w wr) := hBB;clear hO hVB hBB;have hl1 := shift_len hil x;by_cases hgt : posT k t < i
   ·obtain ⟨j, hj⟩ : ∃ j, i = j + 1 := ⟨i - 1, by omega⟩;subst hj;have hjt : j < t.length := by omega
    obtain ⟨⟨m0, m1, m2⟩, _⟩ := HOI.out.2.2.2 j (by omega);rw [shift_get hjt] at m0 m1 m2;obtain ⟨⟨n0, n1, n2⟩, y0, y1, y2⟩ := HOI.out.2.2.2 (j + 1) (by omega);have R' := HOI.out.set (j := j + 1) (by omega) t[j];rw [shift_step hjt] at R';generalize t[j] = o at m0 m1 m2 R';generalize (t.take (j + 1) ++ x :: t.drop (j + 1))[j + 1].k = z0 at n0;generalize (t.take (j + 1) ++ x :: t.drop (j + 1))[j + 1].v.h = z1 at n1;generalize (t.take (j + 1) ++ x :: t.drop (j + 1))[j + 1].v.b = z2 at n2;have hgi : ((posT k t : Nat) : Int) < ((j : Int) + 1) := by omega
    have hwj : IntKind.i64.wrap (j : Int) = j := wrap_small (by omega) (by omega);have hwk : IntKind.i64.wrap (((j + 1 : Nat) : Int) - 1) = j := by rw [wrap_small (by omega) (by omega)]; omega
    have hj1 : j + 1 < N := by have := HN.out; omega
    have hj0 : j < N := by omega
    have HR2 : Hid (Wh w B g2 cap2 w.heap.size v t (posT k t) (.int .i64 (j : Int)) (((wr.setCell ⟨g2, (j + 1) * 3, none⟩ (.int .u64 o.k)).setCell ⟨g2, (j + 1) * 3 + 1, none⟩ (.bool o.v.h)).setCell ⟨g2, (j + 1) * 3 + 2, none⟩ (.int .u64 o.v.b))) :=
     ⟨j, o, by omega, by omega, rfl, R', ((HVI.out.other (by simpa using HGV.out.symm) _).other (by simpa using HGV.out.symm) _).other (by simpa using HGV.out.symm) _, keep3 HBI.out HB2G.out _ _ _ _ _ _⟩
    clear R' hgt hai hil hl1;go_wp2_with fail;go_roundw
    case rel => exact HR2.out
    case measure => simp [intOf]
   ·have hei : i = posT k t := by omega
    have HOE : Hid (Ow wr g2 cap2 (t.take (posT k t) ++ x :: t.drop (posT k t))) := by rw [← hei]; exact HOI.out
    have hgi : ¬ (((posT k t : Nat) : Int) < (i : Int)) := by omega
    obtain ⟨c0, c1, _, _⟩ := HVI.out;clear hgt hai hil hl1 hei;go_wp2_with fail;refine (rfit_walk kind HV.out _).mono ?_;rw [HF.out];rintro e w5 ⟨rfl, hB5⟩;have HO5 := hidH (HOE.out.below hB5);have HB5 : Hid (Below B w w5) := below_both HBI.out (Nat.le_trans HB2G.out (Nat.le_of_lt HOI.out.lt)) hB5;clear hB5 c0 c1;have hlp := shift_len hpl x;obtain ⟨⟨n0, n1, n2⟩, y0, y1, y2⟩ := HO5.out.2.2.2 (posT k t) (by omega);have R' := HO5.out.set (j := posT k t) (by omega) ⟨k, F⟩;rw [shift_end hpl] at R';have HR' := hidH R';clear R';generalize (t.take (posT k t) ++ x :: t.drop (posT k t))[posT k t].k = z0 at n0;generalize (t.take (posT k t) ++ x :: t.drop (posT k t))[posT k t].v.h = z1 at n1;generalize (t.take (posT k t) ++ x :: t.drop (posT k t))[posT k t].v.b = z2 at n2;have hpi : posT k t < N := by have := HN.out; omega
    clear hlp hgi hpl;go_wp2_with fail;go_ret;refine ⟨g2, cap2, ?_, ?_, HB2G.out, ?_⟩
    ·rw [HWL.out, HN.out]; rfl
    ·rw [HW.out]; exact HR'.out
    ·exact keep3 HB5.out HB2G.out _ _ _ _ _ _
theorem rwith_walk (kind : Int) {g cap B k : Nat} {t : List Pr} {v : Vl} (w : World) (hO : Ow w g cap t) (hB : B ≤ g) (hr : Rise t) (ht : okT t) (hv : v.ok) (hsz : (t.length + 1) * 24 ≤ 140737488355328) :
  Calls Tryz.prog 105 #[.int .i64 kind, .slice (some ⟨g, 0, none⟩) t.length cap, .int .u64 k, .agg #[.bool v.h, .int .u64 v.b]] w fun e w' => ∃ g' cap', e = .returned (.slice (some ⟨g', 0, none⟩) (withT kind k v t).length cap') ∧ Ow w' g' cap' (withT kind k v t) ∧ B ≤ g' ∧ Below B w w' := by
 by_cases h : ∃ hl : posT k t < t.length, t[posT k t].k = k
 ·obtain ⟨hl, he⟩ := h;exact with_found kind w hO hB ht hv hl he
 ·exact with_new kind w hO hB hr hv (fun hl he => h ⟨hl, he⟩) hsz
end
section
open Ieee Go.RowKit

attribute [local go_sem] run_store_float
def Rb (w : World) (B : Nat) (l : List Stp) (kind : Int) (recs : List Rcd) (tv nv iv : Value) (wr : World) : Prop :=
 ∃ i g cap : Nat, i ≤ recs.length ∧ iv = .int .i64 i ∧ nv = .int .i64 (trapN l (recs.take i)) ∧ tv = .slice (some ⟨g, 0, none⟩) (batchT l kind (recs.take i)).length cap ∧ Ow wr g cap (batchT l kind (recs.take i)) ∧ B ≤ g ∧ Below w.heap.size w wr
theorem rb_keep {w wr w9 w10 : World} {B i g' cap' : Nat} {l : List Stp} {kind : Int} {recs : List Rcd} (hi : i < recs.length) {r : Rcd} (hr : r = recs[i]) (hf : (runS l r).1 = 1) (hb : w.heap.size ≤ B)
  (hB : Below w.heap.size w wr) (h9 : Below wr.heap.size wr w9) (h10 : Below B w9 w10) (hg : B ≤ g') (hO : Ow w10 g' cap' (withT kind (runS l r).2.k (ofV kind (runS l r).2.x) (batchT l kind (recs.take i)))) :
  Rb w B l kind recs (.slice (some ⟨g', 0, none⟩) (withT kind (runS l r).2.k (ofV kind (runS l r).2.x) (batchT l kind (recs.take i))).length cap') (.int .i64 (trapN l (recs.take i))) (.int .i64 ((i : Int) + 1)) w10 := by
 have e : batchT l kind (recs.take (i + 1)) = withT kind (runS l r).2.k (ofV kind (runS l r).2.x) (batchT l kind (recs.take i)) := by
  unfold batchT;rw [kept_snoc l kind recs hi, ← hr, kept_one hf, adds_snoc]
 have h2 := below_trans hB h9;refine ⟨i + 1, g', cap', hi, by simp, ?_, by rw [e], by rw [e]; exact hO, hg, h2.trans (h10.mono hb)⟩;rw [trap_snoc l recs hi, ← hr, if_neg (by omega), Nat.add_zero]
theorem rb_skip {w wr w1 : World} {B i n g cap : Nat} {l : List Stp} {kind : Int} {recs : List Rcd} (hi : i < recs.length) {r : Rcd} (hr : r = recs[i]) (hf : (runS l r).1 ≠ 1) (hn : n = if (runS l r).1 = 3 then 1 else 0)
  (hB : Below w.heap.size w wr) (h1 : Below wr.heap.size wr w1) (hO : Ow wr g cap (batchT l kind (recs.take i))) (hg : B ≤ g) :
  Rb w B l kind recs (.slice (some ⟨g, 0, none⟩) (batchT l kind (recs.take i)).length cap) (.int .i64 ((trapN l (recs.take i) + n : Nat) : Int)) (.int .i64 ((i : Int) + 1)) w1 := by
 have e : batchT l kind (recs.take (i + 1)) = batchT l kind (recs.take i) := by
  unfold batchT;rw [kept_snoc l kind recs hi, ← hr, kept_none hf, List.append_nil]
 refine ⟨i + 1, g, cap, hi, by simp, ?_, by rw [e], by rw [e]; exact hO.below h1, hg, below_trans hB h1⟩;rw [trap_snoc l recs hi, ← hr, hn]
theorem rbatch_good {lv rv : Value} {l : List Stp} {kind : Int} {recs : List Rcd} {w : World} (ho : Ov w lv l) (hr : Rv w rv recs) (hc : checkB l = true) (hk : knownB kind = true) (hsz : recs.length ≤ 4096) :
  Calls Tryz.prog 77 #[lv, .int .i64 kind, rv] w fun e w' => ∃ g cap, e = .returned (.tuple #[.slice (some ⟨g, 0, none⟩) (batchT l kind recs).length cap, .int .i64 (trapN l recs), .int .i64 0]) ∧ Ow w' g cap (batchT l kind recs) ∧ Below w.heap.size w w' := by
 have HV : Hid (Ov w lv l) := ho;obtain ⟨⟨ao, cap, rfl, h1, h2, h3, h4⟩, h5⟩ := ho;obtain ⟨⟨ro, rcap, rfl, r1, r2, r3, r4⟩, r5⟩ := hr;have HO : Hid (Ol w ao l) := h4;have HRL : Hid (Rl w ro recs) := r4;have HRO := hidH r5;have HL : Hid (l.length ≤ maxLen) := Nat.le_trans h1 h2;have HSZ := hidH hsz;have hli : (recs.length : Int) ≤ 4096 := by omega
 have HC : Hid (chkI l = 0) := by show _ = _; unfold chkI; rw [hc]; rfl
 clear h1 h2 h3 h4 h5 r1 r2 r3 r4 r5 hc hsz;go_in;go_wp2_with fail;refine (rcheck_walk HL.out HO.out).mono ?_;rw [HC.out];rintro e w1 ⟨rfl, hB⟩;have HB1 := hidH hB;clear hB;go_wp2_with (go_at_call 56; refine (rknown_walk _ _).mono ?_; rw [hk]; rintro e w9 ⟨rfl, h9⟩; have h9 := h9.symm; subst h9)
 have R0 : Rb w w1.heap.size l kind recs (.slice (some ⟨w1.heap.size, 0, none⟩) 0 0) (.int .i64 0) (.int .i64 0) (w1.alloc (Obj.cells #[] 66)) :=
  ⟨0, w1.heap.size, 0, Nat.zero_le _, rfl, by simp [trapN], rfl, (ow_of_own (t := []) (by simpa [flatQ] using World.ownsRow_lit (base := w1.heap.size) (e := 66) (size := 3) w1 #[] 0 (Nat.le_refl _) (by simp [maxLen]) (by simp))).1, Nat.le_refl _, below_trans HB1.out (below_alloc _ _)⟩
 have HMB : Hid (w.heap.size ≤ w1.heap.size) := HB1.out.size;go_loopw [9, 10, 11] (fun tv nv iv wr => Rb w w1.heap.size l kind recs tv nv iv wr) (fun _ _ iv _ => recs.length - (intOf iv).toNat)
 case atStart => exact R0
 case round =>
  clear R0;obtain ⟨i, g, gcap, hi, rfl, rfl, rfl, hO, hgB, hB⟩ := hrel;have HOW := hidH hO;have HGB : Hid (w1.heap.size ≤ g) := hgB;have HB := hidH hB;clear hO hgB hB;by_cases hlt : i < recs.length
  ·obtain ⟨b, off, rfl, c0, c1⟩ := HRL.out.below HB.out i hlt;obtain ⟨r, hre⟩ : ∃ r, r = recs[i] := ⟨_, rfl⟩;rw [← hre] at c0 c1;have HE : Hid (r = recs[i]) := hre;have HROK : Hid r.ok := by rw [hre]; exact HRO.out _ (List.getElem_mem hlt)
   clear hre;obtain ⟨R, hR⟩ : ∃ R, R = runS l r := ⟨_, rfl⟩;have HR : Hid (R = runS l r) := hR;have HKO : Hid R.2.ok := by show R.2.ok; rw [hR]; exact runS_ok l HROK.out
   clear hR;have hil : (i : Int) < (recs.length : Int) := by omega
   go_wp2_with fail;refine (rrun_walk r HROK.out (HV.out.below HB.out)).mono ?_;rw [← HR.out];rintro e w3 ⟨rfl, hB3⟩;have HB3 := hidH hB3;clear hB3;by_cases hf1 : R.1 = 1
   ·have HF : Hid (R.1 = 1) := hf1;rw [hf1];clear hf1 c0 c1;have HFF : Hid ((runS l r).1 = 1) := by show _ = _; rw [← HR.out]; exact HF.out
    go_wp2_with fail;generalize hg5 : w3.alloc (Obj.cells #[.int .u64 R.2.k, .float .f64 R.2.x] 43) = w5;have HRB : Hid (RB w5 w3.heap.size R.2.k R.2.x) := by show RB _ _ _ _; rw [← hg5]; refine ⟨?_, ?_, ?_, ?_⟩ <;> simp [go_sem]
    have HB5 : Hid (Below wr.heap.size wr w5) := by show Below _ _ _; rw [← hg5]; exact below_trans HB3.out (below_alloc _ _)
    clear hg5;obtain ⟨q0, q1, _, _⟩ := HRB.out;have HLEN : Hid (((batchT l kind (recs.take i)).length + 1) * 24 ≤ 140737488355328) := by have := batch_len l kind (recs.take i); have := HSZ.out; simp at *; show _ ≤ _; omega
    go_region_with (first
     | (go_at_call 106; refine (rof_walk kind HKO.out.2 _).mono ?_; rintro e w9 ⟨rfl, hB9⟩; have hS9 : Below w5.heap.size w5 w9 := below_trans (by first | assumption | exact (Below.refl _ _).drew) hB9; obtain ⟨d0, d1, _, _⟩ := HRB.out.below hS9 (cell_lt HRB.out.c0))
     | (go_at_call 105; refine (rwith_walk kind _ (HOW.out.below (below_trans HB5.out (by assumption))) HGB.out (rise_batch _ _ _) (batch_ok (take_ok HRO.out i)) (ofV_ok kind HKO.out.2) HLEN.out).mono ?_; rintro e w10 ⟨g9, cap9, rfl, hO9, hg9, hB10⟩; have R' := rb_keep hlt HE.out HFF.out HMB.out HB.out (below_trans HB5.out hS9) hB10 hg9 (by rw [← HR.out]; exact hO9); rw [← HR.out] at R'))
    all_goals go_wp2_with fail
    all_goals go_roundw
    all_goals first
     | exact R'
     | (simp [intOf]; omega)
   ·have HF : Hid ((runS l r).1 ≠ 1) := by show (runS l r).1 ≠ 1; rw [← HR.out]; exact hf1
    have hf1b : (R.1 == 1) = false := by simpa using hf1
    by_cases hf3 : R.1 = 3
    ·have R' := rb_skip (n := 1) hlt HE.out HF.out (by rw [← HR.out, if_pos hf3]) HB.out (below_trans HB3.out (below_alloc w3 (Obj.cells #[.int .u64 R.2.k, .float .f64 R.2.x] 43))) HOW.out HGB.out;rw [hf3];clear hf1 hf1b hf3;have htr : ((trapN l (recs.take i) : Nat) : Int) ≤ 4096 := by have := trap_le l (recs.take i); simp at this; omega
     go_wp2_with fail;go_roundw
     case rel => simpa using R'
     case measure => simp [intOf]; omega
    ·have R' := rb_skip (n := 0) hlt HE.out HF.out (by rw [← HR.out, if_neg hf3]) HB.out (below_trans HB3.out (below_alloc w3 (Obj.cells #[.int .u64 R.2.k, .float .f64 R.2.x] 43))) HOW.out HGB.out;have hf3b : (R.1 == 3) = false := by simpa using hf3
     clear hf1 hf3;go_wp2_with fail;go_roundw
     case rel => simpa using R'
     case measure => simp [intOf]; omega
  ·have e : i = recs.length := by omega
   have HT : Hid (recs.take i = recs) := by show _ = _; rw [e]; simp
   have hil : ¬ ((i : Int) < (recs.length : Int)) := by omega
   clear e;go_wp2_with fail;refine bodyPost_ret (v := .tuple #[.slice (some ⟨g, 0, none⟩) (batchT l kind (recs.take i)).length gcap, .int .i64 (trapN l (recs.take i)), .int .i64 0]) (by simp [results, Tryz.results77, go_sem]) rfl ?_;refine ⟨g, gcap, by rw [HT.out], ?_, HB.out⟩;have := HOW.out;rw [HT.out] at this;exact this
end
section
section

variable {w : World} {ops : Array Oper} {rest : List Oper} {o : Oper} {a : Act} {Q : Exit → Act → World → Prop}

theorem app_pr (hgd : o.guard = none) (s x : Operand) (ho : o.op = .call { callee := .builtin .append, args := #[s, x], argTypes := #[46, 46] })
  {base : Nat} (v : Value) (l : List Pr) (hs : a.eval s = v) (hown : w.ownsRow base 66 3 v l.length (flatQ l))
  (X : Nat) (q : Pr) (hx : a.eval x = .slice (some ⟨X, 0, none⟩) 1 1) (h0 : w.cell? ⟨X, 0, none⟩ = some (.int .u64 q.k)) (h1 : w.cell? ⟨X, 1, none⟩ = some (.bool q.v.h)) (h2 : w.cell? ⟨X, 2, none⟩ = some (.int .u64 q.v.b)) (hn : (l.length + 1) * 24 ≤ 140737488355328) (hb : base ≤ w.heap.size)
  (h : ∀ v' w', w'.ownsRow base 66 3 v' (l.length + 1) (flatQ (l ++ [q])) → w.grownBy w' v.ownBlock → (v'.ownBlock = v.ownBlock ∨ v'.ownBlock = some w.heap.size) → wpList Tryz.prog ops Q rest (a.put o.dst v') w') : wpList Tryz.prog ops Q (o :: rest) a w := by
 obtain ⟨i0, hi, hz0, hz1, hz2⟩ := info_partsQ info_pair;refine wpList_append_own_at w hgd s x 46 ho base 66 i0 (.agg #[.int .u64 0, .bool false, .int .u64 0]) 3 24 Tryz.underlying46 hi hz0 hz1 hz2 rfl (by decide) v l.length (flatQ l) hs hown ⟨X, 0, none⟩ 1 1 [.int .u64 q.k, .bool q.v.h, .int .u64 q.v.b] hx rfl (pair_cells h0 h1 h2) (by intro u hu; simp at hu; rcases hu with rfl | rfl | rfl <;> rfl) (by simp only [maxLen]; omega) hn hb ?_;intro v' w' r1 r2 _ r3;exact h v' w' (by rw [flatQ_append]; exact r1) r2 r3
theorem app_sp (hgd : o.guard = none) (s x : Operand) (ho : o.op = .call { callee := .builtin .append, args := #[s, x], argTypes := #[114, 114] })
  {base : Nat} (v : Value) (n : Nat) (xs : List Value) (hs : a.eval s = v) (hown : w.ownsRow base 46 1 v n xs)
  (X : Nat) (u : Value) (hu : u.oneCell' = true) (hx : a.eval x = .slice (some ⟨X, 0, none⟩) 1 1) (h0 : w.cell? ⟨X, 0, none⟩ = some u) (hn : n ≤ 100) (hb : base ≤ w.heap.size)
  (h : ∀ v' w', w'.ownsRow base 46 1 v' (n + 1) (xs ++ [u]) → w.grownBy w' v.ownBlock → wpList Tryz.prog ops Q rest (a.put o.dst v') w') : wpList Tryz.prog ops Q (o :: rest) a w := by
 obtain ⟨i0, hi, hz0, hz1, hz2⟩ := info_partsQ info_sp
 refine wpList_append_own_at w hgd s x 114 ho base 46 i0 (.slice none 0 0) 1 24 Tryz.underlying114 hi hz0 hz1 hz2 rfl (by decide) v n xs hs hown ⟨X, 0, none⟩ 1 1 [u] hx rfl (fun j y hj => by
  match j, hj with
  | 0, hj => simp at hj; subst hj; simpa [Addr.add] using h0) (by intro y hy; simp at hy; subst hy; exact hu) (by simp only [maxLen]; omega) (by omega) hb ?_
 intro v' w' r1 r2 _ _;exact h v' w' r1 r2
end

def Eo (w1 : World) (p : Pn) (t : List Pr) (v nv : Value) (wr : World) : Prop :=
 ∃ (j : Nat) (vs : Nat → Value), j ≤ p.n ∧ nv = .int .i64 j ∧ Dl w1.heap.size wr v j vs (dealF p t) ∧ Below w1.heap.size w1 wr
def Ei (w3 : World) (p : Pn) (t : List Pr) (j : Nat) (lv iv : Value) (wr : World) : Prop :=
 ∃ i : Nat, i ≤ t.length ∧ iv = .int .i64 i ∧ wr.ownsRow w3.heap.size 66 3 lv (dealF p (t.take i) j).length (flatQ (dealF p (t.take i) j)) ∧ Below w3.heap.size w3 wr
theorem deal_in {p : Pn} {t : List Pr} {k j : Nat} (hk : k < t.length) (h : p.place t[k].k = j) : dealF p (t.take (k + 1)) j = dealF p (t.take k) j ++ [t[k]] := by
 rw [deal_step p t hk, h, setF_at]
theorem deal_out {p : Pn} {t : List Pr} {k j : Nat} (hk : k < t.length) (h : p.place t[k].k ≠ j) : dealF p (t.take (k + 1)) j = dealF p (t.take k) j := by
 rw [deal_step p t hk, setF_ne _ _ (fun e => h e.symm)]
theorem range_snoc (vs : Nat → Value) (j : Nat) (u : Value) : (List.range j).map vs ++ [u] = (List.range (j + 1)).map (setF vs j u) := by
 rw [List.range_succ, List.map_append, range_set];simp [setF_at];rw [List.set_eq_of_length_le (by simp)]
theorem Dl.snoc {B j : Nat} {w w9 : World} {v v9 u : Value} {vs : Nat → Value} {ls : Nat → List Pr} (h : Dl B w v j vs ls) (hu : w.ownsRow B 66 3 u (ls j).length (flatQ (ls j))) (h9 : w9.ownsRow B 46 1 v9 (j + 1) ((List.range j).map vs ++ [u])) (hg : w.grownBy w9 v.ownBlock) : Dl B w9 v9 (j + 1) (setF vs j u) ls := by
 refine ⟨by rw [← range_snoc]; exact h9, fun i hi => ?_⟩;by_cases e : i = j
 ·subst e;rw [setF_at];exact hu.kept hg (own_ne hu h.row sp_ne)
 ·rw [setF_ne _ _ e];exact (h.own i (by omega)).kept hg (own_ne (h.own i (by omega)) h.row sp_ne)
theorem rdeal_walk {p : Pn} {ov tv : Value} {t : List Pr} {w : World} (ho : Ov w ov p.l) (hq : Qv w tv t) (hsz : t.length * 24 ≤ 140737488355328) :
  Calls Tryz.prog 78 #[.agg #[.int .i64 p.P, .int .i64 p.S, .int .i64 p.W, ov, .int .i64 p.A, .int .i64 p.B, .int .i64 p.N, .int .i64 p.G], tv] w fun e w' => ∃ v vs, e = .returned v ∧ Dl w.heap.size w' v p.n vs (dealF p t) ∧ Below w.heap.size w w' := by
 have HO : Hid (Ov w ov p.l) := ho;have HOK : Hid (okT t) := hq.2;obtain ⟨ta, tc, rfl, hl, hql⟩ := hq.form;have HQL : Hid (Ql w ta t) := hql;have HSZ := hidH hsz;have hli : (t.length : Int) ≤ 9223372036854775807 := by omega
 clear ho hq hl hql hsz;obtain ⟨w1, hw1⟩ : ∃ w1, w1 = w.alloc (Obj.cells #[.int .i64 p.P, .int .i64 p.S, .int .i64 p.W, ov, .int .i64 p.A, .int .i64 p.B, .int .i64 p.N, .int .i64 p.G] 24) := ⟨_, rfl⟩;have HB1 : Hid (Below w.heap.size w w1) := by rw [hw1]; exact below_alloc _ _
 have HX1 : Hid (Bx w1 w.heap.size p ov) := by rw [hw1]; exact box_new _ _ _
 have HXL : Hid (w.heap.size < w1.heap.size) := by show _ < _; rw [hw1]; simp
 have HST : Hid (Eo w1 p t (.slice (some ⟨w1.heap.size, 0, none⟩) 0 0) (.int .i64 0) (w1.alloc (.cells #[] 46))) :=
  ⟨0, fun _ => .slice none 0 0, Nat.zero_le _, rfl, ⟨World.ownsRow_made w1 #[] 0 (Nat.le_refl _) (by simp [maxLen]) rfl, fun i hi => by omega⟩, below_alloc _ _⟩
 go_in;go_upto_region 1 with (fail)
 rw [← hw1];have HW1 : Hid (w1 = w.alloc (Obj.cells #[.int .i64 p.P, .int .i64 p.S, .int .i64 p.W, ov, .int .i64 p.A, .int .i64 p.B, .int .i64 p.N, .int .i64 p.G] 24)) := hw1;clear hw1;go_wp2_with fail;go_loopw [5, 6] (fun v nv wr => Eo w1 p t v nv wr) (fun _ nv _ => p.n - (intOf nv).toNat)
 case atStart => exact HST.out
 case round =>
  obtain ⟨j, vs, hj, rfl, hD, hBr⟩ := hrel;have HDL := hidH hD;have HBR := hidH hBr;have HWR : Hid (w1.heap.size ≤ wr.heap.size) := hBr.size;obtain ⟨vo, vc, hv, _, _⟩ := row_form hD.row;subst hv;clear hD hBr HST;obtain ⟨c0, c1, c2, c3, c4, c5, c6, c7⟩ := HX1.out.below HBR.out HXL.out;by_cases hlt : j < p.n
  ·have HLT : Hid (j < p.n) := hlt
   have hp : p.is = true := by
    cases h : p.is
    ·unfold Pn.n at hlt; rw [h] at hlt; simp at hlt
    ·rfl
   have HP : Hid (p.is = true) := hp;have hpn : p.n = p.S.toNat := by unfold Pn.n; rw [hp]; rfl
   obtain ⟨_, ⟨s1, s2⟩, ⟨w1', w2'⟩, _⟩ := Pn.is_num hp;have hj4 : j < 4 := by omega
   have hjS : (j : Int) < p.S := by omega
   have hc := Pn.chk_ok hp;have HPN : Hid (p.n = p.S.toNat) := hpn;clear hpn hlt;go_wp2_with fail;refine (rpcheck_walk ((HO.out.below HB1.out).below HBR.out)).mono ?_;rw [hc];rintro e w3 ⟨rfl, hB3⟩;have HR3 := hidH hB3;have HB3 : Hid (Below w1.heap.size w1 w3) := HBR.out.trans (hB3.mono HWR.out);have HX3 : Hid (Bx w3 w.heap.size p ov) := HX1.out.below HB3.out HXL.out;have HXL3 : Hid (w.heap.size < w3.heap.size) := Nat.lt_of_lt_of_le HXL.out HB3.out.size;clear hB3 c0 c1 c2 c3 c4 c5 c6 c7;obtain ⟨c0, c1, c2, c3, c4, c5, c6, c7⟩ := HX3.out
   have HSI : Hid (Ei w3 p t j (.slice (some ⟨w3.heap.size, 0, none⟩) 0 0) (.int .i64 0) (w3.alloc (.cells #[] 66))) :=
    ⟨0, Nat.zero_le _, rfl, World.ownsRow_made w3 #[] 0 (Nat.le_refl _) (by simp [maxLen]) rfl, below_alloc _ _⟩
   go_wp2_with fail;go_loopw [7, 8] (fun lv iv wx => Ei w3 p t j lv iv wx) (fun _ iv _ => t.length - (intOf iv).toNat)
   case atStart => exact HSI.out
   case round =>
    clear c0 c1 c2 c3 c4 c5 c6 c7 HSI;obtain ⟨i, hi, rfl, hO, hB4⟩ := hrel;have HOL := hidH hO;have HB4 := hidH hB4;have HW4 : Hid (w3.heap.size ≤ wr.heap.size) := hB4.size;obtain ⟨lo, lc, hv, _, _⟩ := row_form hO;subst hv;clear hO hB4;by_cases hlt2 : i < t.length
    ·have d := ((HQL.out.below HB1.out).below HB3.out).below HB4.out i hlt2;obtain ⟨b, off, hto, d0, d1, d2⟩ := d;subst hto;obtain ⟨q, hqe⟩ : ∃ q, q = t[i] := ⟨_, rfl⟩;rw [← hqe] at d0 d1 d2;have HQ : Hid (q = t[i]) := hqe;clear hqe;obtain ⟨r, hr⟩ : ∃ r, r = p.place q.k := ⟨_, rfl⟩;have HR : Hid (r = p.place q.k) := hr;have hr4 : r < 4 := by rw [hr]; exact (place_lt q.k hp).1
     have hm : (q.k : Int) % p.S = r := by
      rw [hr, show p.place q.k = q.k % p.S.toNat from rfl, show p.S = ((p.S.toNat : Nat) : Int) by omega];simp
     have hm' : (q.k : Int).tmod p.S = r := by rw [Int.tmod_eq_emod_of_nonneg (by omega)]; exact hm
     have hwS : IntKind.u64.wrap p.S = p.S := by rw [IntKind.wrap_u64]; omega
     have hwj : IntKind.u64.wrap (j : Int) = j := by rw [IntKind.wrap_u64]; omega
     have hw0 : ¬ p.S = 0 := by omega
     clear hr;have HX4 : Hid (Bx wr w.heap.size p ov) := HX3.out.below HB4.out HXL3.out;have HXL4 : Hid (w.heap.size < wr.heap.size) := Nat.lt_of_lt_of_le HXL3.out HW4.out;have k0 : ∀ wx, Below wr.heap.size wr wx → wx.cell? ⟨b, off + i * 3, none⟩ = some (.int .u64 q.k) := fun wx h => by rw [h.cell (p := ⟨b, off + i * 3, none⟩) (cell_lt d0)]; exact d0
     have k1 := fun wx h => (HX4.out.all HXL4.out wx h).c1;by_cases hrj : r = j
     ·have heq : ((r : Int) == (j : Int)) = true := by simp [hrj]
      have HRJ : Hid (r = j) := hrj;clear hrj;go_wp2_with fail;refine wp_region_noPanic ?_;refine wp_region_held_drew (S := fun wx => Below wr.heap.size wr wx) (by kernel_rfl) ?_ fun hHeld => ?_
      ·exact below_drw _
      refine tkS 0 28 rfl hHeld ?_;refine tkS 1 29 rfl hHeld ?_;refine tkS 2 30 rfl hHeld ?_;refine tkS 3 31 rfl hHeld ?_;refine tkS 4 32 rfl hHeld ?_;refine tkS 5 33 rfl hHeld ?_;refine tkS 6 34 rfl hHeld ?_;refine tkS 7 35 rfl hHeld ?_;refine tkS 8 36 rfl hHeld ?_;refine tkS 9 37 rfl hHeld ?_;refine tkS 10 38 rfl hHeld ?_;refine tkS 11 39 rfl hHeld ?_;refine wpAnyH_done (by kernel_rfl) ?_ _;refine NoPanic.normal ?_;have HH := hidH hHeld;have HOL5 : Hid (wr.drew.ownsRow w3.heap.size 66 3 (.slice lo (dealF p (t.take i) j).length lc) (dealF p (t.take i) j).length (flatQ (dealF p (t.take i) j))) := HOL.out
      have HBD : Hid (((dealF p (t.take i) j).length + 1) * 24 ≤ 140737488355328) := by
       show _ ≤ _;have h1 := deal_len p (t.take i) j;have h2 : (dealF p (t.take i) j).length + 1 ≤ t.length := by rw [List.length_take] at h1; omega
       exact Nat.le_trans (Nat.mul_le_mul_right 24 h2) HSZ.out
      clear hHeld k0 k1;go_wp2_with (at_builtin; refine app_pr rfl (.tmp 40) (.tmp 45) rfl (.slice lo (dealF p (t.take i) j).length lc) (dealF p (t.take i) j) (by rfl) (HOL5.out.alloc _) wr.heap.size q (by rfl) (by simp [go_sem]) (by simp [go_sem]) (by simp [go_sem]) HBD.out (by have := HW4.out; simp; omega) ?_; intro v9 w9 hown9 hg9 _);obtain ⟨v9o, v9c, hv9, _, _⟩ := row_form hown9;subst hv9
      have HRI : Hid (Ei w3 p t j (.slice v9o ((dealF p (t.take i) j).length + 1) v9c) (.int .i64 ((i : Int) + 1)) w9) := by
       refine ⟨i + 1, hlt2, by simp, ?_, ?_⟩
       ·rw [deal_in hlt2 (by rw [← HQ.out, ← HR.out]; exact HRJ.out), List.length_append, ← HQ.out];exact hown9
       ·have h8 : Below w3.heap.size w3 (wr.drew.alloc (Obj.cells #[.int .u64 q.k, .bool q.v.h, .int .u64 q.v.b] 66)) := HB4.out.trans ((below_trans (below_drw _) (below_alloc _ _)).mono HW4.out);exact h8.grown hg9 h8.size (fun x hx => (HOL.out.lt x hx).1)
      clear hown9 hg9;go_wp2_with fail;go_roundw
      case rel => exact HRI.out
      case measure => simp [intOf]; omega
     ·have heq : ((r : Int) == (j : Int)) = false := by rw [beq_eq_false_iff_ne]; omega
      have HRJ : Hid (r ≠ j) := hrj;clear hrj;go_wp2_with fail;refine wp_region_noPanic ?_;refine wp_region_held_drew (S := fun wx => Below wr.heap.size wr wx) (by kernel_rfl) ?_ fun hHeld => ?_
      ·exact below_drw _
      refine tkS 0 28 rfl hHeld ?_;refine tkS 1 29 rfl hHeld ?_;refine tkS 2 30 rfl hHeld ?_;refine tkS 3 31 rfl hHeld ?_;refine tkS 4 32 rfl hHeld ?_;refine tkS 5 33 rfl hHeld ?_;refine tkS 6 34 rfl hHeld ?_;refine tkS 7 35 rfl hHeld ?_;refine tkS 8 36 rfl hHeld ?_;refine tkS 9 37 rfl hHeld ?_;refine tkS 10 38 rfl hHeld ?_;refine tkS 11 39 rfl hHeld ?_;refine wpAnyH_done (by kernel_rfl) ?_ _;refine NoPanic.normal ?_
      have HRI : Hid (Ei w3 p t j (.slice lo (dealF p (t.take i) j).length lc) (.int .i64 ((i : Int) + 1)) wr.drew) := by
       refine ⟨i + 1, hlt2, by simp, ?_, HB4.out.trans ((below_drw _).mono HW4.out)⟩;rw [deal_out hlt2 (by rw [← HQ.out, ← HR.out]; exact HRJ.out)];exact HOL.out
      clear hHeld k0 k1;go_wp2_with fail;go_roundw
      case rel => exact HRI.out
      case measure => simp [intOf]; omega
    ·obtain rfl : i = t.length := by omega
     have HOT : Hid (wr.ownsRow w3.heap.size 66 3 (.slice lo (dealF p t j).length lc) (dealF p t j).length (flatQ (dealF p t j))) := by
      have h := HOL.out;rw [List.take_length] at h;exact h
     have HD9 : Hid (Dl w1.heap.size (wr.alloc (Obj.cells #[.slice lo (dealF p t j).length lc] 46)) (.slice vo j vc) j vs (dealF p t)) := ((HDL.out.below HR3.out).below HB4.out).below (below_alloc _ _);have HB9 : Hid (Below w1.heap.size w1 (wr.alloc (Obj.cells #[.slice lo (dealF p t j).length lc] 46))) := HB3.out.trans ((HB4.out.trans ((below_alloc _ _).mono HW4.out)).mono HB3.out.size);go_wp2_with (at_builtin; refine app_sp rfl (.tmp 47) (.tmp 49) rfl (.slice vo j vc) j _ (by rfl) HD9.out.row wr.heap.size (.slice lo (dealF p t j).length lc) rfl (by rfl) (by simp [go_sem]) (by omega) HB9.out.size ?_; intro v9 w9 hown9 hg9);obtain ⟨v9o, v9c, hv9, _, _⟩ := row_form hown9;subst hv9
     have HRO : Hid (Eo w1 p t (.slice v9o (j + 1) v9c) (.int .i64 ((j : Int) + 1)) w9) := by
      refine ⟨j + 1, _, HLT.out, by simp, HD9.out.snoc (u := .slice lo (dealF p t j).length lc) ?_ hown9 hg9, ?_⟩
      ·exact own_base (HOT.out.alloc _) HB3.out.size
      ·exact HB9.out.grown hg9 HB9.out.size (fun x hx => (HD9.out.row.lt x hx).1)
     clear hown9 hg9;go_wp2_with fail;go_roundw
     case rel => exact HRO.out
     case measure => have := HLT.out; simp [intOf]; omega
  ·obtain rfl : j = p.n := by omega
   cases hp : p.is
   ·have hc := Pn.chk_no hp;have hc1 : ¬ p.chk = 0 := by simpa using hc
    go_wp2_with fail;refine (rpcheck_walk ((HO.out.below HB1.out).below HBR.out)).mono ?_;rintro e w3 ⟨rfl, hB3⟩;go_wp2_with fail;go_ret;have hD := HDL.out.below hB3;exact ⟨_, vs, rfl, ⟨own_base hD.row HB1.out.size, fun i hi => own_base (hD.own i hi) HB1.out.size⟩, HB1.out.trans ((HBR.out.trans (hB3.mono HWR.out)).mono HB1.out.size)⟩
   ·have hc := Pn.chk_ok hp;have hpn : p.n = p.S.toNat := by unfold Pn.n; rw [hp]; rfl
    obtain ⟨_, ⟨s1, s2⟩, ⟨w1', w2'⟩, _⟩ := Pn.is_num hp;have hjS : ¬ (p.n : Int) < p.S := by omega
    have HPN : Hid (p.n = p.S.toNat) := hpn;clear hpn hlt;go_wp2_with fail;refine (rpcheck_walk ((HO.out.below HB1.out).below HBR.out)).mono ?_;rw [hc];rintro e w3 ⟨rfl, hB3⟩;clear c0 c1 c2 c3 c4 c5 c6 c7;obtain ⟨c0, c1, c2, c3, c4, c5, c6, c7⟩ := HX1.out.below (HBR.out.trans (hB3.mono HWR.out)) HXL.out;go_wp2_with fail;go_ret;have hD := HDL.out.below hB3;exact ⟨_, vs, rfl, ⟨own_base hD.row HB1.out.size, fun i hi => own_base (hD.own i hi) HB1.out.size⟩, HB1.out.trans ((HBR.out.trans (hB3.mono HWR.out)).mono HB1.out.size)⟩
end
end Go.Proofs.YtombjgfajbhbbaaGreat
