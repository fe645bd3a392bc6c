/- The walk of MarkMemory. -/
import Derived.Test.YtkicnoohfilgjaaKx

import Derived.Deep.RegionHeld3

import Derived.Maps.AppendAt

import Derived.Deep.CutBlock

namespace Go.Proofs.Ytkicnoohfilgjaa

open Go.RowKit



theorem bk8 {n m : Nat} (h : n * 8 ≤ 140737488351232) (hm : m ≤ n + 30) : m ≤ maxLen := by unfold maxLen; omega
theorem bb8 {n m : Nat} (h : n * 8 ≤ 140737488351232) (hm : m ≤ n + 30) : m * 8 ≤ 140737488355328 := by omega
/-- The rows that are written over, and the mark of one of them. -/
def DD (vb vp : Value) (P : Nat) (x : Nat) : Prop := vb.ownBlock = some x ∨ vp.ownBlock = some x ∨ x = P


set_option maxRecDepth 100000 in
set_option maxHeartbeats 8000000 in
theorem markmemory_walk {w : World} {kv : Value} {k : List Nat} (mb ma : Int) (hk : Kv w kv k) (hok : keysOk k) (hsz : k.length * 8 ≤ 140737488351232) :
    Calls Try.prog 6 #[.agg #[.int .i64 mb, .int .i64 ma, kv]] w fun e w' => e = .returned (.bool true) ∧ Below w.heap.size w w' := by
  have HK0 : Hid (Kv (w.alloc (Obj.cells #[.int .i64 mb, .int .i64 ma, kv] 26)) kv k) := hk.below (below_alloc _ _)
  have HM0 : Hid _ := mb_new w mb ma kv
  have HB0 : Hid _ := below_alloc w (Obj.cells #[.int .i64 mb, .int .i64 ma, kv] 26)
  have HOK : Hid _ := hok
  have HSZ : Hid _ := hsz
  have HKW : Hid (Kv w kv k) := hk
  obtain ⟨ka, kc, hkv, hkl, hkm⟩ := kv_form hk
  obtain ⟨n, hn⟩ : ∃ n, n = k.length := ⟨_, rfl⟩
  rw [← hn] at hkv
  subst hkv
  have HN : Hid (n = k.length) := hn
  have hn8 : (n : Int) ≤ 17592186043904 := by omega
  have hwn : IntKind.i64.wrap ((n : Int) + 3) = (n : Int) + 3 := by rw [IntKind.wrap_i64]; omega
  have HN4 : Hid (((n : Int) + 3) = ((n + 3 : Nat) : Int)) := by show _ = _; omega
  obtain ⟨ci, hci, hz0, hz1, hz2⟩ : ∃ i, Try.prog.info? 32 = some i ∧ i.zero = some (.int .u64 0) ∧ i.size = 1 ∧ i.bytes = 8 := by
    have h := info_u64
    cases hi : Try.prog.info? 32 with
    | none => rw [hi] at h; cases h
    | some i => rw [hi] at h; simp at h; exact ⟨i, rfl, h.1, h.2.1, h.2.2⟩
  clear hk hok hn hsz hkl hkm
  go_enter Try.func6, Try.ntmps6
  go_upto_region 1 with fail
  obtain ⟨P, hP⟩ : ∃ P, P = w.heap.size := ⟨_, rfl⟩
  rw [← hP] at HM0 ⊢
  have HPW : Hid (P = w.heap.size) := hP
  clear hP
  generalize w.alloc (Obj.cells #[.int .i64 mb, .int .i64 ma, .slice ka n kc] 26) = w0 at HK0 HM0 HB0 ⊢
  go_wp2_with fail
  refine (awake_walk _).mono ?_
  rintro e w1 ⟨rfl, hB1⟩
  have HB1 : Hid (Below w.heap.size w w1) := below_trans HB0.out hB1
  have HK1 : Hid (Kv w1 (.slice ka n kc) k) := HK0.out.below hB1
  have HM1 : Hid _ := HM0.out.keep hB1
  clear hB1 HB0 HK0 HM0
  have c2 := HM1.out.c2
  have HMB : Hid (ci.bytes * (n + 3) ≤ 281474976710656) := by show _ ≤ _; rw [hz2]; omega
  have HML : Hid (n + 3 ≤ maxLen) := by show _ ≤ _; unfold maxLen; omega
  go_upto_region 5 with (at_make; refine wpList_make_own _ (by rfl) _ _ 24 (by rfl) w1.heap.size 32 ci (.int .u64 0) 1 Try.underlying24 hci hz0 hz1 .i64 .i64 _ (n + 3) (by rfl) (by rfl) HN4.out HMB.out HML.out (Nat.le_refl _) ?_; intro w2 hown hgrow)
  have HO2 : Hid (w2.ownsRow w1.heap.size 32 1 (.slice (some ⟨w1.heap.size, 0, none⟩) 0 (n + 3)) 0 []) := hown
  have HB2 : Hid (Below w1.heap.size w1 w2) := (Below.refl _ _).grown hgrow (Nat.le_refl _) (by simp)
  clear hown hgrow hci hz0 hz1 hz2 HN4 hwn HMB HML c2
  have HK2 : Hid (Kv w2 (.slice ka n kc) k) := HK1.out.below HB2.out
  have c2 := (HM1.out.keep HB2.out).c2
  go_upto_region 6 with (at_builtin; refine wpList_append_sv (by rfl) (.tmp 24) (.tmp 26) 24 (by rfl) w1.heap.size 32 .u64 8 Try.underlying24 info_u64 _ _ _ (by rfl) HO2.out _ (ib k) (by rfl) HK2.out (bk8 HSZ.out (by rw [ib_len]; omega)) (bb8 HSZ.out (by rw [ib_len]; omega)) HB2.out.size ?_; intro v3 w3 hown hgrow)
  have HO3 : Hid (w3.ownsRow w1.heap.size 32 1 v3 (0 + (ib k).length) ([] ++ (ib k).map (Value.int .u64))) := hown
  have HB3 : Hid (Below w1.heap.size w1 w3) := HB2.out.trans (grown_belowC HO2.out hgrow HB2.out.size)
  clear hown hgrow HO2 HK2 HB2 c2
  go_upto_region 7 with (at_builtin; refine wpList_append_sv (by rfl) (.tmp 28) (.tmp 29) 24 (by rfl) w1.heap.size 32 .u64 8 Try.underlying24 info_u64 _ _ _ (by rfl) (HO3.out.alloc _) _ (ib [71, 72, 73]) (by rfl) (kv_lit3 w3 71 72 73) (bk8 HSZ.out (by simp [ib])) (bb8 HSZ.out (by simp [ib])) (by rw [size_allocC]; have := HB3.out.size; omega) ?_; intro v4 w4 hown hgrow)
  obtain ⟨N, hNN⟩ : ∃ N, N = n + 3 := ⟨_, rfl⟩
  have HNN : Hid (N = n + 3) := hNN
  have HO4 : Hid (w4.ownsRow w1.heap.size 32 1 v4 N ((ib (k ++ [71, 72, 73])).map (Value.int .u64))) := by
    show World.ownsRow _ _ _ _ _ _ _
    rw [hNN, HN.out, ib_append, List.map_append]
    simpa [ib] using hown
  have HB4 : Hid (Below w1.heap.size w1 w4) := (below_trans HB3.out (below_alloc _ _)).trans (grown_belowC (HO3.out.alloc _) hgrow (by rw [size_allocC]; have := HB3.out.size; omega))
  clear hown hgrow HO3 HB3
  obtain ⟨g, cap, hv4, hgc, hgm⟩ := (ro_own HO4.out).some (by omega)
  subst hv4
  have hnN : (n : Int) ≤ (N : Int) := by omega
  have hNc : (N : Int) ≤ (cap : Int) := by omega
  have hnc : (n : Int) ≤ (cap : Int) := by omega
  have hcn : ¬ cap = n := by omega
  have hcm : (cap : Int) ≤ 9223372036854775807 := by unfold maxLen at hgm; omega
  have HL4 : Hid (Kv w4 (.slice (some ⟨g, 0, none⟩) N cap) (k ++ [71, 72, 73])) := own_sv HO4.out
  have HX4 : Hid (Kv w4 (.slice (some ⟨g, 0, none⟩) n cap) k) := by
    have h := kv_sub HL4.out 0 n cap (by have := HN.out; simp; omega) (by omega) hgm
    rw [List.drop_zero, HN.out, List.take_left] at h
    rw [HN.out]
    exact h
  have HT4 : Hid (Kv w4 (.slice (some ⟨g, n, none⟩) (N - n) (cap - n)) [71, 72, 73]) := by
    have h := kv_sub HL4.out n 3 (cap - n) (by have := HN.out; simp; omega) (by omega) (by omega)
    rw [show List.drop n (k ++ [71, 72, 73]) = [71, 72, 73] from by rw [HN.out]; simp, Nat.zero_add] at h
    rw [show N - n = 3 by omega]
    exact h
  have HM4 : Hid _ := HM1.out.keep HB4.out
  have HBW4 : Hid (Below w.heap.size w w4) := below_trans HB1.out HB4.out
  clear HL4 HO4 HB4 HB1 HM1 HK1 hgc hgm hNN
  have c0 : ∀ wx, Below w4.heap.size w4 wx → wx.cell? ⟨P, 0, none⟩ = some (.int .i64 mb) := fun wx h => (HM4.out.keep h).c0
  have c1 : ∀ wx, Below w4.heap.size w4 wx → wx.cell? ⟨P, 1, none⟩ = some (.int .i64 ma) := fun wx h => (HM4.out.keep h).c1
  go_cut [5] (fun u wx => ∃ X, u = .pointer (some ⟨X, 0, none⟩) ∧ w4.heap.size ≤ X ∧ MB wx X mb ma (.slice (some ⟨g, 0, none⟩) n cap) ∧ Below w4.heap.size w4 wx)
  case first =>
    go_wp2_with fail
    go_region_held3 (fun wx => Below w4.heap.size w4 wx) (first | assumption | exact (Below.refl _ _).drew | exact below_trans (below_drew _) (below_alloc _ _) | exact (below_trans (below_drew _) (below_alloc _ _)).drew) (fail)
    all_goals go_wp2_with fail
    all_goals go_meet
    all_goals exact ⟨w4.heap.size, rfl, Nat.le_refl _, (mb_new w4 mb ma (.slice (some ⟨g, 0, none⟩) n cap)).keep (below_drew _), below_trans (below_alloc _ _) (below_drew _)⟩
  case rest =>
    obtain ⟨X, rfl, hX, hMX, hB5⟩ := hcut
    have HXL : Hid (w4.heap.size ≤ X) := hX
    have HXM : Hid (MB wc X mb ma (.slice (some ⟨g, 0, none⟩) n cap)) := hMX
    have HX5 : Hid (Kv wc (.slice (some ⟨g, 0, none⟩) n cap) k) := HX4.out.below hB5
    have HT5 : Hid (Kv wc (.slice (some ⟨g, n, none⟩) (N - n) (cap - n)) [71, 72, 73]) := HT4.out.below hB5
    have HM5 : Hid _ := HM4.out.keep hB5
    have HB5 : Hid (Below w.heap.size w wc) := below_trans HBW4.out hB5
    clear hX hMX hB5 HX4 HT4 HM4 HBW4 c0 c1
    have x0 := HXM.out.c0
    have x1 := HXM.out.c1
    have x2 := HXM.out.c2
    go_wp2_with fail
    refine (menc_walk HX5.out HOK.out mb ma).mono ?_
    rintro e w6 ⟨vb, he, ho6, hB6⟩
    have HB6 : Hid (Below w.heap.size w w6) := below_trans HB5.out hB6
    have HX6 : Hid (Kv w6 (.slice (some ⟨g, 0, none⟩) n cap) k) := HX5.out.below hB6
    have HT6 : Hid (Kv w6 (.slice (some ⟨g, n, none⟩) (N - n) (cap - n)) [71, 72, 73]) := HT5.out.below hB6
    have HM6 : Hid _ := HM5.out.keep hB6
    have HXM6 : Hid _ := HXM.out.keep hB6
    have HO6 : Hid (w6.ownsRow w.heap.size 5 1 vb (encM ⟨mb, ma, k⟩).1.length ((ib (encM ⟨mb, ma, k⟩).1).map (Value.int .u8))) := own_baseC ho6 HB5.out.size
    have HP6 : Hid (∀ x, vb.ownBlock = some x → P < x ∧ x < w6.heap.size) := fun x hx => ⟨by have h1 := (ho6.lt x hx).1; have h2 := cell_lt HM5.out.c0; simp only at h2; omega, (ho6.lt x hx).2⟩
    obtain ⟨E, hE⟩ : ∃ E, E = (encM ⟨mb, ma, k⟩).2 := ⟨_, rfl⟩
    rw [← hE] at he
    subst he
    have HE : Hid (E = (encM ⟨mb, ma, k⟩).2) := hE
    clear hE hB6 ho6 HB5 HX5 HT5 HM5 HXM x0 x1 x2
    have x0 := HXM6.out.c0
    have x1 := HXM6.out.c1
    have x2 := HXM6.out.c2
    go_wp2_with fail
    refine (menc_walk HX6.out HOK.out mb ma).mono ?_
    rintro e w7 ⟨vc, he, ho7, hB7⟩
    rw [← HE.out] at he
    subst he
    have HB7 : Hid (Below w.heap.size w w7) := below_trans HB6.out hB7
    have HX7 : Hid (Kv w7 (.slice (some ⟨g, 0, none⟩) n cap) k) := HX6.out.below hB7
    have HT7 : Hid (Kv w7 (.slice (some ⟨g, n, none⟩) (N - n) (cap - n)) [71, 72, 73]) := HT6.out.below hB7
    have HM7 : Hid _ := HM6.out.keep hB7
    have HXM7 : Hid _ := HXM6.out.keep hB7
    have HO7 : Hid (w7.ownsRow w.heap.size 5 1 vb (encM ⟨mb, ma, k⟩).1.length ((ib (encM ⟨mb, ma, k⟩).1).map (Value.int .u8))) := own_belowC HO6.out hB7
    have HC7 : Hid (Bv w7 vc (encM ⟨mb, ma, k⟩).1) := own_bv ho7 (encM_lt HOK.out)
    have HV7 : Hid (Bv w7 vb (encM ⟨mb, ma, k⟩).1) := own_bv HO7.out (encM_lt HOK.out)
    have HPC : Hid (∀ x, vc.ownBlock = some x → w6.heap.size ≤ x ∧ x < w7.heap.size) := fun x hx => ho7.lt x hx
    obtain ⟨L, hL⟩ : ∃ L, L = (encM ⟨mb, ma, k⟩).1 := ⟨_, rfl⟩
    rw [← hL] at HO7 HC7 HV7
    have HL : Hid (L = (encM ⟨mb, ma, k⟩).1) := hL
    have HS67 : Hid (w6.heap.size ≤ w7.heap.size) := hB7.size
    clear hL hB7 ho7 HB6 HX6 HT6 HM6 HXM6 HO6 x0 x1 x2
    have hs2 : (convert 22 9 vb).run Try.prog w7 = .ok (.string (str L)) w7 := HV7.out.str 22 5 9 Try.underlying22 Try.underlying5 Try.underlying9
    have hs3 : (convert 22 9 vc).run Try.prog w7 = .ok (.string (str L)) w7 := HC7.out.str 22 5 9 Try.underlying22 Try.underlying5 Try.underlying9
    generalize str L = S0 at hs2 hs3
    have x0 := HXM7.out.c0
    have x1 := HXM7.out.c1
    have x2 := HXM7.out.c2
    have c0 := HM7.out.c0
    have c1 := HM7.out.c1
    have c2 := HM7.out.c2
    have hEE : ((E : Int) != (E : Int)) = false := by simp
    go_wp2_with fail
    refine (msame_walk mb ma HX7.out (HKW.out.below HB7.out)).mono ?_
    rintro e w8 ⟨rfl, hB8⟩
    have HB8 : Hid (Below w.heap.size w w8) := below_trans HB7.out hB8
    have HT8 : Hid (Kv w8 (.slice (some ⟨g, n, none⟩) (N - n) (cap - n)) [71, 72, 73]) := HT7.out.below hB8
    have HM8 : Hid _ := HM7.out.keep hB8
    have HO8 : Hid (w8.ownsRow w.heap.size 5 1 vb L.length ((ib L).map (Value.int .u8))) := own_belowC HO7.out hB8
    have HC8 : Hid (Bv w8 vc L) := HC7.out.below hB8
    have HS8 : Hid (w7.heap.size ≤ w8.heap.size) := hB8.size
    clear hB8 HB7 HX7 HT7 HM7 HXM7 HO7 HC7 HV7 x0 x1 x2 c0 c1 c2 hs2 hs3
    have HT9 : Hid (Kv (w8.alloc (Obj.cells #[.int .u64 71, .int .u64 72, .int .u64 73] 32)) (.slice (some ⟨g, n, none⟩) (N - n) (cap - n)) [71, 72, 73]) := HT8.out.below (below_alloc _ _)
    have HB9 : Hid (Below w8.heap.size w8 (w8.alloc (Obj.cells #[.int .u64 71, .int .u64 72, .int .u64 73] 32))) := below_alloc _ _
    have HL9 : Hid (Kv (w8.alloc (Obj.cells #[.int .u64 71, .int .u64 72, .int .u64 73] 32)) (.slice (some ⟨w8.heap.size, 0, none⟩) 3 3) [71, 72, 73]) := kv_lit3 w8 71 72 73
    go_wp2_with fail
    refine (eqk_walk HT9.out HL9.out).mono ?_
    rintro e w9 ⟨rfl, hB9⟩
    replace hB9 := below_trans HB9.out hB9
    have HB9' : Hid (Below w.heap.size w w9) := below_trans HB8.out hB9
    have HM9 : Hid _ := HM8.out.keep hB9
    have HO9 : Hid (w9.ownsRow w.heap.size 5 1 vb L.length ((ib L).map (Value.int .u8))) := own_belowC HO8.out hB9
    have HC9 : Hid (Bv w9 vc L) := HC8.out.below hB9
    have HS9 : Hid (w7.heap.size ≤ w9.heap.size) := Nat.le_trans HS8.out hB9.size
    have HPX : Hid (P < w9.heap.size) := cell_lt HM9.out.c0
    clear hB9 HT9 HL9 HB9 HB8 HT8 HM8 HO8 HC8 HS8
    by_cases h0 : E = 0
    rotate_left
    · have hei : ((E : Int) != 0) = true := by rw [bne_iff_ne]; omega
      clear h0
      go_wp2_with fail
      go_ret
      exact ⟨rfl, HB9'.out⟩
    subst h0
    obtain ⟨q1, q2⟩ := encM_yes HE.out.symm
    have HD : Hid (decM L = (⟨mb, ma, k⟩, 0)) := by
      show _ = _
      have h := formM_there q2 HOK.out []
      rw [List.append_nil] at h
      rw [HL.out, q1, h]
      simp
    have HEN : Hid (encM ⟨mb, ma, k⟩ = (L, 0)) := by show _ = _; rw [HL.out, q1]
    have HLL : Hid (∀ c ∈ L, c < 256) := by rw [HL.out]; exact encM_lt HOK.out
    clear q1 q2 HL HE
    go_wp2_with fail
    refine (mdec_walk (own_bv HO9.out HLL.out)).mono ?_
    unfold DGot
    rw [HD.out]
    rintro e w10 ⟨vp, rfl, ho10, hB10⟩
    obtain ⟨pa, pc, hpv⟩ := own_form8 ho10
    subst hpv
    have HQ10 : Hid (w10.ownsRow w9.heap.size 32 1 (.slice pa k.length pc) k.length ((ib k).map (Value.int .u64))) := ho10
    have HB10 : Hid (Below w.heap.size w w10) := below_trans HB9'.out hB10
    have HM10 : Hid _ := HM9.out.keep hB10
    have HO10 : Hid (w10.ownsRow w.heap.size 5 1 vb L.length ((ib L).map (Value.int .u8))) := own_belowC HO9.out hB10
    have HC10 : Hid (Bv w10 vc L) := HC9.out.below hB10
    have HS10 : Hid (w9.heap.size ≤ w10.heap.size) := hB10.size
    clear ho10 hB10 HB9' HM9 HO9 HC9
    rw [← HN.out] at HQ10 ⊢
    go_upto_region 15 with fail
    have HPM : Hid _ := mb_new w10 mb ma (.slice pa n pc)
    have HQ11 : Hid _ := own_belowC HQ10.out (below_alloc w10 (Obj.cells #[.int .i64 mb, .int .i64 ma, .slice pa n pc] 26))
    have HB11 : Hid _ := below_trans HB10.out (below_alloc w10 (Obj.cells #[.int .i64 mb, .int .i64 ma, .slice pa n pc] 26))
    have HM11 : Hid _ := HM10.out.keep (below_alloc w10 (Obj.cells #[.int .i64 mb, .int .i64 ma, .slice pa n pc] 26))
    have HO11 : Hid _ := own_belowC HO10.out (below_alloc w10 (Obj.cells #[.int .i64 mb, .int .i64 ma, .slice pa n pc] 26))
    have HC11 : Hid (Bv (w10.alloc (Obj.cells #[.int .i64 mb, .int .i64 ma, .slice pa n pc] 26)) vc L) := HC10.out.below (below_alloc w10 _)
    have HPP : Hid (∀ x, (Value.slice pa n pc).ownBlock = some x → w9.heap.size ≤ x ∧ x < w10.heap.size) := fun x hx => HQ10.out.lt x hx
    obtain ⟨Y, hY⟩ : ∃ Y, Y = w10.heap.size := ⟨_, rfl⟩
    rw [← hY] at HPM HPP HS10 ⊢
    clear hY HQ10 HB10 HM10 HO10 HC10
    generalize w10.alloc (Obj.cells #[.int .i64 mb, .int .i64 ma, .slice pa n pc] 26) = w11 at HPM HQ11 HB11 HM11 HO11 HC11 ⊢
    go_wp2_with fail
    refine (mdec_walk (own_bv HO11.out HLL.out)).mono ?_
    unfold DGot
    rw [HD.out]
    rintro e w12 ⟨vq, rfl, ho12, hB12⟩
    obtain ⟨qa, qc, hqv⟩ := own_form8 ho12
    subst hqv
    have HQ12 : Hid (w12.ownsRow w11.heap.size 32 1 (.slice qa k.length qc) k.length ((ib k).map (Value.int .u64))) := ho12
    have HB12 : Hid (Below w.heap.size w w12) := below_trans HB11.out hB12
    have HM12 : Hid _ := HM11.out.keep hB12
    have HPM12 : Hid _ := HPM.out.keep hB12
    have HR12 : Hid _ := own_belowC HQ11.out hB12
    have HO12 : Hid _ := own_belowC HO11.out hB12
    have HC12 : Hid (Bv w12 vc L) := HC11.out.below hB12
    have HYW : Hid (Y < w11.heap.size) := cell_lt HPM.out.c0
    have HS12 : Hid (w11.heap.size ≤ w12.heap.size) := hB12.size
    clear ho12 hB12 HB11 HM11 HO11 HC11 HPM HQ11
    rw [← HN.out] at HQ12 ⊢
    go_upto_region 16 with fail
    have HZ13 : Hid _ := mb_new w12 mb ma (.slice qa n qc)
    have HQ13 : Hid _ := own_belowC HQ12.out (below_alloc w12 (Obj.cells #[.int .i64 mb, .int .i64 ma, .slice qa n qc] 26))
    have HB13 : Hid _ := below_trans HB12.out (below_alloc w12 (Obj.cells #[.int .i64 mb, .int .i64 ma, .slice qa n qc] 26))
    have HM13 : Hid _ := HM12.out.keep (below_alloc w12 (Obj.cells #[.int .i64 mb, .int .i64 ma, .slice qa n qc] 26))
    have HPM13 : Hid _ := HPM12.out.keep (below_alloc w12 (Obj.cells #[.int .i64 mb, .int .i64 ma, .slice qa n qc] 26))
    have HR13 : Hid _ := own_belowC HR12.out (below_alloc w12 (Obj.cells #[.int .i64 mb, .int .i64 ma, .slice qa n qc] 26))
    have HO13 : Hid _ := own_belowC HO12.out (below_alloc w12 (Obj.cells #[.int .i64 mb, .int .i64 ma, .slice qa n qc] 26))
    have HC13 : Hid (Bv (w12.alloc (Obj.cells #[.int .i64 mb, .int .i64 ma, .slice qa n qc] 26)) vc L) := HC12.out.below (below_alloc w12 _)
    have HQP : Hid (∀ x, (Value.slice qa n qc).ownBlock = some x → w11.heap.size ≤ x ∧ x < w12.heap.size) := fun x hx => HQ12.out.lt x hx
    obtain ⟨Z, hZ⟩ : ∃ Z, Z = w12.heap.size := ⟨_, rfl⟩
    rw [← hZ] at HZ13 HQP HS12 ⊢
    clear hZ HQ12 HB12 HM12 HPM12 HR12 HO12 HC12
    generalize w12.alloc (Obj.cells #[.int .i64 mb, .int .i64 ma, .slice qa n qc] 26) = w13 at HZ13 HQ13 HB13 HM13 HPM13 HR13 HO13 HC13 ⊢
    obtain ⟨ba, bc, hbv⟩ := own_form8 HO13.out
    obtain ⟨bn, hbn⟩ : ∃ bn, bn = L.length := ⟨_, rfl⟩
    rw [← hbn] at hbv HO13
    have HBN : Hid (bn = L.length) := hbn
    have hbni : (bn : Int) ≤ 9223372036854775807 := by
      obtain ⟨ao, cp, e, h1, h2, _⟩ := (own_bv HO13.out HLL.out).1
      unfold maxLen at h2
      rw [ib_len] at h1
      omega
    subst hbv
    clear hbn
    obtain ⟨D1, hD1⟩ : ∃ D1 : Nat → Prop, D1 = fun x => (Value.slice ba bn bc).ownBlock = some x ∨ (Value.slice pa n pc).ownBlock = some x := ⟨_, rfl⟩
    have HD1 : Hid (∀ x, D1 x ↔ ((Value.slice ba bn bc).ownBlock = some x ∨ (Value.slice pa n pc).ownBlock = some x)) := fun x => by rw [hD1]
    clear hD1
    have HNY : Hid (¬ D1 Y) := fun h => by
      have h1 := HS67.out; have h2 := HS9.out; have h3 := HS10.out
      rcases (HD1.out Y).1 h with h | h
      · have := (HP6.out Y h).2; omega
      · have := (HPP.out Y h).2; omega
    have HPB : Hid (∀ x, (Value.slice ba bn bc).ownBlock = some x → (Value.slice pa n pc).ownBlock ≠ some x) := fun x hx hy => by
      have h1 := HS67.out; have h2 := HS9.out
      have h4 := (HP6.out x hx).2
      have h5 := (HPP.out x hy).1
      omega
    have HRB : Hid (Ro 5 .u8 w13 (.slice ba bn bc) bn) := ro_own HO13.out
    have HRP : Hid (Ro 32 .u64 w13 (.slice pa n pc) n) := ro_own HR13.out
    clear HO13 HR13
    go_upto_block 0 with fail
    go_cut [12] (fun _ wx => Ch (fun x => (Value.slice ba bn bc).ownBlock = some x) w13 wx)
    case first =>
      go_wp2_with fail
      go_loopw [12] (fun iv wx => ∃ i : Nat, iv = .int .i64 i ∧ i ≤ bn ∧ Ro 5 .u8 wx (.slice ba bn bc) bn ∧ Ch (fun x => (Value.slice ba bn bc).ownBlock = some x) w13 wx) (fun iv _ => bn - (intOf iv).toNat)
      case atStart => exact ⟨0, rfl, by omega, HRB.out, Ch.refl _ _⟩
      case round =>
        obtain ⟨i, rfl, hi, hro, hch⟩ := hrel
        have HRO : Hid (Ro 5 .u8 wr (.slice ba bn bc) bn) := hro
        have HCH : Hid (Ch (fun x => (Value.slice ba bn bc).ownBlock = some x) w13 wr) := hch
        clear hro hch
        by_cases hlt : i < bn
        · have hlti : (i : Int) < (bn : Int) := by omega
          obtain ⟨g9, cap9, e9, hg9, _⟩ := HRO.out.some (by omega)
          simp only [Value.slice.injEq, true_and] at e9
          have e91 := e9.1
          clear e9
          subst e91
          obtain ⟨⟨y9, m9⟩, z9⟩ := HRO.out.at hlt
          have HN9 : Hid (Ro 5 .u8 (wr.setCell ⟨g9, i, none⟩ (.int .u8 85)) (.slice (some ⟨g9, 0, none⟩) bn bc) bn) := HRO.out.set i 85
          have HC9 : Hid (Ch (fun x => (Value.slice (some ⟨g9, 0, none⟩) bn bc).ownBlock = some x) w13 (wr.setCell ⟨g9, i, none⟩ (.int .u8 85))) := HCH.out.trans (ch_set wr g9 i _) (fun x hx => .inl (by rw [hx]; rfl))
          clear hg9
          go_wp2_with fail
          go_roundw
          case rel => exact ⟨i + 1, by go_num, hlt, HN9.out, HC9.out⟩
          case measure => simp [intOf]; omega
        · have hlti : ¬ (i : Int) < (bn : Int) := by omega
          go_wp2_with fail
          go_meet
          exact HCH.out
    case rest =>
      have HC1 : Hid (Ch D1 w13 wc) := (Ch.refl D1 w13).trans hcut (fun x hx => .inl ((HD1.out x).2 (.inl hx)))
      have HRP1 : Hid (Ro 32 .u64 wc (.slice pa n pc) n) := HRP.out.ch hcut (fun x hx hy => HPB.out x hy hx)
      obtain ⟨wa, hwa⟩ : ∃ wa, wa = wc := ⟨_, rfl⟩
      rw [← hwa] at HC1 HRP1 ⊢
      clear hcut hwa HRP HRB
      go_upto_block 2 with fail
      go_cut [13] (fun _ wx => Ro 32 .u64 wx (.slice pa n pc) n ∧ Ch D1 w13 wx)
      case first =>
        go_wp2_with fail
        go_loopw [13] (fun iv wx => ∃ i : Nat, iv = .int .i64 i ∧ i ≤ n ∧ Ro 32 .u64 wx (.slice pa n pc) n ∧ Ch D1 w13 wx) (fun iv _ => n - (intOf iv).toNat)
        case atStart => exact ⟨0, rfl, by omega, HRP1.out, HC1.out⟩
        case round =>
          obtain ⟨i, rfl, hi, hro, hch⟩ := hrel
          have HRO : Hid (Ro 32 .u64 wr (.slice pa n pc) n) := hro
          have HCH : Hid (Ch D1 w13 wr) := hch
          have y2 := hch.cell HPM13.out.c2 HNY.out
          clear hro hch
          by_cases hlt : i < n
          · have hlti : (i : Int) < (n : Int) := by omega
            obtain ⟨g9, cap9, e9, hg9, _⟩ := HRO.out.some (by omega)
            simp only [Value.slice.injEq, true_and] at e9
            have e91 := e9.1
            clear e9
            subst e91
            obtain ⟨⟨y9, m9⟩, z9⟩ := HRO.out.at hlt
            have HN9 : Hid (Ro 32 .u64 (wr.setCell ⟨g9, i, none⟩ (.int .u64 9)) (.slice (some ⟨g9, 0, none⟩) n pc) n) := HRO.out.set i 9
            have HC9 : Hid (Ch D1 w13 (wr.setCell ⟨g9, i, none⟩ (.int .u64 9))) := HCH.out.trans (ch_set wr g9 i _) (fun x hx => .inl ((HD1.out x).2 (.inr (by rw [hx]; rfl))))
            clear hg9
            go_wp2_with fail
            go_roundw
            case rel => exact ⟨i + 1, by go_num, hlt, HN9.out, HC9.out⟩
            case measure => simp [intOf]; omega
          · have hlti : ¬ (i : Int) < (n : Int) := by omega
            go_wp2_with fail
            go_meet
            exact ⟨HRO.out, HCH.out⟩
      case rest =>
        obtain ⟨⟨lp, hlp⟩, hC2⟩ := hcut
        obtain ⟨wd, hwd⟩ : ∃ wd, wd = wc := ⟨_, rfl⟩
        rw [← hwd] at hlp hC2 ⊢
        have HLP : Hid (wd.ownsRow 0 32 1 (.slice pa n pc) n (lp.map (Value.int .u64))) := hlp
        have HC2 : Hid (Ch D1 w13 wd) := hC2
        have y2 := hC2.cell HPM13.out.c2 HNY.out
        clear hlp hC2 hwd HRP1 HC1
        go_upto_region 25 with (at_builtin; refine wpList_append_sv (by rfl) (.tmp 106) (.tmp 107) 24 (by rfl) 0 32 .u64 8 Try.underlying24 info_u64 _ _ _ (by rfl) (HLP.out.alloc _) _ (ib [8, 8, 8, 8]) (by rfl) (sv_lit .u64 wd 32 (ib [8, 8, 8, 8]) (by simp [maxLen, ib])) (bk8 HSZ.out (by have := HN.out; simp [ib]; omega)) (bb8 HSZ.out (by have := HN.out; simp [ib]; omega)) (Nat.zero_le _) ?_; intro v14 w14 hown hgrow; obtain ⟨a14, c14, hv14⟩ := own_form8 hown; subst hv14; (have HC14 : Hid (Ch D1 w13 w14) := HC2.out.trans ((Ch.of_below (D := D1) (below_alloc wd _)).trans (Ch.of_grown (D := D1) hgrow (fun x hx => (HD1.out x).2 (.inr hx))) (fun x hx => .inl hx)) (fun x hx => .inl hx)); (have HY14 : Hid (MB w14 Y mb ma (.slice pa n pc)) := HPM13.out.ch HC14.out HNY.out); clear hown hgrow y2 HLP HC2; (have y2 := HY14.out.c2); (have yz := HY14.out.z 2))
        have HC15 : Hid (Ch (DD (.slice ba bn bc) (.slice pa n pc) Y) w13 (w14.setCell ⟨Y, 2, none⟩ (.slice a14 (n + (ib [8, 8, 8, 8]).length) c14))) :=
          ((Ch.refl (DD (.slice ba bn bc) (.slice pa n pc) Y) w13).trans HC14.out (fun x hx => .inl (by rcases (HD1.out x).1 hx with h | h; exact .inl h; exact .inr (.inl h)))).trans (ch_set w14 Y 2 _) (fun x hx => .inl (.inr (.inr hx)))
        generalize hw15 : w14.setCell ⟨Y, 2, none⟩ (.slice a14 (n + (ib [8, 8, 8, 8]).length) c14) = w15 at HC15 ⊢
        clear hw15 y2 yz HY14 HC14
        have HDL : Hid (∀ x, DD (.slice ba bn bc) (.slice pa n pc) Y x → P < x ∧ x < w11.heap.size ∧ ¬ (w6.heap.size ≤ x ∧ x < w7.heap.size)) := fun x hx => by
          have h1 := HS67.out; have h2 := HS9.out; have h3 := HS10.out; have h4 := HYW.out
          rcases hx with hx | hx | hx
          · have := HP6.out x hx; exact ⟨this.1, by omega, by omega⟩
          · have := HPP.out x hx; exact ⟨by have h6 := HPX.out; omega, by omega, by omega⟩
          · exact ⟨by have h6 := HPX.out; omega, by omega, by omega⟩
        have HB15 : Hid (Below w.heap.size w w15) := HB13.out.trans (HC15.out.to_below HB13.out.size (fun x hx => by have := (HDL.out x hx).1; have := HPW.out; omega))
        have HZ15 : Hid (MB w15 Z mb ma (.slice qa n qc)) := HZ13.out.ch HC15.out (fun h => by have := (HDL.out Z h).2.1; have := HS12.out; omega)
        have HM15 : Hid _ := HM13.out.ch HC15.out (fun h => by have := (HDL.out P h).1; omega)
        have HQ15 : Hid (Kv w15 (.slice qa n qc) k) := Kv.ch (own_sv HQ13.out) HC15.out (fun x hx h => by have h1 := (HDL.out x h).2.1; have h2 := (HQP.out x hx).1; omega)
        have HC16 : Hid (Bv w15 vc L) := HC13.out.chO HC15.out (fun x hx h => (HDL.out x h).2.2 (HPC.out x hx))
        clear HC15
        have z0 := HZ15.out.c0
        have z1 := HZ15.out.c1
        have z2 := HZ15.out.c2
        go_wp2_with fail
        refine (menc_walk HQ15.out HOK.out mb ma).mono ?_
        unfold MGot
        rw [HEN.out]
        rintro e w16 ⟨vd, rfl, ho16, hB16⟩
        have HB16 : Hid (Below w.heap.size w w16) := below_trans HB15.out hB16
        have HZ16 : Hid _ := HZ15.out.keep hB16
        have HM16 : Hid _ := HM15.out.keep hB16
        have HQ16 : Hid (Kv w16 (.slice qa n qc) k) := HQ15.out.below hB16
        have HC17 : Hid (Bv w16 vc L) := HC16.out.below hB16
        have HD16 : Hid (Bv w16 vd L) := own_bv ho16 HLL.out
        clear ho16 hB16 HB15 HZ15 HM15 HQ15 HC16 z0 z1 z2
        have z0 := HZ16.out.c0
        have z1 := HZ16.out.c1
        have z2 := HZ16.out.c2
        have c0 := HM16.out.c0
        have c1 := HM16.out.c1
        have c2 := HM16.out.c2
        go_wp2_with fail
        refine (msame_walk mb ma HQ16.out (HKW.out.below HB16.out)).mono ?_
        rintro e w17 ⟨rfl, hB17⟩
        have HB17 : Hid (Below w.heap.size w w17) := below_trans HB16.out hB17
        have hs2 : (convert 22 9 vd).run Try.prog w17 = .ok (.string (str L)) w17 := (HD16.out.below hB17).str 22 5 9 Try.underlying22 Try.underlying5 Try.underlying9
        have hs3 : (convert 22 9 vc).run Try.prog w17 = .ok (.string (str L)) w17 := (HC17.out.below hB17).str 22 5 9 Try.underlying22 Try.underlying5 Try.underlying9
        clear hB17 z0 z1 z2 c0 c1 c2
        generalize str L = S0 at hs2 hs3
        go_wp2_with fail
        go_ret
        exact ⟨rfl, HB17.out⟩
end Go.Proofs.Ytkicnoohfilgjaa


