/- Blocks of a disk as they were told; what is asked again: lemmas for StoreAgain, StoreFences. -/
import Derived.Test.YtofkhgokfdpdiaaGreatB09
import Derived.Test.YtofkhgokfdpdiaaGreatB49
set_option maxRecDepth 100000
set_option maxHeartbeats 16000000
namespace Go.Proofs.YtofkhgokfdpdiaaGreat
section
open Go.RowKit

theorem images_lenS {w : World} {a b : Value} {la lb : List (List Nat)} (ha : PvD w a la) (hb : PvD w b lb) (hn : la.length ≠ lb.length) :
  Calls Tryz.prog 25 #[a, b] w fun e w' => e = .returned (.bool (decide (la = lb))) ∧ Below w.heap.size w w' := by
 have he : decide (la = lb) = false := decide_eq_false (fun e => hn (by rw [e]))
 rw [he]
 obtain ⟨ao, ca, rfl, _, _⟩ := ha.form
 obtain ⟨bo, cb, rfl, _, _⟩ := hb.form
 have hne : ((la.length : Int) == (lb.length : Int)) = false := by simp; omega
 have hne2 : (la.length : Int) ≠ (lb.length : Int) := by omega
 clear ha hb hn he
 go_in
 go_wp2_with fail
 go_ret
 exact ⟨rfl, below_same _⟩
theorem images_noneS {w : World} {ao bo : Option Addr} {ca cb : Nat} :
  Calls Tryz.prog 25 #[.slice ao 0 ca, .slice bo 0 cb] w fun e w' => e = .returned (.bool true) ∧ Below w.heap.size w w' := by
 go_in
 go_wp2_with fail
 refine wp_loop_rounds 1 ?_
 rw [rounds_succ]
 go_wp2_with fail
 go_ret
 exact ⟨rfl, below_same _⟩
def ImRelS (la lb : List (List Nat)) (w : World) (iv : Value) (wr : World) : Prop :=
 ∃ k : Nat, k ≤ la.length ∧ iv = .int .i64 k ∧ (∀ i, i < k → bk la i = bk lb i) ∧ Below w.heap.size w wr
theorem images_someS {w : World} {la lb : List (List Nat)} {b1 o1 c1 b2 o2 c2 n : Nat} (hna : la.length = n) (hnb : lb.length = n) (hm : n ≤ maxLen)
  (ha : ∀ i, i < n → ∃ u, w.cell? ⟨b1, o1 + i, none⟩ = some u ∧ Bv w u (bk la i)) (hb : ∀ i, i < n → ∃ u, w.cell? ⟨b2, o2 + i, none⟩ = some u ∧ Bv w u (bk lb i)) :
  Calls Tryz.prog 25 #[.slice (some ⟨b1, o1, none⟩) n c1, .slice (some ⟨b2, o2, none⟩) n c2] w fun e w' => e = .returned (.bool (decide (la = lb))) ∧ Below w.heap.size w w' := by
 have HA := hidH ha
 have HB := hidH hb
 have HNA : Hid (la.length = n) := hna
 have HNB : Hid (lb.length = n) := hnb
 have hni : (n : Int) ≤ 9223372036854775807 := by simp only [maxLen] at hm; omega
 obtain ⟨A, hA⟩ : ∃ A, A = decide (la = lb) := ⟨_, rfl⟩
 rw [← hA]
 have HAA : Hid (A = decide (la = lb)) := hA
 clear ha hb hna hnb hm hA
 go_in
 go_wp2_with fail
 go_loopw [5] (fun iv wr => ImRelS la lb w iv wr) (fun iv _ => n - (intOf iv).toNat)
 case atStart => exact ⟨0, Nat.zero_le _, rfl, fun i hi => by omega, below_same _⟩
 case round =>
  obtain ⟨k, hk, rfl, heq, hbel⟩ := hrel
  have hkn : k ≤ n := by rw [← HNA.out]; exact hk
  have HEQ : Hid (∀ i, i < k → bk la i = bk lb i) := heq
  clear heq hk
  by_cases hlt : k < n
  ·obtain ⟨u1, hu1, hv1⟩ := HA.out k hlt
   obtain ⟨u2, hu2, hv2⟩ := HB.out k hlt
   obtain ⟨p1, hp1⟩ : ∃ p, bk la k = p := ⟨_, rfl⟩
   obtain ⟨p2, hp2⟩ : ∃ p, bk lb k = p := ⟨_, rfl⟩
   rw [hp1] at hv1
   rw [hp2] at hv2
   have HP1 : Hid (bk la k = p1) := hp1
   have HP2 : Hid (bk lb k = p2) := hp2
   clear hp1 hp2
   have hw1 := hv1.below hbel
   have hw2 := hv2.below hbel
   obtain ⟨a1, d1, rfl, _⟩ := bv_formD hv1
   obtain ⟨a2, d2, rfl, _⟩ := bv_formD hv2
   have j1 : ∀ wx, Below wr.heap.size wr wx → wx.cell? ⟨b1, o1 + k, none⟩ = some (.slice a1 p1.length d1) := fun wx h => by
    rw [(below_trans hbel h).cell (p := ⟨b1, o1 + k, none⟩) (cell_lt hu1)]; exact hu1
   have j2 : ∀ wx, Below wr.heap.size wr wx → wx.cell? ⟨b2, o2 + k, none⟩ = some (.slice a2 p2.length d2) := fun wx h => by
    rw [(below_trans hbel h).cell (p := ⟨b2, o2 + k, none⟩) (cell_lt hu2)]; exact hu2
   have s1 : ∀ wx, Below wr.heap.size wr wx → (convert 99 9 (.slice a1 p1.length d1)).run Tryz.prog wx = .ok (.string (str p1)) wx := fun wx h => str_of (hw1.below h)
   have s2 : ∀ wx, Below wr.heap.size wr wx → (convert 99 9 (.slice a2 p2.length d2)).run Tryz.prog wx = .ok (.string (str p2)) wx := fun wx h => str_of (hw2.below h)
   have hSd : Below wr.heap.size wr wr.drew := (Below.refl _ _).drew
   have HBE : Hid (Below w.heap.size w wr) := hbel
   have HB1 : Hid (∀ c ∈ p1, c < 256) := hv1.2
   have HB2 : Hid (∀ c ∈ p2, c < 256) := hv2.2
   clear hv1 hv2 hw1 hw2 hu1 hu2 hbel
   by_cases hpp : p1 = p2
   ·subst hpp
    have HR : Hid (∀ wx, Below wr.heap.size wr wx → ImRelS la lb w (.int .i64 ((k : Int) + 1)) wx) := fun wx h =>
     ⟨k + 1, by rw [HNA.out]; exact hlt, rfl, fun i hi => (by
      by_cases e : i = k
      ·subst e; rw [HP1.out, HP2.out]
      ·exact HEQ.out i (by omega)), below_trans HBE.out h⟩
    go_wp2_with fail
    go_region_held3 (fun wx => Below wr.heap.size wr wx) (first | assumption) (fail)
    all_goals go_wp2_with fail
    all_goals go_roundw
    case rel => exact HR.out _ (by assumption)
    case measure => simp [intOf]; omega
   ·have hne : ((str p1).toList == (str p2).toList) = false := by rw [str_beq HB1.out HB2.out]; exact decide_eq_false hpp
    have HF : Hid (A = false) := by
     show _ = _
     rw [HAA.out]
     exact decide_eq_false (fun e => hpp (by rw [← HP1.out, ← HP2.out, e]))
    clear hpp
    go_wp2_with fail
    go_region_held3 (fun wx => Below wr.heap.size wr wx) (first | assumption) (fail)
    all_goals go_wp2_with fail
    all_goals (try simp only [Exit.inBlock, Exit.then])
    all_goals go_ret
    all_goals exact ⟨by rw [HF.out]; rfl, below_trans HBE.out (by assumption)⟩
  ·obtain rfl : k = n := by omega
   have HT : Hid (A = true) := by
    show _ = _
    rw [HAA.out]
    exact decide_eq_true (bk_ext (by rw [HNA.out, HNB.out]) (fun i hi => HEQ.out i (by rw [HNA.out] at hi; exact hi)))
   go_wp2_with fail
   go_ret
   exact ⟨by rw [HT.out]; rfl, hbel⟩
theorem images_walkS {w : World} {a b : Value} {la lb : List (List Nat)} (ha : PvD w a la) (hb : PvD w b lb) :
  Calls Tryz.prog 25 #[a, b] w fun e w' => e = .returned (.bool (decide (la = lb))) ∧ Below w.heap.size w w' := by
 by_cases hn : la.length = lb.length
 ·obtain ⟨ao, ca, rfl, q1, q2, q3, q4⟩ := ha
  obtain ⟨bo, cb, rfl, r1, r2, r3, r4⟩ := hb
  by_cases h0 : la.length = 0
  ·have e1 : la = [] := List.eq_nil_of_length_eq_zero h0
   have e2 : lb = [] := List.eq_nil_of_length_eq_zero (by omega)
   subst e1; subst e2
   exact images_noneS
  ·obtain ⟨b1, o1, _, rfl, _, _⟩ := q4 0 (by omega)
   obtain ⟨b2, o2, _, rfl, _, _⟩ := r4 0 (by omega)
   rw [← hn]
   refine images_someS rfl hn.symm (by omega) (fun i hi => ?_) (fun i hi => ?_)
   ·obtain ⟨_, _, u, e1, e2, e3⟩ := q4 i hi
    cases e1
    exact ⟨u, e2, e3⟩
   ·obtain ⟨_, _, u, e1, e2, e3⟩ := r4 i (by omega)
    cases e1
    exact ⟨u, e2, e3⟩
 ·exact images_lenS ha hb hn
theorem some_walkS (b : Nat) (w : World) : Calls Tryz.prog 50 #[.int .u64 b] w fun e w' => e = .returned (.agg #[.bool true, .int .u64 b]) ∧ Below w.heap.size w w' := by
 go_in
 go_wp2_with fail
 refine bodyPost_ret (v := .agg #[.bool true, .int .u64 b]) (by simp [results, Tryz.results50, go_sem]) rfl ⟨rfl, below_alloc _ _⟩
theorem pair_walkS (k b : Nat) (w : World) : Calls Tryz.prog 48 #[.int .u64 k, .int .u64 b] w fun e w' => e = .returned (.agg #[.int .u64 k, .bool true, .int .u64 b]) ∧ Below w.heap.size w w' := by
 go_in
 go_wp2_with fail
 have c0 : (w.alloc (Obj.cells #[.int .u64 0, .bool false, .int .u64 0] 87)).cell? ⟨w.heap.size, 0, none⟩ = some (.int .u64 0) := by simp [go_sem]
 have c1 : (w.alloc (Obj.cells #[.int .u64 0, .bool false, .int .u64 0] 87)).cell? ⟨w.heap.size, 1, none⟩ = some (.bool false) := by simp [go_sem]
 have c2 : (w.alloc (Obj.cells #[.int .u64 0, .bool false, .int .u64 0] 87)).cell? ⟨w.heap.size, 2, none⟩ = some (.int .u64 0) := by simp [go_sem]
 have z0 : ∀ j, (w.alloc (Obj.cells #[.int .u64 0, .bool false, .int .u64 0] 87)).frozen? ⟨w.heap.size, j, none⟩ = false := by intro j; simp [go_sem]
 have HB0 : Hid (Below w.heap.size w (w.alloc (Obj.cells #[.int .u64 0, .bool false, .int .u64 0] 87))) := below_alloc _ _
 generalize w.alloc (Obj.cells #[.int .u64 0, .bool false, .int .u64 0] 87) = w0 at HB0 c0 c1 c2 z0 ⊢
 refine (some_walkS b w0).mono ?_
 rintro e w1 ⟨rfl, hB1⟩
 have d0 : w1.cell? ⟨w.heap.size, 0, none⟩ = some (.int .u64 0) := by rw [hB1.cell (p := ⟨w.heap.size, 0, none⟩) (cell_lt c0)]; exact c0
 have d1 : w1.cell? ⟨w.heap.size, 1, none⟩ = some (.bool false) := by rw [hB1.cell (p := ⟨w.heap.size, 1, none⟩) (cell_lt c1)]; exact c1
 have d2 : w1.cell? ⟨w.heap.size, 2, none⟩ = some (.int .u64 0) := by rw [hB1.cell (p := ⟨w.heap.size, 2, none⟩) (cell_lt c2)]; exact c2
 have y0 : w1.frozen? ⟨w.heap.size, 0, none⟩ = false := by rw [hB1.frozen (p := ⟨w.heap.size, 0, none⟩) (cell_lt c0)]; exact z0 0
 have y1 : w1.frozen? ⟨w.heap.size, 1, none⟩ = false := by rw [hB1.frozen (p := ⟨w.heap.size, 1, none⟩) (cell_lt c1)]; exact z0 1
 have y2 : w1.frozen? ⟨w.heap.size, 2, none⟩ = false := by rw [hB1.frozen (p := ⟨w.heap.size, 2, none⟩) (cell_lt c2)]; exact z0 2
 have HB1 : Hid (Below w.heap.size w w1) := below_trans HB0.out hB1
 clear hB1 c0 c1 c2 z0
 obtain ⟨R, hR⟩ : ∃ R, R = w.heap.size := ⟨_, rfl⟩
 have HR : Hid (R = w.heap.size) := hR
 rw [← hR] at d0 d1 d2 y0 y1 y2 ⊢
 clear hR
 go_wp2_with fail
 refine bodyPost_ret (v := .agg #[.int .u64 k, .bool true, .int .u64 b]) (by simp [results, Tryz.results48, go_sem, d0, d1, d2]) rfl ⟨rfl, ?_⟩
 rw [← HR.out]
 have h := HB1.out
 rw [← HR.out] at h
 exact ((h.setCell (Nat.le_refl _) _).setCell (Nat.le_refl _) _).setCell (Nat.le_refl _) _
theorem marks_same {w : World} {av bv : Value} {ks : List Nat} (ha : Kv w av ks) (hb : Kv w bv ks) (b a : Int) :
  Calls Tryz.prog 45 #[.agg #[.int .i64 b, .int .i64 a, av], .agg #[.int .i64 b, .int .i64 a, bv]] w fun e w' => e = .returned (.bool true) ∧ Below w.heap.size w w' := by
 obtain ⟨aa, ac, rfl, al, am⟩ := kv_form ha
 obtain ⟨ba, bc, rfl, bl, bm⟩ := kv_form hb
 obtain ⟨n, hn⟩ : ∃ n, n = ks.length := ⟨_, rfl⟩
 rw [← hn] at ha hb al ⊢
 have HN : Hid (n = ks.length) := hn
 have hni : (n : Int) ≤ 9223372036854775807 := by simp only [maxLen] at am; omega
 have HB0 : Hid (Below w.heap.size w ((w.alloc (Obj.cells #[.int .i64 b, .int .i64 a, .slice aa n ac] 75)).alloc (Obj.cells #[.int .i64 b, .int .i64 a, .slice ba n bc] 75))) := below_trans (below_alloc _ _) (below_alloc _ _)
 have HA : Hid (Kv ((w.alloc (Obj.cells #[.int .i64 b, .int .i64 a, .slice aa n ac] 75)).alloc (Obj.cells #[.int .i64 b, .int .i64 a, .slice ba n bc] 75)) (.slice aa n ac) ks) := ha.below HB0.out
 have HB : Hid (Kv ((w.alloc (Obj.cells #[.int .i64 b, .int .i64 a, .slice aa n ac] 75)).alloc (Obj.cells #[.int .i64 b, .int .i64 a, .slice ba n bc] 75)) (.slice ba n bc) ks) := hb.below HB0.out
 have HM1 : Hid (MB ((w.alloc (Obj.cells #[.int .i64 b, .int .i64 a, .slice aa n ac] 75)).alloc (Obj.cells #[.int .i64 b, .int .i64 a, .slice ba n bc] 75)) w.heap.size b a (.slice aa n ac)) := (mb_new w b a (.slice aa n ac)).keep (below_alloc _ _)
 have HM2 : Hid (MB ((w.alloc (Obj.cells #[.int .i64 b, .int .i64 a, .slice aa n ac] 75)).alloc (Obj.cells #[.int .i64 b, .int .i64 a, .slice ba n bc] 75)) (w.heap.size + 1) b a (.slice ba n bc)) := by
  have h := mb_new (w.alloc (Obj.cells #[.int .i64 b, .int .i64 a, .slice aa n ac] 75)) b a (.slice ba n bc)
  rwa [size_allocC] at h
 clear ha hb hn al am bl bm
 go_in
 go_upto_region 1 with fail
 obtain ⟨R, hR⟩ : ∃ R, R = w.heap.size := ⟨_, rfl⟩
 obtain ⟨T, hT⟩ : ∃ T, T = w.heap.size + 1 := ⟨_, rfl⟩
 rw [← hT] at HM2 ⊢
 rw [← hR] at HM1 ⊢
 generalize (w.alloc (Obj.cells #[.int .i64 b, .int .i64 a, .slice aa n ac] 75)).alloc (Obj.cells #[.int .i64 b, .int .i64 a, .slice ba n bc] 75) = w0 at HB0 HA HB HM1 HM2 ⊢
 clear hR hT
 obtain ⟨c0, c1, c2, _⟩ := HM1.out
 obtain ⟨d0, d1, d2, _⟩ := HM2.out
 have hbb : (b != b) = false := by simp
 have haa : (a != a) = false := by simp
 go_wp2_with fail
 go_loopw [5] (fun iv wr => ∃ i : Nat, iv = .int .i64 i ∧ i ≤ n ∧ Below w0.heap.size w0 wr) (fun iv _ => n - (intOf iv).toNat)
 case atStart => exact ⟨0, rfl, by omega, Below.refl _ _⟩
 case round =>
  obtain ⟨i, rfl, hin, hB⟩ := hrel
  have HW : Hid (Below w0.heap.size w0 wr) := hB
  have k2 : wr.cell? ⟨R, 2, none⟩ = some (.slice aa n ac) := by rw [hB.cell (p := ⟨R, 2, none⟩) (cell_lt c2)]; exact c2
  have l2 : wr.cell? ⟨T, 2, none⟩ = some (.slice ba n bc) := by rw [hB.cell (p := ⟨T, 2, none⟩) (cell_lt d2)]; exact d2
  clear hB c0 c1 c2 d0 d1 d2
  by_cases hlt : i < n
  ·have hlti : (i : Int) < (n : Int) := by omega
   have hlk : i < ks.length := by rw [← HN.out]; exact hlt
   obtain ⟨p, po, hp, m0⟩ := kv_get (HA.out.below HW.out) hlk
   obtain ⟨q, qo, hq, m1⟩ := kv_get (HB.out.below HW.out) hlk
   subst hp hq
   obtain ⟨x, hx⟩ : ∃ x, x = ks[i] := ⟨_, rfl⟩
   rw [← hx] at m0 m1
   have hne : ((x : Int) != (x : Int)) = false := by simp
   clear hx
   go_wp2_with fail
   go_quiet (fail)
   go_wp2_with fail
   go_roundw
   case rel => exact ⟨i + 1, by go_num, by omega, below_trans HW.out (below_drewN _ _)⟩
   case measure => simp [intOf]; omega
  ·have hlti : ¬ (i : Int) < (n : Int) := by omega
   go_wp2_with fail
   go_ret
   exact ⟨rfl, below_trans HB0.out HW.out⟩
end
section
open Go.RowKit

theorem kv_2 (w : World) (x y : Nat) : Kv (w.alloc (Obj.cells #[.int .u64 (x : Int), .int .u64 (y : Int)] 37)) (.slice (some ⟨w.heap.size, 0, none⟩) 2 2) [x, y] := by
 refine ⟨_, 2, rfl, Nat.le_refl _, by simp [maxLen], by simp, fun i hi => ?_⟩
 have h : i = 0 ∨ i = 1 := by simp [ib] at hi; omega
 rcases h with rfl | rfl <;> exact ⟨w.heap.size, 0, rfl, by simp [go_sem, ib]⟩
theorem kv_1 (w : World) (x : Nat) : Kv (w.alloc (Obj.cells #[.int .u64 (x : Int)] 37)) (.slice (some ⟨w.heap.size, 0, none⟩) 1 1) [x] := by
 refine ⟨_, 1, rfl, Nat.le_refl _, by simp [maxLen], by simp, fun i hi => ?_⟩
 have h : i = 0 := by simp [ib] at hi; omega
 subst h
 exact ⟨w.heap.size, 0, rfl, by simp [go_sem, ib]⟩
theorem qv_1 (w : World) (p : Pr) (hp : p.ok) : Qv (w.alloc (Obj.cells #[.int .u64 p.k, .bool p.v.h, .int .u64 p.v.b] 87)) (.slice (some ⟨w.heap.size, 0, none⟩) 1 1) [p] := by
 refine ⟨⟨_, 1, rfl, Nat.le_refl _, by simp [maxLen], by simp, fun i hi => ?_⟩, fun o ho => by simp at ho; subst ho; exact hp⟩
 have h : i = 0 := by simp at hi; omega
 subst h
 exact ⟨w.heap.size, 0, rfl, by simp [go_sem], by simp [go_sem], by simp [go_sem]⟩
theorem qv_0 (w : World) : Qv w (.slice none 0 0) [] := ⟨⟨none, 0, rfl, Nat.le_refl _, by simp [maxLen], fun _ => rfl, fun i hi => by simp at hi⟩, by simp⟩
def awT : List Pr := [⟨2, ⟨true, 3⟩⟩]
def awL : List (List Cl) := [[⟨2, noV, ⟨true, 3⟩, 1⟩], [], [], [], [], []]
theorem aw_beg : begS noS zeroM 1 = noS := rfl
theorem aw_app : appA 1 1 noS awT = (0, awL) := by rfl
theorem aw_revS : begS awL ⟨1, 4, [2, 9]⟩ 1 = noS := by rfl
theorem aw_q1 : shRes awL 2 1 = ⟨true, 3⟩ := by rfl
theorem aw_q0 : shRes awL 2 0 = ⟨false, 0⟩ := by rfl
theorem aw_q2 : shRes noS 2 1 = ⟨false, 0⟩ := by rfl
theorem aw_ta : Ta 1 ⟨1, 4, [2, 9]⟩ awT := by
 refine ⟨by simp [awT, Rise], fun p hp => ?_⟩
 simp [awT] at hp
 subst hp
 exact ⟨by simp, by decide, by show (3 : Nat) < _; decide, rfl, rfl⟩
theorem aw_fen : apE ⟨1, 4, [2, 9]⟩ 1 1 3 awL [] = some 130 := by rfl
theorem low_no : Low noS := fun c hc => absurd hc (in_no c)
theorem used_no {P : Bo} {S : Dk} {m : Mk} (hm : soundBM m = true) (h : Iw P S (pagesW m noS)) : usedN P.tab = 1 := by
 have h0 : tn P.tab 0 ≠ 0 := by
  rcases h.pg 0 (by omega) with ⟨_, b⟩ | ⟨a, _⟩
  ·rw [bk_zero] at b; exact absurd b (encM_ne hm)
  ·exact a
 have hz : ∀ i, i < 6 → tn P.tab (i + 1) = 0 := fun i hi => by
  rcases h.pg (i + 1) (by omega) with ⟨a, _⟩ | ⟨_, _, c⟩
  ·exact a
  ·rw [bk_succ, pgc_no] at c; exact absurd rfl c
 have hl := h.n8
 have e : ∀ k, k ≤ 6 → usedN (P.tab.take (k + 1)) = 1 := by
  intro k
  induction k with
  | zero =>
   intro _
   rw [used_take (by omega), if_neg h0]
   rfl
  | succ k ih =>
   intro hk
   rw [used_take (by omega), ih (by omega), if_pos (hz k (by omega))]
 have := e 6 (Nat.le_refl _)
 rwa [List.take_of_length_le (by omega)] at this
theorem flat_no {d : List Cl} (h : SrtOf noS.flatten d) : d = [] := by
 have : noS.flatten = [] := rfl
 rw [this] at h
 exact List.Perm.eq_nil h.1
structure AwS (w0 : World) (A : Nat → Prop) (P : Bo) (S : Dk) (sp sb T5 T7 T11 T13 : Nat) (kv : Value) (w : World) : Prop where
 bb : Below w0.heap.size w0 w
 rs : RS A w (.pointer (some ⟨sp, 0, none⟩)) (.pointer (some ⟨sb, 0, none⟩)) 1 P S ⟨1, 6, [9]⟩ noS
 a5 : w.cell? ⟨T5, 0, none⟩ = some (.bool true)
 b5 : w.cell? ⟨T5, 1, none⟩ = some (.int .u64 3)
 a7 : w.cell? ⟨T7, 0, none⟩ = some (.bool false)
 b7 : w.cell? ⟨T7, 1, none⟩ = some (.int .u64 0)
 a11 : w.cell? ⟨T11, 0, none⟩ = some (.bool false)
 b11 : w.cell? ⟨T11, 1, none⟩ = some (.int .u64 0)
 m0 : w.cell? ⟨T13, 0, none⟩ = some (.int .i64 1)
 m1 : w.cell? ⟨T13, 1, none⟩ = some (.int .i64 6)
 m2 : w.cell? ⟨T13, 2, none⟩ = some kv
 kvs : Kv w kv [9]
theorem AwS.below {A : Nat → Prop} {P : Bo} {S : Dk} {sp sb T5 T7 T11 T13 : Nat} {kv : Value} {w0 w w' : World} (h : AwS w0 A P S sp sb T5 T7 T11 T13 kv w) (hb : Below w.heap.size w w') : AwS w0 A P S sp sb T5 T7 T11 T13 kv w' :=
 ⟨below_trans h.bb hb, h.rs.below hb, by rw [hb.cell (p := ⟨T5, 0, none⟩) (cell_lt h.a5)]; exact h.a5, by rw [hb.cell (p := ⟨T5, 1, none⟩) (cell_lt h.b5)]; exact h.b5, by rw [hb.cell (p := ⟨T7, 0, none⟩) (cell_lt h.a7)]; exact h.a7, by rw [hb.cell (p := ⟨T7, 1, none⟩) (cell_lt h.b7)]; exact h.b7, by rw [hb.cell (p := ⟨T11, 0, none⟩) (cell_lt h.a11)]; exact h.a11, by rw [hb.cell (p := ⟨T11, 1, none⟩) (cell_lt h.b11)]; exact h.b11, by rw [hb.cell (p := ⟨T13, 0, none⟩) (cell_lt h.m0)]; exact h.m0, by rw [hb.cell (p := ⟨T13, 1, none⟩) (cell_lt h.m1)]; exact h.m1, by rw [hb.cell (p := ⟨T13, 2, none⟩) (cell_lt h.m2)]; exact h.m2, h.kvs.below hb⟩
section

variable {w0 w : World} {A : Nat → Prop} {P : Bo} {S : Dk} {sp sb T5 T7 T11 T13 : Nat} {kv : Value}

theorem aw_held (h : AwS w0 A P S sp sb T5 T7 T11 T13 kv w) : w.cell? ⟨T5, 0, none⟩ = some (.bool true) ∧ w.cell? ⟨T5, 1, none⟩ = some (.int .u64 3) ∧ w.cell? ⟨T7, 0, none⟩ = some (.bool false) ∧ w.cell? ⟨T7, 1, none⟩ = some (.int .u64 0) ∧ w.cell? ⟨T11, 0, none⟩ = some (.bool false) ∧ w.cell? ⟨T11, 1, none⟩ = some (.int .u64 0) ∧ w.cell? ⟨T13, 0, none⟩ = some (.int .i64 1) ∧ w.cell? ⟨T13, 1, none⟩ = some (.int .i64 6) ∧ w.cell? ⟨T13, 2, none⟩ = some kv ∧ Hid (AwS w0 A P S sp sb T5 T7 T11 T13 kv w) :=
 ⟨h.a5, h.b5, h.a7, h.b7, h.a11, h.b11, h.m0, h.m1, h.m2, h⟩
theorem aw_used (h : AwS w0 A P S sp sb T5 T7 T11 T13 kv w) : Calls Tryz.prog 40 #[.pointer (some ⟨sp, 0, none⟩)] w fun e w' => e = .returned (.int .i64 1) ∧ w' = w := by
 have hu := used_no (m := ⟨1, 6, [9]⟩) rfl h.rs.iw
 have c := sused_walk h.rs.st
 rw [hu] at c
 exact c
theorem aw_ended (h : AwS w0 A P S sp sb T5 T7 T11 T13 kv w) : Calls Tryz.prog 51 #[.pointer (some ⟨sp, 0, none⟩)] w fun e w' => e = .returned (.bool false) ∧ w' = w := by
 have c := sended_walk h.rs.st
 rw [h.rs.iw.ov] at c
 exact c
end
end
section
open Go.RowKit

theorem vb_newS (w : World) (h : Bool) (b : Nat) : (w.alloc (Obj.cells #[.bool h, .int .u64 (b : Int)] 53)).cell? ⟨w.heap.size, 0, none⟩ = some (.bool h) ∧ (w.alloc (Obj.cells #[.bool h, .int .u64 (b : Int)] 53)).cell? ⟨w.heap.size, 1, none⟩ = some (.int .u64 (b : Int)) := by constructor <;> simp [go_sem]
theorem two_keep {D : Nat → Prop} {w w' : World} {T : Nat} {u v : Value} (h : w.cell? ⟨T, 0, none⟩ = some u ∧ w.cell? ⟨T, 1, none⟩ = some v) (hc : Ch D w w') (hd : ¬ D T) : w'.cell? ⟨T, 0, none⟩ = some u ∧ w'.cell? ⟨T, 1, none⟩ = some v := ⟨hc.cell h.1 hd, hc.cell h.2 hd⟩
theorem two_below {w w' : World} {T : Nat} {u v : Value} (h : w.cell? ⟨T, 0, none⟩ = some u ∧ w.cell? ⟨T, 1, none⟩ = some v) (hc : Below w.heap.size w w') : w'.cell? ⟨T, 0, none⟩ = some u ∧ w'.cell? ⟨T, 1, none⟩ = some v := two_keep (D := fun _ => False) h (Ch.of_below hc) (fun e => e)
theorem awake_walkS (w : World) : Calls Tryz.prog 9 #[] w fun e w' => e = .returned (.bool true) ∧ Below w.heap.size w w' := by
 go_in
 go_wp2_with fail
 refine (fresh_walk (k := 1) rfl w).mono ?_
 rintro e w1 ⟨A1, P1, S1, sp, sb, rfl, hrs, hA, hsp, hcn, hbl, hB⟩
 have HR1 := hidH hrs
 have HA1 : Hid (∀ x, A1 x → w.heap.size ≤ x) := hA
 have HC1 : Hid (cntS P1 S1 ≤ 12) := hcn
 have HB1 : Hid (Below w.heap.size w w1) := hB
 clear hrs hA hsp hcn hbl hB
 go_upto_region 4 with fail
 have HB2 : Hid (Below w1.heap.size w1 (w1.alloc (Obj.cells #[.int .u64 2, .int .u64 9] 37))) := below_alloc _ _
 have HK2 : Hid (Kv (w1.alloc (Obj.cells #[.int .u64 2, .int .u64 9] 37)) (.slice (some ⟨w1.heap.size, 0, none⟩) 2 2) [2, 9]) := kv_2 w1 2 9
 go_wp2_with fail
 refine (begin_open (HR1.out.below HB2.out) (by have := HC1.out; omega) HK2.out (by intro x hx; simp at hx; omega) (fun x hx hA => by have h := HR1.out.st.lt hA; simp [Value.ownBlock] at hx; omega) (b := 1) (a := 4) (.inr rfl) (by omega) (by omega) (by omega) (by omega) (by simp) rfl (.inl (by decide))).mono ?_
 rw [aw_beg]
 rintro e w3 ⟨rfl, A3, P3, S3, hrs, hA, hc, hcn, _, _⟩
 have HW2 : Hid (Below w.heap.size w (w1.alloc (Obj.cells #[.int .u64 2, .int .u64 9] 37))) := below_trans HB1.out HB2.out
 have HR3 := hidH hrs
 have HA3 : Hid (∀ x, A3 x → w.heap.size ≤ x) := fun x hx => by
  rcases hA x hx with q | q
  ·exact HA1.out x q
  ·have := HW2.out.size; omega
 have HC3 : Hid (cntS P3 S3 ≤ 29) := by have := HC1.out; show _ ≤ _; omega
 have HB3 : Hid (Below w.heap.size w w3) := HW2.out.trans (hc.to_below HW2.out.size HA1.out)
 clear hrs hA hc hcn HR1 HA1 HC1 HB1 HB2 HK2 HW2
 go_wp2_with fail
 refine (pair_walkS 2 3 w3).mono ?_
 rintro e w4 ⟨rfl, hb4⟩
 have HR4 : Hid (RS A3 w4 (.pointer (some ⟨sp, 0, none⟩)) (.pointer (some ⟨sb, 0, none⟩)) 1 P3 S3 ⟨1, 4, [2, 9]⟩ noS) := HR3.out.below hb4
 have HB4 : Hid (Below w.heap.size w w4) := below_trans HB3.out hb4
 have HQ4 : Hid (Qv (w4.alloc (Obj.cells #[.int .u64 2, .bool true, .int .u64 3] 87)) (.slice (some ⟨w4.heap.size, 0, none⟩) 1 1) awT) := qv_1 w4 ⟨2, ⟨true, 3⟩⟩ ⟨by decide, by show (3 : Nat) < _; decide⟩
 have HB5 : Hid (Below w4.heap.size w4 (w4.alloc (Obj.cells #[.int .u64 2, .bool true, .int .u64 3] 87))) := below_alloc _ _
 have HW5 : Hid (Below w.heap.size w (w4.alloc (Obj.cells #[.int .u64 2, .bool true, .int .u64 3] 87))) := below_trans HB4.out HB5.out
 clear hb4 HR3 HB3
 go_wp2_with fail
 refine (apply_open (HR4.out.below HB5.out) (by have := HC3.out; omega) HQ4.out (fun x hx hA => by have h := HR4.out.st.lt hA; simp [Value.ownBlock] at hx; omega) (by show (1 : Int) ≤ 1; omega) (by show (1 : Int) ≤ 4; omega) aw_ta (by
  obtain ⟨L, e, g, _⟩ := app_all (k := 1) (m := ⟨1, 4, [2, 9]⟩) (b := 1) rfl (by omega) awT noS HR4.out.gk low_no aw_ta
  exact ⟨L, e, g⟩)).mono ?_
 rw [aw_app]
 rintro e w6 ⟨rfl, A6, P6, S6, hrs, hA, hc, hcn, _, _⟩
 have HR6 := hidH hrs
 have HA6 : Hid (∀ x, A6 x → w.heap.size ≤ x) := fun x hx => by
  rcases hA x hx with q | q
  ·exact HA3.out x q
  ·have := HW5.out.size; omega
 have HC6 : Hid (cntS P6 S6 ≤ 46) := by have := HC3.out; show _ ≤ _; omega
 have HB6 : Hid (Below w.heap.size w w6) := HW5.out.trans (hc.to_below HW5.out.size HA3.out)
 clear hrs hA hc hcn HR4 HA3 HC3 HB4 HQ4 HB5 HW5
 go_wp2_with fail
 refine (query_rs HR6.out (by have := HC6.out; omega) 2 1).mono ?_
 rw [aw_q1]
 rintro e w7 ⟨rfl, S7, hrs, hr, hc⟩
 have HR7 := hidH hrs
 have HC7 : Hid (cntS P6 S7 ≤ 52) := by have h1 := cnt_rdd (P := P6) hr; have := HC6.out; show _ ≤ _; omega
 have HB7 : Hid (Below w.heap.size w w7) := HB6.out.trans (hc.to_below HB6.out.size HA6.out)
 clear hrs hr hc HR6 HC6 HB6
 go_upto_region 7 with fail
 obtain ⟨T5, hT⟩ : ∃ T, T = w7.heap.size := ⟨_, rfl⟩
 have HV5 : Hid ((w7.alloc (Obj.cells #[.bool true, .int .u64 3] 53)).cell? ⟨T5, 0, none⟩ = some (.bool true) ∧ (w7.alloc (Obj.cells #[.bool true, .int .u64 3] 53)).cell? ⟨T5, 1, none⟩ = some (.int .u64 3)) := by rw [hT]; exact vb_newS w7 true 3
 have HT5 : Hid (¬ A6 T5) := fun e => by have h := HR7.out.st.lt e; omega
 have HL5 : Hid (w.heap.size ≤ T5) := by rw [hT]; exact HB7.out.size
 have HR8 : Hid (RS A6 (w7.alloc (Obj.cells #[.bool true, .int .u64 3] 53)) (.pointer (some ⟨sp, 0, none⟩)) (.pointer (some ⟨sb, 0, none⟩)) 1 P6 S7 ⟨1, 4, [2, 9]⟩ awL) := HR7.out.below (below_alloc _ _)
 have HB8 : Hid (Below w.heap.size w (w7.alloc (Obj.cells #[.bool true, .int .u64 3] 53))) := below_trans HB7.out (below_alloc _ _)
 rw [← hT]
 generalize (w7.alloc (Obj.cells #[.bool true, .int .u64 3] 53)) = w8 at HV5 HR8 HB8 ⊢
 clear hT HR7 HB7
 go_wp2_with fail
 refine (query_rs HR8.out (by have := HC7.out; omega) 2 0).mono ?_
 rw [aw_q0]
 rintro e w9 ⟨rfl, S9, hrs, hr, hc⟩
 have HR9 := hidH hrs
 have HC9 : Hid (cntS P6 S9 ≤ 58) := by have h1 := cnt_rdd (P := P6) hr; have := HC7.out; show _ ≤ _; omega
 have HB9 : Hid (Below w.heap.size w w9) := HB8.out.trans (hc.to_below HB8.out.size HA6.out)
 have HV59 : Hid (w9.cell? ⟨T5, 0, none⟩ = some (.bool true) ∧ w9.cell? ⟨T5, 1, none⟩ = some (.int .u64 3)) := two_keep HV5.out hc HT5.out
 clear hrs hr hc HR8 HC7 HB8 HV5
 go_upto_region 8 with fail
 obtain ⟨T7, hT⟩ : ∃ T, T = w9.heap.size := ⟨_, rfl⟩
 have HV7 : Hid ((w9.alloc (Obj.cells #[.bool false, .int .u64 0] 53)).cell? ⟨T7, 0, none⟩ = some (.bool false) ∧ (w9.alloc (Obj.cells #[.bool false, .int .u64 0] 53)).cell? ⟨T7, 1, none⟩ = some (.int .u64 0)) := by rw [hT]; exact vb_newS w9 false 0
 have HV5a : Hid ((w9.alloc (Obj.cells #[.bool false, .int .u64 0] 53)).cell? ⟨T5, 0, none⟩ = some (.bool true) ∧ (w9.alloc (Obj.cells #[.bool false, .int .u64 0] 53)).cell? ⟨T5, 1, none⟩ = some (.int .u64 3)) := two_below HV59.out (below_alloc _ _)
 have HT7 : Hid (¬ A6 T7) := fun e => by have h := HR9.out.st.lt e; omega
 have HL7 : Hid (w.heap.size ≤ T7) := by rw [hT]; exact HB9.out.size
 have HR10 : Hid (RS A6 (w9.alloc (Obj.cells #[.bool false, .int .u64 0] 53)) (.pointer (some ⟨sp, 0, none⟩)) (.pointer (some ⟨sb, 0, none⟩)) 1 P6 S9 ⟨1, 4, [2, 9]⟩ awL) := HR9.out.below (below_alloc _ _)
 have HB10 : Hid (Below w.heap.size w (w9.alloc (Obj.cells #[.bool false, .int .u64 0] 53))) := below_trans HB9.out (below_alloc _ _)
 rw [← hT]
 generalize (w9.alloc (Obj.cells #[.bool false, .int .u64 0] 53)) = w10 at HV7 HV5a HR10 HB10 ⊢
 clear hT HR9 HB9 HV59
 go_wp2_with fail
 refine (apply_not HR10.out (by have := HC9.out; omega) (qv_0 w10) (by intro x hx; simp [Value.ownBlock] at hx) (b := 1) (a := 3) aw_fen).mono ?_
 rintro e w11 ⟨rfl, S11, hrs, hr, hc⟩
 have HR11 := hidH hrs
 have HC11 : Hid (cntS P6 S11 ≤ 66) := by have h1 := cnt_rdd (P := P6) hr; have := HC9.out; show _ ≤ _; omega
 have HB11 : Hid (Below w.heap.size w w11) := HB10.out.trans (hc.to_below HB10.out.size HA6.out)
 have HV5b : Hid (w11.cell? ⟨T5, 0, none⟩ = some (.bool true) ∧ w11.cell? ⟨T5, 1, none⟩ = some (.int .u64 3)) := two_keep HV5a.out hc HT5.out
 have HV7b : Hid (w11.cell? ⟨T7, 0, none⟩ = some (.bool false) ∧ w11.cell? ⟨T7, 1, none⟩ = some (.int .u64 0)) := two_keep HV7.out hc HT7.out
 clear hrs hr hc HR10 HC9 HB10 HV5a HV7
 go_upto_region 9 with fail
 have HB12 : Hid (Below w11.heap.size w11 (w11.alloc (Obj.cells #[.int .u64 9] 37))) := below_alloc _ _
 have HK12 : Hid (Kv (w11.alloc (Obj.cells #[.int .u64 9] 37)) (.slice (some ⟨w11.heap.size, 0, none⟩) 1 1) [9]) := kv_1 w11 9
 have HW12 : Hid (Below w.heap.size w (w11.alloc (Obj.cells #[.int .u64 9] 37))) := below_trans HB11.out HB12.out
 go_wp2_with fail
 refine (begin_open (HR11.out.below HB12.out) (by have := HC11.out; omega) HK12.out (by intro x hx; simp at hx; omega) (fun x hx hA => by have h := HR11.out.st.lt hA; simp [Value.ownBlock] at hx; omega) (b := 1) (a := 6) (.inl rfl) (by omega) (by omega) (by omega) (by omega) (by simp) rfl (.inr ⟨rfl, by decide⟩)).mono ?_
 rw [aw_revS]
 rintro e w13 ⟨rfl, A8, P8, S13, hrs, hA, hc, hcn, _, _⟩
 have HR13 := hidH hrs
 have HA8 : Hid (∀ x, A8 x → w.heap.size ≤ x) := fun x hx => by
  rcases hA x hx with q | q
  ·exact HA6.out x q
  ·have := HW12.out.size; omega
 have HC13 : Hid (cntS P8 S13 ≤ 83) := by have := HC11.out; show _ ≤ _; omega
 have HB13 : Hid (Below w.heap.size w w13) := HW12.out.trans (hc.to_below HW12.out.size HA6.out)
 have HT5n : Hid (¬ A8 T5) := fun e => by
  rcases hA _ e with q | q
  ·exact HT5.out q
  ·have h1 := cell_lt HV5b.out.1; have h2 := HB12.out.size; simp only at h1; omega
 have HT7n : Hid (¬ A8 T7) := fun e => by
  rcases hA _ e with q | q
  ·exact HT7.out q
  ·have h1 := cell_lt HV7b.out.1; have h2 := HB12.out.size; simp only at h1; omega
 have HV5c : Hid (w13.cell? ⟨T5, 0, none⟩ = some (.bool true) ∧ w13.cell? ⟨T5, 1, none⟩ = some (.int .u64 3)) := two_keep (two_below HV5b.out HB12.out) hc HT5.out
 have HV7c : Hid (w13.cell? ⟨T7, 0, none⟩ = some (.bool false) ∧ w13.cell? ⟨T7, 1, none⟩ = some (.int .u64 0)) := two_keep (two_below HV7b.out HB12.out) hc HT7.out
 clear hrs hA hc hcn HR11 HC11 HB11 HB12 HK12 HW12 HV5b HV7b HT5 HT7 HA6
 go_wp2_with fail
 refine (query_rs HR13.out (by have := HC13.out; omega) 2 1).mono ?_
 rw [aw_q2]
 rintro e w14 ⟨rfl, S14, hrs, hr, hc⟩
 have HR14 := hidH hrs
 have HC14 : Hid (cntS P8 S14 ≤ 89) := by have h1 := cnt_rdd (P := P8) hr; have := HC13.out; show _ ≤ _; omega
 have HB14 : Hid (Below w.heap.size w w14) := HB13.out.trans (hc.to_below HB13.out.size HA8.out)
 have HV5d : Hid (w14.cell? ⟨T5, 0, none⟩ = some (.bool true) ∧ w14.cell? ⟨T5, 1, none⟩ = some (.int .u64 3)) := two_keep HV5c.out hc HT5n.out
 have HV7d : Hid (w14.cell? ⟨T7, 0, none⟩ = some (.bool false) ∧ w14.cell? ⟨T7, 1, none⟩ = some (.int .u64 0)) := two_keep HV7c.out hc HT7n.out
 clear hrs hr hc HR13 HC13 HB13 HV5c HV7c
 go_upto_region 11 with fail
 obtain ⟨T11, hT⟩ : ∃ T, T = w14.heap.size := ⟨_, rfl⟩
 have HV11 : Hid ((w14.alloc (Obj.cells #[.bool false, .int .u64 0] 53)).cell? ⟨T11, 0, none⟩ = some (.bool false) ∧ (w14.alloc (Obj.cells #[.bool false, .int .u64 0] 53)).cell? ⟨T11, 1, none⟩ = some (.int .u64 0)) := by rw [hT]; exact vb_newS w14 false 0
 have HV5e : Hid ((w14.alloc (Obj.cells #[.bool false, .int .u64 0] 53)).cell? ⟨T5, 0, none⟩ = some (.bool true) ∧ (w14.alloc (Obj.cells #[.bool false, .int .u64 0] 53)).cell? ⟨T5, 1, none⟩ = some (.int .u64 3)) := two_below HV5d.out (below_alloc _ _)
 have HV7e : Hid ((w14.alloc (Obj.cells #[.bool false, .int .u64 0] 53)).cell? ⟨T7, 0, none⟩ = some (.bool false) ∧ (w14.alloc (Obj.cells #[.bool false, .int .u64 0] 53)).cell? ⟨T7, 1, none⟩ = some (.int .u64 0)) := two_below HV7d.out (below_alloc _ _)
 have HT11n : Hid (¬ A8 T11) := fun e => by have h := HR14.out.st.lt e; omega
 have HR15 : Hid (RS A8 (w14.alloc (Obj.cells #[.bool false, .int .u64 0] 53)) (.pointer (some ⟨sp, 0, none⟩)) (.pointer (some ⟨sb, 0, none⟩)) 1 P8 S14 ⟨1, 6, [9]⟩ noS) := HR14.out.below (below_alloc _ _)
 have HB15 : Hid (Below w.heap.size w (w14.alloc (Obj.cells #[.bool false, .int .u64 0] 53))) := below_trans HB14.out (below_alloc _ _)
 rw [← hT]
 generalize (w14.alloc (Obj.cells #[.bool false, .int .u64 0] 53)) = w15 at HV11 HV5e HV7e HR15 HB15 ⊢
 clear hT HR14 HB14 HV5d HV7d
 go_wp2_with fail
 refine (mark_rs HR15.out (by have := HC14.out; omega)).mono ?_
 rintro e w16 ⟨kv, rfl, hkv, S16, hrs, hr, hc⟩
 have HR16 := hidH hrs
 have HC16 : Hid (cntS P8 S16 ≤ 90) := by have h1 := cnt_rdd (P := P8) hr; have := HC14.out; show _ ≤ _; omega
 have HB16 : Hid (Below w.heap.size w w16) := HB15.out.trans (hc.to_below HB15.out.size HA8.out)
 have HK16 : Hid (Kv w16 kv [9]) := own_sv hkv
 have HKA : Hid (∀ x, kv.ownBlock = some x → ¬ A8 x) := fun x hx hA => by have h1 := (hkv.lt x hx).1; have h2 := HR15.out.st.lt hA; omega
 have HV5f : Hid (w16.cell? ⟨T5, 0, none⟩ = some (.bool true) ∧ w16.cell? ⟨T5, 1, none⟩ = some (.int .u64 3)) := two_keep HV5e.out hc HT5n.out
 have HV7f : Hid (w16.cell? ⟨T7, 0, none⟩ = some (.bool false) ∧ w16.cell? ⟨T7, 1, none⟩ = some (.int .u64 0)) := two_keep HV7e.out hc HT7n.out
 have HV11f : Hid (w16.cell? ⟨T11, 0, none⟩ = some (.bool false) ∧ w16.cell? ⟨T11, 1, none⟩ = some (.int .u64 0)) := two_keep HV11.out hc HT11n.out
 obtain ⟨ka, kn, kc, rfl⟩ := sv_any HK16.out
 clear hrs hr hc hkv HR15 HC14 HB15 HV5e HV7e HV11
 go_upto_region 12 with fail
 obtain ⟨T13, hT⟩ : ∃ T, T = w16.heap.size := ⟨_, rfl⟩
 have HM : Hid (MB (w16.alloc (Obj.cells #[.int .i64 1, .int .i64 6, .slice ka kn kc] 75)) T13 1 6 (.slice ka kn kc)) := by rw [hT]; exact mb_new w16 1 6 (.slice ka kn kc)
 have HBM : Hid (Below w16.heap.size w16 (w16.alloc (Obj.cells #[.int .i64 1, .int .i64 6, .slice ka kn kc] 75))) := below_alloc _ _
 have HT13 : Hid (¬ A8 T13) := fun e => by have h := HR16.out.st.lt e; omega
 have HV5g : Hid ((w16.alloc (Obj.cells #[.int .i64 1, .int .i64 6, .slice ka kn kc] 75)).cell? ⟨T5, 0, none⟩ = some (.bool true) ∧ (w16.alloc (Obj.cells #[.int .i64 1, .int .i64 6, .slice ka kn kc] 75)).cell? ⟨T5, 1, none⟩ = some (.int .u64 3)) := two_below HV5f.out HBM.out
 have HV7g : Hid ((w16.alloc (Obj.cells #[.int .i64 1, .int .i64 6, .slice ka kn kc] 75)).cell? ⟨T7, 0, none⟩ = some (.bool false) ∧ (w16.alloc (Obj.cells #[.int .i64 1, .int .i64 6, .slice ka kn kc] 75)).cell? ⟨T7, 1, none⟩ = some (.int .u64 0)) := two_below HV7f.out HBM.out
 have HV11g : Hid ((w16.alloc (Obj.cells #[.int .i64 1, .int .i64 6, .slice ka kn kc] 75)).cell? ⟨T11, 0, none⟩ = some (.bool false) ∧ (w16.alloc (Obj.cells #[.int .i64 1, .int .i64 6, .slice ka kn kc] 75)).cell? ⟨T11, 1, none⟩ = some (.int .u64 0)) := two_below HV11f.out HBM.out
 have HK17 : Hid (Kv (w16.alloc (Obj.cells #[.int .i64 1, .int .i64 6, .slice ka kn kc] 75)) (.slice ka kn kc) [9]) := HK16.out.below HBM.out
 have HR17 : Hid (RS A8 (w16.alloc (Obj.cells #[.int .i64 1, .int .i64 6, .slice ka kn kc] 75)) (.pointer (some ⟨sp, 0, none⟩)) (.pointer (some ⟨sb, 0, none⟩)) 1 P8 S16 ⟨1, 6, [9]⟩ noS) := HR16.out.below HBM.out
 have HB17 : Hid (Below w.heap.size w (w16.alloc (Obj.cells #[.int .i64 1, .int .i64 6, .slice ka kn kc] 75))) := below_trans HB16.out HBM.out
 rw [← hT]
 generalize (w16.alloc (Obj.cells #[.int .i64 1, .int .i64 6, .slice ka kn kc] 75)) = w17 at HM HV5g HV7g HV11g HK17 HR17 HB17 HBM ⊢
 clear hT HR16 HB16 HV5f HV7f HV11f HK16 HBM
 go_wp2_with fail
 refine (scells_walk HR17.out.st (fun _ => HR17.out.ce) HR17.out.gk.gd.pok.2.2 (by have h := HC16.out; unfold cntS at h; omega)).mono ?_
 rintro e w18 ⟨S8, hst, hr, hc, hcase⟩
 rw [getB_ok HR17.out.open] at hst
 have HAW : Hid (AwS w A8 P8 S8 sp sb T5 T7 T11 T13 (.slice ka kn kc) w18) := by
  obtain ⟨c0, c1, c2, _⟩ := HM.out
  exact ⟨HB17.out.trans (hc.to_below HB17.out.size HA8.out), HR17.out.rdd hst hr, (two_keep HV5g.out hc HT5n.out).1, (two_keep HV5g.out hc HT5n.out).2, (two_keep HV7g.out hc HT7n.out).1, (two_keep HV7g.out hc HT7n.out).2, (two_keep HV11g.out hc HT11n.out).1, (two_keep HV11g.out hc HT11n.out).2, hc.cell c0 HT13.out, hc.cell c1 HT13.out, hc.cell c2 HT13.out, kv_ch HK17.out hc HKA.out⟩
 obtain ⟨ao, cap, rfl⟩ : ∃ ao cap, e = .returned (.tuple #[.slice ao 0 cap, .int .i64 0]) := by
  rcases hcase with ⟨q, _⟩ | ⟨_, ao, cap, d, e1, _, _, hs, _⟩
  ·rw [HR17.out.open] at q; cases q
  ·have := flat_no hs
   subst this
   exact ⟨ao, cap, e1⟩
 clear hst hr hc hcase HM HV5g HV7g HV11g HK17 HR17 HB17 HKA HC16 HT5n HT7n HT11n HT13 HA8 HL5 HL7
 have q3 : ∀ wx, (binOp .eql 53 (.agg #[.bool true, .int .u64 3]) (.agg #[.bool true, .int .u64 3])).run Tryz.prog wx = .ok (.bool true) wx := eql_val ⟨true, 3⟩
 have q0 : ∀ wx, (binOp .eql 53 (.agg #[.bool false, .int .u64 0]) (.agg #[.bool false, .int .u64 0])).run Tryz.prog wx = .ok (.bool true) wx := eql_val ⟨false, 0⟩
 have hgv := guard_val
 go_upto_region 13 with fail
 generalize Value.tuple #[.slice ao 0 cap, .int .i64 0] = jnk1
 refine wp_region_noPanic ?_
 refine wp_region_held_drew (S := fun wx => wx.cell? ⟨T5, 0, none⟩ = some (.bool true) ∧ wx.cell? ⟨T5, 1, none⟩ = some (.int .u64 3) ∧ wx.cell? ⟨T7, 0, none⟩ = some (.bool false) ∧ wx.cell? ⟨T7, 1, none⟩ = some (.int .u64 0) ∧ wx.cell? ⟨T11, 0, none⟩ = some (.bool false) ∧ wx.cell? ⟨T11, 1, none⟩ = some (.int .u64 0) ∧ wx.cell? ⟨T13, 0, none⟩ = some (.int .i64 1) ∧ wx.cell? ⟨T13, 1, none⟩ = some (.int .i64 6) ∧ wx.cell? ⟨T13, 2, none⟩ = some (.slice ka kn kc) ∧ Hid (AwS w A8 P8 S8 sp sb T5 T7 T11 T13 (.slice ka kn kc) wx)) (by kernel_rfl) ?_ (fun hHeld => ?_)
 ·exact aw_held (HAW.out.below (below_drewN _ _))
 refine tkS 0 60 rfl hHeld ?_
 refine tkS 1 61 rfl hHeld ?_
 refine tkS 2 62 rfl hHeld ?_
 refine tkS 3 63 rfl hHeld ?_
 refine tkS 4 64 rfl hHeld ?_
 refine tkS 5 65 rfl hHeld ?_
 refine tkS 6 66 rfl hHeld ?_
 refine tkS 7 67 rfl hHeld ?_
 refine tkS 8 68 rfl hHeld ?_
 refine tkS 9 69 rfl hHeld ?_
 refine tkS 10 70 rfl hHeld ?_
 refine tkS 11 71 rfl hHeld ?_
 refine tkS 12 72 rfl hHeld ?_
 refine tkS 13 73 rfl hHeld ?_
 refine tkS 14 74 rfl hHeld ?_
 refine tkS 15 75 rfl hHeld ?_
 refine tkS 16 76 rfl hHeld ?_
 refine tkS 17 77 rfl hHeld ?_
 refine tkS 18 78 rfl hHeld ?_
 refine tkS 19 79 rfl hHeld ?_
 refine tkS 20 80 rfl hHeld ?_
 refine tkS 21 81 rfl hHeld ?_
 refine tkS 22 82 rfl hHeld ?_
 refine tkS 23 83 rfl hHeld ?_
 refine tkS 24 84 rfl hHeld ?_
 refine tkS 25 85 rfl hHeld ?_
 refine tkS 26 86 rfl hHeld ?_
 refine tkS 27 87 rfl hHeld ?_
 refine tkS 28 88 rfl hHeld ?_
 refine tkS 29 89 rfl hHeld ?_
 refine tkS 30 90 rfl hHeld ?_
 refine tkS 31 91 rfl hHeld ?_
 refine tkS 32 92 rfl hHeld ?_
 refine tkS 33 93 rfl hHeld ?_
 refine tkS 34 94 rfl hHeld ?_
 refine tkS 35 95 rfl hHeld ?_
 refine rdH 36 96 rfl (fun K hK => ?_)
 go_simp
 have x36 := hHeld.2.2.2.2.2.2.2.2.2.out
 refine (some_walkS 3 _).mono ?_
 rintro e9 w36 ⟨rfl, h36⟩
 refine hK.out _ _ ?_ (fun hHeld => ?_)
 ·exact aw_held (x36.below h36)
 clear hK K
 try simp only [Act.put, zA, zB, zC]
 refine tkS 37 97 rfl hHeld ?_
 refine tkS 38 98 rfl hHeld ?_
 refine tkS 39 99 rfl hHeld ?_
 refine tkS 40 100 rfl hHeld ?_
 refine tkS 41 101 rfl hHeld ?_
 refine tkS 42 102 rfl hHeld ?_
 refine tkS 43 103 rfl hHeld ?_
 refine tkS 44 104 rfl hHeld ?_
 refine tkS 45 105 rfl hHeld ?_
 refine tkS 46 106 rfl hHeld ?_
 refine tkS 47 107 rfl hHeld ?_
 refine tkS 48 108 rfl hHeld ?_
 refine tkS 49 109 rfl hHeld ?_
 refine tkS 50 110 rfl hHeld ?_
 refine rdH 51 111 rfl (fun K hK => ?_)
 go_simp
 have x51 := hHeld.2.2.2.2.2.2.2.2.2.out
 refine hK.out _ _ ?_ (fun hHeld => ?_)
 ·exact aw_held (x51.below (below_alloc _ _))
 clear hK K
 try simp only [Act.put, zA, zB, zC]
 refine tkS 52 112 rfl hHeld ?_
 refine rdH 53 113 rfl (fun K hK => ?_)
 go_simp
 have x53 := hHeld.2.2.2.2.2.2.2.2.2.out
 refine (marks_same x53.kvs (kv_1 w36 9) 1 6).mono ?_
 rintro e9 w53 ⟨rfl, h53⟩
 refine hK.out _ _ ?_ (fun hHeld => ?_)
 ·exact aw_held (x53.below h53)
 clear hK K
 try simp only [Act.put, zA, zB, zC]
 refine tkS 54 114 rfl hHeld ?_
 refine tkS 55 115 rfl hHeld ?_
 refine tkS 56 116 rfl hHeld ?_
 refine tkS 57 117 rfl hHeld ?_
 refine tkS 58 118 rfl hHeld ?_
 refine tkS 59 119 rfl hHeld ?_
 refine tkS 60 120 rfl hHeld ?_
 refine tkS 61 121 rfl hHeld ?_
 refine rdH 62 122 rfl (fun K hK => ?_)
 go_simp
 have x62 := hHeld.2.2.2.2.2.2.2.2.2.out
 refine (aw_used x62).mono ?_
 rintro e9 w62 ⟨rfl, h62⟩
 replace h62 := h62.symm
 subst h62
 refine hK.out _ _ ?_ (fun hHeld => ?_)
 ·exact aw_held x62
 clear hK K
 try simp only [Act.put, zA, zB, zC]
 refine tkS 63 123 rfl hHeld ?_
 refine tkS 64 124 rfl hHeld ?_
 refine tkS 65 125 rfl hHeld ?_
 refine tkS 66 126 rfl hHeld ?_
 refine rdH 67 127 rfl (fun K hK => ?_)
 go_simp
 have x67 := hHeld.2.2.2.2.2.2.2.2.2.out
 refine (aw_ended x67).mono ?_
 rintro e9 w67 ⟨rfl, h67⟩
 replace h67 := h67.symm
 subst h67
 refine hK.out _ _ ?_ (fun hHeld => ?_)
 ·exact aw_held x67
 clear hK K
 try simp only [Act.put, zA, zB, zC]
 refine tkS 68 128 rfl hHeld ?_
 refine tkS 69 129 rfl hHeld ?_
 refine tkH 70 0 rfl hHeld ?_
 try simp only [Act.put, zA, zB]
 refine wpAnyH_done (by kernel_rfl) ?_ _
 refine NoPanic.normal ?_
 go_wp2_with fail
 go_ret
 exact ⟨rfl, (hHeld.2.2.2.2.2.2.2.2.2.out).bb⟩
end
section
open Go.RowKit

structure Img (lo hi : Nat) (w : World) (g cap : Nat) (bl : List (List Nat)) : Prop where
 gr : Gr (fun x => lo ≤ x ∧ x < hi) w g cap bl
 l1 : lo ≤ g
 l2 : g < hi
theorem Img.ch {lo hi : Nat} {w w' : World} {g cap : Nat} {bl : List (List Nat)} {A : Nat → Prop} (h : Img lo hi w g cap bl) (hc : Ch A w w') (hA : ∀ x, A x → x < lo ∨ hi ≤ x) : Img lo hi w' g cap bl :=
 ⟨h.gr.keep (hc.block g h.gr.lt (fun e => by have h1 := hA g e; have h2 := h.l1; have h3 := h.l2; omega)) (fun x hx hl _ => hc.block x hl (fun e => by have h1 := hA x e; omega)), h.l1, h.l2⟩
theorem Img.below {lo hi : Nat} {w w' : World} {g cap : Nat} {bl : List (List Nat)} (h : Img lo hi w g cap bl) (hb : Below w.heap.size w w') : Img lo hi w' g cap bl := h.ch (A := fun _ => False) (Ch.of_below hb) (fun _ e => e.elim)
section

variable {A : Nat → Prop} {w : World} {sv dv : Value} {k : Int} {P : Bo} {S : Dk} {m : Mk} {Ls : List (List Cl)}

theorem ST.byt (h : ST A w sv dv k P S) : ∀ b ∈ S.bl, ∀ c ∈ b, c < 256 := by
 obtain ⟨D, hd, _⟩ := h.dsk
 obtain ⟨_, _, _, _, _, hok⟩ := hd
 exact hok.byt
theorem image_rs (h : ST A w sv dv k P S) : Calls Tryz.prog 26 #[dv] w fun e w' => ∃ g cap, e = .returned (.slice (some ⟨g, 0, none⟩) S.bl.length cap) ∧ Img w.heap.size w'.heap.size w' g cap S.bl ∧ Below w.heap.size w w' := by
 obtain ⟨D, hd, _⟩ := h.dsk
 refine (image_walk hd).mono ?_
 rintro e w1 ⟨g, cap, rfl, hg, hl, hb⟩
 exact ⟨g, cap, rfl, ⟨hg.fit.mono (fun x hx => ⟨hx.1, hx.2⟩), hl, hg.lt⟩, hb⟩
theorem writes_rs (h : ST A w sv dv k P S) : Calls Tryz.prog 23 #[dv] w fun e w' => e = .returned (.int .i64 S.wr) ∧ w' = w := by
 obtain ⟨D, hd, _⟩ := h.dsk
 exact writes_walk hd
theorem reads_rs (h : ST A w sv dv k P S) : Calls Tryz.prog 88 #[dv] w fun e w' => e = .returned (.int .i64 S.rd) ∧ w' = w := by
 obtain ⟨D, hd, _⟩ := h.dsk
 exact reads_walk hd
theorem blocks_rs (h : ST A w sv dv k P S) : Calls Tryz.prog 47 #[dv] w fun e w' => e = .returned (.int .i64 S.bl.length) ∧ w' = w := by
 obtain ⟨D, hd, _⟩ := h.dsk
 exact blocks_walk hd
theorem Img.pv {lo hi g cap : Nat} {bl : List (List Nat)} (h : Img lo hi w g cap bl) (hb : ∀ b ∈ bl, ∀ c ∈ b, c < 256) : PvD w (.slice (some ⟨g, 0, none⟩) bl.length cap) bl := h.gr.pv hb
theorem ta_nil (k : Int) (m : Mk) : Ta k m [] := ⟨List.Pairwise.nil, by simp⟩
end
end
end Go.Proofs.YtofkhgokfdpdiaaGreat
