/- ScriptSkips, walked. Printed by gen_ud21.py. -/
import Derived.Test.YtkiplcmndpdifaaDoorUa

import Derived.Test.YtkiplcmndpdifaaDoorUc

namespace Go.Proofs.YtkiplcmndpdifaaDoor

open Go.RowKit

attribute [local go_sem] run_store_float


theorem note_step {N B : Bs} {i : Nat} {c : UInt8} (hc : B[i]? = some c) : noteT N (B.take (i + 1)) = noteT N (B.take i) ++ (if c = 10 then 10 :: (10 :: 35 :: (N ++ [10])) else [c]) ∧ (B.take (i + 1)).count 10 = (B.take i).count 10 + (if c = 10 then 1 else 0) := by
  have e : B.take (i + 1) = B.take i ++ [c] := by rw [List.take_add_one, hc]; rfl
  rw [e, note_app, List.count_append]
  refine ⟨by simp [noteT], ?_⟩
  by_cases h : c = 10 <;> simp [h]


theorem own_form_n {base : Nat} {w : World} {v : Value} {l : Bs} (h : TX base w v l) : ∃ a n c, v = .slice a n c ∧ n = l.length := by
  obtain ⟨a, c, e, _⟩ := own_form21 h
  exact ⟨a, _, c, e, rfl⟩


theorem note_pre (N B : Bs) (i : Nat) : (noteT N (B.take i)).length ≤ (noteT N B).length ∧ (B.take i).count 10 ≤ B.count 10 := by
  have e : B = B.take i ++ B.drop i := (List.take_append_drop i B).symm
  have h1 : noteT N B = noteT N (B.take i) ++ noteT N (B.drop i) := by rw [← note_app, ← e]
  have h2 : B.count 10 = (B.take i).count 10 + (B.drop i).count 10 := by rw [← List.count_append, ← e]
  exact ⟨by rw [h1, List.length_append]; omega, by omega⟩


set_option maxRecDepth 100000 in
set_option maxHeartbeats 16000000 in
theorem skips_walk {p : Pl} {ops : List Og} {sts : List Sp} {ov sv : Value} {N : Bs} {w : World} (hov : OVw w ov ops) (hsv : SVw w sv sts) (hp : p.ok) (ho : ∀ x ∈ ops, x.ok) (hs : ∀ x ∈ sts, x.ok) (htb : Tb w) :
    Calls Tryd.prog 4 #[PlV p ov, sv, S N] w fun e w' => e = .returned (.bool true) ∧ Below w.heap.size w w' := by
  have HT : Hid (Tb w) := htb
  have HO : Hid (OVw w ov ops) := hov
  have HS : Hid (SVw w sv sts) := hsv
  have HR : Hid (p.ok ∧ (∀ x ∈ ops, x.ok) ∧ (∀ x ∈ sts, x.ok)) := ⟨hp, ho, hs⟩
  obtain ⟨oa, oc, rfl, _, _, _, _⟩ := hov
  obtain ⟨sa, sc, rfl, hsc, hsm, _, _⟩ := hsv
  obtain ⟨n, hn⟩ : ∃ n, n = sts.length := ⟨_, rfl⟩
  rw [← hn] at HS hsc ⊢
  have HN : Hid (n = sts.length) := hn
  obtain ⟨t, ht⟩ : ∃ t : ByteArray, t = ⟨N.toArray⟩ := ⟨_, rfl⟩
  obtain ⟨m, hm⟩ : ∃ m, m = N.length := ⟨_, rfl⟩
  have htsz : t.size = m := by rw [ht, size_mk, hm]
  have HTT : Hid (t = ⟨N.toArray⟩ ∧ m = N.length) := ⟨ht, hm⟩
  obtain ⟨g, hg⟩ : ∃ g, g = w.heap.size := ⟨_, rfl⟩
  obtain ⟨w0, hw0⟩ : ∃ w0, w0 = w.alloc (.cells #[.int .i64 p.P, .int .i64 p.S, .int .i64 p.W, .slice oa ops.length oc, .int .i64 p.A, .int .i64 p.B, .int .i64 p.N, .int .i64 p.G] 24) := ⟨_, rfl⟩
  have HW0 : Hid (w0 = w.alloc (.cells #[.int .i64 p.P, .int .i64 p.S, .int .i64 p.W, .slice oa ops.length oc, .int .i64 p.A, .int .i64 p.B, .int .i64 p.N, .int .i64 p.G] 24) ∧ g = w.heap.size) := ⟨hw0, hg⟩
  have HB0 : Hid (Below w.heap.size w w0 ∧ w0.heap[g]? = some (.cells (PlC p (.slice oa ops.length oc)) 24 (0, 0))) := by rw [hw0]; exact ⟨below_alloc _ _, alloc_at hg⟩
  unfold PlV
  show Calls _ _ #[_, _, .string _] _ _
  rw [← ht]
  clear htb hp ho hs hn hsc hsm hg hw0 ht hm
  go_enter Tryd.func4, Tryd.ntmps4
  go_wp2_with fail
  rw [← HW0.out.2, ← HW0.out.1]
  refine (awake_walk (HT.out.below HB0.out.1)).mono ?_
  rintro e9 w1 ⟨rfl, hB1⟩
  have HB1 : Hid (Below w0.heap.size w0 w1) := hB1
  obtain ⟨c0, c1, c2, c3, c4, c5, c6, c7⟩ := pl_cells (blk_below HB0.out.2 hB1)
  clear hB1
  by_cases h300 : 300 < n
  · have hi : (300 : Int) < (n : Int) := by omega
    clear h300
    go_wp2_with fail
    go_ret
    exact ⟨rfl, below_trans HB0.out.1 HB1.out⟩
  have hi : ¬ (300 : Int) < (n : Int) := by omega
  have HN3 : Hid (n ≤ 300) := by show n ≤ 300; omega
  clear h300
  by_cases h100 : 100 < m
  · have hi1 : (100 : Int) < (m : Int) := by omega
    clear h100
    go_wp2_with fail
    go_ret
    exact ⟨rfl, below_trans HB0.out.1 HB1.out⟩
  have hi1 : ¬ (100 : Int) < (m : Int) := by omega
  have HM1 : Hid (m ≤ 100) := by show m ≤ 100; omega
  clear h100
  by_cases h50 : 50 < ops.length
  · have hi2 : (50 : Int) < (ops.length : Int) := by omega
    clear h50
    go_wp2_with fail
    go_ret
    exact ⟨rfl, below_trans HB0.out.1 HB1.out⟩
  have hi2 : ¬ (50 : Int) < (ops.length : Int) := by omega
  have HM2 : Hid (ops.length ≤ 50) := by show ops.length ≤ 50; omega
  clear h50
  go_wp2_with fail
  go_loopw [7] (fun iv wr => ∃ k : Nat, k ≤ m ∧ iv = .int .i64 k ∧ wr = w1 ∧ ∀ (i : Nat) (c : UInt8), i < k → N[i]? = some c → c ≠ 10) (fun iv _ => m - (intOf iv).toNat)
  case atStart => exact ⟨0, Nat.zero_le _, rfl, rfl, fun i _ hi => by omega⟩
  case round =>
    obtain ⟨k, hk, rfl, hw, hno⟩ := hrel
    subst hw
    have HNO : Hid (∀ (i : Nat) (c : UInt8), i < k → N[i]? = some c → c ≠ 10) := hno
    clear hno
    by_cases hlt : k < m
    · have hli : (k : Int) < (m : Int) := by omega
      obtain ⟨c, hc⟩ : ∃ c, N[k]? = some c := ⟨_, List.getElem?_eq_getElem (by have := HTT.out.2; omega)⟩
      have hits : k < t.size := by omega
      have hct := get_mk HTT.out.1 hc hits
      have HC : Hid (N[k]? = some c) := hc
      clear hc
      by_cases h10 : c = 10
      · have hq : (((t[k]'hits).toNat : Int) == 10) = true := by rw [hct, h10]; rfl
        clear hct h10
        go_wp2_with fail
        go_ret
        exact ⟨rfl, below_trans HB0.out.1 HB1.out⟩
      · have hq : (((t[k]'hits).toNat : Int) == 10) = false := by
          rw [hct, beq_eq_false_iff_ne]
          intro e
          exact h10 (UInt8.toNat_inj.1 (by have : c.toNat = 10 := by omega
                                           simpa using this))
        have HNX : Hid (∀ (i : Nat) (c : UInt8), i < k + 1 → N[i]? = some c → c ≠ 10) := by
          intro i c' hi hc'
          by_cases e : i = k
          · subst e
            rw [HC.out] at hc'
            cases hc'
            exact h10
          · exact HNO.out i c' (by omega) hc'
        clear hct h10
        go_wp2_with fail
        exact ⟨⟨k + 1, by omega, by (congr 1), trivial, HNX.out⟩, by simp [intOf]; omega⟩
    · have hni : ¬ (k : Int) < (m : Int) := by omega
      have HN10 : Hid ((10 : UInt8) ∉ N) := no_ten fun i c hc => HNO.out i c (by have := (List.getElem?_eq_some_iff.1 hc).1; have := HTT.out.2; omega) hc
      clear HNO
      go_wp2_with fail
      have HPR := print_walk (p := p) (ops := ops) (sts := sts) (ov := .slice oa ops.length oc) (sv := .slice sa n sc) (w := wr) (HO.out.below (fun _ => rfl) (below_trans HB0.out.1 HB1.out)) (HS.out.below (fun _ => rfl) (below_trans HB0.out.1 HB1.out)) HR.out.1 HR.out.2.1 HR.out.2.2 (HT.out.below (below_trans HB0.out.1 HB1.out))
      simp only [PlV] at HPR
      refine HPR.mono ?_
      clear HPR c0 c1 c2 c3 c4 c5 c6 c7
      intro e9 w2 h
      unfold PrintGot at h
      by_cases hE : printE p ops sts = 0
      case neg =>
        obtain ⟨E, hEE⟩ : ∃ E, E = printE p ops sts := ⟨_, rfl⟩
        rw [printT_bad hE, ← hEE] at h
        rw [← hEE] at hE
        have hE0 : (E != 0) = true := by rw [bne_iff_ne]; exact hE
        obtain ⟨rfl, hB2⟩ := h
        have HB2 : Hid (Below w0.heap.size w0 w2) := below_trans HB1.out hB2
        clear hB2 hE hEE
        simp only [S]
        go_wp2_with fail
        go_ret
        exact ⟨rfl, below_trans HB0.out.1 HB2.out⟩
      case pos =>
        obtain ⟨q1, q2, q3, q4⟩ := print_ok hE
        rw [hE, q1] at h
        obtain ⟨rfl, hB2⟩ := h
        have HB2 : Hid (Below w0.heap.size w0 w2) := below_trans HB1.out hB2
        obtain ⟨B, hBB⟩ : ∃ B, B = bodyT p ops sts := ⟨_, rfl⟩
        have hWL := with_len (N := N) HR.out.1 HR.out.2.1 HR.out.2.2 q2 HM2.out (by have := HN.out; have := HN3.out; omega) (by have := HTT.out.2; have := HM1.out; omega)
        have HQ : Hid (parseT (withT N B) = .ok ⟨true, p, ops, sts⟩ ∧ parseT (withT N B ++ tockT) = .error (2 + 3 * B.count 10, 211) ∧ parseT (withT N B ++ planW) = .error (2 + 3 * B.count 10, 210) ∧ (withT N B).length ≤ 100000 ∧ B.count 10 ≤ 351) := by
          rw [hBB]
          exact ⟨with_ok HR.out.1 HR.out.2.1 HR.out.2.2 q2 q3 HN10.out (by omega), with_tock HR.out.1 HR.out.2.1 HR.out.2.2 q2 (by have := HN.out; have := HN3.out; omega) HN10.out (by omega), with_plan HR.out.1 HR.out.2.1 HR.out.2.2 q2 (by have := HN.out; have := HN3.out; omega) HN10.out (by omega), hWL.1, hWL.2⟩
        rw [← hBB]
        obtain ⟨u, hu⟩ : ∃ t : ByteArray, t = ⟨B.toArray⟩ := ⟨_, rfl⟩
        obtain ⟨q, hq⟩ : ∃ m, m = B.length := ⟨_, rfl⟩
        have husz : u.size = q := by rw [hu, size_mk, hq]
        have HUU : Hid (u = ⟨B.toArray⟩ ∧ q = B.length) := ⟨hu, hq⟩
        have hqb : (q : Int) ≤ 100000 := by
          have h1 := body_len HR.out.1 HR.out.2.1 HR.out.2.2 HM2.out (by have := HN.out; have := HN3.out; omega)
          rw [← hBB] at h1
          omega
        simp only [S]
        rw [← hu]
        obtain ⟨base, hbase⟩ : ∃ b, b = w2.heap.size := ⟨_, rfl⟩
        have HBS : Hid (base = w2.heap.size) := hbase
        clear q1 q2 q3 q4 hE hB2 hBB hWL hu hq hbase HB1
        go_upto_region 15 with (at_builtin; refine wpl_app_byte (base := base) (l := []) 35 (by rfl) (.tmp 50) (.tmp 51) (by rfl) (by rfl) (World.ownsRow_nil _ _ _ _) (by rfl) (alloc_at rfl) rfl (by first | decide | (have := LB0.out; omega)) (by have := HBS.out; rw [alloc_sz]; omega) ?_; intro v3 w23 hx3 hb3 hs3; obtain ⟨l3, hl3⟩ : ∃ l : Bs, l = [35] := ⟨_, rfl⟩; replace hx3 : TX base w23 v3 l3 := (by rw [hl3]; exact hx3); have LB3 : Hid (l3.length ≤ 1) := (by show _ ≤ _; have := True.intro; have := HTT.out.2; have := HM1.out; rw [hl3]; simp <;> omega); obtain ⟨xa3, xn3, xc3, rfl, hxn⟩ := own_form_n hx3; clear hxn; have HX3 := hidH hx3; have HB3 : Hid (Below base w2 w23) := (((Below.refl base w2).alloc (by have := HBS.out; omega) _).trans hb3); have HS3 := hidH hs3; have HL3 : Hid (l3 = [35] ∧ True) := ⟨hl3, trivial⟩; clear hx3 hb3 hs3 hl3)
        go_upto_region 16 with (at_builtin; refine wpl_app_str (base := base) (l := l3) N (by rfl) (.tmp 53) (.tmp 54) (by rfl) (by rfl) HX3.out (by rfl) HTT.out.1 (by have := LB3.out; have := HTT.out.2; have := HM1.out; first | omega | (simp <;> omega)) HS3.out ?_; intro v4 w24 hx4 hb4 hs4; obtain ⟨l4, hl4⟩ : ∃ l : Bs, l = l3 ++ N := ⟨_, rfl⟩; replace hx4 : TX base w24 v4 l4 := (by rw [hl4]; exact hx4); have LB4 : Hid (l4.length ≤ 101) := (by show _ ≤ _; have := LB3.out; have := HTT.out.2; have := HM1.out; rw [hl4]; simp <;> omega); obtain ⟨xa4, xn4, xc4, rfl, hxn⟩ := own_form_n hx4; clear hxn; have HX4 := hidH hx4; have HB4 : Hid (Below base w2 w24) := HB3.out.trans hb4; have HS4 := hidH hs4; have HL4 : Hid (l4 = l3 ++ N ∧ True) := ⟨hl4, trivial⟩; clear hx4 hb4 hs4 hl4)
        go_upto_region 17 with (at_builtin; refine wpl_app_byte (base := base) (l := l4) 10 (by rfl) (.tmp 56) (.tmp 57) (by rfl) (by rfl) (tx_keep HX4.out (below_alloc _ _)) (by rfl) (alloc_at rfl) rfl (by first | decide | (have := LB4.out; omega)) (by rw [alloc_sz]; have := HS4.out; omega) ?_; intro v5 w25 hx5 hb5 hs5; obtain ⟨l5, hl5⟩ : ∃ l : Bs, l = l4 ++ [10] := ⟨_, rfl⟩; replace hx5 : TX base w25 v5 l5 := (by rw [hl5]; exact hx5); have LB5 : Hid (l5.length ≤ 102) := (by show _ ≤ _; have := LB4.out; have := HTT.out.2; have := HM1.out; rw [hl5]; simp <;> omega); obtain ⟨xa5, xn5, xc5, rfl, hxn⟩ := own_form_n hx5; clear hxn; have HX5 := hidH hx5; have HB5 : Hid (Below base w2 w25) := ((HB4.out.alloc HS4.out _).trans hb5); have HS5 := hidH hs5; have HL5 : Hid (l5 = l4 ++ [10] ∧ True) := ⟨hl5, trivial⟩; clear hx5 hb5 hs5 hl5)
        have HW5 : Hid (l5 = withT N (B.take 0)) := by show l5 = _; rw [HL5.out.1, HL4.out.1, HL3.out.1]; simp [withT, noteT]
        go_wp2_with fail
        go_loopw [10, 11, 12] (fun v10 v11 v12 wq => ∃ i c : Nat, i ≤ q ∧ v12 = .int .i64 i ∧ v11 = .int .i64 c ∧ c = 1 + 3 * (B.take i).count 10 ∧ TX base wq v10 (withT N (B.take i)) ∧ Below base w2 wq ∧ base ≤ wq.heap.size) (fun _ _ v12 _ => q - (intOf v12).toNat)
        case atStart => exact ⟨0, 1, Nat.zero_le _, rfl, rfl, by simp, by rw [← HW5.out]; exact HX5.out, HB5.out, HS5.out⟩
        case round =>
          obtain ⟨i, cn, hiq, rfl, rfl, hcn, hx6, hb6, hs6⟩ := hrel
          obtain ⟨l6, hl6⟩ : ∃ l, l = withT N (B.take i) := ⟨_, rfl⟩
          rw [← hl6] at hx6
          have hlb : l6.length ≤ 100000 ∧ (B.take i).count 10 ≤ 351 := by
            have h1 := note_pre N B i
            have h2 := HQ.out.2.2.2
            simp only [withT, List.length_cons, List.length_append] at h2
            rw [hl6]
            simp only [withT, List.length_cons, List.length_append]
            omega
          have HL6 : Hid (l6 = withT N (B.take i) ∧ cn = 1 + 3 * (B.take i).count 10 ∧ l6.length ≤ 100000) := ⟨hl6, hcn, hlb.1⟩
          have hcb : (cn : Int) ≤ 2000 := by omega
          obtain ⟨xa6, xn6, xc6, rfl, hn6⟩ := own_form_n hx6
          have HX6 := hidH hx6
          have HB6 := hidH hb6
          have HS6 := hidH hs6
          have LB6 : Hid (l6.length ≤ 100000) := hlb.1
          clear hl6 hcn hx6 hb6 hs6 hlb hn6
          by_cases hlt2 : i < q
          · have hli2 : (i : Int) < (q : Int) := by omega
            obtain ⟨c, hc⟩ : ∃ c, B[i]? = some c := ⟨_, List.getElem?_eq_getElem (by have := HUU.out.2; omega)⟩
            have hitb : i < u.size := by omega
            have hct := get_mk HUU.out.1 hc hitb
            have HC : Hid (B[i]? = some c) := hc
            have HZ : Hid (((u[i]'hitb).toNat : Int) = (c.toNat : Int)) := by show _ = _; rw [hct]
            clear hc
            by_cases h10 : c = 10
            · have hqq : (((u[i]'hitb).toNat : Int) == 10) = true := by rw [hct, h10]; rfl
              have HST : Hid (noteT N (B.take (i + 1)) = noteT N (B.take i) ++ (10 :: (10 :: 35 :: (N ++ [10]))) ∧ (B.take (i + 1)).count 10 = (B.take i).count 10 + 1) := by
                have h := note_step (N := N) HC.out
                rw [if_pos h10, if_pos h10] at h
                exact h
              have HC10 : Hid (c = 10) := h10
              clear hct h10
              go_upto_region 22 with (at_builtin; refine wpl_app_byte (base := base) (l := l6) c (by rfl) (.tmp 65) (.tmp 69) (by rfl) (by rfl) (tx_keep HX6.out (below_alloc _ _)) (by rfl) (alloc_at rfl) HZ.out (by first | decide | (have := LB6.out; omega)) (by rw [alloc_sz]; have := HS6.out; omega) ?_; intro v7 w27 hx7 hb7 hs7; obtain ⟨l7, hl7⟩ : ∃ l : Bs, l = l6 ++ [c] := ⟨_, rfl⟩; replace hx7 : TX base w27 v7 l7 := (by rw [hl7]; exact hx7); have LB7 : Hid (l7.length ≤ 100001) := (by show _ ≤ _; have := LB6.out; have := HTT.out.2; have := HM1.out; rw [hl7]; simp <;> omega); obtain ⟨xa7, xn7, xc7, rfl, hxn⟩ := own_form_n hx7; clear hxn; have HX7 := hidH hx7; have HB7 : Hid (Below base w2 w27) := ((HB6.out.alloc HS6.out _).trans hb7); have HS7 := hidH hs7; have HL7 : Hid (l7 = l6 ++ [c] ∧ True) := ⟨hl7, trivial⟩; clear hx7 hb7 hs7 hl7)
              go_upto_region 24 with (at_builtin; refine wpl_app_str (base := base) (l := l7) [10, 35] (by rfl) (.tmp 75) (_) (by rfl) (by rfl) HX7.out (by rfl) rfl (by have := LB7.out; have := HTT.out.2; have := HM1.out; first | omega | (simp <;> omega)) HS7.out ?_; intro v8 w28 hx8 hb8 hs8; obtain ⟨l8, hl8⟩ : ∃ l : Bs, l = l7 ++ [10, 35] := ⟨_, rfl⟩; replace hx8 : TX base w28 v8 l8 := (by rw [hl8]; exact hx8); have LB8 : Hid (l8.length ≤ 100003) := (by show _ ≤ _; have := LB7.out; have := HTT.out.2; have := HM1.out; rw [hl8]; simp <;> omega); obtain ⟨xa8, xn8, xc8, rfl, hxn⟩ := own_form_n hx8; clear hxn; have HX8 := hidH hx8; have HB8 : Hid (Below base w2 w28) := HB7.out.trans hb8; have HS8 := hidH hs8; have HL8 : Hid (l8 = l7 ++ [10, 35] ∧ True) := ⟨hl8, trivial⟩; clear hx8 hb8 hs8 hl8)
              go_upto_region 25 with (at_builtin; refine wpl_app_str (base := base) (l := l8) N (by rfl) (.tmp 77) (.tmp 78) (by rfl) (by rfl) HX8.out (by rfl) HTT.out.1 (by have := LB8.out; have := HTT.out.2; have := HM1.out; first | omega | (simp <;> omega)) HS8.out ?_; intro v9 w29 hx9 hb9 hs9; obtain ⟨l9, hl9⟩ : ∃ l : Bs, l = l8 ++ N := ⟨_, rfl⟩; replace hx9 : TX base w29 v9 l9 := (by rw [hl9]; exact hx9); have LB9 : Hid (l9.length ≤ 100103) := (by show _ ≤ _; have := LB8.out; have := HTT.out.2; have := HM1.out; rw [hl9]; simp <;> omega); obtain ⟨xa9, xn9, xc9, rfl, hxn⟩ := own_form_n hx9; clear hxn; have HX9 := hidH hx9; have HB9 : Hid (Below base w2 w29) := HB8.out.trans hb9; have HS9 := hidH hs9; have HL9 : Hid (l9 = l8 ++ N ∧ True) := ⟨hl9, trivial⟩; clear hx9 hb9 hs9 hl9)
              go_upto_region 26 with (at_builtin; refine wpl_app_byte (base := base) (l := l9) 10 (by rfl) (.tmp 80) (.tmp 81) (by rfl) (by rfl) (tx_keep HX9.out (below_alloc _ _)) (by rfl) (alloc_at rfl) rfl (by first | decide | (have := LB9.out; omega)) (by rw [alloc_sz]; have := HS9.out; omega) ?_; intro v10 w30 hx10 hb10 hs10; obtain ⟨l10, hl10⟩ : ∃ l : Bs, l = l9 ++ [10] := ⟨_, rfl⟩; replace hx10 : TX base w30 v10 l10 := (by rw [hl10]; exact hx10); have LB10 : Hid (l10.length ≤ 100104) := (by show _ ≤ _; have := LB9.out; have := HTT.out.2; have := HM1.out; rw [hl10]; simp <;> omega); obtain ⟨xa10, xn10, xc10, rfl, hxn⟩ := own_form_n hx10; clear hxn; have HX10 := hidH hx10; have HB10 : Hid (Below base w2 w30) := ((HB9.out.alloc HS9.out _).trans hb10); have HS10 := hidH hs10; have HL10 : Hid (l10 = l9 ++ [10] ∧ True) := ⟨hl10, trivial⟩; clear hx10 hb10 hs10 hl10)
              go_wp2_with fail
              refine ⟨⟨i + 1, cn + 3, by omega, by (congr 1), by (congr 1), ?_, ?_, HB10.out, HS10.out⟩, by simp [intOf]; omega⟩
              · rw [HST.out.2, HL6.out.2.1]; omega
              · have e : withT N (B.take (i + 1)) = l10 := by
                  rw [HL10.out.1, HL9.out.1, HL8.out.1, HL7.out.1, HL6.out.1, HC10.out]
                  unfold withT
                  rw [HST.out.1]
                  simp
                rw [e]
                exact HX10.out
            · have hqq : (((u[i]'hitb).toNat : Int) == 10) = false := by
                rw [hct, beq_eq_false_iff_ne]
                intro e
                exact h10 (UInt8.toNat_inj.1 (by have : c.toNat = 10 := by omega
                                                 simpa using this))
              have HST : Hid (noteT N (B.take (i + 1)) = noteT N (B.take i) ++ [c] ∧ (B.take (i + 1)).count 10 = (B.take i).count 10) := by
                have h := note_step (N := N) HC.out
                rw [if_neg h10, if_neg h10] at h
                exact h
              clear hct h10
              go_upto_region 22 with (at_builtin; refine wpl_app_byte (base := base) (l := l6) c (by rfl) (.tmp 65) (.tmp 69) (by rfl) (by rfl) (tx_keep HX6.out (below_alloc _ _)) (by rfl) (alloc_at rfl) HZ.out (by first | decide | (have := LB6.out; omega)) (by rw [alloc_sz]; have := HS6.out; omega) ?_; intro v7 w27 hx7 hb7 hs7; obtain ⟨l7, hl7⟩ : ∃ l : Bs, l = l6 ++ [c] := ⟨_, rfl⟩; replace hx7 : TX base w27 v7 l7 := (by rw [hl7]; exact hx7); have LB7 : Hid (l7.length ≤ 100001) := (by show _ ≤ _; have := LB6.out; have := HTT.out.2; have := HM1.out; rw [hl7]; simp <;> omega); obtain ⟨xa7, xn7, xc7, rfl, hxn⟩ := own_form_n hx7; clear hxn; have HX7 := hidH hx7; have HB7 : Hid (Below base w2 w27) := ((HB6.out.alloc HS6.out _).trans hb7); have HS7 := hidH hs7; have HL7 : Hid (l7 = l6 ++ [c] ∧ True) := ⟨hl7, trivial⟩; clear hx7 hb7 hs7 hl7)
              go_wp2_with fail
              refine ⟨⟨i + 1, cn, by omega, by (congr 1), rfl, ?_, ?_, HB7.out, HS7.out⟩, by simp [intOf]; omega⟩
              · rw [HST.out.2, HL6.out.2.1]
              · have e : withT N (B.take (i + 1)) = l7 := by
                  rw [HL7.out.1, HL6.out.1]
                  unfold withT
                  rw [HST.out.1]
                  simp
                rw [e]
                exact HX7.out
          · have hni2 : ¬ (i : Int) < (q : Int) := by omega
            have HW : Hid (l6 = withT N B ∧ cn + 1 = 2 + 3 * B.count 10) := by
              have e : B.take i = B := List.take_of_length_le (by have := HUU.out.2; omega)
              have h := HL6.out
              rw [e] at h
              exact ⟨h.1, by omega⟩
            obtain ⟨u5, hu5⟩ : ∃ u : ByteArray, u = ⟨l6.toArray⟩ := ⟨_, rfl⟩
            have hcs : (convert 36 9 (.slice xa6 xn6 xc6)).run Tryd.prog wr = .ok (.string u5) wr := by rw [hu5]; exact tx_str HX6.out
            have HTW : Hid (Tb wr ∧ Below w.heap.size w wr) := by
              have h1 : Below w2.heap.size w2 wr := by have := HB6.out; rw [HBS.out] at this; exact this
              have h2 := below_trans (below_trans HB0.out.1 HB2.out) h1
              exact ⟨HT.out.below h2, h2⟩
            have HPA : Hid (Calls Tryd.prog 9 #[.string u5] wr (ParseGot (.ok ⟨true, p, ops, sts⟩) wr)) := by
              rw [hu5, ← HQ.out.1, ← HW.out.1]
              exact parse_walk _ _ HTW.out.1
            have HU5 : Hid (u5 = ⟨l6.toArray⟩) := hu5
            clear hu5
            go_wp2_with fail
            refine HPA.out.mono ?_
            rintro e9 w3 ⟨ov2, sv2, rfl, ho2, hs2, _, hB3⟩
            clear HPA hcs
            have HB3 : Hid (Below wr.heap.size wr w3) := hB3
            have HBW3 : Hid (Below w0.heap.size w0 w3) := below_trans (below_trans HB2.out (by have := HB6.out; rw [HBS.out] at this; exact this)) hB3
            have HO2 : Hid (OVw w3 ov2 ops) := own_gv (f := opF) (n := 3) (l := ops) (fun _ => rfl) ho2
            have HS2 : Hid (SVw w3 sv2 sts) := own_gv (f := stF) (n := 5) (l := sts) (fun _ => rfl) hs2
            obtain ⟨oa2, oc2, rfl, _, _⟩ := own_form21 ho2
            obtain ⟨sa2, sc2, rfl, _, _⟩ := own_form21 hs2
            dsimp only at HO2 HS2 ⊢
            rw [← HN.out] at HS2 ⊢
            obtain ⟨c0, c1, c2, c3, c4, c5, c6, c7⟩ := pl_cells (blk_below HB0.out.2 HBW3.out)
            have hgl : g < w3.heap.size := cell_lt c0
            have hgn : ¬ g = w3.heap.size := by omega
            simp only [PlV]
            clear ho2 hs2 hB3
            go_wp2_with fail
            have HPL := plans_walk (p := p) (l := ops) (av := .slice oa ops.length oc) (bv := .slice oa2 ops.length oc2) (w := w3.alloc (.cells #[.int .i64 p.P, .int .i64 p.S, .int .i64 p.W, .slice oa2 ops.length oc2, .int .i64 p.A, .int .i64 p.B, .int .i64 p.N, .int .i64 p.G] 24)) (HO.out.below (fun _ => rfl) (below_trans (below_trans HB0.out.1 HBW3.out) (below_alloc _ _))) (HO2.out.below (fun _ => rfl) (below_alloc _ _))
            simp only [PlV] at HPL
            refine HPL.mono ?_
            clear HPL c0 c1 c2 c3 c4 c5 c6 c7 hgl hgn
            rintro e9 w4 ⟨rfl, hB4⟩
            obtain ⟨g3, hg3⟩ : ∃ g, g = w3.heap.size := ⟨_, rfl⟩
            have HB4 : Hid (Below w3.heap.size w3 w4 ∧ w4.heap[g3]? = some (.cells (PlC p (.slice oa2 ops.length oc2)) 24 (0, 0)) ∧ g3 = w3.heap.size) := ⟨below_trans (below_alloc _ _) hB4, blk_below (alloc_at hg3) hB4, hg3⟩
            rw [← hg3]
            clear hB4 hg3
            go_wp2_with fail
            refine (same_walk (l := sts) (HS2.out.below (fun _ => rfl) HB4.out.1) (HS.out.below (fun _ => rfl) (below_trans (below_trans HB0.out.1 HBW3.out) HB4.out.1))).mono ?_
            rintro e9 w5 ⟨rfl, hB5⟩
            have HB5x : Hid (Below w3.heap.size w3 w5) := below_trans HB4.out.1 hB5
            have HG5 : Hid (w5.heap[g3]? = some (.cells (PlC p (.slice oa2 ops.length oc2)) 24 (0, 0))) := blk_below HB4.out.2.1 hB5
            clear hB5 HO2 HS2
            obtain ⟨u6, hu6⟩ : ∃ u : ByteArray, u = ⟨(l6 ++ tockT).toArray⟩ := ⟨_, rfl⟩
            obtain ⟨u7, hu7⟩ : ∃ u : ByteArray, u = ⟨(l6 ++ planW).toArray⟩ := ⟨_, rfl⟩
            have hLL := HL6.out.2.2
            have hcs : (convert 36 9 (.slice xa6 xn6 xc6)).run Tryd.prog w5 = .ok (.string u5) w5 := by rw [HU5.out]; exact tx_str (tx_keep HX6.out (below_trans HB3.out HB5x.out))
            have a1 : ∀ wx, (Op.stringOp .add u5 ⟨#[116, 105, 99, 107, 32, 116, 111, 99, 107, 10, 116, 105, 99, 107]⟩).run Tryd.prog wx = .ok (.string u6) wx := fun wx => by rw [HU5.out, hu6]; exact run_add l6 tockT (by simp [tockT]; omega) wx
            have a2 : ∀ wx, (Op.stringOp .add u5 ⟨#[112, 108, 97, 110]⟩).run Tryd.prog wx = .ok (.string u7) wx := fun wx => by rw [HU5.out, hu7]; exact run_add l6 planW (by simp [planW]; omega) wx
            obtain ⟨K, hK⟩ : ∃ K, K = cn + 1 := ⟨_, rfl⟩
            have hKb : ((K : Int) != (cn : Int) + 1) = false := by rw [hK]; simp
            have hKe : ((K : Int) == (cn : Int) + 1) = true := by rw [hK]; simp
            have hwc : IntKind.i64.wrap ((cn : Int) + 1) = (cn : Int) + 1 := by rw [IntKind.wrap_i64]; omega
            have HPB : Hid ((∀ wx, Tb wx → Calls Tryd.prog 9 #[.string u6] wx (ParseGot (.error (K, 211)) wx)) ∧ (∀ wx, Tb wx → Calls Tryd.prog 9 #[.string u7] wx (ParseGot (.error (K, 210)) wx))) := by
              refine ⟨fun wx hx => ?_, fun wx hx => ?_⟩
              · rw [hu6, hK, HW.out.2, ← HQ.out.2.1, HW.out.1]
                exact parse_walk _ _ hx
              · rw [hu7, hK, HW.out.2, ← HQ.out.2.2.1, HW.out.1]
                exact parse_walk _ _ hx
            clear hu6 hu7 hLL hK
            go_wp2_with fail
            refine (HPB.out.1 _ (HTW.out.1.below (below_trans HB3.out HB5x.out))).mono ?_
            rintro e9 w6 ⟨rfl, hB6x⟩
            have HB6x : Hid (Below w3.heap.size w3 w6) := below_trans HB5x.out hB6x
            have HG6 : Hid (w6.heap[g3]? = some (.cells (PlC p (.slice oa2 ops.length oc2)) 24 (0, 0))) := blk_below HG5.out hB6x
            obtain ⟨d0, d1, d2, d3, d4, d5, d6, d7⟩ := pl_cells HG6.out
            have z0 := blk_soft HG6.out 0
            have z1 := blk_soft HG6.out 1
            have z2 := blk_soft HG6.out 2
            have z3 := blk_soft HG6.out 3
            have z4 := blk_soft HG6.out 4
            have z5 := blk_soft HG6.out 5
            have z6 := blk_soft HG6.out 6
            have z7 := blk_soft HG6.out 7
            simp only [PlV, Pl.zero]
            clear hB6x hcs a1
            go_wp2_with fail
            obtain ⟨w7, hw7⟩ : ∃ w7, w7 = ((((((((w6.setCell ⟨g3, 0, none⟩ (.int .i64 0)).setCell ⟨g3, 1, none⟩ (.int .i64 0)).setCell ⟨g3, 2, none⟩ (.int .i64 0)).setCell ⟨g3, 3, none⟩ (.slice none 0 0)).setCell ⟨g3, 4, none⟩ (.int .i64 0)).setCell ⟨g3, 5, none⟩ (.int .i64 0)).setCell ⟨g3, 6, none⟩ (.int .i64 0)).setCell ⟨g3, 7, none⟩ (.int .i64 0)) := ⟨_, rfl⟩
            rw [← hw7]
            have HB7 : Hid (Below w3.heap.size w3 w7) := by
              have hp : w3.heap.size ≤ g3 := by have := HB4.out.2.2; omega
              rw [hw7]
              exact (Below.setCell (Below.setCell (Below.setCell (Below.setCell (Below.setCell (Below.setCell (Below.setCell (Below.setCell HB6x.out (p := ⟨g3, 0, none⟩) hp _) (p := ⟨g3, 1, none⟩) hp _) (p := ⟨g3, 2, none⟩) hp _) (p := ⟨g3, 3, none⟩) hp _) (p := ⟨g3, 4, none⟩) hp _) (p := ⟨g3, 5, none⟩) hp _) (p := ⟨g3, 6, none⟩) hp _) (p := ⟨g3, 7, none⟩) hp _)
            clear hw7 d0 d1 d2 d3 d4 d5 d6 d7 z0 z1 z2 z3 z4 z5 z6 z7
            refine (plans_walk (p := Pl.zero) (l := []) (ov_nil _) (ov_nil _)).mono ?_
            rintro e9 w8 ⟨rfl, hB8⟩
            have HB8 : Hid (Below w3.heap.size w3 w8) := below_trans HB7.out hB8
            have hcs : (convert 36 9 (.slice xa6 xn6 xc6)).run Tryd.prog w8 = .ok (.string u5) w8 := by rw [HU5.out]; exact tx_str (tx_keep HX6.out (below_trans HB3.out HB8.out))
            clear hB8
            go_wp2_with fail
            refine (HPB.out.2 _ (HTW.out.1.below (below_trans HB3.out HB8.out))).mono ?_
            rintro e9 w9 ⟨rfl, hB9⟩
            have HB9x : Hid (Below w.heap.size w w9) := below_trans (below_trans HTW.out.2 (below_trans HB3.out HB8.out)) hB9
            simp only [PlV, Pl.zero]
            clear hB9 hcs a2
            go_wp2_with fail
            go_ret
            exact ⟨rfl, HB9x.out⟩


end Go.Proofs.YtkiplcmndpdifaaDoor


