/- The reference's TakeNums. -/
import Derived.Test.YtnnammlipfappaaWk

namespace Go.Proofs.Ytnnammlipfappaa

open Go.RowKit



theorem tn_err {b : List Nat} {p e : Nat} (k : Nat) (acc : List Nat) (h : Wm.take (b.drop p) = (0, 0, e)) (h34 : e = 3 ∨ e = 4) : Wm.tnums (k + 1) b p acc = ([], 0, e) := by
  rw [Wm.tnums, h]; rcases h34 with rfl | rfl <;> rfl
theorem tn_big {b : List Nat} {p x n : Nat} (k : Nat) (acc : List Nat) (h : Wm.take (b.drop p) = (x, n, 0)) (hb : 4611686018427387904 < x) : Wm.tnums (k + 1) b p acc = ([], 0, 4) := by
  rw [Wm.tnums, h]; simp only; rw [if_pos hb]
theorem tn_ok {b : List Nat} {p x n : Nat} (k : Nat) (acc : List Nat) (h : Wm.take (b.drop p) = (x, n, 0)) (hb : ¬ 4611686018427387904 < x) : Wm.tnums (k + 1) b p acc = Wm.tnums k b (p + n) (acc ++ [x]) := by
  rw [Wm.tnums, h]; simp only; rw [if_neg hb]


set_option maxRecDepth 100000 in
set_option maxHeartbeats 4000000 in
theorem rtakenums_walk {w : World} {v : Value} {l : List Nat} (most : Int) (h : Bv w v l) (hm : most ≤ 4) :
    Calls Try.prog 75 #[v, .int .i64 most] w (NumsGot (Wm.takeNums l most) w) := by
  have HV : Hid (Bv w v l) := h
  have HM : Hid (most ≤ 4) := hm
  have hle : (l.length : Int) ≤ 9223372036854775807 := by have h2 := h.len_le; simp only [maxLen] at h2; omega
  obtain ⟨r, hr⟩ : ∃ r, r = Wm.takeNums l most := ⟨_, rfl⟩
  have HR : Hid (r = Wm.takeNums l most) := hr
  rw [← hr]
  obtain ⟨a0, c0, rfl⟩ := bv_form h
  have hc0 : (l.length : Int) ≤ (c0 : Int) := by have := h.le_cap; omega
  clear h hm hr
  go_enter Try.func75, Try.ntmps75
  go_wp2_with fail
  refine (rtake_walk HV.out).mono ?_
  rintro e w1 ⟨he, rfl⟩
  rcases Wm.take_form l HV.out.2 with ⟨er, her, h34⟩ | ⟨c, p0, htx, hx, hn1, hn2, henc⟩
  · rw [t3_lit her] at he
    subst he
    have HER : Hid (Wm.take l = (0, 0, er)) := her
    clear her
    rcases h34 with rfl | rfl
    · go_wp2_with fail
      go_ret3
      exact numsgot_none (by rw [HR.out, takeNums_err most HER.out (.inl rfl)]) rfl (Below.refl _ _)
    · go_wp2_with fail
      go_ret3
      exact numsgot_none (by rw [HR.out, takeNums_err most HER.out (.inr rfl)]) rfl (Below.refl _ _)
  · rw [t3_lit htx] at he
    subst he
    have HT : Hid (Wm.take l = (c, p0, 0)) := htx
    have HP0 : Hid (p0 ≤ l.length) := hn2
    clear htx henc hx hn1 hn2
    by_cases hm0 : most < 0
    · go_wp2_with fail
      go_ret3
      exact numsgot_none (by rw [HR.out, takeNums_long HT.out (by omega)]) rfl (Below.refl _ _)
    · have hmw : IntKind.u64.wrap most = most := wrap_u64_id (by omega) (by have := HM.out; omega)
      by_cases hml : most < (c : Int)
      · go_wp2_with fail
        go_ret3
        exact numsgot_none (by rw [HR.out, takeNums_long HT.out (by omega)]) rfl (Below.refl _ _)
      · have HCL : Hid ((c : Int) < 9223372036854775808) := by have := HM.out; show _ < _; omega
        have HCM : Hid (c ≤ 4) := by have := HM.out; show _ ≤ _; omega
        have HST : Hid (TNRel l c r w1.heap.size w1 (.int .i64 p0) (.slice (some ⟨w1.heap.size, 0, none⟩) 0 0) (.int .u64 0) .u64 (w1.alloc (.cells #[] 3))) :=
          tnrel_start .u64 HP0.out (by rw [HR.out, takeNums_go HT.out (by omega)])
        have hmlb : decide (most < (c : Int)) = false := decide_eq_false hml
        have hm0b : decide (most < 0) = false := decide_eq_false hm0
        clear hml hm0
        go_wp2_with fail
        go_loopw [8, 10, 11] (fun pv v kv wr => TNRel l c r w1.heap.size w1 pv v kv .u64 wr) (fun _ _ kv _ => c - (intOf kv).toNat)
        case atStart => exact HST.out
        case round =>
          obtain ⟨k, p, acc, rfl, hk, rfl, hp, hkp, hacc, htn, hown, hbel⟩ := hrel
          have HTN : Hid (Wm.tnums (c - k) l p acc = r) := htn
          have HA : Hid (acc.length = k) := hacc
          have hH : w1.heap.size ≤ wr.heap.size := hbel.size
          have hpl : (p : Int) ≤ (l.length : Int) := by omega
          have HVr : Hid (Bv wr (.slice a0 l.length c0) l) := HV.out.below hbel
          clear htn hacc HST
          by_cases hlt : (k : Int) < (c : Int)
          · have hkl : (k : Int) + 1 ≤ 9223372036854775807 := by have := HCL.out; omega
            have HPN : Hid (p ≤ l.length) := hp
            have HKP : Hid (k ≤ p) := hkp
            have HKC : Hid (k < c) := by show k < c; omega
            rcases Wm.take_form (l.drop p) (fun d hd => HV.out.2 d (List.mem_of_mem_drop hd)) with ⟨er, her, h34⟩ | ⟨x, n, htx, hx64, hn1, hn2, henc⟩
            · have HE : Hid (r = ([], 0, er)) := by
                show r = _
                rw [← HTN.out, ← tn_err (c - k - 1) acc her h34]; congr 1; have := HKC.out; omega
              have HER : Hid (Wm.take (l.drop p) = (0, 0, er)) := her
              clear her hp hkp hk
              by_cases hcp : c0 = p
              · have HLP : Hid (l.length ≤ p) := by show _ ≤ _; omega
                subst hcp
                have hlp : l.length = c0 := by omega
                go_wp2_with fail
                refine (rtake_walk (Bv.cutEnd (w := wr) (ao := a0) HLP.out)).mono ?_
                rintro e w3 ⟨he, rfl⟩
                rw [t3_lit HER.out] at he
                subst he
                rcases h34 with rfl | rfl
                · go_wp2_with fail
                  go_ret3
                  exact numsgot_none HE.out rfl hbel
                · go_wp2_with fail
                  go_ret3
                  exact numsgot_none HE.out rfl hbel
              · go_wp2_with fail
                refine (rtake_walk (HVr.out.cutFrom p HPN.out hcp)).mono ?_
                rintro e w3 ⟨he, rfl⟩
                rw [t3_lit HER.out] at he
                subst he
                rcases h34 with rfl | rfl
                · go_wp2_with fail
                  go_ret3
                  exact numsgot_none HE.out rfl hbel
                · go_wp2_with fail
                  go_ret3
                  exact numsgot_none HE.out rfl hbel
            · rw [List.length_drop] at hn2
              have HX : Hid (Wm.take (l.drop p) = (x, n, 0)) := htx
              have HN1 : Hid (1 ≤ n) := hn1
              have HN2 : Hid (p + n ≤ l.length) := by show _ ≤ _; omega
              have hpn : (p : Int) + (n : Int) ≤ 9223372036854775807 := by omega
              have hcp : ¬ c0 = p := by omega
              clear htx hn1 hn2 hx64 henc hp hkp hk
              go_wp2_with fail
              refine (rtake_walk (HVr.out.cutFrom p HPN.out hcp)).mono ?_
              rintro e w3 ⟨he, rfl⟩
              rw [t3_lit HX.out] at he
              subst he
              by_cases hb : (4611686018427387904 : Int) < (x : Int)
              · have HE : Hid (r = ([], 0, 4)) := by
                  show r = _
                  rw [← HTN.out, ← tn_big (c - k - 1) acc HX.out (by omega)]; congr 1; have := HKC.out; omega
                go_wp2_with fail
                go_ret3
                exact numsgot_none HE.out rfl hbel
              · have hbb : decide ((4611686018427387904 : Int) < (x : Int)) = false := decide_eq_false hb
                have hwr : IntKind.i64.wrap (x : Int) = (x : Int) := by rw [IntKind.wrap_i64]; omega
                have hkw : IntKind.u64.wrap ((k : Int) + 1) = (k : Int) + 1 := wrap_u64_id (by omega) (by omega)
                have HS : Hid (∀ j q (b : List Nat) a, b.drop q = l.drop p → Wm.tnums (j + 1) b q a = Wm.tnums j b (q + n) (a ++ [x])) := by
                  intro j q b a hd
                  exact tn_ok j a (by rw [hd]; exact HX.out) (by omega)
                clear hb
                have HBD : Hid ((k + 1) * 8 ≤ 140737488355328) := by show _ ≤ _; have := HKC.out; have := HCM.out; omega
                go_wp2_with (at_builtin; refine wpList_append_sv (by rfl) (.tmp 51) (.tmp 54) 37 (by rfl) w1.heap.size 3 .i64 8 Try.underlying37 info_i64 _ _ _ (by rfl) (hown.alloc _) _ [_] (by rfl) (sv_one .i64 _ _ _) (by have := HBD.out; simp [maxLen]; omega) (by have := HBD.out; simp; omega) (by simp; omega) ?_; intro v' w4 hown' hgrow)
                have R := tnrel_step .u64 HKC.out HN2.out HKP.out HN1.out HA.out HTN.out HS.out hbel hH _ hown hown' hgrow
                clear hown' hgrow
                go_wp2
                go_roundw
                case rel => exact R
                case measure => simp [intOf]; omega
          · obtain rfl : k = c := by omega
            have HO : Hid (wr.ownsRow w1.heap.size 3 1 u10 k ((ib acc).map (Value.int .i64))) := hown
            clear hown
            go_wp2_with fail
            go_ret3
            exact numsgot_some (by rw [← HTN.out, Nat.sub_self, Wm.tnums]) HO.out hbel rfl
end Go.Proofs.Ytnnammlipfappaa


