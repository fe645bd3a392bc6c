/- ScriptForth, walked. -/
import Derived.Test.YtonglpklobhpmaaDoorTg

namespace Go.Proofs.YtonglpklobhpmaaDoor

open Go.RowKit

attribute [local go_sem] run_store_float


theorem ov_nil (w : World) : OVw w (.slice none 0 0) [] := ⟨none, 0, rfl, Nat.le_refl _, by simp [maxLen], fun _ => rfl, fun i hi => by simp at hi⟩


theorem print_of {T : Bs} {s : Rs} (h : parseT T = .ok s) : (262144 < (bareL (splitB 10 T)).length → printE s.p s.ops s.sts = 6 ∧ printT s.p s.ops s.sts = []) ∧ (¬ 262144 < (bareL (splitB 10 T)).length → printE s.p s.ops s.sts = 0 ∧ printT s.p s.ops s.sts = bareL (splitB 10 T)) := by
  obtain ⟨h1, h2, _⟩ := parse_form h
  have h4 : ¬ 4096 < s.sts.length := by have := h1.len; omega
  constructor
  · intro hb
    have e : printE s.p s.ops s.sts = 6 := by unfold printE; rw [if_neg h4, if_neg (by simp [h1.es]), h2, if_pos hb]
    refine ⟨e, ?_⟩
    unfold printT
    rw [e]
    rfl
  · intro hb
    have e : printE s.p s.ops s.sts = 0 := by unfold printE; rw [if_neg h4, if_neg (by simp [h1.es]), h2, if_neg hb]
    refine ⟨e, ?_⟩
    unfold printT
    rw [if_pos e, h2]


set_option maxRecDepth 100000 in
set_option maxHeartbeats 8000000 in
theorem forth_walk {T : Bs} {w : World} (htb : Tb w) : Calls Tryd.prog 4 #[S T] w fun e w' => e = .returned (.bool true) ∧ Below w.heap.size w w' := by
  have HT : Hid (Tb w) := htb
  obtain ⟨t, ht⟩ : ∃ t : ByteArray, t = ⟨T.toArray⟩ := ⟨_, rfl⟩
  obtain ⟨n, hn⟩ : ∃ n, n = T.length := ⟨_, rfl⟩
  have hsz : t.size = n := by rw [ht, size_mk, hn]
  have HTT : Hid (t = ⟨T.toArray⟩ ∧ n = T.length) := ⟨ht, hn⟩
  show Calls _ _ #[.string _] _ _
  rw [← ht]
  have HPW : Hid (∀ wx, Tb wx → Calls Tryd.prog 9 #[.string t] wx (ParseGot (parseT T) wx)) := by
    intro wx hx
    rw [ht]
    exact parse_walk T wx hx
  clear ht hn htb
  go_enter Tryd.func4, Tryd.ntmps4
  go_wp2_with fail
  refine (awake_walk HT.out).mono ?_
  rintro e9 w1 ⟨rfl, hB1⟩
  have HB1 : Hid (Below w.heap.size w w1) := hB1
  clear hB1
  go_wp2_with fail
  refine (HPW.out w1 (HT.out.below HB1.out)).mono ?_
  intro e9 w2 h
  cases hA : parseT T with
  | error x =>
    obtain ⟨k, e⟩ := x
    rw [hA] at h
    obtain ⟨rfl, hB2⟩ := h
    have hbad := parse_bad hA
    rw [← HTT.out.2] at hbad
    have HB2 : Hid (Below w.heap.size w w2) := below_trans HB1.out hB2
    simp only [PlV, Pl.zero]
    clear hB2 hA
    have he0 : (e != 0) = true := by rw [bne_iff_ne]; exact hbad.1
    by_cases h6 : e = 6
    · have hk0 : k = 0 := hbad.2.1.2 h6
      have hbig : 262144 < n := hbad.2.2.1 h6
      have hbi : (262144 : Int) < (n : Int) := by omega
      subst h6 hk0
      clear hbad hbig he0
      go_wp2_with fail
      refine (plans_walk (p := Pl.zero) (l := []) (ov_nil _) (ov_nil _)).mono ?_
      rintro e9 w3 ⟨rfl, hB3⟩
      have HB3 : Hid (Below w.heap.size w w3) := below_trans (below_trans HB2.out (below_alloc _ _)) hB3
      clear hB3
      go_wp2_with fail
      go_ret
      exact ⟨rfl, HB3.out⟩
    · have hk0 : k ≠ 0 := fun h => h6 (hbad.2.1.1 h)
      have hbi : ¬ (262144 : Int) < (n : Int) := by
        intro h
        exact h6 (hbad.2.2.2 (by omega))
      have he6 : (e == 6) = false := by rw [beq_eq_false_iff_ne]; exact h6
      have hki : (((k : Nat) : Int) == 0) = false := by rw [beq_eq_false_iff_ne]; omega
      clear hbad h6 hk0
      go_wp2_with fail
      refine (plans_walk (p := Pl.zero) (l := []) (ov_nil _) (ov_nil _)).mono ?_
      rintro e9 w3 ⟨rfl, hB3⟩
      have HB3 : Hid (Below w.heap.size w w3) := below_trans (below_trans HB2.out (below_alloc _ _)) hB3
      clear hB3
      go_wp2_with fail
      go_ret
      refine ⟨ret_bool21 (a := !decide ((262144 : Int) < (n : Int))) ?_, HB3.out⟩
      rw [decide_eq_false (by omega : ¬ (262144 : Int) < (n : Int))]
      rfl
  | ok s =>
    rw [hA] at h
    obtain ⟨ov, sv, rfl, ho, hs, _, hB2⟩ := h
    have HB2 : Hid (Below w.heap.size w w2 ∧ w2.heap.size = w2.heap.size) := ⟨below_trans HB1.out hB2, rfl⟩
    have HO : Hid (OVw w2 ov s.ops) := own_gv (f := opF) (n := 3) (l := s.ops) (fun _ => rfl) ho
    have HS : Hid (SVw w2 sv s.sts) := own_gv (f := stF) (n := 5) (l := s.sts) (fun _ => rfl) hs
    obtain ⟨oa, oc, rfl, _, _⟩ := own_form21 ho
    obtain ⟨sa, sc, rfl, _, _⟩ := own_form21 hs
    have HF : Hid (RsOk s ∧ T.length ≤ 262144) := ⟨(parse_form hA).1, (parse_form hA).2.2⟩
    have HPO : Hid _ := print_of hA
    obtain ⟨p, hp⟩ : ∃ p, p = s.p := ⟨_, rfl⟩
    obtain ⟨ops, hops⟩ : ∃ p, p = s.ops := ⟨_, rfl⟩
    obtain ⟨sts, hsts⟩ : ∃ p, p = s.sts := ⟨_, rfl⟩
    obtain ⟨B, hB⟩ : ∃ B, B = bareL (splitB 10 T) := ⟨_, rfl⟩
    have HQ : Hid ((262144 < B.length → printE p ops sts = 6 ∧ printT p ops sts = []) ∧ (¬ 262144 < B.length → printE p ops sts = 0 ∧ printT p ops sts = B)) := by
      rw [hp, hops, hsts, hB]; exact HPO.out
    have HR : Hid (p.ok ∧ (∀ x ∈ ops, x.ok) ∧ (∀ x ∈ sts, x.ok)) := by
      rw [hp, hops, hsts]; exact ⟨HF.out.1.p, HF.out.1.ops, HF.out.1.sts⟩
    have HBT : Hid (∀ wx, Calls Tryd.prog 12 #[.string t] wx fun e w' => e = .returned (S B) ∧ Below wx.heap.size wx w') := by
      intro wx
      rw [HTT.out.1, hB]
      exact bare_text_walk HF.out.2
    rw [← hops] at HO
    rw [← hsts] at HS
    rw [← hp, ← hops, ← hsts]
    simp only [PlV]
    clear ho hs hB2 hA HF HPO hp hops hsts hB
    go_wp2_with fail
    have HPR := print_walk (p := p) (ops := ops) (sts := sts) (ov := .slice oa ops.length oc) (sv := .slice sa sts.length sc) (w := w2.alloc (.cells #[.int .i64 p.P, .int .i64 p.S, .int .i64 p.W, .slice oa ops.length oc, .int .i64 p.A, .int .i64 p.B, .int .i64 p.N, .int .i64 p.G] 24)) (HO.out.below (fun _ => rfl) (below_alloc _ _)) (HS.out.below (fun _ => rfl) (below_alloc _ _)) HR.out.1 HR.out.2.1 HR.out.2.2 (HT.out.below (below_trans HB2.out.1 (below_alloc _ _)))
    simp only [PlV] at HPR
    refine HPR.mono ?_
    clear HPR
    intro e9 w3 h
    unfold PrintGot at h
    by_cases hbig : 262144 < B.length
    · obtain ⟨q1, q2⟩ := HQ.out.1 hbig
      rw [q1, q2] at h
      obtain ⟨rfl, hB3⟩ := h
      have HB3 : Hid (Below w.heap.size w w3) := below_trans (below_trans HB2.out.1 (below_alloc _ _)) hB3
      obtain ⟨u, hu⟩ : ∃ t : ByteArray, t = ⟨B.toArray⟩ := ⟨_, rfl⟩
      obtain ⟨m, hm⟩ : ∃ m, m = B.length := ⟨_, rfl⟩
      have husz : u.size = m := by rw [hu, size_mk, hm]
      have HBU : Hid (∀ wx, Calls Tryd.prog 12 #[.string t] wx fun e w' => e = .returned (.string u) ∧ Below wx.heap.size wx w') := by
        intro wx; rw [hu]; exact HBT.out wx
      have hmi : (262144 : Int) < (m : Int) := by omega
      simp only [S]
      clear q1 q2 hB3 hu hm hbig
      go_wp2_with fail
      refine (HBU.out w3).mono ?_
      rintro e9 w4 ⟨rfl, hB4⟩
      have HB4 : Hid (Below w.heap.size w w4) := below_trans HB3.out hB4
      clear hB4
      go_wp2_with fail
      go_ret
      exact ⟨rfl, HB4.out⟩
    · obtain ⟨q1, q2⟩ := HQ.out.2 hbig
      rw [q1, q2] at h
      obtain ⟨rfl, hB3⟩ := h
      have HB3 : Hid (Below w.heap.size w w3) := below_trans (below_trans HB2.out.1 (below_alloc _ _)) hB3
      obtain ⟨u, hu⟩ : ∃ t : ByteArray, t = ⟨B.toArray⟩ := ⟨_, rfl⟩
      obtain ⟨m, hm⟩ : ∃ m, m = B.length := ⟨_, rfl⟩
      have husz : u.size = m := by rw [hu, size_mk, hm]
      have HBU : Hid (∀ wx, Calls Tryd.prog 12 #[.string t] wx fun e w' => e = .returned (.string u) ∧ Below wx.heap.size wx w') := by
        intro wx; rw [hu]; exact HBT.out wx
      have hmi : ¬ (262144 : Int) < (m : Int) := by omega
      simp only [S]
      rw [← hu]
      clear q1 q2 hB3 hu hm hbig
      go_wp2_with fail
      refine (HBU.out w3).mono ?_
      rintro e9 w4 ⟨rfl, hB4⟩
      have HB4 : Hid (Below w.heap.size w w4) := below_trans HB3.out hB4
      clear hB4
      go_wp2_with fail
      go_ret
      exact ⟨rfl, HB4.out⟩
end Go.Proofs.YtonglpklobhpmaaDoor


