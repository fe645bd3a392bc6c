/- laid, images. -/
import Derived.Test.YtnnammlipfappaaDc

namespace Go.Proofs.Ytnnammlipfappaa

open Go.RowKit



theorem cut_bv {w : World} {ao : Option Addr} {cap n : Nat} {l : List Nat} (h : Bv w (.slice ao l.length cap) l) (hn : n ≤ l.length) : Bv w (.slice ao n cap) (l.take n) := by
  obtain ⟨⟨ao', cap', e, h1, h2, h3, h4⟩, h5⟩ := h
  simp only [Value.slice.injEq, ib_len] at e
  obtain ⟨rfl, _, rfl⟩ := e
  rw [ib_len] at h1
  refine ⟨⟨ao, cap, by rw [ib_len]; simp; omega, by rw [ib_len]; simp; omega, h2, h3, fun i hi => ?_⟩, fun c hc => h5 c (List.mem_of_mem_take hc)⟩
  rw [ib_len] at hi
  simp at hi
  obtain ⟨b, off, e, hc⟩ := h4 i (by rw [ib_len]; omega)
  refine ⟨b, off, e, ?_⟩
  rw [hc]
  have i1 : i < n := by omega
  unfold ib
  rw [List.map_take]
  simp [List.getD, i1]




theorem str_of {w : World} {v : Value} {l : List Nat} (h : Bv w v l) : (convert 57 9 v).run Try.prog w = .ok (.string (str l)) w :=
  h.str 57 5 9 Try.underlying57 Try.underlying5 Try.underlying9
theorem str_ne {a b : List Nat} (ha : ∀ c ∈ a, c < 256) (hb : ∀ c ∈ b, c < 256) (h : a ≠ b) : str a ≠ str b := fun e => h (str_inj ha hb e)


theorem str_beq {a b : List Nat} (ha : ∀ c ∈ a, c < 256) (hb : ∀ c ∈ b, c < 256) : ((str a).toList == (str b).toList) = decide (a = b) := by
  rw [ByteArray.toList_eq, ByteArray.toList_eq]
  by_cases h : a = b
  · subst h; simp
  · rw [decide_eq_false h, beq_eq_false_iff_ne]
    exact fun e => str_ne ha hb h (ByteArray.ext (Array.toList_inj.mp e))


theorem images_len {w : World} {a b : Value} {la lb : List (List Nat)} (ha : PvD w a la) (hb : PvD w b lb) (hn : la.length ≠ lb.length) :
    Calls Try.prog 27 #[a, b] w fun e w' => e = .returned (.bool (decide (la = lb))) ∧ Below w.heap.size w w' := by
  have he : decide (la = lb) = false := decide_eq_false (fun e => hn (by rw [e]))
  rw [he]
  obtain ⟨ao, ca, rfl, _, _⟩ := ha.form
  obtain ⟨bo, cb, rfl, _, _⟩ := hb.form
  have hne : ((la.length : Int) == (lb.length : Int)) = false := by simp; omega
  have hne2 : (la.length : Int) ≠ (lb.length : Int) := by omega
  clear ha hb hn he
  go_enter Try.func27, Try.ntmps27
  go_wp2_with fail
  go_ret
  exact ⟨rfl, below_same _⟩


theorem images_none {w : World} {ao bo : Option Addr} {ca cb : Nat} :
    Calls Try.prog 27 #[.slice ao 0 ca, .slice bo 0 cb] w fun e w' => e = .returned (.bool true) ∧ Below w.heap.size w w' := by
  go_enter Try.func27, Try.ntmps27
  go_wp2_with fail
  refine wp_loop_rounds 1 ?_
  rw [rounds_succ]
  go_wp2_with fail
  go_ret
  exact ⟨rfl, below_same _⟩


def ImRel (la lb : List (List Nat)) (w : World) (iv : Value) (wr : World) : Prop :=
  ∃ k : Nat, k ≤ la.length ∧ iv = .int .i64 k ∧ (∀ i, i < k → bk la i = bk lb i) ∧ Below w.heap.size w wr


set_option maxRecDepth 100000 in
set_option maxHeartbeats 1000000 in
theorem images_some {w : World} {la lb : List (List Nat)} {b1 o1 c1 b2 o2 c2 n : Nat} (hna : la.length = n) (hnb : lb.length = n) (hm : n ≤ maxLen)
    (ha : ∀ i, i < n → ∃ u, w.cell? ⟨b1, o1 + i, none⟩ = some u ∧ Bv w u (bk la i)) (hb : ∀ i, i < n → ∃ u, w.cell? ⟨b2, o2 + i, none⟩ = some u ∧ Bv w u (bk lb i)) :
    Calls Try.prog 27 #[.slice (some ⟨b1, o1, none⟩) n c1, .slice (some ⟨b2, o2, none⟩) n c2] w fun e w' => e = .returned (.bool (decide (la = lb))) ∧ Below w.heap.size w w' := by
  have HA : Hid (∀ i, i < n → ∃ u, w.cell? ⟨b1, o1 + i, none⟩ = some u ∧ Bv w u (bk la i)) := ha
  have HB : Hid (∀ i, i < n → ∃ u, w.cell? ⟨b2, o2 + i, none⟩ = some u ∧ Bv w u (bk lb i)) := hb
  have HNA : Hid (la.length = n) := hna
  have HNB : Hid (lb.length = n) := hnb
  have hni : (n : Int) ≤ 9223372036854775807 := by simp only [maxLen] at hm; omega
  obtain ⟨A, hA⟩ : ∃ A, A = decide (la = lb) := ⟨_, rfl⟩
  rw [← hA]
  have HAA : Hid (A = decide (la = lb)) := hA
  clear ha hb hna hnb hm hA
  go_enter Try.func27, Try.ntmps27
  go_wp2_with fail
  go_loopw [5] (fun iv wr => ImRel la lb w iv wr) (fun iv _ => n - (intOf iv).toNat)
  case atStart => exact ⟨0, Nat.zero_le _, rfl, fun i hi => by omega, below_same _⟩
  case round =>
    obtain ⟨k, hk, rfl, heq, hbel⟩ := hrel
    have hkn : k ≤ n := by rw [← HNA.out]; exact hk
    have HEQ : Hid (∀ i, i < k → bk la i = bk lb i) := heq
    clear heq hk
    by_cases hlt : k < n
    · obtain ⟨u1, hu1, hv1⟩ := HA.out k hlt
      obtain ⟨u2, hu2, hv2⟩ := HB.out k hlt
      obtain ⟨p1, hp1⟩ : ∃ p, bk la k = p := ⟨_, rfl⟩
      obtain ⟨p2, hp2⟩ : ∃ p, bk lb k = p := ⟨_, rfl⟩
      rw [hp1] at hv1
      rw [hp2] at hv2
      have HP1 : Hid (bk la k = p1) := hp1
      have HP2 : Hid (bk lb k = p2) := hp2
      clear hp1 hp2
      have hw1 := hv1.below hbel
      have hw2 := hv2.below hbel
      obtain ⟨a1, d1, rfl, _⟩ := bv_formD hv1
      obtain ⟨a2, d2, rfl, _⟩ := bv_formD hv2
      have j1 : ∀ wx, Below wr.heap.size wr wx → wx.cell? ⟨b1, o1 + k, none⟩ = some (.slice a1 p1.length d1) := fun wx h => by
        rw [(below_trans hbel h).cell (p := ⟨b1, o1 + k, none⟩) (cell_lt hu1)]; exact hu1
      have j2 : ∀ wx, Below wr.heap.size wr wx → wx.cell? ⟨b2, o2 + k, none⟩ = some (.slice a2 p2.length d2) := fun wx h => by
        rw [(below_trans hbel h).cell (p := ⟨b2, o2 + k, none⟩) (cell_lt hu2)]; exact hu2
      have s1 : ∀ wx, Below wr.heap.size wr wx → (convert 57 9 (.slice a1 p1.length d1)).run Try.prog wx = .ok (.string (str p1)) wx := fun wx h => str_of (hw1.below h)
      have s2 : ∀ wx, Below wr.heap.size wr wx → (convert 57 9 (.slice a2 p2.length d2)).run Try.prog wx = .ok (.string (str p2)) wx := fun wx h => str_of (hw2.below h)
      have hSd : Below wr.heap.size wr wr.drew := (Below.refl _ _).drew
      have HBE : Hid (Below w.heap.size w wr) := hbel
      have HB1 : Hid (∀ c ∈ p1, c < 256) := hv1.2
      have HB2 : Hid (∀ c ∈ p2, c < 256) := hv2.2
      clear hv1 hv2 hw1 hw2 hu1 hu2 hbel
      by_cases hpp : p1 = p2
      · subst hpp
        have HR : Hid (∀ wx, Below wr.heap.size wr wx → ImRel la lb w (.int .i64 ((k : Int) + 1)) wx) := fun wx h =>
          ⟨k + 1, by rw [HNA.out]; exact hlt, rfl, fun i hi => (by
            by_cases e : i = k
            · subst e; rw [HP1.out, HP2.out]
            · exact HEQ.out i (by omega)), below_trans HBE.out h⟩
        go_wp2_with fail
        go_region_held3 (fun wx => Below wr.heap.size wr wx) (first | assumption) (fail)
        all_goals go_wp2_with fail
        all_goals go_roundw
        case rel => exact HR.out _ (by assumption)
        case measure => simp [intOf]; omega
      · have hne : ((str p1).toList == (str p2).toList) = false := by rw [str_beq HB1.out HB2.out]; exact decide_eq_false hpp
        have HF : Hid (A = false) := by
          show _ = _
          rw [HAA.out]
          exact decide_eq_false (fun e => hpp (by rw [← HP1.out, ← HP2.out, e]))
        clear hpp
        go_wp2_with fail
        go_region_held3 (fun wx => Below wr.heap.size wr wx) (first | assumption) (fail)
        all_goals go_wp2_with fail
        all_goals (try simp only [Exit.inBlock, Exit.then])
        all_goals go_ret
        all_goals exact ⟨by rw [HF.out]; rfl, below_trans HBE.out (by assumption)⟩
    · obtain rfl : k = n := by omega
      have HT : Hid (A = true) := by
        show _ = _
        rw [HAA.out]
        exact decide_eq_true (bk_ext (by rw [HNA.out, HNB.out]) (fun i hi => HEQ.out i (by rw [HNA.out] at hi; exact hi)))
      go_wp2_with fail
      go_ret
      exact ⟨by rw [HT.out]; rfl, hbel⟩


theorem images_walk {w : World} {a b : Value} {la lb : List (List Nat)} (ha : PvD w a la) (hb : PvD w b lb) :
    Calls Try.prog 27 #[a, b] w fun e w' => e = .returned (.bool (decide (la = lb))) ∧ Below w.heap.size w w' := by
  by_cases hn : la.length = lb.length
  · obtain ⟨ao, ca, rfl, q1, q2, q3, q4⟩ := ha
    obtain ⟨bo, cb, rfl, r1, r2, r3, r4⟩ := hb
    by_cases h0 : la.length = 0
    · have e1 : la = [] := List.eq_nil_of_length_eq_zero h0
      have e2 : lb = [] := List.eq_nil_of_length_eq_zero (by omega)
      subst e1; subst e2
      exact images_none
    · obtain ⟨b1, o1, _, rfl, _, _⟩ := q4 0 (by omega)
      obtain ⟨b2, o2, _, rfl, _, _⟩ := r4 0 (by omega)
      rw [← hn]
      refine images_some rfl hn.symm (by omega) (fun i hi => ?_) (fun i hi => ?_)
      · obtain ⟨_, _, u, e1, e2, e3⟩ := q4 i hi
        cases e1
        exact ⟨u, e2, e3⟩
      · obtain ⟨_, _, u, e1, e2, e3⟩ := r4 i (by omega)
        cases e1
        exact ⟨u, e2, e3⟩
  · exact images_len ha hb hn
end Go.Proofs.Ytnnammlipfappaa


