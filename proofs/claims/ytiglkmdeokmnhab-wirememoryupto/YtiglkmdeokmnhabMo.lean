/- TakeRun's answer as a row of its own. -/
import Derived.Test.YtiglkmdeokmnhabMn
namespace Go.Proofs.Ytiglkmdeokmnhab
open Go.RowKit

theorem ret_run {v : Value} {a b : Int} (h : a = b) : Ending.returned (.tuple #[v, .int .i64 a, .int .i64 0]) = .returned (.tuple #[v, .int .i64 b, .int .i64 0]) := by rw [h]

/-- Join of one, as a row of its own. -/
theorem join1_own {w : World} {u : Value} {l : List Nat} (hu : Bv w u l) (hsz : l.length ≤ 140737488355328) :
    Calls Try.prog 5 #[.slice (some ⟨w.heap.size, 0, none⟩) 1 1] (w.alloc (.cells #[u] 25)) fun e w' =>
      ∃ ao cap, e = .returned (.slice ao l.length cap) ∧ w'.ownsRow w.heap.size 5 1 (.slice ao l.length cap) l.length ((ib l).map (Value.int .u8)) ∧ Below w.heap.size w w' := by
  have e : [l].flatten = l := by simp
  refine (join_walk (pv_one _ hu) (by rw [e]; exact hsz)).mono ?_
  rintro e' w' ⟨v', rfl, hown, hb⟩
  rw [e] at hown
  obtain ⟨ao, cap, rfl⟩ := own_form hown
  exact ⟨ao, cap, rfl, own_base hown (by simp), below_trans (below_alloc _ _) hb⟩

set_option maxRecDepth 100000 in
set_option maxHeartbeats 2000000 in
theorem takerun_own {w : World} {v : Value} {l s : List Nat} (h : Bv w v l) (hsz : l.length ≤ 140737488355328) (hl : l = runOf s) :
    Calls Try.prog 9 #[v] w fun e w' => ∃ ao cap, e = .returned (.tuple #[.slice ao s.length cap, .int .i64 l.length, .int .i64 0]) ∧ w'.ownsRow w.heap.size 5 1 (.slice ao s.length cap) s.length ((ib s).map (Value.int .u8)) ∧ Below w.heap.size w w' := by
  have HL : Hid (l = runOf s) := hl
  clear hl
  have HV : Hid (Bv w v l) := h
  have HSZ : Hid (l.length ≤ 140737488355328) := hsz
  have hle : (l.length : Int) ≤ 140737488355328 := by omega
  obtain ⟨a0, c0, rfl⟩ := bv_form h
  clear h hsz
  go_enter Try.func9, Try.ntmps9
  go_wp2_with fail
  refine (take_walk HV.out).mono ?_
  rintro e w1 ⟨he, rfl⟩
  obtain ⟨x, hx⟩ : ∃ x, x = s.length := ⟨_, rfl⟩
  obtain ⟨n, hn⟩ : ∃ n, n = (Wm.enc s.length).length := ⟨_, rfl⟩
  have hln : l.length = n + x := by rw [HL.out, runOf, List.length_append, hn, hx]
  have HT : Hid (Wm.take l = (x, n, 0)) := by
    show _ = _
    rw [HL.out, runOf, hx, hn]
    exact Wm.take_enc s.length s (by omega)
  rw [t3_lit HT.out] at he
  subst he
  have hn1' : (1 : Int) ≤ (n : Int) := by have := (Wm.enc_len s.length).1; omega
  have hn2' : (n : Int) ≤ (l.length : Int) := by omega
  have hc0 : (l.length : Int) ≤ (c0 : Int) := by have := HV.out.le_cap; omega
  have HR : Hid ((l.drop n).take x = s) := by
    show _ = _
    rw [HL.out, runOf, hn, List.drop_left, hx, List.take_length]
  have HXS : Hid (x = s.length) := hx
  have HLN : Hid (l.length = n + x) := hln
  have hs : ¬ (l.length : Int) - (n : Int) < (x : Int) := by omega
  have hto : (n : Int) + (x : Int) ≤ (l.length : Int) := by omega
  have hto2 : (n : Int) + (x : Int) ≤ (c0 : Int) := by omega
  clear hx hn hln
  by_cases hcn : c0 = n
  · obtain rfl : x = 0 := by omega
    subst hcn
    have HB : Hid (Bv w1 (.slice a0 0 0) s) := by have := Bv.cutA (w := w1) (ao := a0) (l := l) c0; rw [HR.out] at this; exact this
    go_wp2_with fail
    refine (join1_own HB.out (by have := HXS.out; omega)).mono ?_
    rintro e w2 ⟨a2, c2, rfl, P2, B2⟩
    have HP2 : Hid (w2.ownsRow w1.heap.size 5 1 (.slice a2 s.length c2) s.length ((ib s).map (Value.int .u8))) := P2
    have HB2 : Hid (Below w1.heap.size w1 w2) := B2
    clear P2 B2
    go_wp2_with fail
    go_ret3
    exact ⟨a2, c2, ret_run (by have := HLN.out; omega), HP2.out, HB2.out⟩
  · have HB : Hid (Bv w1 (.slice (a0.map fun a => a.add n) x (c0 - n)) s) := by have := HV.out.cutB n x (by omega) hcn; rw [HR.out] at this; exact this
    go_wp2_with fail
    refine (join1_own HB.out (by have := HXS.out; omega)).mono ?_
    rintro e w2 ⟨a2, c2, rfl, P2, B2⟩
    have HP2 : Hid (w2.ownsRow w1.heap.size 5 1 (.slice a2 s.length c2) s.length ((ib s).map (Value.int .u8))) := P2
    have HB2 : Hid (Below w1.heap.size w1 w2) := B2
    clear P2 B2
    go_wp2_with fail
    go_ret3
    exact ⟨a2, c2, ret_run (by have := HLN.out; omega), HP2.out, HB2.out⟩
end Go.Proofs.Ytiglkmdeokmnhab
