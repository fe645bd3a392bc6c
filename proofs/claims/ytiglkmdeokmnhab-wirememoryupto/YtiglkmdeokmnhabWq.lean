/- TakeRun and its reference. -/
import Derived.Test.YtiglkmdeokmnhabWr
import Derived.Test.YtiglkmdeokmnhabL1
namespace Go.Proofs.Ytiglkmdeokmnhab
open Go.RowKit

theorem takeRun_err {l : List Nat} {e : Nat} (h : Wm.take l = (0, 0, e)) (h34 : e = 3 ∨ e = 4) : Wm.takeRun l = ([], 0, e) := by
  unfold Wm.takeRun; rw [h]; rcases h34 with rfl | rfl <;> rfl
theorem takeRun_short {l : List Nat} {x n : Nat} (h : Wm.take l = (x, n, 0)) (hs : l.length - n < x) : Wm.takeRun l = ([], 0, 3) := by
  unfold Wm.takeRun; rw [h]; simp only; rw [if_pos hs]
theorem takeRun_ok {l : List Nat} {x n : Nat} (h : Wm.take l = (x, n, 0)) (hs : ¬ l.length - n < x) : Wm.takeRun l = ((l.drop n).take x, n + x, 0) := by
  unfold Wm.takeRun; rw [h]; simp only; rw [if_neg hs]

/-- What TakeRun leaves: the bytes (nil or a row of its own), how many, the error. -/
def RunLeft (l : List Nat) (w : World) (e : Ending) (w' : World) : Prop :=
  ∃ ao cap, e = .returned (.tuple #[.slice ao (Wm.takeRun l).1.length cap, .int .i64 ((Wm.takeRun l).2.1 : Nat), .int .i64 ((Wm.takeRun l).2.2 : Nat)]) ∧ Bv w' (.slice ao (Wm.takeRun l).1.length cap) (Wm.takeRun l).1 ∧ Below w.heap.size w w'

theorem runleft_none {l : List Nat} {w : World} {e : Nat} {c : Int} (h : Wm.takeRun l = ([], 0, e)) (hc : c = e) : RunLeft l w (.returned (.tuple #[.slice none 0 0, .int .i64 0, .int .i64 c])) w := by
  refine ⟨none, 0, by rw [h, hc]; rfl, ?_, Below.refl _ _⟩
  rw [h]; exact Bv.nil w

theorem runleft_some {l r : List Nat} {w w' : World} {n m : Nat} {c : Int} {ao : Option Addr} {cap : Nat} (h : Wm.takeRun l = (r, m, 0)) (hb : Bv w' (.slice ao n cap) r) (hn : n = r.length) (hB : Below w.heap.size w w') (hc : c = m) :
    RunLeft l w (.returned (.tuple #[.slice ao n cap, .int .i64 c, .int .i64 0])) w' := by
  subst hn hc
  refine ⟨ao, cap, by rw [h]; rfl, ?_, hB⟩
  rw [h]; exact hb

theorem Bv.cutB {w : World} {ao : Option Addr} {cap : Nat} {l : List Nat} (h : Bv w (.slice ao l.length cap) l) (n x : Nat) (hx : n + x ≤ l.length) (hne : ¬ cap = n) :
    Bv w (.slice (ao.map fun a => a.add n) x (cap - n)) ((l.drop n).take x) := by
  have := h.cut n (n + x) (by omega) hx False (by simp [hne])
  simpa using this

theorem Bv.cutA {w : World} {ao : Option Addr} {l : List Nat} (n : Nat) : Bv w (.slice ao 0 0) ((l.drop n).take 0) := by
  refine ⟨⟨ao, 0, by simp [ib], by simp [ib], by simp [maxLen], fun _ => rfl, fun i hi => by simp [ib] at hi⟩, by simp⟩

/-- Join of one. -/
theorem join1_got {w : World} {u : Value} {l : List Nat} (hu : Bv w u l) (hsz : l.length ≤ 140737488355328) :
    Calls Try.prog 5 #[.slice (some ⟨w.heap.size, 0, none⟩) 1 1] (w.alloc (.cells #[u] 25)) (Gives l w) := by
  have e : [l].flatten = l := by simp
  refine (join_walk (pv_one _ hu) (by rw [e]; exact hsz)).mono fun e' w' h => ?_
  rw [e] at h
  obtain ⟨ao, cap, h1, h2, h3⟩ := gives_of (w := w.alloc (.cells #[u] 25)) hu.2 h
  exact ⟨ao, cap, h1, h2, below_trans (below_alloc _ _) h3⟩

set_option maxRecDepth 100000 in
set_option maxHeartbeats 2000000 in
theorem takerun_walk {w : World} {v : Value} {l : List Nat} (h : Bv w v l) (hsz : l.length ≤ 140737488355328) :
    Calls Try.prog 9 #[v] w (RunLeft l w) := by
  have HV : Hid (Bv w v l) := h
  have HSZ : Hid (l.length ≤ 140737488355328) := hsz
  have hle : (l.length : Int) ≤ 140737488355328 := by omega
  obtain ⟨a0, c0, rfl⟩ := bv_form h
  clear h hsz
  go_enter Try.func9, Try.ntmps9
  go_wp2_with fail
  refine (take_walk HV.out).mono ?_
  rintro e w1 ⟨he, rfl⟩
  rcases Wm.take_form l HV.out.2 with ⟨er, her, h34⟩ | ⟨x, n, htx, hx, hn1, hn2, henc⟩
  · rw [t3_lit her] at he
    subst he
    have HER : Hid (Wm.take l = (0, 0, er)) := her
    clear her
    rcases h34 with rfl | rfl
    · go_wp2_with fail
      go_ret3
      exact runleft_none (takeRun_err HER.out (.inl rfl)) rfl
    · go_wp2_with fail
      go_ret3
      exact runleft_none (takeRun_err HER.out (.inr rfl)) rfl
  · rw [t3_lit htx] at he
    subst he
    have HT : Hid (Wm.take l = (x, n, 0)) := htx
    have hn1' : (1 : Int) ≤ (n : Int) := by omega
    have hn2' : (n : Int) ≤ (l.length : Int) := by omega
    have hc0 : (l.length : Int) ≤ (c0 : Int) := by have := HV.out.le_cap; omega
    clear htx henc hx hn1 hn2
    by_cases hs : (l.length : Int) - (n : Int) < (x : Int)
    · go_wp2_with fail
      go_ret3
      exact runleft_none (takeRun_short HT.out (by omega)) rfl
    · have hto : (n : Int) + (x : Int) ≤ (l.length : Int) := by omega
      have hto2 : (n : Int) + (x : Int) ≤ (c0 : Int) := by omega
      obtain ⟨r, hr⟩ : ∃ r, r = (l.drop n).take x := ⟨_, rfl⟩
      have HR : Hid (r = (l.drop n).take x) := hr
      have HRL : Hid (x = r.length) := by show x = _; rw [hr, List.length_take, List.length_drop]; omega
      clear hr
      by_cases hcn : c0 = n
      · obtain rfl : x = 0 := by omega
        subst hcn
        have HB : Hid (Bv w1 (.slice a0 0 0) r) := by show Bv _ _ _; rw [HR.out]; exact Bv.cutA c0
        go_wp2_with fail
        refine (join1_got HB.out (by have := HRL.out; omega)).mono ?_
        rintro e w2 ⟨a2, c2, rfl, P2, B2⟩
        have HP2 : Hid (Bv w2 (.slice a2 r.length c2) r) := P2
        have HB2 : Hid (Below w1.heap.size w1 w2) := B2
        clear P2 B2
        go_wp2_with fail
        go_ret3
        exact runleft_some (by rw [takeRun_ok HT.out (by omega), ← HR.out]) HP2.out rfl HB2.out (by omega)
      · have HB : Hid (Bv w1 (.slice (a0.map fun a => a.add n) x (c0 - n)) r) := by show Bv _ _ _; rw [HR.out]; exact HV.out.cutB n x (by omega) hcn
        go_wp2_with fail
        refine (join1_got HB.out (by have := HRL.out; omega)).mono ?_
        rintro e w2 ⟨a2, c2, rfl, P2, B2⟩
        have HP2 : Hid (Bv w2 (.slice a2 r.length c2) r) := P2
        have HB2 : Hid (Below w1.heap.size w1 w2) := B2
        clear P2 B2
        go_wp2_with fail
        go_ret3
        exact runleft_some (by rw [takeRun_ok HT.out (by omega), ← HR.out]) HP2.out rfl HB2.out (by omega)
end Go.Proofs.Ytiglkmdeokmnhab
