/- The reference's disk: the calls that answer no block, Image (printed out of De by mk_ref8.py, Off, On and Cut by hand). -/
import Derived.Test.YtnnammlipfappaaDg

namespace Go.Proofs.Ytnnammlipfappaa

open Go.RowKit



section

variable {T : TypeId} {D : Nat → Prop} {w w' : World} {v : Value} {sb gp cap : Nat} {S : Dk}

theorem roff_nil : Calls Try.prog 16 #[.pointer none] w fun e w' => e = .returned (.tuple #[]) ∧ w' = w := by
  go_enter Try.func16, Try.ntmps16
  go_wp2_with fail
  refine bodyPost_end (results_none rfl _ _ _) rfl ?_
  exact ⟨rfl, rfl⟩
theorem roff_walk (h : Dsk T D w v S) : Calls Try.prog 16 #[v] w fun e w' => e = .returned (.tuple #[]) ∧ Dsk T D w' v (offS S) ∧ Ch D w w' := by
  obtain ⟨sb, gp, cap, rfl, h, hok⟩ := h
  have HM : Hid (DM T D w sb gp cap S) := h
  have HK : Hid S.ok := hok
  have c1 := h.c1
  have c2 := h.c2
  have f1 := h.soft 1
  have f2 := h.soft 2
  clear h hok
  go_enter Try.func16, Try.ntmps16
  go_wp2_with fail
  refine bodyPost_end (results_none rfl _ _ _) rfl ?_
  exact ⟨rfl, ⟨sb, gp, cap, rfl, (HM.out.put 1 (.bool true) (S' := { S with down := true }) rfl rfl).put 2 (.int .i64 (-1)) rfl rfl, ok_off HK.out⟩, (ch_put _ _ HM.out.d1).self (ch_put _ _ HM.out.d1)⟩


theorem ron_nil : Calls Try.prog 18 #[.pointer none] w fun e w' => e = .returned (.tuple #[]) ∧ w' = w := by
  go_enter Try.func18, Try.ntmps18
  go_wp2_with fail
  refine bodyPost_end (results_none rfl _ _ _) rfl ?_
  exact ⟨rfl, rfl⟩
theorem ron_walk (h : Dsk T D w v S) : Calls Try.prog 18 #[v] w fun e w' => e = .returned (.tuple #[]) ∧ Dsk T D w' v (onS S) ∧ Ch D w w' := by
  obtain ⟨sb, gp, cap, rfl, h, hok⟩ := h
  have HM : Hid (DM T D w sb gp cap S) := h
  have HK : Hid S.ok := hok
  have c1 := h.c1
  have c2 := h.c2
  have f1 := h.soft 1
  have f2 := h.soft 2
  clear h hok
  go_enter Try.func18, Try.ntmps18
  go_wp2_with fail
  refine bodyPost_end (results_none rfl _ _ _) rfl ?_
  exact ⟨rfl, ⟨sb, gp, cap, rfl, (HM.out.put 1 (.bool false) (S' := { S with down := false }) rfl rfl).put 2 (.int .i64 (-1)) rfl rfl, ok_on HK.out⟩, (ch_put _ _ HM.out.d1).self (ch_put _ _ HM.out.d1)⟩


theorem rcut_nil (n : Int) : Calls Try.prog 14 #[.pointer none, .int .i64 n] w fun e w' => e = .returned (.tuple #[]) ∧ w' = w := by
  go_enter Try.func14, Try.ntmps14
  go_wp2_with fail
  refine bodyPost_ret (results_none rfl _ _ _) rfl ?_
  exact ⟨rfl, rfl⟩
theorem rcut_walk (h : Dsk T D w v S) {n : Int} (hn : n < 9223372036854775808) : Calls Try.prog 14 #[v, .int .i64 n] w fun e w' => e = .returned (.tuple #[]) ∧ Dsk T D w' v (cutS S n) ∧ Ch D w w' := by
  obtain ⟨sb, gp, cap, rfl, h, hok⟩ := h
  have HM : Hid (DM T D w sb gp cap S) := h
  have HK : Hid S.ok := hok
  have c2 := h.c2
  have f2 := h.soft 2
  have HN : Hid (n < 9223372036854775808) := hn
  clear h hok hn
  by_cases h0 : n < 0
  · have HS : Hid (cutS S n = { S with left := -1 }) := by show _ = _; unfold cutS; rw [if_pos h0]
    go_enter Try.func14, Try.ntmps14
    go_wp2_with fail
    refine bodyPost_end (results_none rfl _ _ _) rfl ?_
    refine ⟨rfl, ⟨sb, gp, cap, rfl, ?_, ok_cut HK.out HN.out⟩, (ch_put _ _ HM.out.d1).self (ch_put _ _ HM.out.d1)⟩
    rw [HS.out]
    exact (HM.out.put 2 (.int .i64 n) (S' := { S with left := n }) rfl rfl).put 2 _ rfl rfl
  · have HS : Hid (cutS S n = { S with left := n }) := by show _ = _; unfold cutS; rw [if_neg h0]
    have h1 : 0 ≤ n := by omega
    clear h0
    go_enter Try.func14, Try.ntmps14
    go_wp2_with fail
    refine bodyPost_end (results_none rfl _ _ _) rfl ?_
    refine ⟨rfl, ⟨sb, gp, cap, rfl, ?_, ok_cut HK.out HN.out⟩, ch_put _ _ HM.out.d1⟩
    rw [HS.out]
    exact HM.out.put 2 _ rfl rfl


theorem rdown_nil : Calls Try.prog 46 #[.pointer none] w fun e w' => e = .returned (.bool false) ∧ w' = w := by
  go_enter Try.func46, Try.ntmps46
  go_wp2_with fail
  go_ret
  exact ⟨rfl, rfl⟩
theorem rdown_walk (h : Dsk T D w v S) : Calls Try.prog 46 #[v] w fun e w' => e = .returned (.bool S.down) ∧ w' = w := by
  obtain ⟨sb, gp, cap, rfl, h, hok⟩ := h
  have c1 := h.c1
  clear h hok
  go_enter Try.func46, Try.ntmps46
  go_wp2_with fail
  go_ret
  exact ⟨rfl, rfl⟩
theorem rblocks_nil : Calls Try.prog 40 #[.pointer none] w fun e w' => e = .returned (.int .i64 0) ∧ w' = w := by
  go_enter Try.func40, Try.ntmps40
  go_wp2_with fail
  go_ret
  exact ⟨rfl, rfl⟩
theorem rblocks_walk (h : Dsk T D w v S) : Calls Try.prog 40 #[v] w fun e w' => e = .returned (.int .i64 S.bl.length) ∧ w' = w := by
  obtain ⟨sb, gp, cap, rfl, h, hok⟩ := h
  have c0 := h.c0
  clear h hok
  go_enter Try.func40, Try.ntmps40
  go_wp2_with fail
  go_ret
  exact ⟨rfl, rfl⟩
theorem rwrites_nil : Calls Try.prog 26 #[.pointer none] w fun e w' => e = .returned (.int .i64 0) ∧ w' = w := by
  go_enter Try.func26, Try.ntmps26
  go_wp2_with fail
  go_ret
  exact ⟨rfl, rfl⟩
theorem rwrites_walk (h : Dsk T D w v S) : Calls Try.prog 26 #[v] w fun e w' => e = .returned (.int .i64 S.wr) ∧ w' = w := by
  obtain ⟨sb, gp, cap, rfl, h, hok⟩ := h
  have c4 := h.c4
  clear h hok
  go_enter Try.func26, Try.ntmps26
  go_wp2_with fail
  go_ret
  exact ⟨rfl, rfl⟩


theorem rimage_nil : Calls Try.prog 29 #[.pointer none] w fun e w' => e = .returned (.slice none 0 0) ∧ w' = w := by
  go_enter Try.func29, Try.ntmps29
  go_wp2_with fail
  go_ret
  exact ⟨rfl, rfl⟩
theorem rimage_walk (h : Dsk T D w v S) : Calls Try.prog 29 #[v] w fun e w' => ∃ g cap, e = .returned (.slice (some ⟨g, 0, none⟩) S.bl.length cap) ∧ Gr (fun x => w.heap.size ≤ x) w' g cap S.bl ∧ w.heap.size ≤ g ∧ Below w.heap.size w w' := by
  obtain ⟨sb, gp, cap, rfl, h, hok⟩ := h
  have c0 := h.c0
  have HP : Hid (PvD w (.slice (some ⟨gp, 0, none⟩) S.bl.length cap) S.bl) := h.row.pv hok.byt
  have HK : Hid S.ok := hok
  clear h hok
  go_enter Try.func29, Try.ntmps29
  go_wp2_with fail
  refine (rcopies_walk HP.out HK.out.n1 HK.out.n64 HK.out.len).mono ?_
  rintro e w1 ⟨g, cap1, rfl, hG, hge, hB⟩
  have HG : Hid (Gr (fun x => w.heap.size ≤ x) w1 g cap1 S.bl) := hG
  have HGE : Hid (w.heap.size ≤ g) := hge
  clear hG hge
  go_wp2_with fail
  go_ret
  exact ⟨g, cap1, rfl, HG.out, HGE.out, hB⟩
end

end Go.Proofs.Ytnnammlipfappaa


