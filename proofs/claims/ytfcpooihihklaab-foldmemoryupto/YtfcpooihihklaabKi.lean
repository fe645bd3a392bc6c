/- Batch: the table of records. -/
import Derived.Test.YtfcpooihihklaabKh
import Derived.Test.YtfcpooihihklaabXr
import Derived.Test.YtfcpooihihklaabXz
namespace Go.Proofs.Ytfcpooihihklaab
open Ieee Go.RowKit

attribute [local go_sem] run_store_float

theorem Rv.below {w w' : World} {v : Value} {l : List Rcd} (h : Rv w v l) (hb : Below w.heap.size w w') : Rv w' v l := by
  obtain ⟨⟨ao, cap, e, h1, h2, h3, h4⟩, h5⟩ := h
  exact ⟨⟨ao, cap, e, h1, h2, h3, h4.below hb⟩, h5⟩

theorem kept_ok {l : List Stp} {kind : Int} {recs : List Rcd} (h : ∀ r ∈ recs, r.ok) : okT (keptT l kind recs) := by
  intro p hp
  obtain ⟨r, hr, e⟩ := List.mem_filterMap.1 hp
  split at e
  · cases e
    exact ⟨(runS_ok l (h r hr)).1, ofV_ok kind (runS_ok l (h r hr)).2⟩
  · cases e

theorem kept_snoc (l : List Stp) (kind : Int) (recs : List Rcd) {i : Nat} (hi : i < recs.length) : keptT l kind (recs.take (i + 1)) = keptT l kind (recs.take i) ++ keptT l kind [recs[i]] := by
  rw [List.take_succ_eq_append_getElem hi, kept_append]
theorem kept_one {l : List Stp} {kind : Int} {r : Rcd} (h : (runS l r).1 = 1) : keptT l kind [r] = [⟨(runS l r).2.k, ofV kind (runS l r).2.x⟩] := by
  unfold keptT; simp [h]
theorem kept_none {l : List Stp} {kind : Int} {r : Rcd} (h : (runS l r).1 ≠ 1) : keptT l kind [r] = [] := by
  unfold keptT; simp [h]
theorem trap_snoc (l : List Stp) (recs : List Rcd) {i : Nat} (hi : i < recs.length) : trapN l (recs.take (i + 1)) = trapN l (recs.take i) + (if (runS l recs[i]).1 = 3 then 1 else 0) := by
  unfold trapN
  rw [List.take_succ_eq_append_getElem hi, List.countP_append, List.countP_singleton]
  simp
theorem trap_le (l : List Stp) (recs : List Rcd) : trapN l recs ≤ recs.length := List.countP_le_length
theorem kept_len (l : List Stp) (kind : Int) (recs : List Rcd) : (keptT l kind recs).length ≤ recs.length := List.length_filterMap_le _ _
theorem batch_len (l : List Stp) (kind : Int) (recs : List Rcd) : (batchT l kind recs).length ≤ recs.length := by
  have := adds_len kind [] (keptT l kind recs)
  have := kept_len l kind recs
  unfold batchT; simp at *; omega
theorem batch_ok {l : List Stp} {kind : Int} {recs : List Rcd} (h : ∀ r ∈ recs, r.ok) : okT (batchT l kind recs) := ok_adds ok_nil (kept_ok h)

/-- Where the loop of Batch stands. -/
def Bt (w : World) (mb : Nat) (l : List Stp) (kind : Int) (recs : List Rcd) (tv iv : Value) (wr : World) : Prop :=
  ∃ i : Nat, i ≤ recs.length ∧ iv = .int .i64 i ∧ tv = .int .i64 (trapN l (recs.take i)) ∧ Mp wr mb i (batchT l kind (recs.take i)) ∧ Below w.heap.size w wr

theorem bt_keep {w wr w1 w2 : World} {mb i : Nat} {l : List Stp} {kind : Int} {recs : List Rcd} (hi : i < recs.length) {r : Rcd} (hr : r = recs[i]) (hf : (runS l r).1 = 1) (hb : w.heap.size ≤ mb)
    (hB : Below w.heap.size w wr) (h1 : Below wr.heap.size wr w1) (hg : w1.grownBy w2 (some mb)) (hM : Mp w2 mb (i + 1) (withT kind (runS l r).2.k (ofV kind (runS l r).2.x) (batchT l kind (recs.take i)))) :
    Bt w mb l kind recs (.int .i64 (trapN l (recs.take i))) (.int .i64 ((i : Int) + 1)) w2 := by
  refine ⟨i + 1, hi, by simp, ?_, ?_, ?_⟩
  · rw [trap_snoc l recs hi, ← hr, if_neg (by omega), Nat.add_zero]
  · unfold batchT at hM ⊢
    rw [kept_snoc l kind recs hi, ← hr, kept_one hf, adds_snoc]
    exact hM
  · have h2 := below_trans hB h1
    exact h2.grown hg h2.size (by simp; omega)

theorem bt_skip {w wr w1 : World} {mb i n : Nat} {l : List Stp} {kind : Int} {recs : List Rcd} (hi : i < recs.length) {r : Rcd} (hr : r = recs[i]) (hf : (runS l r).1 ≠ 1) (hn : n = if (runS l r).1 = 3 then 1 else 0)
    (hB : Below w.heap.size w wr) (h1 : Below wr.heap.size wr w1) (hM : Mp wr mb i (batchT l kind (recs.take i))) :
    Bt w mb l kind recs (.int .i64 ((trapN l (recs.take i) + n : Nat) : Int)) (.int .i64 ((i : Int) + 1)) w1 := by
  refine ⟨i + 1, hi, by simp, ?_, ?_, below_trans hB h1⟩
  · rw [trap_snoc l recs hi, ← hr, hn]
  · unfold batchT at hM ⊢
    rw [kept_snoc l kind recs hi, ← hr, kept_none hf, List.append_nil]
    exact (World.ownsMap.kept hM (grown_of_below h1) (by simp)).mono (Nat.le_succ _)

theorem take_ok {recs : List Rcd} (h : ∀ r ∈ recs, r.ok) (i : Nat) : ∀ r ∈ recs.take i, r.ok := fun r hr => h r (List.mem_of_mem_take hr)

theorem batch_bad {lv rv : Value} {l : List Stp} {kind : Int} {w : World} (ho : Ov w lv l) (hc : checkB l = false) :
    Calls Try.prog 17 #[lv, .int .i64 kind, rv] w fun e w' => e = .returned (.tuple #[.slice none 0 0, .int .i64 0, .int .i64 30]) ∧ Below w.heap.size w w' := by
  obtain ⟨⟨ao, cap, rfl, h1, h2, h3, h4⟩, h5⟩ := ho
  have HO : Hid (Ol w ao l) := h4
  have HL : Hid (l.length ≤ maxLen) := Nat.le_trans h1 h2
  have HC : Hid (chkI l = 30) := by show _ = _; unfold chkI; rw [hc]; rfl
  clear h1 h2 h3 h4 h5 hc
  go_enter Try.func17, Try.ntmps17
  go_wp2_with fail
  refine (check_walk HL.out HO.out).mono ?_
  rw [HC.out]
  rintro e w1 ⟨rfl, hB⟩
  go_wp2_with fail
  exact bodyPost_ret (v := .tuple #[.slice none 0 0, .int .i64 0, .int .i64 30]) (by simp [results, Try.results17, go_sem]) rfl ⟨rfl, hB⟩

theorem batch_unknown {lv rv : Value} {l : List Stp} {kind : Int} {w : World} (ho : Ov w lv l) (hc : checkB l = true) (hk : knownB kind = false) :
    Calls Try.prog 17 #[lv, .int .i64 kind, rv] w fun e w' => e = .returned (.tuple #[.slice none 0 0, .int .i64 0, .int .i64 1]) ∧ Below w.heap.size w w' := by
  obtain ⟨⟨ao, cap, rfl, h1, h2, h3, h4⟩, h5⟩ := ho
  have HO : Hid (Ol w ao l) := h4
  have HL : Hid (l.length ≤ maxLen) := Nat.le_trans h1 h2
  have HC : Hid (chkI l = 0) := by show _ = _; unfold chkI; rw [hc]; rfl
  clear h1 h2 h3 h4 h5 hc
  go_enter Try.func17, Try.ntmps17
  go_wp2_with fail
  refine (check_walk HL.out HO.out).mono ?_
  rw [HC.out]
  rintro e w1 ⟨rfl, hB⟩
  go_wp2_with (go_at_call 20; refine (known_walk _ _).mono ?_; rw [hk]; rintro e w9 ⟨rfl, h9⟩; have h9 := h9.symm; subst h9)
  exact bodyPost_ret (v := .tuple #[.slice none 0 0, .int .i64 0, .int .i64 1]) (by simp [results, Try.results17, go_sem]) rfl ⟨rfl, hB⟩

set_option maxRecDepth 100000 in
set_option maxHeartbeats 4000000 in
theorem batch_good {lv rv : Value} {l : List Stp} {kind : Int} {recs : List Rcd} {w : World} (ho : Ov w lv l) (hr : Rv w rv recs) (hc : checkB l = true) (hk : knownB kind = true) (hsz : recs.length * 24 ≤ 281474976710656) :
    Calls Try.prog 17 #[lv, .int .i64 kind, rv] w fun e w' => ∃ g, e = .returned (.tuple #[.slice (some ⟨g, 0, none⟩) (batchT l kind recs).length (batchT l kind recs).length, .int .i64 (trapN l recs), .int .i64 0]) ∧
      Mq w' g (batchT l kind recs) ∧ w.heap.size ≤ g ∧ g < w'.heap.size ∧ Below w.heap.size w w' := by
  have HV : Hid (Ov w lv l) := ho
  obtain ⟨⟨ao, cap, rfl, h1, h2, h3, h4⟩, h5⟩ := ho
  obtain ⟨⟨ro, rcap, rfl, r1, r2, r3, r4⟩, r5⟩ := hr
  have HO : Hid (Ol w ao l) := h4
  have HRL : Hid (Rl w ro recs) := r4
  have HRO : Hid (∀ r ∈ recs, r.ok) := r5
  have HL : Hid (l.length ≤ maxLen) := Nat.le_trans h1 h2
  have HSZ : Hid (recs.length * 24 ≤ 281474976710656) := hsz
  have hli : (recs.length : Int) ≤ 11728124029610 := by omega
  have HC : Hid (chkI l = 0) := by show _ = _; unfold chkI; rw [hc]; rfl
  clear h1 h2 h3 h4 h5 r1 r2 r3 r4 r5 hc hsz
  have hmm := @run_makeMap Try.prog
  go_enter Try.func17, Try.ntmps17
  go_wp2_with fail
  refine (check_walk HL.out HO.out).mono ?_
  rw [HC.out]
  rintro e w1 ⟨rfl, hB⟩
  have HB1 : Hid (Below w.heap.size w w1) := hB
  clear hB
  go_wp2_with (go_at_call 20; refine (known_walk _ _).mono ?_; rw [hk]; rintro e w9 ⟨rfl, h9⟩; have h9 := h9.symm; subst h9)
  have R0 : Bt w w1.heap.size l kind recs (.int .i64 0) (.int .i64 0) (w1.alloc (.map #[] 0)) :=
    ⟨0, Nat.zero_le _, rfl, by simp [trapN], World.ownsMap_made w1 _ _ _, below_trans HB1.out (below_alloc _ _)⟩
  have HMB : Hid (w.heap.size ≤ w1.heap.size) := HB1.out.size
  clear hmm
  go_loopw [11, 27] (fun tv iv wr => Bt w w1.heap.size l kind recs tv iv wr) (fun _ iv _ => recs.length - (intOf iv).toNat)
  case atStart => exact R0
  case round =>
    clear R0
    obtain ⟨i, hi, rfl, rfl, hM, hB⟩ := hrel
    have HM : Hid (Mp wr w1.heap.size i (batchT l kind (recs.take i))) := hM
    have HB : Hid (Below w.heap.size w wr) := hB
    clear hM hB
    by_cases hlt : i < recs.length
    · obtain ⟨b, off, rfl, c0, c1⟩ := HRL.out.below HB.out i hlt
      obtain ⟨r, hre⟩ : ∃ r, r = recs[i] := ⟨_, rfl⟩
      rw [← hre] at c0 c1
      have HE : Hid (r = recs[i]) := hre
      have HROK : Hid r.ok := by rw [hre]; exact HRO.out _ (List.getElem_mem hlt)
      clear hre
      obtain ⟨R, hR⟩ : ∃ R, R = runS l r := ⟨_, rfl⟩
      have HR : Hid (R = runS l r) := hR
      have HKO : Hid R.2.ok := by show R.2.ok; rw [hR]; exact runS_ok l HROK.out
      clear hR
      go_wp2_with fail
      refine (run_walk r HROK.out (HV.out.below (below_trans HB.out (below_alloc _ _)))).mono ?_
      rw [← HR.out]
      rintro e w3 ⟨rfl, hB3⟩
      have HB3 : Hid (Below wr.heap.size wr w3) := below_trans (below_alloc _ _) hB3
      clear hB3
      by_cases hf1 : R.1 = 1
      · have HF : Hid (R.1 = 1) := hf1
        rw [hf1]
        clear hf1 c0 c1
        have HFF : Hid ((runS l r).1 = 1) := by show _ = _; rw [← HR.out]; exact HF.out
        go_wp2_with fail
        generalize hg5 : w3.alloc (Obj.cells #[.int .u64 R.2.k, .float .f64 R.2.x] 36) = w5
        have HRB : Hid (RB w5 w3.heap.size R.2.k R.2.x) := by show RB _ _ _ _; rw [← hg5]; refine ⟨?_, ?_, ?_, ?_⟩ <;> simp [go_sem]
        have HB5 : Hid (Below wr.heap.size wr w5) := by show Below _ _ _; rw [← hg5]; exact below_trans HB3.out (below_alloc _ _)
        clear hg5
        obtain ⟨q0, q1, _, _⟩ := HRB.out
        have HNM : Hid (i < maxLen) := by show _ < _; simp only [maxLen]; omega
        go_region_with (first
          | (go_at_call 10; refine (aof_walk kind HKO.out.2 _).mono ?_; rintro e w9 ⟨rfl, hB9⟩; have hS9 : Below w5.heap.size w5 w9 := below_trans (by first | assumption | exact (Below.refl _ _).drew) hB9; obtain ⟨d0, d1, _, _⟩ := HRB.out.below hS9 (cell_lt HRB.out.c0))
          | (go_at_call 30; refine (put_walk kind _ (World.ownsMap.kept HM.out (grown_of_below (below_trans HB5.out (by assumption))) (by simp)) (rise_batch _ _ _) (batch_ok (take_ok HRO.out i)) HNM.out HKO.out.1 (ofV_ok kind HKO.out.2)).mono ?_; rintro e w10 ⟨rfl, hM10, hg10⟩; have R' := bt_keep hlt HE.out HFF.out HMB.out HB.out (below_trans HB5.out hS9) hg10 (by rw [← HR.out]; exact hM10)))
        all_goals go_wp2_with fail
        all_goals go_roundw
        all_goals first
          | exact R'
          | (simp [intOf]; omega)
      · have HF : Hid ((runS l r).1 ≠ 1) := by show (runS l r).1 ≠ 1; rw [← HR.out]; exact hf1
        have hf1b : (R.1 == 1) = false := by simpa using hf1
        by_cases hf3 : R.1 = 3
        · have R' := bt_skip (n := 1) hlt HE.out HF.out (by rw [← HR.out, if_pos hf3]) HB.out (below_trans HB3.out (below_alloc w3 (Obj.cells #[.int .u64 R.2.k, .float .f64 R.2.x] 36))) HM.out
          rw [hf3]
          clear hf1 hf1b hf3
          have htr : ((trapN l (recs.take i) : Nat) : Int) ≤ 11728124029610 := by have := trap_le l (recs.take i); simp at this; omega
          go_wp2_with fail
          go_roundw
          case rel => simpa using R'
          case measure => simp [intOf]; omega
        · have R' := bt_skip (n := 0) hlt HE.out HF.out (by rw [← HR.out, if_neg hf3]) HB.out (below_trans HB3.out (below_alloc w3 (Obj.cells #[.int .u64 R.2.k, .float .f64 R.2.x] 36))) HM.out
          have hf3b : (R.1 == 3) = false := by simpa using hf3
          clear hf1 hf3
          go_wp2_with fail
          go_roundw
          case rel => simpa using R'
          case measure => simp [intOf]; omega
    · have e : i = recs.length := by omega
      have HT : Hid (recs.take i = recs) := by show _ = _; rw [e]; simp
      have HME : Hid (Mp wr w1.heap.size i (batchT l kind recs)) := by have := HM.out; rw [HT.out] at this; exact this
      have HTR : Hid (trapN l (recs.take i) = trapN l recs) := by show _ = _; rw [HT.out]
      clear e
      go_wp2_with fail
      refine (sorted_walk _ HME.out (rise_batch _ _ _) (batch_ok HRO.out) (by have := batch_len l kind recs; have := HSZ.out; omega)).mono ?_
      rintro e w5 ⟨rfl, hM5, hB5, hl5⟩
      go_wp2_with fail
      refine bodyPost_ret (v := .tuple #[.slice (some ⟨wr.heap.size, 0, none⟩) (batchT l kind recs).length (batchT l kind recs).length, .int .i64 (trapN l (recs.take i)), .int .i64 0]) (by simp [results, Try.results17, go_sem]) rfl ?_
      exact ⟨_, by rw [HTR.out], hM5, HB.out.size, hl5, below_trans HB.out hB5⟩
end Go.Proofs.Ytfcpooihihklaab
