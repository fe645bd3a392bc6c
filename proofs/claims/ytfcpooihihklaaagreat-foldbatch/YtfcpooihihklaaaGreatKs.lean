/- The reference's Batch. -/
import Derived.Test.YtfcpooihihklaaaGreatKx
import Derived.Test.YtfcpooihihklaaaGreatXv
namespace Go.Proofs.YtfcpooihihklaaaGreat
open Ieee Go.RowKit
attribute [local go_sem] run_store_float

/-- Where the loop of the reference's Batch stands. -/
def Rb (w : World) (B : Nat) (l : List Stp) (kind : Int) (recs : List Rcd) (tv nv iv : Value) (wr : World) : Prop :=
  ∃ i g cap : Nat, i ≤ recs.length ∧ iv = .int .i64 i ∧ nv = .int .i64 (trapN l (recs.take i)) ∧ tv = .slice (some ⟨g, 0, none⟩) (batchT l kind (recs.take i)).length cap ∧ Ow wr g cap (batchT l kind (recs.take i)) ∧ B ≤ g ∧ Below w.heap.size w wr

theorem rb_keep {w wr w9 w10 : World} {B i g' cap' : Nat} {l : List Stp} {kind : Int} {recs : List Rcd} (hi : i < recs.length) {r : Rcd} (hr : r = recs[i]) (hf : (runS l r).1 = 1) (hb : w.heap.size ≤ B)
    (hB : Below w.heap.size w wr) (h9 : Below wr.heap.size wr w9) (h10 : Below B w9 w10) (hg : B ≤ g') (hO : Ow w10 g' cap' (withT kind (runS l r).2.k (ofV kind (runS l r).2.x) (batchT l kind (recs.take i)))) :
    Rb w B l kind recs (.slice (some ⟨g', 0, none⟩) (withT kind (runS l r).2.k (ofV kind (runS l r).2.x) (batchT l kind (recs.take i))).length cap') (.int .i64 (trapN l (recs.take i))) (.int .i64 ((i : Int) + 1)) w10 := by
  have e : batchT l kind (recs.take (i + 1)) = withT kind (runS l r).2.k (ofV kind (runS l r).2.x) (batchT l kind (recs.take i)) := by
    unfold batchT
    rw [kept_snoc l kind recs hi, ← hr, kept_one hf, adds_snoc]
  have h2 := below_trans hB h9
  refine ⟨i + 1, g', cap', hi, by simp, ?_, by rw [e], by rw [e]; exact hO, hg, h2.trans (h10.mono hb)⟩
  rw [trap_snoc l recs hi, ← hr, if_neg (by omega), Nat.add_zero]

theorem rb_skip {w wr w1 : World} {B i n g cap : Nat} {l : List Stp} {kind : Int} {recs : List Rcd} (hi : i < recs.length) {r : Rcd} (hr : r = recs[i]) (hf : (runS l r).1 ≠ 1) (hn : n = if (runS l r).1 = 3 then 1 else 0)
    (hB : Below w.heap.size w wr) (h1 : Below wr.heap.size wr w1) (hO : Ow wr g cap (batchT l kind (recs.take i))) (hg : B ≤ g) :
    Rb w B l kind recs (.slice (some ⟨g, 0, none⟩) (batchT l kind (recs.take i)).length cap) (.int .i64 ((trapN l (recs.take i) + n : Nat) : Int)) (.int .i64 ((i : Int) + 1)) w1 := by
  have e : batchT l kind (recs.take (i + 1)) = batchT l kind (recs.take i) := by
    unfold batchT
    rw [kept_snoc l kind recs hi, ← hr, kept_none hf, List.append_nil]
  refine ⟨i + 1, g, cap, hi, by simp, ?_, by rw [e], by rw [e]; exact hO.below h1, hg, below_trans hB h1⟩
  rw [trap_snoc l recs hi, ← hr, hn]

theorem rbatch_bad {lv rv : Value} {l : List Stp} {kind : Int} {w : World} (ho : Ov w lv l) (hc : checkB l = false) :
    Calls Tryz.prog 6 #[lv, .int .i64 kind, rv] w fun e w' => e = .returned (.tuple #[.slice none 0 0, .int .i64 0, .int .i64 30]) ∧ Below w.heap.size w w' := by
  obtain ⟨⟨ao, cap, rfl, h1, h2, h3, h4⟩, h5⟩ := ho
  have HO : Hid (Ol w ao l) := h4
  have HL : Hid (l.length ≤ maxLen) := Nat.le_trans h1 h2
  have HC : Hid (chkI l = 30) := by show _ = _; unfold chkI; rw [hc]; rfl
  clear h1 h2 h3 h4 h5 hc
  go_enter Tryz.func6, Tryz.ntmps6
  go_wp2_with fail
  refine (rcheck_walk HL.out HO.out).mono ?_
  rw [HC.out]
  rintro e w1 ⟨rfl, hB⟩
  go_wp2_with fail
  exact bodyPost_ret (v := .tuple #[.slice none 0 0, .int .i64 0, .int .i64 30]) (by simp [results, Tryz.results6, go_sem]) rfl ⟨rfl, hB⟩

theorem rbatch_unknown {lv rv : Value} {l : List Stp} {kind : Int} {w : World} (ho : Ov w lv l) (hc : checkB l = true) (hk : knownB kind = false) :
    Calls Tryz.prog 6 #[lv, .int .i64 kind, rv] w fun e w' => e = .returned (.tuple #[.slice none 0 0, .int .i64 0, .int .i64 1]) ∧ Below w.heap.size w w' := by
  obtain ⟨⟨ao, cap, rfl, h1, h2, h3, h4⟩, h5⟩ := ho
  have HO : Hid (Ol w ao l) := h4
  have HL : Hid (l.length ≤ maxLen) := Nat.le_trans h1 h2
  have HC : Hid (chkI l = 0) := by show _ = _; unfold chkI; rw [hc]; rfl
  clear h1 h2 h3 h4 h5 hc
  go_enter Tryz.func6, Tryz.ntmps6
  go_wp2_with fail
  refine (rcheck_walk HL.out HO.out).mono ?_
  rw [HC.out]
  rintro e w1 ⟨rfl, hB⟩
  go_wp2_with (go_at_call 21; refine (rknown_walk _ _).mono ?_; rw [hk]; rintro e w9 ⟨rfl, h9⟩; have h9 := h9.symm; subst h9)
  exact bodyPost_ret (v := .tuple #[.slice none 0 0, .int .i64 0, .int .i64 1]) (by simp [results, Tryz.results6, go_sem]) rfl ⟨rfl, hB⟩

set_option maxRecDepth 100000 in
set_option maxHeartbeats 8000000 in
theorem rbatch_good {lv rv : Value} {l : List Stp} {kind : Int} {recs : List Rcd} {w : World} (ho : Ov w lv l) (hr : Rv w rv recs) (hc : checkB l = true) (hk : knownB kind = true) (hsz : recs.length ≤ 4096) :
    Calls Tryz.prog 6 #[lv, .int .i64 kind, rv] w fun e w' => ∃ g cap, e = .returned (.tuple #[.slice (some ⟨g, 0, none⟩) (batchT l kind recs).length cap, .int .i64 (trapN l recs), .int .i64 0]) ∧ Ow w' g cap (batchT l kind recs) ∧ Below w.heap.size w w' := by
  have HV : Hid (Ov w lv l) := ho
  obtain ⟨⟨ao, cap, rfl, h1, h2, h3, h4⟩, h5⟩ := ho
  obtain ⟨⟨ro, rcap, rfl, r1, r2, r3, r4⟩, r5⟩ := hr
  have HO : Hid (Ol w ao l) := h4
  have HRL : Hid (Rl w ro recs) := r4
  have HRO : Hid (∀ r ∈ recs, r.ok) := r5
  have HL : Hid (l.length ≤ maxLen) := Nat.le_trans h1 h2
  have HSZ : Hid (recs.length ≤ 4096) := hsz
  have hli : (recs.length : Int) ≤ 4096 := by omega
  have HC : Hid (chkI l = 0) := by show _ = _; unfold chkI; rw [hc]; rfl
  clear h1 h2 h3 h4 h5 r1 r2 r3 r4 r5 hc hsz
  go_enter Tryz.func6, Tryz.ntmps6
  go_wp2_with fail
  refine (rcheck_walk HL.out HO.out).mono ?_
  rw [HC.out]
  rintro e w1 ⟨rfl, hB⟩
  have HB1 : Hid (Below w.heap.size w w1) := hB
  clear hB
  go_wp2_with (go_at_call 21; refine (rknown_walk _ _).mono ?_; rw [hk]; rintro e w9 ⟨rfl, h9⟩; have h9 := h9.symm; subst h9)
  have R0 : Rb w w1.heap.size l kind recs (.slice (some ⟨w1.heap.size, 0, none⟩) 0 0) (.int .i64 0) (.int .i64 0) (w1.alloc (Obj.cells #[] 42)) :=
    ⟨0, w1.heap.size, 0, Nat.zero_le _, rfl, by simp [trapN], rfl, (ow_of_own (t := []) (by simpa [flatQ] using World.ownsRow_lit (base := w1.heap.size) (e := 42) (size := 3) w1 #[] 0 (Nat.le_refl _) (by simp [maxLen]) (by simp))).1, Nat.le_refl _, below_trans HB1.out (below_alloc _ _)⟩
  have HMB : Hid (w.heap.size ≤ w1.heap.size) := HB1.out.size
  go_loopw [9, 10, 11] (fun tv nv iv wr => Rb w w1.heap.size l kind recs tv nv iv wr) (fun _ _ iv _ => recs.length - (intOf iv).toNat)
  case atStart => exact R0
  case round =>
    clear R0
    obtain ⟨i, g, gcap, hi, rfl, rfl, rfl, hO, hgB, hB⟩ := hrel
    have HOW : Hid (Ow wr g gcap (batchT l kind (recs.take i))) := hO
    have HGB : Hid (w1.heap.size ≤ g) := hgB
    have HB : Hid (Below w.heap.size w wr) := hB
    clear hO hgB hB
    by_cases hlt : i < recs.length
    · obtain ⟨b, off, rfl, c0, c1⟩ := HRL.out.below HB.out i hlt
      obtain ⟨r, hre⟩ : ∃ r, r = recs[i] := ⟨_, rfl⟩
      rw [← hre] at c0 c1
      have HE : Hid (r = recs[i]) := hre
      have HROK : Hid r.ok := by rw [hre]; exact HRO.out _ (List.getElem_mem hlt)
      clear hre
      obtain ⟨R, hR⟩ : ∃ R, R = runS l r := ⟨_, rfl⟩
      have HR : Hid (R = runS l r) := hR
      have HKO : Hid R.2.ok := by show R.2.ok; rw [hR]; exact runS_ok l HROK.out
      clear hR
      have hil : (i : Int) < (recs.length : Int) := by omega
      go_wp2_with fail
      refine (rrun_walk r HROK.out (HV.out.below HB.out)).mono ?_
      rw [← HR.out]
      rintro e w3 ⟨rfl, hB3⟩
      have HB3 : Hid (Below wr.heap.size wr w3) := hB3
      clear hB3
      by_cases hf1 : R.1 = 1
      · have HF : Hid (R.1 = 1) := hf1
        rw [hf1]
        clear hf1 c0 c1
        have HFF : Hid ((runS l r).1 = 1) := by show _ = _; rw [← HR.out]; exact HF.out
        go_wp2_with fail
        generalize hg5 : w3.alloc (Obj.cells #[.int .u64 R.2.k, .float .f64 R.2.x] 36) = w5
        have HRB : Hid (RB w5 w3.heap.size R.2.k R.2.x) := by show RB _ _ _ _; rw [← hg5]; refine ⟨?_, ?_, ?_, ?_⟩ <;> simp [go_sem]
        have HB5 : Hid (Below wr.heap.size wr w5) := by show Below _ _ _; rw [← hg5]; exact below_trans HB3.out (below_alloc _ _)
        clear hg5
        obtain ⟨q0, q1, _, _⟩ := HRB.out
        have HLEN : Hid (((batchT l kind (recs.take i)).length + 1) * 24 ≤ 140737488355328) := by have := batch_len l kind (recs.take i); have := HSZ.out; simp at *; show _ ≤ _; omega
        go_region_with (first
          | (go_at_call 24; refine (rof_walk kind HKO.out.2 _).mono ?_; rintro e w9 ⟨rfl, hB9⟩; have hS9 : Below w5.heap.size w5 w9 := below_trans (by first | assumption | exact (Below.refl _ _).drew) hB9; obtain ⟨d0, d1, _, _⟩ := HRB.out.below hS9 (cell_lt HRB.out.c0))
          | (go_at_call 23; refine (rwith_walk kind _ (HOW.out.below (below_trans HB5.out (by assumption))) HGB.out (rise_batch _ _ _) (batch_ok (take_ok HRO.out i)) (ofV_ok kind HKO.out.2) HLEN.out).mono ?_; rintro e w10 ⟨g9, cap9, rfl, hO9, hg9, hB10⟩; have R' := rb_keep hlt HE.out HFF.out HMB.out HB.out (below_trans HB5.out hS9) hB10 hg9 (by rw [← HR.out]; exact hO9); rw [← HR.out] at R'))
        all_goals go_wp2_with fail
        all_goals go_roundw
        all_goals first
          | exact R'
          | (simp [intOf]; omega)
      · have HF : Hid ((runS l r).1 ≠ 1) := by show (runS l r).1 ≠ 1; rw [← HR.out]; exact hf1
        have hf1b : (R.1 == 1) = false := by simpa using hf1
        by_cases hf3 : R.1 = 3
        · have R' := rb_skip (n := 1) hlt HE.out HF.out (by rw [← HR.out, if_pos hf3]) HB.out (below_trans HB3.out (below_alloc w3 (Obj.cells #[.int .u64 R.2.k, .float .f64 R.2.x] 36))) HOW.out HGB.out
          rw [hf3]
          clear hf1 hf1b hf3
          have htr : ((trapN l (recs.take i) : Nat) : Int) ≤ 4096 := by have := trap_le l (recs.take i); simp at this; omega
          go_wp2_with fail
          go_roundw
          case rel => simpa using R'
          case measure => simp [intOf]; omega
        · have R' := rb_skip (n := 0) hlt HE.out HF.out (by rw [← HR.out, if_neg hf3]) HB.out (below_trans HB3.out (below_alloc w3 (Obj.cells #[.int .u64 R.2.k, .float .f64 R.2.x] 36))) HOW.out HGB.out
          have hf3b : (R.1 == 3) = false := by simpa using hf3
          clear hf1 hf3
          go_wp2_with fail
          go_roundw
          case rel => simpa using R'
          case measure => simp [intOf]; omega
    · have e : i = recs.length := by omega
      have HT : Hid (recs.take i = recs) := by show _ = _; rw [e]; simp
      have hil : ¬ ((i : Int) < (recs.length : Int)) := by omega
      clear e
      go_wp2_with fail
      refine bodyPost_ret (v := .tuple #[.slice (some ⟨g, 0, none⟩) (batchT l kind (recs.take i)).length gcap, .int .i64 (trapN l (recs.take i)), .int .i64 0]) (by simp [results, Tryz.results6, go_sem]) rfl ?_
      refine ⟨g, gcap, by rw [HT.out], ?_, HB.out⟩
      have := HOW.out
      rw [HT.out] at this
      exact this
end Go.Proofs.YtfcpooihihklaaaGreat
