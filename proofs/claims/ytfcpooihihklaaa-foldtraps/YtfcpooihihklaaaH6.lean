/- The walk of FoldTraps. -/
import Derived.Test.YtfcpooihihklaaaKt
import Derived.Test.YtfcpooihihklaaaH5
namespace Go.Proofs.Ytfcpooihihklaaa
open Ieee Go.RowKit
attribute [local go_sem] run_store_float

theorem new_rec {w w3 : World} {t : TypeId} {k x : Nat} (h : Below ((w.alloc (Obj.cells #[.int .u64 k, .float .f64 x] t)).drew).heap.size (w.alloc (Obj.cells #[.int .u64 k, .float .f64 x] t)).drew w3) : RB w3 w.heap.size k x := by
  have h0 : RB (w.alloc (Obj.cells #[.int .u64 k, .float .f64 x] t)).drew w.heap.size k x := by
    refine ⟨?_, ?_, ?_, ?_⟩ <;> simp [go_sem]
  exact h0.below h (cell_lt h0.c0)

/-- Where the first loop of FoldTraps stands. -/
def Tr (w : World) (B : Nat) (lv rv : Value) (kind n : Int) (l : List Stp) (recs : List Rcd) (kv tv iv : Value) (wr : World) : Prop :=
  ∃ i : Nat, i ≤ recs.length ∧ iv = .int .i64 i ∧ tv = .int .i64 (trapN l (recs.take i)) ∧ wr.ownsRow B 52 2 kv (keptR l (recs.take i)).length (flatR (keptR l (recs.take i))) ∧ JB wr w.heap.size lv kind rv n ∧ Below w.heap.size w wr ∧ B ≤ wr.heap.size

theorem tr_keep {w wr w5 w6 : World} {B i : Nat} {lv rv kv v' : Value} {kind n : Int} {l : List Stp} {recs : List Rcd} {r : Rcd} {ob : Obj} (hi : i < recs.length) (hr : r = recs[i]) (hf : (runS l r).1 = 1)
    (ho : wr.ownsRow B 52 2 kv (keptR l (recs.take i)).length (flatR (keptR l (recs.take i)))) (h5 : Below wr.heap.size wr w5) (hg : (w5.alloc ob).grownBy w6 kv.ownBlock)
    (h6 : w6.ownsRow B 52 2 v' ((keptR l (recs.take i)).length + 1) (flatR (keptR l (recs.take i) ++ [r]))) (hJ : JB wr w.heap.size lv kind rv n) (hB : Below w.heap.size w wr) (hw : w.heap.size < B) (hBs : B ≤ wr.heap.size) :
    Tr w B lv rv kind n l recs v' (.int .i64 (trapN l (recs.take i))) (.int .i64 ((i : Int) + 1)) w6 := by
  have e : keptR l (recs.take (i + 1)) = keptR l (recs.take i) ++ [r] := by rw [keptR_snoc l recs hi, ← hr, if_pos hf]
  have h5a : Below wr.heap.size wr (w5.alloc ob) := below_trans h5 (below_alloc _ _)
  have hk : ∀ k, kv.ownBlock = some k → w.heap.size < k := fun k hk => Nat.lt_of_lt_of_le hw (ho.lt k hk).1
  have hB6 : Below w.heap.size w w6 := (below_trans hB h5a).grown hg (below_trans hB h5a).size (fun k h => Nat.le_of_lt (hk k h))
  refine ⟨i + 1, hi, by simp, ?_, ?_, ?_, hB6, Nat.le_trans (Nat.le_trans hBs h5a.size) hg.size⟩
  · rw [trap_snoc l recs hi, ← hr, if_neg (by omega), Nat.add_zero]
  · rw [e]; simpa using h6
  · have hj := hJ.below h5a
    have hb := hg.block w.heap.size (cell_lt hj.c0) (fun h => by have := hk _ h.symm; omega)
    exact ⟨by rw [World.cell?_of_block (w := w5.alloc ob) hb]; exact hj.c0, by rw [World.cell?_of_block (w := w5.alloc ob) hb]; exact hj.c1, by rw [World.cell?_of_block (w := w5.alloc ob) hb]; exact hj.c2, by rw [World.cell?_of_block (w := w5.alloc ob) hb]; exact hj.c3⟩

theorem own_below {w w' : World} {B e n : Nat} {v : Value} {xs : List Value} (h : w.ownsRow B e 2 v n xs) (hb : Below w.heap.size w w') : w'.ownsRow B e 2 v n xs := by
  refine h.kept (grown_of_below hb) ?_
  cases hv : v.ownBlock
  · exact Or.inl rfl
  · exact Or.inr (by simp)

theorem tr_skip {w wr w5 : World} {B i m : Nat} {lv rv kv : Value} {kind n : Int} {l : List Stp} {recs : List Rcd} {r : Rcd} (hi : i < recs.length) (hr : r = recs[i]) (hf : (runS l r).1 ≠ 1) (hm : m = if (runS l r).1 = 3 then 1 else 0)
    (ho : wr.ownsRow B 52 2 kv (keptR l (recs.take i)).length (flatR (keptR l (recs.take i)))) (h5 : Below wr.heap.size wr w5) (hJ : JB wr w.heap.size lv kind rv n) (hB : Below w.heap.size w wr) (hBs : B ≤ wr.heap.size) :
    Tr w B lv rv kind n l recs kv (.int .i64 ((trapN l (recs.take i) + m : Nat) : Int)) (.int .i64 ((i : Int) + 1)) w5 := by
  have e : keptR l (recs.take (i + 1)) = keptR l (recs.take i) := by rw [keptR_snoc l recs hi, ← hr, if_neg hf, List.append_nil]
  refine ⟨i + 1, hi, by simp, ?_, ?_, hJ.below h5, below_trans hB h5, Nat.le_trans hBs h5.size⟩
  · rw [trap_snoc l recs hi, ← hr, hm]
  · rw [e]; exact own_below ho h5

theorem keptR_le (l : List Stp) (recs : List Rcd) : (keptR l recs).length ≤ recs.length := List.length_filter_le _ _
theorem keptR_mem {l : List Stp} {recs : List Rcd} {r : Rcd} (h : r ∈ keptR l recs) : r ∈ recs := (List.mem_filter.1 h).1

set_option maxRecDepth 100000 in
set_option maxHeartbeats 4000000 in
theorem traps_bad {lv rv : Value} {l : List Stp} {kind n : Int} {w : World} (ho : Ov w lv l) (hb : (checkB l && knownB kind) = false) :
    Calls Try.prog 7 #[.agg #[lv, .int .i64 kind, rv, .int .i64 n]] w fun e w' => e = .returned (.bool true) ∧ Below w.heap.size w w' := by
  have HO : Hid (Ov w lv l) := ho
  have HBD : Hid ((checkB l && knownB kind) = false) := hb
  clear ho hb
  have J0 := jb_new w lv rv kind n 43
  go_enter Try.func7, Try.ntmps7
  go_wp2_with fail
  refine (awake_walk _).mono ?_
  rintro e w1 ⟨rfl, hB1⟩
  have HB1 : Hid (Below w.heap.size w w1) := below_trans (below_alloc _ _) hB1
  have HJ1 : Hid (JB w1 w.heap.size lv kind rv n) := J0.below hB1
  clear hB1 J0
  obtain ⟨c0, c1, c2, c3⟩ := HJ1.out
  go_wp2_with fail
  refine (right_walk (HO.out.below HB1.out)).mono ?_
  rw [HBD.out]
  rintro e w2 ⟨rfl, hB2⟩
  go_wp2_with fail
  go_ret
  exact ⟨rfl, below_trans HB1.out hB2⟩

/-- Where the second loop of FoldTraps stands. -/
def Sm (w : World) (t : List Pr) (sv iv : Value) (wr : World) : Prop :=
  ∃ i : Nat, i ≤ t.length ∧ iv = .int .i64 i ∧ sv = .int .u64 ((sumT (t.take i) % 18446744073709551616 : Nat) : Int) ∧ Below w.heap.size w wr
theorem sm_num (t : List Pr) {i : Nat} (hi : i < t.length) : IntKind.u64.wrap (((sumT (t.take i) % 18446744073709551616 : Nat) : Int) + (t[i].v.b : Int)) = ((sumT (t.take (i + 1)) % 18446744073709551616 : Nat) : Int) := by
  rw [sum_snoc t hi, IntKind.wrap_u64]
  omega

set_option maxRecDepth 100000 in
set_option maxHeartbeats 8000000 in
theorem traps_good {lv rv : Value} {l : List Stp} {recs : List Rcd} {kind n : Int} {w : World} (ho : Ov w lv l) (hr : Rv w rv recs) (hc : checkB l = true) (hk : knownB kind = true) (hsz : recs.length * 16 ≤ 140737488351232) :
    Calls Try.prog 7 #[.agg #[lv, .int .i64 kind, rv, .int .i64 n]] w fun e w' => e = .returned (.bool true) ∧ Below w.heap.size w w' := by
  have HO : Hid (Ov w lv l) := ho
  have HR : Hid (Rv w rv recs) := hr
  have HSZ : Hid (recs.length * 24 ≤ 281474976710656) := by show _ ≤ _; omega
  have HSZ16 : Hid (recs.length * 16 ≤ 140737488351232) := hsz
  have HRO : Hid (∀ r ∈ recs, r.ok) := hr.2
  have hrl : (recs.length : Int) ≤ 8796093021952 := by omega
  obtain ⟨ao, cap, hrv, hrc, hcm, hcn, hrl4⟩ := hr.parts
  subst hrv
  have HRL : Hid (Rl w ao recs) := hrl4
  obtain ⟨i0, hi0, hz0, hz1, hz2⟩ := info_partsQ info_rec
  have HI0 : Hid (Try.prog.info? 52 = some i0) := hi0
  have HI1 : Hid (i0.zero = some (.agg #[.int .u64 0, .float .f64 0])) := hz0
  have HI2 : Hid (i0.size = 2) := hz1
  have HI3 : Hid (i0.bytes = 16) := hz2
  clear ho hr hsz hrc hcm hcn hrl4 hi0 hz0 hz1 hz2
  have J0 := jb_new w lv (.slice ao recs.length cap) kind n 43
  go_enter Try.func7, Try.ntmps7
  go_wp2_with fail
  refine (awake_walk _).mono ?_
  rintro e w1 ⟨rfl, hB1⟩
  have HB1 : Hid (Below w.heap.size w w1) := below_trans (below_alloc _ _) hB1
  have HJ1 : Hid (JB w1 w.heap.size lv kind (.slice ao recs.length cap) n) := J0.below hB1
  clear hB1 J0
  obtain ⟨c0, c1, c2, c3⟩ := HJ1.out
  go_wp2_with fail
  refine (right_walk (HO.out.below HB1.out)).mono ?_
  rw [hc, hk]
  rintro e w2 ⟨rfl, hB2⟩
  have HB2 : Hid (Below w.heap.size w w2) := below_trans HB1.out hB2
  have HJ2 : Hid (JB w2 w.heap.size lv kind (.slice ao recs.length cap) n) := HJ1.out.below hB2
  clear hB2 c0 c1 c2 c3
  have HWB : Hid (w.heap.size < w2.heap.size) := cell_lt HJ2.out.c0
  go_wp2_with fail
  have R0 : Tr w w2.heap.size lv (.slice ao recs.length cap) kind n l recs (.slice none 0 0) (.int .i64 0) (.int .i64 0) w2 :=
    ⟨0, Nat.zero_le _, rfl, by simp [trapN], ⟨by simp [flatR, keptR], .inl ⟨rfl, by simp [keptR]⟩⟩, HJ2.out, HB2.out, Nat.le_refl _⟩
  go_loopw [3, 4, 5] (fun kv tv iv wr => Tr w w2.heap.size lv (.slice ao recs.length cap) kind n l recs kv tv iv wr) (fun _ _ iv _ => recs.length - (intOf iv).toNat)
  case atStart => exact R0
  case round =>
    clear R0
    obtain ⟨i, hi, rfl, rfl, hown, hJ, hB, hBs⟩ := hrel
    have HOW : Hid (wr.ownsRow w2.heap.size 52 2 u3 (keptR l (recs.take i)).length (flatR (keptR l (recs.take i)))) := hown
    have HJ : Hid (JB wr w.heap.size lv kind (.slice ao recs.length cap) n) := hJ
    have HB : Hid (Below w.heap.size w wr) := hB
    have HBS : Hid (w2.heap.size ≤ wr.heap.size) := hBs
    clear hown hJ hB hBs
    by_cases hlt : i < recs.length
    · obtain ⟨b, off, rfl, m0, m1⟩ := HRL.out.below HB.out i hlt
      obtain ⟨r, hre⟩ : ∃ r, r = recs[i] := ⟨_, rfl⟩
      rw [← hre] at m0 m1
      have HE : Hid (r = recs[i]) := hre
      have HROK : Hid r.ok := by rw [hre]; exact HRO.out _ (List.getElem_mem hlt)
      clear hre
      obtain ⟨R, hR⟩ : ∃ R, R = runS l r := ⟨_, rfl⟩
      have HRE : Hid (R = runS l r) := hR
      clear hR
      have HM0 : Hid (wr.cell? ⟨b, off + i * 2, none⟩ = some (.int .u64 r.k)) := m0
      have HM1 : Hid (wr.cell? ⟨b, off + i * 2 + 1, none⟩ = some (.float .f64 r.x)) := m1
      clear m0 m1
      obtain ⟨c0, c1, c2, c3⟩ := HJ.out
      go_wp2_with fail
      clear c0 c1 c2 c3
      have k0 : ∀ wx, Below wr.heap.size wr wx → wx.cell? ⟨w.heap.size, 0, none⟩ = some lv := fun wx h => (HJ.out.below h).c0
      have k2 : ∀ wx, Below wr.heap.size wr wx → wx.cell? ⟨w.heap.size, 2, none⟩ = some (.slice (some ⟨b, off, none⟩) recs.length cap) := fun wx h => (HJ.out.below h).c2
      have k3 : ∀ wx, Below wr.heap.size wr wx → wx.cell? ⟨b, off + i * 2, none⟩ = some (.int .u64 r.k) := fun wx h => by rw [h.cell (p := ⟨b, off + i * 2, none⟩) (cell_lt HM0.out)]; exact HM0.out
      have k4 : ∀ wx, Below wr.heap.size wr wx → wx.cell? ⟨b, off + i * 2 + 1, none⟩ = some (.float .f64 r.x) := fun wx h => by rw [h.cell (p := ⟨b, off + i * 2 + 1, none⟩) (cell_lt HM1.out)]; exact HM1.out
      go_cut [7] (fun f wx => f = .int .i64 R.1 ∧ Below wr.heap.size wr wx)
      case first =>
        go_region_held3 (fun wx => Below wr.heap.size wr wx) (first | assumption | exact (Below.refl _ _).drew | exact Below.drew ((Below.refl _ _).alloc (Nat.le_refl _) _) | exact Below.alloc (by assumption) (Below.size (by assumption)) _ | exact keep_store (by assumption) _ (Nat.le_refl _) _ _)
          (first | (go_at_call 23; refine (run_walk r HROK.out (HO.out.below (below_trans HB.out (by assumption)))).mono ?_; rw [← HRE.out]; rintro e w5 ⟨rfl, hB3⟩; have hS3 : Below wr.heap.size wr w5 := below_trans (by assumption) hB3; try (have q0 := (new_rec hB3).c0; have q1 := (new_rec hB3).c1; have q2 := (new_rec hB3).z0; have q3 := (new_rec hB3).z1)))
        all_goals go_wp2_with fail
        all_goals go_meet
        · exact ⟨rfl, hS3.alloc hS3.size _⟩
        · exact ⟨rfl, keep_store hS3 _ (Nat.le_refl _) _ _⟩
      case rest =>
        obtain ⟨rfl, hBc⟩ := hcut
        obtain ⟨w5, hw5⟩ : ∃ w5, w5 = wc := ⟨_, rfl⟩
        subst hw5
        have HB5 : Hid (Below wr.heap.size wr w5) := hBc
        clear k0 k2 k3 k4 hBc
        have HJ5 : Hid (JB w5 w.heap.size lv kind (.slice (some ⟨b, off, none⟩) recs.length cap) n) := HJ.out.below HB5.out
        by_cases hf1 : R.1 = 1
        · have HF : Hid ((runS l r).1 = 1) := by show _ = _; rw [← HRE.out]; exact hf1
          rw [hf1]
          clear hf1
          obtain ⟨c0, c1, c2, c3⟩ := HJ5.out
          have m0 : w5.cell? ⟨b, off + i * 2, none⟩ = some (.int .u64 r.k) := by rw [HB5.out.cell (p := ⟨b, off + i * 2, none⟩) (cell_lt HM0.out)]; exact HM0.out
          have m1 : w5.cell? ⟨b, off + i * 2 + 1, none⟩ = some (.float .f64 r.x) := by rw [HB5.out.cell (p := ⟨b, off + i * 2 + 1, none⟩) (cell_lt HM1.out)]; exact HM1.out
          have HKL : Hid ((keptR l (recs.take i)).length + 1 ≤ recs.length) := by have := keptR_le l (recs.take i); simp at this; show _ ≤ _; omega
          go_wp2_with (at_builtin; refine wpList_append_rg (by rfl) _ _ 41 (by rfl) w2.heap.size 52 i0 Try.underlying41 HI0.out HI1.out HI2.out HI3.out _ _ (keptR l (recs.take i)) (by rfl) ((own_below HOW.out HB5.out).alloc _) _ r (by rfl) (by simp [go_sem]) (by simp [go_sem]) (by have := HKL.out; simp only [maxLen]; omega) (by have := HKL.out; have := HSZ16.out; omega) (by have := HBS.out; have := HB5.out.size; simp; omega) ?_; intro v' w6 hown6 hgrow6)
          have R' := tr_keep hlt HE.out HF.out HOW.out HB5.out hgrow6 hown6 HJ.out HB.out HWB.out HBS.out
          clear hown6 hgrow6 c0 c1 c2 c3 m0 m1
          go_wp2_with fail
          go_roundw
          case rel => exact R'
          case measure => simp [intOf]; omega
        · have HF : Hid ((runS l r).1 ≠ 1) := by show (runS l r).1 ≠ 1; rw [← HRE.out]; exact hf1
          have hf1b : (R.1 == 1) = false := by simpa using hf1
          by_cases hf3 : R.1 = 3
          · have R' := tr_skip (m := 1) hlt HE.out HF.out (by rw [← HRE.out, if_pos hf3]) HOW.out HB5.out HJ.out HB.out HBS.out
            rw [hf3]
            clear hf1 hf1b hf3
            have htr : ((trapN l (recs.take i) : Nat) : Int) ≤ 8796093021952 := by have := trap_le l (recs.take i); simp at this; omega
            go_wp2_with fail
            go_roundw
            case rel => simpa using R'
            case measure => simp [intOf]; omega
          · have R' := tr_skip (m := 0) hlt HE.out HF.out (by rw [← HRE.out, if_neg hf3]) HOW.out HB5.out HJ.out HB.out HBS.out
            have hf3b : (R.1 == 3) = false := by simpa using hf3
            clear hf1 hf3
            go_wp2_with fail
            go_roundw
            case rel => simpa using R'
            case measure => simp [intOf]; omega
    · have e : i = recs.length := by omega
      have HTK : Hid (recs.take i = recs) := by show _ = _; rw [e]; simp
      have HKV : Hid (Rv wr u3 (keptR l recs)) := by
        have := HOW.out
        rw [HTK.out] at this
        exact own_rv this (fun r hr => HRO.out r (keptR_mem hr))
      have HTR : Hid (trapN l (recs.take i) = trapN l recs) := by show _ = _; rw [HTK.out]
      obtain ⟨ko, kc, hkv, _, _, _, _⟩ := HKV.out.parts
      subst hkv
      have HLN : Hid ((batchT l kind recs).length ≤ maxLen) := by have := batch_len l kind recs; show _ ≤ _; simp only [maxLen]; omega
      have hlc : ((batchT l 1 recs).length : Int) ≤ 8796093021952 := by have := batch_len l 1 recs; omega
      have hkl : ((keptR l recs).length : Int) ≤ 8796093021952 := by have := keptR_le l recs; omega
      rw [HTR.out]
      clear e
      obtain ⟨c0, c1, c2, c3⟩ := HJ.out
      go_wp2_with fail
      refine (table_walk (HO.out.below HB.out) (HR.out.below HB.out) hc hk HSZ.out).mono ?_
      rintro e w6 ⟨g6, rfl, hM6, _, hg6, hB6⟩
      have HB6 : Hid (Below wr.heap.size wr w6) := hB6
      have HM6 : Hid (Mq w6 g6 (batchT l kind recs)) := hM6
      have HG6 : Hid (g6 < w6.heap.size) := hg6
      have HJ6 : Hid (JB w6 w.heap.size lv kind (.slice ao recs.length cap) n) := HJ.out.below hB6
      clear c0 c1 c2 c3 hB6 hM6 hg6
      obtain ⟨c0, c1, c2, c3⟩ := HJ6.out
      go_wp2_with fail
      refine (table_walk (HO.out.below (below_trans HB.out HB6.out)) (HKV.out.below HB6.out) hc hk (by have := keptR_le l recs; have := HSZ.out; omega)).mono ?_
      rw [batch_kept, trap_kept]
      rintro e w7 ⟨g7, rfl, hM7, _, hg7, hB7⟩
      have HB7 : Hid (Below wr.heap.size wr w7) := below_trans HB6.out hB7
      have HM7 : Hid (Mq w7 g7 (batchT l kind recs)) := hM7
      have HM67 : Hid (Mq w7 g6 (batchT l kind recs)) := HM6.out.below hB7 HG6.out
      have HJ7 : Hid (JB w7 w.heap.size lv kind (.slice ao recs.length cap) n) := HJ6.out.below hB7
      clear c0 c1 c2 c3 hB7 hM7 hg7
      go_wp2_with fail
      refine (same_walk HLN.out (mq_ql HM67.out) (mq_ql HM7.out)).mono ?_
      rintro e w8 ⟨rfl, hB8⟩
      have HB8 : Hid (Below wr.heap.size wr w8) := below_trans HB7.out hB8
      have HJ8 : Hid (JB w8 w.heap.size lv kind (.slice ao recs.length cap) n) := HJ7.out.below hB8
      clear hB8
      obtain ⟨c0, c1, c2, c3⟩ := HJ8.out
      go_wp2_with fail
      refine (batch_good (kind := 1) (HO.out.below (below_trans HB.out HB8.out)) (HR.out.below (below_trans HB.out HB8.out)) hc (by decide) HSZ.out).mono ?_
      rintro e w9 ⟨g9, rfl, hM9, _, _, hB9⟩
      have HB9 : Hid (Below w.heap.size w w9) := below_trans HB.out (below_trans HB8.out hB9)
      have HM9 : Hid (Ql w9 (some ⟨g9, 0, none⟩) (batchT l 1 recs)) := mq_ql hM9
      clear c0 c1 c2 c3 hB9 hM9
      go_wp2_with fail
      go_loopw [14, 18] (fun sv iv wx => Sm w9 (batchT l 1 recs) sv iv wx) (fun _ iv _ => (batchT l 1 recs).length - (intOf iv).toNat)
      case atStart => exact ⟨0, Nat.zero_le _, rfl, by simp [sumT], below_same _⟩
      case round =>
        obtain ⟨j, hj, rfl, rfl, hBj⟩ := hrel
        have HBJ : Hid (Below w9.heap.size w9 wr) := hBj
        clear hBj
        by_cases hjl : j < (batchT l 1 recs).length
        · obtain ⟨b, off, eb, _, _, c2⟩ := HM9.out.below HBJ.out j hjl
          cases eb
          have hnum := sm_num (batchT l 1 recs) hjl
          rw [Nat.zero_add] at c2
          generalize (batchT l 1 recs)[j].v.b = x at c2 hnum
          have R' : Sm w9 (batchT l 1 recs) (.int .u64 ((sumT ((batchT l 1 recs).take (j + 1)) % 18446744073709551616 : Nat) : Int)) (.int .i64 ((j : Int) + 1)) wr := ⟨j + 1, hjl, by simp, rfl, HBJ.out⟩
          generalize ((sumT ((batchT l 1 recs).take (j + 1)) % 18446744073709551616 : Nat) : Int) = y at hnum R'
          generalize ((sumT ((batchT l 1 recs).take j) % 18446744073709551616 : Nat) : Int) = z at hnum ⊢
          go_wp2_with fail
          go_roundw
          case rel => exact R'
          case measure => simp [intOf]; omega
        · have e : j = (batchT l 1 recs).length := by omega
          have HS : Hid (sumT ((batchT l 1 recs).take j) % 18446744073709551616 = (keptR l recs).length) := by
            show _ = _
            rw [e, List.take_length, sum_batch HRO.out]
            have := keptR_le l recs
            omega
          have HKK : Hid ((batchT l 1 recs).length = (batchT l kind recs).length) := batch_keys l 1 kind recs
          rw [HS.out]
          clear e
          have hwu : IntKind.u64.wrap ((keptR l recs).length : Int) = ((keptR l recs).length : Int) := by rw [IntKind.wrap_u64]; omega
          have hkb : (((batchT l 1 recs).length : Int) == ((batchT l kind recs).length : Int)) = true := by simp [HKK.out]
          go_wp2_with fail
          go_ret
          exact ⟨ret_bool (by simp), below_trans HB9.out HBJ.out⟩

theorem foldtraps_walk {lv rv : Value} {l : List Stp} {recs : List Rcd} {kind n : Int} {w : World} (ho : Ov w lv l) (hr : Rv w rv recs) (hsz : recs.length * 16 ≤ 140737488351232) :
    Calls Try.prog 7 #[.agg #[lv, .int .i64 kind, rv, .int .i64 n]] w fun e w' => e = .returned (.bool true) ∧ Below w.heap.size w w' := by
  cases hb : checkB l && knownB kind
  · exact traps_bad ho hb
  · rw [Bool.and_eq_true] at hb
    exact traps_good ho hr hb.1 hb.2 hsz
end Go.Proofs.Ytfcpooihihklaaa
