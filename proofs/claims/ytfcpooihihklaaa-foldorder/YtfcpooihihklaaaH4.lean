/- The walk of FoldParts. -/
import Derived.Test.YtfcpooihihklaaaKm
namespace Go.Proofs.Ytfcpooihihklaaa
open Ieee Go.RowKit

theorem jb_new (w : World) (lv rv : Value) (kind n : Int) (t : TypeId) : JB (w.alloc (Obj.cells #[lv, .int .i64 kind, rv, .int .i64 n] t)) w.heap.size lv kind rv n := by
  constructor <;> simp [go_sem]

set_option maxRecDepth 100000 in
set_option maxHeartbeats 4000000 in
theorem parts_bad {lv rv : Value} {l : List Stp} {kind n : Int} {w : World} (ho : Ov w lv l) (hb : (checkB l && knownB kind) = false) :
    Calls Try.prog 5 #[.agg #[lv, .int .i64 kind, rv, .int .i64 n]] w fun e w' => e = .returned (.bool true) ∧ Below w.heap.size w w' := by
  have HO : Hid (Ov w lv l) := ho
  have HBD : Hid ((checkB l && knownB kind) = false) := hb
  clear ho hb
  have J0 := jb_new w lv rv kind n 43
  go_enter Try.func5, Try.ntmps5
  go_wp2_with fail
  refine (awake_walk _).mono ?_
  rintro e w1 ⟨rfl, hB1⟩
  have HB1 : Hid (Below w.heap.size w w1) := below_trans (below_alloc _ _) hB1
  have HJ1 : Hid (JB w1 w.heap.size lv kind rv n) := J0.below hB1
  clear hB1 J0
  obtain ⟨c0, c1, c2, c3⟩ := HJ1.out
  go_wp2_with fail
  refine (right_walk (HO.out.below HB1.out)).mono ?_
  rw [HBD.out]
  rintro e w2 ⟨rfl, hB2⟩
  have HB2 : Hid (Below w.heap.size w w2) := below_trans HB1.out hB2
  have HJ2 : Hid (JB w2 w.heap.size lv kind rv n) := HJ1.out.below hB2
  clear hB2 c0 c1 c2 c3
  obtain ⟨c0, c1, c2, c3⟩ := HJ2.out
  cases hc : checkB l
  · go_wp2_with fail
    refine (batch_bad (HO.out.below HB2.out) hc).mono ?_
    rintro e w3 ⟨rfl, hB3⟩
    go_wp2_with fail
    go_ret
    exact ⟨rfl, below_trans HB2.out hB3⟩
  · have hk : knownB kind = false := by have := HBD.out; rw [hc] at this; simpa using this
    go_wp2_with fail
    refine (batch_unknown (HO.out.below HB2.out) hc hk).mono ?_
    rintro e w3 ⟨rfl, hB3⟩
    go_wp2_with fail
    go_ret
    exact ⟨rfl, below_trans HB2.out hB3⟩

theorem rv_take {w : World} {ao : Option Addr} {cap : Nat} {recs : List Rcd} (h : Rv w (.slice ao recs.length cap) recs) {k : Nat} (hk : k ≤ recs.length) : Rv w (.slice ao k cap) (recs.take k) := by
  obtain ⟨⟨ao', cap', e, h1, h2, h3, h4⟩, h5⟩ := h
  simp only [Value.slice.injEq] at e
  obtain ⟨rfl, _, rfl⟩ := e
  have hl : (recs.take k).length = k := by simp; omega
  refine ⟨⟨ao, cap, by rw [hl], by omega, h2, h3, fun i hi => ?_⟩, fun r hr => h5 r (List.mem_of_mem_take hr)⟩
  rw [hl] at hi
  rw [List.getElem_take]
  exact h4 i (by omega)

theorem rv_drop {w : World} {ao : Option Addr} {cap : Nat} {recs : List Rcd} (h : Rv w (.slice ao recs.length cap) recs) {k : Nat} (hk : k ≤ recs.length) (c : Prop) [Decidable c] (hc : c ↔ cap = k) : Rv w (.slice (if c then ao else ao.map (·.add (k * 2))) (recs.length - k) (cap - k)) (recs.drop k) := by
  obtain ⟨⟨ao', cap', e, h1, h2, h3, h4⟩, h5⟩ := h
  simp only [Value.slice.injEq] at e
  obtain ⟨rfl, _, rfl⟩ := e
  have hl : (recs.drop k).length = recs.length - k := by simp
  refine ⟨⟨_, cap - k, by rw [hl], by omega, by omega, ?_, fun i hi => ?_⟩, fun r hr => h5 r (List.mem_of_mem_drop hr)⟩
  · intro hn
    by_cases hcc : c
    · have := hc.1 hcc; omega
    · rw [if_neg hcc] at hn
      cases ao with
      | none => have := h3 rfl; omega
      | some p => simp at hn
  · rw [hl] at hi
    rw [if_neg (fun hcc => by have := hc.1 hcc; omega)]
    obtain ⟨b, off, rfl, g0, g1⟩ := h4 (k + i) (by omega)
    refine ⟨b, off + k * 2, by simp [WideShapes.add_plain], ?_, ?_⟩
    · rw [List.getElem_drop, ← g0, show off + k * 2 + i * 2 = off + (k + i) * 2 by omega]
    · rw [List.getElem_drop, ← g1, show off + k * 2 + i * 2 + 1 = off + (k + i) * 2 + 1 by omega]

theorem qv_of_mq {w : World} {g : Nat} {m : List Pr} (h : Mq w g m) (ho : okT m) (hl : m.length ≤ maxLen) : Qv w (.slice (some ⟨g, 0, none⟩) m.length m.length) m :=
  ⟨⟨_, m.length, rfl, Nat.le_refl _, hl, by simp, mq_ql h⟩, ho⟩

theorem take_drop_batch {l : List Stp} {kind : Int} (hk : knownB kind = true) {recs : List Rcd} (h : ∀ r ∈ recs, r.ok) (k : Nat) : addT kind (batchT l kind (recs.take k)) (batchT l kind (recs.drop k)) = batchT l kind recs := by
  rw [batch_cut hk (kept_ok (take_ok h k)) (kept_ok (fun r hr => h r (List.mem_of_mem_drop hr))), List.take_append_drop]
theorem drop_take_batch {l : List Stp} {kind : Int} (hk : knownB kind = true) {recs : List Rcd} (h : ∀ r ∈ recs, r.ok) (k : Nat) : addT kind (batchT l kind (recs.drop k)) (batchT l kind (recs.take k)) = batchT l kind recs := by
  rw [← take_drop_batch hk h k]
  exact (add_comm hk (rise_batch _ _ _) (rise_batch _ _ _) (batch_ok (take_ok h k)) (batch_ok (fun r hr => h r (List.mem_of_mem_drop hr))) (has_batch hk _) (has_batch hk _)).symm

theorem trap_append (l : List Stp) (a b : List Rcd) : trapN l (a ++ b) = trapN l a + trapN l b := List.countP_append

set_option maxRecDepth 100000 in
set_option maxHeartbeats 8000000 in
theorem parts_good {lv rv : Value} {l : List Stp} {recs : List Rcd} {kind n : Int} {w : World} (ho : Ov w lv l) (hr : Rv w rv recs) (hc : checkB l = true) (hk : knownB kind = true) (hsz : recs.length * 16 ≤ 140737488351232) :
    Calls Try.prog 5 #[.agg #[lv, .int .i64 kind, rv, .int .i64 n]] w fun e w' => e = .returned (.bool true) ∧ Below w.heap.size w w' := by
  have HO : Hid (Ov w lv l) := ho
  have HR : Hid (Rv w rv recs) := hr
  have HSZ : Hid (recs.length * 24 ≤ 281474976710656) := by show _ ≤ _; omega
  have HRO : Hid (∀ r ∈ recs, r.ok) := hr.2
  obtain ⟨k, hke⟩ : ∃ k, k = placeN n recs.length := ⟨_, rfl⟩
  have HKE : Hid (k = placeN n recs.length) := hke
  have hkl : k ≤ recs.length := by rw [hke]; exact place_le _ _
  have hrl : (recs.length : Int) ≤ 11728124029610 := by omega
  clear ho hr hsz hke
  have J0 := jb_new w lv rv kind n 43
  go_enter Try.func5, Try.ntmps5
  go_wp2_with fail
  refine (awake_walk _).mono ?_
  rintro e w1 ⟨rfl, hB1⟩
  have HB1 : Hid (Below w.heap.size w w1) := below_trans (below_alloc _ _) hB1
  have HJ1 : Hid (JB w1 w.heap.size lv kind rv n) := J0.below hB1
  clear hB1 J0
  obtain ⟨c0, c1, c2, c3⟩ := HJ1.out
  go_wp2_with fail
  refine (right_walk (HO.out.below HB1.out)).mono ?_
  rw [hc, hk]
  rintro e w2 ⟨rfl, hB2⟩
  have HB2 : Hid (Below w.heap.size w w2) := below_trans HB1.out hB2
  have HJ2 : Hid (JB w2 w.heap.size lv kind rv n) := HJ1.out.below hB2
  clear hB2 c0 c1 c2 c3
  obtain ⟨c0, c1, c2, c3⟩ := HJ2.out
  go_wp2_with fail
  refine (place_walk (HR.out.below HB2.out) (by omega)).mono ?_
  rw [← HKE.out]
  rintro e w3 ⟨rfl, hB3⟩
  have HB3 : Hid (Below w.heap.size w w3) := below_trans HB2.out hB3
  have HJ3 : Hid (JB w3 w.heap.size lv kind rv n) := HJ2.out.below hB3
  clear hB3 c0 c1 c2 c3 HB1 HJ1 HB2 HJ2
  obtain ⟨c0, c1, c2, c3⟩ := HJ3.out
  go_wp2_with fail
  refine (table_walk (HO.out.below HB3.out) (HR.out.below HB3.out) hc hk HSZ.out).mono ?_
  rintro e w4 ⟨g0, rfl, hM4, _, hg4, hB4⟩
  have HB4 : Hid (Below w.heap.size w w4) := below_trans HB3.out hB4
  have HJ4 : Hid (JB w4 w.heap.size lv kind rv n) := HJ3.out.below hB4
  have HM4 : Hid (Mq w4 g0 (batchT l kind recs)) := hM4
  have HG4 : Hid (g0 < w4.heap.size) := hg4
  clear hB4 hM4 hg4 c0 c1 c2 c3 HB3 HJ3
  have k0 : ∀ wx, Below w4.heap.size w4 wx → wx.cell? ⟨w.heap.size, 0, none⟩ = some lv := fun wx h => (HJ4.out.below h).c0
  have k1 : ∀ wx, Below w4.heap.size w4 wx → wx.cell? ⟨w.heap.size, 1, none⟩ = some (.int .i64 kind) := fun wx h => (HJ4.out.below h).c1
  have k2 : ∀ wx, Below w4.heap.size w4 wx → wx.cell? ⟨w.heap.size, 2, none⟩ = some rv := fun wx h => (HJ4.out.below h).c2
  have k3 : ∀ wx, Below w4.heap.size w4 wx → wx.cell? ⟨w.heap.size, 3, none⟩ = some (.int .i64 n) := fun wx h => (HJ4.out.below h).c3
  obtain ⟨ao, cap, hrv, hrc, hcm, hcn, hrl4⟩ := HR.out.parts
  subst hrv
  have hkc : (k : Int) ≤ (cap : Int) := by omega
  have HSZ1 : Hid ((recs.take k).length * 24 ≤ 281474976710656) := by have := HSZ.out; show _ ≤ _; simp; omega
  have HSZ2 : Hid ((recs.drop k).length * 24 ≤ 281474976710656) := by have := HSZ.out; show _ ≤ _; simp; omega
  go_wp2_with fail
  go_cut [10, 11, 12] (fun a b c wx => ∃ g, a = .slice (some ⟨g, 0, none⟩) (batchT l kind (recs.take k)).length (batchT l kind (recs.take k)).length ∧ b = .int .i64 (trapN l (recs.take k)) ∧ c = .bool true ∧ Mq wx g (batchT l kind (recs.take k)) ∧ g < wx.heap.size ∧ Below w4.heap.size w4 wx)
  case first =>
    go_region_held3 (fun wx => Below w4.heap.size w4 wx) (first | assumption | exact (Below.refl _ _).drew)
      ((go_at_call 22; refine (table_walk (recs := recs.take k) (HO.out.below (below_trans HB4.out (by assumption))) (rv_take (HR.out.below (below_trans HB4.out (by assumption))) hkl) hc hk HSZ1.out).mono ?_; rintro e w5 ⟨g1, rfl, hM5, _, hg5, hB5⟩; have hS5 : Below w4.heap.size w4 w5 := below_trans (by assumption) hB5))
    all_goals go_wp2_with fail
    all_goals go_meet
    all_goals exact ⟨g1, rfl, rfl, rfl, hM5, hg5, hS5⟩
  case rest =>
    obtain ⟨g1, rfl, rfl, rfl, hM5, hg5, hB5⟩ := hcut
    obtain ⟨w5, hw5⟩ : ∃ w5, w5 = wc := ⟨_, rfl⟩
    subst hw5
    have HB5 : Hid (Below w.heap.size w w5) := below_trans HB4.out hB5
    have HJ5 : Hid (JB w5 w.heap.size lv kind (.slice ao recs.length cap) n) := HJ4.out.below hB5
    have HM5 : Hid (Mq w5 g0 (batchT l kind recs)) := HM4.out.below hB5 HG4.out
    have HG5 : Hid (g0 < w5.heap.size) := Nat.lt_of_lt_of_le HG4.out hB5.size
    have HN5 : Hid (Mq w5 g1 (batchT l kind (recs.take k))) := hM5
    have HH5 : Hid (g1 < w5.heap.size) := hg5
    clear k0 k1 k2 k3 hB5 hM5 hg5 HB4 HJ4 HM4 HG4
    have k0 : ∀ wx, Below w5.heap.size w5 wx → wx.cell? ⟨w.heap.size, 0, none⟩ = some lv := fun wx h => (HJ5.out.below h).c0
    have k1 : ∀ wx, Below w5.heap.size w5 wx → wx.cell? ⟨w.heap.size, 1, none⟩ = some (.int .i64 kind) := fun wx h => (HJ5.out.below h).c1
    have k2 : ∀ wx, Below w5.heap.size w5 wx → wx.cell? ⟨w.heap.size, 2, none⟩ = some (.slice ao recs.length cap) := fun wx h => (HJ5.out.below h).c2
    have k3 : ∀ wx, Below w5.heap.size w5 wx → wx.cell? ⟨w.heap.size, 3, none⟩ = some (.int .i64 n) := fun wx h => (HJ5.out.below h).c3
    go_wp2_with fail
    go_cut [13, 14, 15] (fun a b c wx => ∃ g, a = .slice (some ⟨g, 0, none⟩) (batchT l kind (recs.drop k)).length (batchT l kind (recs.drop k)).length ∧ b = .int .i64 (trapN l (recs.drop k)) ∧ c = .bool true ∧ Mq wx g (batchT l kind (recs.drop k)) ∧ g < wx.heap.size ∧ Below w5.heap.size w5 wx)
    case first =>
      go_region_held3 (fun wx => Below w5.heap.size w5 wx) (first | assumption | exact (Below.refl _ _).drew)
        ((go_at_call 22; generalize hq : (if cap = k then ao else Option.map (fun x => x.add (k * 2)) ao) = qo; refine (table_walk (recs := recs.drop k) (HO.out.below (below_trans HB5.out (by assumption))) (by rw [← hq]; exact rv_drop (HR.out.below (below_trans HB5.out (by assumption))) hkl _ Iff.rfl) hc hk HSZ2.out).mono ?_; clear hq; rintro e w6 ⟨g2, rfl, hM6, _, hg6, hB6⟩; have hS6 : Below w5.heap.size w5 w6 := below_trans (by assumption) hB6))
      all_goals go_wp2_with fail
      all_goals go_meet
      all_goals exact ⟨g2, rfl, rfl, rfl, hM6, hg6, hS6⟩
    case rest =>
      obtain ⟨g2, rfl, rfl, rfl, hM6, hg6, hB6⟩ := hcut
      obtain ⟨w6, hw6⟩ : ∃ w6, w6 = wc := ⟨_, rfl⟩
      subst hw6
      have HB6 : Hid (Below w.heap.size w w6) := below_trans HB5.out hB6
      have HJ6 : Hid (JB w6 w.heap.size lv kind (.slice ao recs.length cap) n) := HJ5.out.below hB6
      have HA6 : Hid (Mq w6 g0 (batchT l kind recs)) := HM5.out.below hB6 HG5.out
      have HN6 : Hid (Mq w6 g1 (batchT l kind (recs.take k))) := HN5.out.below hB6 HH5.out
      have HQ6 : Hid (Mq w6 g2 (batchT l kind (recs.drop k))) := hM6
      have HG6 : Hid (g0 < w6.heap.size) := Nat.lt_of_lt_of_le HG5.out hB6.size
      have HH6 : Hid (g1 < w6.heap.size) := Nat.lt_of_lt_of_le HH5.out hB6.size
      have HK6 : Hid (g2 < w6.heap.size) := hg6
      clear k0 k1 k2 k3 hB6 hM6 hg6 HB5 HJ5 HM5 HG5 HN5 HH5
      have htr : IntKind.i64.wrap ((trapN l (recs.take k) : Int) + (trapN l (recs.drop k) : Int)) = (trapN l recs : Int) := by
        have e : trapN l recs = trapN l (recs.take k) + trapN l (recs.drop k) := by rw [← trap_append, List.take_append_drop]
        have := trap_le l recs
        rw [e]
        rw [wrap_small (by omega) (by omega)]
        simp
      have HLN : Hid ((batchT l kind recs).length ≤ maxLen) := by have := batch_len l kind recs; show _ ≤ _; simp only [maxLen]; omega
      have HLA : Hid ((batchT l kind (recs.take k)).length ≤ maxLen) := by have := batch_len l kind (recs.take k); simp at this; show _ ≤ _; simp only [maxLen]; omega
      have HLB : Hid ((batchT l kind (recs.drop k)).length ≤ maxLen) := by have := batch_len l kind (recs.drop k); simp at this; show _ ≤ _; simp only [maxLen]; omega
      have HLS : Hid (((batchT l kind (recs.take k)).length + (batchT l kind (recs.drop k)).length) * 24 ≤ 281474976710656) := by
        have := batch_len l kind (recs.take k); have := batch_len l kind (recs.drop k); have := HSZ.out; simp at *; show _ ≤ _; omega
      have HLT : Hid (((batchT l kind (recs.drop k)).length + (batchT l kind (recs.take k)).length) * 24 ≤ 281474976710656) := by have := HLS.out; show _ ≤ _; omega
      have HOA : Hid (okT (batchT l kind (recs.take k))) := batch_ok (take_ok HRO.out k)
      have HOB : Hid (okT (batchT l kind (recs.drop k))) := batch_ok (fun r hr => HRO.out r (List.mem_of_mem_drop hr))
      obtain ⟨c0, c1, c2, c3⟩ := HJ6.out
      go_wp2_with fail
      refine (add_good (qv_of_mq HN6.out HOA.out HLA.out) (qv_of_mq HQ6.out HOB.out HLB.out) hk (tab_batch hk _) (tab_batch hk _) HLS.out).mono ?_
      rw [take_drop_batch hk HRO.out]
      rintro e w7 ⟨g3, rfl, hM7, _, hg7, hB7⟩
      have HB7 : Hid (Below w.heap.size w w7) := below_trans HB6.out hB7
      have HJ7 : Hid (JB w7 w.heap.size lv kind (.slice ao recs.length cap) n) := HJ6.out.below hB7
      have HA7 : Hid (Mq w7 g0 (batchT l kind recs)) := HA6.out.below hB7 HG6.out
      have HN7 : Hid (Mq w7 g1 (batchT l kind (recs.take k))) := HN6.out.below hB7 HH6.out
      have HQ7 : Hid (Mq w7 g2 (batchT l kind (recs.drop k))) := HQ6.out.below hB7 HK6.out
      have HG7 : Hid (g0 < w7.heap.size) := Nat.lt_of_lt_of_le HG6.out hB7.size
      have HT7 : Hid (Mq w7 g3 (batchT l kind recs)) := hM7
      have HI7 : Hid (g3 < w7.heap.size) := hg7
      clear c0 c1 c2 c3 hB7 hM7 hg7 HB6 HJ6 HA6 HN6 HQ6 HG6 HH6 HK6 htr
      obtain ⟨c0, c1, c2, c3⟩ := HJ7.out
      go_wp2_with fail
      refine (add_good (qv_of_mq HQ7.out HOB.out HLB.out) (qv_of_mq HN7.out HOA.out HLA.out) hk (tab_batch hk _) (tab_batch hk _) HLT.out).mono ?_
      rw [drop_take_batch hk HRO.out]
      rintro e w8 ⟨g4, rfl, hM8, _, hg8, hB8⟩
      have HB8 : Hid (Below w.heap.size w w8) := below_trans HB7.out hB8
      have HA8 : Hid (Mq w8 g0 (batchT l kind recs)) := HA7.out.below hB8 HG7.out
      have HT8 : Hid (Mq w8 g3 (batchT l kind recs)) := HT7.out.below hB8 HI7.out
      have HU8 : Hid (Mq w8 g4 (batchT l kind recs)) := hM8
      clear c0 c1 c2 c3 hB8 hM8 hg8 HB7 HJ7 HA7 HN7 HQ7 HG7 HT7 HI7
      go_wp2_with fail
      refine (same_walk HLN.out (mq_ql HT8.out) (mq_ql HA8.out)).mono ?_
      rintro e w9 ⟨rfl, hB9⟩
      go_wp2_with fail
      refine (same_walk HLN.out ((mq_ql HU8.out).below hB9) ((mq_ql HA8.out).below hB9)).mono ?_
      rintro e w10 ⟨rfl, hB10⟩
      go_wp2_with fail
      go_ret
      exact ⟨rfl, below_trans HB8.out (below_trans hB9 hB10)⟩

theorem foldparts_walk {lv rv : Value} {l : List Stp} {recs : List Rcd} {kind n : Int} {w : World} (ho : Ov w lv l) (hr : Rv w rv recs) (hsz : recs.length * 16 ≤ 140737488351232) :
    Calls Try.prog 5 #[.agg #[lv, .int .i64 kind, rv, .int .i64 n]] w fun e w' => e = .returned (.bool true) ∧ Below w.heap.size w w' := by
  cases hb : checkB l && knownB kind
  · exact parts_bad ho hb
  · rw [Bool.and_eq_true] at hb
    exact parts_good ho hr hb.1 hb.2 hsz
end Go.Proofs.Ytfcpooihihklaaa
