/- The walk of BucketForm. -/
import Derived.Test.YtmlabiegliociaaBq
import Derived.Test.YtmlabiegliociaaBr
namespace Go.Proofs.Ytmlabiegliociaa
open Go.RowKit

theorem bv_upto {w : World} {ao : Option Addr} {n cap : Nat} {l : List Nat} (h : Bv w (.slice ao n cap) l) (k : Nat) (hk : k ≤ l.length) : Bv w (.slice ao k cap) (l.take k) := by
  obtain ⟨⟨ao', cap', e, h1, h2, h3, h4⟩, h5⟩ := h
  simp only [Value.slice.injEq] at e
  obtain ⟨rfl, _, rfl⟩ := e
  rw [ib_len] at h1
  refine ⟨⟨ao, cap, by rw [ib_len]; simp; omega, by rw [ib_len]; simp; omega, h2, h3, fun i hi => ?_⟩, fun c hc => h5 c (List.mem_of_mem_take hc)⟩
  rw [ib_len] at hi
  simp at hi
  obtain ⟨b, off, e1, e2⟩ := h4 i (by rw [ib_len]; omega)
  refine ⟨b, off, e1, ?_⟩
  rw [e2]
  have hi2 : i < l.length := by omega
  have hi3 : i < k := by omega
  simp [ib, List.getD, hi2, hi3]

set_option maxRecDepth 100000 in
set_option maxHeartbeats 8000000 in
theorem bucketform_walk {w : World} {bv cv : Value} {b : List Nat} {l : List Cl} (hb : Bv w bv b) (hc : Cv w cv l) (hok : ∀ c ∈ l, c.ok) :
    Calls Try.prog 6 #[bv, cv] w fun e w' => e = .returned (.bool true) ∧ Below w.heap.size w w' := by
  have HBW : Hid (Bv w bv b) := hb
  have HCW : Hid (Cv w cv l) := hc
  have HOK : Hid (∀ c ∈ l, c.ok) := hok
  clear hb hc hok
  go_enter Try.func6, Try.ntmps6
  go_wp2_with fail
  refine (awake_walk _).mono ?_
  rintro e w1 ⟨rfl, hB1⟩
  have HB1 : Hid (Below w.heap.size w w1) := hB1
  clear hB1
  go_wp2_with fail
  refine (decode_walk (HBW.out.below HB1.out)).mono ?_
  rintro e w2 ⟨v2, he, ho2, hB2⟩
  have HB2 : Hid (Below w.heap.size w w2) := below_trans HB1.out hB2
  obtain ⟨E, hE⟩ : ∃ E, E = (decode b).2 := ⟨_, rfl⟩
  rw [← hE] at he
  subst he
  clear hB2 HB1
  by_cases hE0 : E = 0
  · subst hE0
    have HF := form_back HBW.out.2 hE.symm
    have HC2 : Hid (Cv w2 v2 (decode b).1) := (own_cv ho2).1
    clear ho2 hE
    go_wp2_with fail
    refine (encode_walk HC2.out HF.2).mono ?_
    rintro e w3 ⟨v3, he, ho3, hB3⟩
    rw [HF.1] at he ho3
    subst he
    have HB3 : Hid (Below w.heap.size w w3) := below_trans HB2.out hB3
    have s1 : (convert 24 9 v3).run Try.prog w3 = .ok (.string (str b)) w3 := (own_bv ho3 HBW.out.2).str 24 5 9 Try.underlying24 Try.underlying5 Try.underlying9
    have s2 : (convert 24 9 bv).run Try.prog w3 = .ok (.string (str b)) w3 := (HBW.out.below HB3.out).str 24 5 9 Try.underlying24 Try.underlying5 Try.underlying9
    clear ho3 hB3 HF HC2 HB2
    generalize str b = S0 at s1 s2
    go_wp2_with fail
    clear s1 s2
    refine (encode_walk (HCW.out.below HB3.out) HOK.out).mono ?_
    rintro e w4 ⟨v4, he, ho4, hB4⟩
    have HB4 : Hid (Below w.heap.size w w4) := below_trans HB3.out hB4
    obtain ⟨B, hBB⟩ : ∃ B, B = (encode l).1 := ⟨_, rfl⟩
    obtain ⟨E2, hE2⟩ : ∃ E2, E2 = (encode l).2 := ⟨_, rfl⟩
    rw [← hBB] at ho4
    rw [← hE2] at he
    subst he
    clear hB4
    by_cases h2 : E2 = 0
    rotate_left
    · have hB0 : B = [] := by rw [hBB]; exact encode_nil (by rw [← hE2]; exact h2)
      have h2i : ((E2 : Int) != 0) = true := by rw [bne_iff_ne]; omega
      obtain ⟨a4, q4, rfl⟩ := own_form8 ho4
      rw [hB0, List.length_nil]
      clear ho4 hBB hE2 h2 hB0
      go_wp2_with fail
      go_ret
      exact ⟨rfl, HB4.out⟩
    subst h2
    have HE : Hid ((encode l).2 = 0) := hE2.symm
    have HBY : Hid (∀ c ∈ B, c < 256) := by show ∀ c ∈ B, c < 256; rw [hBB]; exact form_bytes HE.out HOK.out
    have HV4 : Hid (Bv w4 v4 B) := own_bv ho4 HBY.out
    have HLEN : Hid (B.length ≤ 1024 ∧ (B.length = 0 ↔ l.length = 0)) := by show _ ∧ _; rw [hBB]; exact form_len HE.out
    have HBB : Hid (B = (encode l).1) := hBB
    clear ho4 hE2 hBB
    go_wp2_with fail
    refine (decode_walk HV4.out).mono ?_
    rintro e w5 ⟨v5, he, ho5, hB5⟩
    rw [HBB.out, form_there HE.out HOK.out] at he ho5
    subst he
    have HC5 : Hid (Cv w5 v5 l) := (own_cv ho5).1
    have HB5 : Hid (Below w.heap.size w w5) := below_trans HB4.out hB5
    have HV5 : Hid (Bv w5 v4 B) := HV4.out.below hB5
    clear ho5 hB5 HV4 HB4
    go_wp2_with fail
    refine (same_walk HC5.out (HCW.out.below HB5.out)).mono ?_
    rintro e w6 ⟨rfl, hB6⟩
    have HB6 : Hid (Below w.heap.size w w6) := below_trans HB5.out hB6
    have HV6 : Hid (Bv w6 v4 B) := HV5.out.below hB6
    clear hB6 HV5 HB5 HC5
    obtain ⟨a4, n4, q4, h4⟩ := bv_any HV6.out
    subst h4
    obtain ⟨hn4, hq4, hm4⟩ := bv_le HV6.out
    have HN4 : Hid (n4 = B.length) := hn4
    obtain ⟨co, cn, cc, hcv⟩ : ∃ co cn cc, cv = .slice co cn cc := by
      obtain ⟨ao, cap, e⟩ := HCW.out.form
      exact ⟨ao, _, cap, e⟩
    subst hcv
    have hcn : cn = l.length := by
      obtain ⟨ao, cap, e⟩ := HCW.out.form
      cases e; rfl
    have h4a : ¬ (1024 : Int) < (n4 : Int) := by have := HLEN.out.1; omega
    have h4b : (n4 : Int) ≤ (q4 : Int) := by omega
    by_cases hz : n4 = 0
    · have hcz : cn = 0 := by rw [hcn]; exact HLEN.out.2.1 (by omega)
      subst hz hcz
      clear hn4 hq4 hm4 hcn h4a h4b
      go_wp2_with fail
      go_ret
      exact ⟨rfl, HB6.out⟩
    have hzi : ((n4 : Int) == 0) = false := by rw [beq_eq_false_iff_ne]; omega
    have hci : ((cn : Int) == 0) = false := by rw [beq_eq_false_iff_ne]; have := HLEN.out.2; omega
    have HNZ : Hid (n4 ≠ 0) := hz
    have h4c : (n4 : Int) ≤ 1024 := by have := HLEN.out.1; omega
    clear hn4 hq4 hm4 hcn hz
    go_wp2_with fail
    go_loopw [11, 12] (fun _ iv wr => ∃ k : Nat, iv = .int .i64 k ∧ 1 ≤ k ∧ k ≤ n4 ∧ Below w.heap.size w wr ∧ Bv wr (.slice a4 n4 q4) B) (fun _ iv _ => n4 - (intOf iv).toNat)
    case atStart => exact ⟨1, rfl, by omega, by have := HNZ.out; omega, HB6.out, HV6.out⟩
    case round =>
      obtain ⟨k, rfl, hk1, hkn, hbel, hbv⟩ := hrel
      have HBR : Hid (Below w.heap.size w wr) := hbel
      have HVR : Hid (Bv wr (.slice a4 n4 q4) B) := hbv
      clear hbel hbv
      by_cases hlt : k < n4
      · have hlti : (k : Int) < (n4 : Int) := by omega
        have hkq : (k : Int) ≤ (q4 : Int) := by omega
        have HCUT : Hid (decode (B.take k) = ([], 3)) := by show _ = _; rw [HBB.out]; exact form_cut HE.out hk1 (by rw [← HBB.out, ← HN4.out]; exact hlt) HOK.out
        go_wp2_with fail
        refine (decode_walk (bv_upto HVR.out k (by rw [← HN4.out]; omega))).mono ?_
        rintro e w7 ⟨v7, he, _, hB7⟩
        rw [HCUT.out] at he
        subst he
        have HB7 : Hid (Below w.heap.size w w7) := below_trans HBR.out hB7
        have HV7 : Hid (Bv w7 (.slice a4 n4 q4) B) := HVR.out.below hB7
        clear hB7
        go_wp2_with fail
        go_roundw
        case rel => exact ⟨k + 1, by go_num, by omega, by omega, HB7.out, HV7.out⟩
        case measure => simp [intOf]; omega
      · have hlti : ¬ (k : Int) < (n4 : Int) := by omega
        have HO0 : Hid ((wr.alloc (Obj.cells #[] 5)).ownsRow wr.heap.size 5 1 (.slice (some ⟨wr.heap.size, 0, none⟩) 0 0) 0 []) := World.ownsRow_made wr #[] 0 (Nat.le_refl _) (by simp [maxLen]) rfl
        have HVA : Hid (Bv (wr.alloc (Obj.cells #[] 5)) (.slice a4 n4 q4) B) := HVR.out.below (below_alloc _ _)
        have HLB : Hid ((ib B).length ≤ 1024) := by show _ ≤ _; rw [ib_len]; exact HLEN.out.1
        go_wp2_with (first | (at_builtin; refine wpList_append_sv (by rfl) (.tmp 92) (.tmp 93) 24 (by rfl) wr.heap.size 5 .u8 1 Try.underlying24 info_u8 _ _ _ (by rfl) HO0.out _ _ (by rfl) HVA.out.1 (by have := HLB.out; simp only [maxLen]; omega) (by have := HLB.out; omega) (by rw [size_allocC]; omega) ?_; intro v8 w8 hown8 hgrow8; have HBA : Hid (Below wr.heap.size wr w8) := (below_alloc wr _).trans (grown_belowC HO0.out hgrow8 (by rw [size_allocC]; omega)); have HO8 : Hid (w8.ownsRow wr.heap.size 5 1 v8 (0 + (ib B).length) ((ib B).map (Value.int .u8))) := hown8; clear hown8 hgrow8) | (at_builtin; refine wpList_append_sv (by rfl) (.tmp 94) (.tmp 95) 24 (by rfl) wr.heap.size 5 .u8 1 Try.underlying24 info_u8 _ _ _ (by rfl) (HO8.out.alloc _) _ [0] (by rfl) (sv_one .u8 _ _ _) (by have := HLB.out; simp only [maxLen, List.length_singleton]; omega) (by have := HLB.out; simp only [List.length_singleton]; omega) (by rw [size_allocC]; have := HBA.out.size; omega) ?_; intro v9 w9 hown9 hgrow9))
        have HV9 : Hid (Bv w9 v9 (B ++ [0])) := by
          refine own_bv (base := wr.heap.size) (e := 5) (n := 0 + (ib B).length + [(0 : Int)].length) ?_ ?_
          · rw [ib_append, List.map_append]; exact hown9
          · intro c hc; simp only [List.mem_append, List.mem_singleton] at hc; rcases hc with h | rfl; exact HBY.out c h; omega
        have HB9 : Hid (Below w.heap.size w w9) := below_trans HBR.out (HBA.out.trans ((below_alloc w8 _).mono HBA.out.size |>.trans (grown_belowC (HO8.out.alloc _) hgrow9 (by rw [size_allocC]; have := HBA.out.size; omega))))
        have HTL : Hid (decode (B ++ [0]) = ([], 5)) := by show _ = _; rw [HBB.out]; exact form_tail HE.out (by rw [← HBB.out, ← HN4.out]; exact HNZ.out) HOK.out
        clear hown9 hgrow9
        go_wp2_with fail
        refine (decode_walk HV9.out).mono ?_
        rintro e wa ⟨va, he, _, hBa⟩
        rw [HTL.out] at he
        subst he
        go_wp2_with fail
        go_ret
        exact ⟨rfl, below_trans HB9.out hBa⟩
  · have hEi : ((E : Int) == 0) = false := by rw [beq_eq_false_iff_ne]; omega
    have HB3 : Hid (Below w.heap.size w w2) := HB2.out
    clear ho2 hE hE0 HB2
    go_wp2_with fail
    refine (encode_walk (HCW.out.below HB3.out) HOK.out).mono ?_
    rintro e w4 ⟨v4, he, ho4, hB4⟩
    have HB4 : Hid (Below w.heap.size w w4) := below_trans HB3.out hB4
    obtain ⟨B, hBB⟩ : ∃ B, B = (encode l).1 := ⟨_, rfl⟩
    obtain ⟨E2, hE2⟩ : ∃ E2, E2 = (encode l).2 := ⟨_, rfl⟩
    rw [← hBB] at ho4
    rw [← hE2] at he
    subst he
    clear hB4
    by_cases h2 : E2 = 0
    rotate_left
    · have hB0 : B = [] := by rw [hBB]; exact encode_nil (by rw [← hE2]; exact h2)
      have h2i : ((E2 : Int) != 0) = true := by rw [bne_iff_ne]; omega
      obtain ⟨a4, q4, rfl⟩ := own_form8 ho4
      rw [hB0, List.length_nil]
      clear ho4 hBB hE2 h2 hB0
      go_wp2_with fail
      go_ret
      exact ⟨rfl, HB4.out⟩
    subst h2
    have HE : Hid ((encode l).2 = 0) := hE2.symm
    have HBY : Hid (∀ c ∈ B, c < 256) := by show ∀ c ∈ B, c < 256; rw [hBB]; exact form_bytes HE.out HOK.out
    have HV4 : Hid (Bv w4 v4 B) := own_bv ho4 HBY.out
    have HLEN : Hid (B.length ≤ 1024 ∧ (B.length = 0 ↔ l.length = 0)) := by show _ ∧ _; rw [hBB]; exact form_len HE.out
    have HBB : Hid (B = (encode l).1) := hBB
    clear ho4 hE2 hBB
    go_wp2_with fail
    refine (decode_walk HV4.out).mono ?_
    rintro e w5 ⟨v5, he, ho5, hB5⟩
    rw [HBB.out, form_there HE.out HOK.out] at he ho5
    subst he
    have HC5 : Hid (Cv w5 v5 l) := (own_cv ho5).1
    have HB5 : Hid (Below w.heap.size w w5) := below_trans HB4.out hB5
    have HV5 : Hid (Bv w5 v4 B) := HV4.out.below hB5
    clear ho5 hB5 HV4 HB4
    go_wp2_with fail
    refine (same_walk HC5.out (HCW.out.below HB5.out)).mono ?_
    rintro e w6 ⟨rfl, hB6⟩
    have HB6 : Hid (Below w.heap.size w w6) := below_trans HB5.out hB6
    have HV6 : Hid (Bv w6 v4 B) := HV5.out.below hB6
    clear hB6 HV5 HB5 HC5
    obtain ⟨a4, n4, q4, h4⟩ := bv_any HV6.out
    subst h4
    obtain ⟨hn4, hq4, hm4⟩ := bv_le HV6.out
    have HN4 : Hid (n4 = B.length) := hn4
    obtain ⟨co, cn, cc, hcv⟩ : ∃ co cn cc, cv = .slice co cn cc := by
      obtain ⟨ao, cap, e⟩ := HCW.out.form
      exact ⟨ao, _, cap, e⟩
    subst hcv
    have hcn : cn = l.length := by
      obtain ⟨ao, cap, e⟩ := HCW.out.form
      cases e; rfl
    have h4a : ¬ (1024 : Int) < (n4 : Int) := by have := HLEN.out.1; omega
    have h4b : (n4 : Int) ≤ (q4 : Int) := by omega
    by_cases hz : n4 = 0
    · have hcz : cn = 0 := by rw [hcn]; exact HLEN.out.2.1 (by omega)
      subst hz hcz
      clear hn4 hq4 hm4 hcn h4a h4b
      go_wp2_with fail
      go_ret
      exact ⟨rfl, HB6.out⟩
    have hzi : ((n4 : Int) == 0) = false := by rw [beq_eq_false_iff_ne]; omega
    have hci : ((cn : Int) == 0) = false := by rw [beq_eq_false_iff_ne]; have := HLEN.out.2; omega
    have HNZ : Hid (n4 ≠ 0) := hz
    have h4c : (n4 : Int) ≤ 1024 := by have := HLEN.out.1; omega
    clear hn4 hq4 hm4 hcn hz
    go_wp2_with fail
    go_loopw [11, 12] (fun _ iv wr => ∃ k : Nat, iv = .int .i64 k ∧ 1 ≤ k ∧ k ≤ n4 ∧ Below w.heap.size w wr ∧ Bv wr (.slice a4 n4 q4) B) (fun _ iv _ => n4 - (intOf iv).toNat)
    case atStart => exact ⟨1, rfl, by omega, by have := HNZ.out; omega, HB6.out, HV6.out⟩
    case round =>
      obtain ⟨k, rfl, hk1, hkn, hbel, hbv⟩ := hrel
      have HBR : Hid (Below w.heap.size w wr) := hbel
      have HVR : Hid (Bv wr (.slice a4 n4 q4) B) := hbv
      clear hbel hbv
      by_cases hlt : k < n4
      · have hlti : (k : Int) < (n4 : Int) := by omega
        have hkq : (k : Int) ≤ (q4 : Int) := by omega
        have HCUT : Hid (decode (B.take k) = ([], 3)) := by show _ = _; rw [HBB.out]; exact form_cut HE.out hk1 (by rw [← HBB.out, ← HN4.out]; exact hlt) HOK.out
        go_wp2_with fail
        refine (decode_walk (bv_upto HVR.out k (by rw [← HN4.out]; omega))).mono ?_
        rintro e w7 ⟨v7, he, _, hB7⟩
        rw [HCUT.out] at he
        subst he
        have HB7 : Hid (Below w.heap.size w w7) := below_trans HBR.out hB7
        have HV7 : Hid (Bv w7 (.slice a4 n4 q4) B) := HVR.out.below hB7
        clear hB7
        go_wp2_with fail
        go_roundw
        case rel => exact ⟨k + 1, by go_num, by omega, by omega, HB7.out, HV7.out⟩
        case measure => simp [intOf]; omega
      · have hlti : ¬ (k : Int) < (n4 : Int) := by omega
        have HO0 : Hid ((wr.alloc (Obj.cells #[] 5)).ownsRow wr.heap.size 5 1 (.slice (some ⟨wr.heap.size, 0, none⟩) 0 0) 0 []) := World.ownsRow_made wr #[] 0 (Nat.le_refl _) (by simp [maxLen]) rfl
        have HVA : Hid (Bv (wr.alloc (Obj.cells #[] 5)) (.slice a4 n4 q4) B) := HVR.out.below (below_alloc _ _)
        have HLB : Hid ((ib B).length ≤ 1024) := by show _ ≤ _; rw [ib_len]; exact HLEN.out.1
        go_wp2_with (first | (at_builtin; refine wpList_append_sv (by rfl) (.tmp 92) (.tmp 93) 24 (by rfl) wr.heap.size 5 .u8 1 Try.underlying24 info_u8 _ _ _ (by rfl) HO0.out _ _ (by rfl) HVA.out.1 (by have := HLB.out; simp only [maxLen]; omega) (by have := HLB.out; omega) (by rw [size_allocC]; omega) ?_; intro v8 w8 hown8 hgrow8; have HBA : Hid (Below wr.heap.size wr w8) := (below_alloc wr _).trans (grown_belowC HO0.out hgrow8 (by rw [size_allocC]; omega)); have HO8 : Hid (w8.ownsRow wr.heap.size 5 1 v8 (0 + (ib B).length) ((ib B).map (Value.int .u8))) := hown8; clear hown8 hgrow8) | (at_builtin; refine wpList_append_sv (by rfl) (.tmp 94) (.tmp 95) 24 (by rfl) wr.heap.size 5 .u8 1 Try.underlying24 info_u8 _ _ _ (by rfl) (HO8.out.alloc _) _ [0] (by rfl) (sv_one .u8 _ _ _) (by have := HLB.out; simp only [maxLen, List.length_singleton]; omega) (by have := HLB.out; simp only [List.length_singleton]; omega) (by rw [size_allocC]; have := HBA.out.size; omega) ?_; intro v9 w9 hown9 hgrow9))
        have HV9 : Hid (Bv w9 v9 (B ++ [0])) := by
          refine own_bv (base := wr.heap.size) (e := 5) (n := 0 + (ib B).length + [(0 : Int)].length) ?_ ?_
          · rw [ib_append, List.map_append]; exact hown9
          · intro c hc; simp only [List.mem_append, List.mem_singleton] at hc; rcases hc with h | rfl; exact HBY.out c h; omega
        have HB9 : Hid (Below w.heap.size w w9) := below_trans HBR.out (HBA.out.trans ((below_alloc w8 _).mono HBA.out.size |>.trans (grown_belowC (HO8.out.alloc _) hgrow9 (by rw [size_allocC]; have := HBA.out.size; omega))))
        have HTL : Hid (decode (B ++ [0]) = ([], 5)) := by show _ = _; rw [HBB.out]; exact form_tail HE.out (by rw [← HBB.out, ← HN4.out]; exact HNZ.out) HOK.out
        clear hown9 hgrow9
        go_wp2_with fail
        refine (decode_walk HV9.out).mono ?_
        rintro e wa ⟨va, he, _, hBa⟩
        rw [HTL.out] at he
        subst he
        go_wp2_with fail
        go_ret
        exact ⟨rfl, below_trans HB9.out hBa⟩
end Go.Proofs.Ytmlabiegliociaa
