/- Format. -/
import Derived.Test.YtnnammlipfappaaJg

namespace Go.Proofs.Ytnnammlipfappaa

open Ieee Go.RowKit



def n0 (q : Nat) : Nt := ⟨0, zeros q, zeros q, 0⟩
theorem n0_rgt {q : Nat} : Rgt (n0 q) q := ⟨Int.le_refl _, by show (0 : Int) ≤ _; omega, by show (0 : Int) ≤ _; omega, by simp [n0, zeros_len], by simp [n0, zeros_len], right_zero q, fun i _ => by show nth (zeros q) i ≤ 256; rw [zeros_nth]; decide⟩
def fmtI (S : Dk) (q : Int) : Int := if refJ q ≠ 0 then 1 else if S.bl.length < 2 then 92 else if writeI S 1 [] ≠ 0 then writeI S 1 [] else writeI (writeS S 1 []) 0 (bytN 1 (n0 q.toNat))
def fmtS (S : Dk) (q : Int) : Dk := if refJ q ≠ 0 then S else if S.bl.length < 2 then S else if writeI S 1 [] ≠ 0 then writeS S 1 [] else writeS (writeS S 1 []) 0 (bytN 1 (n0 q.toNat))
theorem refJ_no {q : Int} (h : refJ q ≠ 0) : refJ q = 1 := by unfold refJ at h ⊢; split <;> simp_all
theorem refJ_ok {q : Int} (h : refJ q = 0) : ∃ k : Nat, q = k ∧ 1 ≤ k ∧ k ≤ 4 := by
  unfold refJ at h
  split at h
  · omega
  · exact ⟨q.toNat, by omega, by omega, by omega⟩


/-- What the making of the first entry leaves. -/
def F0 (w : World) (q : Nat) (e0 : Nat) (pv cv : Value) (W : World) : Prop := W.heap[e0]? = some (.cells #[.int .i64 1, .int .i64 0, pv, cv, .int .i64 0] 60 (0, 0)) ∧ OwN w.heap.size W pv (zeros q) ∧ OwN w.heap.size W cv (zeros q) ∧ w.heap.size ≤ e0 ∧ Below w.heap.size w W ∧ (∃ a n c, pv = .slice a n c) ∧ (∃ a n c, cv = .slice a n c)
theorem own_at {q P B : Nat} {W : World} {Z : Array Value} (hZ : Z = madeCells #[Value.int .i64 0] (q * 1)) (hq : q ≤ 4) (hP : W.heap[P]? = some (.cells Z 3 (0, 0))) (hB : B ≤ P) : OwN B W (.slice (some ⟨P, 0, none⟩) q q) (zeros q) := by
  refine ⟨by simp [zeros], .inr ⟨P, q, Z, by rw [zeros_len], hB, hP, by rw [zeros_len]; exact Nat.le_refl _, by simp [maxLen]; omega, by rw [hZ, size_madeCells], ?_⟩⟩
  rw [hZ, made_zeros, zeros_len]
  simp [zeros]
theorem f0_of {w W : World} {E P C q : Nat} {Z : Array Value} (hZ : Z = madeCells #[Value.int .i64 0] (q * 1)) (hq : q ≤ 4) (hW : Below w.heap.size w W)
    (hT : W.heap[E]? = some (.cells #[.int .i64 1, .int .i64 0, .slice (some ⟨P, 0, none⟩) q q, .slice (some ⟨C, 0, none⟩) q q, .int .i64 0] 60 (0, 0))) (hP : W.heap[P]? = some (.cells Z 3 (0, 0))) (hC : W.heap[C]? = some (.cells Z 3 (0, 0))) (_n1 : P ≠ E) (_n2 : C ≠ E) (h1 : w.heap.size ≤ E) (h2 : w.heap.size ≤ P) (h3 : w.heap.size ≤ C) : ∃ pv cv, F0 w q E pv cv W :=
  ⟨_, _, hT, own_at hZ hq hP h2, own_at hZ hq hC h3, h1, hW, ⟨_, _, _, rfl⟩, ⟨_, _, _, rfl⟩⟩
/-- What Format answers. -/
def FmGot (D : Nat → Prop) (dv : Value) (S : Dk) (q : Int) (w : World) (e : Ending) (w' : World) : Prop := ∃ (v : Value) (D' : Nat → Prop), e = .returned (.tuple #[v, .int .i64 (fmtI S q)]) ∧ (∀ x, D' x → D x ∨ w.heap.size ≤ x) ∧ Ch D w w' ∧ Dsk 70 D' w' dv (fmtS S q) ∧ (fmtI S q ≠ 0 → v = .pointer none) ∧ (fmtI S q = 0 → ∃ K : Nat → Prop, Jr K w' v dv q ⟨1, n0 q.toNat, 0, false⟩ ∧ ∀ x, K x → w.heap.size ≤ x ∧ ¬ D' x)
theorem jformat_nil {w : World} (q : Int) : Calls Try.prog 6 #[.pointer none, .int .i64 q] w fun e w' => e = .returned (.tuple #[.pointer none, .int .i64 2]) ∧ w' = w := by
  go_enter Try.func6, Try.ntmps6
  go_wp2_with fail
  refine (jref_nil q).mono ?_
  rintro e w9 ⟨rfl, h9⟩
  replace h9 := h9.symm
  subst h9
  go_wp2_with fail
  go_ret2
  exact ⟨rfl, rfl⟩
section

variable {D : Nat → Prop} {w : World} {dv : Value} {S : Dk} {q : Int}

theorem wr_le (S : Dk) (i : Int) (b : List Nat) : (writeS S i b).wr ≤ S.wr + 1 := by
  unfold writeS
  split
  · omega
  · split
    · omega
    · split
      · show S.wr ≤ _; omega
      · exact Nat.le_refl _
theorem fm_yes {D2 : Nat → Prop} {w4 : World} {sv pv cv : Value} {k : Nat} {S2 : Dk} (hd : Dsk 70 D2 w4 sv S2) (hD : ∀ x, D2 x → D x ∨ w.heap.size ≤ x) (hC : Ch D w w4) (hS : fmtS S k = S2) (hI : fmtI S k = 0) (_h1 : 1 ≤ k) (h4 : k ≤ 4) (hop : OwN w.heap.size w4 pv (zeros k)) (hoc : OwN w.heap.size w4 cv (zeros k)) (np : ∀ x, pv.ownBlock = some x → ¬ D2 x) (nc : ∀ x, cv.ownBlock = some x → ¬ D2 x) :
    FmGot D sv S k w (.returned (.tuple #[.pointer (some ⟨w4.heap.size, 0, none⟩), .int .i64 0])) (w4.alloc (Obj.cells #[.int .i64 1, .int .i64 0, pv, cv, .int .i64 0, sv, .int .i64 0, .bool false] 64)) := by
  have hb := below_alloc w4 (Obj.cells #[.int .i64 1, .int .i64 0, pv, cv, .int .i64 0, sv, .int .i64 0, .bool false] 64)
  have hs := alloc_size w4 (Obj.cells #[.int .i64 1, .int .i64 0, pv, cv, .int .i64 0, sv, .int .i64 0, .bool false] 64)
  have hcs := hC.size
  refine ⟨_, D2, by rw [hI], hD, hC.trans (Ch.of_below (D := D) hb) (fun x hx => .inl hx), by rw [hS]; exact hd.below hb, fun h => absurd hI h, fun _ => ⟨fun x => x = w4.heap.size ∨ pv.ownBlock = some x ∨ cv.ownBlock = some x, ⟨w4.heap.size, pv, cv, rfl, ⟨alloc_at rfl, ?_, ?_, .inl rfl, fun x hx => ⟨.inr (.inl hx), ?_⟩, fun x hx => ⟨.inr (.inr hx), ?_⟩, ?_, ⟨Nat.le_refl _, by show (1 : Nat) ≤ _; omega, n0_rgt, by omega, by show (0 : Nat) ≤ _; omega⟩⟩⟩, ?_⟩⟩
  · exact own_base (own_below hop hb) (Nat.zero_le _)
  · exact own_base (own_below hoc hb) (Nat.zero_le _)
  · have := (hop.lt x hx).2; omega
  · have := (hoc.lt x hx).2; omega
  · rintro x (rfl | hx | hx)
    · omega
    · have := (hop.lt x hx).2; omega
    · have := (hoc.lt x hx).2; omega
  · rintro x (rfl | hx | hx)
    · exact ⟨hcs, fun h => by have := hd.lt h; omega⟩
    · exact ⟨(hop.lt x hx).1, np x hx⟩
    · exact ⟨(hoc.lt x hx).1, nc x hx⟩
theorem fm_no {D' : Nat → Prop} {w' : World} {c : Int} (hD : ∀ x, D' x → D x ∨ w.heap.size ≤ x) (hC : Ch D w w') (hd : Dsk 70 D' w' dv (fmtS S q)) (hI : fmtI S q = c) (h0 : c ≠ 0) : FmGot D dv S q w (.returned (.tuple #[.pointer none, .int .i64 c])) w' :=
  ⟨_, D', by rw [hI], hD, hC, hd, fun _ => rfl, fun h => absurd (hI.symm.trans h) h0⟩
set_option maxRecDepth 100000 in
set_option maxHeartbeats 4000000 in
theorem jformat_walk (h : Dsk 70 D w dv S) (hwr : S.wr < 9223372036854775800) : Calls Try.prog 6 #[dv, .int .i64 q] w (FmGot D dv S q w) := by
  have HD : Hid (Dsk 70 D w dv S) := h
  have HWR : Hid (S.wr < 9223372036854775800) := hwr
  obtain ⟨sb, gp, cap, rfl, _, _⟩ := h
  clear hwr
  by_cases hr : refJ q = 0
  rotate_left
  · have HR : Hid (refJ q = 1) := refJ_no hr
    have HA : Hid (FmGot D (.pointer (some ⟨sb, 0, none⟩)) S q w (.returned (.tuple #[.pointer none, .int .i64 1])) w) := fm_no (fun x hx => .inl hx) (Ch.refl _ _) (by unfold fmtS; rw [if_pos hr]; exact HD.out) (by unfold fmtI; rw [if_pos hr]) (by decide)
    clear hr
    go_enter Try.func6, Try.ntmps6
    go_wp2_with fail
    refine (jref_walk _ q).mono ?_
    rintro e w9 ⟨rfl, h9⟩
    replace h9 := h9.symm
    subst h9
    rw [HR.out]
    go_wp2_with fail
    go_ret2
    exact HA.out
  obtain ⟨k, rfl, hk1, hk4⟩ := refJ_ok hr
  have HR : Hid (refJ k = 0) := hr
  have HK1 : Hid (1 ≤ k) := hk1
  have hq4 : k ≤ 4 := hk4
  clear hr hk1 hk4
  by_cases h2 : S.bl.length < 2
  · have HA : Hid (FmGot D (.pointer (some ⟨sb, 0, none⟩)) S k w (.returned (.tuple #[.pointer none, .int .i64 92])) w) := fm_no (fun x hx => .inl hx) (Ch.refl _ _) (by unfold fmtS; rw [if_neg (by simp [HR.out]), if_pos h2]; exact HD.out) (by unfold fmtI; rw [if_neg (by simp [HR.out]), if_pos h2]) (by decide)
    go_enter Try.func6, Try.ntmps6
    go_wp2_with fail
    refine (jref_walk _ _).mono ?_
    rintro e w9 ⟨rfl, h9⟩
    replace h9 := h9.symm
    subst h9
    rw [HR.out]
    go_wp2_with fail
    refine (blocks_walk HD.out).mono ?_
    rintro e w9 ⟨rfl, h9⟩
    replace h9 := h9.symm
    subst h9
    go_wp2_with fail
    go_ret2
    exact HA.out
  have HFI : Hid (fmtI S k = if writeI S 1 [] ≠ 0 then writeI S 1 [] else writeI (writeS S 1 []) 0 (bytN 1 (n0 k))) := by show _ = _; unfold fmtI; rw [if_neg (by simp [HR.out]), if_neg h2]; rfl
  have HFS : Hid (fmtS S k = if writeI S 1 [] ≠ 0 then writeS S 1 [] else writeS (writeS S 1 []) 0 (bytN 1 (n0 k))) := by show _ = _; unfold fmtS; rw [if_neg (by simp [HR.out]), if_neg h2]; rfl
  obtain ⟨Z, hZ⟩ : ∃ Z, Z = madeCells #[Value.int .i64 0] (k * 1) := ⟨_, rfl⟩
  have hmk := make_ints hq4
  rw [← hZ] at hmk
  have HZ : Hid (Z = madeCells #[Value.int .i64 0] (k * 1)) := hZ
  clear hZ
  go_enter Try.func6, Try.ntmps6
  go_wp2_with fail
  refine (jref_walk _ _).mono ?_
  rintro e w9 ⟨rfl, h9⟩
  replace h9 := h9.symm
  subst h9
  rw [HR.out]
  go_wp2_with fail
  refine (blocks_walk HD.out).mono ?_
  rintro e w9 ⟨rfl, h9⟩
  replace h9 := h9.symm
  subst h9
  go_wp2_with fail
  go_cut [7] (fun tv wx => ∃ E, tv = .pointer (some ⟨E, 0, none⟩) ∧ ∃ pv cv, F0 w k E pv cv wx)
  case first =>
    go_region_with (fail)
    all_goals go_wp2_with fail
    all_goals go_meet
    all_goals refine ⟨_, rfl, ?_⟩
    all_goals first
        | exact f0_of HZ.out hq4 (below3 _ _ _ _) (heap3 w _ _ _).2.2 (heap3 w _ _ _).1 (heap3 w _ _ _).2.1 (by omega) (by omega) (by omega) (by omega) (by omega)
        | exact f0_of HZ.out hq4 (below3 _ _ _ _) (heap3 w _ _ _).2.1 (heap3 w _ _ _).1 (heap3 w _ _ _).2.2 (by omega) (by omega) (by omega) (by omega) (by omega)
        | exact f0_of HZ.out hq4 (below3 _ _ _ _) (heap3 w _ _ _).2.2 (heap3 w _ _ _).2.1 (heap3 w _ _ _).1 (by omega) (by omega) (by omega) (by omega) (by omega)
        | exact f0_of HZ.out hq4 (below3 _ _ _ _) (heap3 w _ _ _).2.1 (heap3 w _ _ _).2.2 (heap3 w _ _ _).1 (by omega) (by omega) (by omega) (by omega) (by omega)
        | exact f0_of HZ.out hq4 (below3 _ _ _ _) (heap3 w _ _ _).1 (heap3 w _ _ _).2.1 (heap3 w _ _ _).2.2 (by omega) (by omega) (by omega) (by omega) (by omega)
        | exact f0_of HZ.out hq4 (below3 _ _ _ _) (heap3 w _ _ _).1 (heap3 w _ _ _).2.2 (heap3 w _ _ _).2.1 (by omega) (by omega) (by omega) (by omega) (by omega)
  case rest =>
    obtain ⟨E, rfl, pv, cv, hE, hop, hoc, hEb, hB1, ⟨pa, pn, pc, rfl⟩, ⟨ca, cn, cc, rfl⟩⟩ := hcut
    obtain ⟨w1, hw1⟩ : ∃ w1, w1 = wc := ⟨_, rfl⟩
    subst hw1
    have HE : Hid (w1.heap[E]? = some (.cells #[.int .i64 1, .int .i64 0, .slice pa pn pc, .slice ca cn cc, .int .i64 0] 60 (0, 0))) := hE
    have HOP : Hid (OwN w.heap.size w1 (.slice pa pn pc) (zeros k)) := hop
    have HOC : Hid (OwN w.heap.size w1 (.slice ca cn cc) (zeros k)) := hoc
    have HEB : Hid (w.heap.size ≤ E) := hEb
    have HB1 : Hid (Below w.heap.size w w1) := hB1
    clear hE hop hoc hEb hB1 hmk
    go_wp2_with fail
    refine (write_walk (HD.out.below HB1.out) 1 (Bv.nil _) (by have := HWR.out; omega)).mono ?_
    rintro e w2 ⟨rfl, ⟨D1, hD1, hDD⟩, hC2⟩
    have HD1 : Hid (Dsk 70 D1 w2 (.pointer (some ⟨sb, 0, none⟩)) (writeS S 1 [])) := hD1
    have HDD : Hid (∀ x, D1 x → D x ∨ w1.heap.size ≤ x) := hDD
    have HC2 : Hid (Ch D w1 w2) := hC2
    have HCW : Hid (Ch D w w2) := (Ch.of_below (D := D) HB1.out).trans hC2 (fun x hx => .inl hx)
    have HNW : Hid (∀ x, w.heap.size ≤ x → x < w1.heap.size → ¬ D1 x ∧ w2.heap[x]? = w1.heap[x]?) := fun x h1 h2 => ⟨fun h => by
      rcases HDD.out x h with h | h
      · have := HD.out.lt h; omega
      · omega, hC2.block x h2 (fun h => by have := HD.out.lt h; omega)⟩
    clear hD1 hDD hC2
    by_cases hi : writeI S 1 [] = 0
    rotate_left
    · have HA : Hid (FmGot D (.pointer (some ⟨sb, 0, none⟩)) S k w (.returned (.tuple #[.pointer none, .int .i64 (writeI S 1 [])])) w2) := fm_no (fun x hx => (HDD.out x hx).imp id fun h => Nat.le_trans HB1.out.size h) HCW.out (by rw [HFS.out, if_pos hi]; exact HD1.out) (by rw [HFI.out, if_pos hi]) hi
      obtain ⟨c, hc⟩ : ∃ c, c = writeI S 1 [] := ⟨_, rfl⟩
      rw [← hc] at HA hi ⊢
      have hne : (c != 0) = true := by simp [hi]
      clear hc hi
      go_wp2_with fail
      go_ret2
      exact HA.out
    have HFI2 : Hid (fmtI S k = writeI (writeS S 1 []) 0 (bytN 1 (n0 k))) := by show _ = _; rw [HFI.out, if_neg (by simp [hi])]
    have HFS2 : Hid (fmtS S k = writeS (writeS S 1 []) 0 (bytN 1 (n0 k))) := by show _ = _; rw [HFS.out, if_neg (by simp [hi])]
    have HWR2 : Hid ((writeS S 1 []).wr ≤ S.wr + 1) := wr_le _ _ _
    rw [hi]
    clear hi
    have HEL : Hid (E < w1.heap.size) := blk_lt HE.out
    have HE2 : Hid (w2.heap[E]? = some (.cells #[.int .i64 1, .int .i64 0, .slice pa pn pc, .slice ca cn cc, .int .i64 0] 60 (0, 0))) := by show _ = _; rw [(HNW.out E HEB.out HEL.out).2]; exact HE.out
    have HOP2 : Hid (OwN w.heap.size w2 (.slice pa pn pc) (zeros k)) := row_keep HOP.out fun x hx => (HNW.out x (HOP.out.lt x hx).1 (HOP.out.lt x hx).2).2
    have HOC2 : Hid (OwN w.heap.size w2 (.slice ca cn cc) (zeros k)) := row_keep HOC.out fun x hx => (HNW.out x (HOC.out.lt x hx).1 (HOC.out.lt x hx).2).2
    go_wp2_with fail
    refine (bytes_walk (g := 1) (n := n0 k) (q := k) HE2.out (own_nv HOP2.out (zeros_in64 k)) (own_nv HOC2.out (zeros_in64 k)) (by decide) n0_rgt (by omega)).mono ?_
    rintro e w3 ⟨bv, rfl, hbo, hB3⟩
    have HBV : Hid (Bv w3 bv (bytN 1 (n0 k))) := own_bv hbo (bytN_lt (by decide) n0_rgt (by omega))
    have HB3 : Hid (Below w2.heap.size w2 w3) := hB3
    clear hbo hB3
    go_wp2_with fail
    refine (write_walk (HD1.out.below HB3.out) 0 HBV.out (by have := HWR.out; have := HWR2.out; omega)).mono ?_
    rintro e w4 ⟨rfl, ⟨D2, hD2, hDD2⟩, hC4⟩
    have HD2 : Hid (Dsk 70 D2 w4 (.pointer (some ⟨sb, 0, none⟩)) (writeS (writeS S 1 []) 0 (bytN 1 (n0 k)))) := hD2
    have HDD2 : Hid (∀ x, D2 x → D1 x ∨ w3.heap.size ≤ x) := hDD2
    have HC34 : Hid (Ch D1 w3 w4) := hC4
    have HDF : Hid (∀ x, D2 x → D x ∨ w.heap.size ≤ x) := fun x hx => by
      have h1 := HB1.out.size; have h2 := HCW.out.size; have h3 := HB3.out.size
      rcases hDD2 x hx with h | h
      · exact (HDD.out x h).imp id fun h => by omega
      · exact .inr (by omega)
    have HCF : Hid (Ch D w w4) := ((HCW.out.trans (Ch.of_below (D := D) HB3.out) (fun x hx => .inl hx)).trans hC4 (fun x hx => (HDD.out x hx).imp id fun h => Nat.le_trans HB1.out.size h))
    have HNW4 : Hid (∀ x, w.heap.size ≤ x → x < w1.heap.size → ¬ D2 x ∧ w4.heap[x]? = w2.heap[x]?) := fun x h1 h2 => by
      have h3 := HB3.out.size
      have h4 := HC2.out.size
      have hn := (HNW.out x h1 h2).1
      refine ⟨fun h => ?_, ?_⟩
      · rcases hDD2 x h with h | h
        · exact hn h
        · omega
      · rw [hC4.block x (by omega) hn, HB3.out.block x (by omega)]
    clear hD2 hDD2 hC4
    by_cases hi : writeI (writeS S 1 []) 0 (bytN 1 (n0 k)) = 0
    rotate_left
    · have HA : Hid (FmGot D (.pointer (some ⟨sb, 0, none⟩)) S k w (.returned (.tuple #[.pointer none, .int .i64 (writeI (writeS S 1 []) 0 (bytN 1 (n0 k)))])) w4) := fm_no HDF.out HCF.out (by rw [HFS2.out]; exact HD2.out) HFI2.out hi
      obtain ⟨c, hc⟩ : ∃ c, c = writeI (writeS S 1 []) 0 (bytN 1 (n0 k)) := ⟨_, rfl⟩
      rw [← hc] at HA hi ⊢
      have hne : (c != 0) = true := by simp [hi]
      clear hc hi
      go_wp2_with fail
      go_ret2
      exact HA.out
    have HFI3 : Hid (fmtI S k = 0) := HFI2.out.trans hi
    rw [hi]
    clear hi
    have hE4 : w4.heap[E]? = some (.cells #[.int .i64 1, .int .i64 0, .slice pa pn pc, .slice ca cn cc, .int .i64 0] 60 (0, 0)) := by rw [(HNW4.out E HEB.out HEL.out).2]; exact HE2.out
    have HOP4 : Hid (OwN w.heap.size w4 (.slice pa pn pc) (zeros k)) := row_keep HOP2.out fun x hx => (HNW4.out x (HOP.out.lt x hx).1 (HOP.out.lt x hx).2).2
    have HOC4 : Hid (OwN w.heap.size w4 (.slice ca cn cc) (zeros k)) := row_keep HOC2.out fun x hx => (HNW4.out x (HOC.out.lt x hx).1 (HOC.out.lt x hx).2).2
    have e0 : w4.cell? ⟨E, 0, none⟩ = some (.int .i64 1) := by rw [blk_cell hE4]; rfl
    have e1 : w4.cell? ⟨E, 1, none⟩ = some (.int .i64 0) := by rw [blk_cell hE4]; rfl
    have e2 : w4.cell? ⟨E, 2, none⟩ = some (.slice pa pn pc) := by rw [blk_cell hE4]; rfl
    have e3 : w4.cell? ⟨E, 3, none⟩ = some (.slice ca cn cc) := by rw [blk_cell hE4]; rfl
    have e4 : w4.cell? ⟨E, 4, none⟩ = some (.int .i64 0) := by rw [blk_cell hE4]; rfl
    clear hE4
    go_wp2_with fail
    go_ret2
    exact fm_yes HD2.out HDF.out HCF.out HFS2.out HFI3.out HK1.out hq4 HOP4.out HOC4.out (fun x hx => (HNW4.out x (HOP.out.lt x hx).1 (HOP.out.lt x hx).2).1) (fun x hx => (HNW4.out x (HOC.out.lt x hx).1 (HOC.out.lt x hx).2).1)
end

end Go.Proofs.Ytnnammlipfappaa


