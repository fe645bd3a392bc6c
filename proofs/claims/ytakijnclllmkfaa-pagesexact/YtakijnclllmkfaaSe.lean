/- The reference's Format. -/
import Derived.Test.YtakijnclllmkfaaSd
namespace Go.Proofs.Ytakijnclllmkfaa
open Go.RowKit

theorem w80 {S : Dk} {k : Nat} {b : List Nat} (hk : k < S.bl.length) (hb : b.length ≤ 1024) (h : writeI S (k : Int) b ≠ 0) : writeI S (k : Int) b = 80 := by
  unfold writeI at h ⊢
  by_cases hd : S.down = true
  · have e : refI S (k : Int) = 80 := by unfold refI; rw [if_pos hd]
    rw [if_pos (by rw [e]; decide), e]
  · have e : refI S (k : Int) = 0 := by unfold refI; rw [if_neg hd, if_neg (by omega)]
    rw [if_neg (fun q => q e), if_neg (by omega)] at h ⊢
    split at h
    · rename_i hl; rw [if_pos hl]
    · exact absurd rfl h

/-- A book that is laid anew behind its table, which lies in block g beside the disk. -/
theorem ob_new2 {F : Value → Value → Bo → Array Value} {TB TD : TypeId} {D D' : Nat → Prop} {w wx : World} {dv : Value} {P : Bo} {S' : Dk} {g n cap : Nat} (hD : Dsk TD D' wx dv S') (hx : ∀ x, D' x → D x ∨ w.heap.size ≤ x) (hT : Tw wx (.slice (some ⟨g, 0, none⟩) n cap) P.tab) (hg : w.heap.size ≤ g ∧ g < wx.heap.size) (hn : ¬ D' g) {c : Int} (hc : c = 0) (hok : P.ok S'.bl.length) (hC : Ch D w wx) :
    Ob F TB TD D w dv c (some P) S' (.returned (.tuple #[.pointer (some ⟨wx.heap.size, 0, none⟩), .int .i64 0])) (wx.alloc (.cells (F (.slice (some ⟨g, 0, none⟩) n cap) dv P) TB)) := by
  subst hc
  have hs := hC.size
  have hob : ∀ x, (Value.slice (some ⟨g, 0, none⟩) n cap).ownBlock = some x → x = g := fun x hx => (Option.some.inj hx).symm
  refine ⟨_, rfl, (fun e => by cases e), (fun P' e => ?_), hC.self (Ch.of_below (below_alloc _ _))⟩
  cases e
  refine ⟨fun x => D' x ∨ x = wx.heap.size ∨ x = g, ⟨D', wx.heap.size, _, rfl, ⟨heap_alloc_new wx _, hT.below (below_alloc _ _), hD.below (below_alloc _ _), fun x hx => .inl hx, .inr (.inl rfl), fun e => by have := hD.lt e; omega, fun x hx => ?_, fun x hx => ?_, hok⟩⟩, fun x hx' => ?_⟩
  · rw [hob x hx]; exact ⟨.inr (.inr rfl), hn, by omega⟩
  · rcases hx with q | q | q
    · have := hD.lt q; simp; omega
    · subst q; simp
    · subst q; simp; omega
  · rcases hx' with q | q | q
    · exact hx x q
    · exact .inr (by omega)
    · exact .inr (by omega)

section
variable {D : Nat → Prop} {w : World} {dv : Value} {S : Dk}
theorem rformat_nil (n : Int) : Calls Try.prog 14 #[.pointer none, .int .i64 n] w fun e w' => e = .returned (.tuple #[.pointer none, .int .i64 2]) ∧ w' = w := by
  go_enter Try.func14, Try.ntmps14
  go_wp2_with fail
  go_ret2
  exact ⟨rfl, rfl⟩
theorem rformat_arg (h : Dsk 83 D w dv S) {n : Int} (hn : n < 1 ∨ 8 < n) : Calls Try.prog 14 #[dv, .int .i64 n] w fun e w' => Fm hdR 87 83 D w dv S n e w' := by
  have HD : Hid (Dsk 83 D w dv S) := h
  have HF : Hid (formO S n = (1, none, S)) := by show _ = _; unfold formO; rw [if_pos hn]
  obtain ⟨sb, hsb⟩ : ∃ sb, dv = .pointer (some ⟨sb, 0, none⟩) := by obtain ⟨sb, _, _, e, _⟩ := h; exact ⟨sb, e⟩
  subst hsb
  clear h
  rcases hn with hn | hn
  · go_enter Try.func14, Try.ntmps14
    go_wp2_with fail
    go_ret2
    exact fm_no HF.out HD.out (fun x hx => .inl hx) (Ch.refl _ _)
  · have h1 : (1 : Int) ≤ n := by omega
    have h1d : decide (n < (1 : Int)) = false := decide_eq_false (by omega)
    go_enter Try.func14, Try.ntmps14
    go_wp2_with fail
    go_ret2
    exact fm_no HF.out HD.out (fun x hx => .inl hx) (Ch.refl _ _)

set_option maxRecDepth 100000 in
set_option maxHeartbeats 2000000 in
theorem rformat_in (h : Dsk 83 D w dv S) {n : Nat} (h1 : 1 ≤ n) (h8 : n ≤ 8) (hwr : S.wr < 4611686018427387904) : Calls Try.prog 14 #[dv, .int .i64 n] w fun e w' => Fm hdR 87 83 D w dv S n e w' := by
  have HD : Hid (Dsk 83 D w dv S) := h
  have HF : Hid (formO S n = if (S.bl.length : Int) < 2 + 2 * (n : Int) then (92, none, S) else if writeI S 1 [] ≠ 0 then (80, none, writeS S 1 []) else if writeI (writeS S 1 []) 0 (rootB 1 (zer n)) ≠ 0 then (80, none, writeS (writeS S 1 []) 0 (rootB 1 (zer n))) else (0, some ⟨1, zer n, 0, false⟩, writeS (writeS S 1 []) 0 (rootB 1 (zer n)))) := by show _ = _; unfold formO; rw [if_neg (by omega), Int.toNat_natCast]
  obtain ⟨sb, hsb⟩ : ∃ sb, dv = .pointer (some ⟨sb, 0, none⟩) := by obtain ⟨sb, _, _, e, _⟩ := h; exact ⟨sb, e⟩
  subst hsb
  have HDL : Hid (∀ x, D x → x < w.heap.size) := fun x hx => h.lt hx
  have hbi : (S.bl.length : Int) ≤ 64 := by have := h.good.n64; omega
  have h1i : (1 : Int) ≤ (n : Int) := by omega
  have h1d : decide ((n : Int) < (1 : Int)) = false := decide_eq_false (by omega)
  have h8i : (n : Int) ≤ 8 := by omega
  have h8d : decide ((8 : Int) < (n : Int)) = false := decide_eq_false (by omega)
  have HN8 : Hid (1 ≤ n ∧ n ≤ 8) := ⟨h1, h8⟩
  have HWR : Hid (S.wr < 4611686018427387904) := hwr
  clear h h1 h8 hwr
  by_cases hB : (S.bl.length : Int) < 2 + 2 * (n : Int)
  · have HFO : Hid (formO S n = (92, none, S)) := by show _ = _; rw [HF.out, if_pos hB]
    go_enter Try.func14, Try.ntmps14
    go_wp2_with fail
    refine (rblocks_walk HD.out).mono ?_
    rintro e w9 ⟨rfl, h9⟩
    have h9 := h9.symm
    subst h9
    go_wp2_with fail
    go_ret2
    exact fm_no HFO.out HD.out (fun x hx => .inl hx) (Ch.refl _ _)
  · have hBi : 2 + 2 * (n : Int) ≤ (S.bl.length : Int) := by omega
    have HBN : Hid (2 + 2 * n ≤ S.bl.length) := by show _ ≤ _; omega
    have HF2 : Hid (formO S n = if writeI S 1 [] ≠ 0 then (80, none, writeS S 1 []) else if writeI (writeS S 1 []) 0 (rootB 1 (zer n)) ≠ 0 then (80, none, writeS (writeS S 1 []) 0 (rootB 1 (zer n))) else (0, some ⟨1, zer n, 0, false⟩, writeS (writeS S 1 []) 0 (rootB 1 (zer n)))) := by show _ = _; rw [HF.out, if_neg hB]
    have HBV : Hid (Bv w (.slice none 0 0) []) := ⟨⟨none, 0, rfl, Nat.le_refl _, by simp [maxLen], fun e => rfl, fun i hi => by simp [ib] at hi⟩, by simp⟩
    clear hB
    by_cases hw1 : writeI S 1 [] = 0
    · have HW1 : Hid (writeI S 1 [] = 0) := hw1
      have HF3 : Hid (formO S n = if writeI (writeS S 1 []) 0 (rootB 1 (zer n)) ≠ 0 then (80, none, writeS (writeS S 1 []) 0 (rootB 1 (zer n))) else (0, some ⟨1, zer n, 0, false⟩, writeS (writeS S 1 []) 0 (rootB 1 (zer n)))) := by show _ = _; rw [HF2.out, if_neg (fun q => q hw1)]
      clear hw1
      obtain ⟨Z, hZ⟩ : ∃ Z, Z = madeCells #[.int .i64 0] (n * 1) := ⟨_, rfl⟩
      have hmk := make_tab HN8.out.2
      rw [← hZ] at hmk
      have HZ : Hid (Z = madeCells #[.int .i64 0] (n * 1)) := hZ
      clear hZ
      go_enter Try.func14, Try.ntmps14
      go_wp2_with fail
      refine (rblocks_walk HD.out).mono ?_
      rintro e w9 ⟨rfl, h9⟩
      have h9 := h9.symm
      subst h9
      go_wp2_with fail
      refine (rwrite_walk HD.out 1 HBV.out (by have := HWR.out; omega)).mono ?_
      rintro e w1 ⟨rfl, ⟨D1, hD1, hx1⟩, hC1⟩
      rw [HW1.out]
      have HD1 : Hid (Dsk 83 D1 w1 (.pointer (some ⟨sb, 0, none⟩)) (writeS S 1 [])) := hD1
      have HX1 : Hid (∀ x, D1 x → D x ∨ w.heap.size ≤ x) := hx1
      have HC1 : Hid (Ch D w w1) := hC1
      have HZT : Hid (Zt (w1.alloc (.cells Z 3)) w1.heap.size n (zer n)) := made_zt w1 HN8.out.2 HZ.out
      have HTW : Hid (Tw (w1.alloc (.cells Z 3)) (.slice (some ⟨w1.heap.size, 0, none⟩) n n) (zer n)) := by have := HZT.out.tw; rw [zer_len] at this; exact this
      have HDA : Hid (Dsk 83 D1 (w1.alloc (.cells Z 3)) (.pointer (some ⟨sb, 0, none⟩)) (writeS S 1 [])) := hD1.below (below_alloc _ _)
      clear hD1 hx1 hC1
      go_wp2_with fail
      refine (rroot_walk (g := 1) HTW.out (by rw [zer_len]; exact HN8.out.2) (fun x hx => by rw [(List.mem_replicate.1 hx).2]; omega) (by omega)).mono ?_
      rintro e w2 ⟨v2, rfl, ho2, hB2⟩
      have HL2 : Hid ((rootB 1 (zer n)).length ≤ 1024) := Nat.le_trans (root_short (by rw [zer_len]; exact HN8.out.2)) (by omega)
      have HV2 : Hid (Bv w2 v2 (rootB 1 (zer n))) := own_bv ho2 (root_bytes (by rw [zer_len]; exact HN8.out.2) (by omega) (fun x hx => by rw [(List.mem_replicate.1 hx).2]; omega))
      have HD2 : Hid (Dsk 83 D1 w2 (.pointer (some ⟨sb, 0, none⟩)) (writeS S 1 [])) := HDA.out.below hB2
      have HT2 : Hid (Tw w2 (.slice (some ⟨w1.heap.size, 0, none⟩) n n) (zer n)) := HTW.out.below hB2
      have HC2 : Hid (Ch D w w2) := (HC1.out.self (Ch.of_below (below_alloc _ _))).self (Ch.of_below hB2)
      have HSZ : Hid (w1.heap.size < w2.heap.size ∧ w.heap.size ≤ w1.heap.size) := ⟨by have := hB2.size; simp at this; omega, HC1.out.size⟩
      obtain ⟨ro, rc, hro, _, _⟩ := row_form ho2
      subst hro
      clear ho2 hB2 hmk
      go_wp2_with fail
      refine (rwrite_walk HD2.out ((0 : Nat) : Int) HV2.out (by have h2 := HWR.out; have h3 := write_wr (S := S) (i := 1) (b := []); omega)).mono ?_
      rintro e w3 ⟨rfl, ⟨D3, hD3, hx3⟩, hC3⟩
      have HX3 : Hid (∀ x, D3 x → D x ∨ w.heap.size ≤ x) := fun x hx => by
        rcases hx3 x hx with q | q
        · exact HX1.out x q
        · exact .inr (Nat.le_trans HC2.out.size q)
      have HC3 : Hid (Ch D w w3) := HC2.out.trans hC3 (fun x hx => HX1.out x hx)
      have HD3 : Hid (Dsk 83 D3 w3 (.pointer (some ⟨sb, 0, none⟩)) (writeS (writeS S 1 []) ((0 : Nat) : Int) (rootB 1 (zer n)))) := hD3
      have HNG : Hid (¬ D1 w1.heap.size) := fun e => by have := HD1.out.lt e; omega
      have HT3 : Hid (Tw w3 (.slice (some ⟨w1.heap.size, 0, none⟩) n n) (zer n)) := HT2.out.ch (fun x hx => by
        simp [Value.ownBlock] at hx
        subst hx
        exact hC3.block _ HSZ.out.1 HNG.out)
      have HNG3 : Hid (¬ D3 w1.heap.size) := fun e => by
        rcases hx3 _ e with q | q
        · exact HNG.out q
        · have := HSZ.out.1; omega
      have HS3 : Hid (w2.heap.size ≤ w3.heap.size) := hC3.size
      have HL3 : Hid ((writeS (writeS S 1 []) ((0 : Nat) : Int) (rootB 1 (zer n))).bl.length = S.bl.length) := by show _ = _; rw [write_len, write_len]
      clear hD3 hx3 hC3
      by_cases hw2 : writeI (writeS S 1 []) ((0 : Nat) : Int) (rootB 1 (zer n)) = 0
      · have HFO : Hid (formO S n = (0, some ⟨1, zer n, 0, false⟩, writeS (writeS S 1 []) ((0 : Nat) : Int) (rootB 1 (zer n)))) := by show _ = _; rw [HF3.out]; exact if_neg (fun q => q hw2)
        rw [hw2]
        clear hw2
        go_wp2_with fail
        go_ret2
        unfold Fm
        rw [HFO.out]
        refine ob_new2 (P := ⟨1, zer n, 0, false⟩) HD3.out HX3.out (by have h := HT3.out; rw [← zer_len n] at h; rw [zer_len] at h; exact h) ?_ HNG3.out rfl (by rw [HL3.out]; exact zer_ok HN8.out.1 HN8.out.2 HBN.out) HC3.out
        have := HSZ.out; have := HS3.out; exact ⟨by omega, by omega⟩
      · have HWE : Hid (writeI (writeS S 1 []) ((0 : Nat) : Int) (rootB 1 (zer n)) = 80) := w80 (by rw [write_len]; have := HBN.out; omega) HL2.out hw2
        have HFO : Hid (formO S n = (80, none, writeS (writeS S 1 []) ((0 : Nat) : Int) (rootB 1 (zer n)))) := by show _ = _; rw [HF3.out]; exact if_pos hw2
        rw [HWE.out]
        clear hw2
        go_wp2_with fail
        go_ret2
        exact fm_no HFO.out HD3.out HX3.out HC3.out
    · have HWE : Hid (writeI S 1 [] = 80) := w80 (k := 1) (by have := HBN.out; omega) (by simp) hw1
      have HFO : Hid (formO S n = (80, none, writeS S 1 [])) := by show _ = _; rw [HF2.out, if_pos hw1]
      clear hw1
      go_enter Try.func14, Try.ntmps14
      go_wp2_with fail
      refine (rblocks_walk HD.out).mono ?_
      rintro e w9 ⟨rfl, h9⟩
      have h9 := h9.symm
      subst h9
      go_wp2_with fail
      refine (rwrite_walk HD.out 1 HBV.out (by have := HWR.out; omega)).mono ?_
      rintro e w1 ⟨rfl, ⟨D1, hD1, hx1⟩, hC1⟩
      rw [HWE.out]
      have HD1 : Hid (Dsk 83 D1 w1 (.pointer (some ⟨sb, 0, none⟩)) (writeS S 1 [])) := hD1
      have HX1 : Hid (∀ x, D1 x → D x ∨ w.heap.size ≤ x) := hx1
      have HC1 : Hid (Ch D w w1) := hC1
      clear hD1 hx1 hC1
      go_wp2_with fail
      go_ret2
      exact fm_no HFO.out HD1.out HX1.out HC1.out
theorem rformat_walk (h : Dsk 83 D w dv S) (n : Int) (hwr : S.wr < 4611686018427387904) : Calls Try.prog 14 #[dv, .int .i64 n] w fun e w' => Fm hdR 87 83 D w dv S n e w' := by
  by_cases hn : n < 1 ∨ 8 < n
  · exact rformat_arg h hn
  · obtain ⟨k, rfl⟩ : ∃ k : Nat, n = k := ⟨n.toNat, by omega⟩
    exact rformat_in h (by omega) (by omega) hwr
end
end Go.Proofs.Ytakijnclllmkfaa
