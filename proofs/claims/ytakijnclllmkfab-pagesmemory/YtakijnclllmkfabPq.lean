/- room, holds. -/
import Derived.Test.YtakijnclllmkfabPp

namespace Go.Proofs.Ytakijnclllmkfab

open Go.RowKit



def rmP : Bo := ⟨1, zer 8, 0, false⟩
def rmS : Dk := ⟨[1, 8, 0, 0, 0, 0, 0, 0, 0, 0] :: List.replicate 17 [], false, -1, 0, 2⟩
theorem rm_form : formO (loadS (List.replicate 18 [])) 8 = (0, some rmP, rmS) := by rfl
theorem rm_iv : Iv rmP rmS (List.replicate 8 []) := by
  refine ⟨zer_ok (by omega) (by omega) (by show 2 + 2 * 8 ≤ 18; omega), rfl, rfl, by show 18 ≤ 64; omega, rfl, rfl, rfl, fun g t hg => ?_, fun p hp => .inl ⟨zer_tn 8 p, bk_rep 8 p⟩⟩
  have : rootOf (bk rmS.bl (1 - rmP.home)) rmS.bl.length = none := rfl
  rw [this] at hg; cases hg


theorem room_walk (w : World) : Calls Try.prog 5 #[] w fun e w' => ∃ A pb sb, e = .returned (.tuple #[.pointer (some ⟨sb, 0, none⟩), .pointer (some ⟨pb, 0, none⟩)]) ∧ BP A w' (.pointer (some ⟨pb, 0, none⟩)) (.pointer (some ⟨sb, 0, none⟩)) rmP rmS ∧ (∀ x, A x → w.heap.size ≤ x) ∧ Below w.heap.size w w' := by
  go_enter Try.func5, Try.ntmps5
  go_wp2_with fail
  refine (new_walk (n := 18) (by omega) (by omega)).mono ?_
  rintro e w1 ⟨dv, D1, rfl, hD1, hB1, hx1⟩
  have HB1 : Hid (Below w.heap.size w w1 ∧ ∀ x, D1 x → w.heap.size ≤ x) := ⟨hB1, hx1⟩
  obtain ⟨sb, hsb⟩ : ∃ sb, dv = .pointer (some ⟨sb, 0, none⟩) := by obtain ⟨sb, _, _, e, _⟩ := hD1; exact ⟨sb, e⟩
  subst hsb
  have HD1 : Hid (Dsk 62 D1 w1 (.pointer (some ⟨sb, 0, none⟩)) (loadS (List.replicate 18 []))) := hD1
  clear hD1 hB1 hx1
  go_wp2_with fail
  refine (format_walk HD1.out 8 (by show (0 : Nat) < _; omega)).mono ?_
  unfold Fm
  rw [rm_form]
  rintro e w2 ⟨v, rfl, _, hso, hC2⟩
  obtain ⟨A2, hK2, hx2⟩ := hso _ rfl
  have HA2 : Hid (∀ x, A2 x → w.heap.size ≤ x) := fun x hx => by
    rcases hx2 x hx with q | q
    · exact HB1.out.2 x q
    · exact Nat.le_trans HB1.out.1.size q
  have HB2 : Hid (Below w.heap.size w w2) := HB1.out.1.trans (hC2.to_below HB1.out.1.size HB1.out.2)
  obtain ⟨⟨pb, rfl⟩, _⟩ := hK2.form
  have HK2 : Hid (BP A2 w2 (.pointer (some ⟨pb, 0, none⟩)) (.pointer (some ⟨sb, 0, none⟩)) rmP rmS) := hK2
  clear hso hK2 hx2 hC2
  go_wp2_with fail
  go_ret2
  exact ⟨A2, pb, sb, rfl, HK2.out, HA2.out, HB2.out⟩


/-- The disk is the same but for how often it was read: at most k times more. -/
structure Sm (S S' : Dk) (k : Nat) : Prop where
  bl : S'.bl = S.bl
  dn : S'.down = S.down
  lf : S'.left = S.left
  wr : S'.wr = S.wr
  rd : S'.rd ≤ S.rd + k
theorem Sm.refl (S : Dk) : Sm S S 0 := ⟨rfl, rfl, rfl, rfl, Nat.le_refl _⟩
theorem Sm.trans {S S' S'' : Dk} {j k : Nat} (h : Sm S S' j) (h' : Sm S' S'' k) : Sm S S'' (j + k) := ⟨h'.bl.trans h.bl, h'.dn.trans h.dn, h'.lf.trans h.lf, h'.wr.trans h.wr, by have := h.rd; have := h'.rd; omega⟩
theorem Sm.more {S S' : Dk} {j k : Nat} (h : Sm S S' j) (hk : j ≤ k) : Sm S S' k := ⟨h.bl, h.dn, h.lf, h.wr, by have := h.rd; omega⟩
theorem sm_read (S : Dk) (i : Int) : Sm S (readS S i) 1 := by
  unfold readS; split
  · exact ⟨rfl, rfl, rfl, rfl, Nat.le_refl _⟩
  · exact ⟨rfl, rfl, rfl, rfl, by omega⟩
theorem Iv.same {P : Bo} {S S' : Dk} {W : List (List Nat)} {k : Nat} (h : Iv P S W) (hs : Sm S S' k) : Iv P S' W := h.turn (by rw [hs.dn]; exact h.dn) (by rw [hs.bl]) (fun x _ => by rw [hs.bl])
theorem sm_open {S : Dk} : Sm S (opS S) 2 := by
  unfold opS; split
  · exact (Sm.refl S).more (by omega)
  · exact (sm_read S 0).trans (sm_read (readS S 0) 1)


theorem get_iv {P : Bo} {S : Dk} {W : List (List Nat)} (h : Iv P S W) {p : Nat} (hp : p < 8) : getI P S p = 0 ∧ getL P S p = bk W p ∧ getB P S = P ∧ Sm S (getS P S p) 1 := by
  have hs : ¬ shutB P S = true := by rw [h.shut]; simp
  have hh : ¬ hasB P.tab.length (p : Int) = false := by unfold hasB; rw [h.n8, decide_eq_true (by omega)]; simp
  unfold getI getL getB getS
  rw [if_neg hs, if_neg hs, if_neg hs, if_neg hs, if_neg hh, if_neg hh, if_neg hh, Int.toNat_natCast]
  rcases h.pg p hp with ⟨a, b⟩ | ⟨a, b, c⟩
  · rw [if_pos a, if_pos a, if_pos a]
    exact ⟨rfl, b.symm, rfl, (Sm.refl S).more (by omega)⟩
  · rw [if_neg a, if_neg a, if_neg a]
    have hlt := tok_lt h.ok.tok _ (tn_mem (i := p) (by rw [h.n8]; exact hp))
    obtain ⟨r1, r2, r3⟩ := read_in h.dn hlt
    exact ⟨r1, by rw [r2]; exact b.symm, rfl, sm_read S _⟩


/-- How many of the first k pages have bytes. -/
def useN (W : List (List Nat)) (k : Nat) : Nat := ((W.take k).filter (fun b => decide (b ≠ []))).length
theorem use_succ {W : List (List Nat)} {k : Nat} (h : k < W.length) : useN W (k + 1) = useN W k + (if bk W k = [] then 0 else 1) := by
  unfold useN
  rw [List.take_succ_eq_append_getElem h, List.filter_append, List.length_append, bk_at h]
  by_cases e : W[k] = []
  · rw [if_pos e]; simp [e]
  · rw [if_neg e]; simp [e]
theorem use_tab {P : Bo} {S : Dk} {W : List (List Nat)} (h : Iv P S W) : ∀ k, k ≤ 8 → useN W k = usedN (P.tab.take k) := by
  intro k
  induction k with
  | zero => intro _; rfl
  | succ k ih =>
    intro hk
    rw [use_succ (by rw [h.w8]; omega), used_take (by rw [h.n8]; omega), ih (by omega)]
    rcases h.pg k (by omega) with ⟨a, b⟩ | ⟨a, _, c⟩
    · rw [if_pos a, if_pos b]
    · rw [if_neg a, if_neg c]


/-- Eight pages, as an array of strings. -/
def wa (W : List (List Nat)) : Array Value := (W.map (fun b => Value.string (str b))).toArray
/-- Block b holds the pages W. -/
def Wb8 (w : World) (b : Nat) (W : List (List Nat)) : Prop := w.heap[b]? = some (.cells (wa W) 29 (0, 0)) ∧ W.length = 8
section

variable {w w' : World} {b : Nat} {W : List (List Nat)}

theorem Wb8.lt (h : Wb8 w b W) : b < w.heap.size := (Array.getElem?_eq_some_iff.1 h.1).1
theorem Wb8.keep (h : Wb8 w b W) (hk : w'.heap[b]? = w.heap[b]?) : Wb8 w' b W := ⟨by rw [hk]; exact h.1, h.2⟩
theorem Wb8.below (h : Wb8 w b W) (hb : Below w.heap.size w w') : Wb8 w' b W := h.keep (hb.block _ h.lt)
theorem Wb8.cell (h : Wb8 w b W) {k : Nat} (hk : k < 8) : w.cell? ⟨b, k, none⟩ = some (.string (str (bk W k))) := by
  rw [cell_of_row w b k _ _ (0, 0) h.1, bk_at (by rw [h.2]; exact hk)]
  simp [wa, h.2, hk]
theorem Wb8.soft (h : Wb8 w b W) (k : Nat) : w.frozen? ⟨b, k, none⟩ = false := by simp [World.frozen?, h.1]
theorem Wb8.set (h : Wb8 w b W) (k : Nat) (d : List Nat) : Wb8 (w.setCell ⟨b, k, none⟩ (.string (str d))) b (W.set k d) := by
  refine ⟨?_, by rw [List.length_set]; exact h.2⟩
  rw [set_row h.1]
  congr 2
  unfold wa
  rw [List.map_set]
  simp
theorem eight (h : W.length = 8) : ∃ a0 a1 a2 a3 a4 a5 a6 a7, W = [a0, a1, a2, a3, a4, a5, a6, a7] := by
  match W, h with
  | [a0, a1, a2, a3, a4, a5, a6, a7], _ => exact ⟨_, _, _, _, _, _, _, _, rfl⟩
end



/-- Where holds' loop stands. -/
def HoRel (A : Nat → Prop) (w : World) (v dv : Value) (P : Bo) (S : Dk) (W : List (List Nat)) (uv iv : Value) (wr : World) : Prop :=
  ∃ (k : Nat) (S' : Dk), k ≤ 8 ∧ iv = .int .i64 k ∧ uv = .int .i64 (useN W k) ∧ BP A wr v dv P S' ∧ Sm S S' k ∧ Wb8 wr w.heap.size W ∧ Ch A w wr


set_option maxRecDepth 100000 in
set_option maxHeartbeats 2000000 in
theorem holds_walk {A : Nat → Prop} {w : World} {v dv : Value} {P : Bo} {S : Dk} {W : List (List Nat)} (h : BP A w v dv P S) (hI : Iv P S W) (hb : ∀ b ∈ W, ∀ c ∈ b, c < 256) (hrd : S.rd < 4611686018427387904) :
    Calls Try.prog 10 #[v, .agg (wa W)] w fun e w' => e = .returned (.bool true) ∧ ∃ S', BP A w' v dv P S' ∧ Sm S S' 8 ∧ Ch A w w' := by
  have HK : Hid (BP A w v dv P S) := h
  have HI : Hid (Iv P S W) := hI
  have HBY : Hid (∀ b ∈ W, ∀ c ∈ b, c < 256) := hb
  have HRD : Hid (S.rd < 4611686018427387904) := hrd
  have HW8 : Hid (W.length = 8) := hI.w8
  obtain ⟨w0, hw0⟩ : ∃ w0, w0 = w.alloc (Obj.cells (wa W) 29) := ⟨_, rfl⟩
  have HW0 : Hid (w0 = w.alloc (Obj.cells (wa W) 29)) := hw0
  have hB0 : Below w.heap.size w w0 := by rw [hw0]; exact below_alloc _ _
  have HB0 : Hid (Below w.heap.size w w0) := hB0
  have HWB : Hid (Wb8 w0 w.heap.size W) := ⟨by rw [hw0]; exact heap_alloc_new w _, hI.w8⟩
  have HAL : Hid (∀ x, A x → x < w.heap.size) := fun x hx => h.lt hx
  obtain ⟨⟨pb, rfl⟩, sb, rfl⟩ := h.form
  have HST : Hid (HoRel A w (.pointer (some ⟨pb, 0, none⟩)) (.pointer (some ⟨sb, 0, none⟩)) P S W (.int .i64 0) (.int .i64 0) w0) := ⟨0, S, by omega, rfl, rfl, h.below hB0, Sm.refl S, HWB.out, Ch.of_below hB0⟩
  obtain ⟨a0, a1, a2, a3, a4, a5, a6, a7, hW⟩ := eight hI.w8
  have hwa : wa W = #[.string (str a0), .string (str a1), .string (str a2), .string (str a3), .string (str a4), .string (str a5), .string (str a6), .string (str a7)] := by rw [hW]; rfl
  rw [hwa] at HW0 ⊢
  clear h hI hb hrd hw0 hB0 hW hwa
  go_enter Try.func10, Try.ntmps10
  go_wp2_with fail
  rw [← HW0.out]
  go_loopw [5, 6] (fun uv iv wr => HoRel A w (.pointer (some ⟨pb, 0, none⟩)) (.pointer (some ⟨sb, 0, none⟩)) P S W uv iv wr) (fun _ iv _ => 8 - (intOf iv).toNat)
  case atStart => exact HST.out
  case round =>
    obtain ⟨k, S', hk, rfl, rfl, hK, hS, hWb, hC⟩ := hrel
    have HKR : Hid (BP A wr (.pointer (some ⟨pb, 0, none⟩)) (.pointer (some ⟨sb, 0, none⟩)) P S') := hK
    have HSR : Hid (Sm S S' k) := hS
    have HWR : Hid (Wb8 wr w.heap.size W) := hWb
    have HC : Hid (Ch A w wr) := hC
    have HIR : Hid (Iv P S' W) := HI.out.same hS
    clear hK hS hWb hC HST
    by_cases hlt : k < 8
    · have hki : (k : Int) < 8 := by omega
      obtain ⟨g1, g2, g3, g4⟩ := get_iv HIR.out hlt
      have HG : Hid (getI P S' k = 0 ∧ getL P S' k = bk W k ∧ getB P S' = P ∧ Sm S' (getS P S' k) 1) := ⟨g1, g2, g3, g4⟩
      obtain ⟨b, hb⟩ : ∃ b, b = bk W k := ⟨_, rfl⟩
      have HBE : Hid (b = bk W k) := hb
      have HBB : Hid (∀ c ∈ b, c < 256) := by rw [hb]; exact HBY.out _ (bk_mem (by rw [HW8.out]; exact hlt))
      have HUS : Hid (useN W (k + 1) = useN W k + (if b = [] then 0 else 1)) := by rw [hb]; exact use_succ (by rw [HW8.out]; exact hlt)
      have hul : useN W k ≤ 8 := by unfold useN; exact Nat.le_trans (List.length_filter_le _ _) (by rw [List.length_take]; omega)
      obtain ⟨q, hq⟩ : ∃ q, q = useN W k := ⟨_, rfl⟩
      rw [← hq] at HUS hul ⊢
      clear g1 g2 g3 g4 hb hq
      go_wp2_with fail
      refine (get_walk HKR.out k (by have h1 := HSR.out.rd; have h2 := HRD.out; omega)).mono ?_
      rintro e w2 ⟨r, rfl, ho2, hK2, hC2⟩
      rw [HG.out.1]
      rw [HG.out.2.1, ← HBE.out] at ho2
      rw [HG.out.2.2.1] at hK2
      have HK2 : Hid (BP A w2 (.pointer (some ⟨pb, 0, none⟩)) (.pointer (some ⟨sb, 0, none⟩)) P (getS P S' k)) := hK2
      have HC2 : Hid (Ch A w w2) := HC.out.self hC2
      have HV2 : Hid (Bv w2 r b) := own_bv ho2 HBB.out
      have HW2 : Hid (Wb8 w2 w.heap.size W) := HWR.out.keep (hC2.block _ HWR.out.lt (fun e => by have := HAL.out _ e; omega))
      obtain ⟨ro, rc, hro, _, _⟩ := row_form ho2
      subst hro
      have c2 : w2.cell? ⟨w.heap.size, k, none⟩ = some (.string (str b)) := by rw [HBE.out]; exact HW2.out.cell hlt
      have j1 : ∀ wx, Below w2.heap.size w2 wx → wx.cell? ⟨w.heap.size, k, none⟩ = some (.string (str b)) := fun wx hx => by rw [hx.cell (p := ⟨w.heap.size, k, none⟩) HW2.out.lt]; exact c2
      have s1 : ∀ wx, Below w2.heap.size w2 wx → (convert 31 9 (.slice ro b.length rc)).run Try.prog wx = .ok (.string (str b)) wx := fun wx hx => str_of (HV2.out.below hx)
      have hSd : Below w2.heap.size w2 w2.drew := below_drewN _ _
      have hne : ((str b).toList == (str []).toList) = decide (b = []) := str_beq HBB.out (by simp)
      have hsn : str [] = ⟨#[]⟩ := rfl
      rw [hsn] at hne
      clear ho2 hK2 hC2 hsn
      by_cases hb0 : b = []
      · rw [if_pos hb0] at HUS
        have hne2 : ((str b).toList == (ByteArray.mk #[]).toList) = true := by rw [hne]; exact decide_eq_true hb0
        have hsb : str b = ⟨#[]⟩ := by rw [hb0]; rfl
        clear hne hb0
        go_wp2_with fail
        go_region_held3 (fun wx => Below w2.heap.size w2 wx) (first | assumption) (fail)
        have HBD : Hid (Below w2.heap.size w2 w2.drew) := hSd
        have c3 : w2.drew.cell? ⟨w.heap.size, k, none⟩ = some (.string (str b)) := j1 _ hSd
        obtain ⟨w3, hw3⟩ : ∃ w3, w3 = w2.drew := ⟨_, rfl⟩
        rw [← hw3] at HBD c3 ⊢
        clear hw3 j1 s1 hSd
        try rw [hsb] at c3
        go_wp2_with fail
        go_roundw
        case rel => exact ⟨k + 1, getS P S' k, by omega, by simp, by rw [HUS.out]; rfl, HK2.out.below HBD.out, HSR.out.trans HG.out.2.2.2, HW2.out.below HBD.out, HC2.out.self (Ch.of_below HBD.out)⟩
        case measure => simp [intOf]; omega
      · rw [if_neg hb0] at HUS
        have hne2 : ((str b).toList == (ByteArray.mk #[]).toList) = false := by rw [hne]; exact decide_eq_false hb0
        have hel : (ByteArray.mk #[]).toList = [] := by rw [ByteArray.toList_eq]
        have hne3 : ((str b).toList == []) = false := by rw [← hel]; exact hne2
        have hne4 : ¬ (str b).toList = [] := fun e => by rw [e] at hne3; cases hne3
        have hne5 : ¬ str b = ⟨#[]⟩ := fun e => by rw [e, hel] at hne3; cases hne3
        clear hne hb0 hel
        go_wp2_with fail
        go_region_held3 (fun wx => Below w2.heap.size w2 wx) (first | assumption) (fail)
        have HBD : Hid (Below w2.heap.size w2 w2.drew) := hSd
        have c3 : w2.drew.cell? ⟨w.heap.size, k, none⟩ = some (.string (str b)) := j1 _ hSd
        obtain ⟨w3, hw3⟩ : ∃ w3, w3 = w2.drew := ⟨_, rfl⟩
        rw [← hw3] at HBD c3 ⊢
        clear hw3 j1 s1 hSd
        skip
        go_wp2_with fail
        go_roundw
        case rel => exact ⟨k + 1, getS P S' k, by omega, by simp, by rw [HUS.out]; simp, HK2.out.below HBD.out, HSR.out.trans HG.out.2.2.2, HW2.out.below HBD.out, HC2.out.self (Ch.of_below HBD.out)⟩
        case measure => simp [intOf]; omega
    · obtain rfl : k = 8 := by omega
      have HUT : Hid (useN W 8 = usedN P.tab) := by
        show _ = _
        rw [use_tab HIR.out 8 (Nat.le_refl _), List.take_of_length_le (by rw [HIR.out.n8]; exact Nat.le_refl _)]
      have HN8 : Hid (P.tab.length = 8) := HIR.out.n8
      have HOV : Hid (P.over = false) := HIR.out.ov
      rw [HUT.out]
      go_wp2_with fail
      refine (pages_walk HKR.out).mono ?_
      rw [HN8.out]
      rintro e w9 ⟨rfl, h9⟩
      have h9 := h9.symm
      subst h9
      go_wp2_with fail
      refine (used_walk HKR.out).mono ?_
      rintro e w9 ⟨rfl, h9⟩
      have h9 := h9.symm
      subst h9
      go_wp2_with fail
      refine (ended_walk HKR.out).mono ?_
      rw [HOV.out]
      rintro e w9 ⟨rfl, h9⟩
      have h9 := h9.symm
      subst h9
      go_wp2_with fail
      go_ret
      exact ⟨rfl, S', HKR.out, HSR.out, HC.out⟩
end Go.Proofs.Ytakijnclllmkfab


