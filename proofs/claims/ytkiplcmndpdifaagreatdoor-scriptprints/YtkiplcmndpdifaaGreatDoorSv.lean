/- Writing: a step's line. Printed by gen_sv21.py. -/
import Derived.Test.YtkiplcmndpdifaaGreatDoorSu

namespace Go.Proofs.YtkiplcmndpdifaaGreatDoor

open Go.RowKit

attribute [local go_sem] run_bits


theorem form_gK {v : Int} {f : Fm} (h : formK v = some f) : (f.g = 13 ∨ f.g = 3 ∨ f.g = 0 ∨ f.g = 2 ∨ f.g = 1 ∨ f.g = 4) ∧ f.w.length ≤ 10 := by
  have hm := List.mem_of_find?_eq_some h
  have hall : ∀ x ∈ formL, (x.g = 13 ∨ x.g = 3 ∨ x.g = 0 ∨ x.g = 2 ∨ x.g = 1 ∨ x.g = 4) ∧ x.w.length ≤ 10 := by decide
  exact hall f hm


theorem own_str_type {w : World} {base n : Nat} {v : Value} {ys : List Value} (h : w.ownsRow base 9 1 v n ys) {y : Nat} (hy : v.ownBlock = some y) : ∃ cur fr, w.heap[y]? = some (.cells cur 9 fr) := by
  rcases h.2 with ⟨e, _⟩ | ⟨g', cap, cur, e, _, hg', _⟩
  · rw [e] at hy; simp [Value.ownBlock] at hy
  · rw [e] at hy; simp [Value.ownBlock] at hy; subst hy; exact ⟨_, _, hg'⟩


/-- A block that holds no strings stays where a row of strings grows. -/
theorem own_str_keep {w w' : World} {base n x : Nat} {v : Value} {ys : List Value} {cur : Array Value} {t : TypeId} {fr : Nat × Nat} (h : w.ownsRow base 9 1 v n ys) (hg : w.grownBy w' v.ownBlock) (hx : w.heap[x]? = some (.cells cur t fr)) (ht : t ≠ 9) : w'.heap[x]? = some (.cells cur t fr) := by
  rw [hg.block x (blk_lt hx) (fun e => by
    obtain ⟨c', f', h'⟩ := own_str_type h e.symm
    rw [hx] at h'
    injection h' with h'
    injection h' with _ h' _
    exact ht h')]
  exact hx


theorem stA_len {s : Sp} (h : s.ok) (g : Int) : (joinB 32 (stArgs g s)).length ≤ 100 := by
  have h1 := itoa_len h.2.1
  have h2 := itoa_len h.2.2.1
  have h3 := dec_length h.2.2.2.1
  unfold stArgs onlyL
  split <;> split <;> split <;> split <;> simp [joinB, hexRow_length] <;> omega


set_option maxRecDepth 100000 in
set_option maxHeartbeats 8000000 in
theorem appendStep_13 {base : Nat} {w : World} {tv : Value} {l : Bs} {s : Sp} {f : Fm} (ht : TX base w tv l) (hb : base ≤ w.heap.size) (ho : s.ok) (htb : Tb w) (hl : l.length ≤ 1099511000000) (hf : formK s.K = some f) (hfg : f.g = 13) :
    Calls Tryz.prog 24 #[tv, .agg #[.int .i64 s.K, .int .i64 s.D, .int .i64 s.N, .int .u64 s.k, .float .f64 s.x]] w (TxGot base (l ++ stT s) w) := by
  obtain ⟨oa, oc, rfl, _, _⟩ := own_form21 ht
  obtain ⟨is, his, hs0, hs1, hs2⟩ := info_parts21 info_str
  have HIS : Hid (Tryz.prog.info? 9 = some is ∧ is.zero = some (.string ⟨#[]⟩) ∧ is.size = 1 ∧ is.bytes = 16) := ⟨his, hs0, hs1, hs2⟩
  have HT : Hid (TX base w (.slice oa l.length oc) l ∧ base ≤ w.heap.size ∧ s.ok ∧ Tb w ∧ l.length ≤ 1099511000000) := ⟨ht, hb, ho, htb, hl⟩
  have hlen : l.length + (stT s).length ≤ 1099511627776 := by
    have h1 := stA_len ho (formD s.K).g
    have h2 := (form_gK hf).2
    have h3 : (formD s.K).w = f.w := by unfold formD; rw [hf]; rfl
    unfold stT lineT
    rw [h3]
    simp
    omega
  obtain ⟨g, hg⟩ : ∃ g, g = w.heap.size := ⟨_, rfl⟩
  obtain ⟨w1, hw1⟩ : ∃ w1, w1 = w.alloc (.cells #[.int .i64 s.K, .int .i64 s.D, .int .i64 s.N, .int .u64 s.k, .float .f64 s.x] 41) := ⟨_, rfl⟩
  have HW1 : Hid (w1 = w.alloc (.cells #[.int .i64 s.K, .int .i64 s.D, .int .i64 s.N, .int .u64 s.k, .float .f64 s.x] 41) ∧ g = w.heap.size) := ⟨hw1, hg⟩
  have HG1 : Hid (w1.heap[g]? = some (.cells #[.int .i64 s.K, .int .i64 s.D, .int .i64 s.N, .int .u64 s.k, .float .f64 s.x] 41 (0, 0)) ∧ Below w.heap.size w w1) := by rw [hw1]; exact ⟨alloc_at hg, below_alloc _ _⟩
  have HFW := formOf_walk s.K w1 (htb.below HG1.out.2)
  have hfw : formL.find? (fun f => f.K == s.K) = some f := hf
  rw [hfw] at HFW
  simp only [FmA, FmV, Option.getD_some, Option.isSome_some, S, hfg] at HFW
  obtain ⟨kf, hkf⟩ : ∃ k, k = f.K := ⟨_, rfl⟩
  obtain ⟨fw, hfw2⟩ : ∃ k : ByteArray, k = ⟨f.w.toArray⟩ := ⟨_, rfl⟩
  rw [← hkf, ← hfw2] at HFW
  have HFN : Hid (Calls Tryz.prog 35 #[.int .i64 s.K] w1 fun e w' => e = .returned (.tuple #[.agg #[.int .i64 kf, .string fw, .int .i64 13], .bool true]) ∧ Below w1.heap.size w1 w') := HFW
  have HST : Hid (stT s = lineT f.w [Lib.itoa s.D, Lib.decDigits s.k, hexRow s.x 16]) := by
    show _ = _
    have h3 : formD s.K = f := by unfold formD; rw [hf]; rfl
    unfold stT
    rw [h3, hfg]
    rfl
  have HFF : Hid (fw = ⟨f.w.toArray⟩ ∧ l.length + (stT s).length ≤ 1099511627776) := ⟨hfw2, hlen⟩
  have c0 : w1.cell? ⟨g, 0, none⟩ = some (.int .i64 s.K) := by rw [blk_cell HG1.out.1]; rfl
  have b1 : bits .and .i64 13 1 = 1 := by decide +kernel
  have b2 : bits .and .i64 13 2 = 0 := by decide +kernel
  have b4 : bits .and .i64 13 4 = 4 := by decide +kernel
  have b8 : bits .and .i64 13 8 = 8 := by decide +kernel
  clear ht hb ho htb hl hw1 hg HFW hf hfg hfw hkf hfw2 his hs0 hs1 hs2 hlen
  go_enter Tryz.func24, Tryz.ntmps24
  go_wp2_with fail
  rw [← HW1.out.2, ← HW1.out.1]
  clear HW1
  try go_wp2_with fail
  refine HFN.out.mono ?_
  rintro e9 w2 ⟨rfl, hB2⟩
  obtain ⟨gf, hgf⟩ : ∃ gf, gf = w2.heap.size := ⟨_, rfl⟩
  obtain ⟨wa, hwa⟩ : ∃ wa, wa = w2.alloc (.cells #[.int .i64 kf, .string fw, .int .i64 13] 80) := ⟨_, rfl⟩
  have HWA : Hid (gf = w2.heap.size ∧ wa = w2.alloc (.cells #[.int .i64 kf, .string fw, .int .i64 13] 80)) := ⟨hgf, hwa⟩
  have HK0 : Hid (wa.heap[g]? = some (.cells #[.int .i64 s.K, .int .i64 s.D, .int .i64 s.N, .int .u64 s.k, .float .f64 s.x] 41 (0, 0)) ∧ wa.heap[gf]? = some (.cells #[.int .i64 kf, .string fw, .int .i64 13] 80 (0, 0)) ∧ Below w.heap.size w wa) := by
    rw [hwa]
    exact ⟨alloc_old (blk_below HG1.out.1 hB2), alloc_at hgf, below_trans (below_trans HG1.out.2 hB2) (below_alloc _ _)⟩
  have HR0 : Hid (wa.ownsRow w.heap.size 9 1 (.slice none 0 0) 0 (([] : List Bs).map S)) := World.ownsRow_nil _ _ _ _
  have hgl : g < w2.heap.size := blk_lt (blk_below HG1.out.1 hB2)
  have hgn : ¬ g = w2.heap.size := by omega
  have kk : w2.cell? ⟨g, 1, none⟩ = some (.int .i64 s.D) := by rw [blk_cell (blk_below HG1.out.1 hB2)]; rfl
  clear hB2 hgf hwa HFN HG1 c0
  go_wp2_with fail
  rw [← HWA.out.1, ← HWA.out.2]
  clear HWA hgl hgn kk
  refine (ntext_walk s.D HT.out.2.2.1.2.1 wa (HT.out.2.2.2.1.below HK0.out.2.2)).mono ?_
  rintro e9 w3 ⟨rfl, hB3⟩
  obtain ⟨t0, ht0⟩ : ∃ t : ByteArray, t = ⟨(Lib.itoa s.D).toArray⟩ := ⟨_, rfl⟩
  simp only [S]
  rw [← ht0]
  have HTS0 : Hid (t0 = ⟨(Lib.itoa s.D).toArray⟩ ∧ Below wa.heap.size wa w3) := ⟨ht0, hB3⟩
  have HR0A : Hid ((w3.alloc (.cells #[.string t0] 9)).ownsRow w.heap.size 9 1 (.slice none 0 0) 0 ([].map S)) :=
    row_keep HR0.out fun y hy => (below_trans hB3 (below_alloc w3 _)).block y (HR0.out.lt y hy).2
  have HK0A : Hid ((w3.alloc (.cells #[.string t0] 9)).heap[g]? = some (.cells #[.int .i64 s.K, .int .i64 s.D, .int .i64 s.N, .int .u64 s.k, .float .f64 s.x] 41 (0, 0)) ∧ (w3.alloc (.cells #[.string t0] 9)).heap[gf]? = some (.cells #[.int .i64 kf, .string fw, .int .i64 13] 80 (0, 0)) ∧ Below w.heap.size w (w3.alloc (.cells #[.string t0] 9))) :=
    ⟨alloc_old (blk_below HK0.out.1 hB3), alloc_old (blk_below HK0.out.2.1 hB3), below_trans (below_trans HK0.out.2.2 hB3) (below_alloc _ _)⟩
  clear ht0 hB3
  go_wp2_with (at_builtin; refine wpList_append_own _ (by rfl) (.tmp 18) (.tmp 22) 46 (by rfl) w.heap.size 9 is (.string ⟨#[]⟩) 1 16 Tryz.underlying46 HIS.out.1 HIS.out.2.1 HIS.out.2.2.1 HIS.out.2.2.2 (by rfl) (by decide) _ 0 _ (by rfl) HR0A.out ⟨w3.heap.size, 0, none⟩ 1 1 [.string t0] (by rfl) (by rfl) (fun j u hj => by rw [WideShapes.add_plain, Nat.zero_add, blk_cell (alloc_at rfl)]; simpa using hj) (by intro u hu; simp at hu; subst hu; rfl) (by unfold maxLen; omega) (by omega) HK0A.out.2.2.size ?_; intro v4 wq0 hr4 hg4 _; obtain ⟨a0, c0, rfl, _, _⟩ := own_form21 hr4; have HR1 : Hid (wq0.ownsRow w.heap.size 9 1 (.slice a0 1 c0) 1 ([Lib.itoa s.D].map S)) := (by show World.ownsRow _ _ _ _ _ _ _; have h := hr4; rw [HTS0.out.1] at h; exact h); have HK1 : Hid (wq0.heap[g]? = some (.cells #[.int .i64 s.K, .int .i64 s.D, .int .i64 s.N, .int .u64 s.k, .float .f64 s.x] 41 (0, 0)) ∧ wq0.heap[gf]? = some (.cells #[.int .i64 kf, .string fw, .int .i64 13] 80 (0, 0)) ∧ Below w.heap.size w wq0) := ⟨own_str_keep HR0A.out hg4 HK0A.out.1 (by decide), own_str_keep HR0A.out hg4 HK0A.out.2.1 (by decide), HK0A.out.2.2.grown hg4 HK0A.out.2.2.size (fun y hy => (HR0A.out.lt y hy).1)⟩; clear hr4 hg4; have kf2 : wq0.cell? ⟨gf, 2, none⟩ = some (.int .i64 13) := (by rw [blk_cell HK1.out.2.1]; rfl); have kf1 : wq0.cell? ⟨gf, 1, none⟩ = some (.string fw) := (by rw [blk_cell HK1.out.2.1]; rfl); have kk : wq0.cell? ⟨g, 3, none⟩ = some (.int .u64 s.k) := (by rw [blk_cell HK1.out.1]; rfl))
  clear kf1 kf2 kk
  refine (ktext_walk s.k HT.out.2.2.1.2.2.2.1 wq0 (HT.out.2.2.2.1.below HK1.out.2.2)).mono ?_
  rintro e9 w4 ⟨rfl, hB3⟩
  obtain ⟨t1, ht1⟩ : ∃ t : ByteArray, t = ⟨(Lib.decDigits s.k).toArray⟩ := ⟨_, rfl⟩
  simp only [S]
  rw [← ht1]
  have HTS1 : Hid (t1 = ⟨(Lib.decDigits s.k).toArray⟩ ∧ Below wq0.heap.size wq0 w4) := ⟨ht1, hB3⟩
  have HR1A : Hid ((w4.alloc (.cells #[.string t1] 9)).ownsRow w.heap.size 9 1 (.slice a0 1 c0) 1 ([Lib.itoa s.D].map S)) :=
    row_keep HR1.out fun y hy => (below_trans hB3 (below_alloc w4 _)).block y (HR1.out.lt y hy).2
  have HK1A : Hid ((w4.alloc (.cells #[.string t1] 9)).heap[g]? = some (.cells #[.int .i64 s.K, .int .i64 s.D, .int .i64 s.N, .int .u64 s.k, .float .f64 s.x] 41 (0, 0)) ∧ (w4.alloc (.cells #[.string t1] 9)).heap[gf]? = some (.cells #[.int .i64 kf, .string fw, .int .i64 13] 80 (0, 0)) ∧ Below w.heap.size w (w4.alloc (.cells #[.string t1] 9))) :=
    ⟨alloc_old (blk_below HK1.out.1 hB3), alloc_old (blk_below HK1.out.2.1 hB3), below_trans (below_trans HK1.out.2.2 hB3) (below_alloc _ _)⟩
  clear ht1 hB3
  go_wp2_with (at_builtin; refine wpList_append_own _ (by rfl) (.tmp 38) (.tmp 43) 46 (by rfl) w.heap.size 9 is (.string ⟨#[]⟩) 1 16 Tryz.underlying46 HIS.out.1 HIS.out.2.1 HIS.out.2.2.1 HIS.out.2.2.2 (by rfl) (by decide) _ 1 _ (by rfl) HR1A.out ⟨w4.heap.size, 0, none⟩ 1 1 [.string t1] (by rfl) (by rfl) (fun j u hj => by rw [WideShapes.add_plain, Nat.zero_add, blk_cell (alloc_at rfl)]; simpa using hj) (by intro u hu; simp at hu; subst hu; rfl) (by unfold maxLen; omega) (by omega) HK1A.out.2.2.size ?_; intro v4 wq1 hr4 hg4 _; obtain ⟨a1, c1, rfl, _, _⟩ := own_form21 hr4; have HR2 : Hid (wq1.ownsRow w.heap.size 9 1 (.slice a1 2 c1) 2 ([Lib.itoa s.D, Lib.decDigits s.k].map S)) := (by show World.ownsRow _ _ _ _ _ _ _; have h := hr4; rw [HTS1.out.1] at h; exact h); have HK2 : Hid (wq1.heap[g]? = some (.cells #[.int .i64 s.K, .int .i64 s.D, .int .i64 s.N, .int .u64 s.k, .float .f64 s.x] 41 (0, 0)) ∧ wq1.heap[gf]? = some (.cells #[.int .i64 kf, .string fw, .int .i64 13] 80 (0, 0)) ∧ Below w.heap.size w wq1) := ⟨own_str_keep HR1A.out hg4 HK1A.out.1 (by decide), own_str_keep HR1A.out hg4 HK1A.out.2.1 (by decide), HK1A.out.2.2.grown hg4 HK1A.out.2.2.size (fun y hy => (HR1A.out.lt y hy).1)⟩; clear hr4 hg4; have kf2 : wq1.cell? ⟨gf, 2, none⟩ = some (.int .i64 13) := (by rw [blk_cell HK2.out.2.1]; rfl); have kf1 : wq1.cell? ⟨gf, 1, none⟩ = some (.string fw) := (by rw [blk_cell HK2.out.2.1]; rfl); have kk : wq1.cell? ⟨g, 4, none⟩ = some (.float .f64 s.x) := (by rw [blk_cell HK2.out.1]; rfl))
  clear kf1 kf2 kk
  refine (ftext_walk s.x HT.out.2.2.1.2.2.2.2 wq1 (HT.out.2.2.2.1.below HK2.out.2.2)).mono ?_
  rintro e9 w5 ⟨rfl, hB3⟩
  obtain ⟨t2, ht2⟩ : ∃ t : ByteArray, t = ⟨(hexRow s.x 16).toArray⟩ := ⟨_, rfl⟩
  simp only [S]
  rw [← ht2]
  have HTS2 : Hid (t2 = ⟨(hexRow s.x 16).toArray⟩ ∧ Below wq1.heap.size wq1 w5) := ⟨ht2, hB3⟩
  have HR2A : Hid ((w5.alloc (.cells #[.string t2] 9)).ownsRow w.heap.size 9 1 (.slice a1 2 c1) 2 ([Lib.itoa s.D, Lib.decDigits s.k].map S)) :=
    row_keep HR2.out fun y hy => (below_trans hB3 (below_alloc w5 _)).block y (HR2.out.lt y hy).2
  have HK2A : Hid ((w5.alloc (.cells #[.string t2] 9)).heap[g]? = some (.cells #[.int .i64 s.K, .int .i64 s.D, .int .i64 s.N, .int .u64 s.k, .float .f64 s.x] 41 (0, 0)) ∧ (w5.alloc (.cells #[.string t2] 9)).heap[gf]? = some (.cells #[.int .i64 kf, .string fw, .int .i64 13] 80 (0, 0)) ∧ Below w.heap.size w (w5.alloc (.cells #[.string t2] 9))) :=
    ⟨alloc_old (blk_below HK2.out.1 hB3), alloc_old (blk_below HK2.out.2.1 hB3), below_trans (below_trans HK2.out.2.2 hB3) (below_alloc _ _)⟩
  clear ht2 hB3
  go_wp2_with (at_builtin; refine wpList_append_own _ (by rfl) (.tmp 49) (.tmp 55) 46 (by rfl) w.heap.size 9 is (.string ⟨#[]⟩) 1 16 Tryz.underlying46 HIS.out.1 HIS.out.2.1 HIS.out.2.2.1 HIS.out.2.2.2 (by rfl) (by decide) _ 2 _ (by rfl) HR2A.out ⟨w5.heap.size, 0, none⟩ 1 1 [.string t2] (by rfl) (by rfl) (fun j u hj => by rw [WideShapes.add_plain, Nat.zero_add, blk_cell (alloc_at rfl)]; simpa using hj) (by intro u hu; simp at hu; subst hu; rfl) (by unfold maxLen; omega) (by omega) HK2A.out.2.2.size ?_; intro v4 wq2 hr4 hg4 _; obtain ⟨a2, c2, rfl, _, _⟩ := own_form21 hr4; have HR3 : Hid (wq2.ownsRow w.heap.size 9 1 (.slice a2 3 c2) 3 ([Lib.itoa s.D, Lib.decDigits s.k, hexRow s.x 16].map S)) := (by show World.ownsRow _ _ _ _ _ _ _; have h := hr4; rw [HTS2.out.1] at h; exact h); have HK3 : Hid (wq2.heap[g]? = some (.cells #[.int .i64 s.K, .int .i64 s.D, .int .i64 s.N, .int .u64 s.k, .float .f64 s.x] 41 (0, 0)) ∧ wq2.heap[gf]? = some (.cells #[.int .i64 kf, .string fw, .int .i64 13] 80 (0, 0)) ∧ Below w.heap.size w wq2) := ⟨own_str_keep HR2A.out hg4 HK2A.out.1 (by decide), own_str_keep HR2A.out hg4 HK2A.out.2.1 (by decide), HK2A.out.2.2.grown hg4 HK2A.out.2.2.size (fun y hy => (HR2A.out.lt y hy).1)⟩; clear hr4 hg4; have kf2 : wq2.cell? ⟨gf, 2, none⟩ = some (.int .i64 13) := (by rw [blk_cell HK3.out.2.1]; rfl); have kf1 : wq2.cell? ⟨gf, 1, none⟩ = some (.string fw) := (by rw [blk_cell HK3.out.2.1]; rfl))
  clear kf1 kf2
  have har := (own_ar HR3.out).1
  have HAL := appendLine_walk (wd := f.w) (tx_keep HT.out.1 HK3.out.2.2) har (Nat.le_trans HT.out.2.1 HK3.out.2.2.size) (by have h := HFF.out.2; rw [HST.out] at h; exact h)
  simp only [S] at HAL
  rw [← HFF.out.1, ← HST.out] at HAL
  clear har
  refine HAL.mono ?_
  clear HAL
  rintro e9 w9 ⟨v5, rfl, h5, h6, h7, h8⟩
  go_wp2_with fail
  go_ret
  exact ⟨_, rfl, h5, (HK3.out.2.2.mono HT.out.2.1).trans h6, h7, (Kq.below HK3.out.2.2).trans h8⟩


set_option maxRecDepth 100000 in
set_option maxHeartbeats 8000000 in
theorem appendStep_3 {base : Nat} {w : World} {tv : Value} {l : Bs} {s : Sp} {f : Fm} (ht : TX base w tv l) (hb : base ≤ w.heap.size) (ho : s.ok) (htb : Tb w) (hl : l.length ≤ 1099511000000) (hf : formK s.K = some f) (hfg : f.g = 3) :
    Calls Tryz.prog 24 #[tv, .agg #[.int .i64 s.K, .int .i64 s.D, .int .i64 s.N, .int .u64 s.k, .float .f64 s.x]] w (TxGot base (l ++ stT s) w) := by
  obtain ⟨oa, oc, rfl, _, _⟩ := own_form21 ht
  obtain ⟨is, his, hs0, hs1, hs2⟩ := info_parts21 info_str
  have HIS : Hid (Tryz.prog.info? 9 = some is ∧ is.zero = some (.string ⟨#[]⟩) ∧ is.size = 1 ∧ is.bytes = 16) := ⟨his, hs0, hs1, hs2⟩
  have HT : Hid (TX base w (.slice oa l.length oc) l ∧ base ≤ w.heap.size ∧ s.ok ∧ Tb w ∧ l.length ≤ 1099511000000) := ⟨ht, hb, ho, htb, hl⟩
  have hlen : l.length + (stT s).length ≤ 1099511627776 := by
    have h1 := stA_len ho (formD s.K).g
    have h2 := (form_gK hf).2
    have h3 : (formD s.K).w = f.w := by unfold formD; rw [hf]; rfl
    unfold stT lineT
    rw [h3]
    simp
    omega
  obtain ⟨g, hg⟩ : ∃ g, g = w.heap.size := ⟨_, rfl⟩
  obtain ⟨w1, hw1⟩ : ∃ w1, w1 = w.alloc (.cells #[.int .i64 s.K, .int .i64 s.D, .int .i64 s.N, .int .u64 s.k, .float .f64 s.x] 41) := ⟨_, rfl⟩
  have HW1 : Hid (w1 = w.alloc (.cells #[.int .i64 s.K, .int .i64 s.D, .int .i64 s.N, .int .u64 s.k, .float .f64 s.x] 41) ∧ g = w.heap.size) := ⟨hw1, hg⟩
  have HG1 : Hid (w1.heap[g]? = some (.cells #[.int .i64 s.K, .int .i64 s.D, .int .i64 s.N, .int .u64 s.k, .float .f64 s.x] 41 (0, 0)) ∧ Below w.heap.size w w1) := by rw [hw1]; exact ⟨alloc_at hg, below_alloc _ _⟩
  have HFW := formOf_walk s.K w1 (htb.below HG1.out.2)
  have hfw : formL.find? (fun f => f.K == s.K) = some f := hf
  rw [hfw] at HFW
  simp only [FmA, FmV, Option.getD_some, Option.isSome_some, S, hfg] at HFW
  obtain ⟨kf, hkf⟩ : ∃ k, k = f.K := ⟨_, rfl⟩
  obtain ⟨fw, hfw2⟩ : ∃ k : ByteArray, k = ⟨f.w.toArray⟩ := ⟨_, rfl⟩
  rw [← hkf, ← hfw2] at HFW
  have HFN : Hid (Calls Tryz.prog 35 #[.int .i64 s.K] w1 fun e w' => e = .returned (.tuple #[.agg #[.int .i64 kf, .string fw, .int .i64 3], .bool true]) ∧ Below w1.heap.size w1 w') := HFW
  have HST : Hid (stT s = lineT f.w [Lib.itoa s.D, Lib.itoa s.N]) := by
    show _ = _
    have h3 : formD s.K = f := by unfold formD; rw [hf]; rfl
    unfold stT
    rw [h3, hfg]
    rfl
  have HFF : Hid (fw = ⟨f.w.toArray⟩ ∧ l.length + (stT s).length ≤ 1099511627776) := ⟨hfw2, hlen⟩
  have c0 : w1.cell? ⟨g, 0, none⟩ = some (.int .i64 s.K) := by rw [blk_cell HG1.out.1]; rfl
  have b1 : bits .and .i64 3 1 = 1 := by decide +kernel
  have b2 : bits .and .i64 3 2 = 2 := by decide +kernel
  have b4 : bits .and .i64 3 4 = 0 := by decide +kernel
  have b8 : bits .and .i64 3 8 = 0 := by decide +kernel
  clear ht hb ho htb hl hw1 hg HFW hf hfg hfw hkf hfw2 his hs0 hs1 hs2 hlen
  go_enter Tryz.func24, Tryz.ntmps24
  go_wp2_with fail
  rw [← HW1.out.2, ← HW1.out.1]
  clear HW1
  try go_wp2_with fail
  refine HFN.out.mono ?_
  rintro e9 w2 ⟨rfl, hB2⟩
  obtain ⟨gf, hgf⟩ : ∃ gf, gf = w2.heap.size := ⟨_, rfl⟩
  obtain ⟨wa, hwa⟩ : ∃ wa, wa = w2.alloc (.cells #[.int .i64 kf, .string fw, .int .i64 3] 80) := ⟨_, rfl⟩
  have HWA : Hid (gf = w2.heap.size ∧ wa = w2.alloc (.cells #[.int .i64 kf, .string fw, .int .i64 3] 80)) := ⟨hgf, hwa⟩
  have HK0 : Hid (wa.heap[g]? = some (.cells #[.int .i64 s.K, .int .i64 s.D, .int .i64 s.N, .int .u64 s.k, .float .f64 s.x] 41 (0, 0)) ∧ wa.heap[gf]? = some (.cells #[.int .i64 kf, .string fw, .int .i64 3] 80 (0, 0)) ∧ Below w.heap.size w wa) := by
    rw [hwa]
    exact ⟨alloc_old (blk_below HG1.out.1 hB2), alloc_at hgf, below_trans (below_trans HG1.out.2 hB2) (below_alloc _ _)⟩
  have HR0 : Hid (wa.ownsRow w.heap.size 9 1 (.slice none 0 0) 0 (([] : List Bs).map S)) := World.ownsRow_nil _ _ _ _
  have hgl : g < w2.heap.size := blk_lt (blk_below HG1.out.1 hB2)
  have hgn : ¬ g = w2.heap.size := by omega
  have kk : w2.cell? ⟨g, 1, none⟩ = some (.int .i64 s.D) := by rw [blk_cell (blk_below HG1.out.1 hB2)]; rfl
  clear hB2 hgf hwa HFN HG1 c0
  go_wp2_with fail
  rw [← HWA.out.1, ← HWA.out.2]
  clear HWA hgl hgn kk
  refine (ntext_walk s.D HT.out.2.2.1.2.1 wa (HT.out.2.2.2.1.below HK0.out.2.2)).mono ?_
  rintro e9 w3 ⟨rfl, hB3⟩
  obtain ⟨t0, ht0⟩ : ∃ t : ByteArray, t = ⟨(Lib.itoa s.D).toArray⟩ := ⟨_, rfl⟩
  simp only [S]
  rw [← ht0]
  have HTS0 : Hid (t0 = ⟨(Lib.itoa s.D).toArray⟩ ∧ Below wa.heap.size wa w3) := ⟨ht0, hB3⟩
  have HR0A : Hid ((w3.alloc (.cells #[.string t0] 9)).ownsRow w.heap.size 9 1 (.slice none 0 0) 0 ([].map S)) :=
    row_keep HR0.out fun y hy => (below_trans hB3 (below_alloc w3 _)).block y (HR0.out.lt y hy).2
  have HK0A : Hid ((w3.alloc (.cells #[.string t0] 9)).heap[g]? = some (.cells #[.int .i64 s.K, .int .i64 s.D, .int .i64 s.N, .int .u64 s.k, .float .f64 s.x] 41 (0, 0)) ∧ (w3.alloc (.cells #[.string t0] 9)).heap[gf]? = some (.cells #[.int .i64 kf, .string fw, .int .i64 3] 80 (0, 0)) ∧ Below w.heap.size w (w3.alloc (.cells #[.string t0] 9))) :=
    ⟨alloc_old (blk_below HK0.out.1 hB3), alloc_old (blk_below HK0.out.2.1 hB3), below_trans (below_trans HK0.out.2.2 hB3) (below_alloc _ _)⟩
  clear ht0 hB3
  go_wp2_with (at_builtin; refine wpList_append_own _ (by rfl) (.tmp 18) (.tmp 22) 46 (by rfl) w.heap.size 9 is (.string ⟨#[]⟩) 1 16 Tryz.underlying46 HIS.out.1 HIS.out.2.1 HIS.out.2.2.1 HIS.out.2.2.2 (by rfl) (by decide) _ 0 _ (by rfl) HR0A.out ⟨w3.heap.size, 0, none⟩ 1 1 [.string t0] (by rfl) (by rfl) (fun j u hj => by rw [WideShapes.add_plain, Nat.zero_add, blk_cell (alloc_at rfl)]; simpa using hj) (by intro u hu; simp at hu; subst hu; rfl) (by unfold maxLen; omega) (by omega) HK0A.out.2.2.size ?_; intro v4 wq0 hr4 hg4 _; obtain ⟨a0, c0, rfl, _, _⟩ := own_form21 hr4; have HR1 : Hid (wq0.ownsRow w.heap.size 9 1 (.slice a0 1 c0) 1 ([Lib.itoa s.D].map S)) := (by show World.ownsRow _ _ _ _ _ _ _; have h := hr4; rw [HTS0.out.1] at h; exact h); have HK1 : Hid (wq0.heap[g]? = some (.cells #[.int .i64 s.K, .int .i64 s.D, .int .i64 s.N, .int .u64 s.k, .float .f64 s.x] 41 (0, 0)) ∧ wq0.heap[gf]? = some (.cells #[.int .i64 kf, .string fw, .int .i64 3] 80 (0, 0)) ∧ Below w.heap.size w wq0) := ⟨own_str_keep HR0A.out hg4 HK0A.out.1 (by decide), own_str_keep HR0A.out hg4 HK0A.out.2.1 (by decide), HK0A.out.2.2.grown hg4 HK0A.out.2.2.size (fun y hy => (HR0A.out.lt y hy).1)⟩; clear hr4 hg4; have kf2 : wq0.cell? ⟨gf, 2, none⟩ = some (.int .i64 3) := (by rw [blk_cell HK1.out.2.1]; rfl); have kf1 : wq0.cell? ⟨gf, 1, none⟩ = some (.string fw) := (by rw [blk_cell HK1.out.2.1]; rfl); have kk : wq0.cell? ⟨g, 2, none⟩ = some (.int .i64 s.N) := (by rw [blk_cell HK1.out.1]; rfl))
  clear kf1 kf2 kk
  refine (ntext_walk s.N HT.out.2.2.1.2.2.1 wq0 (HT.out.2.2.2.1.below HK1.out.2.2)).mono ?_
  rintro e9 w4 ⟨rfl, hB3⟩
  obtain ⟨t1, ht1⟩ : ∃ t : ByteArray, t = ⟨(Lib.itoa s.N).toArray⟩ := ⟨_, rfl⟩
  simp only [S]
  rw [← ht1]
  have HTS1 : Hid (t1 = ⟨(Lib.itoa s.N).toArray⟩ ∧ Below wq0.heap.size wq0 w4) := ⟨ht1, hB3⟩
  have HR1A : Hid ((w4.alloc (.cells #[.string t1] 9)).ownsRow w.heap.size 9 1 (.slice a0 1 c0) 1 ([Lib.itoa s.D].map S)) :=
    row_keep HR1.out fun y hy => (below_trans hB3 (below_alloc w4 _)).block y (HR1.out.lt y hy).2
  have HK1A : Hid ((w4.alloc (.cells #[.string t1] 9)).heap[g]? = some (.cells #[.int .i64 s.K, .int .i64 s.D, .int .i64 s.N, .int .u64 s.k, .float .f64 s.x] 41 (0, 0)) ∧ (w4.alloc (.cells #[.string t1] 9)).heap[gf]? = some (.cells #[.int .i64 kf, .string fw, .int .i64 3] 80 (0, 0)) ∧ Below w.heap.size w (w4.alloc (.cells #[.string t1] 9))) :=
    ⟨alloc_old (blk_below HK1.out.1 hB3), alloc_old (blk_below HK1.out.2.1 hB3), below_trans (below_trans HK1.out.2.2 hB3) (below_alloc _ _)⟩
  clear ht1 hB3
  go_wp2_with (at_builtin; refine wpList_append_own _ (by rfl) (.tmp 28) (.tmp 32) 46 (by rfl) w.heap.size 9 is (.string ⟨#[]⟩) 1 16 Tryz.underlying46 HIS.out.1 HIS.out.2.1 HIS.out.2.2.1 HIS.out.2.2.2 (by rfl) (by decide) _ 1 _ (by rfl) HR1A.out ⟨w4.heap.size, 0, none⟩ 1 1 [.string t1] (by rfl) (by rfl) (fun j u hj => by rw [WideShapes.add_plain, Nat.zero_add, blk_cell (alloc_at rfl)]; simpa using hj) (by intro u hu; simp at hu; subst hu; rfl) (by unfold maxLen; omega) (by omega) HK1A.out.2.2.size ?_; intro v4 wq1 hr4 hg4 _; obtain ⟨a1, c1, rfl, _, _⟩ := own_form21 hr4; have HR2 : Hid (wq1.ownsRow w.heap.size 9 1 (.slice a1 2 c1) 2 ([Lib.itoa s.D, Lib.itoa s.N].map S)) := (by show World.ownsRow _ _ _ _ _ _ _; have h := hr4; rw [HTS1.out.1] at h; exact h); have HK2 : Hid (wq1.heap[g]? = some (.cells #[.int .i64 s.K, .int .i64 s.D, .int .i64 s.N, .int .u64 s.k, .float .f64 s.x] 41 (0, 0)) ∧ wq1.heap[gf]? = some (.cells #[.int .i64 kf, .string fw, .int .i64 3] 80 (0, 0)) ∧ Below w.heap.size w wq1) := ⟨own_str_keep HR1A.out hg4 HK1A.out.1 (by decide), own_str_keep HR1A.out hg4 HK1A.out.2.1 (by decide), HK1A.out.2.2.grown hg4 HK1A.out.2.2.size (fun y hy => (HR1A.out.lt y hy).1)⟩; clear hr4 hg4; have kf2 : wq1.cell? ⟨gf, 2, none⟩ = some (.int .i64 3) := (by rw [blk_cell HK2.out.2.1]; rfl); have kf1 : wq1.cell? ⟨gf, 1, none⟩ = some (.string fw) := (by rw [blk_cell HK2.out.2.1]; rfl))
  clear kf1 kf2
  have har := (own_ar HR2.out).1
  have HAL := appendLine_walk (wd := f.w) (tx_keep HT.out.1 HK2.out.2.2) har (Nat.le_trans HT.out.2.1 HK2.out.2.2.size) (by have h := HFF.out.2; rw [HST.out] at h; exact h)
  simp only [S] at HAL
  rw [← HFF.out.1, ← HST.out] at HAL
  clear har
  refine HAL.mono ?_
  clear HAL
  rintro e9 w9 ⟨v5, rfl, h5, h6, h7, h8⟩
  go_wp2_with fail
  go_ret
  exact ⟨_, rfl, h5, (HK2.out.2.2.mono HT.out.2.1).trans h6, h7, (Kq.below HK2.out.2.2).trans h8⟩


set_option maxRecDepth 100000 in
set_option maxHeartbeats 8000000 in
theorem appendStep_0 {base : Nat} {w : World} {tv : Value} {l : Bs} {s : Sp} {f : Fm} (ht : TX base w tv l) (hb : base ≤ w.heap.size) (ho : s.ok) (htb : Tb w) (hl : l.length ≤ 1099511000000) (hf : formK s.K = some f) (hfg : f.g = 0) :
    Calls Tryz.prog 24 #[tv, .agg #[.int .i64 s.K, .int .i64 s.D, .int .i64 s.N, .int .u64 s.k, .float .f64 s.x]] w (TxGot base (l ++ stT s) w) := by
  obtain ⟨oa, oc, rfl, _, _⟩ := own_form21 ht
  obtain ⟨is, his, hs0, hs1, hs2⟩ := info_parts21 info_str
  have HIS : Hid (Tryz.prog.info? 9 = some is ∧ is.zero = some (.string ⟨#[]⟩) ∧ is.size = 1 ∧ is.bytes = 16) := ⟨his, hs0, hs1, hs2⟩
  have HT : Hid (TX base w (.slice oa l.length oc) l ∧ base ≤ w.heap.size ∧ s.ok ∧ Tb w ∧ l.length ≤ 1099511000000) := ⟨ht, hb, ho, htb, hl⟩
  have hlen : l.length + (stT s).length ≤ 1099511627776 := by
    have h1 := stA_len ho (formD s.K).g
    have h2 := (form_gK hf).2
    have h3 : (formD s.K).w = f.w := by unfold formD; rw [hf]; rfl
    unfold stT lineT
    rw [h3]
    simp
    omega
  obtain ⟨g, hg⟩ : ∃ g, g = w.heap.size := ⟨_, rfl⟩
  obtain ⟨w1, hw1⟩ : ∃ w1, w1 = w.alloc (.cells #[.int .i64 s.K, .int .i64 s.D, .int .i64 s.N, .int .u64 s.k, .float .f64 s.x] 41) := ⟨_, rfl⟩
  have HW1 : Hid (w1 = w.alloc (.cells #[.int .i64 s.K, .int .i64 s.D, .int .i64 s.N, .int .u64 s.k, .float .f64 s.x] 41) ∧ g = w.heap.size) := ⟨hw1, hg⟩
  have HG1 : Hid (w1.heap[g]? = some (.cells #[.int .i64 s.K, .int .i64 s.D, .int .i64 s.N, .int .u64 s.k, .float .f64 s.x] 41 (0, 0)) ∧ Below w.heap.size w w1) := by rw [hw1]; exact ⟨alloc_at hg, below_alloc _ _⟩
  have HFW := formOf_walk s.K w1 (htb.below HG1.out.2)
  have hfw : formL.find? (fun f => f.K == s.K) = some f := hf
  rw [hfw] at HFW
  simp only [FmA, FmV, Option.getD_some, Option.isSome_some, S, hfg] at HFW
  obtain ⟨kf, hkf⟩ : ∃ k, k = f.K := ⟨_, rfl⟩
  obtain ⟨fw, hfw2⟩ : ∃ k : ByteArray, k = ⟨f.w.toArray⟩ := ⟨_, rfl⟩
  rw [← hkf, ← hfw2] at HFW
  have HFN : Hid (Calls Tryz.prog 35 #[.int .i64 s.K] w1 fun e w' => e = .returned (.tuple #[.agg #[.int .i64 kf, .string fw, .int .i64 0], .bool true]) ∧ Below w1.heap.size w1 w') := HFW
  have HST : Hid (stT s = lineT f.w []) := by
    show _ = _
    have h3 : formD s.K = f := by unfold formD; rw [hf]; rfl
    unfold stT
    rw [h3, hfg]
    rfl
  have HFF : Hid (fw = ⟨f.w.toArray⟩ ∧ l.length + (stT s).length ≤ 1099511627776) := ⟨hfw2, hlen⟩
  have c0 : w1.cell? ⟨g, 0, none⟩ = some (.int .i64 s.K) := by rw [blk_cell HG1.out.1]; rfl
  have b1 : bits .and .i64 0 1 = 0 := by decide +kernel
  have b2 : bits .and .i64 0 2 = 0 := by decide +kernel
  have b4 : bits .and .i64 0 4 = 0 := by decide +kernel
  have b8 : bits .and .i64 0 8 = 0 := by decide +kernel
  clear ht hb ho htb hl hw1 hg HFW hf hfg hfw hkf hfw2 his hs0 hs1 hs2 hlen
  go_enter Tryz.func24, Tryz.ntmps24
  go_wp2_with fail
  rw [← HW1.out.2, ← HW1.out.1]
  clear HW1
  try go_wp2_with fail
  refine HFN.out.mono ?_
  rintro e9 w2 ⟨rfl, hB2⟩
  obtain ⟨gf, hgf⟩ : ∃ gf, gf = w2.heap.size := ⟨_, rfl⟩
  obtain ⟨wa, hwa⟩ : ∃ wa, wa = w2.alloc (.cells #[.int .i64 kf, .string fw, .int .i64 0] 80) := ⟨_, rfl⟩
  have HWA : Hid (gf = w2.heap.size ∧ wa = w2.alloc (.cells #[.int .i64 kf, .string fw, .int .i64 0] 80)) := ⟨hgf, hwa⟩
  have HK0 : Hid (wa.heap[g]? = some (.cells #[.int .i64 s.K, .int .i64 s.D, .int .i64 s.N, .int .u64 s.k, .float .f64 s.x] 41 (0, 0)) ∧ wa.heap[gf]? = some (.cells #[.int .i64 kf, .string fw, .int .i64 0] 80 (0, 0)) ∧ Below w.heap.size w wa) := by
    rw [hwa]
    exact ⟨alloc_old (blk_below HG1.out.1 hB2), alloc_at hgf, below_trans (below_trans HG1.out.2 hB2) (below_alloc _ _)⟩
  have HR0 : Hid (wa.ownsRow w.heap.size 9 1 (.slice none 0 0) 0 (([] : List Bs).map S)) := World.ownsRow_nil _ _ _ _
  have hgl : g < w2.heap.size := blk_lt (blk_below HG1.out.1 hB2)
  have hgn : ¬ g = w2.heap.size := by omega
  clear hB2 hgf hwa HFN HG1 c0
  go_wp2_with fail
  rw [← HWA.out.1, ← HWA.out.2]
  clear HWA hgl hgn
  have har := (own_ar HR0.out).1
  have HAL := appendLine_walk (wd := f.w) (tx_keep HT.out.1 HK0.out.2.2) har (Nat.le_trans HT.out.2.1 HK0.out.2.2.size) (by have h := HFF.out.2; rw [HST.out] at h; exact h)
  simp only [S] at HAL
  rw [← HFF.out.1, ← HST.out] at HAL
  clear har
  refine HAL.mono ?_
  clear HAL
  rintro e9 w9 ⟨v5, rfl, h5, h6, h7, h8⟩
  go_wp2_with fail
  go_ret
  exact ⟨_, rfl, h5, (HK0.out.2.2.mono HT.out.2.1).trans h6, h7, (Kq.below HK0.out.2.2).trans h8⟩


set_option maxRecDepth 100000 in
set_option maxHeartbeats 8000000 in
theorem appendStep_2 {base : Nat} {w : World} {tv : Value} {l : Bs} {s : Sp} {f : Fm} (ht : TX base w tv l) (hb : base ≤ w.heap.size) (ho : s.ok) (htb : Tb w) (hl : l.length ≤ 1099511000000) (hf : formK s.K = some f) (hfg : f.g = 2) :
    Calls Tryz.prog 24 #[tv, .agg #[.int .i64 s.K, .int .i64 s.D, .int .i64 s.N, .int .u64 s.k, .float .f64 s.x]] w (TxGot base (l ++ stT s) w) := by
  obtain ⟨oa, oc, rfl, _, _⟩ := own_form21 ht
  obtain ⟨is, his, hs0, hs1, hs2⟩ := info_parts21 info_str
  have HIS : Hid (Tryz.prog.info? 9 = some is ∧ is.zero = some (.string ⟨#[]⟩) ∧ is.size = 1 ∧ is.bytes = 16) := ⟨his, hs0, hs1, hs2⟩
  have HT : Hid (TX base w (.slice oa l.length oc) l ∧ base ≤ w.heap.size ∧ s.ok ∧ Tb w ∧ l.length ≤ 1099511000000) := ⟨ht, hb, ho, htb, hl⟩
  have hlen : l.length + (stT s).length ≤ 1099511627776 := by
    have h1 := stA_len ho (formD s.K).g
    have h2 := (form_gK hf).2
    have h3 : (formD s.K).w = f.w := by unfold formD; rw [hf]; rfl
    unfold stT lineT
    rw [h3]
    simp
    omega
  obtain ⟨g, hg⟩ : ∃ g, g = w.heap.size := ⟨_, rfl⟩
  obtain ⟨w1, hw1⟩ : ∃ w1, w1 = w.alloc (.cells #[.int .i64 s.K, .int .i64 s.D, .int .i64 s.N, .int .u64 s.k, .float .f64 s.x] 41) := ⟨_, rfl⟩
  have HW1 : Hid (w1 = w.alloc (.cells #[.int .i64 s.K, .int .i64 s.D, .int .i64 s.N, .int .u64 s.k, .float .f64 s.x] 41) ∧ g = w.heap.size) := ⟨hw1, hg⟩
  have HG1 : Hid (w1.heap[g]? = some (.cells #[.int .i64 s.K, .int .i64 s.D, .int .i64 s.N, .int .u64 s.k, .float .f64 s.x] 41 (0, 0)) ∧ Below w.heap.size w w1) := by rw [hw1]; exact ⟨alloc_at hg, below_alloc _ _⟩
  have HFW := formOf_walk s.K w1 (htb.below HG1.out.2)
  have hfw : formL.find? (fun f => f.K == s.K) = some f := hf
  rw [hfw] at HFW
  simp only [FmA, FmV, Option.getD_some, Option.isSome_some, S, hfg] at HFW
  obtain ⟨kf, hkf⟩ : ∃ k, k = f.K := ⟨_, rfl⟩
  obtain ⟨fw, hfw2⟩ : ∃ k : ByteArray, k = ⟨f.w.toArray⟩ := ⟨_, rfl⟩
  rw [← hkf, ← hfw2] at HFW
  have HFN : Hid (Calls Tryz.prog 35 #[.int .i64 s.K] w1 fun e w' => e = .returned (.tuple #[.agg #[.int .i64 kf, .string fw, .int .i64 2], .bool true]) ∧ Below w1.heap.size w1 w') := HFW
  have HST : Hid (stT s = lineT f.w [Lib.itoa s.N]) := by
    show _ = _
    have h3 : formD s.K = f := by unfold formD; rw [hf]; rfl
    unfold stT
    rw [h3, hfg]
    rfl
  have HFF : Hid (fw = ⟨f.w.toArray⟩ ∧ l.length + (stT s).length ≤ 1099511627776) := ⟨hfw2, hlen⟩
  have c0 : w1.cell? ⟨g, 0, none⟩ = some (.int .i64 s.K) := by rw [blk_cell HG1.out.1]; rfl
  have b1 : bits .and .i64 2 1 = 0 := by decide +kernel
  have b2 : bits .and .i64 2 2 = 2 := by decide +kernel
  have b4 : bits .and .i64 2 4 = 0 := by decide +kernel
  have b8 : bits .and .i64 2 8 = 0 := by decide +kernel
  clear ht hb ho htb hl hw1 hg HFW hf hfg hfw hkf hfw2 his hs0 hs1 hs2 hlen
  go_enter Tryz.func24, Tryz.ntmps24
  go_wp2_with fail
  rw [← HW1.out.2, ← HW1.out.1]
  clear HW1
  try go_wp2_with fail
  refine HFN.out.mono ?_
  rintro e9 w2 ⟨rfl, hB2⟩
  obtain ⟨gf, hgf⟩ : ∃ gf, gf = w2.heap.size := ⟨_, rfl⟩
  obtain ⟨wa, hwa⟩ : ∃ wa, wa = w2.alloc (.cells #[.int .i64 kf, .string fw, .int .i64 2] 80) := ⟨_, rfl⟩
  have HWA : Hid (gf = w2.heap.size ∧ wa = w2.alloc (.cells #[.int .i64 kf, .string fw, .int .i64 2] 80)) := ⟨hgf, hwa⟩
  have HK0 : Hid (wa.heap[g]? = some (.cells #[.int .i64 s.K, .int .i64 s.D, .int .i64 s.N, .int .u64 s.k, .float .f64 s.x] 41 (0, 0)) ∧ wa.heap[gf]? = some (.cells #[.int .i64 kf, .string fw, .int .i64 2] 80 (0, 0)) ∧ Below w.heap.size w wa) := by
    rw [hwa]
    exact ⟨alloc_old (blk_below HG1.out.1 hB2), alloc_at hgf, below_trans (below_trans HG1.out.2 hB2) (below_alloc _ _)⟩
  have HR0 : Hid (wa.ownsRow w.heap.size 9 1 (.slice none 0 0) 0 (([] : List Bs).map S)) := World.ownsRow_nil _ _ _ _
  have hgl : g < w2.heap.size := blk_lt (blk_below HG1.out.1 hB2)
  have hgn : ¬ g = w2.heap.size := by omega
  have kk : w2.cell? ⟨g, 2, none⟩ = some (.int .i64 s.N) := by rw [blk_cell (blk_below HG1.out.1 hB2)]; rfl
  clear hB2 hgf hwa HFN HG1 c0
  go_wp2_with fail
  rw [← HWA.out.1, ← HWA.out.2]
  clear HWA hgl hgn kk
  refine (ntext_walk s.N HT.out.2.2.1.2.2.1 wa (HT.out.2.2.2.1.below HK0.out.2.2)).mono ?_
  rintro e9 w3 ⟨rfl, hB3⟩
  obtain ⟨t0, ht0⟩ : ∃ t : ByteArray, t = ⟨(Lib.itoa s.N).toArray⟩ := ⟨_, rfl⟩
  simp only [S]
  rw [← ht0]
  have HTS0 : Hid (t0 = ⟨(Lib.itoa s.N).toArray⟩ ∧ Below wa.heap.size wa w3) := ⟨ht0, hB3⟩
  have HR0A : Hid ((w3.alloc (.cells #[.string t0] 9)).ownsRow w.heap.size 9 1 (.slice none 0 0) 0 ([].map S)) :=
    row_keep HR0.out fun y hy => (below_trans hB3 (below_alloc w3 _)).block y (HR0.out.lt y hy).2
  have HK0A : Hid ((w3.alloc (.cells #[.string t0] 9)).heap[g]? = some (.cells #[.int .i64 s.K, .int .i64 s.D, .int .i64 s.N, .int .u64 s.k, .float .f64 s.x] 41 (0, 0)) ∧ (w3.alloc (.cells #[.string t0] 9)).heap[gf]? = some (.cells #[.int .i64 kf, .string fw, .int .i64 2] 80 (0, 0)) ∧ Below w.heap.size w (w3.alloc (.cells #[.string t0] 9))) :=
    ⟨alloc_old (blk_below HK0.out.1 hB3), alloc_old (blk_below HK0.out.2.1 hB3), below_trans (below_trans HK0.out.2.2 hB3) (below_alloc _ _)⟩
  clear ht0 hB3
  go_wp2_with (at_builtin; refine wpList_append_own _ (by rfl) (.tmp 28) (.tmp 32) 46 (by rfl) w.heap.size 9 is (.string ⟨#[]⟩) 1 16 Tryz.underlying46 HIS.out.1 HIS.out.2.1 HIS.out.2.2.1 HIS.out.2.2.2 (by rfl) (by decide) _ 0 _ (by rfl) HR0A.out ⟨w3.heap.size, 0, none⟩ 1 1 [.string t0] (by rfl) (by rfl) (fun j u hj => by rw [WideShapes.add_plain, Nat.zero_add, blk_cell (alloc_at rfl)]; simpa using hj) (by intro u hu; simp at hu; subst hu; rfl) (by unfold maxLen; omega) (by omega) HK0A.out.2.2.size ?_; intro v4 wq0 hr4 hg4 _; obtain ⟨a0, c0, rfl, _, _⟩ := own_form21 hr4; have HR1 : Hid (wq0.ownsRow w.heap.size 9 1 (.slice a0 1 c0) 1 ([Lib.itoa s.N].map S)) := (by show World.ownsRow _ _ _ _ _ _ _; have h := hr4; rw [HTS0.out.1] at h; exact h); have HK1 : Hid (wq0.heap[g]? = some (.cells #[.int .i64 s.K, .int .i64 s.D, .int .i64 s.N, .int .u64 s.k, .float .f64 s.x] 41 (0, 0)) ∧ wq0.heap[gf]? = some (.cells #[.int .i64 kf, .string fw, .int .i64 2] 80 (0, 0)) ∧ Below w.heap.size w wq0) := ⟨own_str_keep HR0A.out hg4 HK0A.out.1 (by decide), own_str_keep HR0A.out hg4 HK0A.out.2.1 (by decide), HK0A.out.2.2.grown hg4 HK0A.out.2.2.size (fun y hy => (HR0A.out.lt y hy).1)⟩; clear hr4 hg4; have kf2 : wq0.cell? ⟨gf, 2, none⟩ = some (.int .i64 2) := (by rw [blk_cell HK1.out.2.1]; rfl); have kf1 : wq0.cell? ⟨gf, 1, none⟩ = some (.string fw) := (by rw [blk_cell HK1.out.2.1]; rfl))
  clear kf1 kf2
  have har := (own_ar HR1.out).1
  have HAL := appendLine_walk (wd := f.w) (tx_keep HT.out.1 HK1.out.2.2) har (Nat.le_trans HT.out.2.1 HK1.out.2.2.size) (by have h := HFF.out.2; rw [HST.out] at h; exact h)
  simp only [S] at HAL
  rw [← HFF.out.1, ← HST.out] at HAL
  clear har
  refine HAL.mono ?_
  clear HAL
  rintro e9 w9 ⟨v5, rfl, h5, h6, h7, h8⟩
  go_wp2_with fail
  go_ret
  exact ⟨_, rfl, h5, (HK1.out.2.2.mono HT.out.2.1).trans h6, h7, (Kq.below HK1.out.2.2).trans h8⟩


set_option maxRecDepth 100000 in
set_option maxHeartbeats 8000000 in
theorem appendStep_1 {base : Nat} {w : World} {tv : Value} {l : Bs} {s : Sp} {f : Fm} (ht : TX base w tv l) (hb : base ≤ w.heap.size) (ho : s.ok) (htb : Tb w) (hl : l.length ≤ 1099511000000) (hf : formK s.K = some f) (hfg : f.g = 1) :
    Calls Tryz.prog 24 #[tv, .agg #[.int .i64 s.K, .int .i64 s.D, .int .i64 s.N, .int .u64 s.k, .float .f64 s.x]] w (TxGot base (l ++ stT s) w) := by
  obtain ⟨oa, oc, rfl, _, _⟩ := own_form21 ht
  obtain ⟨is, his, hs0, hs1, hs2⟩ := info_parts21 info_str
  have HIS : Hid (Tryz.prog.info? 9 = some is ∧ is.zero = some (.string ⟨#[]⟩) ∧ is.size = 1 ∧ is.bytes = 16) := ⟨his, hs0, hs1, hs2⟩
  have HT : Hid (TX base w (.slice oa l.length oc) l ∧ base ≤ w.heap.size ∧ s.ok ∧ Tb w ∧ l.length ≤ 1099511000000) := ⟨ht, hb, ho, htb, hl⟩
  have hlen : l.length + (stT s).length ≤ 1099511627776 := by
    have h1 := stA_len ho (formD s.K).g
    have h2 := (form_gK hf).2
    have h3 : (formD s.K).w = f.w := by unfold formD; rw [hf]; rfl
    unfold stT lineT
    rw [h3]
    simp
    omega
  obtain ⟨g, hg⟩ : ∃ g, g = w.heap.size := ⟨_, rfl⟩
  obtain ⟨w1, hw1⟩ : ∃ w1, w1 = w.alloc (.cells #[.int .i64 s.K, .int .i64 s.D, .int .i64 s.N, .int .u64 s.k, .float .f64 s.x] 41) := ⟨_, rfl⟩
  have HW1 : Hid (w1 = w.alloc (.cells #[.int .i64 s.K, .int .i64 s.D, .int .i64 s.N, .int .u64 s.k, .float .f64 s.x] 41) ∧ g = w.heap.size) := ⟨hw1, hg⟩
  have HG1 : Hid (w1.heap[g]? = some (.cells #[.int .i64 s.K, .int .i64 s.D, .int .i64 s.N, .int .u64 s.k, .float .f64 s.x] 41 (0, 0)) ∧ Below w.heap.size w w1) := by rw [hw1]; exact ⟨alloc_at hg, below_alloc _ _⟩
  have HFW := formOf_walk s.K w1 (htb.below HG1.out.2)
  have hfw : formL.find? (fun f => f.K == s.K) = some f := hf
  rw [hfw] at HFW
  simp only [FmA, FmV, Option.getD_some, Option.isSome_some, S, hfg] at HFW
  obtain ⟨kf, hkf⟩ : ∃ k, k = f.K := ⟨_, rfl⟩
  obtain ⟨fw, hfw2⟩ : ∃ k : ByteArray, k = ⟨f.w.toArray⟩ := ⟨_, rfl⟩
  rw [← hkf, ← hfw2] at HFW
  have HFN : Hid (Calls Tryz.prog 35 #[.int .i64 s.K] w1 fun e w' => e = .returned (.tuple #[.agg #[.int .i64 kf, .string fw, .int .i64 1], .bool true]) ∧ Below w1.heap.size w1 w') := HFW
  have HST : Hid (stT s = lineT f.w [Lib.itoa s.D]) := by
    show _ = _
    have h3 : formD s.K = f := by unfold formD; rw [hf]; rfl
    unfold stT
    rw [h3, hfg]
    rfl
  have HFF : Hid (fw = ⟨f.w.toArray⟩ ∧ l.length + (stT s).length ≤ 1099511627776) := ⟨hfw2, hlen⟩
  have c0 : w1.cell? ⟨g, 0, none⟩ = some (.int .i64 s.K) := by rw [blk_cell HG1.out.1]; rfl
  have b1 : bits .and .i64 1 1 = 1 := by decide +kernel
  have b2 : bits .and .i64 1 2 = 0 := by decide +kernel
  have b4 : bits .and .i64 1 4 = 0 := by decide +kernel
  have b8 : bits .and .i64 1 8 = 0 := by decide +kernel
  clear ht hb ho htb hl hw1 hg HFW hf hfg hfw hkf hfw2 his hs0 hs1 hs2 hlen
  go_enter Tryz.func24, Tryz.ntmps24
  go_wp2_with fail
  rw [← HW1.out.2, ← HW1.out.1]
  clear HW1
  try go_wp2_with fail
  refine HFN.out.mono ?_
  rintro e9 w2 ⟨rfl, hB2⟩
  obtain ⟨gf, hgf⟩ : ∃ gf, gf = w2.heap.size := ⟨_, rfl⟩
  obtain ⟨wa, hwa⟩ : ∃ wa, wa = w2.alloc (.cells #[.int .i64 kf, .string fw, .int .i64 1] 80) := ⟨_, rfl⟩
  have HWA : Hid (gf = w2.heap.size ∧ wa = w2.alloc (.cells #[.int .i64 kf, .string fw, .int .i64 1] 80)) := ⟨hgf, hwa⟩
  have HK0 : Hid (wa.heap[g]? = some (.cells #[.int .i64 s.K, .int .i64 s.D, .int .i64 s.N, .int .u64 s.k, .float .f64 s.x] 41 (0, 0)) ∧ wa.heap[gf]? = some (.cells #[.int .i64 kf, .string fw, .int .i64 1] 80 (0, 0)) ∧ Below w.heap.size w wa) := by
    rw [hwa]
    exact ⟨alloc_old (blk_below HG1.out.1 hB2), alloc_at hgf, below_trans (below_trans HG1.out.2 hB2) (below_alloc _ _)⟩
  have HR0 : Hid (wa.ownsRow w.heap.size 9 1 (.slice none 0 0) 0 (([] : List Bs).map S)) := World.ownsRow_nil _ _ _ _
  have hgl : g < w2.heap.size := blk_lt (blk_below HG1.out.1 hB2)
  have hgn : ¬ g = w2.heap.size := by omega
  have kk : w2.cell? ⟨g, 1, none⟩ = some (.int .i64 s.D) := by rw [blk_cell (blk_below HG1.out.1 hB2)]; rfl
  clear hB2 hgf hwa HFN HG1 c0
  go_wp2_with fail
  rw [← HWA.out.1, ← HWA.out.2]
  clear HWA hgl hgn kk
  refine (ntext_walk s.D HT.out.2.2.1.2.1 wa (HT.out.2.2.2.1.below HK0.out.2.2)).mono ?_
  rintro e9 w3 ⟨rfl, hB3⟩
  obtain ⟨t0, ht0⟩ : ∃ t : ByteArray, t = ⟨(Lib.itoa s.D).toArray⟩ := ⟨_, rfl⟩
  simp only [S]
  rw [← ht0]
  have HTS0 : Hid (t0 = ⟨(Lib.itoa s.D).toArray⟩ ∧ Below wa.heap.size wa w3) := ⟨ht0, hB3⟩
  have HR0A : Hid ((w3.alloc (.cells #[.string t0] 9)).ownsRow w.heap.size 9 1 (.slice none 0 0) 0 ([].map S)) :=
    row_keep HR0.out fun y hy => (below_trans hB3 (below_alloc w3 _)).block y (HR0.out.lt y hy).2
  have HK0A : Hid ((w3.alloc (.cells #[.string t0] 9)).heap[g]? = some (.cells #[.int .i64 s.K, .int .i64 s.D, .int .i64 s.N, .int .u64 s.k, .float .f64 s.x] 41 (0, 0)) ∧ (w3.alloc (.cells #[.string t0] 9)).heap[gf]? = some (.cells #[.int .i64 kf, .string fw, .int .i64 1] 80 (0, 0)) ∧ Below w.heap.size w (w3.alloc (.cells #[.string t0] 9))) :=
    ⟨alloc_old (blk_below HK0.out.1 hB3), alloc_old (blk_below HK0.out.2.1 hB3), below_trans (below_trans HK0.out.2.2 hB3) (below_alloc _ _)⟩
  clear ht0 hB3
  go_wp2_with (at_builtin; refine wpList_append_own _ (by rfl) (.tmp 18) (.tmp 22) 46 (by rfl) w.heap.size 9 is (.string ⟨#[]⟩) 1 16 Tryz.underlying46 HIS.out.1 HIS.out.2.1 HIS.out.2.2.1 HIS.out.2.2.2 (by rfl) (by decide) _ 0 _ (by rfl) HR0A.out ⟨w3.heap.size, 0, none⟩ 1 1 [.string t0] (by rfl) (by rfl) (fun j u hj => by rw [WideShapes.add_plain, Nat.zero_add, blk_cell (alloc_at rfl)]; simpa using hj) (by intro u hu; simp at hu; subst hu; rfl) (by unfold maxLen; omega) (by omega) HK0A.out.2.2.size ?_; intro v4 wq0 hr4 hg4 _; obtain ⟨a0, c0, rfl, _, _⟩ := own_form21 hr4; have HR1 : Hid (wq0.ownsRow w.heap.size 9 1 (.slice a0 1 c0) 1 ([Lib.itoa s.D].map S)) := (by show World.ownsRow _ _ _ _ _ _ _; have h := hr4; rw [HTS0.out.1] at h; exact h); have HK1 : Hid (wq0.heap[g]? = some (.cells #[.int .i64 s.K, .int .i64 s.D, .int .i64 s.N, .int .u64 s.k, .float .f64 s.x] 41 (0, 0)) ∧ wq0.heap[gf]? = some (.cells #[.int .i64 kf, .string fw, .int .i64 1] 80 (0, 0)) ∧ Below w.heap.size w wq0) := ⟨own_str_keep HR0A.out hg4 HK0A.out.1 (by decide), own_str_keep HR0A.out hg4 HK0A.out.2.1 (by decide), HK0A.out.2.2.grown hg4 HK0A.out.2.2.size (fun y hy => (HR0A.out.lt y hy).1)⟩; clear hr4 hg4; have kf2 : wq0.cell? ⟨gf, 2, none⟩ = some (.int .i64 1) := (by rw [blk_cell HK1.out.2.1]; rfl); have kf1 : wq0.cell? ⟨gf, 1, none⟩ = some (.string fw) := (by rw [blk_cell HK1.out.2.1]; rfl))
  clear kf1 kf2
  have har := (own_ar HR1.out).1
  have HAL := appendLine_walk (wd := f.w) (tx_keep HT.out.1 HK1.out.2.2) har (Nat.le_trans HT.out.2.1 HK1.out.2.2.size) (by have h := HFF.out.2; rw [HST.out] at h; exact h)
  simp only [S] at HAL
  rw [← HFF.out.1, ← HST.out] at HAL
  clear har
  refine HAL.mono ?_
  clear HAL
  rintro e9 w9 ⟨v5, rfl, h5, h6, h7, h8⟩
  go_wp2_with fail
  go_ret
  exact ⟨_, rfl, h5, (HK1.out.2.2.mono HT.out.2.1).trans h6, h7, (Kq.below HK1.out.2.2).trans h8⟩


set_option maxRecDepth 100000 in
set_option maxHeartbeats 8000000 in
theorem appendStep_4 {base : Nat} {w : World} {tv : Value} {l : Bs} {s : Sp} {f : Fm} (ht : TX base w tv l) (hb : base ≤ w.heap.size) (ho : s.ok) (htb : Tb w) (hl : l.length ≤ 1099511000000) (hf : formK s.K = some f) (hfg : f.g = 4) :
    Calls Tryz.prog 24 #[tv, .agg #[.int .i64 s.K, .int .i64 s.D, .int .i64 s.N, .int .u64 s.k, .float .f64 s.x]] w (TxGot base (l ++ stT s) w) := by
  obtain ⟨oa, oc, rfl, _, _⟩ := own_form21 ht
  obtain ⟨is, his, hs0, hs1, hs2⟩ := info_parts21 info_str
  have HIS : Hid (Tryz.prog.info? 9 = some is ∧ is.zero = some (.string ⟨#[]⟩) ∧ is.size = 1 ∧ is.bytes = 16) := ⟨his, hs0, hs1, hs2⟩
  have HT : Hid (TX base w (.slice oa l.length oc) l ∧ base ≤ w.heap.size ∧ s.ok ∧ Tb w ∧ l.length ≤ 1099511000000) := ⟨ht, hb, ho, htb, hl⟩
  have hlen : l.length + (stT s).length ≤ 1099511627776 := by
    have h1 := stA_len ho (formD s.K).g
    have h2 := (form_gK hf).2
    have h3 : (formD s.K).w = f.w := by unfold formD; rw [hf]; rfl
    unfold stT lineT
    rw [h3]
    simp
    omega
  obtain ⟨g, hg⟩ : ∃ g, g = w.heap.size := ⟨_, rfl⟩
  obtain ⟨w1, hw1⟩ : ∃ w1, w1 = w.alloc (.cells #[.int .i64 s.K, .int .i64 s.D, .int .i64 s.N, .int .u64 s.k, .float .f64 s.x] 41) := ⟨_, rfl⟩
  have HW1 : Hid (w1 = w.alloc (.cells #[.int .i64 s.K, .int .i64 s.D, .int .i64 s.N, .int .u64 s.k, .float .f64 s.x] 41) ∧ g = w.heap.size) := ⟨hw1, hg⟩
  have HG1 : Hid (w1.heap[g]? = some (.cells #[.int .i64 s.K, .int .i64 s.D, .int .i64 s.N, .int .u64 s.k, .float .f64 s.x] 41 (0, 0)) ∧ Below w.heap.size w w1) := by rw [hw1]; exact ⟨alloc_at hg, below_alloc _ _⟩
  have HFW := formOf_walk s.K w1 (htb.below HG1.out.2)
  have hfw : formL.find? (fun f => f.K == s.K) = some f := hf
  rw [hfw] at HFW
  simp only [FmA, FmV, Option.getD_some, Option.isSome_some, S, hfg] at HFW
  obtain ⟨kf, hkf⟩ : ∃ k, k = f.K := ⟨_, rfl⟩
  obtain ⟨fw, hfw2⟩ : ∃ k : ByteArray, k = ⟨f.w.toArray⟩ := ⟨_, rfl⟩
  rw [← hkf, ← hfw2] at HFW
  have HFN : Hid (Calls Tryz.prog 35 #[.int .i64 s.K] w1 fun e w' => e = .returned (.tuple #[.agg #[.int .i64 kf, .string fw, .int .i64 4], .bool true]) ∧ Below w1.heap.size w1 w') := HFW
  have HST : Hid (stT s = lineT f.w [Lib.decDigits s.k]) := by
    show _ = _
    have h3 : formD s.K = f := by unfold formD; rw [hf]; rfl
    unfold stT
    rw [h3, hfg]
    rfl
  have HFF : Hid (fw = ⟨f.w.toArray⟩ ∧ l.length + (stT s).length ≤ 1099511627776) := ⟨hfw2, hlen⟩
  have c0 : w1.cell? ⟨g, 0, none⟩ = some (.int .i64 s.K) := by rw [blk_cell HG1.out.1]; rfl
  have b1 : bits .and .i64 4 1 = 0 := by decide +kernel
  have b2 : bits .and .i64 4 2 = 0 := by decide +kernel
  have b4 : bits .and .i64 4 4 = 4 := by decide +kernel
  have b8 : bits .and .i64 4 8 = 0 := by decide +kernel
  clear ht hb ho htb hl hw1 hg HFW hf hfg hfw hkf hfw2 his hs0 hs1 hs2 hlen
  go_enter Tryz.func24, Tryz.ntmps24
  go_wp2_with fail
  rw [← HW1.out.2, ← HW1.out.1]
  clear HW1
  try go_wp2_with fail
  refine HFN.out.mono ?_
  rintro e9 w2 ⟨rfl, hB2⟩
  obtain ⟨gf, hgf⟩ : ∃ gf, gf = w2.heap.size := ⟨_, rfl⟩
  obtain ⟨wa, hwa⟩ : ∃ wa, wa = w2.alloc (.cells #[.int .i64 kf, .string fw, .int .i64 4] 80) := ⟨_, rfl⟩
  have HWA : Hid (gf = w2.heap.size ∧ wa = w2.alloc (.cells #[.int .i64 kf, .string fw, .int .i64 4] 80)) := ⟨hgf, hwa⟩
  have HK0 : Hid (wa.heap[g]? = some (.cells #[.int .i64 s.K, .int .i64 s.D, .int .i64 s.N, .int .u64 s.k, .float .f64 s.x] 41 (0, 0)) ∧ wa.heap[gf]? = some (.cells #[.int .i64 kf, .string fw, .int .i64 4] 80 (0, 0)) ∧ Below w.heap.size w wa) := by
    rw [hwa]
    exact ⟨alloc_old (blk_below HG1.out.1 hB2), alloc_at hgf, below_trans (below_trans HG1.out.2 hB2) (below_alloc _ _)⟩
  have HR0 : Hid (wa.ownsRow w.heap.size 9 1 (.slice none 0 0) 0 (([] : List Bs).map S)) := World.ownsRow_nil _ _ _ _
  have hgl : g < w2.heap.size := blk_lt (blk_below HG1.out.1 hB2)
  have hgn : ¬ g = w2.heap.size := by omega
  have kk : w2.cell? ⟨g, 3, none⟩ = some (.int .u64 s.k) := by rw [blk_cell (blk_below HG1.out.1 hB2)]; rfl
  clear hB2 hgf hwa HFN HG1 c0
  go_wp2_with fail
  rw [← HWA.out.1, ← HWA.out.2]
  clear HWA hgl hgn kk
  refine (ktext_walk s.k HT.out.2.2.1.2.2.2.1 wa (HT.out.2.2.2.1.below HK0.out.2.2)).mono ?_
  rintro e9 w3 ⟨rfl, hB3⟩
  obtain ⟨t0, ht0⟩ : ∃ t : ByteArray, t = ⟨(Lib.decDigits s.k).toArray⟩ := ⟨_, rfl⟩
  simp only [S]
  rw [← ht0]
  have HTS0 : Hid (t0 = ⟨(Lib.decDigits s.k).toArray⟩ ∧ Below wa.heap.size wa w3) := ⟨ht0, hB3⟩
  have HR0A : Hid ((w3.alloc (.cells #[.string t0] 9)).ownsRow w.heap.size 9 1 (.slice none 0 0) 0 ([].map S)) :=
    row_keep HR0.out fun y hy => (below_trans hB3 (below_alloc w3 _)).block y (HR0.out.lt y hy).2
  have HK0A : Hid ((w3.alloc (.cells #[.string t0] 9)).heap[g]? = some (.cells #[.int .i64 s.K, .int .i64 s.D, .int .i64 s.N, .int .u64 s.k, .float .f64 s.x] 41 (0, 0)) ∧ (w3.alloc (.cells #[.string t0] 9)).heap[gf]? = some (.cells #[.int .i64 kf, .string fw, .int .i64 4] 80 (0, 0)) ∧ Below w.heap.size w (w3.alloc (.cells #[.string t0] 9))) :=
    ⟨alloc_old (blk_below HK0.out.1 hB3), alloc_old (blk_below HK0.out.2.1 hB3), below_trans (below_trans HK0.out.2.2 hB3) (below_alloc _ _)⟩
  clear ht0 hB3
  go_wp2_with (at_builtin; refine wpList_append_own _ (by rfl) (.tmp 38) (.tmp 43) 46 (by rfl) w.heap.size 9 is (.string ⟨#[]⟩) 1 16 Tryz.underlying46 HIS.out.1 HIS.out.2.1 HIS.out.2.2.1 HIS.out.2.2.2 (by rfl) (by decide) _ 0 _ (by rfl) HR0A.out ⟨w3.heap.size, 0, none⟩ 1 1 [.string t0] (by rfl) (by rfl) (fun j u hj => by rw [WideShapes.add_plain, Nat.zero_add, blk_cell (alloc_at rfl)]; simpa using hj) (by intro u hu; simp at hu; subst hu; rfl) (by unfold maxLen; omega) (by omega) HK0A.out.2.2.size ?_; intro v4 wq0 hr4 hg4 _; obtain ⟨a0, c0, rfl, _, _⟩ := own_form21 hr4; have HR1 : Hid (wq0.ownsRow w.heap.size 9 1 (.slice a0 1 c0) 1 ([Lib.decDigits s.k].map S)) := (by show World.ownsRow _ _ _ _ _ _ _; have h := hr4; rw [HTS0.out.1] at h; exact h); have HK1 : Hid (wq0.heap[g]? = some (.cells #[.int .i64 s.K, .int .i64 s.D, .int .i64 s.N, .int .u64 s.k, .float .f64 s.x] 41 (0, 0)) ∧ wq0.heap[gf]? = some (.cells #[.int .i64 kf, .string fw, .int .i64 4] 80 (0, 0)) ∧ Below w.heap.size w wq0) := ⟨own_str_keep HR0A.out hg4 HK0A.out.1 (by decide), own_str_keep HR0A.out hg4 HK0A.out.2.1 (by decide), HK0A.out.2.2.grown hg4 HK0A.out.2.2.size (fun y hy => (HR0A.out.lt y hy).1)⟩; clear hr4 hg4; have kf2 : wq0.cell? ⟨gf, 2, none⟩ = some (.int .i64 4) := (by rw [blk_cell HK1.out.2.1]; rfl); have kf1 : wq0.cell? ⟨gf, 1, none⟩ = some (.string fw) := (by rw [blk_cell HK1.out.2.1]; rfl))
  clear kf1 kf2
  have har := (own_ar HR1.out).1
  have HAL := appendLine_walk (wd := f.w) (tx_keep HT.out.1 HK1.out.2.2) har (Nat.le_trans HT.out.2.1 HK1.out.2.2.size) (by have h := HFF.out.2; rw [HST.out] at h; exact h)
  simp only [S] at HAL
  rw [← HFF.out.1, ← HST.out] at HAL
  clear har
  refine HAL.mono ?_
  clear HAL
  rintro e9 w9 ⟨v5, rfl, h5, h6, h7, h8⟩
  go_wp2_with fail
  go_ret
  exact ⟨_, rfl, h5, (HK1.out.2.2.mono HT.out.2.1).trans h6, h7, (Kq.below HK1.out.2.2).trans h8⟩


end Go.Proofs.YtkiplcmndpdifaaGreatDoor


