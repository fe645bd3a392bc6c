/- Contract of bucket's cellBytes. -/
import Derived.Test.YtcmklbibehnloaaGreatB11
set_option maxRecDepth 100000
set_option maxHeartbeats 16000000
namespace Go.Proofs.YtcmklbibehnloaaGreat
open Go.RowKit
theorem own_form8 {w : World} {base e n : Nat} {v : Value} {xs : List Value} (h : w.ownsRow base e 1 v n xs) : ∃ ao cap, v = .slice ao n cap := by
 rcases h.2 with ⟨rfl, rfl⟩ | ⟨g, cap, cur, rfl, _⟩
 ·exact ⟨_, _, rfl⟩
 ·exact ⟨_, _, rfl⟩
theorem bv_any {w : World} {v : Value} {l : List Nat} (h : Bv w v l) : ∃ a n q, v = .slice a n q := by
 obtain ⟨⟨ao, cap, e, _⟩, _⟩ := h;exact ⟨ao, _, cap, e⟩
theorem bv_byte (w : World) (x : Nat) (hx : x < 256) : Bv (w.alloc (.cells #[.int .u8 (x : Nat)] 5)) (.slice (some ⟨w.heap.size, 0, none⟩) 1 1) [x] := ⟨sv_one .u8 w _ _, by simpa using hx⟩
theorem pv_five {w : World} {a b c d e : Value} {la lb lc ld le : List Nat} (t : TypeId) (ha : Bv w a la) (hb : Bv w b lb) (hc : Bv w c lc) (hd : Bv w d ld) (he : Bv w e le) :
  Pv (w.alloc (.cells #[a, b, c, d, e] t)) (.slice (some ⟨w.heap.size, 0, none⟩) 5 5) [la, lb, lc, ld, le] := by
 refine ⟨_, 5, rfl, Nat.le_refl _, by simp [maxLen], by simp, fun i hi => ?_⟩;simp at hi;have : i = 0 ∨ i = 1 ∨ i = 2 ∨ i = 3 ∨ i = 4 := by omega
 rcases this with rfl | rfl | rfl | rfl | rfl
 ·exact ⟨_, _, a, rfl, by simp, ha.below (below_alloc _ _)⟩
 ·exact ⟨_, _, b, rfl, by simp, hb.below (below_alloc _ _)⟩
 ·exact ⟨_, _, c, rfl, by simp, hc.below (below_alloc _ _)⟩
 ·exact ⟨_, _, d, rfl, by simp, hd.below (below_alloc _ _)⟩
 ·exact ⟨_, _, e, rfl, by simp, he.below (below_alloc _ _)⟩
theorem flat_five (a b c d e : List Nat) : [a, b, c, d, e].flatten = a ++ (b ++ (c ++ (d ++ e))) := by simp
theorem or_1 : bits .or .u8 (0 : Int) 1 = 1 := by decide +kernel
theorem or_2 : bits .or .u8 (0 : Int) 2 = 2 := by decide +kernel
theorem or_3 : bits .or .u8 (1 : Int) 2 = 3 := by decide +kernel
theorem cellBytes_a (k x y m : Nat) (hk : k < 18446744073709551616) (hm : m ≤ 1099511627776) (w : World) :
  Calls Tryz.prog 192 #[.agg #[.int .u64 k, .bool false, .int .u64 x, .bool false, .int .u64 y, .int .i64 m]] w fun e w' => ∃ v, e = .returned v ∧ Bv w' v (cellBB ⟨k, ⟨false, x⟩, ⟨false, y⟩, m⟩) ∧ Below w.heap.size w w' := by
 obtain ⟨p, hp⟩ : ∃ p : Vl, p = ⟨false, x⟩ := ⟨_, rfl⟩;obtain ⟨q, hq⟩ : ∃ q : Vl, q = ⟨false, y⟩ := ⟨_, rfl⟩;have hcb : cellBB ⟨k, ⟨false, x⟩, ⟨false, y⟩, m⟩ = Wm.enc k ++ ([0] ++ (valB p ++ (valB q ++ Wm.enc m))) := by rw [hp, hq]; simp [cellBB, flagN]
 rw [hcb]
 have hlt : ∀ c ∈ Wm.enc k ++ ([0] ++ (valB p ++ (valB q ++ Wm.enc m))), c < 256 := by
  intro c hc;simp only [List.mem_append, List.mem_singleton] at hc;rcases hc with h | rfl | h | h | h
  ·exact Wm.enc_lt _ hk c h
  ·omega
  ·exact valB_lt _ c h
  ·exact valB_lt _ c h
  ·exact Wm.enc_lt _ (by omega) c h
 have HLT := hidH hlt
 have HSZ : Hid ((Wm.enc k ++ ([0] ++ (valB p ++ (valB q ++ Wm.enc m)))).length ≤ 140737488355328) := by
  have h1 := Wm.enc_len k; have h2 := Wm.enc_len m; have h3 := valB_len p; have h4 := valB_len q;show _ ≤ _;simp only [List.length_append, List.length_singleton]; omega
 have HM : Hid (m < 18446744073709551616) := by show _ < _; omega
 have HK := hidH hk;have hwm : IntKind.u64.wrap (m : Int) = (m : Int) := wrap_u64_id (by omega) (by omega);have o1 := or_1;have o2 := or_2;have o3 := or_3;clear hcb hlt hk hm;go_in;go_upto_region 6 with fail
 clear o1 o2 o3;have HC : Hid (CB (w.alloc (Obj.cells #[.int .u64 k, .bool false, .int .u64 x, .bool false, .int .u64 y, .int .i64 m] 114)) w.heap.size ⟨k, ⟨false, x⟩, ⟨false, y⟩, m⟩) := cb_new w ⟨k, ⟨false, x⟩, ⟨false, y⟩, m⟩;have HB : Hid (Below w.heap.size w (w.alloc (Obj.cells #[.int .u64 k, .bool false, .int .u64 x, .bool false, .int .u64 y, .int .i64 m] 114))) := below_alloc _ _;generalize w.alloc (Obj.cells #[.int .u64 k, .bool false, .int .u64 x, .bool false, .int .u64 y, .int .i64 m] 114) = w1 at HC HB ⊢;have k0 : ∀ wx, Below w1.heap.size w1 wx → wx.cell? ⟨w.heap.size, 0, none⟩ = some (.int .u64 k) := fun wx h => (HC.out.keep h).c0;have k1 : ∀ wx, Below w1.heap.size w1 wx → wx.cell? ⟨w.heap.size, 1, none⟩ = some (.bool false) := fun wx h => (HC.out.keep h).c1;have k2 : ∀ wx, Below w1.heap.size w1 wx → wx.cell? ⟨w.heap.size, 2, none⟩ = some (.int .u64 x) := fun wx h => (HC.out.keep h).c2;have k3 : ∀ wx, Below w1.heap.size w1 wx → wx.cell? ⟨w.heap.size, 3, none⟩ = some (.bool false) := fun wx h => (HC.out.keep h).c3;have k4 : ∀ wx, Below w1.heap.size w1 wx → wx.cell? ⟨w.heap.size, 4, none⟩ = some (.int .u64 y) := fun wx h => (HC.out.keep h).c4;have k5 : ∀ wx, Below w1.heap.size w1 wx → wx.cell? ⟨w.heap.size, 5, none⟩ = some (.int .i64 m) := fun wx h => (HC.out.keep h).c5;refine wp_region_noPanic ?_;refine wp_region_held_drew (S := fun wx => Below w1.heap.size w1 wx) (by kernel_rfl) ?_ fun hHeld => ?_
 ·exact (Below.refl _ _).drew
 refine tkS 0 14 rfl hHeld ?_;refine tkS 1 15 rfl hHeld ?_;refine tkS 3 17 rfl hHeld ?_;refine tkS 5 19 rfl hHeld ?_;refine tkS 6 20 rfl hHeld ?_;refine tkS 8 22 rfl hHeld ?_;refine tkS 9 23 rfl hHeld ?_;refine tkS 11 25 rfl hHeld ?_;refine tkS 12 26 rfl hHeld ?_;refine tkS 13 27 rfl hHeld ?_;refine wpAnyH_ready (rs := [2, 4]) (by kernel_rfl) (by simp) ?_;refine AllReadyH.cons (o := ⟨some 16, _, _, _, _, _⟩) rfl (fun K hK => ?_) (AllReadyH.cons (o := ⟨some 18, _, _, _, _, _⟩) rfl (fun K hK => ?_) AllReadyH.nil)
 ·go_simp;refine (put_walk k HK.out _).mono ?_;rintro e wA ⟨v2, rfl, ho2, hB2⟩;have hA := own_bv ho2 (Wm.enc_lt k HK.out);obtain ⟨a2, n2, q2, rfl⟩ := bv_any hA;have hS2 := below_trans hHeld hB2;clear hB2 hHeld ho2;go_simp;refine hK.out _ _ ?_ fun hHeld => ?_
  ·exact hS2
  clear hK K;try simp only [Act.put, zz]
  refine wpAnyH_ready (rs := [4, 7]) (by kernel_rfl) (by simp) ?_;refine AllReadyH.cons (o := ⟨some 18, _, _, _, _, _⟩) rfl (fun K hK => ?_) (AllReadyH.cons (o := ⟨some 21, _, _, _, _, _⟩) rfl (fun K hK => ?_) AllReadyH.nil)
  ·go_simp;have hB := bv_byte (wA) 0 (by omega);have hA := hA.below (below_alloc _ (Obj.cells #[Value.int .u8 0] 5));have hSB : Below w1.heap.size w1 ((wA).alloc (Obj.cells #[Value.int .u8 0] 5)) := hHeld.alloc hHeld.size _;clear hHeld;generalize (wA).alloc (Obj.cells #[Value.int .u8 0] 5) = wB at hB hSB hA ⊢;refine hK.out _ _ ?_ fun hHeld => ?_
   ·exact hSB
   clear hK K;try simp only [Act.put, zz]
   refine rdH 7 21 rfl fun K hK => ?_;go_simp;refine (valueBytes_walk ⟨false, x⟩ _).mono ?_;rintro e wC ⟨v7, rfl, hC, hB7⟩;obtain ⟨a7, n7, q7, rfl⟩ := bv_any hC;have hA := hA.below hB7;have hB := hB.below hB7;have hS7 := below_trans hHeld hB7;clear hB7 hHeld;go_simp;refine hK.out _ _ ?_ fun hHeld => ?_
   ·exact hS7
   clear hK K;try simp only [Act.put, zz]
   refine rdH 10 24 rfl fun K hK => ?_;go_simp;refine (valueBytes_walk ⟨false, y⟩ _).mono ?_;rintro e wD ⟨v10, rfl, hD, hB10⟩;obtain ⟨a10, n10, q10, rfl⟩ := bv_any hD;have hA := hA.below hB10;have hB := hB.below hB10;have hC := hC.below hB10;have hS10 := below_trans hHeld hB10;clear hB10 hHeld;go_simp;refine hK.out _ _ ?_ fun hHeld => ?_
   ·exact hS10
   clear hK K;try simp only [Act.put, zz]
   refine rdH 14 28 rfl fun K hK => ?_;go_simp;refine (put_walk m HM.out _).mono ?_;rintro e wE ⟨v14, rfl, ho14, hB14⟩;have hE := own_bv ho14 (Wm.enc_lt m HM.out);obtain ⟨a14, n14, q14, rfl⟩ := bv_any hE;have hA := hA.below hB14;have hB := hB.below hB14;have hC := hC.below hB14;have hD := hD.below hB14;have hS14 := below_trans hHeld hB14;clear hB14 hHeld ho14;go_simp;refine hK.out _ _ ?_ fun hHeld => ?_
   ·exact hS14
   clear hK K;try simp only [Act.put, zz]
   refine rdH 15 29 rfl fun K hK => ?_;go_simp;refine hK.out _ _ ?_ fun hHeld => ?_
   ·exact hHeld.alloc hHeld.size _
   clear hK K;try simp only [Act.put, zz]
   refine rdH 16 30 rfl fun K hK => ?_;go_simp;refine (join_walk (pv_five _ hA hB hC hD hE) (by rw [flat_five]; have h := HSZ.out; rwa [hp, hq] at h)).mono ?_;rintro e w9 ⟨v9, rfl, ho9, hB9⟩;rw [flat_five] at ho9;have hS9 := below_trans hHeld hB9;have hJ := own_bv ho9 (by have h := HLT.out; rwa [hp, hq] at h);clear hB9 hHeld ho9;go_simp;refine hK.out _ _ ?_ fun hHeld => ?_
   ·exact hS9
   clear hK K;try simp only [Act.put, zz]
   refine tkS 17 2 rfl hHeld ?_;refine wpAnyH_done (by kernel_rfl) ?_ _;refine NoPanic.normal ?_;go_wp2_with fail;go_ret;rw [hp, hq];exact ⟨v9, rfl, hJ, below_trans HB.out hHeld⟩
  ·go_simp;refine (valueBytes_walk ⟨false, x⟩ _).mono ?_;rintro e wC ⟨v7, rfl, hC, hB7⟩;obtain ⟨a7, n7, q7, rfl⟩ := bv_any hC;have hA := hA.below hB7;have hS7 := below_trans hHeld hB7;clear hB7 hHeld;go_simp;refine hK.out _ _ ?_ fun hHeld => ?_
   ·exact hS7
   clear hK K;try simp only [Act.put, zz]
   refine wpAnyH_ready (rs := [4, 10]) (by kernel_rfl) (by simp) ?_;refine AllReadyH.cons (o := ⟨some 18, _, _, _, _, _⟩) rfl (fun K hK => ?_) (AllReadyH.cons (o := ⟨some 24, _, _, _, _, _⟩) rfl (fun K hK => ?_) AllReadyH.nil)
   ·go_simp;have hB := bv_byte (wC) 0 (by omega);have hA := hA.below (below_alloc _ (Obj.cells #[Value.int .u8 0] 5));have hC := hC.below (below_alloc _ (Obj.cells #[Value.int .u8 0] 5));have hSB : Below w1.heap.size w1 ((wC).alloc (Obj.cells #[Value.int .u8 0] 5)) := hHeld.alloc hHeld.size _;clear hHeld;generalize (wC).alloc (Obj.cells #[Value.int .u8 0] 5) = wB at hB hSB hA hC ⊢;refine hK.out _ _ ?_ fun hHeld => ?_
    ·exact hSB
    clear hK K;try simp only [Act.put, zz]
    refine rdH 10 24 rfl fun K hK => ?_;go_simp;refine (valueBytes_walk ⟨false, y⟩ _).mono ?_;rintro e wD ⟨v10, rfl, hD, hB10⟩;obtain ⟨a10, n10, q10, rfl⟩ := bv_any hD;have hA := hA.below hB10;have hC := hC.below hB10;have hB := hB.below hB10;have hS10 := below_trans hHeld hB10;clear hB10 hHeld;go_simp;refine hK.out _ _ ?_ fun hHeld => ?_
    ·exact hS10
    clear hK K;try simp only [Act.put, zz]
    refine rdH 14 28 rfl fun K hK => ?_;go_simp;refine (put_walk m HM.out _).mono ?_;rintro e wE ⟨v14, rfl, ho14, hB14⟩;have hE := own_bv ho14 (Wm.enc_lt m HM.out);obtain ⟨a14, n14, q14, rfl⟩ := bv_any hE;have hA := hA.below hB14;have hC := hC.below hB14;have hB := hB.below hB14;have hD := hD.below hB14;have hS14 := below_trans hHeld hB14;clear hB14 hHeld ho14;go_simp;refine hK.out _ _ ?_ fun hHeld => ?_
    ·exact hS14
    clear hK K;try simp only [Act.put, zz]
    refine rdH 15 29 rfl fun K hK => ?_;go_simp;refine hK.out _ _ ?_ fun hHeld => ?_
    ·exact hHeld.alloc hHeld.size _
    clear hK K;try simp only [Act.put, zz]
    refine rdH 16 30 rfl fun K hK => ?_;go_simp;refine (join_walk (pv_five _ hA hB hC hD hE) (by rw [flat_five]; have h := HSZ.out; rwa [hp, hq] at h)).mono ?_;rintro e w9 ⟨v9, rfl, ho9, hB9⟩;rw [flat_five] at ho9;have hS9 := below_trans hHeld hB9;have hJ := own_bv ho9 (by have h := HLT.out; rwa [hp, hq] at h);clear hB9 hHeld ho9;go_simp;refine hK.out _ _ ?_ fun hHeld => ?_
    ·exact hS9
    clear hK K;try simp only [Act.put, zz]
    refine tkS 17 2 rfl hHeld ?_;refine wpAnyH_done (by kernel_rfl) ?_ _;refine NoPanic.normal ?_;go_wp2_with fail;go_ret;rw [hp, hq];exact ⟨v9, rfl, hJ, below_trans HB.out hHeld⟩
   ·go_simp;refine (valueBytes_walk ⟨false, y⟩ _).mono ?_;rintro e wD ⟨v10, rfl, hD, hB10⟩;obtain ⟨a10, n10, q10, rfl⟩ := bv_any hD;have hA := hA.below hB10;have hC := hC.below hB10;have hS10 := below_trans hHeld hB10;clear hB10 hHeld;go_simp;refine hK.out _ _ ?_ fun hHeld => ?_
    ·exact hS10
    clear hK K;try simp only [Act.put, zz]
    refine wpAnyH_ready (rs := [4, 14]) (by kernel_rfl) (by simp) ?_;refine AllReadyH.cons (o := ⟨some 18, _, _, _, _, _⟩) rfl (fun K hK => ?_) (AllReadyH.cons (o := ⟨some 28, _, _, _, _, _⟩) rfl (fun K hK => ?_) AllReadyH.nil)
    ·go_simp;have hB := bv_byte (wD) 0 (by omega);have hA := hA.below (below_alloc _ (Obj.cells #[Value.int .u8 0] 5));have hC := hC.below (below_alloc _ (Obj.cells #[Value.int .u8 0] 5));have hD := hD.below (below_alloc _ (Obj.cells #[Value.int .u8 0] 5));have hSB : Below w1.heap.size w1 ((wD).alloc (Obj.cells #[Value.int .u8 0] 5)) := hHeld.alloc hHeld.size _;clear hHeld;generalize (wD).alloc (Obj.cells #[Value.int .u8 0] 5) = wB at hB hSB hA hC hD ⊢;refine hK.out _ _ ?_ fun hHeld => ?_
     ·exact hSB
     clear hK K;try simp only [Act.put, zz]
     refine rdH 14 28 rfl fun K hK => ?_;go_simp;refine (put_walk m HM.out _).mono ?_;rintro e wE ⟨v14, rfl, ho14, hB14⟩;have hE := own_bv ho14 (Wm.enc_lt m HM.out);obtain ⟨a14, n14, q14, rfl⟩ := bv_any hE;have hA := hA.below hB14;have hC := hC.below hB14;have hD := hD.below hB14;have hB := hB.below hB14;have hS14 := below_trans hHeld hB14;clear hB14 hHeld ho14;go_simp;refine hK.out _ _ ?_ fun hHeld => ?_
     ·exact hS14
     clear hK K;try simp only [Act.put, zz]
     refine rdH 15 29 rfl fun K hK => ?_;go_simp;refine hK.out _ _ ?_ fun hHeld => ?_
     ·exact hHeld.alloc hHeld.size _
     clear hK K;try simp only [Act.put, zz]
     refine rdH 16 30 rfl fun K hK => ?_;go_simp;refine (join_walk (pv_five _ hA hB hC hD hE) (by rw [flat_five]; have h := HSZ.out; rwa [hp, hq] at h)).mono ?_;rintro e w9 ⟨v9, rfl, ho9, hB9⟩;rw [flat_five] at ho9;have hS9 := below_trans hHeld hB9;have hJ := own_bv ho9 (by have h := HLT.out; rwa [hp, hq] at h);clear hB9 hHeld ho9;go_simp;refine hK.out _ _ ?_ fun hHeld => ?_
     ·exact hS9
     clear hK K;try simp only [Act.put, zz]
     refine tkS 17 2 rfl hHeld ?_;refine wpAnyH_done (by kernel_rfl) ?_ _;refine NoPanic.normal ?_;go_wp2_with fail;go_ret;rw [hp, hq];exact ⟨v9, rfl, hJ, below_trans HB.out hHeld⟩
    ·go_simp;refine (put_walk m HM.out _).mono ?_;rintro e wE ⟨v14, rfl, ho14, hB14⟩;have hE := own_bv ho14 (Wm.enc_lt m HM.out);obtain ⟨a14, n14, q14, rfl⟩ := bv_any hE;have hA := hA.below hB14;have hC := hC.below hB14;have hD := hD.below hB14;have hS14 := below_trans hHeld hB14;clear hB14 hHeld ho14;go_simp;refine hK.out _ _ ?_ fun hHeld => ?_
     ·exact hS14
     clear hK K;try simp only [Act.put, zz]
     refine rdH 4 18 rfl fun K hK => ?_;go_simp;have hB := bv_byte (wE) 0 (by omega);have hA := hA.below (below_alloc _ (Obj.cells #[Value.int .u8 0] 5));have hC := hC.below (below_alloc _ (Obj.cells #[Value.int .u8 0] 5));have hD := hD.below (below_alloc _ (Obj.cells #[Value.int .u8 0] 5));have hE := hE.below (below_alloc _ (Obj.cells #[Value.int .u8 0] 5));have hSB : Below w1.heap.size w1 ((wE).alloc (Obj.cells #[Value.int .u8 0] 5)) := hHeld.alloc hHeld.size _;clear hHeld;generalize (wE).alloc (Obj.cells #[Value.int .u8 0] 5) = wB at hB hSB hA hC hD hE ⊢;refine hK.out _ _ ?_ fun hHeld => ?_
     ·exact hSB
     clear hK K;try simp only [Act.put, zz]
     refine rdH 15 29 rfl fun K hK => ?_;go_simp;refine hK.out _ _ ?_ fun hHeld => ?_
     ·exact hHeld.alloc hHeld.size _
     clear hK K;try simp only [Act.put, zz]
     refine rdH 16 30 rfl fun K hK => ?_;go_simp;refine (join_walk (pv_five _ hA hB hC hD hE) (by rw [flat_five]; have h := HSZ.out; rwa [hp, hq] at h)).mono ?_;rintro e w9 ⟨v9, rfl, ho9, hB9⟩;rw [flat_five] at ho9;have hS9 := below_trans hHeld hB9;have hJ := own_bv ho9 (by have h := HLT.out; rwa [hp, hq] at h);clear hB9 hHeld ho9;go_simp;refine hK.out _ _ ?_ fun hHeld => ?_
     ·exact hS9
     clear hK K;try simp only [Act.put, zz]
     refine tkS 17 2 rfl hHeld ?_;refine wpAnyH_done (by kernel_rfl) ?_ _;refine NoPanic.normal ?_;go_wp2_with fail;go_ret;rw [hp, hq];exact ⟨v9, rfl, hJ, below_trans HB.out hHeld⟩
 ·go_simp;have hB : Bv ((w1.alloc (Obj.cells #[Value.int .u8 0] 5)).drew) (.slice (some ⟨w1.heap.size, 0, none⟩) 1 1) [0] := bv_byte w1.drew 0 (by omega);have hSB : Below w1.heap.size w1 ((w1.alloc (Obj.cells #[Value.int .u8 0] 5)).drew) := (below_alloc _ _).drew;clear hHeld;generalize (w1.alloc (Obj.cells #[Value.int .u8 0] 5)).drew = wB at hB hSB ⊢;refine hK.out _ _ ?_ fun hHeld => ?_
  ·exact hSB
  clear hK K;try simp only [Act.put, zz]
  refine rdH 2 16 rfl fun K hK => ?_;go_simp;refine (put_walk k HK.out _).mono ?_;rintro e wA ⟨v2, rfl, ho2, hB2⟩;have hA := own_bv ho2 (Wm.enc_lt k HK.out);obtain ⟨a2, n2, q2, rfl⟩ := bv_any hA;have hB := hB.below hB2;have hS2 := below_trans hHeld hB2;clear hB2 hHeld ho2;go_simp;refine hK.out _ _ ?_ fun hHeld => ?_
  ·exact hS2
  clear hK K;try simp only [Act.put, zz]
  refine rdH 7 21 rfl fun K hK => ?_;go_simp;refine (valueBytes_walk ⟨false, x⟩ _).mono ?_;rintro e wC ⟨v7, rfl, hC, hB7⟩;obtain ⟨a7, n7, q7, rfl⟩ := bv_any hC;have hB := hB.below hB7;have hA := hA.below hB7;have hS7 := below_trans hHeld hB7;clear hB7 hHeld;go_simp;refine hK.out _ _ ?_ fun hHeld => ?_
  ·exact hS7
  clear hK K;try simp only [Act.put, zz]
  refine rdH 10 24 rfl fun K hK => ?_;go_simp;refine (valueBytes_walk ⟨false, y⟩ _).mono ?_;rintro e wD ⟨v10, rfl, hD, hB10⟩;obtain ⟨a10, n10, q10, rfl⟩ := bv_any hD;have hB := hB.below hB10;have hA := hA.below hB10;have hC := hC.below hB10;have hS10 := below_trans hHeld hB10;clear hB10 hHeld;go_simp;refine hK.out _ _ ?_ fun hHeld => ?_
  ·exact hS10
  clear hK K;try simp only [Act.put, zz]
  refine rdH 14 28 rfl fun K hK => ?_;go_simp;refine (put_walk m HM.out _).mono ?_;rintro e wE ⟨v14, rfl, ho14, hB14⟩;have hE := own_bv ho14 (Wm.enc_lt m HM.out);obtain ⟨a14, n14, q14, rfl⟩ := bv_any hE;have hB := hB.below hB14;have hA := hA.below hB14;have hC := hC.below hB14;have hD := hD.below hB14;have hS14 := below_trans hHeld hB14;clear hB14 hHeld ho14;go_simp;refine hK.out _ _ ?_ fun hHeld => ?_
  ·exact hS14
  clear hK K;try simp only [Act.put, zz]
  refine rdH 15 29 rfl fun K hK => ?_;go_simp;refine hK.out _ _ ?_ fun hHeld => ?_
  ·exact hHeld.alloc hHeld.size _
  clear hK K;try simp only [Act.put, zz]
  refine rdH 16 30 rfl fun K hK => ?_;go_simp;refine (join_walk (pv_five _ hA hB hC hD hE) (by rw [flat_five]; have h := HSZ.out; rwa [hp, hq] at h)).mono ?_;rintro e w9 ⟨v9, rfl, ho9, hB9⟩;rw [flat_five] at ho9;have hS9 := below_trans hHeld hB9;have hJ := own_bv ho9 (by have h := HLT.out; rwa [hp, hq] at h);clear hB9 hHeld ho9;go_simp;refine hK.out _ _ ?_ fun hHeld => ?_
  ·exact hS9
  clear hK K;try simp only [Act.put, zz]
  refine tkS 17 2 rfl hHeld ?_;refine wpAnyH_done (by kernel_rfl) ?_ _;refine NoPanic.normal ?_;go_wp2_with fail;go_ret;rw [hp, hq];exact ⟨v9, rfl, hJ, below_trans HB.out hHeld⟩
theorem cellBytes_e (ph ch : Bool) (fl : Nat) (hf : (ph = true ∧ ch = false ∧ fl = 1) ∨ (ph = false ∧ ch = true ∧ fl = 2) ∨ (ph = true ∧ ch = true ∧ fl = 3)) (k x y m : Nat) (hk : k < 18446744073709551616) (hm : m ≤ 1099511627776) (w : World) :
  Calls Tryz.prog 192 #[.agg #[.int .u64 k, .bool ph, .int .u64 x, .bool ch, .int .u64 y, .int .i64 m]] w fun e w' => ∃ v, e = .returned v ∧ Bv w' v (cellBB ⟨k, ⟨ph, x⟩, ⟨ch, y⟩, m⟩) ∧ Below w.heap.size w w' := by
 obtain ⟨p, hp⟩ : ∃ p : Vl, p = ⟨ph, x⟩ := ⟨_, rfl⟩;obtain ⟨q, hq⟩ : ∃ q : Vl, q = ⟨ch, y⟩ := ⟨_, rfl⟩;have hcb : cellBB ⟨k, ⟨ph, x⟩, ⟨ch, y⟩, m⟩ = Wm.enc k ++ ([fl] ++ (valB p ++ (valB q ++ Wm.enc m))) := by rw [hp, hq]; rcases hf with ⟨rfl, rfl, rfl⟩ | ⟨rfl, rfl, rfl⟩ | ⟨rfl, rfl, rfl⟩ <;> simp [cellBB, flagN]
 rw [hcb]
 have hlt : ∀ c ∈ Wm.enc k ++ ([fl] ++ (valB p ++ (valB q ++ Wm.enc m))), c < 256 := by
  intro c hc;simp only [List.mem_append, List.mem_singleton] at hc;rcases hc with h | rfl | h | h | h
  ·exact Wm.enc_lt _ hk c h
  ·rcases hf with h | h | h <;> omega
  ·exact valB_lt _ c h
  ·exact valB_lt _ c h
  ·exact Wm.enc_lt _ (by omega) c h
 have HLT := hidH hlt
 have HSZ : Hid ((Wm.enc k ++ ([fl] ++ (valB p ++ (valB q ++ Wm.enc m)))).length ≤ 140737488355328) := by
  have h1 := Wm.enc_len k; have h2 := Wm.enc_len m; have h3 := valB_len p; have h4 := valB_len q;show _ ≤ _;simp only [List.length_append, List.length_singleton]; omega
 have HM : Hid (m < 18446744073709551616) := by show _ < _; omega
 have HK := hidH hk;have hwm : IntKind.u64.wrap (m : Int) = (m : Int) := wrap_u64_id (by omega) (by omega);have HFL : Hid (fl < 256) := by show _ < _; rcases hf with h | h | h <;> omega
 clear hcb hlt hk hm;obtain ⟨w1, hw1⟩ : ∃ w1, w1 = w.alloc (Obj.cells #[.int .u64 k, .bool ph, .int .u64 x, .bool ch, .int .u64 y, .int .i64 m] 114) := ⟨_, rfl⟩;have HC : Hid (CB w1 w.heap.size ⟨k, ⟨ph, x⟩, ⟨ch, y⟩, m⟩) := by rw [hw1]; exact cb_new w ⟨k, ⟨ph, x⟩, ⟨ch, y⟩, m⟩
 have HB : Hid (Below w.heap.size w w1) := by rw [hw1]; exact below_alloc _ _
 have k0 : ∀ wx, Below w1.heap.size w1 wx → wx.cell? ⟨w.heap.size, 0, none⟩ = some (.int .u64 k) := fun wx h => (HC.out.keep h).c0;have k1 : ∀ wx, Below w1.heap.size w1 wx → wx.cell? ⟨w.heap.size, 1, none⟩ = some (.bool ph) := fun wx h => (HC.out.keep h).c1;have k2 : ∀ wx, Below w1.heap.size w1 wx → wx.cell? ⟨w.heap.size, 2, none⟩ = some (.int .u64 x) := fun wx h => (HC.out.keep h).c2;have k3 : ∀ wx, Below w1.heap.size w1 wx → wx.cell? ⟨w.heap.size, 3, none⟩ = some (.bool ch) := fun wx h => (HC.out.keep h).c3;have k4 : ∀ wx, Below w1.heap.size w1 wx → wx.cell? ⟨w.heap.size, 4, none⟩ = some (.int .u64 y) := fun wx h => (HC.out.keep h).c4;have k5 : ∀ wx, Below w1.heap.size w1 wx → wx.cell? ⟨w.heap.size, 5, none⟩ = some (.int .i64 m) := fun wx h => (HC.out.keep h).c5;rcases hf with ⟨rfl, rfl, hf⟩ | ⟨rfl, rfl, hf⟩ | ⟨rfl, rfl, hf⟩
 all_goals
  first
   | have o1 : bits .or .u8 (0 : Int) 1 = (fl : Int) := by rw [hf]; exact or_1
   | have o1 : bits .or .u8 (0 : Int) 2 = (fl : Int) := by rw [hf]; exact or_2
   | (have o1 := or_1; have o3 : bits .or .u8 (1 : Int) 2 = (fl : Int) := (by rw [hf]; exact or_3))
  clear hf;go_in;go_upto_region 6 with fail
  rw [← hw1];clear o1 hw1;refine wp_region_noPanic ?_;refine wp_region_held_drew (S := fun wx => Below w1.heap.size w1 wx) (by kernel_rfl) ?_ fun hHeld => ?_
  ·exact (Below.refl _ _).drew
  refine tkS 0 14 rfl hHeld ?_;refine tkS 1 15 rfl hHeld ?_;refine tkS 3 17 rfl hHeld ?_;refine tkS 5 19 rfl hHeld ?_;refine tkS 6 20 rfl hHeld ?_;refine tkS 8 22 rfl hHeld ?_;refine tkS 9 23 rfl hHeld ?_;refine tkS 11 25 rfl hHeld ?_;refine tkS 12 26 rfl hHeld ?_;refine tkS 13 27 rfl hHeld ?_;refine wpAnyH_ready (rs := [2, 4]) (by kernel_rfl) (by simp) ?_;refine AllReadyH.cons (o := ⟨some 16, _, _, _, _, _⟩) rfl (fun K hK => ?_) (AllReadyH.cons (o := ⟨some 18, _, _, _, _, _⟩) rfl (fun K hK => ?_) AllReadyH.nil)
  ·go_simp;refine (put_walk k HK.out _).mono ?_;rintro e wA ⟨v2, rfl, ho2, hB2⟩;have hA := own_bv ho2 (Wm.enc_lt k HK.out);obtain ⟨a2, n2, q2, rfl⟩ := bv_any hA;have hS2 := below_trans hHeld hB2;clear hB2 hHeld ho2;go_simp;refine hK.out _ _ ?_ fun hHeld => ?_
   ·exact hS2
   clear hK K;try simp only [Act.put, zz]
   refine wpAnyH_ready (rs := [4, 7]) (by kernel_rfl) (by simp) ?_;refine AllReadyH.cons (o := ⟨some 18, _, _, _, _, _⟩) rfl (fun K hK => ?_) (AllReadyH.cons (o := ⟨some 21, _, _, _, _, _⟩) rfl (fun K hK => ?_) AllReadyH.nil)
   ·go_simp;have hB := bv_byte (wA) fl HFL.out;have hA := hA.below (below_alloc _ (Obj.cells #[Value.int .u8 fl] 5));have hSB : Below w1.heap.size w1 ((wA).alloc (Obj.cells #[Value.int .u8 fl] 5)) := hHeld.alloc hHeld.size _;clear hHeld;generalize (wA).alloc (Obj.cells #[Value.int .u8 fl] 5) = wB at hB hSB hA ⊢;refine hK.out _ _ ?_ fun hHeld => ?_
    ·exact hSB
    clear hK K;try simp only [Act.put, zz]
    refine rdH 7 21 rfl fun K hK => ?_;go_simp;refine (valueBytes_walk ⟨_, x⟩ _).mono ?_;rintro e wC ⟨v7, rfl, hC, hB7⟩;obtain ⟨a7, n7, q7, rfl⟩ := bv_any hC;have hA := hA.below hB7;have hB := hB.below hB7;have hS7 := below_trans hHeld hB7;clear hB7 hHeld;go_simp;refine hK.out _ _ ?_ fun hHeld => ?_
    ·exact hS7
    clear hK K;try simp only [Act.put, zz]
    refine rdH 10 24 rfl fun K hK => ?_;go_simp;refine (valueBytes_walk ⟨_, y⟩ _).mono ?_;rintro e wD ⟨v10, rfl, hD, hB10⟩;obtain ⟨a10, n10, q10, rfl⟩ := bv_any hD;have hA := hA.below hB10;have hB := hB.below hB10;have hC := hC.below hB10;have hS10 := below_trans hHeld hB10;clear hB10 hHeld;go_simp;refine hK.out _ _ ?_ fun hHeld => ?_
    ·exact hS10
    clear hK K;try simp only [Act.put, zz]
    refine rdH 14 28 rfl fun K hK => ?_;go_simp;refine (put_walk m HM.out _).mono ?_;rintro e wE ⟨v14, rfl, ho14, hB14⟩;have hE := own_bv ho14 (Wm.enc_lt m HM.out);obtain ⟨a14, n14, q14, rfl⟩ := bv_any hE;have hA := hA.below hB14;have hB := hB.below hB14;have hC := hC.below hB14;have hD := hD.below hB14;have hS14 := below_trans hHeld hB14;clear hB14 hHeld ho14;go_simp;refine hK.out _ _ ?_ fun hHeld => ?_
    ·exact hS14
    clear hK K;try simp only [Act.put, zz]
    refine rdH 15 29 rfl fun K hK => ?_;go_simp;refine hK.out _ _ ?_ fun hHeld => ?_
    ·exact hHeld.alloc hHeld.size _
    clear hK K;try simp only [Act.put, zz]
    refine rdH 16 30 rfl fun K hK => ?_;go_simp;refine (join_walk (pv_five _ hA hB hC hD hE) (by rw [flat_five]; have h := HSZ.out; rwa [hp, hq] at h)).mono ?_;rintro e w9 ⟨v9, rfl, ho9, hB9⟩;rw [flat_five] at ho9;have hS9 := below_trans hHeld hB9;have hJ := own_bv ho9 (by have h := HLT.out; rwa [hp, hq] at h);clear hB9 hHeld ho9;go_simp;refine hK.out _ _ ?_ fun hHeld => ?_
    ·exact hS9
    clear hK K;try simp only [Act.put, zz]
    refine tkS 17 2 rfl hHeld ?_;refine wpAnyH_done (by kernel_rfl) ?_ _;refine NoPanic.normal ?_;go_wp2_with fail;go_ret;rw [hp, hq];exact ⟨v9, rfl, hJ, below_trans HB.out hHeld⟩
   ·go_simp;refine (valueBytes_walk ⟨_, x⟩ _).mono ?_;rintro e wC ⟨v7, rfl, hC, hB7⟩;obtain ⟨a7, n7, q7, rfl⟩ := bv_any hC;have hA := hA.below hB7;have hS7 := below_trans hHeld hB7;clear hB7 hHeld;go_simp;refine hK.out _ _ ?_ fun hHeld => ?_
    ·exact hS7
    clear hK K;try simp only [Act.put, zz]
    refine wpAnyH_ready (rs := [4, 10]) (by kernel_rfl) (by simp) ?_;refine AllReadyH.cons (o := ⟨some 18, _, _, _, _, _⟩) rfl (fun K hK => ?_) (AllReadyH.cons (o := ⟨some 24, _, _, _, _, _⟩) rfl (fun K hK => ?_) AllReadyH.nil)
    ·go_simp;have hB := bv_byte (wC) fl HFL.out;have hA := hA.below (below_alloc _ (Obj.cells #[Value.int .u8 fl] 5));have hC := hC.below (below_alloc _ (Obj.cells #[Value.int .u8 fl] 5));have hSB : Below w1.heap.size w1 ((wC).alloc (Obj.cells #[Value.int .u8 fl] 5)) := hHeld.alloc hHeld.size _;clear hHeld;generalize (wC).alloc (Obj.cells #[Value.int .u8 fl] 5) = wB at hB hSB hA hC ⊢;refine hK.out _ _ ?_ fun hHeld => ?_
     ·exact hSB
     clear hK K;try simp only [Act.put, zz]
     refine rdH 10 24 rfl fun K hK => ?_;go_simp;refine (valueBytes_walk ⟨_, y⟩ _).mono ?_;rintro e wD ⟨v10, rfl, hD, hB10⟩;obtain ⟨a10, n10, q10, rfl⟩ := bv_any hD;have hA := hA.below hB10;have hC := hC.below hB10;have hB := hB.below hB10;have hS10 := below_trans hHeld hB10;clear hB10 hHeld;go_simp;refine hK.out _ _ ?_ fun hHeld => ?_
     ·exact hS10
     clear hK K;try simp only [Act.put, zz]
     refine rdH 14 28 rfl fun K hK => ?_;go_simp;refine (put_walk m HM.out _).mono ?_;rintro e wE ⟨v14, rfl, ho14, hB14⟩;have hE := own_bv ho14 (Wm.enc_lt m HM.out);obtain ⟨a14, n14, q14, rfl⟩ := bv_any hE;have hA := hA.below hB14;have hC := hC.below hB14;have hB := hB.below hB14;have hD := hD.below hB14;have hS14 := below_trans hHeld hB14;clear hB14 hHeld ho14;go_simp;refine hK.out _ _ ?_ fun hHeld => ?_
     ·exact hS14
     clear hK K;try simp only [Act.put, zz]
     refine rdH 15 29 rfl fun K hK => ?_;go_simp;refine hK.out _ _ ?_ fun hHeld => ?_
     ·exact hHeld.alloc hHeld.size _
     clear hK K;try simp only [Act.put, zz]
     refine rdH 16 30 rfl fun K hK => ?_;go_simp;refine (join_walk (pv_five _ hA hB hC hD hE) (by rw [flat_five]; have h := HSZ.out; rwa [hp, hq] at h)).mono ?_;rintro e w9 ⟨v9, rfl, ho9, hB9⟩;rw [flat_five] at ho9;have hS9 := below_trans hHeld hB9;have hJ := own_bv ho9 (by have h := HLT.out; rwa [hp, hq] at h);clear hB9 hHeld ho9;go_simp;refine hK.out _ _ ?_ fun hHeld => ?_
     ·exact hS9
     clear hK K;try simp only [Act.put, zz]
     refine tkS 17 2 rfl hHeld ?_;refine wpAnyH_done (by kernel_rfl) ?_ _;refine NoPanic.normal ?_;go_wp2_with fail;go_ret;rw [hp, hq];exact ⟨v9, rfl, hJ, below_trans HB.out hHeld⟩
    ·go_simp;refine (valueBytes_walk ⟨_, y⟩ _).mono ?_;rintro e wD ⟨v10, rfl, hD, hB10⟩;obtain ⟨a10, n10, q10, rfl⟩ := bv_any hD;have hA := hA.below hB10;have hC := hC.below hB10;have hS10 := below_trans hHeld hB10;clear hB10 hHeld;go_simp;refine hK.out _ _ ?_ fun hHeld => ?_
     ·exact hS10
     clear hK K;try simp only [Act.put, zz]
     refine wpAnyH_ready (rs := [4, 14]) (by kernel_rfl) (by simp) ?_;refine AllReadyH.cons (o := ⟨some 18, _, _, _, _, _⟩) rfl (fun K hK => ?_) (AllReadyH.cons (o := ⟨some 28, _, _, _, _, _⟩) rfl (fun K hK => ?_) AllReadyH.nil)
     ·go_simp;have hB := bv_byte (wD) fl HFL.out;have hA := hA.below (below_alloc _ (Obj.cells #[Value.int .u8 fl] 5));have hC := hC.below (below_alloc _ (Obj.cells #[Value.int .u8 fl] 5));have hD := hD.below (below_alloc _ (Obj.cells #[Value.int .u8 fl] 5));have hSB : Below w1.heap.size w1 ((wD).alloc (Obj.cells #[Value.int .u8 fl] 5)) := hHeld.alloc hHeld.size _;clear hHeld;generalize (wD).alloc (Obj.cells #[Value.int .u8 fl] 5) = wB at hB hSB hA hC hD ⊢;refine hK.out _ _ ?_ fun hHeld => ?_
      ·exact hSB
      clear hK K;try simp only [Act.put, zz]
      refine rdH 14 28 rfl fun K hK => ?_;go_simp;refine (put_walk m HM.out _).mono ?_;rintro e wE ⟨v14, rfl, ho14, hB14⟩;have hE := own_bv ho14 (Wm.enc_lt m HM.out);obtain ⟨a14, n14, q14, rfl⟩ := bv_any hE;have hA := hA.below hB14;have hC := hC.below hB14;have hD := hD.below hB14;have hB := hB.below hB14;have hS14 := below_trans hHeld hB14;clear hB14 hHeld ho14;go_simp;refine hK.out _ _ ?_ fun hHeld => ?_
      ·exact hS14
      clear hK K;try simp only [Act.put, zz]
      refine rdH 15 29 rfl fun K hK => ?_;go_simp;refine hK.out _ _ ?_ fun hHeld => ?_
      ·exact hHeld.alloc hHeld.size _
      clear hK K;try simp only [Act.put, zz]
      refine rdH 16 30 rfl fun K hK => ?_;go_simp;refine (join_walk (pv_five _ hA hB hC hD hE) (by rw [flat_five]; have h := HSZ.out; rwa [hp, hq] at h)).mono ?_;rintro e w9 ⟨v9, rfl, ho9, hB9⟩;rw [flat_five] at ho9;have hS9 := below_trans hHeld hB9;have hJ := own_bv ho9 (by have h := HLT.out; rwa [hp, hq] at h);clear hB9 hHeld ho9;go_simp;refine hK.out _ _ ?_ fun hHeld => ?_
      ·exact hS9
      clear hK K;try simp only [Act.put, zz]
      refine tkS 17 2 rfl hHeld ?_;refine wpAnyH_done (by kernel_rfl) ?_ _;refine NoPanic.normal ?_;go_wp2_with fail;go_ret;rw [hp, hq];exact ⟨v9, rfl, hJ, below_trans HB.out hHeld⟩
     ·go_simp;refine (put_walk m HM.out _).mono ?_;rintro e wE ⟨v14, rfl, ho14, hB14⟩;have hE := own_bv ho14 (Wm.enc_lt m HM.out);obtain ⟨a14, n14, q14, rfl⟩ := bv_any hE;have hA := hA.below hB14;have hC := hC.below hB14;have hD := hD.below hB14;have hS14 := below_trans hHeld hB14;clear hB14 hHeld ho14;go_simp;refine hK.out _ _ ?_ fun hHeld => ?_
      ·exact hS14
      clear hK K;try simp only [Act.put, zz]
      refine rdH 4 18 rfl fun K hK => ?_;go_simp;have hB := bv_byte (wE) fl HFL.out;have hA := hA.below (below_alloc _ (Obj.cells #[Value.int .u8 fl] 5));have hC := hC.below (below_alloc _ (Obj.cells #[Value.int .u8 fl] 5));have hD := hD.below (below_alloc _ (Obj.cells #[Value.int .u8 fl] 5));have hE := hE.below (below_alloc _ (Obj.cells #[Value.int .u8 fl] 5));have hSB : Below w1.heap.size w1 ((wE).alloc (Obj.cells #[Value.int .u8 fl] 5)) := hHeld.alloc hHeld.size _;clear hHeld;generalize (wE).alloc (Obj.cells #[Value.int .u8 fl] 5) = wB at hB hSB hA hC hD hE ⊢;refine hK.out _ _ ?_ fun hHeld => ?_
      ·exact hSB
      clear hK K;try simp only [Act.put, zz]
      refine rdH 15 29 rfl fun K hK => ?_;go_simp;refine hK.out _ _ ?_ fun hHeld => ?_
      ·exact hHeld.alloc hHeld.size _
      clear hK K;try simp only [Act.put, zz]
      refine rdH 16 30 rfl fun K hK => ?_;go_simp;refine (join_walk (pv_five _ hA hB hC hD hE) (by rw [flat_five]; have h := HSZ.out; rwa [hp, hq] at h)).mono ?_;rintro e w9 ⟨v9, rfl, ho9, hB9⟩;rw [flat_five] at ho9;have hS9 := below_trans hHeld hB9;have hJ := own_bv ho9 (by have h := HLT.out; rwa [hp, hq] at h);clear hB9 hHeld ho9;go_simp;refine hK.out _ _ ?_ fun hHeld => ?_
      ·exact hS9
      clear hK K;try simp only [Act.put, zz]
      refine tkS 17 2 rfl hHeld ?_;refine wpAnyH_done (by kernel_rfl) ?_ _;refine NoPanic.normal ?_;go_wp2_with fail;go_ret;rw [hp, hq];exact ⟨v9, rfl, hJ, below_trans HB.out hHeld⟩
  ·go_simp;have hB : Bv ((w1.alloc (Obj.cells #[Value.int .u8 fl] 5)).drew) (.slice (some ⟨w1.heap.size, 0, none⟩) 1 1) [fl] := bv_byte w1.drew fl HFL.out;have hSB : Below w1.heap.size w1 ((w1.alloc (Obj.cells #[Value.int .u8 fl] 5)).drew) := (below_alloc _ _).drew;clear hHeld;generalize (w1.alloc (Obj.cells #[Value.int .u8 fl] 5)).drew = wB at hB hSB ⊢;refine hK.out _ _ ?_ fun hHeld => ?_
   ·exact hSB
   clear hK K;try simp only [Act.put, zz]
   refine rdH 2 16 rfl fun K hK => ?_;go_simp;refine (put_walk k HK.out _).mono ?_;rintro e wA ⟨v2, rfl, ho2, hB2⟩;have hA := own_bv ho2 (Wm.enc_lt k HK.out);obtain ⟨a2, n2, q2, rfl⟩ := bv_any hA;have hB := hB.below hB2;have hS2 := below_trans hHeld hB2;clear hB2 hHeld ho2;go_simp;refine hK.out _ _ ?_ fun hHeld => ?_
   ·exact hS2
   clear hK K;try simp only [Act.put, zz]
   refine rdH 7 21 rfl fun K hK => ?_;go_simp;refine (valueBytes_walk ⟨_, x⟩ _).mono ?_;rintro e wC ⟨v7, rfl, hC, hB7⟩;obtain ⟨a7, n7, q7, rfl⟩ := bv_any hC;have hB := hB.below hB7;have hA := hA.below hB7;have hS7 := below_trans hHeld hB7;clear hB7 hHeld;go_simp;refine hK.out _ _ ?_ fun hHeld => ?_
   ·exact hS7
   clear hK K;try simp only [Act.put, zz]
   refine rdH 10 24 rfl fun K hK => ?_;go_simp;refine (valueBytes_walk ⟨_, y⟩ _).mono ?_;rintro e wD ⟨v10, rfl, hD, hB10⟩;obtain ⟨a10, n10, q10, rfl⟩ := bv_any hD;have hB := hB.below hB10;have hA := hA.below hB10;have hC := hC.below hB10;have hS10 := below_trans hHeld hB10;clear hB10 hHeld;go_simp;refine hK.out _ _ ?_ fun hHeld => ?_
   ·exact hS10
   clear hK K;try simp only [Act.put, zz]
   refine rdH 14 28 rfl fun K hK => ?_;go_simp;refine (put_walk m HM.out _).mono ?_;rintro e wE ⟨v14, rfl, ho14, hB14⟩;have hE := own_bv ho14 (Wm.enc_lt m HM.out);obtain ⟨a14, n14, q14, rfl⟩ := bv_any hE;have hB := hB.below hB14;have hA := hA.below hB14;have hC := hC.below hB14;have hD := hD.below hB14;have hS14 := below_trans hHeld hB14;clear hB14 hHeld ho14;go_simp;refine hK.out _ _ ?_ fun hHeld => ?_
   ·exact hS14
   clear hK K;try simp only [Act.put, zz]
   refine rdH 15 29 rfl fun K hK => ?_;go_simp;refine hK.out _ _ ?_ fun hHeld => ?_
   ·exact hHeld.alloc hHeld.size _
   clear hK K;try simp only [Act.put, zz]
   refine rdH 16 30 rfl fun K hK => ?_;go_simp;refine (join_walk (pv_five _ hA hB hC hD hE) (by rw [flat_five]; have h := HSZ.out; rwa [hp, hq] at h)).mono ?_;rintro e w9 ⟨v9, rfl, ho9, hB9⟩;rw [flat_five] at ho9;have hS9 := below_trans hHeld hB9;have hJ := own_bv ho9 (by have h := HLT.out; rwa [hp, hq] at h);clear hB9 hHeld ho9;go_simp;refine hK.out _ _ ?_ fun hHeld => ?_
   ·exact hS9
   clear hK K;try simp only [Act.put, zz]
   refine tkS 17 2 rfl hHeld ?_;refine wpAnyH_done (by kernel_rfl) ?_ _;refine NoPanic.normal ?_;go_wp2_with fail;go_ret;rw [hp, hq];exact ⟨v9, rfl, hJ, below_trans HB.out hHeld⟩
theorem cellBytes_walk {c : Cl} (hc : c.okB) (hw : writB c = true) (w : World) :
  Calls Tryz.prog 192 #[.agg #[.int .u64 c.k, .bool c.p.h, .int .u64 c.p.b, .bool c.c.h, .int .u64 c.c.b, .int .i64 c.n]] w fun e w' => ∃ v, e = .returned v ∧ Bv w' v (cellBB c) ∧ Below w.heap.size w w' := by
 obtain ⟨k, ⟨ph, x⟩, ⟨ch, y⟩, n⟩ := c;have h := writ_parts hw;obtain ⟨m, rfl⟩ : ∃ m : Nat, n = m := ⟨n.toNat, by have := h.1; simp only at this; omega⟩;have hm : m ≤ 1099511627776 := by have := h.2.1; simp only at this; omega
 cases ph <;> cases ch
 ·exact cellBytes_a k x y m hc.1 hm w
 ·exact cellBytes_e false true 2 (.inr (.inl ⟨rfl, rfl, rfl⟩)) k x y m hc.1 hm w
 ·exact cellBytes_e true false 1 (.inl ⟨rfl, rfl, rfl⟩) k x y m hc.1 hm w
 ·exact cellBytes_e true true 3 (.inr (.inr ⟨rfl, rfl, rfl⟩)) k x y m hc.1 hm w
end Go.Proofs.YtcmklbibehnloaaGreat
