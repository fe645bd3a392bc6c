/- Contracts of mark's Encode, the program's and the reference's. -/
import Derived.Test.YtkicnoohfilgjaaKb

import Derived.Test.YtkicnoohfilgjaaWj

namespace Go.Proofs.Ytkicnoohfilgjaa

open Go.RowKit



theorem own_belowC {w w' : World} {base e size n : Nat} {v : Value} {xs : List Value} (h : w.ownsRow base e size v n xs) (hb : Below w.heap.size w w') : w'.ownsRow base e size v n xs := by
  refine ⟨h.1, ?_⟩
  rcases h.2 with h' | ⟨g, cap, cur, hv, hg, hh, r⟩
  · exact .inl h'
  · exact .inr ⟨g, cap, cur, hv, hg, by rw [hb.block g ((Array.getElem?_eq_some_iff.1 hh).1)]; exact hh, r⟩
theorem own_baseC {w : World} {base base' e size n : Nat} {v : Value} {xs : List Value} (h : w.ownsRow base e size v n xs) (hb : base' ≤ base) : w.ownsRow base' e size v n xs := by
  refine ⟨h.1, ?_⟩
  rcases h.2 with h' | ⟨g, cap, cur, hv, hg, hh, r⟩
  · exact .inl h'
  · exact .inr ⟨g, cap, cur, hv, Nat.le_trans hb hg, hh, r⟩
theorem grown_belowC {B : Nat} {w w' : World} {v : Value} {e n s : Nat} {xs : List Value} (hown : w.ownsRow B e s v n xs) (hg : w.grownBy w' v.ownBlock) (hB : B ≤ w.heap.size) : Below B w w' :=
  (Below.refl B w).grown hg hB (fun k hk => (hown.lt k hk).1)
theorem size_allocC (w : World) (o : Obj) : (w.alloc o).heap.size = w.heap.size + 1 := by simp [go_sem]
theorem bv_any {w : World} {v : Value} {l : List Nat} (h : Bv w v l) : ∃ a n q, v = .slice a n q := by
  obtain ⟨⟨ao, cap, e, _⟩, _⟩ := h
  exact ⟨ao, _, cap, e⟩
theorem sv_any {k : IntKind} {w : World} {v : Value} {l : List Int} (h : Sv k w v l) : ∃ a n q, v = .slice a n q := by
  obtain ⟨a, q, e, _⟩ := h; exact ⟨a, _, q, e⟩
theorem pv_three {w : World} {a b c : Value} {la lb lc : List Nat} (t : TypeId) (ha : Bv w a la) (hb : Bv w b lb) (hc : Bv w c lc) :
    Pv (w.alloc (.cells #[a, b, c] t)) (.slice (some ⟨w.heap.size, 0, none⟩) 3 3) [la, lb, lc] := by
  refine ⟨_, 3, rfl, Nat.le_refl _, by simp [maxLen], by simp, fun i hi => ?_⟩
  simp at hi
  have : i = 0 ∨ i = 1 ∨ i = 2 := by omega
  rcases this with rfl | rfl | rfl
  · exact ⟨_, _, a, rfl, by simp, ha.below (below_alloc _ _)⟩
  · exact ⟨_, _, b, rfl, by simp, hb.below (below_alloc _ _)⟩
  · exact ⟨_, _, c, rfl, by simp, hc.below (below_alloc _ _)⟩
theorem flat_3 (a b c : List Nat) : [a, b, c].flatten = a ++ (b ++ c) := by simp


/-- The bytes ahead of the i-th key. -/
def preM (B A : Nat) (k : List Nat) (i : Nat) : List Nat := Wm.enc B ++ (Wm.enc A ++ Wm.enc k.length) ++ Wm.encAll (k.take i)
theorem pre_allM (B A : Nat) (k : List Nat) : preM B A k k.length = Wm.enc B ++ (Wm.enc A ++ (Wm.enc k.length ++ Wm.encAll k)) := by simp [preM]
theorem pre_zeroM (B A : Nat) (k : List Nat) : preM B A k 0 = Wm.enc B ++ (Wm.enc A ++ Wm.enc k.length) := by simp [preM, Wm.encAll]
theorem pre_succM {B A : Nat} {k : List Nat} {i : Nat} (hi : i < k.length) : preM B A k (i + 1) = preM B A k i ++ Wm.enc k[i] := by
  simp only [preM, List.take_succ_eq_append_getElem hi, encAll_append, Wm.encAll, List.append_nil, List.append_assoc]
theorem pre_lenM {B A : Nat} {k : List Nat} (i : Nat) (h : k.length ≤ 64) : (preM B A k i).length ≤ 670 := by
  have h1 := Wm.enc_len B; have h2 := Wm.enc_len A; have h3 := Wm.enc_len k.length; have h4 := encAll_len (k.take i)
  have h5 : (k.take i).length ≤ 64 := by simp; omega
  simp only [preM, List.length_append]; omega
/-- What Encode leaves. -/
def MGot (m : Mk) (w : World) (e : Ending) (w' : World) : Prop :=
  ∃ v, e = .returned (.tuple #[v, .int .i64 ((encM m).2 : Nat)]) ∧ w'.ownsRow w.heap.size 5 1 v (encM m).1.length ((ib (encM m).1).map (Value.int .u8)) ∧ Below w.heap.size w w'
theorem mgot_bad {m : Mk} {w w' : World} (h : soundB m = false) (hb : Below w.heap.size w w') : MGot m w (.returned (.tuple #[.slice none 0 0, .int .i64 1])) w' := by
  have e : encM m = ([], 1) := by simp [encM, h]
  exact ⟨_, by rw [e]; rfl, by rw [e]; exact ⟨rfl, .inl ⟨rfl, rfl⟩⟩, hb⟩
def MRel (B A : Nat) (k : List Nat) (w : World) (v iv : Value) (wr : World) : Prop :=
  ∃ i : Nat, iv = .int .i64 i ∧ i ≤ k.length ∧ wr.ownsRow w.heap.size 5 1 v (preM B A k i).length ((ib (preM B A k i)).map (Value.int .u8)) ∧ Below w.heap.size w wr
theorem mrel_step {B A : Nat} {k : List Nat} {i : Nat} {w w5 w6 : World} {v v' : Value} (hi : i < k.length) (hbel : Below w.heap.size w w5) (ho5 : w5.ownsRow w.heap.size 5 1 v (preM B A k i).length ((ib (preM B A k i)).map (Value.int .u8)))
    (ho : w6.ownsRow w.heap.size 5 1 v' ((preM B A k i).length + (ib (Wm.enc k[i])).length) ((ib (preM B A k i)).map (Value.int .u8) ++ (ib (Wm.enc k[i])).map (Value.int .u8))) (hg : w5.grownBy w6 v.ownBlock) : MRel B A k w v' (.int .i64 ((i : Int) + 1)) w6 := by
  refine ⟨i + 1, rfl, hi, ?_, hbel.trans (grown_belowC ho5 hg hbel.size)⟩
  rw [pre_succM hi, List.length_append, ib_append, List.map_append]
  rw [ib_len] at ho
  exact ho


def RMRel (B A : Nat) (k : List Nat) (ao : Option Addr) (n cap : Nat) (w : World) (v iv : Value) (wr : World) : Prop :=
  ∃ i : Nat, iv = .int .i64 i ∧ i ≤ k.length ∧ wr.ownsRow (w.heap.size + 1) 5 1 v (preM B A k i).length ((ib (preM B A k i)).map (Value.int .u8)) ∧ MB wr w.heap.size B A (.slice ao n cap) ∧ Below w.heap.size w wr
theorem MB.belowB {w w' : World} {P S : Nat} {b a : Int} {v : Value} (h : MB w P b a v) (hb : Below S w w') (hl : P < S) : MB w' P b a v :=
  ⟨by rw [hb.cell (p := ⟨P, 0, none⟩) hl]; exact h.c0, by rw [hb.cell (p := ⟨P, 1, none⟩) hl]; exact h.c1, by rw [hb.cell (p := ⟨P, 2, none⟩) hl]; exact h.c2, fun j => by rw [hb.frozen (p := ⟨P, j, none⟩) hl]; exact h.z j⟩
theorem menc_bad {w : World} {v : Value} {k : List Nat} (h : Kv w v k) (b a : Int) (hs : soundB ⟨b, a, k⟩ = false) : Calls Try.prog 18 #[.agg #[.int .i64 b, .int .i64 a, v]] w (MGot ⟨b, a, k⟩ w) := by
  have HB : Hid (Below w.heap.size w (w.alloc (Obj.cells #[.int .i64 b, .int .i64 a, v] 26))) := below_alloc _ _
  have HV : Hid (Kv (w.alloc (Obj.cells #[.int .i64 b, .int .i64 a, v] 26)) v k) := h.below (below_alloc _ _)
  clear h
  go_enter Try.func18, Try.ntmps18
  go_wp2_with fail
  refine (sound_walk HV.out b a).mono ?_
  rw [hs]
  rintro e w2 ⟨rfl, hB2⟩
  go_wp2_with fail
  go_ret2
  exact mgot_bad hs (below_trans HB.out hB2)


set_option maxRecDepth 100000 in
set_option maxHeartbeats 4000000 in
theorem menc_good {w : World} {k : List Nat} {ao : Option Addr} {n cap : Nat} (h : Kv w (.slice ao n cap) k) (hn : n = k.length) (hok : keysOk k) (b a : Int) (hs : soundB ⟨b, a, k⟩ = true) :
    Calls Try.prog 18 #[.agg #[.int .i64 b, .int .i64 a, .slice ao n cap]] w (MGot ⟨b, a, k⟩ w) := by
  have HVK : Hid (Kv w (.slice ao n cap) k) := h
  have HOK : Hid (keysOk k) := hok
  have HB0 : Hid (Below w.heap.size w (w.alloc (Obj.cells #[.int .i64 b, .int .i64 a, .slice ao n cap] 26))) := below_alloc _ _
  have HM0 : Hid (MB (w.alloc (Obj.cells #[.int .i64 b, .int .i64 a, .slice ao n cap] 26)) w.heap.size b a (.slice ao n cap)) := mb_new w b a _
  have HS : Hid (soundB ⟨b, a, k⟩ = true) := hs
  have hp := sound_parts hs
  simp only at hp
  have HN : Hid (n = k.length) := hn
  obtain ⟨B, hB⟩ : ∃ B : Nat, b = B := ⟨b.toNat, by omega⟩
  obtain ⟨A, hA⟩ : ∃ A : Nat, a = A := ⟨a.toNat, by omega⟩
  subst hB hA
  have HBB : Hid (B < 18446744073709551616) := by show _ < _; omega
  have HAA : Hid (A < 18446744073709551616) := by show _ < _; omega
  have HNN : Hid (n < 18446744073709551616) := by show _ < _; omega
  have H64 : Hid (n ≤ 64) := by show _ ≤ _; omega
  have hwB : IntKind.u64.wrap (B : Int) = (B : Int) := wrap_u64_id (by omega) (by omega)
  have hwA : IntKind.u64.wrap (A : Int) = (A : Int) := wrap_u64_id (by omega) (by omega)
  have hwn : IntKind.u64.wrap (n : Int) = (n : Int) := wrap_u64_id (by omega) (by omega)
  have hn64 : (n : Int) ≤ 64 := by omega
  have HSZ : Hid ((Wm.enc B ++ (Wm.enc A ++ Wm.enc n)).length ≤ 140737488355328) := by
    have h1 := Wm.enc_len B; have h2 := Wm.enc_len A; have h3 := Wm.enc_len n
    show _ ≤ _
    simp only [List.length_append]; omega
  have HEN : Hid (encM ⟨B, A, k⟩ = (preM B A k k.length, 0)) := by show _ = _; unfold encM; rw [if_pos hs, pre_allM]; simp [bytesM]
  clear h hok hs hn hp
  go_enter Try.func18, Try.ntmps18
  go_wp2_with fail
  refine (sound_walk (HVK.out.below HB0.out) B A).mono ?_
  rw [HS.out]
  rintro e w2 ⟨rfl, hB2⟩
  have HB2 : Hid (Below w.heap.size w w2) := below_trans HB0.out hB2
  have HM2 : Hid (MB w2 w.heap.size B A (.slice ao n cap)) := HM0.out.keep hB2
  clear hB2 HM0 HB0
  go_upto_region 3 with fail
  have j0 : ∀ wx, Below w2.heap.size w2 wx → wx.cell? ⟨w.heap.size, 0, none⟩ = some (.int .i64 B) := fun wx h => (HM2.out.keep h).c0
  have j1 : ∀ wx, Below w2.heap.size w2 wx → wx.cell? ⟨w.heap.size, 1, none⟩ = some (.int .i64 A) := fun wx h => (HM2.out.keep h).c1
  have j2 : ∀ wx, Below w2.heap.size w2 wx → wx.cell? ⟨w.heap.size, 2, none⟩ = some (.slice ao n cap) := fun wx h => (HM2.out.keep h).c2
  refine wp_region_noPanic ?_
  refine wp_region_held_drew (S := fun wx => Below w2.heap.size w2 wx) (by kernel_rfl) ?_ (fun hHeld => ?_)
  · exact (Below.refl _ _).drew
  refine wpAnyH_take (i := 0) (oi := ⟨some 10, _, _, _, _, _⟩) (v := ?_) rfl (by kernel_rfl) (by kernel_rfl) (by kernel_rfl) (fun _ _ _ h => h) (Or.inl ⟨by rfl, ?_⟩) hHeld ?_
  rotate_left
  · intro w hSw; (try dsimp only at hSw); go_simp; all_goals (with_reducible rfl)
  try simp only [Act.put, List.setIfInBounds_toArray, List.set_cons_zero, List.set_cons_succ]
  refine wpAnyH_take (i := 1) (oi := ⟨some 11, _, _, _, _, _⟩) (v := ?_) rfl (by kernel_rfl) (by kernel_rfl) (by kernel_rfl) (fun _ _ _ h => h) (Or.inl ⟨by rfl, ?_⟩) hHeld ?_
  rotate_left
  · intro w hSw; (try dsimp only at hSw); go_simp; all_goals (with_reducible rfl)
  try simp only [Act.put, List.setIfInBounds_toArray, List.set_cons_zero, List.set_cons_succ]
  refine wpAnyH_take (i := 2) (oi := ⟨some 12, _, _, _, _, _⟩) (v := ?_) rfl (by kernel_rfl) (by kernel_rfl) (by kernel_rfl) (fun _ _ _ h => h) (Or.inl ⟨by rfl, ?_⟩) hHeld ?_
  rotate_left
  · intro w hSw; (try dsimp only at hSw); go_simp; all_goals (with_reducible rfl)
  try simp only [Act.put, List.setIfInBounds_toArray, List.set_cons_zero, List.set_cons_succ]
  refine wpAnyH_take (i := 4) (oi := ⟨some 14, _, _, _, _, _⟩) (v := ?_) rfl (by kernel_rfl) (by kernel_rfl) (by kernel_rfl) (fun _ _ _ h => h) (Or.inl ⟨by rfl, ?_⟩) hHeld ?_
  rotate_left
  · intro w hSw; (try dsimp only at hSw); go_simp; all_goals (with_reducible rfl)
  try simp only [Act.put, List.setIfInBounds_toArray, List.set_cons_zero, List.set_cons_succ]
  refine wpAnyH_take (i := 5) (oi := ⟨some 15, _, _, _, _, _⟩) (v := ?_) rfl (by kernel_rfl) (by kernel_rfl) (by kernel_rfl) (fun _ _ _ h => h) (Or.inl ⟨by rfl, ?_⟩) hHeld ?_
  rotate_left
  · intro w hSw; (try dsimp only at hSw); go_simp; all_goals (with_reducible rfl)
  try simp only [Act.put, List.setIfInBounds_toArray, List.set_cons_zero, List.set_cons_succ]
  refine wpAnyH_take (i := 6) (oi := ⟨some 16, _, _, _, _, _⟩) (v := ?_) rfl (by kernel_rfl) (by kernel_rfl) (by kernel_rfl) (fun _ _ _ h => h) (Or.inl ⟨by rfl, ?_⟩) hHeld ?_
  rotate_left
  · intro w hSw; (try dsimp only at hSw); go_simp; all_goals (with_reducible rfl)
  try simp only [Act.put, List.setIfInBounds_toArray, List.set_cons_zero, List.set_cons_succ]
  refine wpAnyH_take (i := 8) (oi := ⟨some 18, _, _, _, _, _⟩) (v := ?_) rfl (by kernel_rfl) (by kernel_rfl) (by kernel_rfl) (fun _ _ _ h => h) (Or.inl ⟨by rfl, ?_⟩) hHeld ?_
  rotate_left
  · intro w hSw; (try dsimp only at hSw); go_simp; all_goals (with_reducible rfl)
  try simp only [Act.put, List.setIfInBounds_toArray, List.set_cons_zero, List.set_cons_succ]
  refine wpAnyH_take (i := 9) (oi := ⟨some 19, _, _, _, _, _⟩) (v := ?_) rfl (by kernel_rfl) (by kernel_rfl) (by kernel_rfl) (fun _ _ _ h => h) (Or.inl ⟨by rfl, ?_⟩) hHeld ?_
  rotate_left
  · intro w hSw; (try dsimp only at hSw); go_simp; all_goals (with_reducible rfl)
  try simp only [Act.put, List.setIfInBounds_toArray, List.set_cons_zero, List.set_cons_succ]
  refine wpAnyH_take (i := 10) (oi := ⟨some 20, _, _, _, _, _⟩) (v := ?_) rfl (by kernel_rfl) (by kernel_rfl) (by kernel_rfl) (fun _ _ _ h => h) (Or.inl ⟨by rfl, ?_⟩) hHeld ?_
  rotate_left
  · intro w hSw; (try dsimp only at hSw); go_simp; all_goals (with_reducible rfl)
  try simp only [Act.put, List.setIfInBounds_toArray, List.set_cons_zero, List.set_cons_succ]
  refine wpAnyH_take (i := 11) (oi := ⟨some 21, _, _, _, _, _⟩) (v := ?_) rfl (by kernel_rfl) (by kernel_rfl) (by kernel_rfl) (fun _ _ _ h => h) (Or.inl ⟨by rfl, ?_⟩) hHeld ?_
  rotate_left
  · intro w hSw; (try dsimp only at hSw); go_simp; all_goals (with_reducible rfl)
  try simp only [Act.put, List.setIfInBounds_toArray, List.set_cons_zero, List.set_cons_succ]
  refine wpAnyH_ready (rs := [3]) (by kernel_rfl) (by simp) ?_
  refine AllReadyH.cons (o := ⟨some 13, _, _, _, _, _⟩) rfl (fun K hK => ?_) AllReadyH.nil
  go_simp
  refine (put_walk B HBB.out _).mono ?_
  rintro e wp1 ⟨y1, rfl, hy1, hB9⟩
  have hY1 : Bv wp1 y1 (Wm.enc B) := own_bv hy1 (Wm.enc_lt _ HBB.out)
  have hS9 := below_trans hHeld hB9
  obtain ⟨ya1, yn1, yq1, rfl⟩ := bv_any hY1
  clear hB9 hHeld hy1
  go_simp
  refine hK.out _ _ ?_ (fun hHeld => ?_)
  · exact hS9
  clear hK K
  try simp only [Act.put, List.setIfInBounds_toArray, List.set_cons_zero, List.set_cons_succ]
  refine wpAnyH_ready (rs := [7]) (by kernel_rfl) (by simp) ?_
  refine AllReadyH.cons (o := ⟨some 17, _, _, _, _, _⟩) rfl (fun K hK => ?_) AllReadyH.nil
  go_simp
  refine (put_walk A HAA.out _).mono ?_
  rintro e wp2 ⟨y2, rfl, hy2, hB9⟩
  have hY2 : Bv wp2 y2 (Wm.enc A) := own_bv hy2 (Wm.enc_lt _ HAA.out)
  have hY1 := hY1.below hB9
  have hS9 := below_trans hHeld hB9
  obtain ⟨ya2, yn2, yq2, rfl⟩ := bv_any hY2
  clear hB9 hHeld hy2
  go_simp
  refine hK.out _ _ ?_ (fun hHeld => ?_)
  · exact hS9
  clear hK K
  try simp only [Act.put, List.setIfInBounds_toArray, List.set_cons_zero, List.set_cons_succ]
  refine wpAnyH_ready (rs := [12]) (by kernel_rfl) (by simp) ?_
  refine AllReadyH.cons (o := ⟨some 22, _, _, _, _, _⟩) rfl (fun K hK => ?_) AllReadyH.nil
  go_simp
  refine (put_walk n HNN.out _).mono ?_
  rintro e wp3 ⟨y3, rfl, hy3, hB9⟩
  have hY3 : Bv wp3 y3 (Wm.enc n) := own_bv hy3 (Wm.enc_lt _ HNN.out)
  have hY1 := hY1.below hB9
  have hY2 := hY2.below hB9
  have hS9 := below_trans hHeld hB9
  obtain ⟨ya3, yn3, yq3, rfl⟩ := bv_any hY3
  clear hB9 hHeld hy3
  go_simp
  refine hK.out _ _ ?_ (fun hHeld => ?_)
  · exact hS9
  clear hK K
  try simp only [Act.put, List.setIfInBounds_toArray, List.set_cons_zero, List.set_cons_succ]
  refine wpAnyH_ready (rs := [13]) (by kernel_rfl) (by simp) ?_
  refine AllReadyH.cons (o := ⟨some 23, _, _, _, _, _⟩) rfl (fun K hK => ?_) AllReadyH.nil
  go_simp
  have hP := pv_three 22 hY1 hY2 hY3
  have hS9 : Below w2.heap.size w2 (wp3.alloc (Obj.cells #[.slice ya1 yn1 yq1, .slice ya2 yn2 yq2, .slice ya3 yn3 yq3] 22)) := below_trans hHeld (below_alloc _ _)
  clear hHeld hY1 hY2 hY3
  generalize wp3.alloc (Obj.cells #[.slice ya1 yn1 yq1, .slice ya2 yn2 yq2, .slice ya3 yn3 yq3] 22) = wp4 at hP hS9 ⊢
  refine hK.out _ _ ?_ (fun hHeld => ?_)
  · exact hS9
  clear hK K
  try simp only [Act.put, List.setIfInBounds_toArray, List.set_cons_zero, List.set_cons_succ]
  refine wpAnyH_ready (rs := [14]) (by kernel_rfl) (by simp) ?_
  refine AllReadyH.cons (o := ⟨some 24, _, _, _, _, _⟩) rfl (fun K hK => ?_) AllReadyH.nil
  go_simp
  refine (join_walk hP (by rw [flat_3]; exact HSZ.out)).mono ?_
  rintro e w5 ⟨v5, rfl, ho5, hB9⟩
  have hSJ := hHeld.size
  have hS9 := below_trans hHeld hB9
  clear hB9 hHeld hP
  go_simp
  refine hK.out _ _ ?_ (fun hHeld => ?_)
  · exact hS9
  clear hK K
  try simp only [Act.put, List.setIfInBounds_toArray, List.set_cons_zero, List.set_cons_succ]
  refine wpAnyH_take (i := 15) (oi := ⟨some 4, _, _, _, _, _⟩) (v := ?_) rfl (by kernel_rfl) (by kernel_rfl) (by kernel_rfl) (fun _ _ _ h => h) (Or.inl ⟨by rfl, ?_⟩) hHeld ?_
  rotate_left
  · intro w hSw; (try dsimp only at hSw); go_simp; all_goals (with_reducible rfl)
  try simp only [Act.put, List.setIfInBounds_toArray, List.set_cons_zero, List.set_cons_succ]
  refine wpAnyH_done (by kernel_rfl) ?_ _
  refine NoPanic.normal ?_
  have HM5 : Hid (MB w5 w.heap.size B A (.slice ao n cap)) := HM2.out.keep hHeld
  have HST : Hid (MRel B A k w v5 (.int .i64 0) w5) := ⟨0, rfl, by omega, by
    rw [pre_zeroM, ← HN.out]
    rw [flat_3] at ho5
    exact own_baseC ho5 (Nat.le_trans HB2.out.size hSJ), below_trans HB2.out hHeld⟩
  have k2 := HM5.out.c2
  have HB5 : Hid (Below w.heap.size w w5) := below_trans HB2.out hHeld
  clear ho5 hSJ hHeld j0 j1 j2 hwB hwA hwn HM2
  by_cases h0 : n = 0
  · have hk0 : k.length = 0 := by have := HN.out; omega
    subst h0
    go_wp2_with fail
    refine wp_loop_rounds 1 ?_
    rw [rounds_succ]
    go_wp2_with fail
    go_ret2
    have hr := HST.out
    obtain ⟨i, hi, _, ho, hb⟩ := hr
    have hi0 : i = 0 := by simpa using hi.symm
    subst hi0
    exact ⟨_, by rw [HEN.out]; rfl, by rw [HEN.out, hk0]; exact ho, hb⟩
  · obtain ⟨kb, koff, hao, hcells⟩ : ∃ kb koff, ao = some ⟨kb, koff, none⟩ ∧ ∀ i, (hi : i < k.length) → w.cell? ⟨kb, koff + i, none⟩ = some (.int .u64 (k[i] : Nat)) := by
      rcases kv_cases HVK.out with ⟨h1, _⟩ | ⟨kb, koff, kc, e, _, _, _, hc⟩
      · exact absurd (by have := HN.out; rw [h1] at this; simpa using this) h0
      · simp only [Value.slice.injEq] at e
        exact ⟨kb, koff, e.1, hc⟩
    subst hao
    have HCELL : Hid (∀ i, (hi : i < k.length) → w.cell? ⟨kb, koff + i, none⟩ = some (.int .u64 (k[i] : Nat))) := hcells
    clear hcells h0
    go_wp2_with fail
    go_loopw [4, 28] (fun v iv wr => MRel B A k w v iv wr) (fun _ iv _ => k.length - (intOf iv).toNat)
    case atStart => exact HST.out
    case round =>
      clear HST k2
      obtain ⟨i, rfl, hil, hown, hbel⟩ := hrel
      have HB : Hid (Below w.heap.size w wr) := hbel
      have HOWN : Hid (wr.ownsRow w.heap.size 5 1 u4 (preM B A k i).length ((ib (preM B A k i)).map (Value.int .u8))) := hown
      clear hbel hown
      by_cases hlt : i < k.length
      · have hlti : (i : Int) < (n : Int) := by have := HN.out; omega
        have hc0 := HCELL.out i hlt
        have hc : wr.cell? ⟨kb, koff + i, none⟩ = some (.int .u64 (k[i] : Nat)) := by rw [HB.out.cell (p := ⟨kb, koff + i, none⟩) (cell_lt hc0)]; exact hc0
        obtain ⟨x, hx⟩ : ∃ x, k[i] = x := ⟨_, rfl⟩
        rw [hx] at hc
        have HX : Hid (k[i] = x) := hx
        have HXB : Hid (x < 18446744073709551616) := by show _ < _; rw [← hx]; exact HOK.out _ (List.getElem_mem _)
        clear hx hc0
        go_wp2_with fail
        refine (put_walk x HXB.out _).mono ?_
        rintro e w6 ⟨y6, rfl, hy6, hB6⟩
        have HY : Hid (Sv .u8 w6 y6 (ib (Wm.enc x))) := own_sv hy6
        have HO6 : Hid (w6.ownsRow w.heap.size 5 1 u4 (preM B A k i).length ((ib (preM B A k i)).map (Value.int .u8))) := own_belowC HOWN.out hB6
        have HB6 : Hid (Below w.heap.size w w6) := below_trans HB.out hB6
        obtain ⟨ya, yn, yq, rfl⟩ := sv_any HY.out
        have HLE : Hid ((preM B A k i).length + (ib (Wm.enc x)).length ≤ 700) := by
          have h1 := pre_lenM (B := B) (A := A) (k := k) i (by have := HN.out; have := H64.out; omega); have h2 := Wm.enc_len x
          show _ ≤ _
          rw [ib_len]; omega
        clear hy6 hB6 HOWN
        go_upto_region 8 with (at_builtin; refine wpList_append_sv (by rfl) (.tmp 32) (.tmp 34) 22 (by rfl) w.heap.size 5 .u8 1 Try.underlying22 info_u8 _ _ _ (by rfl) HO6.out _ _ (by rfl) HY.out (by have := HLE.out; simp only [maxLen]; omega) (by have := HLE.out; omega) HB6.out.size ?_; intro v7 w7 hown hgrow)
        have R : Hid (MRel B A k w v7 (.int .i64 ((i : Int) + 1)) w7) := mrel_step hlt HB6.out HO6.out (by rw [HX.out]; exact hown) hgrow
        clear hown hgrow
        go_wp2_with fail
        go_roundw
        case rel => exact R.out
        case measure => simp [intOf]; omega
      · have hlti : ¬ (i : Int) < (n : Int) := by have := HN.out; omega
        obtain rfl : i = k.length := by omega
        go_wp2_with fail
        go_ret2
        exact ⟨_, by rw [HEN.out]; rfl, by rw [HEN.out]; exact HOWN.out, HB.out⟩


theorem menc_walk {w : World} {v : Value} {k : List Nat} (h : Kv w v k) (hok : keysOk k) (b a : Int) : Calls Try.prog 18 #[.agg #[.int .i64 b, .int .i64 a, v]] w (MGot ⟨b, a, k⟩ w) := by
  cases hs : soundB ⟨b, a, k⟩
  · exact menc_bad h b a hs
  · obtain ⟨ao, cap, rfl, _⟩ := kv_form h
    exact menc_good h rfl hok b a hs




end Go.Proofs.Ytkicnoohfilgjaa


