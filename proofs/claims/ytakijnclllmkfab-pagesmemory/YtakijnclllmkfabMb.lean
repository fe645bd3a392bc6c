/- The walk of PagesMemory. -/
import Derived.Test.YtakijnclllmkfabMa

namespace Go.Proofs.Ytakijnclllmkfab

open Go.RowKit



/-- Append of one write onto a row of one's own, as one step of a region that draws. -/
theorem step_app_pw {ops : Array Oper} {o : Oper} {a : Act} {w : World} {K : Act → World → Prop} {Q : Exit → Act → World → Prop} {E : Prop}
    (hg : o.guard = none) (s x : Operand) (hop : o.op = Op.call { callee := Callee.builtin Builtin.append, args := #[s, x], argTypes := #[22, 22] })
    {base : Nat} (v : Value) (n : Nat) (xs : List Value) (hs : a.eval s = v) (hown : w.ownsRow base 33 2 v n xs)
    (q : Nat) (p : Int) (ao : Option Addr) (k c : Nat) (hx : a.eval x = .slice (some ⟨q, 0, none⟩) 1 1) (h0 : w.cell? ⟨q, 0, none⟩ = some (.int .i64 p)) (h2 : w.cell? ⟨q, 1, none⟩ = some (.slice ao k c)) (hn : n ≤ 100) (hb : base ≤ w.heap.size)
    (hK : ∀ v' w', w'.ownsRow base 33 2 v' (n + 1) (xs ++ [.int .i64 p, .slice ao k c]) → w.grownBy w' v.ownBlock → K (a.put o.dst v') w') :
    if Region.wanted o (yielded ops a.tmps) = true then Oper.wp Try.prog o a w K Q else E := by
  have hw : Region.wanted o (yielded ops a.tmps) = true := by simp [Region.wanted, hg]
  rw [if_pos hw]
  obtain ⟨i0, hi, hz0, hz1, hz2⟩ := info_partsV info_pw
  obtain ⟨v', w', hrun, r1, r2, _, _⟩ := run_append_own_at (P := Try.prog) w base 22 o.type 33 i0 (.agg #[.int .i64 0, .slice none 0 0]) 2 32 Try.underlying22 hi hz0 hz1 hz2 rfl (by decide) v n xs hown ⟨q, 0, none⟩ 1 1 [.int .i64 p, .slice ao k c] rfl (fun j u hj => by
    match j, hj with
    | 0, hj => simp at hj; subst hj; simpa [Addr.add] using h0
    | 1, hj => simp at hj; subst hj; simpa [Addr.add] using h2) (fun u hu => pw_one hu) (by simp only [maxLen]; omega) (by omega) hb
  unfold Oper.wp
  simp [execOp, hop, resolve, invoke, builtin, hs, hx, hrun, Result.andThen]
  exact hK v' w' r1 r2


/-- Where the second loop stands. -/
def R2 (w4 w10 w11 : World) (g gc : Nat) (qs : List Qw) (iv : Value) (wr : World) : Prop :=
  ∃ i : Nat, i ≤ qs.length ∧ iv = .int .i64 i ∧ M2 w4.heap.size wr g gc qs i ∧ Ch (fun x => w4.heap.size ≤ x ∧ x < w10.heap.size) w11 wr


/-- Where the third loop stands. -/
def R3 (w : World) (A : Nat → Prop) (v dv : Value) (P : Bo) (S : Dk) (wb : Nat) (W : List (List Nat)) (pv : Value) (wr : World) : Prop :=
  ∃ (k : Nat) (T : Dk), k ≤ 8 ∧ pv = .int .i64 k ∧ BP A wr v dv P T ∧ Sm S T k ∧ Wb8 wr wb W ∧ Below w.heap.size w wr


theorem str_size9 (l : List Nat) : (str l).size = l.length := by
  simp [str, strOfNums, ByteArray.size, ib_len]


theorem getl_len {P : Bo} {S : Dk} (h : S.ok) (p : Int) : (getL P S p).length ≤ 1024 := by
  unfold getL
  split
  · simp
  · split
    · simp
    · split
      · simp
      · exact (read_fit h _).1


theorem two_one {a b : Int} {u : Value} (h : u ∈ [Value.int .i64 a, .slice none 0 0, .int .i64 b, .slice none 0 0]) : u.oneCell' = true := by
  simp at h
  rcases h with rfl | rfl | rfl | rfl <;> rfl


theorem four_new {w : World} {a b c d : Value} {t : TypeId} {j : Nat} {u : Value} (h : [a, b, c, d][j]? = some u) : (w.alloc (.cells #[a, b, c, d] t)).cell? ((⟨w.heap.size, 0, none⟩ : Addr).add j) = some u := by
  match j, h with
  | 0, h => simp at h; subst h; simp [Addr.add, go_sem]
  | 1, h => simp at h; subst h; simp [Addr.add, go_sem]
  | 2, h => simp at h; subst h; simp [Addr.add, go_sem]
  | 3, h => simp at h; subst h; simp [Addr.add, go_sem]


theorem four_one {a b c d : Int} {u : Value} (h : u ∈ [Value.int .u8 a, .int .u8 b, .int .u8 c, .int .u8 d]) : u.oneCell' = true := by
  simp at h
  rcases h with rfl | rfl | rfl | rfl <;> rfl


/-- Where the first loop stands. -/
def M1 (w4 : World) (L : List (Int × List Nat)) (v iv : Value) (wr : World) : Prop :=
  ∃ (i : Nat) (qs : List Qw), i ≤ L.length ∧ iv = .int .i64 i ∧ Mi w4 wr v qs ∧ lsQ qs = L.take i ∧ qs.length = i


set_option maxRecDepth 100000 in
set_option maxHeartbeats 16000000 in
theorem pagesmemory_walk {w : World} {lv : Value} {ps : List (Int × List Nat)} (hl : Tv w lv ps) :
    Calls Try.prog 3 #[lv] w fun e w' => e = .returned (.bool true) ∧ Below w.heap.size w w' := by
  have HL : Hid (Tv w lv ps) := hl
  clear hl
  go_enter Try.func3, Try.ntmps3
  go_wp2_with fail
  refine (awake_walk w).mono ?_
  rintro e w0 ⟨rfl, hB0⟩
  go_wp2_with fail
  refine (room_walk w0).mono ?_
  rintro e w1 ⟨A, pb, sb, rfl, hK, hA, hB1⟩
  have HB1 : Hid (Below w.heap.size w w1) := below_trans hB0 hB1
  have HK1 : Hid (BP A w1 (.pointer (some ⟨pb, 0, none⟩)) (.pointer (some ⟨sb, 0, none⟩)) rmP rmS) := hK
  have HA : Hid (∀ x, A x → w.heap.size ≤ x) := fun x hx => Nat.le_trans hB0.size (hA x hx)
  clear hB0 hB1 hK hA
  go_wp2_with fail
  refine (fit_walk (H := w.heap.size) (HL.out.later HB1.out) HB1.out.size).mono ?_
  rintro e w2 ⟨ao, cap, rfl, hT2, hB2⟩
  obtain ⟨L, hLe⟩ : ∃ L, L = fitL ps := ⟨_, rfl⟩
  rw [← hLe] at hT2 ⊢
  have HOK : Hid (Lok 8 L) := by rw [hLe]; exact fit_ok ps
  have HT2 : Hid (Tx (fun x => w.heap.size ≤ x ∧ x < w1.heap.size) w2 (.slice ao L.length cap) L) := hT2
  have HL8 : Hid (L.length ≤ 8) := lok_len HOK.out
  have hl8 : (L.length : Int) ≤ 8 := by have := HL8.out; omega
  have HK2 : Hid (BP A w2 (.pointer (some ⟨pb, 0, none⟩)) (.pointer (some ⟨sb, 0, none⟩)) rmP rmS) := HK1.out.below hB2
  have HB2 : Hid (Below w.heap.size w w2) := below_trans HB1.out hB2
  have HB14 : Hid (w1.heap.size ≤ w2.heap.size) := hB2.size
  clear hT2 hB2 hLe
  go_wp2_with fail
  refine (with8 (a0 := []) (a1 := []) (a2 := []) (a3 := []) (a4 := []) (a5 := []) (a6 := []) (a7 := []) HT2.out (fun q hq => HOK.out.pg q hq)).mono ?_
  rintro e w3 ⟨⟨b0, b1, b2, b3, b4, b5, b6, b7, rfl, hV⟩, hB3⟩
  have HV : Hid (withL (List.replicate 8 []) L = [b0, b1, b2, b3, b4, b5, b6, b7]) := hV
  have HT3 : Hid (Tx (fun x => w.heap.size ≤ x ∧ x < w1.heap.size) w3 (.slice ao L.length cap) L) := HT2.out.below hB3
  have HK3 : Hid (BP A w3 (.pointer (some ⟨pb, 0, none⟩)) (.pointer (some ⟨sb, 0, none⟩)) rmP rmS) := HK2.out.below hB3
  have HB3 : Hid (Below w.heap.size w w3) := below_trans HB2.out hB3
  have HA3 : Hid (∀ x, A x → w.heap.size ≤ x ∧ x < w1.heap.size) := fun x hx => ⟨HA.out x hx, HK1.out.lt hx⟩
  have HB23 : Hid (w2.heap.size ≤ w3.heap.size) := hB3.size
  clear hV hB3 HT2 HK2 HB2 HK1
  go_upto_region 8 with fail
  have HW4 : Hid (Wb8 (w3.alloc (Obj.cells #[.string (str b0), .string (str b1), .string (str b2), .string (str b3), .string (str b4), .string (str b5), .string (str b6), .string (str b7)] 29)) w3.heap.size [b0, b1, b2, b3, b4, b5, b6, b7]) := ⟨heap_alloc_new w3 _, rfl⟩
  have hB4 : Below w3.heap.size w3 (w3.alloc (Obj.cells #[.string (str b0), .string (str b1), .string (str b2), .string (str b3), .string (str b4), .string (str b5), .string (str b6), .string (str b7)] 29)) := below_alloc _ _
  obtain ⟨wb, hwb⟩ : ∃ wb, wb = w3.heap.size := ⟨_, rfl⟩
  have HNA : Hid (¬ A wb) := fun h => by have := HK3.out.lt h; omega
  rw [← hwb] at HW4 ⊢
  generalize w3.alloc (Obj.cells #[.string (str b0), .string (str b1), .string (str b2), .string (str b3), .string (str b4), .string (str b5), .string (str b6), .string (str b7)] 29) = w4 at HW4 hB4 ⊢
  have HT4 : Hid (Tx (fun x => w.heap.size ≤ x ∧ x < w1.heap.size) w4 (.slice ao L.length cap) L) := HT3.out.below hB4
  have HK4 : Hid (BP A w4 (.pointer (some ⟨pb, 0, none⟩)) (.pointer (some ⟨sb, 0, none⟩)) rmP rmS) := HK3.out.below hB4
  have HB4 : Hid (Below w.heap.size w w4) := below_trans HB3.out hB4
  have HB4s : Hid (w2.heap.size ≤ w4.heap.size) := Nat.le_trans HB23.out hB4.size
  have HWR : Hid (w1.heap.size ≤ wb ∧ wb < w4.heap.size) := ⟨by rw [hwb]; exact Nat.le_trans HB14.out HB23.out, HW4.out.lt⟩
  have HBYW : Hid (∀ b ∈ [b0, b1, b2, b3, b4, b5, b6, b7], ∀ c ∈ b, c < 256) := by
    show ∀ b ∈ [b0, b1, b2, b3, b4, b5, b6, b7], ∀ c ∈ b, c < 256
    rw [← HV.out]
    exact with_bytes L _ (fun b hb c hc => by simp at hb; rw [hb] at hc; simp at hc) HT4.out.bytes
  clear hB4 HT3 HK3 HB3 hwb
  obtain ⟨Z, hZ⟩ : ∃ Z, Z = madeCells #[.int .i64 0, .slice none 0 0] ((L.length + 2) * 2) := ⟨_, rfl⟩
  have hmk : ∀ wx : World, (Instr.makeSlice 22 (.int .i64 0) (.int .i64 ((L.length : Int) + 2))).run Try.prog wx = .ok (.slice (some ⟨wx.heap.size, 0, none⟩) 0 (L.length + 2)) (wx.alloc (.cells Z 33)) := fun wx => by
    rw [hZ]
    exact make_pw (q := L.length + 2) (by have := HL8.out; omega) wx
  have HM0 : Hid (Mi w4 (w4.alloc (Obj.cells Z 33)) (.slice (some ⟨w4.heap.size, 0, none⟩) 0 (L.length + 2)) []) := by
    rw [hZ]
    exact ⟨own_made w4 (Nat.le_refl _) (by have := HL8.out; simp [maxLen]; omega), fun q hq => by simp at hq, by simp, below_alloc _ _⟩
  clear hZ
  go_upto_region 9 with fail
  clear hmk
  generalize w4.alloc (Obj.cells Z 33) = w5 at HM0 ⊢
  go_wp2_with fail
  go_loopw [7, 8, 9] (fun v iv _ wr => M1 w4 L v iv wr) (fun _ iv _ _ => L.length - (intOf iv).toNat)
  case atStart => exact ⟨0, [], Nat.zero_le _, rfl, HM0.out, rfl, rfl⟩
  case round =>
    clear HM0
    obtain ⟨i, qs, hi, rfl, hM, hls, hqi⟩ := hrel
    have HM : Hid (Mi w4 wr u7 qs) := hM
    have HQ : Hid (lsQ qs = L.take i ∧ qs.length = i) := ⟨hls, hqi⟩
    clear hM hls hqi
    by_cases hlt : i < L.length
    · have hlti : (i : Int) < (L.length : Int) := by omega
      obtain ⟨lb, loff, u, rfl, _, e0, e1, hbx⟩ := HT4.out.at hlt
      obtain ⟨⟨p, d⟩, hpd⟩ : ∃ pd, pd = L[i] := ⟨_, rfl⟩
      rw [← hpd] at e0 hbx
      have HDL : Hid (d.length ≤ 1024) := by have h := HOK.out.ln L[i] (List.getElem_mem _); rw [← hpd] at h; exact h
      obtain ⟨uo, uc, hue, _, _⟩ := bv_form hbx.1
      subst hue
      have HBX : Hid (Bv w4 (.slice uo d.length uc) d) := hbx.1
      have hdl : (d.length : Int) ≤ 1024 := by have := HDL.out; omega
      have HPD : Hid (L[i] = (p, d)) := hpd.symm
      have j0 : ∀ wx, Below w4.heap.size w4 wx → wx.cell? ⟨lb, loff + i * 2, none⟩ = some (.int .i64 p) := fun wx h => by rw [h.cell (p := ⟨lb, loff + i * 2, none⟩) (cell_lt e0)]; exact e0
      have j1 : ∀ wx, Below w4.heap.size w4 wx → wx.cell? ⟨lb, loff + i * 2 + 1, none⟩ = some (.slice uo d.length uc) := fun wx h => by rw [h.cell (p := ⟨lb, loff + i * 2 + 1, none⟩) (cell_lt e1)]; exact e1
      have g1 := j1 wr HM.out.be
      clear e0 e1 hbx hpd
      obtain ⟨Z2, hZ2⟩ : ∃ Z2, Z2 = madeCells #[.int .u8 0] ((d.length + 4) * 1) := ⟨_, rfl⟩
      have hmk : ∀ wx : World, (Instr.makeSlice 31 (.int .i64 0) (.int .i64 ((d.length : Int) + 4))).run Try.prog wx = .ok (.slice (some ⟨wx.heap.size, 0, none⟩) 0 (d.length + 4)) (wx.alloc (.cells Z2 5)) := fun wx => by
        rw [hZ2]
        exact make_by (q := d.length + 4) (by have := HDL.out; omega) wx
      have HO6 : Hid ((wr.alloc (Obj.cells Z2 5)).ownsRow wr.heap.size 5 1 (.slice (some ⟨wr.heap.size, 0, none⟩) 0 (d.length + 4)) 0 []) := by
        rw [hZ2]
        exact own_made wr (Nat.le_refl _) (by have := HDL.out; simp [maxLen]; omega)
      have HB6 : Hid (Below wr.heap.size wr (wr.alloc (Obj.cells Z2 5))) := below_alloc _ _
      clear hZ2
      go_upto_region 13 with fail
      clear hmk g1
      have HS6 : Hid (wr.heap.size ≤ (wr.alloc (Obj.cells Z2 5)).heap.size) := HB6.out.size
      generalize wr.alloc (Obj.cells Z2 5) = w6 at HO6 HB6 HS6 ⊢
      have g1 := j1 w6 (below_trans HM.out.be HB6.out)
      have HSV : Hid (Sv .u8 w6 (.slice uo d.length uc) (ib d)) := (HBX.out.below (below_trans HM.out.be HB6.out)).1
      obtain ⟨i1, hi1, hz1, hz2, hz3⟩ := info_partsV info_u8
      have HI1 : Hid (Try.prog.info? 5 = some i1 ∧ i1.zero = some (.int .u8 0) ∧ i1.size = 1 ∧ i1.bytes = 1) := ⟨hi1, hz1, hz2, hz3⟩
      clear hi1 hz1 hz2 hz3
      go_upto_region 14 with (at_builtin; refine wpList_append_sv (by rfl) (.tmp 50) (.tmp 55) 31 (by rfl) wr.heap.size 5 .u8 1 Try.underlying31 info_u8 _ 0 [] (by rfl) HO6.out _ (ib d) (by rfl) HSV.out (by have := HDL.out; rw [ib_len]; simp [maxLen]; omega) (by have := HDL.out; rw [ib_len]; omega) HS6.out ?_; intro v7 w7 hown7 hg7)
      have HO7 : Hid (w7.ownsRow wr.heap.size 5 1 v7 d.length (cb d)) := by show World.ownsRow _ _ _ _ _ _ _; rw [ib_len, Nat.zero_add, List.nil_append] at hown7; exact hown7
      have HB7 : Hid (Below wr.heap.size wr w7) := HB6.out.grown hg7 HS6.out (fun x hx => (HO6.out.lt x hx).1)
      obtain ⟨ro, rc, hrv, _, _⟩ := row_form HO7.out
      subst hrv
      clear hown7 hg7 g1 HSV HO6
      go_upto_region 15 with (at_builtin; refine wpList_append_own _ (by rfl) (.tmp 57) (.tmp 58) 31 (by rfl) wr.heap.size 5 i1 (.int .u8 0) 1 1 Try.underlying31 HI1.out.1 HI1.out.2.1 HI1.out.2.2.1 HI1.out.2.2.2 (by rfl) (by decide) _ _ _ (by rfl) (HO7.out.alloc _) ⟨w7.heap.size, 0, none⟩ 4 4 [.int .u8 1, .int .u8 2, .int .u8 3, .int .u8 4] (by rfl) (by rfl) (fun j u hj => four_new hj) (fun u hu => four_one hu) (by have := HDL.out; simp [maxLen]; omega) (by have := HDL.out; omega) (by have := HB7.out.size; simp; omega) ?_; intro v8 w8 hown8 hg8 hnil)
      have HO8 : Hid (w8.ownsRow wr.heap.size 5 1 v8 (d.length + 4) (cb (d ++ [1, 2, 3, 4]))) := by
        show World.ownsRow _ _ _ _ _ _ _
        have e : cb (d ++ [1, 2, 3, 4]) = cb d ++ [.int .u8 1, .int .u8 2, .int .u8 3, .int .u8 4] := by simp [cb, ib]
        rw [e]
        exact hown8
      have HB8 : Hid (Below wr.heap.size wr w8) := (below_trans HB7.out (below_alloc _ _)).grown hg8 (by have := HB7.out.size; simp; omega) (fun x hx => (HO7.out.lt x hx).1)
      obtain ⟨so, sc, hsv, hs4, _⟩ := row_form HO8.out
      subst hsv
      have HDT : Hid (Dt wr.heap.size w8 (.slice so d.length sc) d) := dt_of HO8.out
      have hs4i : (d.length : Int) ≤ (sc : Int) := by omega
      clear hown8 hg8 hnil HO7 HB7 hs4
      obtain ⟨mo, mc, hmv, _, _⟩ := row_form HM.out.own
      subst hmv
      have HM8 : Hid (w8.ownsRow w4.heap.size 33 2 (.slice mo qs.length mc) qs.length (flatQ qs)) := (HM.out.below HB8.out).own
      refine wp_region_noPanic ?_
      refine wp_region_held_drew (S := fun wx => Below w4.heap.size w4 wx) (by kernel_rfl) ?_ (fun hHeld => ?_)
      · exact (below_trans HM.out.be HB8.out).drew
      refine wpAnyH_take (i := 0) (oi := ⟨some 60, _, _, _, _, _⟩) (v := ?_) rfl (by kernel_rfl) (by kernel_rfl) (by kernel_rfl) (fun _ _ _ h => h) (Or.inl ⟨by rfl, ?_⟩) hHeld ?_
      rotate_left
      · intro w hSw; (try dsimp only at hSw); go_simp; all_goals (with_reducible rfl)
      try simp only [Act.put, List.setIfInBounds_toArray, List.set_cons_zero, List.set_cons_succ]
      refine wpAnyH_take (i := 1) (oi := ⟨some 61, _, _, _, _, _⟩) (v := ?_) rfl (by kernel_rfl) (by kernel_rfl) (by kernel_rfl) (fun _ _ _ h => h) (Or.inl ⟨by rfl, ?_⟩) hHeld ?_
      rotate_left
      · intro w hSw; (try dsimp only at hSw); go_simp; all_goals (with_reducible rfl)
      try simp only [Act.put, List.setIfInBounds_toArray, List.set_cons_zero, List.set_cons_succ]
      refine wpAnyH_take (i := 2) (oi := ⟨some 62, _, _, _, _, _⟩) (v := ?_) rfl (by kernel_rfl) (by kernel_rfl) (by kernel_rfl) (fun _ _ _ h => h) (Or.inl ⟨by rfl, ?_⟩) hHeld ?_
      rotate_left
      · intro w hSw; (try dsimp only at hSw); go_simp; all_goals (with_reducible rfl)
      try simp only [Act.put, List.setIfInBounds_toArray, List.set_cons_zero, List.set_cons_succ]
      refine wpAnyH_take (i := 3) (oi := ⟨some 63, _, _, _, _, _⟩) (v := ?_) rfl (by kernel_rfl) (by kernel_rfl) (by kernel_rfl) (fun _ _ _ h => h) (Or.inl ⟨by rfl, ?_⟩) hHeld ?_
      rotate_left
      · intro w hSw; (try dsimp only at hSw); go_simp; all_goals (with_reducible rfl)
      try simp only [Act.put, List.setIfInBounds_toArray, List.set_cons_zero, List.set_cons_succ]
      refine wpAnyH_take (i := 4) (oi := ⟨some 64, _, _, _, _, _⟩) (v := ?_) rfl (by kernel_rfl) (by kernel_rfl) (by kernel_rfl) (fun _ _ _ h => h) (Or.inl ⟨by rfl, ?_⟩) hHeld ?_
      rotate_left
      · intro w hSw; (try dsimp only at hSw); go_simp; all_goals (with_reducible rfl)
      try simp only [Act.put, List.setIfInBounds_toArray, List.set_cons_zero, List.set_cons_succ]
      refine wpAnyH_take (i := 5) (oi := ⟨some 65, _, _, _, _, _⟩) (v := ?_) rfl (by kernel_rfl) (by kernel_rfl) (by kernel_rfl) (fun _ _ _ h => h) (Or.inl ⟨by rfl, ?_⟩) hHeld ?_
      rotate_left
      · intro w hSw; (try dsimp only at hSw); go_simp; all_goals (with_reducible rfl)
      try simp only [Act.put, List.setIfInBounds_toArray, List.set_cons_zero, List.set_cons_succ]
      refine wpAnyH_take (i := 6) (oi := ⟨some 66, _, _, _, _, _⟩) (v := ?_) rfl (by kernel_rfl) (by kernel_rfl) (by kernel_rfl) (fun _ _ _ h => h) (Or.inl ⟨by rfl, ?_⟩) hHeld ?_
      rotate_left
      · intro w hSw; (try dsimp only at hSw); go_simp; all_goals (with_reducible rfl)
      try simp only [Act.put, List.setIfInBounds_toArray, List.set_cons_zero, List.set_cons_succ]
      refine wpAnyH_take (i := 7) (oi := ⟨some 67, _, _, _, _, _⟩) (v := ?_) rfl (by kernel_rfl) (by kernel_rfl) (by kernel_rfl) (fun _ _ _ h => h) (Or.inl ⟨by rfl, ?_⟩) hHeld ?_
      rotate_left
      · intro w hSw; (try dsimp only at hSw); go_simp; all_goals (with_reducible rfl)
      try simp only [Act.put, List.setIfInBounds_toArray, List.set_cons_zero, List.set_cons_succ]
      refine wpAnyH_take (i := 8) (oi := ⟨some 68, _, _, _, _, _⟩) (v := ?_) rfl (by kernel_rfl) (by kernel_rfl) (by kernel_rfl) (fun _ _ _ h => h) (Or.inl ⟨by rfl, ?_⟩) hHeld ?_
      rotate_left
      · intro w hSw; (try dsimp only at hSw); go_simp; all_goals (with_reducible rfl)
      try simp only [Act.put, List.setIfInBounds_toArray, List.set_cons_zero, List.set_cons_succ]
      refine wpAnyH_take (i := 9) (oi := ⟨some 69, _, _, _, _, _⟩) (v := ?_) rfl (by kernel_rfl) (by kernel_rfl) (by kernel_rfl) (fun _ _ _ h => h) (Or.inl ⟨by rfl, ?_⟩) hHeld ?_
      rotate_left
      · intro w hSw; (try dsimp only at hSw); go_simp; all_goals (with_reducible rfl)
      try simp only [Act.put, List.setIfInBounds_toArray, List.set_cons_zero, List.set_cons_succ]
      refine wpAnyH_take (i := 10) (oi := ⟨some 70, _, _, _, _, _⟩) (v := ?_) rfl (by kernel_rfl) (by kernel_rfl) (by kernel_rfl) (fun _ _ _ h => h) (Or.inl ⟨by rfl, ?_⟩) hHeld ?_
      rotate_left
      · intro w hSw; (try dsimp only at hSw); go_simp; all_goals (with_reducible rfl)
      try simp only [Act.put, List.setIfInBounds_toArray, List.set_cons_zero, List.set_cons_succ]
      refine wpAnyH_take (i := 11) (oi := ⟨some 71, _, _, _, _, _⟩) (v := ?_) rfl (by kernel_rfl) (by kernel_rfl) (by kernel_rfl) (fun _ _ _ h => h) (Or.inl ⟨by rfl, ?_⟩) hHeld ?_
      rotate_left
      · intro w hSw; (try dsimp only at hSw); go_simp; all_goals (with_reducible rfl)
      try simp only [Act.put, List.setIfInBounds_toArray, List.set_cons_zero, List.set_cons_succ]
      refine wpAnyH_take (i := 12) (oi := ⟨some 72, _, _, _, _, _⟩) (v := ?_) rfl (by kernel_rfl) (by kernel_rfl) (by kernel_rfl) (fun _ _ _ h => h) (Or.inl ⟨by rfl, ?_⟩) hHeld ?_
      rotate_left
      · intro w hSw; (try dsimp only at hSw); go_simp; all_goals (with_reducible rfl)
      try simp only [Act.put, List.setIfInBounds_toArray, List.set_cons_zero, List.set_cons_succ]
      refine wpAnyH_take (i := 13) (oi := ⟨some 73, _, _, _, _, _⟩) (v := ?_) rfl (by kernel_rfl) (by kernel_rfl) (by kernel_rfl) (fun _ _ _ h => h) (Or.inl ⟨by rfl, ?_⟩) hHeld ?_
      rotate_left
      · intro w hSw; (try dsimp only at hSw); go_simp; all_goals (with_reducible rfl)
      try simp only [Act.put, List.setIfInBounds_toArray, List.set_cons_zero, List.set_cons_succ]
      refine wpAnyH_take (i := 14) (oi := ⟨some 74, _, _, _, _, _⟩) (v := ?_) rfl (by kernel_rfl) (by kernel_rfl) (by kernel_rfl) (fun _ _ _ h => h) (Or.inl ⟨by rfl, ?_⟩) hHeld ?_
      rotate_left
      · intro w hSw; (try dsimp only at hSw); go_simp; all_goals (with_reducible rfl)
      try simp only [Act.put, List.setIfInBounds_toArray, List.set_cons_zero, List.set_cons_succ]
      refine wpAnyH_ready (rs := [15]) (by kernel_rfl) (by simp) ?_
      refine AllReadyH.cons (o := ⟨some 75, _, _, _, _, _⟩) rfl (fun K hK => ?_) AllReadyH.nil
      go_simp
      have HBA : Hid (Below w4.heap.size w4 (w8.drew.alloc (Obj.cells #[.int .i64 p, .slice so d.length sc] 33))) := below_trans hHeld (below_alloc _ _)
      clear hHeld
      refine hK.out _ _ ?_ (fun hHeld => ?_)
      · exact HBA.out
      clear hK K
      try simp only [Act.put, List.setIfInBounds_toArray, List.set_cons_zero, List.set_cons_succ]
      refine wpAnyH_ready (rs := [16]) (by kernel_rfl) (by simp) ?_
      refine AllReadyH.cons (o := ⟨some 76, _, _, _, _, _⟩) rfl (fun K hK => ?_) AllReadyH.nil
      refine step_app_pw rfl (.tmp 60) (.tmp 75) rfl (.slice mo qs.length mc) qs.length (flatQ qs) (by simp [Act.eval]) (own_below HM8.out (below_trans (below_drewN _ 1) (below_alloc _ _))) w8.heap.size p so d.length sc (by simp [Act.eval]) (by simp [go_sem]) (by simp [go_sem]) (by have := HQ.out.2; have := HL8.out; omega) HBA.out.size ?_
      intro v9 w9 hown9 hg9
      have HRES : Hid (Mi w4 w9 v9 (qs ++ [(p, .slice so d.length sc, d)])) := HM.out.step (below_trans HB8.out (below_drewN _ 1)) (HDT.out.keep (fun _ _ => rfl)) hown9 hg9
      obtain ⟨no, nc, hnv, _, _⟩ := row_form HRES.out.own
      subst hnv
      clear hown9 hg9
      refine hK.out _ _ ?_ (fun hHeld => ?_)
      · exact HRES.out.be
      clear hK K
      try simp only [Act.put, List.setIfInBounds_toArray, List.set_cons_zero, List.set_cons_succ]
      refine wpAnyH_take (i := 17) (oi := ⟨some 7, _, _, _, _, _⟩) (v := ?_) rfl (by kernel_rfl) (by kernel_rfl) (by kernel_rfl) (fun _ _ _ h => h) (Or.inl ⟨by rfl, ?_⟩) hHeld ?_
      rotate_left
      · intro w hSw; (try dsimp only at hSw); go_simp; all_goals (with_reducible rfl)
      try simp only [Act.put, List.setIfInBounds_toArray, List.set_cons_zero, List.set_cons_succ]
      refine wpAnyH_done (by kernel_rfl) ?_ _
      refine NoPanic.normal ?_
      have HR : Hid (M1 w4 L (.slice no (qs.length + 1) nc) (.int .i64 ((i : Int) + 1)) w9) := by
        refine ⟨i + 1, _, hlt, by simp, by have h := HRES.out; rw [List.length_append] at h; exact h, ?_, by rw [List.length_append, HQ.out.2]; rfl⟩
        have e : lsQ (qs ++ [(p, (Value.slice so d.length sc), d)]) = lsQ qs ++ [(p, d)] := by unfold lsQ; rw [List.map_append]; rfl
        rw [e, HQ.out.1, ← HPD.out]
        rw [List.take_succ_eq_append_getElem hlt]
      clear HRES j0 j1
      go_wp2_with fail
      go_roundw
      case rel => exact HR.out
      case measure => simp [intOf]; omega
    · have hlti : ¬ (i : Int) < (L.length : Int) := by omega
      obtain rfl : i = L.length := by omega
      have HQL : Hid (lsQ qs = L ∧ qs.length = L.length) := ⟨by rw [HQ.out.1, List.take_length], HQ.out.2⟩
      obtain ⟨mo, mc, hmv, _, _⟩ := row_form HM.out.own
      subst hmv
      have HMW : Hid (wr.ownsRow w4.heap.size 33 2 (.slice mo qs.length mc) qs.length (flatQ qs)) := HM.out.own
      obtain ⟨i2, hi1, hz1, hz2, hz3⟩ := info_partsV info_pw
      have HI2 : Hid (Try.prog.info? 33 = some i2 ∧ i2.zero = some (.agg #[.int .i64 0, .slice none 0 0]) ∧ i2.size = 2 ∧ i2.bytes = 32) := ⟨hi1, hz1, hz2, hz3⟩
      have HSZ : Hid (w4.heap.size ≤ wr.heap.size) := HM.out.be.size
      clear hi1 hz1 hz2 hz3
      go_upto_region 17 with (at_builtin; refine wpList_append_own _ (by rfl) (.tmp 77) (.tmp 80) 22 (by rfl) w4.heap.size 33 i2 (.agg #[.int .i64 0, .slice none 0 0]) 2 32 Try.underlying22 HI2.out.1 HI2.out.2.1 HI2.out.2.2.1 HI2.out.2.2.2 (by rfl) (by decide) _ _ _ (by rfl) (HMW.out.alloc _) ⟨wr.heap.size, 0, none⟩ 2 2 [.int .i64 77, .slice none 0 0, .int .i64 78, .slice none 0 0] (by rfl) (by rfl) (fun j u hj => four_new hj) (fun u hu => two_one hu) (by have := HQL.out.2; have := HL8.out; simp [maxLen]; omega) (by have := HQL.out.2; have := HL8.out; omega) (by have := HSZ.out; simp; omega) ?_; intro v10 w10 hown10 hg10 hnil10)
      have HMX : Hid (Mx w4 w10 v10 qs) := (HM.out.more hown10 hg10).1
      have HB10 : Hid (Below w4.heap.size w4 w10) := (HM.out.more hown10 hg10).2
      clear hown10 hg10 hnil10 HMW
      obtain ⟨g, gc, hgv, hgc⟩ := HMX.out.form
      subst hgv
      have HTX : Hid (Tx A w10 (.slice (some ⟨g, 0, none⟩) L.length gc) L) := by
        have h := HMX.out.tx (A := A) (fun x hx => Nat.lt_of_lt_of_le (HA3.out x hx).2 (Nat.le_trans HB14.out HB4s.out)) HT4.out.bytes (fun q hq => by have := HOK.out.pg q hq; omega) HQL.out.1
        rw [HQL.out.2] at h
        exact h
      have hgci : (L.length : Int) ≤ (gc : Int) := by have := HQL.out.2; omega
      obtain ⟨P', S', hput, hIv, _, hwrS, hrdS, _⟩ := put_free rm_iv HOK.out (show (1 : Nat) < 1099511627776 by omega) (show (-1 : Int) = -1 from rfl)
      have HPUT : Hid (putO rmP rmS L = (0, P', S')) := hput
      have HIV : Hid (Iv P' S' [b0, b1, b2, b3, b4, b5, b6, b7] ∧ S'.rd = 0) := ⟨by rw [← HV.out]; exact hIv, by rw [hrdS]; rfl⟩
      have HK10 : Hid (BP A w10 (.pointer (some ⟨pb, 0, none⟩)) (.pointer (some ⟨sb, 0, none⟩)) rmP rmS) := HK4.out.keep (fun x hx => HB10.out.block x (HK4.out.lt hx)) HB10.out.size
      have HAL : Hid (∀ x, A x → x < w4.heap.size) := fun x hx => HK4.out.lt hx
      have HTB : Hid (Tx (fun x => (w.heap.size ≤ x ∧ x < w1.heap.size) ∨ w4.heap.size ≤ x) w4 (.slice ao L.length cap) L) := HT4.out.both HT4.out.fresh
      clear hput hIv hwrS hrdS
      rw [HQL.out.2]
      go_wp2_with fail
      refine (put_walk9 HK10.out HTX.out (show (2 : Nat) < 4611686018427387904 by omega)).mono ?_
      intro e w11 hpt
      obtain ⟨he, ⟨A', hK', hx'⟩, hC'⟩ := hpt
      subst he
      rw [HPUT.out] at hK' ⊢
      have HK11 : Hid (BP A' w11 (.pointer (some ⟨pb, 0, none⟩)) (.pointer (some ⟨sb, 0, none⟩)) P' S') := hK'
      have HX11 : Hid (∀ x, A' x → A x ∨ w10.heap.size ≤ x) := hx'
      have HM11 : Hid (Mx w4 w11 (.slice (some ⟨g, 0, none⟩) (qs.length + 2) gc) qs) := HMX.out.ch hC' HAL.out
      have HC11 : Hid (Ch (fun x => (w.heap.size ≤ x ∧ x < w1.heap.size) ∨ w4.heap.size ≤ x) w4 w11) := (Ch.of_below HB10.out).trans hC' (fun x hx => .inl (.inl (HA3.out x hx)))
      have HS11 : Hid (w10.heap.size ≤ w11.heap.size) := hC'.size
      clear hK' hx' hC'
      have a0 : w11.cell? ⟨g, L.length * 2, none⟩ = some (.int .i64 77) := by rw [← HQL.out.2, HM11.out.cell (by omega), List.getElem?_append_right (by rw [flat_len]; exact Nat.le_refl _), flat_len, Nat.sub_self]; rfl
      have a1 : w11.cell? ⟨g, L.length * 2 + 1, none⟩ = some (.slice none 0 0) := by rw [← HQL.out.2, HM11.out.cell (by omega), List.getElem?_append_right (by rw [flat_len]; omega), flat_len]; simp
      have a2 : w11.cell? ⟨g, (L.length + 1) * 2, none⟩ = some (.int .i64 78) := by rw [← HQL.out.2, HM11.out.cell (by omega), List.getElem?_append_right (by rw [flat_len]; omega), flat_len, show (qs.length + 1) * 2 - qs.length * 2 = 2 by omega]; rfl
      have ha1 : (L.length : Int) < (L.length : Int) + 2 := by omega
      have ha2 : (L.length : Int) + 1 < (L.length : Int) + 2 := by omega
      go_upto_region 20 with fail
      clear a0 a1 a2 ha1 ha2 hgci
      have HM2 : Hid (M2 w4.heap.size w11 g gc qs 0) := HM11.out.two (by omega)
      have HG10 : Hid (w4.heap.size ≤ g ∧ g < w10.heap.size) := ⟨HMX.out.row.1, by obtain ⟨_, _, cur, hg, _⟩ := HMX.out.row; exact (Array.getElem?_eq_some_iff.1 hg).1⟩
      have HD10 : Hid (∀ q ∈ qs, ∀ x, q.2.1.ownBlock = some x → w4.heap.size ≤ x ∧ x < w10.heap.size) := fun q hq x hx => (HMX.out.dat q hq).lt hx
      clear HM11 HTX HMX HM HQ HI2 HSZ HK10 HT4 HK4
      go_wp2_with fail
      go_loopw [11, 12, 13, 14] (fun iv _ _ _ wr => R2 w4 w10 w11 g gc qs iv wr) (fun iv _ _ _ _ => L.length - (intOf iv).toNat)
      case atStart => exact ⟨0, Nat.zero_le _, rfl, HM2.out, Ch.refl _ _⟩
      case round =>
        clear HM2
        obtain ⟨i, hi, rfl, hM, hC⟩ := hrel
        have HM : Hid (M2 w4.heap.size wr g gc qs i) := hM
        have HC : Hid (Ch (fun x => w4.heap.size ≤ x ∧ x < w10.heap.size) w11 wr) := hC
        clear hM hC
        have hql : qs.length = L.length := HQL.out.2
        by_cases hlt : i < L.length
        · have hlti : (i : Int) < (L.length : Int) := by omega
          have hltq : i < qs.length := by omega
          have HTw : Hid (Tx (fun x => (w.heap.size ≤ x ∧ x < w1.heap.size) ∨ w4.heap.size ≤ x) wr (.slice ao L.length cap) L) := HTB.out.ch (HC11.out.trans HC.out (fun x hx => .inl (.inr hx.1))) (fun x hx => .inl hx)
          obtain ⟨lb, loff, u, rfl, _, e0, e1, hbx⟩ := HTw.out.at hlt
          obtain ⟨m0, m1⟩ := HM.out.cel i hltq (Nat.le_refl _)
          obtain ⟨⟨p, uv, d⟩, hq⟩ : ∃ q, q = qs[i] := ⟨_, rfl⟩
          have hLi : L[i] = (p, d) := by
            have h2 := congrArg (fun l => l[i]?) HQL.out.1
            simp only [lsQ, List.getElem?_map, List.getElem?_eq_getElem hltq, List.getElem?_eq_getElem hlt, ← hq, Option.map_some, Option.some.injEq] at h2
            exact h2.symm
          have HDT : Hid (Dt w4.heap.size wr uv d) := by have h := HM.out.dat i hltq (Nat.le_refl _); rw [← hq] at h; exact h
          have HUB : Hid (∀ x, uv.ownBlock = some x → w4.heap.size ≤ x ∧ x < w10.heap.size) := fun x hx => HD10.out qs[i] (List.getElem_mem _) x (by rw [← hq]; exact hx)
          have HQI : Hid (qs[i].2.1 = uv) := by show qs[i].2.1 = uv; rw [← hq]
          rw [hLi] at e0 hbx
          rw [← hq] at m0 m1
          have HDL : Hid (d.length ≤ 1024) := by have h := HOK.out.ln L[i] (List.getElem_mem _); rw [hLi] at h; exact h
          have HBY : Hid (∀ c ∈ d, c < 256) := hbx.1.2
          obtain ⟨uo, uc, hue, _, _⟩ := bv_form hbx.1
          subst hue
          have HBV : Hid (Bv wr (.slice uo d.length uc) d) := hbx.1
          obtain ⟨gd, dc, hdv, hdc⟩ : ∃ gd dc, uv = .slice (some ⟨gd, 0, none⟩) d.length dc ∧ d.length + 4 ≤ dc := by obtain ⟨gd, dc, _, e, _, _, h, _⟩ := HDT.out; exact ⟨gd, dc, e, h⟩
          subst hdv
          have hdl : (d.length : Int) ≤ 1024 := by have := HDL.out; omega
          have hdci : (d.length : Int) + 4 ≤ (dc : Int) := by omega
          have hdcj : (d.length : Int) ≤ (dc : Int) := by omega
          clear hbx hLi hq
          have hlq : (i : Int) < (L.length : Int) + 2 := by omega
          go_upto_region 25 with fail
          have j0 : ∀ wx, Below wr.heap.size wr wx → wx.cell? ⟨lb, loff + i * 2, none⟩ = some (.int .i64 p) := fun wx h => by rw [h.cell (p := ⟨lb, loff + i * 2, none⟩) (cell_lt e0)]; exact e0
          have j1 : ∀ wx, Below wr.heap.size wr wx → wx.cell? ⟨lb, loff + i * 2 + 1, none⟩ = some (.slice uo d.length uc) := fun wx h => by rw [h.cell (p := ⟨lb, loff + i * 2 + 1, none⟩) (cell_lt e1)]; exact e1
          have j2 : ∀ wx, Below wr.heap.size wr wx → wx.cell? ⟨g, i * 2, none⟩ = some (.int .i64 p) := fun wx h => by rw [h.cell (p := ⟨g, i * 2, none⟩) (cell_lt m0)]; exact m0
          have s1 : ∀ wx, Below wr.heap.size wr wx → (convert 31 9 (.slice (some ⟨gd, 0, none⟩) d.length dc)).run Try.prog wx = .ok (.string (str d)) wx := fun wx h => str_of ((HDT.out.bv HBY.out).below h)
          have s2 : ∀ wx, Below wr.heap.size wr wx → (convert 31 9 (.slice uo d.length uc)).run Try.prog wx = .ok (.string (str d)) wx := fun wx h => str_of (HBV.out.below h)
          have s3 : ∀ wx, Below wr.heap.size wr wx → (convert 31 9 (.slice (some ⟨gd, d.length, none⟩) 4 (dc - d.length))).run Try.prog wx = .ok (.string ⟨#[1, 2, 3, 4]⟩) wx := fun wx h => str_of (HDT.out.tail.below h)
          have hss : ((str d).toList == (str d).toList) = true := by simp
          have hdn : ¬ dc = d.length := by omega
          have hdk : (d.length : Int) ≤ (d.length : Int) + 4 := by omega
          have hdk2 : (d.length : Int) + 4 - (d.length : Int) = 4 := by omega
          go_cut [165] (fun gv wx => gv = .bool false ∧ Below wr.heap.size wr wx)
          case first =>
            refine wp_region_noPanic ?_
            refine wp_region_held_drew (S := fun wx => Below wr.heap.size wr wx) (by kernel_rfl) ?_ (fun hHeld => ?_)
            · exact (Below.refl _ _).drew
            refine wpAnyH_take (i := 0) (oi := ⟨some 135, _, _, _, _, _⟩) (v := ?_) rfl (by kernel_rfl) (by kernel_rfl) (by kernel_rfl) (fun _ _ _ h => h) (Or.inl ⟨by rfl, ?_⟩) hHeld ?_
            rotate_left
            · intro w hSw; (try dsimp only at hSw); go_simp; all_goals (with_reducible rfl)
            try simp only [Act.put, List.setIfInBounds_toArray, List.set_cons_zero, List.set_cons_succ]
            refine wpAnyH_take (i := 1) (oi := ⟨some 136, _, _, _, _, _⟩) (v := ?_) rfl (by kernel_rfl) (by kernel_rfl) (by kernel_rfl) (fun _ _ _ h => h) (Or.inl ⟨by rfl, ?_⟩) hHeld ?_
            rotate_left
            · intro w hSw; (try dsimp only at hSw); go_simp; all_goals (with_reducible rfl)
            try simp only [Act.put, List.setIfInBounds_toArray, List.set_cons_zero, List.set_cons_succ]
            refine wpAnyH_take (i := 2) (oi := ⟨some 137, _, _, _, _, _⟩) (v := ?_) rfl (by kernel_rfl) (by kernel_rfl) (by kernel_rfl) (fun _ _ _ h => h) (Or.inl ⟨by rfl, ?_⟩) hHeld ?_
            rotate_left
            · intro w hSw; (try dsimp only at hSw); go_simp; all_goals (with_reducible rfl)
            try simp only [Act.put, List.setIfInBounds_toArray, List.set_cons_zero, List.set_cons_succ]
            refine wpAnyH_take (i := 3) (oi := ⟨some 138, _, _, _, _, _⟩) (v := ?_) rfl (by kernel_rfl) (by kernel_rfl) (by kernel_rfl) (fun _ _ _ h => h) (Or.inl ⟨by rfl, ?_⟩) hHeld ?_
            rotate_left
            · intro w hSw; (try dsimp only at hSw); go_simp; all_goals (with_reducible rfl)
            try simp only [Act.put, List.setIfInBounds_toArray, List.set_cons_zero, List.set_cons_succ]
            refine wpAnyH_take (i := 4) (oi := ⟨some 139, _, _, _, _, _⟩) (v := ?_) rfl (by kernel_rfl) (by kernel_rfl) (by kernel_rfl) (fun _ _ _ h => h) (Or.inl ⟨by rfl, ?_⟩) hHeld ?_
            rotate_left
            · intro w hSw; (try dsimp only at hSw); go_simp; all_goals (with_reducible rfl)
            try simp only [Act.put, List.setIfInBounds_toArray, List.set_cons_zero, List.set_cons_succ]
            refine wpAnyH_take (i := 5) (oi := ⟨some 140, _, _, _, _, _⟩) (v := ?_) rfl (by kernel_rfl) (by kernel_rfl) (by kernel_rfl) (fun _ _ _ h => h) (Or.inl ⟨by rfl, ?_⟩) hHeld ?_
            rotate_left
            · intro w hSw; (try dsimp only at hSw); go_simp; all_goals (with_reducible rfl)
            try simp only [Act.put, List.setIfInBounds_toArray, List.set_cons_zero, List.set_cons_succ]
            refine wpAnyH_take (i := 6) (oi := ⟨some 141, _, _, _, _, _⟩) (v := ?_) rfl (by kernel_rfl) (by kernel_rfl) (by kernel_rfl) (fun _ _ _ h => h) (Or.inl ⟨by rfl, ?_⟩) hHeld ?_
            rotate_left
            · intro w hSw; (try dsimp only at hSw); go_simp; all_goals (with_reducible rfl)
            try simp only [Act.put, List.setIfInBounds_toArray, List.set_cons_zero, List.set_cons_succ]
            refine wpAnyH_take (i := 7) (oi := ⟨some 142, _, _, _, _, _⟩) (v := ?_) rfl (by kernel_rfl) (by kernel_rfl) (by kernel_rfl) (fun _ _ _ h => h) (Or.inl ⟨by rfl, ?_⟩) hHeld ?_
            rotate_left
            · intro w hSw; (try dsimp only at hSw); go_simp; all_goals (with_reducible rfl)
            try simp only [Act.put, List.setIfInBounds_toArray, List.set_cons_zero, List.set_cons_succ]
            refine wpAnyH_take (i := 8) (oi := ⟨some 143, _, _, _, _, _⟩) (v := ?_) rfl (by kernel_rfl) (by kernel_rfl) (by kernel_rfl) (fun _ _ _ h => h) (Or.inl ⟨by rfl, ?_⟩) hHeld ?_
            rotate_left
            · intro w hSw; (try dsimp only at hSw); go_simp; all_goals (with_reducible rfl)
            try simp only [Act.put, List.setIfInBounds_toArray, List.set_cons_zero, List.set_cons_succ]
            refine wpAnyH_take (i := 9) (oi := ⟨some 144, _, _, _, _, _⟩) (v := ?_) rfl (by kernel_rfl) (by kernel_rfl) (by kernel_rfl) (fun _ _ _ h => h) (Or.inl ⟨by rfl, ?_⟩) hHeld ?_
            rotate_left
            · intro w hSw; (try dsimp only at hSw); go_simp; all_goals (with_reducible rfl)
            try simp only [Act.put, List.setIfInBounds_toArray, List.set_cons_zero, List.set_cons_succ]
            refine wpAnyH_take (i := 10) (oi := ⟨some 145, _, _, _, _, _⟩) (v := ?_) rfl (by kernel_rfl) (by kernel_rfl) (by kernel_rfl) (fun _ _ _ h => h) (Or.inl ⟨by rfl, ?_⟩) hHeld ?_
            rotate_left
            · intro w hSw; (try dsimp only at hSw); go_simp; all_goals (with_reducible rfl)
            try simp only [Act.put, List.setIfInBounds_toArray, List.set_cons_zero, List.set_cons_succ]
            refine wpAnyH_take (i := 11) (oi := ⟨some 146, _, _, _, _, _⟩) (v := ?_) rfl (by kernel_rfl) (by kernel_rfl) (by kernel_rfl) (fun _ _ _ h => h) (Or.inl ⟨by rfl, ?_⟩) hHeld ?_
            rotate_left
            · intro w hSw; (try dsimp only at hSw); go_simp; all_goals (with_reducible rfl)
            try simp only [Act.put, List.setIfInBounds_toArray, List.set_cons_zero, List.set_cons_succ]
            refine wpAnyH_take (i := 12) (oi := ⟨some 147, _, _, _, _, _⟩) (v := ?_) rfl (by kernel_rfl) (by kernel_rfl) (by kernel_rfl) (fun _ _ _ h => h) (Or.inl ⟨by rfl, ?_⟩) hHeld ?_
            rotate_left
            · intro w hSw; (try dsimp only at hSw); go_simp; all_goals (with_reducible rfl)
            try simp only [Act.put, List.setIfInBounds_toArray, List.set_cons_zero, List.set_cons_succ]
            refine wpAnyH_take (i := 13) (oi := ⟨some 148, _, _, _, _, _⟩) (v := ?_) rfl (by kernel_rfl) (by kernel_rfl) (by kernel_rfl) (fun _ _ _ h => h) (Or.inl ⟨by rfl, ?_⟩) hHeld ?_
            rotate_left
            · intro w hSw; (try dsimp only at hSw); go_simp; all_goals (with_reducible rfl)
            try simp only [Act.put, List.setIfInBounds_toArray, List.set_cons_zero, List.set_cons_succ]
            refine wpAnyH_take (i := 14) (oi := ⟨some 149, _, _, _, _, _⟩) (v := ?_) rfl (by kernel_rfl) (by kernel_rfl) (by kernel_rfl) (fun _ _ _ h => h) (Or.inl ⟨by rfl, ?_⟩) hHeld ?_
            rotate_left
            · intro w hSw; (try dsimp only at hSw); go_simp; all_goals (with_reducible rfl)
            try simp only [Act.put, List.setIfInBounds_toArray, List.set_cons_zero, List.set_cons_succ]
            refine wpAnyH_take (i := 15) (oi := ⟨some 150, _, _, _, _, _⟩) (v := ?_) rfl (by kernel_rfl) (by kernel_rfl) (by kernel_rfl) (fun _ _ _ h => h) (Or.inl ⟨by rfl, ?_⟩) hHeld ?_
            rotate_left
            · intro w hSw; (try dsimp only at hSw); go_simp; all_goals (with_reducible rfl)
            try simp only [Act.put, List.setIfInBounds_toArray, List.set_cons_zero, List.set_cons_succ]
            refine wpAnyH_take (i := 16) (oi := ⟨some 151, _, _, _, _, _⟩) (v := ?_) rfl (by kernel_rfl) (by kernel_rfl) (by kernel_rfl) (fun _ _ _ h => h) (Or.inl ⟨by rfl, ?_⟩) hHeld ?_
            rotate_left
            · intro w hSw; (try dsimp only at hSw); go_simp; all_goals (with_reducible rfl)
            try simp only [Act.put, List.setIfInBounds_toArray, List.set_cons_zero, List.set_cons_succ]
            refine wpAnyH_take (i := 17) (oi := ⟨some 152, _, _, _, _, _⟩) (v := ?_) rfl (by kernel_rfl) (by kernel_rfl) (by kernel_rfl) (fun _ _ _ h => h) (Or.inl ⟨by rfl, ?_⟩) hHeld ?_
            rotate_left
            · intro w hSw; (try dsimp only at hSw); go_simp; all_goals (with_reducible rfl)
            try simp only [Act.put, List.setIfInBounds_toArray, List.set_cons_zero, List.set_cons_succ]
            refine wpAnyH_take (i := 18) (oi := ⟨some 153, _, _, _, _, _⟩) (v := ?_) rfl (by kernel_rfl) (by kernel_rfl) (by kernel_rfl) (fun _ _ _ h => h) (Or.inl ⟨by rfl, ?_⟩) hHeld ?_
            rotate_left
            · intro w hSw; (try dsimp only at hSw); go_simp; all_goals (with_reducible rfl)
            try simp only [Act.put, List.setIfInBounds_toArray, List.set_cons_zero, List.set_cons_succ]
            refine wpAnyH_take (i := 19) (oi := ⟨some 154, _, _, _, _, _⟩) (v := ?_) rfl (by kernel_rfl) (by kernel_rfl) (by kernel_rfl) (fun _ _ _ h => h) (Or.inl ⟨by rfl, ?_⟩) hHeld ?_
            rotate_left
            · intro w hSw; (try dsimp only at hSw); go_simp; all_goals (with_reducible rfl)
            try simp only [Act.put, List.setIfInBounds_toArray, List.set_cons_zero, List.set_cons_succ]
            refine wpAnyH_take (i := 20) (oi := ⟨some 155, _, _, _, _, _⟩) (v := ?_) rfl (by kernel_rfl) (by kernel_rfl) (by kernel_rfl) (fun _ _ _ h => h) (Or.inl ⟨by rfl, ?_⟩) hHeld ?_
            rotate_left
            · intro w hSw; (try dsimp only at hSw); go_simp; all_goals (with_reducible rfl)
            try simp only [Act.put, List.setIfInBounds_toArray, List.set_cons_zero, List.set_cons_succ]
            refine wpAnyH_take (i := 21) (oi := ⟨some 156, _, _, _, _, _⟩) (v := ?_) rfl (by kernel_rfl) (by kernel_rfl) (by kernel_rfl) (fun _ _ _ h => h) (Or.inl ⟨by rfl, ?_⟩) hHeld ?_
            rotate_left
            · intro w hSw; (try dsimp only at hSw); go_simp; all_goals (with_reducible rfl)
            try simp only [Act.put, List.setIfInBounds_toArray, List.set_cons_zero, List.set_cons_succ]
            refine wpAnyH_take (i := 22) (oi := ⟨some 157, _, _, _, _, _⟩) (v := ?_) rfl (by kernel_rfl) (by kernel_rfl) (by kernel_rfl) (fun _ _ _ h => h) (Or.inl ⟨by rfl, ?_⟩) hHeld ?_
            rotate_left
            · intro w hSw; (try dsimp only at hSw); go_simp; all_goals (with_reducible rfl)
            try simp only [Act.put, List.setIfInBounds_toArray, List.set_cons_zero, List.set_cons_succ]
            refine wpAnyH_take (i := 23) (oi := ⟨some 158, _, _, _, _, _⟩) (v := ?_) rfl (by kernel_rfl) (by kernel_rfl) (by kernel_rfl) (fun _ _ _ h => h) (Or.inl ⟨by rfl, ?_⟩) hHeld ?_
            rotate_left
            · intro w hSw; (try dsimp only at hSw); go_simp; all_goals (with_reducible rfl)
            try simp only [Act.put, List.setIfInBounds_toArray, List.set_cons_zero, List.set_cons_succ]
            refine wpAnyH_take (i := 24) (oi := ⟨some 159, _, _, _, _, _⟩) (v := ?_) rfl (by kernel_rfl) (by kernel_rfl) (by kernel_rfl) (fun _ _ _ h => h) (Or.inl ⟨by rfl, ?_⟩) hHeld ?_
            rotate_left
            · intro w hSw; (try dsimp only at hSw); go_simp; all_goals (with_reducible rfl)
            try simp only [Act.put, List.setIfInBounds_toArray, List.set_cons_zero, List.set_cons_succ]
            refine wpAnyH_take (i := 25) (oi := ⟨some 160, _, _, _, _, _⟩) (v := ?_) rfl (by kernel_rfl) (by kernel_rfl) (by kernel_rfl) (fun _ _ _ h => h) (Or.inl ⟨by rfl, ?_⟩) hHeld ?_
            rotate_left
            · intro w hSw; (try dsimp only at hSw); go_simp; all_goals (with_reducible rfl)
            try simp only [Act.put, List.setIfInBounds_toArray, List.set_cons_zero, List.set_cons_succ]
            refine wpAnyH_take (i := 26) (oi := ⟨some 161, _, _, _, _, _⟩) (v := ?_) rfl (by kernel_rfl) (by kernel_rfl) (by kernel_rfl) (fun _ _ _ h => h) (Or.inl ⟨by rfl, ?_⟩) hHeld ?_
            rotate_left
            · intro w hSw; (try dsimp only at hSw); go_simp; all_goals (with_reducible rfl)
            try simp only [Act.put, List.setIfInBounds_toArray, List.set_cons_zero, List.set_cons_succ]
            refine wpAnyH_take (i := 27) (oi := ⟨some 162, _, _, _, _, _⟩) (v := ?_) rfl (by kernel_rfl) (by kernel_rfl) (by kernel_rfl) (fun _ _ _ h => h) (Or.inl ⟨by rfl, ?_⟩) hHeld ?_
            rotate_left
            · intro w hSw; (try dsimp only at hSw); go_simp; all_goals (with_reducible rfl)
            try simp only [Act.put, List.setIfInBounds_toArray, List.set_cons_zero, List.set_cons_succ]
            refine wpAnyH_take (i := 28) (oi := ⟨some 163, _, _, _, _, _⟩) (v := ?_) rfl (by kernel_rfl) (by kernel_rfl) (by kernel_rfl) (fun _ _ _ h => h) (Or.inl ⟨by rfl, ?_⟩) hHeld ?_
            rotate_left
            · intro w hSw; (try dsimp only at hSw); go_simp; all_goals (with_reducible rfl)
            try simp only [Act.put, List.setIfInBounds_toArray, List.set_cons_zero, List.set_cons_succ]
            refine wpAnyH_take (i := 29) (oi := ⟨some 164, _, _, _, _, _⟩) (v := ?_) rfl (by kernel_rfl) (by kernel_rfl) (by kernel_rfl) (fun _ _ _ h => h) (Or.inl ⟨by rfl, ?_⟩) hHeld ?_
            rotate_left
            · intro w hSw; (try dsimp only at hSw); go_simp; all_goals (with_reducible rfl)
            try simp only [Act.put, List.setIfInBounds_toArray, List.set_cons_zero, List.set_cons_succ]
            refine wpAnyH_take (i := 30) (oi := ⟨some 165, _, _, _, _, _⟩) (v := ?_) rfl (by kernel_rfl) (by kernel_rfl) (by kernel_rfl) (fun _ _ _ h => h) (Or.inl ⟨by rfl, ?_⟩) hHeld ?_
            rotate_left
            · intro w hSw; (try dsimp only at hSw); go_simp; all_goals (with_reducible rfl)
            try simp only [Act.put, List.setIfInBounds_toArray, List.set_cons_zero, List.set_cons_succ]
            refine wpAnyH_done (by kernel_rfl) ?_ _
            refine NoPanic.normal ?_
            go_wp2_with fail
            go_meet
            exact ⟨rfl, hHeld⟩
          case rest =>
            obtain ⟨rfl, hBc⟩ := hcut
            obtain ⟨wq, hwq⟩ : ∃ wq, wq = wc := ⟨_, rfl⟩
            rw [← hwq] at hBc ⊢
            have HR0 : Hid (Ri wq (.slice (some ⟨gd, 0, none⟩) (d.length + 4) dc) (d.length + 4)) := HDT.out.ri.below hBc
            have HMq : Hid (M2 w4.heap.size wq g gc qs i) := HM.out.below hBc
            have HCq : Hid (Ch (fun x => w4.heap.size ≤ x ∧ x < w10.heap.size) w11 wq) := HC.out.trans (Ch.of_below (D := fun _ => False) hBc) (fun x hx => hx.elim)
            have HGD : Hid (w4.heap.size ≤ gd ∧ gd < w10.heap.size) := HUB.out gd rfl
            have HQB : Hid (qs[i].2.1.ownBlock = some gd) := by show qs[i].2.1.ownBlock = some gd; rw [HQI.out]; rfl
            clear hwq hBc j0 j1 j2 s1 s2 s3 m0 m1 e0 e1 hss hdn HM HC HTw HDT HUB HBV HQI
            go_wp2_with fail
            go_loopw [14] (fun jv wz => ∃ j : Nat, j ≤ d.length + 4 ∧ jv = .int .i64 j ∧ Ri wz (.slice (some ⟨gd, 0, none⟩) (d.length + 4) dc) (d.length + 4) ∧ Ch (fun x => x = gd) wq wz) (fun jv _ => d.length + 4 - (intOf jv).toNat)
            case atStart => exact ⟨0, Nat.zero_le _, rfl, HR0.out, Ch.refl _ _⟩
            case round =>
              clear HR0
              obtain ⟨j, hj, rfl, hR, hCj⟩ := hrel
              have HR : Hid (Ri wr (.slice (some ⟨gd, 0, none⟩) (d.length + 4) dc) (d.length + 4)) := hR
              have HCj : Hid (Ch (fun x => x = gd) wq wr) := hCj
              clear hCj
              by_cases hjl : j < d.length + 4
              · have hjli : (j : Int) < (d.length : Int) + 4 := by omega
                obtain ⟨⟨a, ha⟩, hfa⟩ := hR.at hjl
                clear hR
                go_wp2_with fail
                go_roundw
                case rel => exact ⟨j + 1, hjl, by go_num, HR.out.set j _, ch_set HCj.out (.inl rfl) _⟩
                case measure => simp [intOf]; omega
              · have hjli : ¬ (j : Int) < (d.length : Int) + 4 := by omega
                obtain ⟨m0, f0⟩ := HMq.out.page hltq HQB.out HCj.out
                clear hR
                have HR2 : Hid (R2 w4 w10 w11 g gc qs (.int .i64 ((i : Int) + 1)) (wr.setCell ⟨g, i * 2, none⟩ (.int .i64 5))) := ⟨i + 1, hltq, by simp, HMq.out.step hltq HQB.out HCj.out _, ch_set (HCq.out.trans HCj.out (fun x hx => by subst hx; exact .inl HGD.out)) (.inl HG10.out) _⟩
                go_wp2_with fail
                go_roundw
                case rel => exact HR2.out
                case measure => simp [intOf]; omega
        · have hlti : ¬ (i : Int) < (L.length : Int) := by omega
          have HKr : Hid (BP A' wr (.pointer (some ⟨pb, 0, none⟩)) (.pointer (some ⟨sb, 0, none⟩)) P' S') := HK11.out.ch HC.out (fun x hx e => by
            rcases HX11.out x hx with q | q
            · have := HAL.out x q; omega
            · omega)
          have HCr : Hid (Ch (fun x => (w.heap.size ≤ x ∧ x < w1.heap.size) ∨ w4.heap.size ≤ x) w4 wr) := HC11.out.trans HC.out (fun x hx => .inl (.inr hx.1))
          have HWr : Hid (Wb8 wr wb [b0, b1, b2, b3, b4, b5, b6, b7]) := HW4.out.keep (HCr.out.block wb HWR.out.2 (fun e => by have := HWR.out; omega))
          have HBr : Hid (Below w.heap.size w wr) := HB4.out.trans (HCr.out.to_below HB4.out.size (fun x hx => by
            have := HB4.out.size
            rcases hx with q | q
            · exact q.1
            · omega))
          have HAW : Hid (∀ x, A' x → w.heap.size ≤ x ∧ x ≠ wb) := fun x hx => by
            rcases HX11.out x hx with q | q
            · exact ⟨(HA3.out x q).1, fun e => by have h1 := (HA3.out x q).2; have h2 := HWR.out; omega⟩
            · have h1 := HB4.out.size; have h2 := HB10.out.size; have h3 := HWR.out; exact ⟨by omega, by omega⟩
          clear HM HC hql HQL HG10 HD10 HB10 HK11 HX11 HC11 HS11 HTB HAL
          go_wp2_with fail
          go_loopw [15, 16, 17, 18] (fun pv _ _ _ wz => R3 w A' (.pointer (some ⟨pb, 0, none⟩)) (.pointer (some ⟨sb, 0, none⟩)) P' S' wb [b0, b1, b2, b3, b4, b5, b6, b7] pv wz) (fun pv _ _ _ _ => 8 - (intOf pv).toNat)
          case atStart => exact ⟨0, S', Nat.zero_le _, rfl, HKr.out, Sm.refl _, HWr.out, HBr.out⟩
          case round =>
            clear HKr HCr HWr HBr
            obtain ⟨k, T, hk, rfl, hK, hSm, hW, hB⟩ := hrel
            have HK : Hid (BP A' wr (.pointer (some ⟨pb, 0, none⟩)) (.pointer (some ⟨sb, 0, none⟩)) P' T) := hK
            have HSm : Hid (Sm S' T k) := hSm
            have HW : Hid (Wb8 wr wb [b0, b1, b2, b3, b4, b5, b6, b7]) := hW
            have HB : Hid (Below w.heap.size w wr) := hB
            have HIT : Hid (Iv P' T [b0, b1, b2, b3, b4, b5, b6, b7]) := HIV.out.1.same hSm
            have HRD : Hid (T.rd ≤ 8) := by have h := hSm.rd; rw [HIV.out.2] at h; show T.rd ≤ 8; omega
            clear hK hSm hW hB
            by_cases hk8 : k < 8
            · have hk8i : (k : Int) < 8 := by omega
              go_wp2_with fail
              refine (get_walk HK.out (k : Int) (by have := HRD.out; omega)).mono ?_
              rintro e w12 ⟨r, he, ho, hK2, hC2⟩
              subst he
              obtain ⟨gI, gL, gB, gS⟩ := get_iv HIT.out hk8
              obtain ⟨X, hX⟩ : ∃ X, X = bk [b0, b1, b2, b3, b4, b5, b6, b7] k := ⟨_, rfl⟩
              have HXL : Hid (X.length ≤ 1024) := by
                have hg : T.ok := by obtain ⟨D, hD, _, _⟩ := HK.out.disk; exact hD.good
                have h := getl_len (P := P') hg (k : Int)
                rw [gL, ← hX] at h
                exact h
              rw [gL, ← hX] at ho
              rw [gB] at hK2
              obtain ⟨T2, hT2⟩ : ∃ T2, T2 = getS P' T k := ⟨_, rfl⟩
              rw [← hT2] at hK2 gS
              obtain ⟨ro, rc, hrv, _, _⟩ := row_form ho
              subst hrv
              have HRi : Hid (Ri w12 (.slice ro X.length rc) X.length) := ri_own ho
              have HNW : Hid (∀ x, (Value.slice ro X.length rc).ownBlock = some x → wr.heap.size ≤ x) := fun x hx => (ho.lt x hx).1
              have HK12 : Hid (BP A' w12 (.pointer (some ⟨pb, 0, none⟩)) (.pointer (some ⟨sb, 0, none⟩)) P' T2) := hK2
              have HS12 : Hid (Sm S' T2 (k + 1)) := HSm.out.trans gS
              have HW12 : Hid (Wb8 w12 wb [b0, b1, b2, b3, b4, b5, b6, b7]) := HW.out.keep (hC2.block wb HW.out.lt (fun e => (HAW.out wb e).2 rfl))
              have HB12 : Hid (Below w.heap.size w w12) := HB.out.trans (hC2.to_below HB.out.size (fun x hx => (HAW.out x hx).1))
              have HAK : Hid (∀ x, A' x → x < wr.heap.size) := fun x hx => HK.out.lt hx
              have HWL : Hid (wb < wr.heap.size) := HW.out.lt
              have HWS : Hid (w.heap.size ≤ wr.heap.size) := HB.out.size
              have HXE : Hid (bk [b0, b1, b2, b3, b4, b5, b6, b7] k = X) := hX.symm
              have hxl : (X.length : Int) ≤ 1024 := by have := HXL.out; omega
              clear ho hK2 hC2 gI gL gB gS hT2 hX HK HSm HW HB HIT HRD
              go_wp2_with fail
              go_loopw [18] (fun jv wz => ∃ j : Nat, j ≤ X.length ∧ jv = .int .i64 j ∧ Ri wz (.slice ro X.length rc) X.length ∧ Ch (fun x => (Value.slice ro X.length rc).ownBlock = some x) w12 wz) (fun jv _ => X.length - (intOf jv).toNat)
              case atStart => exact ⟨0, Nat.zero_le _, rfl, HRi.out, Ch.refl _ _⟩
              case round =>
                clear HRi
                obtain ⟨j, hj, rfl, hR, hCj⟩ := hrel
                have HR : Hid (Ri wr (.slice ro X.length rc) X.length) := hR
                have HCj : Hid (Ch (fun x => (Value.slice ro X.length rc).ownBlock = some x) w12 wr) := hCj
                clear hCj
                by_cases hjl : j < X.length
                · have hjli : (j : Int) < (X.length : Int) := by omega
                  obtain ⟨gx, cx, ex, _⟩ := hR.some (by omega)
                  simp only [Value.slice.injEq, true_and] at ex
                  obtain ⟨rfl, rfl⟩ := ex
                  obtain ⟨⟨a, ha⟩, hfa⟩ := hR.at hjl
                  clear hR
                  go_wp2_with fail
                  go_roundw
                  case rel => exact ⟨j + 1, hjl, by go_num, HR.out.set j _, ch_set HCj.out (.inl rfl) _⟩
                  case measure => simp [intOf]; omega
                · have hjli : ¬ (j : Int) < (X.length : Int) := by omega
                  obtain ⟨lx, hlx⟩ := hR
                  have HOz : Hid (wr.ownsRow 0 5 1 (.slice ro X.length rc) X.length (lx.map (Value.int .u8))) := hlx
                  obtain ⟨i3, hi1, hz1, hz2, hz3⟩ := info_partsV info_u8
                  have HI3 : Hid (Try.prog.info? 5 = some i3 ∧ i3.zero = some (.int .u8 0) ∧ i3.size = 1 ∧ i3.bytes = 1) := ⟨hi1, hz1, hz2, hz3⟩
                  clear hlx hi1 hz1 hz2 hz3
                  go_upto_region 41 with (at_builtin; refine wpList_append_own _ (by rfl) (.tmp 208) (.tmp 209) 31 (by rfl) 0 5 i3 (.int .u8 0) 1 1 Try.underlying31 HI3.out.1 HI3.out.2.1 HI3.out.2.2.1 HI3.out.2.2.2 (by rfl) (by decide) _ _ _ (by rfl) (HOz.out.alloc _) ⟨wr.heap.size, 0, none⟩ 4 4 [.int .u8 9, .int .u8 9, .int .u8 9, .int .u8 9] (by rfl) (by rfl) (fun j u hj => four_new hj) (fun u hu => four_one hu) (by have := HXL.out; simp [maxLen]; omega) (by have := HXL.out; omega) (Nat.zero_le _) ?_; intro v13 w13 hown13 hg13 hnil13)
                  have hkp : ∀ x, x < wr.heap.size → (Value.slice ro X.length rc).ownBlock ≠ some x → w13.heap[x]? = wr.heap[x]? := fun x hx hn => by
                    rw [hg13.block x (by rw [size_alloc']; omega) (fun e => hn e.symm), (below_alloc wr _).block x hx]
                  have hs13 : wr.heap.size ≤ w13.heap.size := Nat.le_trans (below_alloc wr _).size hg13.size
                  have hs12 : w12.heap.size ≤ wr.heap.size := HCj.out.size
                  have HKz : Hid (BP A' wr (.pointer (some ⟨pb, 0, none⟩)) (.pointer (some ⟨sb, 0, none⟩)) P' T2) := HK12.out.ch HCj.out (fun x hx e => by have h1 := HNW.out x e; have h2 := HAK.out x hx; omega)
                  have HWz : Hid (Wb8 wr wb [b0, b1, b2, b3, b4, b5, b6, b7]) := HW12.out.keep (HCj.out.block wb HW12.out.lt (fun e => by have h1 := HNW.out wb e; have h2 := HWL.out; omega))
                  have HBz : Hid (Below w.heap.size w wr) := HB12.out.trans (HCj.out.to_below HB12.out.size (fun x hx => by have h1 := HNW.out x hx; have h2 := HWS.out; omega))
                  have HK13 : Hid (BP A' w13 (.pointer (some ⟨pb, 0, none⟩)) (.pointer (some ⟨sb, 0, none⟩)) P' T2) := HKz.out.keep (fun x hx => hkp x (HKz.out.lt hx) (fun e => by have h1 := HNW.out x e; have h2 := HAK.out x hx; omega)) hs13
                  have HW13 : Hid (Wb8 w13 wb [b0, b1, b2, b3, b4, b5, b6, b7]) := HWz.out.keep (hkp wb HWz.out.lt (fun e => by have h1 := HNW.out wb e; have h2 := HWL.out; omega))
                  have HB13 : Hid (Below w.heap.size w w13) := (HBz.out.alloc HBz.out.size _).grown hg13 (by rw [size_alloc']; have := HBz.out.size; omega) (fun x hx => by have h1 := HNW.out x hx; have h2 := HWS.out; omega)
                  have HR3 : Hid (R3 w A' (.pointer (some ⟨pb, 0, none⟩)) (.pointer (some ⟨sb, 0, none⟩)) P' S' wb [b0, b1, b2, b3, b4, b5, b6, b7] (.int .i64 ((k : Int) + 1)) w13) := ⟨k + 1, T2, hk8, by simp, HK13.out, HS12.out, HW13.out, HB13.out⟩
                  have wc0 : w13.cell? ⟨wb, k, none⟩ = some (.string (str X)) := by rw [← HXE.out]; exact HW13.out.cell hk8
                  obtain ⟨vo, vc, hvv, _, _⟩ := row_form hown13
                  subst hvv
                  have hsz : (str X).size = X.length := str_size9 X
                  clear hown13 hg13 hnil13 hkp hs13 hs12
                  go_wp2_with fail
                  go_roundw
                  case rel => exact HR3.out
                  case measure => simp [intOf]; omega
            · have hk8i : ¬ (k : Int) < 8 := by omega
              obtain ⟨c0, c1, c2, c3, c4, c5, c6, c7⟩ := wb_cells HW.out
              go_wp2_with fail
              refine (holds8 HK.out HIT.out HBYW.out (by have := HRD.out; omega)).mono ?_
              rintro e w14 ⟨rfl, _, _, _, hC14⟩
              have HB14z : Hid (Below w.heap.size w w14) := HB.out.trans (hC14.to_below HB.out.size (fun x hx => (HAW.out x hx).1))
              clear hC14
              go_wp2_with fail
              go_ret
              exact ⟨rfl, HB14z.out⟩
end Go.Proofs.Ytakijnclllmkfab


