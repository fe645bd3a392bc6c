/- Deal: the program's. -/
import Derived.Test.YtlblpjookbomjaaOg

namespace Go.Proofs.Ytlblpjookbomjaa

open Go.RowKit



section

variable {wx wy : World} {X g : Nat} {q : Pr}

theorem pc_below {B : Nat} (h : wx.cell? ⟨X, 0, none⟩ = some (.int .u64 q.k) ∧ wx.cell? ⟨X, 1, none⟩ = some (.bool q.v.h) ∧ wx.cell? ⟨X, 2, none⟩ = some (.int .u64 q.v.b)) (hb : Below B wx wy) (hX : X < B) :
    wy.cell? ⟨X, 0, none⟩ = some (.int .u64 q.k) ∧ wy.cell? ⟨X, 1, none⟩ = some (.bool q.v.h) ∧ wy.cell? ⟨X, 2, none⟩ = some (.int .u64 q.v.b) :=
  ⟨by rw [hb.cell (p := ⟨X, 0, none⟩) hX]; exact h.1, by rw [hb.cell (p := ⟨X, 1, none⟩) hX]; exact h.2.1, by rw [hb.cell (p := ⟨X, 2, none⟩) hX]; exact h.2.2⟩
theorem pc_grown {row : Option Nat} (h : wx.cell? ⟨X, 0, none⟩ = some (.int .u64 q.k) ∧ wx.cell? ⟨X, 1, none⟩ = some (.bool q.v.h) ∧ wx.cell? ⟨X, 2, none⟩ = some (.int .u64 q.v.b)) (hg : wx.grownBy wy row) (hX : ∀ m, row = some m → X ≠ m) :
    wy.cell? ⟨X, 0, none⟩ = some (.int .u64 q.k) ∧ wy.cell? ⟨X, 1, none⟩ = some (.bool q.v.h) ∧ wy.cell? ⟨X, 2, none⟩ = some (.int .u64 q.v.b) :=
  ⟨cell_own h.1 hg hX, cell_own h.2.1 hg hX, cell_own h.2.2 hg hX⟩
theorem pc_set (h : wx.cell? ⟨X, 0, none⟩ = some (.int .u64 q.k) ∧ wx.cell? ⟨X, 1, none⟩ = some (.bool q.v.h) ∧ wx.cell? ⟨X, 2, none⟩ = some (.int .u64 q.v.b)) (hX : X ≠ g) (i : Nat) (u : Value) :
    (wx.setCell ⟨g, i, none⟩ u).cell? ⟨X, 0, none⟩ = some (.int .u64 q.k) ∧ (wx.setCell ⟨g, i, none⟩ u).cell? ⟨X, 1, none⟩ = some (.bool q.v.h) ∧ (wx.setCell ⟨g, i, none⟩ u).cell? ⟨X, 2, none⟩ = some (.int .u64 q.v.b) :=
  ⟨by rw [World.cell?_setCell_other _ _ _ _ (by intro e; cases e; exact hX rfl)]; exact h.1, by rw [World.cell?_setCell_other _ _ _ _ (by intro e; cases e; exact hX rfl)]; exact h.2.1, by rw [World.cell?_setCell_other _ _ _ _ (by intro e; cases e; exact hX rfl)]; exact h.2.2⟩
end



/-- Where Deal's loop stands. -/
def Dr (w1 : World) (g n : Nat) (p : Pn) (t : List Pr) (iv : Value) (wr : World) : Prop :=
  ∃ (k : Nat) (vs : Nat → Value), k ≤ t.length ∧ iv = .int .i64 k ∧ Dl w1.heap.size wr (.slice (some ⟨g, 0, none⟩) n n) n vs (dealF p (t.take k)) ∧ Ne n vs ∧ Below w1.heap.size w1 wr


/-- What Deal answers. -/
def DG (B : Nat) (w : World) (v : Value) (p : Pn) (t : List Pr) : Prop :=
  ∃ vs, Dl B w v p.n vs (dealF p t) ∧ Ne p.n vs


theorem deal_no {p : Pn} {ov tv : Value} {t : List Pr} {w : World} (ho : Ov w ov p.l) (hp : p.is = false) :
    Calls Try.prog 20 #[.agg #[.int .i64 p.P, .int .i64 p.S, .int .i64 p.W, ov, .int .i64 p.A, .int .i64 p.B, .int .i64 p.N, .int .i64 p.G], tv] w fun e w' => ∃ v, e = .returned v ∧ DG w.heap.size w' v p t ∧ Below w.heap.size w w' := by
  have HO : Hid (Ov w ov p.l) := ho
  clear ho
  go_enter Try.func20, Try.ntmps20
  go_wp2_with fail
  refine (isplan_walk (HO.out.below (below_alloc _ _))).mono ?_
  rw [hp]
  rintro e w1 ⟨rfl, hB1⟩
  go_wp2_with fail
  go_ret
  refine ⟨_, rfl, ⟨fun _ => .slice none 0 0, ?_, ?_⟩, below_trans (below_alloc _ _) hB1⟩
  · have : p.n = 0 := by unfold Pn.n; rw [hp]; rfl
    rw [this]
    exact ⟨World.ownsRow_nil _ _ _ _, fun i hi => by omega⟩
  · have : p.n = 0 := by unfold Pn.n; rw [hp]; rfl
    rw [this]
    exact fun i j hi => by omega
set_option maxRecDepth 20000 in
theorem deal_good {p : Pn} {ov tv : Value} {t : List Pr} {w : World} (ho : Ov w ov p.l) (hp : p.is = true) (hq : Qv w tv t) (hsz : t.length * 24 ≤ 140737488355328) :
    Calls Try.prog 20 #[.agg #[.int .i64 p.P, .int .i64 p.S, .int .i64 p.W, ov, .int .i64 p.A, .int .i64 p.B, .int .i64 p.N, .int .i64 p.G], tv] w fun e w' => ∃ v, e = .returned v ∧ DG w.heap.size w' v p t ∧ Below w.heap.size w w' := by
  have HO : Hid (Ov w ov p.l) := ho
  have HOK : Hid (okT t) := hq.2
  obtain ⟨to, tc, rfl, hl, hql⟩ := hq.form
  have HQL : Hid (Ql w to t) := hql
  have HSZ : Hid (t.length * 24 ≤ 140737488355328) := hsz
  have hli : (t.length : Int) ≤ 9223372036854775807 := by omega
  clear ho hq hl hql hsz
  obtain ⟨_, ⟨s1, s2⟩, ⟨w1, w2⟩, _⟩ := Pn.is_num hp
  have hmk := make_sp hp
  obtain ⟨n, hn⟩ : ∃ n, n = p.S.toNat := ⟨_, rfl⟩
  have HN : Hid (n = p.S.toNat) := hn
  have hn4 : n ≤ 4 := by omega
  rw [← hn] at hmk
  have HPN : Hid (p.n = n) := by show _ = _; unfold Pn.n; rw [hp, hn]; rfl
  clear hn
  obtain ⟨Z, hZ⟩ : ∃ Z, Z = madeCells #[Value.slice none 0 0] (n * 1) := ⟨_, rfl⟩
  rw [← hZ] at hmk
  have HZ : Hid (Z = madeCells #[Value.slice none 0 0] (n * 1)) := hZ
  clear hZ
  go_enter Try.func20, Try.ntmps20
  go_wp2_with fail
  refine (isplan_walk (HO.out.below (below_alloc _ _))).mono ?_
  rw [hp]
  rintro e w1 ⟨rfl, hB1⟩
  have HB1 : Hid (Below w.heap.size w w1) := below_trans (below_alloc _ _) hB1
  have HX1 : Hid (Bx w1 w.heap.size p ov) := box_then hB1
  have HXL : Hid (w.heap.size < w1.heap.size) := box_lt hB1
  obtain ⟨c0, c1, c2, c3, c4, c5, c6, c7⟩ := box_then hB1
  clear hB1
  have HST : Hid (Dr w1 w1.heap.size n p t (.int .i64 0) (w1.alloc (.cells Z 34))) := by
    have h := made_sp w1 hn4 p
    rw [← HZ.out] at h
    exact ⟨0, _, Nat.zero_le _, rfl, h, fun i j _ _ _ => .inl rfl, below_alloc _ _⟩
  go_wp2_with fail
  go_loopw [17] (fun iv wr => Dr w1 w1.heap.size n p t iv wr) (fun iv _ => t.length - (intOf iv).toNat)
  case atStart => exact HST.out
  case round =>
    obtain ⟨k, vs, hk, rfl, hD, hNe, hBr⟩ := hrel
    clear c0 c1 c2 c3 c4 c5 c6 c7 HST
    obtain ⟨g, hg⟩ : ∃ g, g = w1.heap.size := ⟨_, rfl⟩
    have HG : Hid (g = w1.heap.size) := hg
    have HDL0 : Hid (Dl w1.heap.size wr (.slice (some ⟨g, 0, none⟩) n n) n vs (dealF p (t.take k))) := by rw [hg]; exact hD
    have HNE : Hid (Ne n vs) := hNe
    have HBR : Hid (Below w1.heap.size w1 wr) := hBr
    have HWR : Hid (w1.heap.size ≤ wr.heap.size) := hBr.size
    rw [← hg]
    clear hD hNe hBr hg
    by_cases hlt : k < t.length
    · obtain ⟨b, off, hto, d0, d1, d2⟩ := (HQL.out.below HB1.out).below HBR.out |> fun h => h k hlt
      subst hto
      obtain ⟨q, hqe⟩ : ∃ q, q = t[k] := ⟨_, rfl⟩
      rw [← hqe] at d0 d1 d2
      have HQ : Hid (q = t[k]) := hqe
      have HQK : Hid (q.k < 18446744073709551616) := by rw [hqe]; exact (HOK.out _ (List.getElem_mem hlt)).1
      clear hqe
      obtain ⟨A, hA⟩ : ∃ A, A = p.place q.k := ⟨_, rfl⟩
      have HA : Hid (A = p.place q.k) := hA
      have hAn : A < n := by rw [hA, HN.out]; exact (place_lt q.k hp).2
      have HAN : Hid (A < n) := hAn
      have hA4 : A < 4 := by omega
      clear hA
      obtain ⟨c0, c1, c2, c3, c4, c5, c6, c7⟩ := HX1.out.below (HBR.out.trans ((below_alloc wr (Obj.cells #[.int .u64 q.k, .bool q.v.h, .int .u64 q.v.b] 43)).mono HWR.out)) HXL.out
      go_wp2_with fail
      refine (place_walk q.k HQK.out hp).mono ?_
      rw [← HA.out]
      rintro e w5 ⟨rfl, hB5⟩
      have HPC : Hid (w5.cell? ⟨wr.heap.size, 0, none⟩ = some (.int .u64 q.k) ∧ w5.cell? ⟨wr.heap.size, 1, none⟩ = some (.bool q.v.h) ∧ w5.cell? ⟨wr.heap.size, 2, none⟩ = some (.int .u64 q.v.b)) := pc_below (B := wr.heap.size + 1) (wx := wr.alloc (Obj.cells #[.int .u64 q.k, .bool q.v.h, .int .u64 q.v.b] 43)) ⟨by simp [go_sem], by simp [go_sem], by simp [go_sem]⟩ (hB5.mono (by simp)) (by omega)
      have HX5 : Hid (wr.heap.size < w5.heap.size) := by have := hB5.size; simp at this; show _ < _; omega
      have hR5 : Below wr.heap.size wr w5 := below_trans (below_alloc _ _) hB5
      have HDL : Hid (Dl w1.heap.size w5 (.slice (some ⟨g, 0, none⟩) n n) n vs (dealF p (t.take k))) := HDL0.out.below hR5
      have HB5 : Hid (Below w1.heap.size w1 w5) := HBR.out.trans (hR5.mono HWR.out)
      have HB5s : Hid (w1.heap.size ≤ w5.heap.size) := HB5.out.size
      have HOA0 : Hid (w5.ownsRow w1.heap.size 43 3 (vs A) (dealF p (t.take k) A).length (flatQ (dealF p (t.take k) A))) := HDL.out.own A HAN.out
      obtain ⟨ao, cap, hva, _, _⟩ := row_form HOA0.out
      have HVA : Hid (vs A = .slice ao (dealF p (t.take k) A).length cap) := hva
      have HOA : Hid (w5.ownsRow w1.heap.size 43 3 (.slice ao (dealF p (t.take k) A).length cap) (dealF p (t.take k) A).length (flatQ (dealF p (t.take k) A))) := by
        have h := HOA0.out
        rw [hva] at h
        exact h
      have z5 := (row1_cell HDL.out.row HAN.out).1
      rw [hva] at z5
      have z6 : (w5.alloc (Obj.cells #[.int .u64 q.k, .bool q.v.h, .int .u64 q.v.b] 43)).cell? ⟨g, A, none⟩ = some (.slice ao (dealF p (t.take k) A).length cap) := by
        have h := (row1_cell (w := (w5.alloc (Obj.cells #[.int .u64 q.k, .bool q.v.h, .int .u64 q.v.b] 43))) (HDL.out.below (below_alloc _ _)).row HAN.out).1
        rw [hva] at h
        exact h
      clear hva
      have HBD : Hid (((dealF p (t.take k) A).length + 1) * 24 ≤ 140737488355328) := by
        show _ ≤ _
        have h1 := deal_len p (t.take k) A
        have h2 : (dealF p (t.take k) A).length + 1 ≤ t.length := by rw [List.length_take] at h1; omega
        exact Nat.le_trans (Nat.mul_le_mul_right 24 h2) HSZ.out
      have HNG : Hid (∀ w8 : World, (Value.slice (some ⟨g, 0, none⟩) n n).ownBlock = none ∨ (Value.slice (some ⟨g, 0, none⟩) n n).ownBlock ≠ (Value.slice ao (dealF p (t.take k) A).length cap).ownBlock) := fun _ => own_ne HDL.out.row HOA.out sp_ne.symm
      have HXN : Hid (∀ (_ : Nat) (m : Nat), (Value.slice ao (dealF p (t.take k) A).length cap).ownBlock = some m → wr.heap.size ≠ m) := fun _ m he => by
        have h := HDL0.out.own A HAN.out
        rw [HVA.out] at h
        have := (h.lt m he).2
        omega
      have HXG : Hid (wr.heap.size ≠ g) := by
        have h := (HDL0.out.row.lt g rfl).2
        show _ ≠ _
        omega
      have HGB : Hid (w1.heap.size ≤ g) := by rw [HG.out]; exact Nat.le_refl _
      have HBW : Hid (∀ (w8 w9 : World), (w5.drew.alloc (Obj.cells #[.int .u64 q.k, .bool q.v.h, .int .u64 q.v.b] 43)).grownBy w9 (Value.slice ao (dealF p (t.take k) A).length cap).ownBlock → Below w1.heap.size w1 w9) := fun _ w9 hg9 => by
        have h8 : Below w1.heap.size w1 (w5.drew.alloc (Obj.cells #[.int .u64 q.k, .bool q.v.h, .int .u64 q.v.b] 43)) := HB5.out.trans ((below_trans (below_drw _) (below_alloc _ _)).mono HB5s.out)
        exact h8.grown hg9 h8.size (fun x hx => (HOA.out.lt x hx).1)
      clear c0 c1 c2 c3 c4 c5 c6 c7 d0 d1 d2 hB5 hR5
      go_wp2_with fail
      refine wp_region_noPanic ?_
      refine wp_region_held_drew (S := fun wx => wx.cell? ⟨wr.heap.size, 0, none⟩ = some (.int .u64 q.k) ∧ wx.cell? ⟨wr.heap.size, 1, none⟩ = some (.bool q.v.h) ∧ wx.cell? ⟨wr.heap.size, 2, none⟩ = some (.int .u64 q.v.b)) (by kernel_rfl) ?_ (fun hHeld => ?_)
      · exact pc_below HPC.out (below_drw _) HX5.out
      refine wpAnyH_take (i := 0) (oi := ⟨some 25, _, _, _, _, _⟩) (v := ?_) rfl (by kernel_rfl) (by kernel_rfl) (by kernel_rfl) (fun _ _ _ h => h) (Or.inl ⟨by rfl, ?_⟩) hHeld ?_
      rotate_left
      · intro w hSw; (try dsimp only at hSw); go_simp; all_goals (with_reducible rfl)
      try simp only [Act.put, List.setIfInBounds_toArray, List.set_cons_zero, List.set_cons_succ]
      refine wpAnyH_take (i := 1) (oi := ⟨some 26, _, _, _, _, _⟩) (v := ?_) rfl (by kernel_rfl) (by kernel_rfl) (by kernel_rfl) (fun _ _ _ h => h) (Or.inl ⟨by rfl, ?_⟩) hHeld ?_
      rotate_left
      · intro w hSw; (try dsimp only at hSw); go_simp; all_goals (with_reducible rfl)
      try simp only [Act.put, List.setIfInBounds_toArray, List.set_cons_zero, List.set_cons_succ]
      refine wpAnyH_take (i := 2) (oi := ⟨some 27, _, _, _, _, _⟩) (v := ?_) rfl (by kernel_rfl) (by kernel_rfl) (by kernel_rfl) (fun _ _ _ h => h) (Or.inl ⟨by rfl, ?_⟩) hHeld ?_
      rotate_left
      · intro w hSw; (try dsimp only at hSw); go_simp; all_goals (with_reducible rfl)
      try simp only [Act.put, List.setIfInBounds_toArray, List.set_cons_zero, List.set_cons_succ]
      refine wpAnyH_take (i := 3) (oi := ⟨some 28, _, _, _, _, _⟩) (v := ?_) rfl (by kernel_rfl) (by kernel_rfl) (by kernel_rfl) (fun _ _ _ h => h) (Or.inl ⟨by rfl, ?_⟩) hHeld ?_
      rotate_left
      · intro w hSw; (try dsimp only at hSw); go_simp; all_goals (with_reducible rfl)
      try simp only [Act.put, List.setIfInBounds_toArray, List.set_cons_zero, List.set_cons_succ]
      refine wpAnyH_take (i := 4) (oi := ⟨some 29, _, _, _, _, _⟩) (v := ?_) rfl (by kernel_rfl) (by kernel_rfl) (by kernel_rfl) (fun _ _ _ h => h) (Or.inl ⟨by rfl, ?_⟩) hHeld ?_
      rotate_left
      · intro w hSw; (try dsimp only at hSw); go_simp; all_goals (with_reducible rfl)
      try simp only [Act.put, List.setIfInBounds_toArray, List.set_cons_zero, List.set_cons_succ]
      refine wpAnyH_take (i := 6) (oi := ⟨some 31, _, _, _, _, _⟩) (v := ?_) rfl (by kernel_rfl) (by kernel_rfl) (by kernel_rfl) (fun _ _ _ h => h) (Or.inl ⟨by rfl, ?_⟩) hHeld ?_
      rotate_left
      · intro w hSw; (try dsimp only at hSw); go_simp; all_goals (with_reducible rfl)
      try simp only [Act.put, List.setIfInBounds_toArray, List.set_cons_zero, List.set_cons_succ]
      refine wpAnyH_ready (rs := [5, 7]) (by kernel_rfl) (by simp) ?_
      refine AllReadyH.cons (o := ⟨some 30, _, _, _, _, _⟩) rfl (fun K hK => ?_) (AllReadyH.cons (o := ⟨some 32, _, _, _, _, _⟩) rfl (fun K hK => ?_) AllReadyH.nil)
      · go_simp
        refine hK.out _ _ ?_ (fun hHeld => ?_)
        · exact hHeld
        clear hK K
        try simp only [Act.put, List.setIfInBounds_toArray, List.set_cons_zero, List.set_cons_succ]
        refine wpAnyH_ready (rs := [7]) (by kernel_rfl) (by simp) ?_
        refine AllReadyH.cons (o := ⟨some 32, _, _, _, _, _⟩) rfl (fun K hK => ?_) AllReadyH.nil
        go_simp
        refine hK.out _ _ ?_ (fun hHeld => ?_)
        · exact pc_below hHeld (below_alloc _ _) HX5.out
        clear hK K
        try simp only [Act.put, List.setIfInBounds_toArray, List.set_cons_zero, List.set_cons_succ]
        refine wpAnyH_ready (rs := [8]) (by kernel_rfl) (by simp) ?_
        refine AllReadyH.cons (o := ⟨some 33, _, _, _, _, _⟩) rfl (fun K hK => ?_) AllReadyH.nil
        refine step_app_pr rfl (.tmp 30) (.tmp 32) rfl (.slice ao (dealF p (t.take k) A).length cap) (dealF p (t.take k) A) (by simp [Act.eval]) (own3_below HOA.out (below_trans (below_drw _) (below_alloc _ _))) w5.heap.size q (by simp [Act.eval]) (by simp [go_sem]) (by simp [go_sem]) (by simp [go_sem]) HBD.out (Nat.le_trans HB5s.out (below_trans (below_drw _) (below_alloc _ _)).size) ?_
        intro v9 w9 hown9 hg9 hat9
        obtain ⟨v9o, v9c, hv9, _, _⟩ := row_form hown9
        subst hv9
        have HS9 : Hid (Dl w1.heap.size (w9.setCell ⟨g, A, none⟩ (.slice v9o ((dealF p (t.take k) A).length + 1) v9c)) (.slice (some ⟨g, 0, none⟩) n n) n (setF vs A (.slice v9o ((dealF p (t.take k) A).length + 1) v9c)) (setF (dealF p (t.take k)) A (dealF p (t.take k) A ++ [q])) ∧ Ne n (setF vs A (.slice v9o ((dealF p (t.take k) A).length + 1) v9c))) := HDL.out.step HNE.out HAN.out (below_trans (below_drw _) (below_alloc _ _)) hown9 (by rw [HVA.out]; exact hg9) (by rw [HVA.out]; exact hat9)
        have HG9 : Hid ((w5.drew.alloc (Obj.cells #[.int .u64 q.k, .bool q.v.h, .int .u64 q.v.b] 43)).grownBy w9 (Value.slice ao (dealF p (t.take k) A).length cap).ownBlock) := hg9
        have z9 := (row1_cell (i := A) ((HDL.out.below (below_trans (below_drw _) (below_alloc _ _))).row.kept hg9 (HNG.out w9)) HAN.out).1
        have z9f := (row1_cell (i := A) ((HDL.out.below (below_trans (below_drw _) (below_alloc _ _))).row.kept hg9 (HNG.out w9)) HAN.out).2
        rw [HVA.out] at z9
        clear hown9 hg9 hat9
        refine hK.out _ _ ?_ (fun hHeld => ?_)
        · exact pc_grown hHeld HG9.out (HXN.out 0)
        clear hK K
        try simp only [Act.put, List.setIfInBounds_toArray, List.set_cons_zero, List.set_cons_succ]
        refine wpAnyH_take (i := 9) (oi := ⟨some 34, _, _, _, _, _⟩) (v := ?_) rfl (by kernel_rfl) (by kernel_rfl) (by kernel_rfl) (fun _ _ _ h => h) (Or.inl ⟨by rfl, ?_⟩) hHeld ?_
        rotate_left
        · intro w hSw; (try dsimp only at hSw); go_simp; all_goals (with_reducible rfl)
        try simp only [Act.put, List.setIfInBounds_toArray, List.set_cons_zero, List.set_cons_succ]
        refine wpAnyH_ready (rs := [10]) (by kernel_rfl) (by simp) ?_
        refine AllReadyH.cons (o := ⟨none, _, _, _, _, _⟩) rfl (fun K hK => ?_) AllReadyH.nil
        go_simp
        have HW9 : Hid (Below w1.heap.size w1 w9) := HBW.out w9 _ HG9.out
        refine hK.out _ _ ?_ (fun hHeld => ?_)
        · exact pc_set hHeld HXG.out _ _
        clear hK K
        try simp only [Act.put, List.setIfInBounds_toArray, List.set_cons_zero, List.set_cons_succ]
        refine wpAnyH_done (by kernel_rfl) ?_ _
        refine NoPanic.normal ?_
        have HR : Hid (Dr w1 g n p t (.int .i64 ((k : Int) + 1)) (w9.setCell ⟨g, A, none⟩ (.slice v9o ((dealF p (t.take k) A).length + 1) v9c))) := by
          refine ⟨k + 1, _, hlt, by simp, ?_, HS9.out.2, HW9.out.setCell (p := ⟨g, A, none⟩) HGB.out _⟩
          rw [deal_step p t hlt, ← HQ.out, ← HA.out]
          exact HS9.out.1
        clear z9 z9f HS9
        go_wp2_with fail
        go_roundw
        case rel => exact HR.out
        case measure => simp [intOf]; omega
      · go_simp
        refine hK.out _ _ ?_ (fun hHeld => ?_)
        · exact pc_below hHeld (below_alloc _ _) HX5.out
        clear hK K
        try simp only [Act.put, List.setIfInBounds_toArray, List.set_cons_zero, List.set_cons_succ]
        refine wpAnyH_ready (rs := [5]) (by kernel_rfl) (by simp) ?_
        refine AllReadyH.cons (o := ⟨some 30, _, _, _, _, _⟩) rfl (fun K hK => ?_) AllReadyH.nil
        go_simp
        refine hK.out _ _ ?_ (fun hHeld => ?_)
        · exact hHeld
        clear hK K
        try simp only [Act.put, List.setIfInBounds_toArray, List.set_cons_zero, List.set_cons_succ]
        refine wpAnyH_ready (rs := [8]) (by kernel_rfl) (by simp) ?_
        refine AllReadyH.cons (o := ⟨some 33, _, _, _, _, _⟩) rfl (fun K hK => ?_) AllReadyH.nil
        refine step_app_pr rfl (.tmp 30) (.tmp 32) rfl (.slice ao (dealF p (t.take k) A).length cap) (dealF p (t.take k) A) (by simp [Act.eval]) (own3_below HOA.out (below_trans (below_drw _) (below_alloc _ _))) w5.heap.size q (by simp [Act.eval]) (by simp [go_sem]) (by simp [go_sem]) (by simp [go_sem]) HBD.out (Nat.le_trans HB5s.out (below_trans (below_drw _) (below_alloc _ _)).size) ?_
        intro v9 w9 hown9 hg9 hat9
        obtain ⟨v9o, v9c, hv9, _, _⟩ := row_form hown9
        subst hv9
        have HS9 : Hid (Dl w1.heap.size (w9.setCell ⟨g, A, none⟩ (.slice v9o ((dealF p (t.take k) A).length + 1) v9c)) (.slice (some ⟨g, 0, none⟩) n n) n (setF vs A (.slice v9o ((dealF p (t.take k) A).length + 1) v9c)) (setF (dealF p (t.take k)) A (dealF p (t.take k) A ++ [q])) ∧ Ne n (setF vs A (.slice v9o ((dealF p (t.take k) A).length + 1) v9c))) := HDL.out.step HNE.out HAN.out (below_trans (below_drw _) (below_alloc _ _)) hown9 (by rw [HVA.out]; exact hg9) (by rw [HVA.out]; exact hat9)
        have HG9 : Hid ((w5.drew.alloc (Obj.cells #[.int .u64 q.k, .bool q.v.h, .int .u64 q.v.b] 43)).grownBy w9 (Value.slice ao (dealF p (t.take k) A).length cap).ownBlock) := hg9
        have z9 := (row1_cell (i := A) ((HDL.out.below (below_trans (below_drw _) (below_alloc _ _))).row.kept hg9 (HNG.out w9)) HAN.out).1
        have z9f := (row1_cell (i := A) ((HDL.out.below (below_trans (below_drw _) (below_alloc _ _))).row.kept hg9 (HNG.out w9)) HAN.out).2
        rw [HVA.out] at z9
        clear hown9 hg9 hat9
        refine hK.out _ _ ?_ (fun hHeld => ?_)
        · exact pc_grown hHeld HG9.out (HXN.out 0)
        clear hK K
        try simp only [Act.put, List.setIfInBounds_toArray, List.set_cons_zero, List.set_cons_succ]
        refine wpAnyH_take (i := 9) (oi := ⟨some 34, _, _, _, _, _⟩) (v := ?_) rfl (by kernel_rfl) (by kernel_rfl) (by kernel_rfl) (fun _ _ _ h => h) (Or.inl ⟨by rfl, ?_⟩) hHeld ?_
        rotate_left
        · intro w hSw; (try dsimp only at hSw); go_simp; all_goals (with_reducible rfl)
        try simp only [Act.put, List.setIfInBounds_toArray, List.set_cons_zero, List.set_cons_succ]
        refine wpAnyH_ready (rs := [10]) (by kernel_rfl) (by simp) ?_
        refine AllReadyH.cons (o := ⟨none, _, _, _, _, _⟩) rfl (fun K hK => ?_) AllReadyH.nil
        go_simp
        have HW9 : Hid (Below w1.heap.size w1 w9) := HBW.out w9 _ HG9.out
        refine hK.out _ _ ?_ (fun hHeld => ?_)
        · exact pc_set hHeld HXG.out _ _
        clear hK K
        try simp only [Act.put, List.setIfInBounds_toArray, List.set_cons_zero, List.set_cons_succ]
        refine wpAnyH_done (by kernel_rfl) ?_ _
        refine NoPanic.normal ?_
        have HR : Hid (Dr w1 g n p t (.int .i64 ((k : Int) + 1)) (w9.setCell ⟨g, A, none⟩ (.slice v9o ((dealF p (t.take k) A).length + 1) v9c))) := by
          refine ⟨k + 1, _, hlt, by simp, ?_, HS9.out.2, HW9.out.setCell (p := ⟨g, A, none⟩) HGB.out _⟩
          rw [deal_step p t hlt, ← HQ.out, ← HA.out]
          exact HS9.out.1
        clear z9 z9f HS9
        go_wp2_with fail
        go_roundw
        case rel => exact HR.out
        case measure => simp [intOf]; omega
    · obtain rfl : k = t.length := by omega
      go_wp2_with fail
      go_ret
      have hD := HDL0.out
      rw [List.take_length] at hD
      refine ⟨_, rfl, ⟨vs, ?_, ?_⟩, ?_⟩
      · rw [HPN.out]
        exact ⟨own_base hD.row HB1.out.size, fun i hi => own_base (hD.own i hi) HB1.out.size⟩
      · rw [HPN.out]
        exact HNE.out
      · exact HB1.out.trans (HBR.out.mono HB1.out.size)
theorem deal_walk {p : Pn} {ov tv : Value} {t : List Pr} {w : World} (ho : Ov w ov p.l) (hq : Qv w tv t) (hsz : t.length * 24 ≤ 140737488355328) :
    Calls Try.prog 20 #[.agg #[.int .i64 p.P, .int .i64 p.S, .int .i64 p.W, ov, .int .i64 p.A, .int .i64 p.B, .int .i64 p.N, .int .i64 p.G], tv] w fun e w' => ∃ v, e = .returned v ∧ DG w.heap.size w' v p t ∧ Below w.heap.size w w' := by
  cases hp : p.is
  · exact deal_no ho hp
  · exact deal_good ho hp hq hsz
end Go.Proofs.Ytlblpjookbomjaa


