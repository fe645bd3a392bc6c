/- Deal: the reference's. -/
import Derived.Test.YtlblpjookbomjaaOh

import Derived.Deep.CutBlock

namespace Go.Proofs.Ytlblpjookbomjaa

open Go.RowKit



section

variable {w : World} {ops : Array Oper} {rest : List Oper} {o : Oper} {a : Act} {Q : Exit → Act → World → Prop}

/-- Append of one pair onto a row of one's own. -/
theorem app_pr (hgd : o.guard = none) (s x : Operand) (ho : o.op = .call { callee := .builtin .append, args := #[s, x], argTypes := #[34, 34] })
    {base : Nat} (v : Value) (l : List Pr) (hs : a.eval s = v) (hown : w.ownsRow base 43 3 v l.length (flatQ l))
    (X : Nat) (q : Pr) (hx : a.eval x = .slice (some ⟨X, 0, none⟩) 1 1) (h0 : w.cell? ⟨X, 0, none⟩ = some (.int .u64 q.k)) (h1 : w.cell? ⟨X, 1, none⟩ = some (.bool q.v.h)) (h2 : w.cell? ⟨X, 2, none⟩ = some (.int .u64 q.v.b)) (hn : (l.length + 1) * 24 ≤ 140737488355328) (hb : base ≤ w.heap.size)
    (h : ∀ v' w', w'.ownsRow base 43 3 v' (l.length + 1) (flatQ (l ++ [q])) → w.grownBy w' v.ownBlock → (v'.ownBlock = v.ownBlock ∨ v'.ownBlock = some w.heap.size) → wpList Try.prog ops Q rest (a.put o.dst v') w') : wpList Try.prog ops Q (o :: rest) a w := by
  obtain ⟨i0, hi, hz0, hz1, hz2⟩ := info_partsQ info_pair
  refine wpList_append_own_at w hgd s x 34 ho base 43 i0 (.agg #[.int .u64 0, .bool false, .int .u64 0]) 3 24 Try.underlying34 hi hz0 hz1 hz2 rfl (by decide) v l.length (flatQ l) hs hown ⟨X, 0, none⟩ 1 1 [.int .u64 q.k, .bool q.v.h, .int .u64 q.v.b] hx rfl (pair_cells h0 h1 h2) (by intro u hu; simp at hu; rcases hu with rfl | rfl | rfl <;> rfl) (by simp only [maxLen]; omega) hn hb ?_
  intro v' w' r1 r2 _ r3
  exact h v' w' (by rw [flatQ_append]; exact r1) r2 r3
/-- Append of one slice onto a row of one's own. -/
theorem app_sp (hgd : o.guard = none) (s x : Operand) (ho : o.op = .call { callee := .builtin .append, args := #[s, x], argTypes := #[36, 36] })
    {base : Nat} (v : Value) (n : Nat) (xs : List Value) (hs : a.eval s = v) (hown : w.ownsRow base 34 1 v n xs)
    (X : Nat) (u : Value) (hu : u.oneCell' = true) (hx : a.eval x = .slice (some ⟨X, 0, none⟩) 1 1) (h0 : w.cell? ⟨X, 0, none⟩ = some u) (hn : n ≤ 100) (hb : base ≤ w.heap.size)
    (h : ∀ v' w', w'.ownsRow base 34 1 v' (n + 1) (xs ++ [u]) → w.grownBy w' v.ownBlock → wpList Try.prog ops Q rest (a.put o.dst v') w') : wpList Try.prog ops Q (o :: rest) a w := by
  obtain ⟨i0, hi, hz0, hz1, hz2⟩ := info_partsQ info_sp
  refine wpList_append_own_at w hgd s x 36 ho base 34 i0 (.slice none 0 0) 1 24 Try.underlying36 hi hz0 hz1 hz2 rfl (by decide) v n xs hs hown ⟨X, 0, none⟩ 1 1 [u] hx rfl (fun j y hj => by
    match j, hj with
    | 0, hj => simp at hj; subst hj; simpa [Addr.add] using h0) (by intro y hy; simp at hy; subst hy; exact hu) (by simp only [maxLen]; omega) (by omega) hb ?_
  intro v' w' r1 r2 _ _
  exact h v' w' r1 r2
end



/-- Where the reference's outer loop stands. -/
def Eo (w1 : World) (p : Pn) (t : List Pr) (v nv : Value) (wr : World) : Prop :=
  ∃ (j : Nat) (vs : Nat → Value), j ≤ p.n ∧ nv = .int .i64 j ∧ Dl w1.heap.size wr v j vs (dealF p t) ∧ Below w1.heap.size w1 wr
/-- Where its inner loop stands. -/
def Ei (w3 : World) (p : Pn) (t : List Pr) (j : Nat) (lv iv : Value) (wr : World) : Prop :=
  ∃ i : Nat, i ≤ t.length ∧ iv = .int .i64 i ∧ wr.ownsRow w3.heap.size 43 3 lv (dealF p (t.take i) j).length (flatQ (dealF p (t.take i) j)) ∧ Below w3.heap.size w3 wr
theorem deal_in {p : Pn} {t : List Pr} {k j : Nat} (hk : k < t.length) (h : p.place t[k].k = j) : dealF p (t.take (k + 1)) j = dealF p (t.take k) j ++ [t[k]] := by
  rw [deal_step p t hk, h, setF_at]
theorem deal_out {p : Pn} {t : List Pr} {k j : Nat} (hk : k < t.length) (h : p.place t[k].k ≠ j) : dealF p (t.take (k + 1)) j = dealF p (t.take k) j := by
  rw [deal_step p t hk, setF_ne _ _ (fun e => h e.symm)]
theorem range_snoc (vs : Nat → Value) (j : Nat) (u : Value) : (List.range j).map vs ++ [u] = (List.range (j + 1)).map (setF vs j u) := by
  rw [List.range_succ, List.map_append, range_set]
  simp [setF_at]
  rw [List.set_eq_of_length_le (by simp)]
theorem Dl.snoc {B j : Nat} {w w9 : World} {v v9 u : Value} {vs : Nat → Value} {ls : Nat → List Pr} (h : Dl B w v j vs ls) (hu : w.ownsRow B 43 3 u (ls j).length (flatQ (ls j))) (h9 : w9.ownsRow B 34 1 v9 (j + 1) ((List.range j).map vs ++ [u])) (hg : w.grownBy w9 v.ownBlock) : Dl B w9 v9 (j + 1) (setF vs j u) ls := by
  refine ⟨by rw [← range_snoc]; exact h9, fun i hi => ?_⟩
  by_cases e : i = j
  · subst e
    rw [setF_at]
    exact hu.kept hg (own_ne hu h.row sp_ne)
  · rw [setF_ne _ _ e]
    exact (h.own i (by omega)).kept hg (own_ne (h.own i (by omega)) h.row sp_ne)


set_option maxRecDepth 20000 in
theorem rdeal_walk {p : Pn} {ov tv : Value} {t : List Pr} {w : World} (ho : Ov w ov p.l) (hq : Qv w tv t) (hsz : t.length * 24 ≤ 140737488355328) :
    Calls Try.prog 21 #[.agg #[.int .i64 p.P, .int .i64 p.S, .int .i64 p.W, ov, .int .i64 p.A, .int .i64 p.B, .int .i64 p.N, .int .i64 p.G], tv] w fun e w' => ∃ v vs, e = .returned v ∧ Dl w.heap.size w' v p.n vs (dealF p t) ∧ Below w.heap.size w w' := by
  have HO : Hid (Ov w ov p.l) := ho
  have HOK : Hid (okT t) := hq.2
  obtain ⟨ta, tc, rfl, hl, hql⟩ := hq.form
  have HQL : Hid (Ql w ta t) := hql
  have HSZ : Hid (t.length * 24 ≤ 140737488355328) := hsz
  have hli : (t.length : Int) ≤ 9223372036854775807 := by omega
  clear ho hq hl hql hsz
  obtain ⟨w1, hw1⟩ : ∃ w1, w1 = w.alloc (Obj.cells #[.int .i64 p.P, .int .i64 p.S, .int .i64 p.W, ov, .int .i64 p.A, .int .i64 p.B, .int .i64 p.N, .int .i64 p.G] 24) := ⟨_, rfl⟩
  have HB1 : Hid (Below w.heap.size w w1) := by rw [hw1]; exact below_alloc _ _
  have HX1 : Hid (Bx w1 w.heap.size p ov) := by rw [hw1]; exact box_new _ _ _
  have HXL : Hid (w.heap.size < w1.heap.size) := by show _ < _; rw [hw1]; simp
  have HST : Hid (Eo w1 p t (.slice (some ⟨w1.heap.size, 0, none⟩) 0 0) (.int .i64 0) (w1.alloc (.cells #[] 34))) :=
    ⟨0, fun _ => .slice none 0 0, Nat.zero_le _, rfl, ⟨World.ownsRow_made w1 #[] 0 (Nat.le_refl _) (by simp [maxLen]) rfl, fun i hi => by omega⟩, below_alloc _ _⟩
  go_enter Try.func21, Try.ntmps21
  go_upto_region 1 with (fail)
  rw [← hw1]
  have HW1 : Hid (w1 = w.alloc (Obj.cells #[.int .i64 p.P, .int .i64 p.S, .int .i64 p.W, ov, .int .i64 p.A, .int .i64 p.B, .int .i64 p.N, .int .i64 p.G] 24)) := hw1
  clear hw1
  go_wp2_with fail
  go_loopw [5, 6] (fun v nv wr => Eo w1 p t v nv wr) (fun _ nv _ => p.n - (intOf nv).toNat)
  case atStart => exact HST.out
  case round =>
    obtain ⟨j, vs, hj, rfl, hD, hBr⟩ := hrel
    have HDL : Hid (Dl w1.heap.size wr u5 j vs (dealF p t)) := hD
    have HBR : Hid (Below w1.heap.size w1 wr) := hBr
    have HWR : Hid (w1.heap.size ≤ wr.heap.size) := hBr.size
    obtain ⟨vo, vc, hv, _, _⟩ := row_form hD.row
    subst hv
    clear hD hBr HST
    obtain ⟨c0, c1, c2, c3, c4, c5, c6, c7⟩ := HX1.out.below HBR.out HXL.out
    by_cases hlt : j < p.n
    · have HLT : Hid (j < p.n) := hlt
      have hp : p.is = true := by
        cases h : p.is
        · unfold Pn.n at hlt; rw [h] at hlt; simp at hlt
        · rfl
      have HP : Hid (p.is = true) := hp
      have hpn : p.n = p.S.toNat := by unfold Pn.n; rw [hp]; rfl
      obtain ⟨_, ⟨s1, s2⟩, ⟨w1', w2'⟩, _⟩ := Pn.is_num hp
      have hj4 : j < 4 := by omega
      have hjS : (j : Int) < p.S := by omega
      have hc := Pn.chk_ok hp
      have HPN : Hid (p.n = p.S.toNat) := hpn
      clear hpn hlt
      go_wp2_with fail
      refine (rpcheck_walk ((HO.out.below HB1.out).below HBR.out)).mono ?_
      rw [hc]
      rintro e w3 ⟨rfl, hB3⟩
      have HR3 : Hid (Below wr.heap.size wr w3) := hB3
      have HB3 : Hid (Below w1.heap.size w1 w3) := HBR.out.trans (hB3.mono HWR.out)
      have HX3 : Hid (Bx w3 w.heap.size p ov) := HX1.out.below HB3.out HXL.out
      have HXL3 : Hid (w.heap.size < w3.heap.size) := Nat.lt_of_lt_of_le HXL.out HB3.out.size
      clear hB3 c0 c1 c2 c3 c4 c5 c6 c7
      obtain ⟨c0, c1, c2, c3, c4, c5, c6, c7⟩ := HX3.out
      have HSI : Hid (Ei w3 p t j (.slice (some ⟨w3.heap.size, 0, none⟩) 0 0) (.int .i64 0) (w3.alloc (.cells #[] 43))) :=
        ⟨0, Nat.zero_le _, rfl, World.ownsRow_made w3 #[] 0 (Nat.le_refl _) (by simp [maxLen]) rfl, below_alloc _ _⟩
      go_wp2_with fail
      go_loopw [7, 8] (fun lv iv wx => Ei w3 p t j lv iv wx) (fun _ iv _ => t.length - (intOf iv).toNat)
      case atStart => exact HSI.out
      case round =>
        clear c0 c1 c2 c3 c4 c5 c6 c7 HSI
        obtain ⟨i, hi, rfl, hO, hB4⟩ := hrel
        have HOL : Hid (wr.ownsRow w3.heap.size 43 3 u7 (dealF p (t.take i) j).length (flatQ (dealF p (t.take i) j))) := hO
        have HB4 : Hid (Below w3.heap.size w3 wr) := hB4
        have HW4 : Hid (w3.heap.size ≤ wr.heap.size) := hB4.size
        obtain ⟨lo, lc, hv, _, _⟩ := row_form hO
        subst hv
        clear hO hB4
        by_cases hlt2 : i < t.length
        · have d := ((HQL.out.below HB1.out).below HB3.out).below HB4.out i hlt2
          obtain ⟨b, off, hto, d0, d1, d2⟩ := d
          subst hto
          obtain ⟨q, hqe⟩ : ∃ q, q = t[i] := ⟨_, rfl⟩
          rw [← hqe] at d0 d1 d2
          have HQ : Hid (q = t[i]) := hqe
          clear hqe
          obtain ⟨r, hr⟩ : ∃ r, r = p.place q.k := ⟨_, rfl⟩
          have HR : Hid (r = p.place q.k) := hr
          have hr4 : r < 4 := by rw [hr]; exact (place_lt q.k hp).1
          have hm : (q.k : Int) % p.S = r := by
            rw [hr, show p.place q.k = q.k % p.S.toNat from rfl, show p.S = ((p.S.toNat : Nat) : Int) by omega]
            simp
          have hm' : (q.k : Int).tmod p.S = r := by rw [Int.tmod_eq_emod_of_nonneg (by omega)]; exact hm
          have hwS : IntKind.u64.wrap p.S = p.S := by rw [IntKind.wrap_u64]; omega
          have hwj : IntKind.u64.wrap (j : Int) = j := by rw [IntKind.wrap_u64]; omega
          have hw0 : ¬ p.S = 0 := by omega
          clear hr
          have HX4 : Hid (Bx wr w.heap.size p ov) := HX3.out.below HB4.out HXL3.out
          have HXL4 : Hid (w.heap.size < wr.heap.size) := Nat.lt_of_lt_of_le HXL3.out HW4.out
          have k0 : ∀ wx, Below wr.heap.size wr wx → wx.cell? ⟨b, off + i * 3, none⟩ = some (.int .u64 q.k) := fun wx h => by rw [h.cell (p := ⟨b, off + i * 3, none⟩) (cell_lt d0)]; exact d0
          have k1 := fun wx h => (HX4.out.all HXL4.out wx h).c1
          by_cases hrj : r = j
          · have heq : ((r : Int) == (j : Int)) = true := by simp [hrj]
            have HRJ : Hid (r = j) := hrj
            clear hrj
            go_wp2_with fail
            refine wp_region_noPanic ?_
            refine wp_region_held_drew (S := fun wx => Below wr.heap.size wr wx) (by kernel_rfl) ?_ (fun hHeld => ?_)
            · exact below_drw _
            refine wpAnyH_take (i := 0) (oi := ⟨some 28, _, _, _, _, _⟩) (v := ?_) rfl (by kernel_rfl) (by kernel_rfl) (by kernel_rfl) (fun _ _ _ h => h) (Or.inl ⟨by rfl, ?_⟩) hHeld ?_
            rotate_left
            · intro w hSw; (try dsimp only at hSw); go_simp; all_goals (with_reducible rfl)
            try simp only [Act.put, List.setIfInBounds_toArray, List.set_cons_zero, List.set_cons_succ]
            refine wpAnyH_take (i := 1) (oi := ⟨some 29, _, _, _, _, _⟩) (v := ?_) rfl (by kernel_rfl) (by kernel_rfl) (by kernel_rfl) (fun _ _ _ h => h) (Or.inl ⟨by rfl, ?_⟩) hHeld ?_
            rotate_left
            · intro w hSw; (try dsimp only at hSw); go_simp; all_goals (with_reducible rfl)
            try simp only [Act.put, List.setIfInBounds_toArray, List.set_cons_zero, List.set_cons_succ]
            refine wpAnyH_take (i := 2) (oi := ⟨some 30, _, _, _, _, _⟩) (v := ?_) rfl (by kernel_rfl) (by kernel_rfl) (by kernel_rfl) (fun _ _ _ h => h) (Or.inl ⟨by rfl, ?_⟩) hHeld ?_
            rotate_left
            · intro w hSw; (try dsimp only at hSw); go_simp; all_goals (with_reducible rfl)
            try simp only [Act.put, List.setIfInBounds_toArray, List.set_cons_zero, List.set_cons_succ]
            refine wpAnyH_take (i := 3) (oi := ⟨some 31, _, _, _, _, _⟩) (v := ?_) rfl (by kernel_rfl) (by kernel_rfl) (by kernel_rfl) (fun _ _ _ h => h) (Or.inl ⟨by rfl, ?_⟩) hHeld ?_
            rotate_left
            · intro w hSw; (try dsimp only at hSw); go_simp; all_goals (with_reducible rfl)
            try simp only [Act.put, List.setIfInBounds_toArray, List.set_cons_zero, List.set_cons_succ]
            refine wpAnyH_take (i := 4) (oi := ⟨some 32, _, _, _, _, _⟩) (v := ?_) rfl (by kernel_rfl) (by kernel_rfl) (by kernel_rfl) (fun _ _ _ h => h) (Or.inl ⟨by rfl, ?_⟩) hHeld ?_
            rotate_left
            · intro w hSw; (try dsimp only at hSw); go_simp; all_goals (with_reducible rfl)
            try simp only [Act.put, List.setIfInBounds_toArray, List.set_cons_zero, List.set_cons_succ]
            refine wpAnyH_take (i := 5) (oi := ⟨some 33, _, _, _, _, _⟩) (v := ?_) rfl (by kernel_rfl) (by kernel_rfl) (by kernel_rfl) (fun _ _ _ h => h) (Or.inl ⟨by rfl, ?_⟩) hHeld ?_
            rotate_left
            · intro w hSw; (try dsimp only at hSw); go_simp; all_goals (with_reducible rfl)
            try simp only [Act.put, List.setIfInBounds_toArray, List.set_cons_zero, List.set_cons_succ]
            refine wpAnyH_take (i := 6) (oi := ⟨some 34, _, _, _, _, _⟩) (v := ?_) rfl (by kernel_rfl) (by kernel_rfl) (by kernel_rfl) (fun _ _ _ h => h) (Or.inl ⟨by rfl, ?_⟩) hHeld ?_
            rotate_left
            · intro w hSw; (try dsimp only at hSw); go_simp; all_goals (with_reducible rfl)
            try simp only [Act.put, List.setIfInBounds_toArray, List.set_cons_zero, List.set_cons_succ]
            refine wpAnyH_take (i := 7) (oi := ⟨some 35, _, _, _, _, _⟩) (v := ?_) rfl (by kernel_rfl) (by kernel_rfl) (by kernel_rfl) (fun _ _ _ h => h) (Or.inl ⟨by rfl, ?_⟩) hHeld ?_
            rotate_left
            · intro w hSw; (try dsimp only at hSw); go_simp; all_goals (with_reducible rfl)
            try simp only [Act.put, List.setIfInBounds_toArray, List.set_cons_zero, List.set_cons_succ]
            refine wpAnyH_take (i := 8) (oi := ⟨some 36, _, _, _, _, _⟩) (v := ?_) rfl (by kernel_rfl) (by kernel_rfl) (by kernel_rfl) (fun _ _ _ h => h) (Or.inl ⟨by rfl, ?_⟩) hHeld ?_
            rotate_left
            · intro w hSw; (try dsimp only at hSw); go_simp; all_goals (with_reducible rfl)
            try simp only [Act.put, List.setIfInBounds_toArray, List.set_cons_zero, List.set_cons_succ]
            refine wpAnyH_take (i := 9) (oi := ⟨some 37, _, _, _, _, _⟩) (v := ?_) rfl (by kernel_rfl) (by kernel_rfl) (by kernel_rfl) (fun _ _ _ h => h) (Or.inl ⟨by rfl, ?_⟩) hHeld ?_
            rotate_left
            · intro w hSw; (try dsimp only at hSw); go_simp; all_goals (with_reducible rfl)
            try simp only [Act.put, List.setIfInBounds_toArray, List.set_cons_zero, List.set_cons_succ]
            refine wpAnyH_take (i := 10) (oi := ⟨some 38, _, _, _, _, _⟩) (v := ?_) rfl (by kernel_rfl) (by kernel_rfl) (by kernel_rfl) (fun _ _ _ h => h) (Or.inl ⟨by rfl, ?_⟩) hHeld ?_
            rotate_left
            · intro w hSw; (try dsimp only at hSw); go_simp; all_goals (with_reducible rfl)
            try simp only [Act.put, List.setIfInBounds_toArray, List.set_cons_zero, List.set_cons_succ]
            refine wpAnyH_take (i := 11) (oi := ⟨some 39, _, _, _, _, _⟩) (v := ?_) rfl (by kernel_rfl) (by kernel_rfl) (by kernel_rfl) (fun _ _ _ h => h) (Or.inl ⟨by rfl, ?_⟩) hHeld ?_
            rotate_left
            · intro w hSw; (try dsimp only at hSw); go_simp; all_goals (with_reducible rfl)
            try simp only [Act.put, List.setIfInBounds_toArray, List.set_cons_zero, List.set_cons_succ]
            refine wpAnyH_done (by kernel_rfl) ?_ _
            refine NoPanic.normal ?_
            have HH : Hid (Below wr.heap.size wr wr.drew) := hHeld
            have HOL5 : Hid (wr.drew.ownsRow w3.heap.size 43 3 (.slice lo (dealF p (t.take i) j).length lc) (dealF p (t.take i) j).length (flatQ (dealF p (t.take i) j))) := HOL.out
            have HBD : Hid (((dealF p (t.take i) j).length + 1) * 24 ≤ 140737488355328) := by
              show _ ≤ _
              have h1 := deal_len p (t.take i) j
              have h2 : (dealF p (t.take i) j).length + 1 ≤ t.length := by rw [List.length_take] at h1; omega
              exact Nat.le_trans (Nat.mul_le_mul_right 24 h2) HSZ.out
            clear hHeld k0 k1
            go_wp2_with (at_builtin; refine app_pr rfl (.tmp 40) (.tmp 45) rfl (.slice lo (dealF p (t.take i) j).length lc) (dealF p (t.take i) j) (by rfl) (HOL5.out.alloc _) wr.heap.size q (by rfl) (by simp [go_sem]) (by simp [go_sem]) (by simp [go_sem]) HBD.out (by have := HW4.out; simp; omega) ?_; intro v9 w9 hown9 hg9 _)
            obtain ⟨v9o, v9c, hv9, _, _⟩ := row_form hown9
            subst hv9
            have HRI : Hid (Ei w3 p t j (.slice v9o ((dealF p (t.take i) j).length + 1) v9c) (.int .i64 ((i : Int) + 1)) w9) := by
              refine ⟨i + 1, hlt2, by simp, ?_, ?_⟩
              · rw [deal_in hlt2 (by rw [← HQ.out, ← HR.out]; exact HRJ.out), List.length_append, ← HQ.out]
                exact hown9
              · have h8 : Below w3.heap.size w3 (wr.drew.alloc (Obj.cells #[.int .u64 q.k, .bool q.v.h, .int .u64 q.v.b] 43)) := HB4.out.trans ((below_trans (below_drw _) (below_alloc _ _)).mono HW4.out)
                exact h8.grown hg9 h8.size (fun x hx => (HOL.out.lt x hx).1)
            clear hown9 hg9
            go_wp2_with fail
            go_roundw
            case rel => exact HRI.out
            case measure => simp [intOf]; omega
          · have heq : ((r : Int) == (j : Int)) = false := by rw [beq_eq_false_iff_ne]; omega
            have HRJ : Hid (r ≠ j) := hrj
            clear hrj
            go_wp2_with fail
            refine wp_region_noPanic ?_
            refine wp_region_held_drew (S := fun wx => Below wr.heap.size wr wx) (by kernel_rfl) ?_ (fun hHeld => ?_)
            · exact below_drw _
            refine wpAnyH_take (i := 0) (oi := ⟨some 28, _, _, _, _, _⟩) (v := ?_) rfl (by kernel_rfl) (by kernel_rfl) (by kernel_rfl) (fun _ _ _ h => h) (Or.inl ⟨by rfl, ?_⟩) hHeld ?_
            rotate_left
            · intro w hSw; (try dsimp only at hSw); go_simp; all_goals (with_reducible rfl)
            try simp only [Act.put, List.setIfInBounds_toArray, List.set_cons_zero, List.set_cons_succ]
            refine wpAnyH_take (i := 1) (oi := ⟨some 29, _, _, _, _, _⟩) (v := ?_) rfl (by kernel_rfl) (by kernel_rfl) (by kernel_rfl) (fun _ _ _ h => h) (Or.inl ⟨by rfl, ?_⟩) hHeld ?_
            rotate_left
            · intro w hSw; (try dsimp only at hSw); go_simp; all_goals (with_reducible rfl)
            try simp only [Act.put, List.setIfInBounds_toArray, List.set_cons_zero, List.set_cons_succ]
            refine wpAnyH_take (i := 2) (oi := ⟨some 30, _, _, _, _, _⟩) (v := ?_) rfl (by kernel_rfl) (by kernel_rfl) (by kernel_rfl) (fun _ _ _ h => h) (Or.inl ⟨by rfl, ?_⟩) hHeld ?_
            rotate_left
            · intro w hSw; (try dsimp only at hSw); go_simp; all_goals (with_reducible rfl)
            try simp only [Act.put, List.setIfInBounds_toArray, List.set_cons_zero, List.set_cons_succ]
            refine wpAnyH_take (i := 3) (oi := ⟨some 31, _, _, _, _, _⟩) (v := ?_) rfl (by kernel_rfl) (by kernel_rfl) (by kernel_rfl) (fun _ _ _ h => h) (Or.inl ⟨by rfl, ?_⟩) hHeld ?_
            rotate_left
            · intro w hSw; (try dsimp only at hSw); go_simp; all_goals (with_reducible rfl)
            try simp only [Act.put, List.setIfInBounds_toArray, List.set_cons_zero, List.set_cons_succ]
            refine wpAnyH_take (i := 4) (oi := ⟨some 32, _, _, _, _, _⟩) (v := ?_) rfl (by kernel_rfl) (by kernel_rfl) (by kernel_rfl) (fun _ _ _ h => h) (Or.inl ⟨by rfl, ?_⟩) hHeld ?_
            rotate_left
            · intro w hSw; (try dsimp only at hSw); go_simp; all_goals (with_reducible rfl)
            try simp only [Act.put, List.setIfInBounds_toArray, List.set_cons_zero, List.set_cons_succ]
            refine wpAnyH_take (i := 5) (oi := ⟨some 33, _, _, _, _, _⟩) (v := ?_) rfl (by kernel_rfl) (by kernel_rfl) (by kernel_rfl) (fun _ _ _ h => h) (Or.inl ⟨by rfl, ?_⟩) hHeld ?_
            rotate_left
            · intro w hSw; (try dsimp only at hSw); go_simp; all_goals (with_reducible rfl)
            try simp only [Act.put, List.setIfInBounds_toArray, List.set_cons_zero, List.set_cons_succ]
            refine wpAnyH_take (i := 6) (oi := ⟨some 34, _, _, _, _, _⟩) (v := ?_) rfl (by kernel_rfl) (by kernel_rfl) (by kernel_rfl) (fun _ _ _ h => h) (Or.inl ⟨by rfl, ?_⟩) hHeld ?_
            rotate_left
            · intro w hSw; (try dsimp only at hSw); go_simp; all_goals (with_reducible rfl)
            try simp only [Act.put, List.setIfInBounds_toArray, List.set_cons_zero, List.set_cons_succ]
            refine wpAnyH_take (i := 7) (oi := ⟨some 35, _, _, _, _, _⟩) (v := ?_) rfl (by kernel_rfl) (by kernel_rfl) (by kernel_rfl) (fun _ _ _ h => h) (Or.inl ⟨by rfl, ?_⟩) hHeld ?_
            rotate_left
            · intro w hSw; (try dsimp only at hSw); go_simp; all_goals (with_reducible rfl)
            try simp only [Act.put, List.setIfInBounds_toArray, List.set_cons_zero, List.set_cons_succ]
            refine wpAnyH_take (i := 8) (oi := ⟨some 36, _, _, _, _, _⟩) (v := ?_) rfl (by kernel_rfl) (by kernel_rfl) (by kernel_rfl) (fun _ _ _ h => h) (Or.inl ⟨by rfl, ?_⟩) hHeld ?_
            rotate_left
            · intro w hSw; (try dsimp only at hSw); go_simp; all_goals (with_reducible rfl)
            try simp only [Act.put, List.setIfInBounds_toArray, List.set_cons_zero, List.set_cons_succ]
            refine wpAnyH_take (i := 9) (oi := ⟨some 37, _, _, _, _, _⟩) (v := ?_) rfl (by kernel_rfl) (by kernel_rfl) (by kernel_rfl) (fun _ _ _ h => h) (Or.inl ⟨by rfl, ?_⟩) hHeld ?_
            rotate_left
            · intro w hSw; (try dsimp only at hSw); go_simp; all_goals (with_reducible rfl)
            try simp only [Act.put, List.setIfInBounds_toArray, List.set_cons_zero, List.set_cons_succ]
            refine wpAnyH_take (i := 10) (oi := ⟨some 38, _, _, _, _, _⟩) (v := ?_) rfl (by kernel_rfl) (by kernel_rfl) (by kernel_rfl) (fun _ _ _ h => h) (Or.inl ⟨by rfl, ?_⟩) hHeld ?_
            rotate_left
            · intro w hSw; (try dsimp only at hSw); go_simp; all_goals (with_reducible rfl)
            try simp only [Act.put, List.setIfInBounds_toArray, List.set_cons_zero, List.set_cons_succ]
            refine wpAnyH_take (i := 11) (oi := ⟨some 39, _, _, _, _, _⟩) (v := ?_) rfl (by kernel_rfl) (by kernel_rfl) (by kernel_rfl) (fun _ _ _ h => h) (Or.inl ⟨by rfl, ?_⟩) hHeld ?_
            rotate_left
            · intro w hSw; (try dsimp only at hSw); go_simp; all_goals (with_reducible rfl)
            try simp only [Act.put, List.setIfInBounds_toArray, List.set_cons_zero, List.set_cons_succ]
            refine wpAnyH_done (by kernel_rfl) ?_ _
            refine NoPanic.normal ?_
            have HRI : Hid (Ei w3 p t j (.slice lo (dealF p (t.take i) j).length lc) (.int .i64 ((i : Int) + 1)) wr.drew) := by
              refine ⟨i + 1, hlt2, by simp, ?_, HB4.out.trans ((below_drw _).mono HW4.out)⟩
              rw [deal_out hlt2 (by rw [← HQ.out, ← HR.out]; exact HRJ.out)]
              exact HOL.out
            clear hHeld k0 k1
            go_wp2_with fail
            go_roundw
            case rel => exact HRI.out
            case measure => simp [intOf]; omega
        · obtain rfl : i = t.length := by omega
          have HOT : Hid (wr.ownsRow w3.heap.size 43 3 (.slice lo (dealF p t j).length lc) (dealF p t j).length (flatQ (dealF p t j))) := by
            have h := HOL.out
            rw [List.take_length] at h
            exact h
          have HD9 : Hid (Dl w1.heap.size (wr.alloc (Obj.cells #[.slice lo (dealF p t j).length lc] 34)) (.slice vo j vc) j vs (dealF p t)) := ((HDL.out.below HR3.out).below HB4.out).below (below_alloc _ _)
          have HB9 : Hid (Below w1.heap.size w1 (wr.alloc (Obj.cells #[.slice lo (dealF p t j).length lc] 34))) := HB3.out.trans ((HB4.out.trans ((below_alloc _ _).mono HW4.out)).mono HB3.out.size)
          go_wp2_with (at_builtin; refine app_sp rfl (.tmp 47) (.tmp 49) rfl (.slice vo j vc) j _ (by rfl) HD9.out.row wr.heap.size (.slice lo (dealF p t j).length lc) rfl (by rfl) (by simp [go_sem]) (by omega) HB9.out.size ?_; intro v9 w9 hown9 hg9)
          obtain ⟨v9o, v9c, hv9, _, _⟩ := row_form hown9
          subst hv9
          have HRO : Hid (Eo w1 p t (.slice v9o (j + 1) v9c) (.int .i64 ((j : Int) + 1)) w9) := by
            refine ⟨j + 1, _, HLT.out, by simp, HD9.out.snoc (u := .slice lo (dealF p t j).length lc) ?_ hown9 hg9, ?_⟩
            · exact own_base (HOT.out.alloc _) HB3.out.size
            · exact HB9.out.grown hg9 HB9.out.size (fun x hx => (HD9.out.row.lt x hx).1)
          clear hown9 hg9
          go_wp2_with fail
          go_roundw
          case rel => exact HRO.out
          case measure => have := HLT.out; simp [intOf]; omega
    · obtain rfl : j = p.n := by omega
      cases hp : p.is
      · have hc := Pn.chk_no hp
        have hc1 : ¬ p.chk = 0 := by simpa using hc
        go_wp2_with fail
        refine (rpcheck_walk ((HO.out.below HB1.out).below HBR.out)).mono ?_
        rintro e w3 ⟨rfl, hB3⟩
        go_wp2_with fail
        go_ret
        have hD := HDL.out.below hB3
        exact ⟨_, vs, rfl, ⟨own_base hD.row HB1.out.size, fun i hi => own_base (hD.own i hi) HB1.out.size⟩, HB1.out.trans ((HBR.out.trans (hB3.mono HWR.out)).mono HB1.out.size)⟩
      · have hc := Pn.chk_ok hp
        have hpn : p.n = p.S.toNat := by unfold Pn.n; rw [hp]; rfl
        obtain ⟨_, ⟨s1, s2⟩, ⟨w1', w2'⟩, _⟩ := Pn.is_num hp
        have hjS : ¬ (p.n : Int) < p.S := by omega
        have HPN : Hid (p.n = p.S.toNat) := hpn
        clear hpn hlt
        go_wp2_with fail
        refine (rpcheck_walk ((HO.out.below HB1.out).below HBR.out)).mono ?_
        rw [hc]
        rintro e w3 ⟨rfl, hB3⟩
        clear c0 c1 c2 c3 c4 c5 c6 c7
        obtain ⟨c0, c1, c2, c3, c4, c5, c6, c7⟩ := HX1.out.below (HBR.out.trans (hB3.mono HWR.out)) HXL.out
        go_wp2_with fail
        go_ret
        have hD := HDL.out.below hB3
        exact ⟨_, vs, rfl, ⟨own_base hD.row HB1.out.size, fun i hi => own_base (hD.own i hi) HB1.out.size⟩, HB1.out.trans ((HBR.out.trans (hB3.mono HWR.out)).mono HB1.out.size)⟩
end Go.Proofs.Ytlblpjookbomjaa


