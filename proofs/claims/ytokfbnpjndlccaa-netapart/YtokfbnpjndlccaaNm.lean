/- The walk of NetApart. -/
import Derived.Test.YtokfbnpjndlccaaNl

namespace Go.Proofs.Ytokfbnpjndlccaa

open Go.RowKit



/-- While a script runs: one net and another that nobody asks. -/
structure Ap (w : World) (P b P2 b2 : Nat) (i : Nat) (wr : World) : Prop where
  a : ∃ nx L, Nt wr P b 9 nx L ∧ nx ≤ i
  b : Nt wr P2 b2 9 0 []
  w : Below w.heap.size w wr
theorem Ap.step {w wr w' : World} {P b P2 b2 i nx : Nat} (h : Ap w P b P2 b2 i wr) (hd : P2 ≠ P ∧ P2 ≠ b ∧ b2 ≠ P ∧ b2 ≠ b) (hl : w.heap.size ≤ P ∧ w.heap.size ≤ b) (hn : nx ≤ i) {e : Ending} (hg : NyGot wr P b 9 nx e w') : Ap w P b P2 b2 (i + 1) w' := by
  obtain ⟨v, nx', L', _, h1, h2, h3⟩ := hg
  refine ⟨⟨nx', L', h1, by omega⟩, h.b.ch h3 (fun x hx => ?_), h.w.trans (h3.to_below h.w.size (fun x hx => by omega))⟩
  intro hk
  rcases hk with hk | hk | ⟨y, hy, _⟩
  · omega
  · omega
  · simp at hy
theorem Ap.same {w wr w' : World} {P b P2 b2 i : Nat} (h : Ap w P b P2 b2 i wr) (hb : Below wr.heap.size wr w') : Ap w P b P2 b2 (i + 1) w' := by
  obtain ⟨nx, L, h1, h2⟩ := h.a
  exact ⟨⟨nx, L, h1.below hb, by omega⟩, h.b.below hb, below_trans h.w hb⟩


set_option maxRecDepth 100000 in
set_option maxHeartbeats 8000000 in
theorem netapart_walk {w : World} {v : Value} {l : List Oq} (hs : Sc w v l) : Calls Try.prog 6 #[v] w fun e w' => e = .returned (.bool true) ∧ Below w.heap.size w w' := by
  have HS : Hid (Sc w v l) := hs
  obtain ⟨so, sc, rfl, hsl, _⟩ := hs.form
  have hll : (l.length : Int) ≤ 9223372036854775807 := by unfold maxLen at hsl; omega
  clear hs hsl
  go_enter Try.func6, Try.ntmps6
  go_wp2_with fail
  refine (awake_walk _).mono ?_
  rintro e w1 ⟨rfl, hB⟩
  have HB1 : Hid (Below w.heap.size w w1) := hB
  clear hB
  go_wp2_with fail
  refine (new_walk (k := 9) (by decide) w1).mono ?_
  rintro e w2 ⟨P, b, rfl, hn, hP, hb, hB⟩
  have HN2 : Hid (Nt w2 P b 9 0 []) := hn
  have HB2 : Hid (Below w.heap.size w w2) := below_trans HB1.out hB
  have HP : Hid (w.heap.size ≤ P ∧ w.heap.size ≤ b) := by have := HB1.out.size; exact ⟨by omega, by omega⟩
  clear hn hP hb hB
  go_wp2_with fail
  refine (new_walk (k := 9) (by decide) w2).mono ?_
  rintro e w3 ⟨P2, b2, rfl, hn, hP, hb, hB⟩
  have HN3 : Hid (Nt w3 P2 b2 9 0 []) := hn
  have HB3 : Hid (Below w.heap.size w w3) := below_trans HB2.out hB
  have HD : Hid (P2 ≠ P ∧ P2 ≠ b ∧ b2 ≠ P ∧ b2 ≠ b) := by have h1 := HN2.out.ltP; have h2 := HN2.out.ltb; exact ⟨by omega, by omega, by omega, by omega⟩
  have HP2 : Hid (w.heap.size ≤ P2 ∧ w.heap.size ≤ b2) := by have := HB2.out.size; exact ⟨by omega, by omega⟩
  have HI : Hid (Ap w P b P2 b2 0 w3) := ⟨⟨0, [], HN2.out.below hB, Nat.le_refl _⟩, HN3.out, HB3.out⟩
  clear hn hP hb hB HN2 HN3 HB1 HB2 HB3
  go_upto_region 8 with fail
  go_loopw [7] (fun iv wr => ∃ i : Nat, iv = .int .i64 i ∧ i ≤ l.length ∧ i ≤ 2000 ∧ Ap w P b P2 b2 i wr) (fun iv _ => l.length - (intOf iv).toNat)
  case atStart => exact ⟨0, rfl, Nat.zero_le _, Nat.zero_le _, HI.out⟩
  case round =>
    obtain ⟨i, rfl, hil, hi2, hap⟩ := hrel
    have HA : Hid (Ap w P b P2 b2 i wr) := hap
    have HI2 : Hid (i ≤ 2000) := hi2
    clear hap HI
    by_cases hlt : i < l.length ∧ i < 2000
    · have hlti : (i : Int) < (l.length : Int) := by omega
      have hlt2 : (i : Int) < 2000 := by omega
      have HLT : Hid (i < l.length ∧ i < 2000) := hlt
      obtain ⟨sb, soff, rfl, hox⟩ := sc_at (HS.out.below HA.out.w) hlt.1
      have hml := (HS.out.below HA.out.w).ml l[i] (List.getElem_mem _)
      have hok := HS.out.ok l[i] (List.getElem_mem _)
      obtain ⟨x, hx⟩ : ∃ x, x = l[i] := ⟨_, rfl⟩
      have hox' : Ox wr sb (soff + i * 12) x := by rw [hx]; exact hox
      have HML : Hid (ML wr x.m x.e x.q x.p) := by rw [hx]; exact hml
      have HOK : Hid (x.ok) := by rw [hx]; exact hok
      clear hml hok hox hx hlt hil hi2
      obtain ⟨ea, en, ec, qa, qn, qc, pa, pn, pc, e1, e2, e3⟩ := ml_form HML.out
      obtain ⟨c0, c1, c2, m0, m1, m2, m3, m4, m5, m6, m7, m8⟩ := hox'
      rw [e1] at m6
      rw [e2] at m7
      rw [e3] at m8
      rw [e1, e2, e3] at HML
      clear e1 e2 e3
      obtain ⟨nx, L, hnt, hnx⟩ := HA.out.a
      have HNT : Hid _ := hnt
      clear hnt
      by_cases hk1 : x.c = 1
      · have hkk : (x.c == 1) = true := by simp [hk1]
        go_wp2_with fail
        refine (send_any HNT.out HML.out HOK.out.m (by have := HI2.out; omega)).mono ?_
        intro e w4 hg
        have HG : Hid (NyGot wr P b 9 nx e w4) := hg
        obtain ⟨u, _, _, rfl, _⟩ := hg
        go_wp2_with fail
        go_roundw
        case rel => exact ⟨i + 1, by go_num, HLT.out.1, HLT.out.2, HA.out.step HD.out HP.out hnx HG.out⟩
        case measure => have := HLT.out; simp [intOf]; omega
      have hf1 : (x.c == 1) = false := by simp [hk1]
      by_cases hk2 : x.c = 2
      · have hkk : (x.c == 2) = true := by simp [hk2]
        go_wp2_with fail
        refine (deliver_any HNT.out HOK.out.k).mono ?_
        intro e w4 hg
        have HG : Hid (NyGot wr P b 9 nx e w4) := hg
        obtain ⟨u, _, _, rfl, _⟩ := hg
        go_wp2_with fail
        go_roundw
        case rel => exact ⟨i + 1, by go_num, HLT.out.1, HLT.out.2, HA.out.step HD.out HP.out hnx HG.out⟩
        case measure => have := HLT.out; simp [intOf]; omega
      have hf2 : (x.c == 2) = false := by simp [hk2]
      by_cases hk4 : x.c = 4
      · have hkk : (x.c == 4) = true := by simp [hk4]
        go_wp2_with fail
        refine (copy_any HNT.out HOK.out.k (by have := HI2.out; omega)).mono ?_
        intro e w4 hg
        have HG : Hid (NyGot wr P b 9 nx e w4) := hg
        obtain ⟨u, _, _, rfl, _⟩ := hg
        go_wp2_with fail
        go_roundw
        case rel => exact ⟨i + 1, by go_num, HLT.out.1, HLT.out.2, HA.out.step HD.out HP.out hnx HG.out⟩
        case measure => have := HLT.out; simp [intOf]; omega
      have hf4 : (x.c == 4) = false := by simp [hk4]
      go_wp2_with fail
      go_roundw
      case rel => exact ⟨i + 1, by go_num, HLT.out.1, HLT.out.2, HA.out.same (Below.refl _ _)⟩
      case measure => have := HLT.out; simp [intOf]; omega
    · have HOUT : Hid (¬ (i < l.length ∧ i < 2000)) := hlt
      clear hlt hil hi2
      obtain ⟨wo, hwo⟩ : ∃ wo, wo = wr := ⟨_, rfl⟩
      rw [← hwo] at HA ⊢
      clear hwo
      by_cases hlt1 : i < l.length
      · have hlti : (i : Int) < (l.length : Int) := by omega
        have hlt2 : ¬ (i : Int) < 2000 := by have := HOUT.out; omega
        go_upto_region 17 with fail
        clear hlti hlt2 hlt1 hll
        have HNo : Hid _ := HA.out.b
        have HBo : Hid _ := HA.out.w
        clear HA
        go_wp2_with fail
        refine (next_walk HNo.out).mono ?_
        rintro e w5 ⟨rfl, hw⟩
        rw [← hw] at HNo HBo
        clear hw
        go_wp2_with fail
        refine (flights_walk HNo.out (by omega)).mono ?_
        rintro e w6 ⟨v6, F, rfl, hfr, hnm, hB⟩
        have hF : F = [] := by have h := congrArg List.length hnm; simp at h; exact h
        subst hF
        obtain ⟨va, vc, rfl⟩ := own_formN hfr.own
        have HN6 : Hid _ := HNo.out.below hB
        have HB6 : Hid (Below w.heap.size w w6) := below_trans HBo.out hB
        clear hfr hnm hB HNo HBo
        rw [List.length_nil]
        go_wp2_with fail
        refine (laid_walk 5 _).mono ?_
        rintro e w7 ⟨rfl, hB⟩
        have HN7 : Hid _ := HN6.out.below hB
        have HB7 : Hid (Below w.heap.size w w7) := below_trans HB6.out hB
        clear hB HN6 HB6
        go_wp2_with fail
        refine (send_walk (m := lm 5) HN7.out (lm_ml _ _) (lm_ok (in64_s (by decide) (by decide))) (by omega)).mono ?_
        rintro e w8 (⟨hs, _⟩ | ⟨_, ⟨hl, _⟩ | ⟨_, rfl, x1, hxn, hxm, hn, hxl, hc⟩⟩)
        · rw [lm_snd (by decide) (by decide)] at hs; cases hs
        · simp at hl
        have HN8 : Hid (Nt w8 P2 b2 9 1 [x1]) := hn
        have HB8 : Hid (Below w.heap.size w w8) := HB7.out.trans (hc.to_below HB7.out.size (fun x hx => by have := HP2.out; omega))
        clear hn hc hxl HN7 HB7
        go_wp2_with fail
        have hE1 : Hid (Eo w8 x1) := HN8.out.ent x1 (by simp)
        refine (deliver_in HN8.out (in64_s (by decide) (by decide)) (at_first (by rw [hxn]; rfl))).mono ?_
        rintro e w9 ⟨he, hn, hc⟩
        obtain ⟨ea, en, ec, qa, qn, qc, pa, pn, pc, e1, e2, e3⟩ := en_form hE1.out
        have HE9 : Hid (Eo w9 x1) := hE1.out.ch hc (fun y h1 _ e => by have := (HN8.out.off x1 (by simp)).2; omega)
        have HL9 : Hid (ML w9 (lm 5) (.slice ea en ec) (.slice qa qn qc) (.slice pa pn pc)) := by have h := HE9.out.mo.l; rw [e1, e2, e3, hxm] at h; exact h
        have hv : mvE x1 = .agg #[.int .i64 5, .int .i64 3, .int .i64 1, .int .i64 5, .int .i64 1, .int .i64 0, .slice ea en ec, .slice qa qn qc, .slice pa pn pc] := by unfold mvE; rw [e1, e2, e3, hxm]; rfl
        rw [hv] at he
        subst he
        have HB9 : Hid (Below w.heap.size w w9) := HB8.out.trans (hc.to_below HB8.out.size (fun x hx => by have := HP2.out; omega))
        clear hn hc hE1 HE9 e1 e2 e3 hv HN8 hxn hxm HB8
        go_upto_region 21 with fail
        have HX : Hid (MX (w9.alloc (Obj.cells #[.int .i64 5, .int .i64 3, .int .i64 1, .int .i64 5, .int .i64 1, .int .i64 0, .slice ea en ec, .slice qa qn qc, .slice pa pn pc] 35)) w9.heap.size (lm 5) (.slice ea en ec) (.slice qa qn qc) (.slice pa pn pc)) := mx_new w9 (lm 5) (.slice ea en ec) (.slice qa qn qc) (.slice pa pn pc)
        have HBA : Hid _ := below_alloc w9 (Obj.cells #[.int .i64 5, .int .i64 3, .int .i64 1, .int .i64 5, .int .i64 1, .int .i64 0, .slice ea en ec, .slice qa qn qc, .slice pa pn pc] 35)
        obtain ⟨X, hX⟩ : ∃ X, X = w9.heap.size := ⟨_, rfl⟩
        rw [← hX] at HX ⊢
        clear hX
        generalize w9.alloc (Obj.cells #[.int .i64 5, .int .i64 3, .int .i64 1, .int .i64 5, .int .i64 1, .int .i64 0, .slice ea en ec, .slice qa qn qc, .slice pa pn pc] 35) = w10 at HX HBA ⊢
        have HB10 : Hid (Below w.heap.size w w10) := below_trans HB9.out HBA.out
        have HL10 : Hid _ := HL9.out.below HBA.out
        have HSF : Hid (∀ wx, Below w10.heap.size w10 wx → wx.cell? ⟨X, 0, none⟩ = some (.int .i64 5) ∧ wx.cell? ⟨X, 1, none⟩ = some (.int .i64 3) ∧ wx.cell? ⟨X, 2, none⟩ = some (.int .i64 1) ∧ wx.cell? ⟨X, 3, none⟩ = some (.int .i64 5) ∧ wx.cell? ⟨X, 4, none⟩ = some (.int .i64 1) ∧ wx.cell? ⟨X, 5, none⟩ = some (.int .i64 0) ∧ wx.cell? ⟨X, 6, none⟩ = some (.slice ea en ec) ∧ wx.cell? ⟨X, 7, none⟩ = some (.slice qa qn qc) ∧ wx.cell? ⟨X, 8, none⟩ = some (.slice pa pn pc)) := fun wx h => by have k := HX.out.keep h; exact ⟨k.c0, k.c1, k.c2, k.c3, k.c4, k.c5, k.c6, k.c7, k.c8⟩
        clear HB9 HL9 HBA
        refine wp_region_noPanic ?_
        refine wp_region_held_drew (S := fun wx => wx.cell? ⟨X, 0, none⟩ = some (.int .i64 5) ∧ wx.cell? ⟨X, 1, none⟩ = some (.int .i64 3) ∧ wx.cell? ⟨X, 2, none⟩ = some (.int .i64 1) ∧ wx.cell? ⟨X, 3, none⟩ = some (.int .i64 5) ∧ wx.cell? ⟨X, 4, none⟩ = some (.int .i64 1) ∧ wx.cell? ⟨X, 5, none⟩ = some (.int .i64 0) ∧ wx.cell? ⟨X, 6, none⟩ = some (.slice ea en ec) ∧ wx.cell? ⟨X, 7, none⟩ = some (.slice qa qn qc) ∧ wx.cell? ⟨X, 8, none⟩ = some (.slice pa pn pc)) (by kernel_rfl) ?_ (fun hHeld => ?_)
        · exact HSF.out _ (below_drewN w10 1)
        refine wpAnyH_take (i := 0) (oi := ⟨some 96, _, _, _, _, _⟩) (v := ?_) rfl (by kernel_rfl) (by kernel_rfl) (by kernel_rfl) (fun _ _ _ h => h) (Or.inl ⟨by rfl, ?_⟩) hHeld ?_
        rotate_left
        · intro w hSw; (try dsimp only at hSw); go_simp; all_goals (with_reducible rfl)
        try simp only [Act.put, List.setIfInBounds_toArray, List.set_cons_zero, List.set_cons_succ]
        refine wpAnyH_take (i := 1) (oi := ⟨some 97, _, _, _, _, _⟩) (v := ?_) rfl (by kernel_rfl) (by kernel_rfl) (by kernel_rfl) (fun _ _ _ h => h) (Or.inl ⟨by rfl, ?_⟩) hHeld ?_
        rotate_left
        · intro w hSw; (try dsimp only at hSw); go_simp; all_goals (with_reducible rfl)
        try simp only [Act.put, List.setIfInBounds_toArray, List.set_cons_zero, List.set_cons_succ]
        refine wpAnyH_take (i := 2) (oi := ⟨some 98, _, _, _, _, _⟩) (v := ?_) rfl (by kernel_rfl) (by kernel_rfl) (by kernel_rfl) (fun _ _ _ h => h) (Or.inl ⟨by rfl, ?_⟩) hHeld ?_
        rotate_left
        · intro w hSw; (try dsimp only at hSw); go_simp; all_goals (with_reducible rfl)
        try simp only [Act.put, List.setIfInBounds_toArray, List.set_cons_zero, List.set_cons_succ]
        refine wpAnyH_take (i := 3) (oi := ⟨some 99, _, _, _, _, _⟩) (v := ?_) rfl (by kernel_rfl) (by kernel_rfl) (by kernel_rfl) (fun _ _ _ h => h) (Or.inl ⟨by rfl, ?_⟩) hHeld ?_
        rotate_left
        · intro w hSw; (try dsimp only at hSw); go_simp; all_goals (with_reducible rfl)
        try simp only [Act.put, List.setIfInBounds_toArray, List.set_cons_zero, List.set_cons_succ]
        refine wpAnyH_take (i := 4) (oi := ⟨some 100, _, _, _, _, _⟩) (v := ?_) rfl (by kernel_rfl) (by kernel_rfl) (by kernel_rfl) (fun _ _ _ h => h) (Or.inl ⟨by rfl, ?_⟩) hHeld ?_
        rotate_left
        · intro w hSw; (try dsimp only at hSw); go_simp; all_goals (with_reducible rfl)
        try simp only [Act.put, List.setIfInBounds_toArray, List.set_cons_zero, List.set_cons_succ]
        refine wpAnyH_take (i := 5) (oi := ⟨some 101, _, _, _, _, _⟩) (v := ?_) rfl (by kernel_rfl) (by kernel_rfl) (by kernel_rfl) (fun _ _ _ h => h) (Or.inl ⟨by rfl, ?_⟩) hHeld ?_
        rotate_left
        · intro w hSw; (try dsimp only at hSw); go_simp; all_goals (with_reducible rfl)
        try simp only [Act.put, List.setIfInBounds_toArray, List.set_cons_zero, List.set_cons_succ]
        refine wpAnyH_take (i := 6) (oi := ⟨some 102, _, _, _, _, _⟩) (v := ?_) rfl (by kernel_rfl) (by kernel_rfl) (by kernel_rfl) (fun _ _ _ h => h) (Or.inl ⟨by rfl, ?_⟩) hHeld ?_
        rotate_left
        · intro w hSw; (try dsimp only at hSw); go_simp; all_goals (with_reducible rfl)
        try simp only [Act.put, List.setIfInBounds_toArray, List.set_cons_zero, List.set_cons_succ]
        refine wpAnyH_take (i := 7) (oi := ⟨some 103, _, _, _, _, _⟩) (v := ?_) rfl (by kernel_rfl) (by kernel_rfl) (by kernel_rfl) (fun _ _ _ h => h) (Or.inl ⟨by rfl, ?_⟩) hHeld ?_
        rotate_left
        · intro w hSw; (try dsimp only at hSw); go_simp; all_goals (with_reducible rfl)
        try simp only [Act.put, List.setIfInBounds_toArray, List.set_cons_zero, List.set_cons_succ]
        refine wpAnyH_take (i := 8) (oi := ⟨some 104, _, _, _, _, _⟩) (v := ?_) rfl (by kernel_rfl) (by kernel_rfl) (by kernel_rfl) (fun _ _ _ h => h) (Or.inl ⟨by rfl, ?_⟩) hHeld ?_
        rotate_left
        · intro w hSw; (try dsimp only at hSw); go_simp; all_goals (with_reducible rfl)
        try simp only [Act.put, List.setIfInBounds_toArray, List.set_cons_zero, List.set_cons_succ]
        refine wpAnyH_take (i := 9) (oi := ⟨some 105, _, _, _, _, _⟩) (v := ?_) rfl (by kernel_rfl) (by kernel_rfl) (by kernel_rfl) (fun _ _ _ h => h) (Or.inl ⟨by rfl, ?_⟩) hHeld ?_
        rotate_left
        · intro w hSw; (try dsimp only at hSw); go_simp; all_goals (with_reducible rfl)
        try simp only [Act.put, List.setIfInBounds_toArray, List.set_cons_zero, List.set_cons_succ]
        refine wpAnyH_take (i := 10) (oi := ⟨some 106, _, _, _, _, _⟩) (v := ?_) rfl (by kernel_rfl) (by kernel_rfl) (by kernel_rfl) (fun _ _ _ h => h) (Or.inl ⟨by rfl, ?_⟩) hHeld ?_
        rotate_left
        · intro w hSw; (try dsimp only at hSw); go_simp; all_goals (with_reducible rfl)
        try simp only [Act.put, List.setIfInBounds_toArray, List.set_cons_zero, List.set_cons_succ]
        refine wpAnyH_take (i := 11) (oi := ⟨some 107, _, _, _, _, _⟩) (v := ?_) rfl (by kernel_rfl) (by kernel_rfl) (by kernel_rfl) (fun _ _ _ h => h) (Or.inl ⟨by rfl, ?_⟩) hHeld ?_
        rotate_left
        · intro w hSw; (try dsimp only at hSw); go_simp; all_goals (with_reducible rfl)
        try simp only [Act.put, List.setIfInBounds_toArray, List.set_cons_zero, List.set_cons_succ]
        refine wpAnyH_ready (rs := [12]) (by kernel_rfl) (by simp) ?_
        refine AllReadyH.cons (o := ⟨some 108, _, _, _, _, _⟩) rfl (fun K hK => ?_) AllReadyH.nil
        go_simp
        refine (laid_walk 5 _).mono ?_
        rintro e wa ⟨rfl, hB⟩
        have HBa : Hid (Below w10.heap.size w10 wa) := below_trans (below_drewN w10 1) hB
        clear hB
        refine hK.out _ _ ?_ (fun hHeld => ?_)
        · exact (HSF.out _ HBa.out)
        clear hK K
        try simp only [Act.put, List.setIfInBounds_toArray, List.set_cons_zero, List.set_cons_succ]
        refine wpAnyH_ready (rs := [13]) (by kernel_rfl) (by simp) ?_
        refine AllReadyH.cons (o := ⟨some 109, _, _, _, _, _⟩) rfl (fun K hK => ?_) AllReadyH.nil
        go_simp
        refine (same_walk (m := lm 5) (HL10.out.below HBa.out) (lm_ml _ _) (lm_ok (in64_s (by decide) (by decide)))).mono ?_
        rintro e wb ⟨rfl, hB⟩
        have HBb : Hid (Below w10.heap.size w10 wb) := below_trans HBa.out hB
        clear hB
        refine hK.out _ _ ?_ (fun hHeld => ?_)
        · exact (HSF.out _ HBb.out)
        clear hK K
        try simp only [Act.put, List.setIfInBounds_toArray, List.set_cons_zero, List.set_cons_succ]
        refine wpAnyH_take (i := 14) (oi := ⟨some 110, _, _, _, _, _⟩) (v := ?_) rfl (by kernel_rfl) (by kernel_rfl) (by kernel_rfl) (fun _ _ _ h => h) (Or.inl ⟨by rfl, ?_⟩) hHeld ?_
        rotate_left
        · intro w hSw; (try dsimp only at hSw); go_simp; all_goals (with_reducible rfl)
        try simp only [Act.put, List.setIfInBounds_toArray, List.set_cons_zero, List.set_cons_succ]
        refine wpAnyH_take (i := 15) (oi := ⟨some 2, _, _, _, _, _⟩) (v := ?_) rfl (by kernel_rfl) (by kernel_rfl) (by kernel_rfl) (fun _ _ _ h => h) (Or.inl ⟨by rfl, ?_⟩) hHeld ?_
        rotate_left
        · intro w hSw; (try dsimp only at hSw); go_simp; all_goals (with_reducible rfl)
        try simp only [Act.put, List.setIfInBounds_toArray, List.set_cons_zero, List.set_cons_succ]
        refine wpAnyH_done (by kernel_rfl) ?_ _
        refine NoPanic.normal ?_
        go_wp2_with fail
        go_ret
        exact ⟨rfl, below_trans HB10.out HBb.out⟩
      · have hlti : ¬ (i : Int) < (l.length : Int) := by omega
        go_upto_region 17 with fail
        clear hlti hlt1 hll
        have HNo : Hid _ := HA.out.b
        have HBo : Hid _ := HA.out.w
        clear HA
        go_wp2_with fail
        refine (next_walk HNo.out).mono ?_
        rintro e w5 ⟨rfl, hw⟩
        rw [← hw] at HNo HBo
        clear hw
        go_wp2_with fail
        refine (flights_walk HNo.out (by omega)).mono ?_
        rintro e w6 ⟨v6, F, rfl, hfr, hnm, hB⟩
        have hF : F = [] := by have h := congrArg List.length hnm; simp at h; exact h
        subst hF
        obtain ⟨va, vc, rfl⟩ := own_formN hfr.own
        have HN6 : Hid _ := HNo.out.below hB
        have HB6 : Hid (Below w.heap.size w w6) := below_trans HBo.out hB
        clear hfr hnm hB HNo HBo
        rw [List.length_nil]
        go_wp2_with fail
        refine (laid_walk 5 _).mono ?_
        rintro e w7 ⟨rfl, hB⟩
        have HN7 : Hid _ := HN6.out.below hB
        have HB7 : Hid (Below w.heap.size w w7) := below_trans HB6.out hB
        clear hB HN6 HB6
        go_wp2_with fail
        refine (send_walk (m := lm 5) HN7.out (lm_ml _ _) (lm_ok (in64_s (by decide) (by decide))) (by omega)).mono ?_
        rintro e w8 (⟨hs, _⟩ | ⟨_, ⟨hl, _⟩ | ⟨_, rfl, x1, hxn, hxm, hn, hxl, hc⟩⟩)
        · rw [lm_snd (by decide) (by decide)] at hs; cases hs
        · simp at hl
        have HN8 : Hid (Nt w8 P2 b2 9 1 [x1]) := hn
        have HB8 : Hid (Below w.heap.size w w8) := HB7.out.trans (hc.to_below HB7.out.size (fun x hx => by have := HP2.out; omega))
        clear hn hc hxl HN7 HB7
        go_wp2_with fail
        have hE1 : Hid (Eo w8 x1) := HN8.out.ent x1 (by simp)
        refine (deliver_in HN8.out (in64_s (by decide) (by decide)) (at_first (by rw [hxn]; rfl))).mono ?_
        rintro e w9 ⟨he, hn, hc⟩
        obtain ⟨ea, en, ec, qa, qn, qc, pa, pn, pc, e1, e2, e3⟩ := en_form hE1.out
        have HE9 : Hid (Eo w9 x1) := hE1.out.ch hc (fun y h1 _ e => by have := (HN8.out.off x1 (by simp)).2; omega)
        have HL9 : Hid (ML w9 (lm 5) (.slice ea en ec) (.slice qa qn qc) (.slice pa pn pc)) := by have h := HE9.out.mo.l; rw [e1, e2, e3, hxm] at h; exact h
        have hv : mvE x1 = .agg #[.int .i64 5, .int .i64 3, .int .i64 1, .int .i64 5, .int .i64 1, .int .i64 0, .slice ea en ec, .slice qa qn qc, .slice pa pn pc] := by unfold mvE; rw [e1, e2, e3, hxm]; rfl
        rw [hv] at he
        subst he
        have HB9 : Hid (Below w.heap.size w w9) := HB8.out.trans (hc.to_below HB8.out.size (fun x hx => by have := HP2.out; omega))
        clear hn hc hE1 HE9 e1 e2 e3 hv HN8 hxn hxm HB8
        go_upto_region 21 with fail
        have HX : Hid (MX (w9.alloc (Obj.cells #[.int .i64 5, .int .i64 3, .int .i64 1, .int .i64 5, .int .i64 1, .int .i64 0, .slice ea en ec, .slice qa qn qc, .slice pa pn pc] 35)) w9.heap.size (lm 5) (.slice ea en ec) (.slice qa qn qc) (.slice pa pn pc)) := mx_new w9 (lm 5) (.slice ea en ec) (.slice qa qn qc) (.slice pa pn pc)
        have HBA : Hid _ := below_alloc w9 (Obj.cells #[.int .i64 5, .int .i64 3, .int .i64 1, .int .i64 5, .int .i64 1, .int .i64 0, .slice ea en ec, .slice qa qn qc, .slice pa pn pc] 35)
        obtain ⟨X, hX⟩ : ∃ X, X = w9.heap.size := ⟨_, rfl⟩
        rw [← hX] at HX ⊢
        clear hX
        generalize w9.alloc (Obj.cells #[.int .i64 5, .int .i64 3, .int .i64 1, .int .i64 5, .int .i64 1, .int .i64 0, .slice ea en ec, .slice qa qn qc, .slice pa pn pc] 35) = w10 at HX HBA ⊢
        have HB10 : Hid (Below w.heap.size w w10) := below_trans HB9.out HBA.out
        have HL10 : Hid _ := HL9.out.below HBA.out
        have HSF : Hid (∀ wx, Below w10.heap.size w10 wx → wx.cell? ⟨X, 0, none⟩ = some (.int .i64 5) ∧ wx.cell? ⟨X, 1, none⟩ = some (.int .i64 3) ∧ wx.cell? ⟨X, 2, none⟩ = some (.int .i64 1) ∧ wx.cell? ⟨X, 3, none⟩ = some (.int .i64 5) ∧ wx.cell? ⟨X, 4, none⟩ = some (.int .i64 1) ∧ wx.cell? ⟨X, 5, none⟩ = some (.int .i64 0) ∧ wx.cell? ⟨X, 6, none⟩ = some (.slice ea en ec) ∧ wx.cell? ⟨X, 7, none⟩ = some (.slice qa qn qc) ∧ wx.cell? ⟨X, 8, none⟩ = some (.slice pa pn pc)) := fun wx h => by have k := HX.out.keep h; exact ⟨k.c0, k.c1, k.c2, k.c3, k.c4, k.c5, k.c6, k.c7, k.c8⟩
        clear HB9 HL9 HBA
        refine wp_region_noPanic ?_
        refine wp_region_held_drew (S := fun wx => wx.cell? ⟨X, 0, none⟩ = some (.int .i64 5) ∧ wx.cell? ⟨X, 1, none⟩ = some (.int .i64 3) ∧ wx.cell? ⟨X, 2, none⟩ = some (.int .i64 1) ∧ wx.cell? ⟨X, 3, none⟩ = some (.int .i64 5) ∧ wx.cell? ⟨X, 4, none⟩ = some (.int .i64 1) ∧ wx.cell? ⟨X, 5, none⟩ = some (.int .i64 0) ∧ wx.cell? ⟨X, 6, none⟩ = some (.slice ea en ec) ∧ wx.cell? ⟨X, 7, none⟩ = some (.slice qa qn qc) ∧ wx.cell? ⟨X, 8, none⟩ = some (.slice pa pn pc)) (by kernel_rfl) ?_ (fun hHeld => ?_)
        · exact HSF.out _ (below_drewN w10 1)
        refine wpAnyH_take (i := 0) (oi := ⟨some 96, _, _, _, _, _⟩) (v := ?_) rfl (by kernel_rfl) (by kernel_rfl) (by kernel_rfl) (fun _ _ _ h => h) (Or.inl ⟨by rfl, ?_⟩) hHeld ?_
        rotate_left
        · intro w hSw; (try dsimp only at hSw); go_simp; all_goals (with_reducible rfl)
        try simp only [Act.put, List.setIfInBounds_toArray, List.set_cons_zero, List.set_cons_succ]
        refine wpAnyH_take (i := 1) (oi := ⟨some 97, _, _, _, _, _⟩) (v := ?_) rfl (by kernel_rfl) (by kernel_rfl) (by kernel_rfl) (fun _ _ _ h => h) (Or.inl ⟨by rfl, ?_⟩) hHeld ?_
        rotate_left
        · intro w hSw; (try dsimp only at hSw); go_simp; all_goals (with_reducible rfl)
        try simp only [Act.put, List.setIfInBounds_toArray, List.set_cons_zero, List.set_cons_succ]
        refine wpAnyH_take (i := 2) (oi := ⟨some 98, _, _, _, _, _⟩) (v := ?_) rfl (by kernel_rfl) (by kernel_rfl) (by kernel_rfl) (fun _ _ _ h => h) (Or.inl ⟨by rfl, ?_⟩) hHeld ?_
        rotate_left
        · intro w hSw; (try dsimp only at hSw); go_simp; all_goals (with_reducible rfl)
        try simp only [Act.put, List.setIfInBounds_toArray, List.set_cons_zero, List.set_cons_succ]
        refine wpAnyH_take (i := 3) (oi := ⟨some 99, _, _, _, _, _⟩) (v := ?_) rfl (by kernel_rfl) (by kernel_rfl) (by kernel_rfl) (fun _ _ _ h => h) (Or.inl ⟨by rfl, ?_⟩) hHeld ?_
        rotate_left
        · intro w hSw; (try dsimp only at hSw); go_simp; all_goals (with_reducible rfl)
        try simp only [Act.put, List.setIfInBounds_toArray, List.set_cons_zero, List.set_cons_succ]
        refine wpAnyH_take (i := 4) (oi := ⟨some 100, _, _, _, _, _⟩) (v := ?_) rfl (by kernel_rfl) (by kernel_rfl) (by kernel_rfl) (fun _ _ _ h => h) (Or.inl ⟨by rfl, ?_⟩) hHeld ?_
        rotate_left
        · intro w hSw; (try dsimp only at hSw); go_simp; all_goals (with_reducible rfl)
        try simp only [Act.put, List.setIfInBounds_toArray, List.set_cons_zero, List.set_cons_succ]
        refine wpAnyH_take (i := 5) (oi := ⟨some 101, _, _, _, _, _⟩) (v := ?_) rfl (by kernel_rfl) (by kernel_rfl) (by kernel_rfl) (fun _ _ _ h => h) (Or.inl ⟨by rfl, ?_⟩) hHeld ?_
        rotate_left
        · intro w hSw; (try dsimp only at hSw); go_simp; all_goals (with_reducible rfl)
        try simp only [Act.put, List.setIfInBounds_toArray, List.set_cons_zero, List.set_cons_succ]
        refine wpAnyH_take (i := 6) (oi := ⟨some 102, _, _, _, _, _⟩) (v := ?_) rfl (by kernel_rfl) (by kernel_rfl) (by kernel_rfl) (fun _ _ _ h => h) (Or.inl ⟨by rfl, ?_⟩) hHeld ?_
        rotate_left
        · intro w hSw; (try dsimp only at hSw); go_simp; all_goals (with_reducible rfl)
        try simp only [Act.put, List.setIfInBounds_toArray, List.set_cons_zero, List.set_cons_succ]
        refine wpAnyH_take (i := 7) (oi := ⟨some 103, _, _, _, _, _⟩) (v := ?_) rfl (by kernel_rfl) (by kernel_rfl) (by kernel_rfl) (fun _ _ _ h => h) (Or.inl ⟨by rfl, ?_⟩) hHeld ?_
        rotate_left
        · intro w hSw; (try dsimp only at hSw); go_simp; all_goals (with_reducible rfl)
        try simp only [Act.put, List.setIfInBounds_toArray, List.set_cons_zero, List.set_cons_succ]
        refine wpAnyH_take (i := 8) (oi := ⟨some 104, _, _, _, _, _⟩) (v := ?_) rfl (by kernel_rfl) (by kernel_rfl) (by kernel_rfl) (fun _ _ _ h => h) (Or.inl ⟨by rfl, ?_⟩) hHeld ?_
        rotate_left
        · intro w hSw; (try dsimp only at hSw); go_simp; all_goals (with_reducible rfl)
        try simp only [Act.put, List.setIfInBounds_toArray, List.set_cons_zero, List.set_cons_succ]
        refine wpAnyH_take (i := 9) (oi := ⟨some 105, _, _, _, _, _⟩) (v := ?_) rfl (by kernel_rfl) (by kernel_rfl) (by kernel_rfl) (fun _ _ _ h => h) (Or.inl ⟨by rfl, ?_⟩) hHeld ?_
        rotate_left
        · intro w hSw; (try dsimp only at hSw); go_simp; all_goals (with_reducible rfl)
        try simp only [Act.put, List.setIfInBounds_toArray, List.set_cons_zero, List.set_cons_succ]
        refine wpAnyH_take (i := 10) (oi := ⟨some 106, _, _, _, _, _⟩) (v := ?_) rfl (by kernel_rfl) (by kernel_rfl) (by kernel_rfl) (fun _ _ _ h => h) (Or.inl ⟨by rfl, ?_⟩) hHeld ?_
        rotate_left
        · intro w hSw; (try dsimp only at hSw); go_simp; all_goals (with_reducible rfl)
        try simp only [Act.put, List.setIfInBounds_toArray, List.set_cons_zero, List.set_cons_succ]
        refine wpAnyH_take (i := 11) (oi := ⟨some 107, _, _, _, _, _⟩) (v := ?_) rfl (by kernel_rfl) (by kernel_rfl) (by kernel_rfl) (fun _ _ _ h => h) (Or.inl ⟨by rfl, ?_⟩) hHeld ?_
        rotate_left
        · intro w hSw; (try dsimp only at hSw); go_simp; all_goals (with_reducible rfl)
        try simp only [Act.put, List.setIfInBounds_toArray, List.set_cons_zero, List.set_cons_succ]
        refine wpAnyH_ready (rs := [12]) (by kernel_rfl) (by simp) ?_
        refine AllReadyH.cons (o := ⟨some 108, _, _, _, _, _⟩) rfl (fun K hK => ?_) AllReadyH.nil
        go_simp
        refine (laid_walk 5 _).mono ?_
        rintro e wa ⟨rfl, hB⟩
        have HBa : Hid (Below w10.heap.size w10 wa) := below_trans (below_drewN w10 1) hB
        clear hB
        refine hK.out _ _ ?_ (fun hHeld => ?_)
        · exact (HSF.out _ HBa.out)
        clear hK K
        try simp only [Act.put, List.setIfInBounds_toArray, List.set_cons_zero, List.set_cons_succ]
        refine wpAnyH_ready (rs := [13]) (by kernel_rfl) (by simp) ?_
        refine AllReadyH.cons (o := ⟨some 109, _, _, _, _, _⟩) rfl (fun K hK => ?_) AllReadyH.nil
        go_simp
        refine (same_walk (m := lm 5) (HL10.out.below HBa.out) (lm_ml _ _) (lm_ok (in64_s (by decide) (by decide)))).mono ?_
        rintro e wb ⟨rfl, hB⟩
        have HBb : Hid (Below w10.heap.size w10 wb) := below_trans HBa.out hB
        clear hB
        refine hK.out _ _ ?_ (fun hHeld => ?_)
        · exact (HSF.out _ HBb.out)
        clear hK K
        try simp only [Act.put, List.setIfInBounds_toArray, List.set_cons_zero, List.set_cons_succ]
        refine wpAnyH_take (i := 14) (oi := ⟨some 110, _, _, _, _, _⟩) (v := ?_) rfl (by kernel_rfl) (by kernel_rfl) (by kernel_rfl) (fun _ _ _ h => h) (Or.inl ⟨by rfl, ?_⟩) hHeld ?_
        rotate_left
        · intro w hSw; (try dsimp only at hSw); go_simp; all_goals (with_reducible rfl)
        try simp only [Act.put, List.setIfInBounds_toArray, List.set_cons_zero, List.set_cons_succ]
        refine wpAnyH_take (i := 15) (oi := ⟨some 2, _, _, _, _, _⟩) (v := ?_) rfl (by kernel_rfl) (by kernel_rfl) (by kernel_rfl) (fun _ _ _ h => h) (Or.inl ⟨by rfl, ?_⟩) hHeld ?_
        rotate_left
        · intro w hSw; (try dsimp only at hSw); go_simp; all_goals (with_reducible rfl)
        try simp only [Act.put, List.setIfInBounds_toArray, List.set_cons_zero, List.set_cons_succ]
        refine wpAnyH_done (by kernel_rfl) ?_ _
        refine NoPanic.normal ?_
        go_wp2_with fail
        go_ret
        exact ⟨rfl, below_trans HB10.out HBb.out⟩
end Go.Proofs.Ytokfbnpjndlccaa


