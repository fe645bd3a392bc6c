/- The reference's book: has, free, down, Get, Used, Pages, Ended, bad. -/
import Derived.Test.YtakijnclllmkfaaPt
import Derived.Test.YtakijnclllmkfaaEc
namespace Go.Proofs.Ytakijnclllmkfaa
open Go.RowKit

theorem mem_tn {t : List Nat} {x : Nat} : x ∈ t ↔ ∃ i, i < t.length ∧ tn t i = x := by
  constructor
  · intro h
    obtain ⟨i, hi, e⟩ := List.getElem_of_mem h
    exact ⟨i, hi, by rw [tn_at hi]; exact e⟩
  · rintro ⟨i, hi, rfl⟩; exact tn_mem hi

set_option maxRecDepth 100000 in
theorem rhas_walk {w : World} {v : Value} {t : List Nat} (h : Tw w v t) (hl : t.length ≤ 64) (x : Nat) :
    Calls Try.prog 84 #[v, .int .i64 x] w fun e w' => e = .returned (.bool (decide (x ∈ t))) ∧ w' = w := by
  have HT : Hid (Tw w v t) := h
  obtain ⟨ao, cap, rfl, h1, h2⟩ := h.form
  have hli : (t.length : Int) ≤ 64 := by omega
  obtain ⟨B, hB⟩ : ∃ B, B = decide (x ∈ t) := ⟨_, rfl⟩
  rw [← hB]
  have HB : Hid (B = decide (x ∈ t)) := hB
  clear h h1 h2 hl hB
  go_enter Try.func84, Try.ntmps84
  go_wp2_with fail
  go_loop [5] (fun iv => ∃ k : Nat, k ≤ t.length ∧ iv = .int .i64 k ∧ ∀ i, i < k → tn t i ≠ x) (fun iv => t.length - (intOf iv).toNat)
  case atStart => exact ⟨0, Nat.zero_le _, rfl, fun i hi => by omega⟩
  case round =>
    obtain ⟨k, hk, rfl, hno⟩ := hrel
    have HN : Hid (∀ i, i < k → tn t i ≠ x) := hno
    clear hno
    by_cases hlt : k < t.length
    · obtain ⟨b, off, rfl, hc⟩ := HT.out.at hlt
      obtain ⟨y, hy⟩ : ∃ y, y = tn t k := ⟨_, rfl⟩
      rw [← hy] at hc
      have HY : Hid (y = tn t k) := hy
      clear hy
      have hki : (k : Int) < (t.length : Int) := by omega
      by_cases hxy : y = x
      · have HE : Hid (B = true) := by show _ = _; rw [HB.out]; exact decide_eq_true (mem_tn.2 ⟨k, hlt, by rw [← HY.out]; exact hxy⟩)
        have hyb : ((y : Int) == (x : Int)) = true := by simp [hxy]
        clear hxy
        go_wp2_with fail
        (try simp only [Exit.inBlock, Exit.then])
        go_ret
        exact ⟨by rw [HE.out]; rfl, rfl⟩
      · have HE : Hid (∀ i, i < k + 1 → tn t i ≠ x) := fun i hi => by
          by_cases e : i = k
          · rw [e, ← HY.out]; exact hxy
          · exact HN.out i (by omega)
        have hyb : ((y : Int) == (x : Int)) = false := by simp; omega
        clear hxy
        go_wp2_with fail
        go_round
        case rel => exact ⟨k + 1, hlt, by simp, HE.out⟩
        case measure => simp [intOf]; omega
    · have HE : Hid (B = false) := by
        show _ = _; rw [HB.out]; exact decide_eq_false (fun m => by obtain ⟨i, hi, e⟩ := mem_tn.1 m; exact HN.out i (by omega) e)
      have hki : ¬ (k : Int) < (t.length : Int) := by omega
      go_wp2_with fail
      go_ret
      exact ⟨by rw [HE.out]; rfl, rfl⟩

set_option maxRecDepth 100000 in
theorem rfree_walk {w : World} {v u : Value} {t tk : List Nat} {b : Nat} (h : Tw w v t) (hu : Tw w u tk) (hl : t.length ≤ 64) (hk : tk.length ≤ 64) (ht : ∀ y ∈ t, y < 64) (hb : ∀ y, 2 ≤ y → y ≤ b → y ∈ t ∨ y ∈ tk) (hkb : ∀ y ∈ tk, y ≤ b) (hb1 : 1 ≤ b) :
    Calls Try.prog 63 #[v, u] w fun e w' => e = .returned (.int .i64 (nextF t b : Nat)) ∧ w' = w := by
  have HT : Hid (Tw w v t ∧ t.length ≤ 64) := ⟨h, hl⟩
  have HU : Hid (Tw w u tk ∧ tk.length ≤ 64) := ⟨hu, hk⟩
  have HX : Hid (nextF t b ∉ t ∧ nextF t b ∉ tk) := ⟨next_out ht, fun e => by have h1 := hkb _ e; have h2 := next_gt (t := t) (b := b); omega⟩
  have HM : Hid (∀ a, 2 ≤ a → a < nextF t b → a ∈ t ∨ a ∈ tk) := fun a h1 h2 => by
    by_cases e : a ≤ b
    · exact hb a h1 e
    · exact .inl (next_mid (by omega) h2)
  have hx2 : 2 ≤ nextF t b := by have := next_gt (t := t) (b := b); omega
  have hxb : nextF t b ≤ 130 := by have := free_bound hb; omega
  obtain ⟨X, hX⟩ : ∃ X, X = nextF t b := ⟨_, rfl⟩
  rw [← hX] at HX HM hx2 hxb ⊢
  clear h hu hl hk ht hb hkb hb1 hX
  go_enter Try.func63, Try.ntmps63
  go_wp2_with fail
  go_loop [5] (fun av => ∃ a : Nat, 2 ≤ a ∧ a ≤ X ∧ av = .int .i64 a) (fun av => X - (intOf av).toNat)
  case atStart => exact ⟨2, Nat.le_refl _, hx2, rfl⟩
  case round =>
    obtain ⟨a, ha1, ha2, rfl⟩ := hrel
    by_cases hlt : a < X
    · by_cases hm : a ∈ t
      · have HD : Hid (decide (a ∈ t) = true) := decide_eq_true hm
        clear hm
        go_wp2_with fail
        refine (rhas_walk HT.out.1 HT.out.2 a).mono ?_
        rw [HD.out]
        rintro e w9 ⟨rfl, h9⟩
        have h9 := h9.symm
        subst h9
        go_wp2_with fail
        go_round
        case rel => exact ⟨a + 1, by omega, hlt, by simp⟩
        case measure => simp [intOf]; omega
      · have HD : Hid (decide (a ∈ t) = false) := decide_eq_false hm
        have HE : Hid (decide (a ∈ tk) = true) := decide_eq_true ((HM.out a ha1 hlt).resolve_left hm)
        clear hm
        go_wp2_with fail
        refine (rhas_walk HT.out.1 HT.out.2 a).mono ?_
        rw [HD.out]
        rintro e w9 ⟨rfl, h9⟩
        have h9 := h9.symm
        subst h9
        go_wp2_with fail
        refine (rhas_walk HU.out.1 HU.out.2 a).mono ?_
        rw [HE.out]
        rintro e w9 ⟨rfl, h9⟩
        have h9 := h9.symm
        subst h9
        go_wp2_with fail
        go_round
        case rel => exact ⟨a + 1, by omega, hlt, by simp⟩
        case measure => simp [intOf]; omega
    · obtain rfl : a = X := by omega
      have HD : Hid (decide (a ∈ t) = false) := decide_eq_false HX.out.1
      have HE : Hid (decide (a ∈ tk) = false) := decide_eq_false HX.out.2
      go_wp2_with fail
      refine (rhas_walk HT.out.1 HT.out.2 a).mono ?_
      rw [HD.out]
      rintro e w9 ⟨rfl, h9⟩
      have h9 := h9.symm
      subst h9
      go_wp2_with fail
      refine (rhas_walk HU.out.1 HU.out.2 a).mono ?_
      rw [HE.out]
      rintro e w9 ⟨rfl, h9⟩
      have h9 := h9.symm
      subst h9
      go_wp2_with fail
      go_ret
      exact ⟨rfl, rfl⟩

section
variable {A D : Nat → Prop} {w w' : World} {v dv tv lv : Value} {P P' : Bo} {S S' : Dk} {pb : Nat} {ps : List (Int × List Nat)}
theorem rbdown_ok (h : MQ A D w pb tv dv P S) (hs : shutB P S = false) : Calls Try.prog 61 #[.pointer (some ⟨pb, 0, none⟩)] w fun e w' => e = .returned (.bool false) ∧ w' = w := by
  have HD : Hid (Dsk 83 D w dv S) := h.dsk
  unfold shutB at hs
  rw [Bool.or_eq_false_iff] at hs
  have HDN : Hid (S.down = false) := hs.2
  have c0 := mq0 h
  have c4 := mq4 h
  rw [hs.1] at c4
  clear h hs
  go_enter Try.func61, Try.ntmps61
  go_wp2_with fail
  refine (rdown_walk HD.out).mono ?_
  rw [HDN.out]
  rintro e w9 ⟨rfl, h9⟩
  have h9 := h9.symm
  subst h9
  go_wp2_with fail
  go_ret
  exact ⟨rfl, rfl⟩
theorem rbdown_shut (h : MQ A D w pb tv dv P S) (hs : shutB P S = true) : Calls Try.prog 61 #[.pointer (some ⟨pb, 0, none⟩)] w fun e w' => e = .returned (.bool true) ∧ MQ A D w' pb tv dv (endB P) S ∧ Ch A w w' := by
  have HD : Hid (Dsk 83 D w dv S) := h.dsk
  have HE : Hid (MQ A D (w.setCell ⟨pb, 4, none⟩ (.bool true)) pb tv dv (endB P) S) := mq_end h
  have HC : Hid (Ch A w (w.setCell ⟨pb, 4, none⟩ (.bool true))) := h.chput _ _
  have HM : Hid (MQ A D w pb tv dv P S) := h
  have c0 := mq0 h
  have c4 := mq4 h
  have f4 := h.soft 4
  cases hd : S.down
  · have HDN : Hid (S.down = false) := hd
    have ho : P.over = true := by unfold shutB at hs; rw [hd, Bool.or_false] at hs; exact hs
    have HPE : Hid (endB P = P) := by show _ = _; obtain ⟨a, b, c, d⟩ := P; simp only at ho; subst ho; rfl
    rw [ho] at c4
    clear h hs ho hd
    go_enter Try.func61, Try.ntmps61
    go_wp2_with fail
    refine (rdown_walk HD.out).mono ?_
    rw [HDN.out]
    rintro e w9 ⟨rfl, h9⟩
    have h9 := h9.symm
    subst h9
    go_wp2_with fail
    go_ret
    exact ⟨rfl, by rw [HPE.out]; exact HM.out, Ch.refl _ _⟩
  · have HDN : Hid (S.down = true) := hd
    clear h hs hd
    go_enter Try.func61, Try.ntmps61
    go_wp2_with fail
    refine (rdown_walk HD.out).mono ?_
    rw [HDN.out]
    rintro e w9 ⟨rfl, h9⟩
    have h9 := h9.symm
    subst h9
    go_wp2_with fail
    go_ret
    exact ⟨rfl, HE.out, HC.out⟩

theorem rpages_nil : Calls Try.prog 30 #[.pointer none] w fun e w' => e = .returned (.int .i64 0) ∧ w' = w := by
  go_enter Try.func30, Try.ntmps30
  go_wp2_with fail
  go_ret
  exact ⟨rfl, rfl⟩
theorem rpages_walk (h : BQ A w v dv P S) : Calls Try.prog 30 #[v] w fun e w' => e = .returned (.int .i64 P.tab.length) ∧ w' = w := by
  obtain ⟨D, pb, tv, rfl, h⟩ := h
  have c1 := mq1 h
  obtain ⟨ao, cap, rfl, h1, h2⟩ := h.tab.form
  clear h h1 h2
  go_enter Try.func30, Try.ntmps30
  go_wp2_with fail
  go_ret
  exact ⟨rfl, rfl⟩
theorem rended_nil : Calls Try.prog 32 #[.pointer none] w fun e w' => e = .returned (.bool false) ∧ w' = w := by
  go_enter Try.func32, Try.ntmps32
  go_wp2_with fail
  go_ret
  exact ⟨rfl, rfl⟩
theorem rended_walk (h : BQ A w v dv P S) : Calls Try.prog 32 #[v] w fun e w' => e = .returned (.bool P.over) ∧ w' = w := by
  obtain ⟨D, pb, tv, rfl, h⟩ := h
  have c4 := mq4 h
  clear h
  go_enter Try.func32, Try.ntmps32
  go_wp2_with fail
  go_ret
  exact ⟨rfl, rfl⟩
theorem rused_nil : Calls Try.prog 28 #[.pointer none] w fun e w' => e = .returned (.int .i64 0) ∧ w' = w := by
  go_enter Try.func28, Try.ntmps28
  go_wp2_with fail
  go_ret
  exact ⟨rfl, rfl⟩
set_option maxRecDepth 100000 in
theorem rused_walk (h : BQ A w v dv P S) : Calls Try.prog 28 #[v] w fun e w' => e = .returned (.int .i64 (usedN P.tab)) ∧ w' = w := by
  obtain ⟨D, pb, tv, rfl, h⟩ := h
  have c1 := mq1 h
  have HT : Hid (Tw w tv P.tab) := h.tab
  obtain ⟨t, ht⟩ : ∃ t, t = P.tab := ⟨_, rfl⟩
  have h8 := h.ok.n8
  rw [← ht] at HT h8 ⊢
  obtain ⟨ao, cap, rfl, h1, h2⟩ := HT.out.form
  have hli : (t.length : Int) ≤ 8 := by omega
  clear h h1 h2 ht
  go_enter Try.func28, Try.ntmps28
  go_wp2_with fail
  go_loop [3, 4] (fun uv iv => ∃ k : Nat, k ≤ t.length ∧ iv = .int .i64 k ∧ uv = .int .i64 (usedN (t.take k))) (fun _ iv => t.length - (intOf iv).toNat)
  case atStart => exact ⟨0, Nat.zero_le _, rfl, rfl⟩
  case round =>
    obtain ⟨k, hk, rfl, rfl⟩ := hrel
    by_cases hlt : k < t.length
    · obtain ⟨b, off, rfl, hc⟩ := HT.out.at hlt
      have HU : Hid (usedN (t.take (k + 1)) = usedN (t.take k) + (if tn t k = 0 then 0 else 1)) := used_take hlt
      obtain ⟨y, hy⟩ : ∃ y, y = tn t k := ⟨_, rfl⟩
      rw [← hy] at hc HU
      have hul : usedN (t.take k) ≤ 8 := Nat.le_trans (used_le _) (by rw [List.length_take]; omega)
      obtain ⟨q, hq⟩ : ∃ q, q = usedN (t.take k) := ⟨_, rfl⟩
      rw [← hq] at HU hul ⊢
      clear hy hq
      by_cases h0 : y = 0
      · rw [if_pos h0] at HU
        subst h0
        go_wp2_with fail
        go_round
        case rel => exact ⟨k + 1, hlt, by simp, by rw [HU.out]; rfl⟩
        case measure => simp [intOf]; omega
      · rw [if_neg h0] at HU
        have hyb : ((y : Int) != 0) = true := by simp; omega
        clear h0
        go_wp2_with fail
        go_round
        case rel => exact ⟨k + 1, hlt, by simp, by rw [HU.out]; simp⟩
        case measure => simp [intOf]; omega
    · have hkt : t.take k = t := List.take_of_length_le (by omega)
      have HK : Hid (t.take k = t) := hkt
      have hlti : ¬ (k : Int) < (t.length : Int) := by omega
      clear hkt
      go_wp2_with fail
      go_ret
      exact ⟨by rw [HK.out]; rfl, rfl⟩

theorem mem_pgs {k : Nat} (hk : k ≤ ps.length) {p : Int} : p ∈ pgs ps k ↔ ∃ (i : Nat) (h : i < ps.length), i < k ∧ ps[i].1 = p := by
  unfold pgs
  rw [List.mem_map]
  constructor
  · rintro ⟨q, hq, e⟩
    obtain ⟨i, hi, e2⟩ := List.getElem_of_mem hq
    rw [List.length_take] at hi
    exact ⟨i, by omega, by omega, by rw [← e, ← e2, List.getElem_take]⟩
  · rintro ⟨i, h1, h2, e⟩
    exact ⟨ps[i], by rw [List.mem_iff_getElem]; exact ⟨i, by rw [List.length_take]; omega, by rw [List.getElem_take]⟩, e⟩

set_option maxRecDepth 100000 in
set_option maxHeartbeats 1000000 in
theorem rbad_walk (h : MQ A D w pb tv dv P S) (hl : Tx A w lv ps) : Calls Try.prog 62 #[.pointer (some ⟨pb, 0, none⟩), lv] w fun e w' => e = .returned (.int .i64 (faultI P.tab.length ps)) ∧ w' = w := by
  have HL : Hid (Tx A w lv ps) := hl
  obtain ⟨lo, lc, rfl, hl1, hl2⟩ := hl.form
  have hli : (ps.length : Int) ≤ 9223372036854775807 := by simp only [maxLen] at hl2; omega
  have c1 := mq1 h
  obtain ⟨t, ht⟩ : ∃ t, t = P.tab := ⟨_, rfl⟩
  have hT := h.tab
  have h8 := h.ok.n8
  rw [← ht] at hT h8 ⊢
  obtain ⟨to', tc, rfl, _, _⟩ := hT.form
  have hti : (t.length : Int) ≤ 8 := by omega
  obtain ⟨F, hF⟩ : ∃ F, F = faultI t.length ps := ⟨_, rfl⟩
  have HF : Hid (F = faultF t.length (pgs ps 0) (ps.drop 0)) := hF
  rw [← hF]
  clear h hl hl1 hl2 ht hT h8 hF
  go_enter Try.func62, Try.ntmps62
  go_wp2_with fail
  go_loop [5] (fun iv => ∃ k : Nat, k ≤ ps.length ∧ iv = .int .i64 k ∧ F = faultF t.length (pgs ps k) (ps.drop k)) (fun iv => ps.length - (intOf iv).toNat)
  case atStart => exact ⟨0, Nat.zero_le _, rfl, HF.out⟩
  case round =>
    obtain ⟨k, hk, rfl, hfa⟩ := hrel
    have HFA : Hid (F = faultF t.length (pgs ps k) (ps.drop k)) := hfa
    clear hfa HF
    by_cases hlt : k < ps.length
    · obtain ⟨b, off, u, rfl, _, l0, l1, hbx⟩ := HL.out.at hlt
      obtain ⟨p, hp⟩ : ∃ p, p = ps[k].1 := ⟨_, rfl⟩
      obtain ⟨d, hd⟩ : ∃ d, d = ps[k].2 := ⟨_, rfl⟩
      rw [← hp] at l0
      rw [← hd] at hbx
      have HP : Hid (p = ps[k].1) := hp
      have HDD : Hid (d = ps[k].2) := hd
      obtain ⟨uo, uc, rfl, _, _⟩ := bv_form hbx.1
      have hlti : (k : Int) < (ps.length : Int) := by omega
      clear hp hd hbx
      by_cases hpn : p < 0
      · have HE : Hid (F = 91) := by show _ = _; rw [HFA.out]; exact fault_page hlt (.inl (by rw [← HP.out]; exact hpn))
        go_wp2_with fail
        (try simp only [Exit.inBlock, Exit.then])
        go_ret
        exact ⟨by rw [HE.out]; rfl, rfl⟩
      · have hpnd : decide (p < (0 : Int)) = false := decide_eq_false hpn
        by_cases hpt : (t.length : Int) ≤ p
        · have HE : Hid (F = 91) := by show _ = _; rw [HFA.out]; exact fault_page hlt (.inr (by rw [← HP.out]; exact hpt))
          go_wp2_with fail
          (try simp only [Exit.inBlock, Exit.then])
          go_ret
          exact ⟨by rw [HE.out]; rfl, rfl⟩
        · have hptd : decide ((t.length : Int) ≤ p) = false := decide_eq_false hpt
          have HNP : Hid (¬ (ps[k].1 < 0 ∨ (t.length : Int) ≤ ps[k].1)) := by show ¬ _; rw [← HP.out]; omega
          have hpt2 : p < (t.length : Int) := by omega
          have hpn2 : (0 : Int) ≤ p := by omega
          clear hpn hpt
          go_wp2_with fail
          go_loop [7] (fun jv => ∃ j : Nat, j ≤ k ∧ jv = .int .i64 j ∧ ∀ (i : Nat) (h : i < ps.length), i < j → ps[i].1 ≠ p) (fun jv => k - (intOf jv).toNat)
          case atStart => exact ⟨0, Nat.zero_le _, rfl, fun i _ hi => by omega⟩
          case round =>
            obtain ⟨j, hj, rfl, hno⟩ := hrel
            have HN : Hid (∀ (i : Nat) (h : i < ps.length), i < j → ps[i].1 ≠ p) := hno
            clear hno
            by_cases hjk : j < k
            · have hjl : j < ps.length := by omega
              obtain ⟨b', off', u', e1, _, m0, _, _⟩ := HL.out.at hjl
              cases e1
              obtain ⟨y, hy⟩ : ∃ y, y = ps[j].1 := ⟨_, rfl⟩
              rw [← hy] at m0
              have HY : Hid (ps[j].1 = y) := hy.symm
              have hjki : (j : Int) < (k : Int) := by omega
              have hjli : (j : Int) < (ps.length : Int) := by omega
              clear hy
              by_cases hyp : y = p
              · have HE : Hid (F = 93) := by show _ = _; rw [HFA.out]; exact fault_twice hlt HNP.out ((mem_pgs (by omega)).2 ⟨j, hjl, hjk, by rw [HY.out, hyp, HP.out]⟩)
                have hyb : (y == p) = true := by simp [hyp]
                clear hyp
                go_wp2_with fail
                (try simp only [Exit.inBlock, Exit.then])
                go_ret
                exact ⟨by rw [HE.out]; rfl, rfl⟩
              · have HE : Hid (∀ (i : Nat) (h : i < ps.length), i < j + 1 → ps[i].1 ≠ p) := fun i h hi => by
                  by_cases e : i = j
                  · subst e; rw [HY.out]; exact hyp
                  · exact HN.out i h (by omega)
                have hyb : (y == p) = false := by simp [hyp]
                clear hyp
                go_wp2_with fail
                go_round
                case rel => exact ⟨j + 1, hjk, by simp, HE.out⟩
                case measure => simp [intOf]; omega
            · have hjki : ¬ (j : Int) < (k : Int) := by omega
              have HNT : Hid (ps[k].1 ∉ pgs ps k) := fun m => by
                obtain ⟨i, h1, h2, e⟩ := (mem_pgs (by omega)).1 m
                exact HN.out i h1 (by omega) (by rw [e, ← HP.out])
              by_cases hdl : 1024 < d.length
              · have HE : Hid (F = 6) := by show _ = _; rw [HFA.out]; exact fault_long hlt HNP.out HNT.out (by rw [← HDD.out]; exact hdl)
                have hdi : (1024 : Int) < (d.length : Int) := by omega
                go_wp2_with fail
                (try simp only [Exit.inBlock, Exit.then])
                go_ret
                exact ⟨by rw [HE.out]; rfl, rfl⟩
              · have HE : Hid (F = faultF t.length (pgs ps (k + 1)) (ps.drop (k + 1))) := by show _ = _; rw [HFA.out]; exact fault_next hlt HNP.out HNT.out (by rw [← HDD.out]; exact hdl)
                have hdi : (d.length : Int) ≤ 1024 := by omega
                go_wp2_with fail
                go_round
                case rel => exact ⟨k + 1, hlt, by simp, HE.out⟩
                case measure => simp [intOf]; omega
    · have HE : Hid (F = 0) := by show _ = _; rw [HFA.out]; exact fault_end (by omega)
      have hki : ¬ (k : Int) < (ps.length : Int) := by omega
      go_wp2_with fail
      go_ret
      exact ⟨by rw [HE.out]; rfl, rfl⟩
end
end Go.Proofs.Ytakijnclllmkfaa
