/- The program's small functions over tables: slices.Index, Contains, Clone; blocksFor, has, freeBehind. -/
import Derived.Test.YtakijnclllmkfabDi

namespace Go.Proofs.Ytakijnclllmkfab

open Go.RowKit



/-- The value v is a slice of ints that holds the table t. -/
def Tw (w : World) (v : Value) (t : List Nat) : Prop := Sv .i64 w v (ib t)
theorem ib_at {t : List Nat} {i : Nat} (h : i < t.length) : (ib t).getD i 0 = (tn t i : Nat) := by
  unfold ib tn; simp [List.getD, h]
theorem Tw.below {w w' : World} {v : Value} {t : List Nat} (h : Tw w v t) (hb : Below w.heap.size w w') : Tw w' v t := Sv.below h hb
theorem Tw.form {w : World} {v : Value} {t : List Nat} (h : Tw w v t) : ∃ ao cap, v = .slice ao t.length cap ∧ t.length ≤ cap ∧ cap ≤ maxLen := by
  obtain ⟨ao, cap, rfl, h1, h2, h3, h4⟩ := h
  rw [ib_len] at h1 ⊢
  exact ⟨ao, cap, rfl, h1, h2⟩
theorem Tw.at {w : World} {ao : Option Addr} {n cap : Nat} {t : List Nat} (h : Tw w (.slice ao n cap) t) {i : Nat} (hi : i < t.length) : ∃ b off, ao = some ⟨b, off, none⟩ ∧ w.cell? ⟨b, off + i, none⟩ = some (.int .i64 (tn t i : Nat)) := by
  obtain ⟨ao', cap', e, h1, h2, h3, h4⟩ := h
  simp only [Value.slice.injEq] at e
  obtain ⟨b, off, e1, e2⟩ := h4 i (by rw [ib_len]; exact hi)
  rw [ib_at hi] at e2
  exact ⟨b, off, e.1.trans e1, e2⟩
theorem own_tw {w : World} {base e n : Nat} {v : Value} {t : List Nat} (h : w.ownsRow base e 1 v n ((ib t).map (Value.int .i64))) : Tw w v t := own_sv h


set_option maxRecDepth 100000 in
theorem index_walk {w : World} {v : Value} {t : List Nat} (h : Tw w v t) (x : Nat) :
    Calls Try.prog 41 #[v, .int .i64 x] w fun e w' => (∃ r : Int, e = .returned (.int .i64 r) ∧ ((0 ≤ r ∧ x ∈ t) ∨ (r = -1 ∧ x ∉ t))) ∧ w' = w := by
  have HT : Hid (Tw w v t) := h
  obtain ⟨ao, cap, rfl, h1, h2⟩ := h.form
  have hli : (t.length : Int) ≤ 9223372036854775807 := by simp only [maxLen] at h2; omega
  clear h h1 h2
  go_enter Try.func41, Try.ntmps41
  go_wp2_with fail
  go_loop [8] (fun iv => ∃ k : Nat, k ≤ t.length ∧ iv = .int .i64 k ∧ ∀ i, i < k → tn t i ≠ x) (fun iv => t.length - (intOf iv).toNat)
  case atStart => exact ⟨0, Nat.zero_le _, rfl, fun i hi => by omega⟩
  case round =>
    obtain ⟨k, hk, rfl, hsm⟩ := hrel
    have HSM : Hid (∀ i, i < k → tn t i ≠ x) := hsm
    clear hsm
    by_cases hlt : k < t.length
    · obtain ⟨b, off, rfl, hc⟩ := HT.out.at hlt
      obtain ⟨y, hy⟩ : ∃ y, y = tn t k := ⟨_, rfl⟩
      rw [← hy] at hc
      have HY : Hid (y = tn t k) := hy
      have hlti : (k : Int) < (t.length : Int) := by omega
      clear hy
      by_cases he : x = y
      · have heb : ((x : Int) == (y : Int)) = true := by simp [he]
        have HE : Hid (x = y) := he
        clear he
        go_wp2_with fail
        (try simp only [Exit.inBlock, Exit.then])
        go_ret
        exact ⟨⟨_, rfl, .inl ⟨by omega, by rw [HE.out, HY.out]; exact tn_mem hlt⟩⟩, rfl⟩
      · have heb : ((x : Int) == (y : Int)) = false := by simp; omega
        have HE : Hid (x ≠ y) := he
        clear he
        go_wp2_with fail
        go_round
        case rel =>
          refine ⟨k + 1, hlt, by simp, fun i hi => ?_⟩
          by_cases e : i = k
          · rw [e, ← HY.out]; exact fun e => HE.out e.symm
          · exact HSM.out i (by omega)
        case measure => simp [intOf]; omega
    · have hlti : ¬ (k : Int) < (t.length : Int) := by omega
      go_wp2_with fail
      go_ret
      refine ⟨⟨_, rfl, .inr ⟨rfl, fun hm => ?_⟩⟩, rfl⟩
      obtain ⟨i, hi, e⟩ := List.getElem_of_mem hm
      exact HSM.out i (by omega) (by rw [tn_at hi]; exact e)


theorem contains_walk {w : World} {v : Value} {t : List Nat} (h : Tw w v t) (x : Nat) :
    Calls Try.prog 39 #[v, .int .i64 x] w fun e w' => e = .returned (.bool (decide (x ∈ t))) ∧ w' = w := by
  have HT : Hid (Tw w v t) := h
  clear h
  by_cases hx : x ∈ t
  · rw [decide_eq_true hx]
    have HX : Hid (x ∈ t) := hx
    clear hx
    go_enter Try.func39, Try.ntmps39
    go_wp2_with fail
    refine (index_walk HT.out x).mono ?_
    rintro e w1 ⟨⟨r, rfl, hr⟩, h9⟩
    have h9 := h9.symm
    subst h9
    have hr0 : 0 ≤ r := by
      rcases hr with h | h
      · exact h.1
      · exact absurd HX.out h.2
    clear hr
    go_wp2_with fail
    go_ret
    exact ⟨rfl, rfl⟩
  · rw [decide_eq_false hx]
    have HX : Hid (x ∉ t) := hx
    clear hx
    go_enter Try.func39, Try.ntmps39
    go_wp2_with fail
    refine (index_walk HT.out x).mono ?_
    rintro e w1 ⟨⟨r, rfl, hr⟩, h9⟩
    have h9 := h9.symm
    subst h9
    have hr0 : r = -1 := by
      rcases hr with h | h
      · exact absurd h.2 HX.out
      · exact h.1
    clear hr
    subst hr0
    go_wp2_with fail
    go_ret
    exact ⟨rfl, rfl⟩


theorem clonet_walk {v : Value} {t : List Nat} {w : World} (ho : Tw w v t) (hl : t.length ≤ 8) :
    Calls Try.prog 31 #[v] w fun e w' => ∃ v', e = .returned v' ∧ w'.ownsRow w.heap.size 3 1 v' t.length ((ib t).map (Value.int .i64)) ∧ Below w.heap.size w w' := by
  have HO : Hid (Tw w v t) := ho
  obtain ⟨ao, cap, rfl, h1, h2, h3, _⟩ := ho
  rw [ib_len] at h1
  rw [ib_len] at HO ⊢
  have HL : Hid (t.length ≤ 8) := hl
  have H3 : Hid (ao = none → cap = 0) := h3
  have H1 : Hid (t.length ≤ cap) := h1
  have q : ∀ (w : World) (a : Option Addr) (n c : Nat), (binOp .eql 52 (.slice a n c) (.slice none 0 0)).run Try.prog w = .ok (.bool a.isNone) w := fun w a n c => Lib.run_eql_slice_nil w 52 3 a n c 0 0 Try.underlying52
  clear hl h1 h2 h3
  cases ao with
  | none =>
    have hc := H3.out rfl
    subst hc
    have hl0 : t.length = 0 := by have := H1.out; omega
    have hl : t = [] := List.eq_nil_of_length_eq_zero hl0
    subst hl
    rw [List.length_nil]
    go_enter Try.func31, Try.ntmps31
    go_wp2_with fail
    go_ret
    exact ⟨_, rfl, World.ownsRow_nil _ _ _ _, below_same _⟩
  | some p =>
    go_enter Try.func31, Try.ntmps31
    go_wp2_with (at_builtin; refine wpList_append_sv (by rfl) _ _ 52 (by rfl) w.heap.size 3 .i64 8 Try.underlying52 info_i64 _ 0 [] (by rfl) (World.ownsRow_made w #[] 0 (Nat.le_refl _) (by simp [maxLen]) (by simp)) _ (ib t) (by rfl) (HO.out.below (below_alloc _ _)) (by have := HL.out; rw [ib_len]; simp [maxLen]; omega) (by have := HL.out; rw [ib_len]; omega) (by simp) ?_; intro v' w2 hown hgrow; go_frame)
    go_ret
    refine ⟨_, rfl, by rw [ib_len] at hown; simpa using hown, ?_⟩
    exact (below_alloc w (Obj.cells #[] 3)).grown hgrow (by simp) (by simp [Value.ownBlock])


theorem bfor_walk {w : World} (n : Nat) (h : n ≤ 64) : Calls Try.prog 27 #[.int .i64 n] w fun e w' => e = .returned (.int .i64 (2 + 2 * (n : Int))) ∧ w' = w := by
  have r1 : IntKind.i64.wrap (2 * (n : Int)) = 2 * (n : Int) := wrapU (by omega) (by omega)
  have r2 : IntKind.i64.wrap (2 + 2 * (n : Int)) = 2 + 2 * (n : Int) := wrapU (by omega) (by omega)
  clear h
  go_enter Try.func27, Try.ntmps27
  go_wp2_with fail
  go_ret
  exact ⟨rfl, rfl⟩


/-- Whether there is such a page. -/
def hasB (n : Nat) (p : Int) : Bool := decide (0 ≤ p ∧ p < (n : Int))
theorem has_walk {w : World} {v : Value} {t : List Nat} (g : Nat) (h : Tw w v t) (p : Int) :
    Calls Try.prog 24 #[.agg #[.int .u64 g, v], .int .i64 p] w fun e w' => e = .returned (.bool (hasB t.length p)) ∧ Below w.heap.size w w' := by
  obtain ⟨ao, cap, rfl, h1, h2⟩ := h.form
  clear h h1 h2
  by_cases h0 : 0 ≤ p
  · by_cases hn : p < (t.length : Int)
    · have HR : Hid (hasB t.length p = true) := decide_eq_true ⟨h0, hn⟩
      rw [HR.out]
      go_enter Try.func24, Try.ntmps24
      go_wp2_with fail
      go_ret
      exact ⟨rfl, below_alloc _ _⟩
    · have HR : Hid (hasB t.length p = false) := decide_eq_false (fun e => hn e.2)
      rw [HR.out]
      have hn2 : (t.length : Int) ≤ p := by omega
      have hd : decide (p < (t.length : Int)) = false := decide_eq_false hn
      clear hn
      go_enter Try.func24, Try.ntmps24
      go_wp2_with fail
      go_ret
      exact ⟨rfl, below_alloc _ _⟩
  · have HR : Hid (hasB t.length p = false) := decide_eq_false (fun e => h0 e.1)
    rw [HR.out]
    go_enter Try.func24, Try.ntmps24
    go_wp2_with fail
    go_ret
    exact ⟨rfl, below_alloc _ _⟩


set_option maxRecDepth 100000 in
theorem behind_walk {w : World} {v : Value} {t : List Nat} (g : Nat) (h : Tw w v t) (ht : ∀ x ∈ t, x < 64) {b : Nat} (hb : b < 64) :
    Calls Try.prog 32 #[.agg #[.int .u64 g, v], .int .i64 b] w fun e w' => e = .returned (.int .i64 (nextF t b : Nat)) ∧ Below w.heap.size w w' := by
  obtain ⟨w0, hw0⟩ : ∃ w0, w0 = w.alloc (Obj.cells #[.int .u64 g, v] 54) := ⟨_, rfl⟩
  have HB0 : Hid (Below w.heap.size w w0) := by show Below _ _ _; rw [hw0]; exact below_alloc _ _
  have HT : Hid (Tw w0 v t) := h.below HB0.out
  have HW0 : Hid (w0 = w.alloc (Obj.cells #[.int .u64 g, v] 54)) := hw0
  have c1 : w0.cell? ⟨w.heap.size, 1, none⟩ = some v := by rw [hw0]; simp [go_sem]
  have HTL : Hid (∀ x ∈ t, x < 64) := ht
  clear h hw0 ht
  go_enter Try.func32, Try.ntmps32
  go_wp2_with fail
  rw [← HW0.out]
  go_loop [1] (fun iv => ∃ k : Nat, k ≤ 64 ∧ iv = .int .i64 k ∧ b < k ∧ ∀ y, b < y → y < k → y ∈ t) (fun iv => 65 - (intOf iv).toNat)
  case atStart => exact ⟨b + 1, by omega, by simp, by omega, fun y h1 h2 => by omega⟩
  case round =>
    obtain ⟨k, hk, rfl, hbk, hm⟩ := hrel
    have HM : Hid (∀ y, b < y → y < k → y ∈ t) := hm
    clear hm
    go_wp2_with fail
    refine (contains_walk HT.out k).mono ?_
    rintro e w1 ⟨rfl, h9⟩
    have h9 := h9.symm
    subst h9
    by_cases hx : k ∈ t
    · have HX : Hid (k ∈ t) := hx
      have hk2 : k < 64 := HTL.out k hx
      rw [decide_eq_true hx]
      clear hx
      go_wp2_with fail
      go_round
      case rel =>
        refine ⟨k + 1, by omega, by simp, by omega, fun y h1 h2 => ?_⟩
        by_cases e : y = k
        · rw [e]; exact HX.out
        · exact HM.out y h1 (by omega)
      case measure => simp [intOf]; omega
    · have HX : Hid (nextF t b = k) := next_is HTL.out hbk hx HM.out
      rw [decide_eq_false hx]
      clear hx
      go_wp2_with fail
      go_ret
      exact ⟨by rw [HX.out]; rfl, HB0.out⟩
end Go.Proofs.Ytakijnclllmkfab


