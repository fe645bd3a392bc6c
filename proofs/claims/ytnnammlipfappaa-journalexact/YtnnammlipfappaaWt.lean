/- Take and the reference's Take: they read and answer, and turn nothing. -/
import Derived.Test.YtnnammlipfappaaWp

namespace Go.Proofs.Ytnnammlipfappaa

open Go.RowKit



theorem andNot128 (c : Nat) (h : c < 256) : bits .andNot .u8 (c : Int) 128 = (c : Int) % 128 := by
  have := u8_andNot_nat c 128 h (by omega)
  rw [show ((128 : Nat) : Int) = 128 from rfl] at this
  rw [this]
  have e : c &&& (255 - 128) = c % 128 := Nat.and_two_pow_sub_one_eq_mod c 7
  rw [e]
  omega


theorem pow128 (i : Nat) : (2 : Nat) ^ (7 * i) = 128 ^ i := by rw [Nat.pow_mul]


theorem acc_lt {c i : Nat} (hi : i ≤ 9) (hok : i = 9 → c ≤ 1) : c % 128 * 128 ^ i < 18446744073709551616 ∧ (c % 128 + 1) * 128 ^ i ≤ 18446744073709551616 := by
  by_cases h : i = 9
  · subst h
    have hc := hok rfl
    have : c = 0 ∨ c = 1 := by omega
    rcases this with rfl | rfl <;> decide
  · have hp : (128 : Nat) ^ i ≤ 128 ^ 8 := Nat.pow_le_pow_right (by omega) (by omega)
    have h1 : c % 128 * 128 ^ i ≤ 127 * 128 ^ 8 := Nat.mul_le_mul (by omega) hp
    have h2 : (c % 128 + 1) * 128 ^ i ≤ 128 * 128 ^ 8 := Nat.mul_le_mul (by omega) hp
    exact ⟨Nat.lt_of_le_of_lt h1 (by decide), Nat.le_trans h2 (by decide)⟩


theorem shl_eq {c i : Nat} (hi : i ≤ 9) (hok : i = 9 → c ≤ 1) : IntKind.u64.wrap ((c : Int) % 128 * 2 ^ (7 * i)) = ((c % 128 * 128 ^ i : Nat) : Int) := by
  have h := (acc_lt (c := c) hi hok).1
  have e : ((c : Int) % 128 * 2 ^ (7 * i)) = ((c % 128 * 128 ^ i : Nat) : Int) := by
    rw [← pow128]; push_cast; rfl
  rw [e]
  generalize c % 128 * 128 ^ i = z at h ⊢
  exact wrap_u64_id (by omega) (by omega)


theorem acc_or {x c i : Nat} (hx : x < 128 ^ i) (hi : i ≤ 9) (hok : i = 9 → c ≤ 1) :
    bits .or .u64 (x : Int) (IntKind.u64.wrap ((c : Int) % 128 * 2 ^ (7 * i))) = ((x + c % 128 * 128 ^ i : Nat) : Int) := by
  have h := acc_lt (c := c) hi hok
  rw [shl_eq hi hok, bits_or_u64_nat x _ (by have := h.2; rw [Nat.add_mul] at this; omega) h.1]
  congr 1
  rw [← pow128] at hx ⊢
  rw [Nat.or_comm, Nat.mul_comm, ← Nat.two_pow_add_eq_or_of_lt hx]
  omega


theorem acc_add {x c i : Nat} (hx : x < 128 ^ i) (hi : i ≤ 9) (hok : i = 9 → c ≤ 1) :
    IntKind.u64.wrap ((x : Int) + IntKind.u64.wrap ((c : Int) % 128 * 2 ^ (7 * i))) = ((x + c % 128 * 128 ^ i : Nat) : Int) := by
  have h := acc_lt (c := c) hi hok
  rw [shl_eq hi hok, wrap_u64_id (by omega) ?_]
  · push_cast; rfl
  · have := h.2; rw [Nat.add_mul] at this; omega


theorem acc_next {x c i : Nat} (hx : x < 128 ^ i) : x + c % 128 * 128 ^ i < 128 ^ (i + 1) := by
  have : (c % 128 + 1) * 128 ^ i ≤ 128 * 128 ^ i := Nat.mul_le_mul_right _ (by omega)
  rw [Nat.add_mul] at this
  rw [Nat.pow_succ]; omega


theorem drop_cons {l : List Nat} {i c : Nat} (hi : i < l.length) (hc : l.getD i 0 = c) : l.drop i = c :: l.drop (i + 1) := by
  rw [List.drop_eq_getElem_cons hi]
  simp [List.getD, List.getElem?_eq_getElem hi] at hc
  rw [hc]


theorem tk_bad {l : List Nat} {i c x : Nat} {r : Nat × Nat × Nat} (ht : Wm.tk (l.drop i) i x = r) (hi : i < l.length) (hc : l.getD i 0 = c) (hb : (0 < i ∧ c = 0) ∨ (i = 9 ∧ 1 < c)) : r = (0, 0, 4) := by
  rw [← ht, drop_cons hi hc, Wm.tk, if_pos hb]
theorem tk_last {l : List Nat} {i c x : Nat} {r : Nat × Nat × Nat} (ht : Wm.tk (l.drop i) i x = r) (hi : i < l.length) (hc : l.getD i 0 = c) (hb : ¬ ((0 < i ∧ c = 0) ∨ (i = 9 ∧ 1 < c))) (h : c < 128) :
    r = (x + c % 128 * 128 ^ i, i + 1, 0) := by
  rw [← ht, drop_cons hi hc, Wm.tk, if_neg hb, if_pos h, Nat.mod_eq_of_lt h]
theorem tk_next {l : List Nat} {i c x : Nat} {r : Nat × Nat × Nat} (ht : Wm.tk (l.drop i) i x = r) (hi : i < l.length) (hc : l.getD i 0 = c) (hb : ¬ ((0 < i ∧ c = 0) ∨ (i = 9 ∧ 1 < c))) (h : 128 ≤ c) (h2 : c < 256) :
    Wm.tk (l.drop (i + 1)) (i + 1) (x + c % 128 * 128 ^ i) = r := by
  rw [← ht, drop_cons hi hc, Wm.tk, if_neg hb, if_neg (by omega)]
  have e : c % 128 = c - 128 := by omega
  rw [e]
theorem tk_end {l : List Nat} {i x : Nat} {r : Nat × Nat × Nat} (ht : Wm.tk (l.drop i) i x = r) (hi : l.length ≤ i) : r = (0, 0, 3) := by
  rw [← ht, List.drop_eq_nil_of_le hi, Wm.tk]


/-- The three answers of Take. -/
def t3 (r : Nat × Nat × Nat) : Value := .tuple #[.int .u64 (r.1 : Nat), .int .i64 (r.2.1 : Nat), .int .i64 (r.2.2 : Nat)]


theorem t3_mk {r : Nat × Nat × Nat} {a b c : Int} {p q s : Nat} (h : r = (p, q, s)) (ha : a = p) (hb : b = q) (hc : c = s) : Ending.returned (.tuple #[.int .u64 a, .int .i64 b, .int .i64 c]) = .returned (t3 r) := by
  subst h ha hb hc; rfl


set_option maxRecDepth 100000 in
set_option maxHeartbeats 2000000 in
theorem take_some (l : List Nat) (b off cap : Nat) (w : World) (hl : l.length ≤ cap) (hcap : cap ≤ maxLen)
    (hc : ∀ i, i < l.length → w.cell? ⟨b, off + i, none⟩ = some (.int .u8 ((l.getD i 0 : Nat) : Int))) (h256 : ∀ c ∈ l, c < 256) :
    Calls Try.prog 61 #[.slice (some ⟨b, off, none⟩) l.length cap] w fun e w' => e = .returned (t3 (Wm.take l)) ∧ w' = w := by
  unfold maxLen at hcap
  go_enter Try.func61, Try.ntmps61
  go_wp2
  go_loop [5, 10] (fun xv iv => ∃ i x : Nat, xv = .int .u64 x ∧ iv = .int .i64 i ∧ i ≤ l.length ∧ i ≤ 9 ∧ x < 128 ^ i ∧ Wm.tk (l.drop i) i x = Wm.take l) (fun _ iv => l.length - (intOf iv).toNat)
  case atStart => exact ⟨0, 0, rfl, rfl, by omega, by omega, by simp, rfl⟩
  case round =>
    obtain ⟨i, x, rfl, rfl, hil, hi9, hx, htk⟩ := hrel
    have HX : Hid (x < 128 ^ i) := hx
    have HT : Hid (Wm.tk (l.drop i) i x = Wm.take l) := htk
    clear hx htk
    by_cases hlt : i < l.length
    · have hcell := hc i hlt
      obtain ⟨c, hcd⟩ : ∃ c, l.getD i 0 = c := ⟨_, rfl⟩
      rw [hcd] at hcell
      have HC : Hid (l.getD i 0 = c) := hcd
      have hc256 : c < 256 := by rw [← hcd]; exact h256 _ (by simp [List.getD, List.getElem?_eq_getElem hlt])
      have han := andNot128 c hc256
      have hci : (c : Int) < 256 := by omega
      have HC2 : Hid (c < 256) := hc256
      have hli : (l.length : Int) ≤ 9223372036854775807 := by omega
      clear hcd hc hc256 hl hcap h256
      by_cases h1 : (0 : Int) < (i : Int)
      · by_cases h2 : (c : Int) = 0
        · go_wp2_with fail
          go_ret3
          exact ⟨t3_mk (tk_bad HT.out hlt HC.out (.inl ⟨by omega, by omega⟩)) rfl rfl rfl, rfl⟩
        · by_cases h3 : (i : Int) = 9
          · have h3b : ((i : Int) == 9) = true := by simp [h3]
            have H3 : Hid ((i : Int) = 9) := h3
            have h2b : ((c : Int) == 0) = false := by simpa using h2
            clear h3
            by_cases h4 : (1 : Int) < (c : Int)
            · go_wp2_with fail
              go_ret3
              exact ⟨t3_mk (tk_bad HT.out hlt HC.out (.inr ⟨by have := H3.out; omega, by omega⟩)) rfl rfl rfl, rfl⟩
            · go_wp2_with fail
              go_ret3
              exact ⟨t3_mk (tk_last HT.out hlt HC.out (by omega) (by omega)) (acc_or HX.out hi9 (by omega)) (by omega) rfl, rfl⟩
          · by_cases h5 : (c : Int) < 128
            · go_wp2_with fail
              go_ret3
              exact ⟨t3_mk (tk_last HT.out hlt HC.out (by omega) (by omega)) (acc_or HX.out hi9 (by omega)) (by omega) rfl, rfl⟩
            · go_wp2_with fail
              go_round
              case rel => exact ⟨i + 1, _, by rw [acc_or HX.out hi9 (by omega)], by go_num, by omega, by omega, acc_next HX.out, tk_next HT.out hlt HC.out (by omega) (by omega) HC2.out⟩
              case measure => simp [intOf]; omega
      · by_cases h5 : (c : Int) < 128
        · go_wp2_with fail
          go_ret3
          exact ⟨t3_mk (tk_last HT.out hlt HC.out (by omega) (by omega)) (acc_or HX.out hi9 (by omega)) (by omega) rfl, rfl⟩
        · go_wp2_with fail
          go_round
          case rel => exact ⟨i + 1, _, by rw [acc_or HX.out hi9 (by omega)], by go_num, by omega, by omega, acc_next HX.out, tk_next HT.out hlt HC.out (by omega) (by omega) HC2.out⟩
          case measure => simp [intOf]; omega
    · have hlt' : ¬ (i : Int) < (l.length : Int) := by omega
      go_wp2_with fail
      go_ret3
      exact ⟨t3_mk (tk_end HT.out (by omega)) rfl rfl rfl, rfl⟩


set_option maxRecDepth 100000 in
theorem take_none (ao : Option Addr) (cap : Nat) (w : World) :
    Calls Try.prog 61 #[.slice ao 0 cap] w fun e w' => e = .returned (t3 (Wm.take [])) ∧ w' = w := by
  go_enter Try.func61, Try.ntmps61
  go_wp2
  refine wp_loop_rounds 1 ?_
  rw [rounds_succ]
  go_wp2
  go_ret3
  exact ⟨rfl, rfl⟩


theorem bv_cases {w : World} {v : Value} {l : List Nat} (h : Bv w v l) :
    (l = [] ∧ ∃ ao cap, v = .slice ao 0 cap) ∨ ∃ b off cap, v = .slice (some ⟨b, off, none⟩) l.length cap ∧ 0 < l.length ∧ l.length ≤ cap ∧ cap ≤ maxLen ∧
      ∀ i, i < l.length → w.cell? ⟨b, off + i, none⟩ = some (.int .u8 ((l.getD i 0 : Nat) : Int)) := by
  obtain ⟨⟨ao, cap, rfl, h1, h2, h3, h4⟩, h5⟩ := h
  rw [ib_len] at h1 ⊢
  by_cases h0 : l = []
  · subst h0; exact .inl ⟨rfl, ao, cap, rfl⟩
  · have hp := List.length_pos_iff.2 h0
    obtain ⟨b, off, rfl, _⟩ := h4 0 (by rw [ib_len]; exact hp)
    refine .inr ⟨b, off, cap, rfl, hp, h1, h2, fun i hi => ?_⟩
    obtain ⟨b', off', e1, e2⟩ := h4 i (by rw [ib_len]; exact hi)
    cases e1
    rw [e2]
    simp [ib, List.getD, List.getElem?_eq_getElem hi]


theorem take_walk {w : World} {v : Value} {l : List Nat} (h : Bv w v l) :
    Calls Try.prog 61 #[v] w fun e w' => e = .returned (t3 (Wm.take l)) ∧ w' = w := by
  rcases bv_cases h with ⟨rfl, ao, cap, rfl⟩ | ⟨b, off, cap, rfl, hp, h1, h2, h3⟩
  · exact take_none ao cap w
  · exact take_some l b off cap w h1 h2 h3 h.2


end Go.Proofs.Ytnnammlipfappaa


