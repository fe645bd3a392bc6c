/- TakeWord and its reference: they read and answer, and turn nothing. -/
import Derived.Test.YthkkbdmbmkgjpaaWw

namespace Go.Proofs.Ythkkbdmbmkgjpaa

open Go.RowKit



theorem unw_append (l r : List Nat) : Wm.unw (l ++ r) = Wm.unw l + 256 ^ l.length * Wm.unw r := by
  induction l with
  | nil => simp [Wm.unw]
  | cons c l ih =>
    simp only [List.cons_append, Wm.unw, ih, List.length_cons, Nat.pow_succ]
    rw [Nat.mul_add, Nat.mul_comm (256 ^ l.length) 256, Nat.mul_assoc]
    omega


theorem unw_take_succ {l : List Nat} {k c : Nat} (hk : k < l.length) (hc : l.getD k 0 = c) : Wm.unw (l.take (k + 1)) = Wm.unw (l.take k) + c * 256 ^ k := by
  have e : l.getD k 0 = l[k] := by simp [List.getD, List.getElem?_eq_getElem hk]
  rw [List.take_succ_eq_append_getElem hk, unw_append, List.length_take, Nat.min_eq_left (by omega), ← e, hc]
  simp [Wm.unw, Nat.mul_comm]


theorem wacc_or {x c k : Nat} (hx : x < 256 ^ k) (hk : k < 8) (hc : c < 256) :
    bits .or .u64 (x : Int) (IntKind.u64.wrap ((c : Int) * 2 ^ (8 * k))) = ((x + c * 256 ^ k : Nat) : Int) := by
  have hp : (256 : Nat) ^ k ≤ 256 ^ 7 := Nat.pow_le_pow_right (by omega) (by omega)
  have h1 : c * 256 ^ k ≤ 255 * 256 ^ 7 := Nat.mul_le_mul (by omega) hp
  have h2 : c * 256 ^ k < 18446744073709551616 := Nat.lt_of_le_of_lt h1 (by decide)
  have h3 : x < 18446744073709551616 := Nat.lt_of_lt_of_le (Nat.lt_of_lt_of_le hx hp) (by decide)
  have e : (c : Int) * 2 ^ (8 * k) = ((c * 256 ^ k : Nat) : Int) := by
    rw [← pow256, Int.natCast_mul, Int.natCast_pow]; rfl
  rw [e, wrap_u64_id (by omega) (by generalize c * 256 ^ k = z at h2 ⊢; omega), bits_or_u64_nat x _ h3 h2]
  congr 1
  rw [← pow256] at hx ⊢
  rw [Nat.or_comm, Nat.mul_comm, ← Nat.two_pow_add_eq_or_of_lt hx]
  omega


/-- TakeWord's answers. -/
def t2 (r : Nat × Nat) : Value := .tuple #[.int .u64 (r.1 : Nat), .int .i64 (r.2 : Nat)]


theorem t2_short {l : List Nat} (h : l.length < 8) : Ending.returned (.tuple #[.int .u64 0, .int .i64 3]) = .returned (t2 (Wm.takeW l)) := by
  unfold Wm.takeW; rw [if_pos h]; rfl
theorem t2_long {l : List Nat} {a : Int} (h : 8 ≤ l.length) (ha : a = (Wm.unw (l.take 8) : Nat)) : Ending.returned (.tuple #[.int .u64 a, .int .i64 0]) = .returned (t2 (Wm.takeW l)) := by
  unfold Wm.takeW; rw [if_neg (by omega), ha]; rfl


set_option maxRecDepth 100000 in
theorem takew_short (l : List Nat) (ao : Option Addr) (cap : Nat) (w : World) (h : l.length < 8) :
    Calls Try.prog 52 #[.slice ao l.length cap] w fun e w' => e = .returned (t2 (Wm.takeW l)) ∧ w' = w := by
  have h8 : (l.length : Int) < 8 := by omega
  go_enter Try.func52, Try.ntmps52
  go_wp2
  go_ret2
  exact ⟨t2_short h, rfl⟩


set_option maxRecDepth 100000 in
set_option maxHeartbeats 1000000 in
theorem takew_long (l : List Nat) (b off cap : Nat) (w : World) (h8 : 8 ≤ l.length)
    (hc : ∀ i, i < l.length → w.cell? ⟨b, off + i, none⟩ = some (.int .u8 ((l.getD i 0 : Nat) : Int))) (h256 : ∀ c ∈ l, c < 256) :
    Calls Try.prog 52 #[.slice (some ⟨b, off, none⟩) l.length cap] w fun e w' => e = .returned (t2 (Wm.takeW l)) ∧ w' = w := by
  have HC : Hid (∀ i, i < l.length → w.cell? ⟨b, off + i, none⟩ = some (.int .u8 ((l.getD i 0 : Nat) : Int))) := hc
  have H256 : Hid (∀ c ∈ l, c < 256) := h256
  have hl8 : ¬ (l.length : Int) < 8 := by omega
  clear hc h256
  go_enter Try.func52, Try.ntmps52
  go_wp2
  go_loop [4, 9] (fun xv iv => ∃ k x : Nat, xv = .int .u64 x ∧ iv = .int .i64 k ∧ k ≤ 8 ∧ x = Wm.unw (l.take k)) (fun _ iv => 8 - (intOf iv).toNat)
  case atStart => exact ⟨0, 0, rfl, rfl, by omega, rfl⟩
  case round =>
    obtain ⟨k, x, rfl, rfl, hk, hx⟩ := hrel
    have HX : Hid (x = Wm.unw (l.take k)) := hx
    clear hx
    by_cases hlt : (k : Int) < 8
    · have hcell := HC.out k (by omega)
      obtain ⟨c, hcd⟩ : ∃ c, l.getD k 0 = c := ⟨_, rfl⟩
      rw [hcd] at hcell
      have HD : Hid (l.getD k 0 = c) := hcd
      have HC2 : Hid (c < 256) := by show c < 256; rw [← hcd]; exact H256.out _ (by simp [List.getD, List.getElem?_eq_getElem (show k < l.length by omega)])
      have hkl : (k : Int) < (l.length : Int) := by omega
      have hci : (c : Int) < 256 := by have := HC2.out; omega
      have HLT : Hid (x < 256 ^ k) := by
        have h1 := Wm.unw_lt (l.take k) (fun d hd => H256.out d (List.mem_of_mem_take hd))
        rw [← HX.out, List.length_take, Nat.min_eq_left (by omega)] at h1
        exact h1
      clear hcd
      go_wp2_with fail
      go_round
      case rel => exact ⟨k + 1, _, by rw [wacc_or HLT.out (by omega) HC2.out], by go_num, by omega, by rw [unw_take_succ (by omega) HD.out, HX.out]⟩
      case measure => simp [intOf]; omega
    · obtain rfl : k = 8 := by omega
      go_wp2_with fail
      go_ret2
      exact ⟨t2_long h8 (by rw [HX.out]), rfl⟩


theorem takew_walk {w : World} {v : Value} {l : List Nat} (h : Bv w v l) :
    Calls Try.prog 52 #[v] w fun e w' => e = .returned (t2 (Wm.takeW l)) ∧ w' = w := by
  by_cases h8 : l.length < 8
  · obtain ⟨⟨ao, cap, rfl, _⟩, _⟩ := h
    rw [ib_len]
    exact takew_short l ao cap w h8
  · rcases bv_cases h with ⟨rfl, _⟩ | ⟨b, off, cap, rfl, hp, h1, h2, h3⟩
    · simp at h8
    · exact takew_long l b off cap w (by omega) h3 h.2


set_option maxRecDepth 100000 in
theorem rtakew_short (l : List Nat) (ao : Option Addr) (cap : Nat) (w : World) (h : l.length < 8) :
    Calls Try.prog 49 #[.slice ao l.length cap] w fun e w' => e = .returned (t2 (Wm.takeW l)) ∧ w' = w := by
  have h8 : (l.length : Int) < 8 := by omega
  go_enter Try.func49, Try.ntmps49
  go_wp2
  go_ret2
  exact ⟨t2_short h, rfl⟩


theorem drop_take8 {l : List Nat} {j c : Nat} (h8 : 8 ≤ l.length) (hj : j < 8) (hc : l.getD j 0 = c) : (l.take 8).drop j = c :: (l.take 8).drop (j + 1) := by
  refine drop_cons (by rw [List.length_take]; omega) ?_
  rw [← hc]; simp [List.getD, hj]


theorem rw_acc {x c : Nat} (hx : x * 256 + c < 18446744073709551616) : IntKind.u64.wrap (IntKind.u64.wrap ((x : Int) * 256) + (c : Int)) = ((x * 256 + c : Nat) : Int) := by
  rw [wrap_u64_id (z := (x : Int) * 256) (by omega) (by omega), wrap_u64_id (by omega) (by omega)]
  omega


set_option maxRecDepth 100000 in
set_option maxHeartbeats 1000000 in
theorem rtakew_long (l : List Nat) (b off cap : Nat) (w : World) (h8 : 8 ≤ l.length)
    (hc : ∀ i, i < l.length → w.cell? ⟨b, off + i, none⟩ = some (.int .u8 ((l.getD i 0 : Nat) : Int))) (h256 : ∀ c ∈ l, c < 256) :
    Calls Try.prog 49 #[.slice (some ⟨b, off, none⟩) l.length cap] w fun e w' => e = .returned (t2 (Wm.takeW l)) ∧ w' = w := by
  have HC : Hid (∀ i, i < l.length → w.cell? ⟨b, off + i, none⟩ = some (.int .u8 ((l.getD i 0 : Nat) : Int))) := hc
  have H256 : Hid (∀ c ∈ l, c < 256) := h256
  have hl8 : ¬ (l.length : Int) < 8 := by omega
  clear hc h256
  go_enter Try.func49, Try.ntmps49
  go_wp2
  go_loop [4, 5] (fun xv iv => ∃ k x : Nat, xv = .int .u64 x ∧ iv = .int .i64 ((k : Int) - 1) ∧ k ≤ 8 ∧ x = Wm.unw ((l.take 8).drop k)) (fun _ iv => (intOf iv + 1).toNat)
  case atStart => exact ⟨8, 0, rfl, rfl, by omega, by rw [List.drop_eq_nil_of_le (by rw [List.length_take]; omega)]; rfl⟩
  case round =>
    obtain ⟨k, x, rfl, rfl, hk, hx⟩ := hrel
    have HX : Hid (x = Wm.unw ((l.take 8).drop k)) := hx
    clear hx
    by_cases hlt : (1 : Int) ≤ (k : Int)
    · obtain ⟨j, rfl⟩ : ∃ j, k = j + 1 := ⟨k - 1, by omega⟩
      have hcell := HC.out j (by omega)
      obtain ⟨c, hcd⟩ : ∃ c, l.getD j 0 = c := ⟨_, rfl⟩
      rw [hcd] at hcell
      have HD : Hid (l.getD j 0 = c) := hcd
      have hkl : (j : Int) < (l.length : Int) := by omega
      have hci : (c : Int) < 256 := by
        have : c < 256 := by rw [← hcd]; exact H256.out _ (by simp [List.getD, List.getElem?_eq_getElem (show j < l.length by omega)])
        omega
      have hjj : ((j + 1 : Nat) : Int) - 1 = (j : Int) := by omega
      have HU : Hid (x * 256 + c = Wm.unw ((l.take 8).drop j)) := by
        have := drop_take8 h8 (show j < 8 by omega) hcd
        show _ = _
        rw [this, Wm.unw, ← HX.out]; omega
      have HLT : Hid (x * 256 + c < 18446744073709551616) := by
        have h1 := Wm.unw_lt ((l.take 8).drop j) (fun d hd => H256.out d (List.mem_of_mem_take (List.mem_of_mem_drop hd)))
        rw [← HU.out, List.length_drop, List.length_take, Nat.min_eq_left (by omega)] at h1
        have h2 : (256 : Nat) ^ (8 - j) ≤ 256 ^ 8 := Nat.pow_le_pow_right (by omega) (by omega)
        exact Nat.lt_of_lt_of_le h1 (Nat.le_trans h2 (by decide))
      clear hcd
      go_wp2_with fail
      go_round
      case rel => exact ⟨j, _, by rw [rw_acc HLT.out], by go_num, by omega, HU.out⟩
      case measure => simp [intOf]
    · obtain rfl : k = 0 := by omega
      go_wp2_with fail
      go_ret2
      exact ⟨t2_long h8 (by rw [HX.out]; simp), rfl⟩


theorem rtakew_walk {w : World} {v : Value} {l : List Nat} (h : Bv w v l) :
    Calls Try.prog 49 #[v] w fun e w' => e = .returned (t2 (Wm.takeW l)) ∧ w' = w := by
  by_cases h8 : l.length < 8
  · obtain ⟨⟨ao, cap, rfl, _⟩, _⟩ := h
    rw [ib_len]
    exact rtakew_short l ao cap w h8
  · rcases bv_cases h with ⟨rfl, _⟩ | ⟨b, off, cap, rfl, hp, h1, h2, h3⟩
    · simp at h8
    · exact rtakew_long l b off cap w (by omega) h3 h.2
end Go.Proofs.Ythkkbdmbmkgjpaa


