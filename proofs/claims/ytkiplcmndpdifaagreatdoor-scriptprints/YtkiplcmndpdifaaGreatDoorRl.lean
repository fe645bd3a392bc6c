/- The reference's hex and word; a step's line, letter by letter. Printed by gen_rl22.py. -/
import Derived.Test.YtkiplcmndpdifaaGreatDoorRk

namespace Go.Proofs.YtkiplcmndpdifaaGreatDoor

open Go.RowKit

attribute [local go_sem] run_bits run_frombits run_store_float


theorem nib (b i : Nat) : ((b : Int) / 2 ^ (4 * i)).tmod 16 = ((b / 16 ^ i % 16 : Nat) : Int) := by
  have e : (2 : Int) ^ (4 * i) = ((16 ^ i : Nat) : Int) := by
    rw [Int.pow_mul]
    simp
  rw [e, ← Int.natCast_ediv]
  generalize b / 16 ^ i = q
  rw [Int.tmod_eq_emod_of_nonneg (by omega)]
  omega


theorem rbits_walk (x : Nat) (w : World) : Calls Tryz.prog 43 #[.float .f64 x] w fun e w' => e = .returned (.int .u64 x) ∧ w' = w := by
  go_enter Tryz.func43, Tryz.ntmps43
  go_wp2_with fail
  go_ret
  exact ⟨rfl, rfl⟩


set_option maxRecDepth 100000 in
set_option maxHeartbeats 8000000 in
theorem rhex_walk (b : Nat) (w : World) : Calls Tryz.prog 26 #[.float .f64 b] w fun e w' => e = .returned (S (hexRow b 16)) ∧ w' = w := by
  go_enter Tryz.func26, Tryz.ntmps26
  go_wp2_with fail
  refine (rbits_walk b _).mono ?_
  rintro e9 w1 ⟨rfl, hw⟩
  subst hw
  go_wp2_with fail
  go_loopw [5, 6, 7] (fun vs vi _ wr => ∃ i : Nat, i ≤ 16 ∧ vi = .int .i64 i ∧ vs = .string ⟨(hexRow b i).toArray⟩ ∧ wr = w1) (fun _ vi _ _ => 16 - (intOf vi).toNat)
  case atStart => exact ⟨0, Nat.zero_le _, rfl, rfl, rfl⟩
  case round =>
    obtain ⟨i, hi, rfl, rfl, hw⟩ := hrel
    subst hw
    by_cases hlt : i < 16
    · have hlt' : (i : Int) < 16 := by omega
      have e0 := nib b i
      obtain ⟨d, hd⟩ : ∃ d, d = b / 16 ^ i % 16 := ⟨_, rfl⟩
      rw [← hd] at e0
      have HX : Hid (hexd d :: hexRow b i = hexRow b (i + 1)) := by show _ = _; rw [hexRow, hd]
      have hd16 : d < 16 := by rw [hd]; exact Nat.mod_lt _ (by omega)
      have e1 : IntKind.u64.wrap ((d : Int) + 1) = (d : Int) + 1 := by rw [IntKind.wrap_u64]; omega
      have hx := fun wx => run_hex (d : Int) ((d : Int) + 1) d rfl rfl hd16 wx
      have ha := fun wx => run_add [hexd d] (hexRow b i) (by rw [hexRow_length]; simp; omega) wx
      have HLT : Hid (i < 16) := hlt
      clear hd hd16 hlt hi
      go_wp2_with fail
      exact ⟨⟨i + 1, HLT.out, by (congr 1), by rw [← HX.out], trivial⟩, by have := HLT.out; simp [intOf]; omega⟩
    · obtain rfl : i = 16 := by omega
      clear hi hlt
      go_wp2_with fail
      go_ret
      exact ⟨rfl, rfl⟩


/-- The word of a kind. -/
def wrdK (k : Int) : Bs := match formK k with | some f => f.w | none => []


theorem formK_none {k : Int} (h : k < 1 ∨ 11 < k) : formK k = none := by
  unfold formK
  rw [List.find?_eq_none]
  intro f hf
  simp only [formL, List.mem_cons, List.not_mem_nil, or_false] at hf
  simp only [beq_iff_eq]
  rcases hf with rfl | rfl | rfl | rfl | rfl | rfl | rfl | rfl | rfl | rfl | rfl <;> dsimp only <;> omega


set_option maxRecDepth 100000 in
set_option maxHeartbeats 8000000 in
theorem rword_walk (k : Int) (w : World) : Calls Tryz.prog 44 #[.int .i64 k] w fun e w' => e = .returned (S (wrdK k)) ∧ Below w.heap.size w w' := by
  by_cases hlo : k < 1
  · have e : wrdK k = [] := by unfold wrdK; rw [formK_none (.inl hlo)]
    rw [e]
    clear e
    go_enter Tryz.func44, Tryz.ntmps44
    go_wp2_with fail
    go_ret
    exact ⟨rfl, below_alloc _ _⟩
  by_cases hhi : 11 < k
  · have e : wrdK k = [] := by unfold wrdK; rw [formK_none (.inr hhi)]
    rw [e]
    clear e
    go_enter Tryz.func44, Tryz.ntmps44
    go_wp2_with fail
    go_ret
    exact ⟨rfl, below_alloc _ _⟩
  have hk : k = 1 ∨ k = 2 ∨ k = 3 ∨ k = 4 ∨ k = 5 ∨ k = 6 ∨ k = 7 ∨ k = 8 ∨ k = 9 ∨ k = 10 ∨ k = 11 := by omega
  clear hlo hhi
  rcases hk with rfl | rfl | rfl | rfl | rfl | rfl | rfl | rfl | rfl | rfl | rfl
  all_goals
    go_enter Tryz.func44, Tryz.ntmps44
    go_wp2_with fail
    go_ret
    exact ⟨rfl, below_alloc _ _⟩

/-! ### A step's line -/
/-- A letter's part of the line, and the step without it. -/
def lnS (c : UInt8) (q : Bs × Sp) : Bs × Sp :=
  if c = 110 then (q.1 ++ 32 :: Lib.itoa q.2.D, { q.2 with D := 0 })
  else if c = 107 then (q.1 ++ 32 :: Lib.itoa q.2.N, { q.2 with N := 0 })
  else if c = 117 then (q.1 ++ 32 :: Lib.decDigits q.2.k, { q.2 with k := 0 })
  else (q.1 ++ 32 :: hexRow q.2.x 16, { q.2 with x := 0 })
def lnA (ask : Bs) (q : Bs × Sp) : Bs × Sp := ask.foldl (fun q c => lnS c q) q


/-- Nothing is left. -/
def noB (s : Sp) : Bool := s.D == 0 && s.N == 0 && s.k == 0 && s.x == 0


theorem lnA_form {f : Fm} (hf : f ∈ formL) (s : Sp) : (lnA (askL f.g) (f.w, s)).1 = f.w ++ joinB 32 (stArgs f.g s) ∧ noB (lnA (askL f.g) (f.w, s)).2 = bareB f.g s := by
  have hg := formG9 f hf
  obtain ⟨K, w, g⟩ := f
  dsimp only at hg ⊢
  rcases hg with rfl | rfl | rfl | rfl | rfl | rfl
  · simp [askL, lnA, lnS, stArgs, onlyL, fN, fK, fU, fV, joinB, noB, bareB]
  · simp [askL, lnA, lnS, stArgs, onlyL, fN, fK, fU, fV, joinB, noB, bareB]
  · simp [askL, lnA, stArgs, onlyL, fN, fK, fU, fV, joinB, noB, bareB]
  · simp [askL, lnA, lnS, stArgs, onlyL, fN, fK, fU, fV, joinB, noB, bareB]
  · simp [askL, lnA, lnS, stArgs, onlyL, fN, fK, fU, fV, joinB, noB, bareB]
  · simp [askL, lnA, lnS, stArgs, onlyL, fN, fK, fU, fV, joinB, noB, bareB]
end Go.Proofs.YtkiplcmndpdifaaGreatDoor


