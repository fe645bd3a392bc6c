/- The statements' own first question: answers that the document fixes by number. -/
import Derived.Test.YtiglkmdeokmnhabWo
import Derived.Test.YtiglkmdeokmnhabWx
import Derived.Lib.SlBytesConst
namespace Go.Proofs.Ytiglkmdeokmnhab
open Go.RowKit

theorem t3_lit {r : Nat × Nat × Nat} {a b c : Nat} (h : r = (a, b, c)) : t3 r = .tuple #[.int .u64 a, .int .i64 b, .int .i64 c] := by subst h; rfl
theorem t2_lit {r : Nat × Nat} {a b : Nat} (h : r = (a, b)) : t2 r = .tuple #[.int .u64 a, .int .i64 b] := by subst h; rfl

theorem bv_lit (w : World) (l : List Nat) (e : TypeId) (hl : l.length ≤ maxLen) (h : ∀ c ∈ l, c < 256) :
    Bv (w.alloc (.cells ((ib l).map (Value.int .u8)).toArray e)) (.slice (some ⟨w.heap.size, 0, none⟩) l.length l.length) l := by
  have := sv_lit .u8 w e (ib l) (by rw [ib_len]; exact hl)
  rw [ib_len] at this
  exact ⟨this, h⟩

theorem str_of {w : World} {v : Value} {l : List Nat} (h : Bv w v l) : (convert 25 9 v).run Try.prog w = .ok (.string (str l)) w :=
  h.str 25 5 9 Try.underlying25 Try.underlying5 Try.underlying9

theorem own_form {w : World} {base e n : Nat} {v : Value} {xs : List Value} (h : w.ownsRow base e 1 v n xs) : ∃ ao cap, v = .slice ao n cap := by
  rcases h.2 with ⟨rfl, rfl⟩ | ⟨g, cap, cur, rfl, _⟩
  · exact ⟨_, _, rfl⟩
  · exact ⟨_, _, rfl⟩

theorem enc300 : Wm.enc 300 = [172, 2] := by decide
theorem numsA_lit : numsA [5, 300] = ([2, 5, 172, 2], 0) := by decide
theorem run_ab : runOf [97, 98] = [2, 97, 98] := by decide

theorem lit_take (w : World) : Bv (w.alloc (.cells #[.int .u8 172, .int .u8 2, .int .u8 255] 5)) (.slice (some ⟨w.heap.size, 0, none⟩) 3 3) [172, 2, 255] := bv_lit w [172, 2, 255] _ (by simp [maxLen]) (by simp)
theorem lit_nums (w : World) : Sv .i64 (w.alloc (.cells #[.int .i64 5, .int .i64 300] 3)) (.slice (some ⟨w.heap.size, 0, none⟩) 2 2) [5, 300] := sv_lit .i64 w _ [5, 300] (by simp [maxLen])
theorem lit_ab (w : World) : Bv (w.alloc (.cells #[.int .u8 97, .int .u8 98] 5 (2, 3))) (.slice (some ⟨w.heap.size, 0, none⟩) 2 2) [97, 98] := by
  refine ⟨⟨_, 2, rfl, Nat.le_refl _, by simp [maxLen], by simp, fun i hi => ⟨w.heap.size, 0, rfl, ?_⟩⟩, by simp⟩
  rw [Nat.zero_add, cell_of_row _ w.heap.size i _ _ (2, 3) (heap_alloc_new w _)]
  have : i = 0 ∨ i = 1 := by simp [ib] at hi; omega
  rcases this with rfl | rfl <;> rfl

theorem str_lit {w : World} {v : Value} {l : List Nat} {s : ByteArray} (h : Bv w v l) (hs : str l = s) : (convert 25 9 v).run Try.prog w = .ok (.string s) w := by
  rw [str_of h, hs]

/-- What Nums of the two numbers leaves. -/
theorem nums_lit (w : World) : Calls Try.prog 6 #[.slice (some ⟨w.heap.size, 0, none⟩) 2 2] (w.alloc (.cells #[.int .i64 5, .int .i64 300] 3)) fun e w' =>
    ∃ ao cap, e = .returned (.tuple #[.slice ao 4 cap, .int .i64 0]) ∧ Bv w' (.slice ao 4 cap) [2, 5, 172, 2] ∧ Below w.heap.size w w' := by
  refine (nums_walk (lit_nums w) (by simp) (by simp)).mono ?_
  rintro e w' ⟨v, rfl, hown, hbel⟩
  rw [numsA_lit] at hown
  obtain ⟨ao, cap, rfl⟩ := own_form hown
  exact ⟨ao, cap, by rw [numsA_lit]; rfl, own_bv hown (by simp), below_trans (below_alloc _ _) hbel⟩

theorem put_lit (w : World) : Calls Try.prog 11 #[.int .u64 300] w fun e w' =>
    ∃ ao cap, e = .returned (.slice ao 2 cap) ∧ Bv w' (.slice ao 2 cap) [172, 2] ∧ Below w.heap.size w w' := by
  refine (put_walk 300 (by omega) w).mono ?_
  rintro e w' ⟨v, rfl, hown, hbel⟩
  rw [enc300] at hown
  obtain ⟨ao, cap, rfl⟩ := own_form hown
  exact ⟨ao, cap, rfl, own_bv hown (by simp), hbel⟩

theorem run_lit (w : World) : Calls Try.prog 8 #[.slice (some ⟨w.heap.size, 0, none⟩) 2 2] (w.alloc (.cells #[.int .u8 97, .int .u8 98] 5 (2, 3))) fun e w' =>
    ∃ ao cap, e = .returned (.slice ao 3 cap) ∧ Bv w' (.slice ao 3 cap) [2, 97, 98] ∧ Below w.heap.size w w' := by
  refine (run_walk (lit_ab w) (by simp)).mono ?_
  rintro e w' ⟨v, rfl, hown, hbel⟩
  rw [run_ab] at hown
  obtain ⟨ao, cap, rfl⟩ := own_form hown
  exact ⟨ao, cap, rfl, own_bv hown (by simp), below_trans (below_alloc _ _) hbel⟩

theorem word_lit (w : World) : Calls Try.prog 12 #[.int .u64 1] w fun e w' => ∃ ao cap, e = .returned (.slice ao 8 cap) ∧ Below w.heap.size w w' := by
  refine (word_walk 1 w).mono ?_
  rintro e w' ⟨v, rfl, hown, hbel⟩
  obtain ⟨ao, cap, rfl⟩ := own_form hown
  exact ⟨ao, cap, rfl, hbel⟩

theorem s1 : str [172, 2] = ⟨#[172, 2]⟩ := by decide
theorem s2 : str [2, 5, 172, 2] = ⟨#[2, 5, 172, 2]⟩ := by decide
theorem s3 : str [2, 97, 98] = ⟨#[2, 97, 98]⟩ := by decide

set_option maxRecDepth 100000 in
set_option maxHeartbeats 1000000 in
theorem awake_walk (w : World) :
    Calls Try.prog 4 #[] w fun e w' => e = .returned (.bool true) ∧ Below w.heap.size w w' := by
  go_enter Try.func4, Try.ntmps4
  go_wp2_with fail
  refine (take_walk (lit_take w)).mono ?_
  rintro e w1 ⟨he, hw1⟩
  rw [t3_lit (show Wm.take [172, 2, 255] = (300, 2, 0) by decide)] at he
  subst he
  have B1 : Hid (Below w.heap.size w w1) := by rw [hw1]; exact below_alloc _ _
  clear hw1
  go_wp2_with fail
  refine (nums_lit w1).mono ?_
  rintro e w2 ⟨a2, c2, rfl, hb2, hbel2⟩
  have B2 : Hid (Below w.heap.size w w2) := below_trans B1.out hbel2
  have HB2 : Hid (Bv w2 (.slice a2 4 c2) [2, 5, 172, 2]) := hb2
  clear hb2 hbel2
  go_wp2_with fail
  refine (put_lit w2).mono ?_
  rintro e w3 ⟨a3, c3, rfl, hb3, hbel3⟩
  have B3 : Hid (Below w.heap.size w w3) := below_trans B2.out hbel3
  have r3 := str_lit hb3 s1
  have r3' := str_lit (HB2.out.below hbel3) s2
  clear hb3 hbel3
  have hcv := fun (w : World) (C : Array Value) (n c : Nat) => Lib.run_convert_bytes_const (P := Try.prog) w 25 5 C n c Try.underlying25 Try.underlying5
  go_wp2_with fail
  refine (run_lit w3).mono ?_
  rintro e w4 ⟨a4, c4, rfl, hb4, hbel4⟩
  have B4 : Hid (Below w.heap.size w w4) := below_trans B3.out hbel4
  have r4 := str_lit hb4 s3
  clear hb4 hbel4 hcv r3 r3'
  go_wp2_with fail
  refine (word_lit w4).mono ?_
  rintro e w5 ⟨a5, c5, rfl, hbel5⟩
  have B5 : Hid (Below w.heap.size w w5) := below_trans B4.out hbel5
  clear hbel5 r4
  go_wp2_with fail
  go_ret
  exact ⟨rfl, B5.out⟩
end Go.Proofs.Ytiglkmdeokmnhab
