/- The statements' own first question. -/
import Derived.Test.YtnnammlipfappaaDg

namespace Go.Proofs.Ytnnammlipfappaa

open Go.RowKit



theorem str_lit {w : World} {v : Value} {l : List Nat} {s : ByteArray} (h : Bv w v l) (hs : str l = s) : (convert 57 9 v).run Try.prog w = .ok (.string s) w := by
  rw [str_of h, hs]
theorem conv_lit (w : World) (C : Array Value) (n c : Nat) : (convert 57 57 (.slice (some ⟨w.heap.size, 0, none⟩) n c)).run Try.prog (w.alloc (.cells C 5)) = .ok (.slice (some ⟨w.heap.size, 0, none⟩) n c) (w.alloc (.cells C 5 (C.size, C.size + 1))) :=
  Lib.run_convert_bytes_const (P := Try.prog) w 57 5 C n c Try.underlying57 Try.underlying5
theorem conv_lit2 (w : World) (o : Obj) (C : Array Value) (n c : Nat) : (convert 57 57 (.slice (some ⟨w.heap.size + 1, 0, none⟩) n c)).run Try.prog ((w.alloc o).alloc (.cells C 5)) = .ok (.slice (some ⟨w.heap.size + 1, 0, none⟩) n c) ((w.alloc o).alloc (.cells C 5 (C.size, C.size + 1))) := by
  have := conv_lit (w.alloc o) C n c
  simpa using this
theorem lit_bv (w : World) (l : List Nat) (e : TypeId) (m : Nat × Nat) (hl : l.length ≤ maxLen) (h : ∀ c ∈ l, c < 256) : Bv (w.alloc (.cells (cb l).toArray e m)) (.slice (some ⟨w.heap.size, 0, none⟩) l.length l.length) l := by
  refine ⟨⟨_, l.length, by rw [ib_len], by rw [ib_len]; exact Nat.le_refl _, hl, by simp, fun i hi => ⟨w.heap.size, 0, rfl, ?_⟩⟩, h⟩
  rw [Nat.zero_add, cell_of_row _ w.heap.size i _ _ m (heap_alloc_new w _)]
  rw [ib_len] at hi
  simp [ib, List.getD, hi]
theorem lit_ab (w : World) : Bv (w.alloc (.cells #[.int .u8 97, .int .u8 98] 5 (2, 3))) (.slice (some ⟨w.heap.size, 0, none⟩) 2 2) [97, 98] := lit_bv w [97, 98] _ _ (by simp [maxLen]) (by simp)
theorem lit_1 (w : World) (c : Nat) (hc : c < 256) : Bv (w.alloc (.cells #[.int .u8 c] 5 (1, 2))) (.slice (some ⟨w.heap.size, 0, none⟩) 1 1) [c] := lit_bv w [c] _ _ (by simp [maxLen]) (by simpa using hc)


/-- The image that is asked for. -/
theorem lit_image (w : World) : PvD (((w.alloc (.cells #[.int .u8 99] 5 (1, 2))).alloc (.cells #[.int .u8 97, .int .u8 98] 5 (2, 3))).alloc (.cells #[.slice (some ⟨w.heap.size, 0, none⟩) 1 1, .slice (some ⟨w.heap.size + 1, 0, none⟩) 2 2, .slice none 0 0] 57))
    (.slice (some ⟨w.heap.size + 2, 0, none⟩) 3 3) [[99], [97, 98], []] := by
  have h1 := (lit_1 w 99 (by omega)).below (below_trans (below_alloc _ (.cells #[.int .u8 97, .int .u8 98] 5 (2, 3))) (below_alloc _ (.cells #[.slice (some ⟨w.heap.size, 0, none⟩) 1 1, .slice (some ⟨w.heap.size + 1, 0, none⟩) 2 2, .slice none 0 0] 57)))
  have h2 := (lit_ab (w.alloc (.cells #[.int .u8 99] 5 (1, 2)))).below (below_alloc _ (.cells #[.slice (some ⟨w.heap.size, 0, none⟩) 1 1, .slice (some ⟨w.heap.size + 1, 0, none⟩) 2 2, .slice none 0 0] 57))
  refine ⟨_, 3, rfl, Nat.le_refl _, by simp [maxLen], by simp, fun i hi => ?_⟩
  simp at hi
  have : i = 0 ∨ i = 1 ∨ i = 2 := by omega
  rcases this with rfl | rfl | rfl
  · exact ⟨_, _, _, rfl, by simp [go_sem], h1⟩
  · exact ⟨w.heap.size + 2, 0, .slice (some ⟨w.heap.size + 1, 0, none⟩) 2 2, rfl, by simp [go_sem], by simpa [bk] using h2⟩
  · exact ⟨_, _, _, rfl, by simp [go_sem], Bv.nil _⟩


theorem aw1 : writeI (loadS (List.replicate 3 [])) 1 [97, 98] = 0 ∧ writeS (loadS (List.replicate 3 [])) 1 [97, 98] = ⟨[[], [97, 98], []], false, -1, 0, 1⟩ := ⟨rfl, rfl⟩
theorem aw2 : refI ⟨[[], [97, 98], []], false, -1, 0, 1⟩ 1 = 0 ∧ readL ⟨[[], [97, 98], []], false, -1, 0, 1⟩ 1 = [97, 98] ∧ readS ⟨[[], [97, 98], []], false, -1, 0, 1⟩ 1 = ⟨[[], [97, 98], []], false, -1, 1, 1⟩ := ⟨rfl, rfl, rfl⟩
theorem aw3 : cutS ⟨[[], [97, 98], []], false, -1, 1, 1⟩ 1 = ⟨[[], [97, 98], []], false, 1, 1, 1⟩ := rfl
theorem aw4 : writeI ⟨[[], [97, 98], []], false, 1, 1, 1⟩ 0 [99] = 0 ∧ writeS ⟨[[], [97, 98], []], false, 1, 1, 1⟩ 0 [99] = ⟨[[99], [97, 98], []], false, 0, 1, 2⟩ := ⟨rfl, rfl⟩
theorem aw5 : writeI ⟨[[99], [97, 98], []], false, 0, 1, 2⟩ 0 [100] = 80 ∧ writeS ⟨[[99], [97, 98], []], false, 0, 1, 2⟩ 0 [100] = ⟨[[99], [97, 98], []], true, -1, 1, 2⟩ := ⟨rfl, rfl⟩


end Go.Proofs.Ytnnammlipfappaa


