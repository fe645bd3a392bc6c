/- The statements' own first question. -/
import Derived.Test.YtninkhijnicbjaaDg
namespace Go.Proofs.Ytninkhijnicbjaa
open Go.RowKit

theorem str_lit {w : World} {v : Value} {l : List Nat} {s : ByteArray} (h : Bv w v l) (hs : str l = s) : (convert 36 9 v).run Try.prog w = .ok (.string s) w := by
  rw [str_of h, hs]
theorem conv_lit (w : World) (C : Array Value) (n c : Nat) : (convert 36 36 (.slice (some ⟨w.heap.size, 0, none⟩) n c)).run Try.prog (w.alloc (.cells C 5)) = .ok (.slice (some ⟨w.heap.size, 0, none⟩) n c) (w.alloc (.cells C 5 (C.size, C.size + 1))) :=
  Lib.run_convert_bytes_const (P := Try.prog) w 36 5 C n c Try.underlying36 Try.underlying5
theorem conv_lit2 (w : World) (o : Obj) (C : Array Value) (n c : Nat) : (convert 36 36 (.slice (some ⟨w.heap.size + 1, 0, none⟩) n c)).run Try.prog ((w.alloc o).alloc (.cells C 5)) = .ok (.slice (some ⟨w.heap.size + 1, 0, none⟩) n c) ((w.alloc o).alloc (.cells C 5 (C.size, C.size + 1))) := by
  have := conv_lit (w.alloc o) C n c
  simpa using this
theorem lit_bv (w : World) (l : List Nat) (e : TypeId) (m : Nat × Nat) (hl : l.length ≤ maxLen) (h : ∀ c ∈ l, c < 256) : Bv (w.alloc (.cells (cb l).toArray e m)) (.slice (some ⟨w.heap.size, 0, none⟩) l.length l.length) l := by
  refine ⟨⟨_, l.length, by rw [ib_len], by rw [ib_len]; exact Nat.le_refl _, hl, by simp, fun i hi => ⟨w.heap.size, 0, rfl, ?_⟩⟩, h⟩
  rw [Nat.zero_add, cell_of_row _ w.heap.size i _ _ m (heap_alloc_new w _)]
  rw [ib_len] at hi
  simp [ib, List.getD, hi]
theorem lit_ab (w : World) : Bv (w.alloc (.cells #[.int .u8 97, .int .u8 98] 5 (2, 3))) (.slice (some ⟨w.heap.size, 0, none⟩) 2 2) [97, 98] := lit_bv w [97, 98] _ _ (by simp [maxLen]) (by simp)
theorem lit_1 (w : World) (c : Nat) (hc : c < 256) : Bv (w.alloc (.cells #[.int .u8 c] 5 (1, 2))) (.slice (some ⟨w.heap.size, 0, none⟩) 1 1) [c] := lit_bv w [c] _ _ (by simp [maxLen]) (by simpa using hc)

/-- The image that is asked for. -/
theorem lit_image (w : World) : Pv (((w.alloc (.cells #[.int .u8 99] 5 (1, 2))).alloc (.cells #[.int .u8 97, .int .u8 98] 5 (2, 3))).alloc (.cells #[.slice (some ⟨w.heap.size, 0, none⟩) 1 1, .slice (some ⟨w.heap.size + 1, 0, none⟩) 2 2, .slice none 0 0] 36))
    (.slice (some ⟨w.heap.size + 2, 0, none⟩) 3 3) [[99], [97, 98], []] := by
  have h1 := (lit_1 w 99 (by omega)).below (below_trans (below_alloc _ (.cells #[.int .u8 97, .int .u8 98] 5 (2, 3))) (below_alloc _ (.cells #[.slice (some ⟨w.heap.size, 0, none⟩) 1 1, .slice (some ⟨w.heap.size + 1, 0, none⟩) 2 2, .slice none 0 0] 36)))
  have h2 := (lit_ab (w.alloc (.cells #[.int .u8 99] 5 (1, 2)))).below (below_alloc _ (.cells #[.slice (some ⟨w.heap.size, 0, none⟩) 1 1, .slice (some ⟨w.heap.size + 1, 0, none⟩) 2 2, .slice none 0 0] 36))
  refine ⟨_, 3, rfl, Nat.le_refl _, by simp [maxLen], by simp, fun i hi => ?_⟩
  simp at hi
  have : i = 0 ∨ i = 1 ∨ i = 2 := by omega
  rcases this with rfl | rfl | rfl
  · exact ⟨_, _, _, rfl, by simp [go_sem], h1⟩
  · exact ⟨w.heap.size + 2, 0, .slice (some ⟨w.heap.size + 1, 0, none⟩) 2 2, rfl, by simp [go_sem], by simpa [bk] using h2⟩
  · exact ⟨_, _, _, rfl, by simp [go_sem], Bv.nil _⟩

theorem aw1 : writeI (loadS (List.replicate 3 [])) 1 [97, 98] = 0 ∧ writeS (loadS (List.replicate 3 [])) 1 [97, 98] = ⟨[[], [97, 98], []], false, -1, 0, 1⟩ := ⟨rfl, rfl⟩
theorem aw2 : refI ⟨[[], [97, 98], []], false, -1, 0, 1⟩ 1 = 0 ∧ readL ⟨[[], [97, 98], []], false, -1, 0, 1⟩ 1 = [97, 98] ∧ readS ⟨[[], [97, 98], []], false, -1, 0, 1⟩ 1 = ⟨[[], [97, 98], []], false, -1, 1, 1⟩ := ⟨rfl, rfl, rfl⟩
theorem aw3 : cutS ⟨[[], [97, 98], []], false, -1, 1, 1⟩ 1 = ⟨[[], [97, 98], []], false, 1, 1, 1⟩ := rfl
theorem aw4 : writeI ⟨[[], [97, 98], []], false, 1, 1, 1⟩ 0 [99] = 0 ∧ writeS ⟨[[], [97, 98], []], false, 1, 1, 1⟩ 0 [99] = ⟨[[99], [97, 98], []], false, 0, 1, 2⟩ := ⟨rfl, rfl⟩
theorem aw5 : writeI ⟨[[99], [97, 98], []], false, 0, 1, 2⟩ 0 [100] = 80 ∧ writeS ⟨[[99], [97, 98], []], false, 0, 1, 2⟩ 0 [100] = ⟨[[99], [97, 98], []], true, -1, 1, 2⟩ := ⟨rfl, rfl⟩

set_option maxRecDepth 100000 in
set_option maxHeartbeats 2000000 in
theorem awake_walk (w : World) : Calls Try.prog 8 #[] w fun e w' => e = .returned (.bool true) ∧ Below w.heap.size w w' := by
  have hcv := conv_lit
  have hcv2 := conv_lit2
  go_enter Try.func8, Try.ntmps8
  go_wp2_with fail
  refine (new_walk (n := 3) (by omega) (by omega)).mono ?_
  rintro e w1 ⟨v, D1, rfl, hD1, hB1, hx1⟩
  obtain ⟨sb, hv⟩ : ∃ sb, v = .pointer (some ⟨sb, 0, none⟩) := by obtain ⟨sb, _, _, e, _⟩ := hD1; exact ⟨sb, e⟩
  subst hv
  obtain ⟨p, hp⟩ : ∃ p, p = Value.pointer (some ⟨sb, 0, none⟩) := ⟨_, rfl⟩
  have HP : Hid (p = Value.pointer (some ⟨sb, 0, none⟩)) := hp
  have HD1 : Hid (Dsk 59 D1 w1 p (loadS (List.replicate 3 []))) := by show Dsk _ _ _ _ _; rw [hp]; exact hD1
  have HB1 : Hid (Below w.heap.size w w1 ∧ ∀ x, D1 x → w.heap.size ≤ x) := ⟨hB1, hx1⟩
  clear hD1 hB1 hx1 hp
  go_wp2_with fail
  rw [← HP.out]
  refine (write_walk (HD1.out.below (below_alloc _ _)) 1 (lit_ab w1) (by show (0 : Nat) < _; omega)).mono ?_
  rintro e w2 ⟨rfl, ⟨D2, hD2, hx2⟩, hC2⟩
  rw [aw1.1]
  rw [aw1.2] at hD2
  have HD2 : Hid (Dsk 59 D2 w2 p ⟨[[], [97, 98], []], false, -1, 0, 1⟩) := hD2
  have HB2 : Hid (Below w.heap.size w w2 ∧ ∀ x, D2 x → w.heap.size ≤ x) := by
    obtain ⟨a, b⟩ := HB1.out
    exact ⟨(a.trans ((below_alloc w1 _).mono a.size)).trans (hC2.to_below (by have := a.size; simp; omega) b), fun x hx => by
      rcases hx2 x hx with h | h
      · exact b x h
      · have := a.size; simp at h; omega⟩
  clear hD2 hx2 hC2
  rw [HP.out]
  go_wp2_with fail
  rw [← HP.out]
  refine (read_walk HD2.out 1 (by show (0 : Nat) < _; omega)).mono ?_
  rintro e w3 ⟨r, rfl, ho3, hD3, hC3⟩
  rw [aw2.1]
  rw [aw2.2.1] at ho3
  rw [aw2.2.2] at hD3
  obtain ⟨ro, rc, hr, _, _⟩ := row_form ho3
  subst hr
  have HX3 : Hid (Bx D2 w3 (.slice ro 2 rc) [97, 98]) := own_bx ho3 (by simp) (fun x hx => HD2.out.lt hx)
  have HD3 : Hid (Dsk 59 D2 w3 p ⟨[[], [97, 98], []], false, -1, 1, 1⟩) := hD3
  have HB3 : Hid (Below w.heap.size w w3) := HB2.out.1.trans (hC3.to_below HB2.out.1.size HB2.out.2)
  clear ho3 hD3 hC3
  rw [HP.out]
  go_wp2_with fail
  rw [← HP.out]
  refine (cut_walk HD3.out (n := 1) (by omega)).mono ?_
  rintro e w4 ⟨rfl, hD4, hC4⟩
  rw [aw3] at hD4
  have HX4 : Hid (Bx D2 w4 (.slice ro 2 rc) [97, 98]) := HX3.out.ch hC4 (fun _ hx => .inl hx)
  have HD4 : Hid (Dsk 59 D2 w4 p ⟨[[], [97, 98], []], false, 1, 1, 1⟩) := hD4
  have HB4 : Hid (Below w.heap.size w w4) := HB3.out.trans (hC4.to_below HB3.out.size HB2.out.2)
  clear hD4 hC4
  rw [HP.out]
  go_wp2_with fail
  rw [← HP.out]
  refine (write_walk (HD4.out.below (below_alloc _ _)) 0 (lit_1 w4 99 (by omega)) (by show (1 : Nat) < _; omega)).mono ?_
  rintro e w5 ⟨rfl, ⟨D5, hD5, hx5⟩, hC5⟩
  rw [aw4.1]
  rw [aw4.2] at hD5
  have HX5 : Hid (Bx D5 w5 (.slice ro 2 rc) [97, 98]) := (HX4.out.below (below_alloc _ _)).ch hC5 hx5
  have HD5 : Hid (Dsk 59 D5 w5 p ⟨[[99], [97, 98], []], false, 0, 1, 2⟩) := hD5
  have HB5 : Hid (Below w.heap.size w w5 ∧ ∀ x, D5 x → w.heap.size ≤ x) := by
    have a := HB4.out
    have b := HB2.out.2
    exact ⟨(a.trans ((below_alloc w4 _).mono a.size)).trans (hC5.to_below (by have := a.size; simp; omega) b), fun x hx => by
      rcases hx5 x hx with h | h
      · exact b x h
      · have := a.size; simp at h; omega⟩
  clear hD5 hx5 hC5
  rw [HP.out]
  go_wp2_with fail
  rw [← HP.out]
  refine (write_walk (HD5.out.below (below_alloc _ _)) 0 (lit_1 w5 100 (by omega)) (by show (2 : Nat) < _; omega)).mono ?_
  rintro e w6 ⟨rfl, ⟨D6, hD6, hx6⟩, hC6⟩
  rw [aw5.1]
  rw [aw5.2] at hD6
  have HX6 : Hid (Bx D6 w6 (.slice ro 2 rc) [97, 98]) := (HX5.out.below (below_alloc _ _)).ch hC6 hx6
  have HD6 : Hid (Dsk 59 D6 w6 p ⟨[[99], [97, 98], []], true, -1, 1, 2⟩) := hD6
  have HB6 : Hid (Below w.heap.size w w6) := by
    obtain ⟨a, b⟩ := HB5.out
    exact (a.trans ((below_alloc w5 _).mono a.size)).trans (hC6.to_below (by have := a.size; simp; omega) b)
  clear hD6 hx6 hC6
  rw [HP.out]
  have s6 := str_lit HX6.out.1 (s := ⟨#[97, 98]⟩) rfl
  go_wp2_with fail
  rw [← HP.out]
  refine (down_walk HD6.out).mono ?_
  rintro e w9 ⟨rfl, h9⟩
  have h9 := h9.symm
  subst h9
  rw [HP.out]
  clear s6
  go_wp2_with fail
  rw [← HP.out]
  refine (image_walk HD6.out).mono ?_
  rintro e w7 ⟨g, cap, rfl, hG, _, hB7⟩
  have HG : Hid (Pv w7 (.slice (some ⟨g, 0, none⟩) 3 cap) [[99], [97, 98], []]) := hG.pv (by decide)
  have HB7 : Hid (Below w6.heap.size w6 w7) := hB7
  clear hG hB7
  rw [HP.out]
  go_wp2_with fail
  refine (images_walk (HG.out.below (below_trans (below_trans (below_alloc _ _) (below_alloc _ _)) (below_alloc _ _))) (lit_image w7)).mono ?_
  rintro e w8 ⟨rfl, hB8⟩
  have HB8 : Hid (Below w6.heap.size w6 w8) := below_trans (below_trans HB7.out (below_trans (below_trans (below_alloc _ _) (below_alloc _ _)) (below_alloc _ _))) hB8
  have HD8 : Hid (Dsk 59 D6 w8 p ⟨[[99], [97, 98], []], true, -1, 1, 2⟩) := HD6.out.below HB8.out
  clear hB8
  rw [decide_eq_true rfl]
  go_wp2_with fail
  rw [← HP.out]
  refine (blocks_walk HD8.out).mono ?_
  rintro e w9 ⟨rfl, h9⟩
  have h9 := h9.symm
  subst h9
  rw [HP.out]
  go_wp2_with fail
  rw [← HP.out]
  refine (writes_walk HD8.out).mono ?_
  rintro e w9 ⟨rfl, h9⟩
  have h9 := h9.symm
  subst h9
  rw [HP.out]
  go_wp2_with fail
  rw [← HP.out]
  refine (reads_walk HD8.out).mono ?_
  rintro e w9 ⟨rfl, h9⟩
  have h9 := h9.symm
  subst h9
  rw [HP.out]
  go_wp2_with fail
  go_ret
  exact ⟨rfl, below_trans HB6.out HB8.out⟩
end Go.Proofs.Ytninkhijnicbjaa
