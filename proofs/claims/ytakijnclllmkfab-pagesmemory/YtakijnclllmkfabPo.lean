/- The statements' own first question; literals. -/
import Derived.Test.YtakijnclllmkfabPn

namespace Go.Proofs.Ytakijnclllmkfab

open Go.RowKit



theorem conv3 (w : World) (o p : Obj) (C : Array Value) (n c : Nat) : (convert 31 31 (.slice (some ⟨w.heap.size + 2, 0, none⟩) n c)).run Try.prog (((w.alloc o).alloc p).alloc (.cells C 5)) = .ok (.slice (some ⟨w.heap.size + 2, 0, none⟩) n c) (((w.alloc o).alloc p).alloc (.cells C 5 (C.size, C.size + 1))) := by
  have := conv_lit ((w.alloc o).alloc p) C n c
  simpa using this
theorem conv4 (w : World) (o p q : Obj) (C : Array Value) (n c : Nat) : (convert 31 31 (.slice (some ⟨w.heap.size + 3, 0, none⟩) n c)).run Try.prog ((((w.alloc o).alloc p).alloc q).alloc (.cells C 5)) = .ok (.slice (some ⟨w.heap.size + 3, 0, none⟩) n c) ((((w.alloc o).alloc p).alloc q).alloc (.cells C 5 (C.size, C.size + 1))) := by
  have := conv_lit (((w.alloc o).alloc p).alloc q) C n c
  simpa using this
theorem conv5 (w : World) (o p q r : Obj) (C : Array Value) (n c : Nat) : (convert 31 31 (.slice (some ⟨w.heap.size + 4, 0, none⟩) n c)).run Try.prog (((((w.alloc o).alloc p).alloc q).alloc r).alloc (.cells C 5)) = .ok (.slice (some ⟨w.heap.size + 4, 0, none⟩) n c) (((((w.alloc o).alloc p).alloc q).alloc r).alloc (.cells C 5 (C.size, C.size + 1))) := by
  have := conv_lit ((((w.alloc o).alloc p).alloc q).alloc r) C n c
  simpa using this


/-- A list of one write, of bytes that lie there. -/
theorem lit_one {A : Nat → Prop} {w : World} {p : Int} {d : List Nat} {ao : Option Addr} {n c : Nat} (hd : Bx A w (.slice ao n c) d) (hA : ∀ x, A x → x < w.heap.size) (hp : -9223372036854775808 ≤ p ∧ p < 9223372036854775808) :
    Tx A (w.alloc (.cells #[.int .i64 p, .slice ao n c] 33)) (.slice (some ⟨w.heap.size, 0, none⟩) 1 1) [(p, d)] := by
  refine ⟨⟨_, 1, rfl, Nat.le_refl _, by simp [maxLen], by simp, fun i hi => ?_⟩, fun q hq => by simp at hq; subst hq; exact hp⟩
  simp at hi
  subst hi
  exact ⟨w.heap.size, 0, .slice ao n c, rfl, fun e => by have := hA _ e; omega, by simp [go_sem], by simp [go_sem], hd.below (below_alloc _ _)⟩
theorem lit_two {A : Nat → Prop} {w : World} {p q : Int} {d e : List Nat} {ao bo : Option Addr} {n c n' c' : Nat} (hd : Bx A w (.slice ao n c) d) (he : Bx A w (.slice bo n' c') e) (hA : ∀ x, A x → x < w.heap.size) (hp : -9223372036854775808 ≤ p ∧ p < 9223372036854775808) (hq : -9223372036854775808 ≤ q ∧ q < 9223372036854775808) :
    Tx A (w.alloc (.cells #[.int .i64 p, .slice ao n c, .int .i64 q, .slice bo n' c'] 33)) (.slice (some ⟨w.heap.size, 0, none⟩) 2 2) [(p, d), (q, e)] := by
  refine ⟨⟨_, 2, rfl, Nat.le_refl _, by simp [maxLen], by simp, fun i hi => ?_⟩, fun r hr => by simp at hr; rcases hr with rfl | rfl; exact hp; exact hq⟩
  simp at hi
  have : i = 0 ∨ i = 1 := by omega
  rcases this with rfl | rfl
  · exact ⟨w.heap.size, 0, .slice ao n c, rfl, fun e => by have := hA _ e; omega, by simp [go_sem], by simp [go_sem], hd.below (below_alloc _ _)⟩
  · exact ⟨w.heap.size, 0, .slice bo n' c', rfl, fun e => by have := hA _ e; omega, by simp [go_sem], by simp [go_sem], he.below (below_alloc _ _)⟩
theorem Bv.bxA {A : Nat → Prop} {w : World} {b n c : Nat} {d : List Nat} (h : Bv w (.slice (some ⟨b, 0, none⟩) n c) d) (hA : ¬ A b) : Bx A w (.slice (some ⟨b, 0, none⟩) n c) d := ⟨h, .inr fun x hx e => by simp [Value.ownBlock] at hx; subst hx; exact hA e⟩


def aS1 : Dk := ⟨[[1, 2, 0, 0], [], [], [], [], []], false, -1, 0, 2⟩
def aS2 : Dk := ⟨[[1, 2, 0, 0], [2, 2, 2, 3], [120], [121], [], []], false, -1, 0, 5⟩
def aS3 : Dk := ⟨[[3, 2, 4, 3], [2, 2, 2, 3], [120], [121], [122], []], false, -1, 0, 7⟩
def aS4 : Dk := ⟨[[3, 2, 4, 3], [2, 2, 2, 3], [120], [121], [122], []], false, -1, 1, 7⟩
theorem pa1 : formO (loadS (List.replicate 6 [])) 2 = (0, some ⟨1, [0, 0], 0, false⟩, aS1) := by rfl
theorem pa2 : putO ⟨1, [0, 0], 0, false⟩ aS1 [(0, [120]), (1, [121])] = (0, ⟨2, [2, 3], 1, false⟩, aS2) := by rfl
theorem pa3 : putO ⟨2, [2, 3], 1, false⟩ aS2 [(0, [122])] = (0, ⟨3, [4, 3], 0, false⟩, aS3) := by rfl
theorem pa4 : getI ⟨3, [4, 3], 0, false⟩ aS3 0 = 0 ∧ getL ⟨3, [4, 3], 0, false⟩ aS3 0 = [122] ∧ getS ⟨3, [4, 3], 0, false⟩ aS3 0 = aS4 ∧ getB ⟨3, [4, 3], 0, false⟩ aS3 = ⟨3, [4, 3], 0, false⟩ := ⟨rfl, rfl, rfl, rfl⟩


theorem Bk.form {F : Value → Value → Bo → Array Value} {TB TD : TypeId} {A : Nat → Prop} {w : World} {v dv : Value} {P : Bo} {S : Dk} (h : Bk F TB TD A w v dv P S) : (∃ pb, v = .pointer (some ⟨pb, 0, none⟩)) ∧ ∃ sb, dv = .pointer (some ⟨sb, 0, none⟩) := by
  obtain ⟨D, pb, tv, e, h⟩ := h
  obtain ⟨sb, gp, cap, e2, _⟩ := h.dsk
  exact ⟨⟨pb, e⟩, sb, e2⟩


/-- The image that is asked for. -/
theorem lit_im6 (w : World) : Pv ((((((w.alloc (.cells #[.int .u8 3, .int .u8 2, .int .u8 4, .int .u8 3] 5 (4, 5))).alloc (.cells #[.int .u8 2, .int .u8 2, .int .u8 2, .int .u8 3] 5 (4, 5))).alloc (.cells #[.int .u8 120] 5 (1, 2))).alloc (.cells #[.int .u8 121] 5 (1, 2))).alloc (.cells #[.int .u8 122] 5 (1, 2))).alloc
      (.cells #[.slice (some ⟨w.heap.size, 0, none⟩) 4 4, .slice (some ⟨w.heap.size + 1, 0, none⟩) 4 4, .slice (some ⟨w.heap.size + 2, 0, none⟩) 1 1, .slice (some ⟨w.heap.size + 3, 0, none⟩) 1 1, .slice (some ⟨w.heap.size + 4, 0, none⟩) 1 1, .slice none 0 0] 31))
    (.slice (some ⟨w.heap.size + 5, 0, none⟩) 6 6) aS4.bl := by
  obtain ⟨L, hL⟩ : ∃ L, L = Obj.cells #[.slice (some ⟨w.heap.size, 0, none⟩) 4 4, .slice (some ⟨w.heap.size + 1, 0, none⟩) 4 4, .slice (some ⟨w.heap.size + 2, 0, none⟩) 1 1, .slice (some ⟨w.heap.size + 3, 0, none⟩) 1 1, .slice (some ⟨w.heap.size + 4, 0, none⟩) 1 1, .slice none 0 0] 31 := ⟨_, rfl⟩
  have b1 := lit_bv w [3, 2, 4, 3] 5 (4, 5) (by simp [maxLen]) (by simp)
  obtain ⟨w1, hw1⟩ : ∃ w1, w1 = w.alloc (.cells #[.int .u8 3, .int .u8 2, .int .u8 4, .int .u8 3] 5 (4, 5)) := ⟨_, rfl⟩
  have b1 : Bv w1 (.slice (some ⟨w.heap.size, 0, none⟩) 4 4) [3, 2, 4, 3] := by rw [hw1]; exact b1
  have s1 : w1.heap.size = w.heap.size + 1 := by rw [hw1]; simp
  obtain ⟨w2, hw2⟩ : ∃ w2, w2 = w1.alloc (.cells #[.int .u8 2, .int .u8 2, .int .u8 2, .int .u8 3] 5 (4, 5)) := ⟨_, rfl⟩
  have b2 : Bv w2 (.slice (some ⟨w1.heap.size, 0, none⟩) 4 4) [2, 2, 2, 3] := by rw [hw2]; exact lit_bv w1 [2, 2, 2, 3] 5 (4, 5) (by simp [maxLen]) (by simp)
  have s2 : w2.heap.size = w.heap.size + 2 := by rw [hw2]; simp [s1]
  obtain ⟨w3, hw3⟩ : ∃ w3, w3 = w2.alloc (.cells #[.int .u8 120] 5 (1, 2)) := ⟨_, rfl⟩
  have b3 : Bv w3 (.slice (some ⟨w2.heap.size, 0, none⟩) 1 1) [120] := by rw [hw3]; exact lit_1 w2 120 (by omega)
  have s3 : w3.heap.size = w.heap.size + 3 := by rw [hw3]; simp [s2]
  obtain ⟨w4, hw4⟩ : ∃ w4, w4 = w3.alloc (.cells #[.int .u8 121] 5 (1, 2)) := ⟨_, rfl⟩
  have b4 : Bv w4 (.slice (some ⟨w3.heap.size, 0, none⟩) 1 1) [121] := by rw [hw4]; exact lit_1 w3 121 (by omega)
  have s4 : w4.heap.size = w.heap.size + 4 := by rw [hw4]; simp [s3]
  obtain ⟨w5, hw5⟩ : ∃ w5, w5 = w4.alloc (.cells #[.int .u8 122] 5 (1, 2)) := ⟨_, rfl⟩
  have b5 : Bv w5 (.slice (some ⟨w4.heap.size, 0, none⟩) 1 1) [122] := by rw [hw5]; exact lit_1 w4 122 (by omega)
  have s5 : w5.heap.size = w.heap.size + 5 := by rw [hw5]; simp [s4]
  rw [← hw1, ← hw2, ← hw3, ← hw4, ← hw5, ← hL]
  have q1 : Below w1.heap.size w1 w2 := by rw [hw2]; exact below_alloc _ _
  have q2 : Below w2.heap.size w2 w3 := by rw [hw3]; exact below_alloc _ _
  have q3 : Below w3.heap.size w3 w4 := by rw [hw4]; exact below_alloc _ _
  have q4 : Below w4.heap.size w4 w5 := by rw [hw5]; exact below_alloc _ _
  have q5 : Below w5.heap.size w5 (w5.alloc L) := below_alloc _ _
  have c1 := ((((b1.below q1).below q2).below q3).below q4).below q5
  have c2 := (((b2.below q2).below q3).below q4).below q5
  have c3 := ((b3.below q3).below q4).below q5
  have c4 := (b4.below q4).below q5
  have c5 := b5.below q5
  rw [s1] at c2
  rw [s2] at c3
  rw [s3] at c4
  rw [s4] at c5
  rw [← s5]
  have hc : ∀ i u, (#[Value.slice (some ⟨w.heap.size, 0, none⟩) 4 4, .slice (some ⟨w.heap.size + 1, 0, none⟩) 4 4, .slice (some ⟨w.heap.size + 2, 0, none⟩) 1 1, .slice (some ⟨w.heap.size + 3, 0, none⟩) 1 1, .slice (some ⟨w.heap.size + 4, 0, none⟩) 1 1, .slice none 0 0] : Array Value)[i]? = some u → (w5.alloc L).cell? ⟨w5.heap.size, 0 + i, none⟩ = some u := fun i u h => by
    rw [Nat.zero_add, cell_of_row _ w5.heap.size i _ _ (0, 0) (by rw [heap_alloc_new, hL])]; exact h
  refine ⟨_, 6, rfl, Nat.le_refl _, by simp [maxLen], by simp, fun i hi => ?_⟩
  have hi6 : i < 6 := hi
  have : i = 0 ∨ i = 1 ∨ i = 2 ∨ i = 3 ∨ i = 4 ∨ i = 5 := by omega
  rcases this with rfl | rfl | rfl | rfl | rfl | rfl
  · exact ⟨_, 0, _, rfl, hc 0 _ rfl, c1⟩
  · exact ⟨_, 0, _, rfl, hc 1 _ rfl, c2⟩
  · exact ⟨_, 0, _, rfl, hc 2 _ rfl, c3⟩
  · exact ⟨_, 0, _, rfl, hc 3 _ rfl, c4⟩
  · exact ⟨_, 0, _, rfl, hc 4 _ rfl, c5⟩
  · exact ⟨_, 0, _, rfl, hc 5 _ rfl, Bv.nil _⟩


set_option maxRecDepth 100000 in
set_option maxHeartbeats 2000000 in
theorem awake_walk (w : World) : Calls Try.prog 4 #[] w fun e w' => e = .returned (.bool true) ∧ Below w.heap.size w w' := by
  have hcv := conv_lit
  have hcv2 := conv_lit2
  have hcv3 := conv3
  have hcv4 := conv4
  have hcv5 := conv5
  go_enter Try.func4, Try.ntmps4
  go_wp2_with fail
  refine (new_walk (n := 6) (by omega) (by omega)).mono ?_
  rintro e w1 ⟨dv, D1, rfl, hD1, hB1, hx1⟩
  have HB1 : Hid (Below w.heap.size w w1 ∧ ∀ x, D1 x → w.heap.size ≤ x) := ⟨hB1, hx1⟩
  have HD1 : Hid (Dsk 62 D1 w1 dv (loadS (List.replicate 6 []))) := hD1
  clear hD1 hB1 hx1
  go_wp2_with fail
  refine (format_walk HD1.out 2 (by show (0 : Nat) < _; omega)).mono ?_
  unfold Fm
  rw [pa1]
  rintro e w2 ⟨v, rfl, _, hso, hC2⟩
  obtain ⟨A2, hK2, hx2⟩ := hso _ rfl
  have HA2 : Hid (∀ x, A2 x → w.heap.size ≤ x) := fun x hx => by
    rcases hx2 x hx with q | q
    · exact HB1.out.2 x q
    · exact Nat.le_trans HB1.out.1.size q
  have HB2 : Hid (Below w.heap.size w w2) := HB1.out.1.trans (hC2.to_below HB1.out.1.size HB1.out.2)
  obtain ⟨⟨pb, rfl⟩, sb, rfl⟩ := hK2.form
  have HK2 : Hid (BP A2 w2 (.pointer (some ⟨pb, 0, none⟩)) (.pointer (some ⟨sb, 0, none⟩)) ⟨1, [0, 0], 0, false⟩ aS1) := hK2
  clear hso hK2 hx2 hC2
  go_wp2_with fail
  have HL2 : Hid (∀ x, A2 x → x < w2.heap.size) := fun x hx => HK2.out.lt hx
  have HT2 : Hid (Tx A2 (((w2.alloc (.cells #[.int .u8 120] 5 (1, 2))).alloc (.cells #[.int .u8 121] 5 (1, 2))).alloc (.cells #[.int .i64 0, .slice (some ⟨w2.heap.size, 0, none⟩) 1 1, .int .i64 1, .slice (some ⟨w2.heap.size + 1, 0, none⟩) 1 1] 33)) (.slice (some ⟨w2.heap.size + 2, 0, none⟩) 2 2) [(0, [120]), (1, [121])]) := by
    have h1 := (lit_1 w2 120 (by omega)).below (below_alloc _ (.cells #[.int .u8 121] 5 (1, 2)))
    have h2 := lit_1 (w2.alloc (.cells #[.int .u8 120] 5 (1, 2))) 121 (by omega)
    have := lit_two (A := A2) (p := 0) (q := 1) (h1.bxA (fun e => by have := HL2.out _ e; omega)) (h2.bxA (fun e => by have := HL2.out _ e; simp at this; omega)) (fun x hx => by have := HL2.out _ hx; simp; omega) (by omega) (by omega)
    show Tx _ _ _ _
    simp at this
    exact this
  refine (put_walk9 (HK2.out.below (below_trans (below_trans (below_alloc _ _) (below_alloc _ _)) (below_alloc _ _))) HT2.out (by show (2 : Nat) < _; omega)).mono ?_
  rintro e w3 ⟨rfl, ⟨A3, hK3, hx3⟩, hC3⟩
  rw [pa2] at hK3
  rw [pa2]
  have HK3 : Hid (BP A3 w3 (.pointer (some ⟨pb, 0, none⟩)) (.pointer (some ⟨sb, 0, none⟩)) ⟨2, [2, 3], 1, false⟩ aS2) := hK3
  have HA3 : Hid (∀ x, A3 x → w.heap.size ≤ x) := fun x hx => by
    have := HB2.out.size
    rcases hx3 x hx with q | q
    · exact HA2.out x q
    · simp at q; omega
  have HB3 : Hid (Below w.heap.size w w3) := (below_trans HB2.out (below_trans (below_trans (below_alloc _ _) (below_alloc _ _)) (below_alloc _ _))).trans (hC3.to_below (by have := HB2.out.size; simp; omega) HA2.out)
  clear hK3 hx3 hC3
  go_wp2_with fail
  have HL3 : Hid (∀ x, A3 x → x < w3.heap.size) := fun x hx => HK3.out.lt hx
  have HT3 : Hid (Tx A3 ((w3.alloc (.cells #[.int .u8 122] 5 (1, 2))).alloc (.cells #[.int .i64 0, .slice (some ⟨w3.heap.size, 0, none⟩) 1 1] 33)) (.slice (some ⟨w3.heap.size + 1, 0, none⟩) 1 1) [(0, [122])]) := by
    have h1 := lit_1 w3 122 (by omega)
    have := lit_one (A := A3) (p := 0) (h1.bxA (fun e => by have := HL3.out _ e; omega)) (fun x hx => by have := HL3.out _ hx; simp; omega) (by omega)
    show Tx _ _ _ _
    simp at this
    exact this
  refine (put_walk9 (HK3.out.below (below_trans (below_alloc _ _) (below_alloc _ _))) HT3.out (by show (5 : Nat) < _; omega)).mono ?_
  rintro e w4 ⟨rfl, ⟨A4, hK4, hx4⟩, hC4⟩
  rw [pa3] at hK4
  rw [pa3]
  have HK4 : Hid (BP A4 w4 (.pointer (some ⟨pb, 0, none⟩)) (.pointer (some ⟨sb, 0, none⟩)) ⟨3, [4, 3], 0, false⟩ aS3) := hK4
  have HA4 : Hid (∀ x, A4 x → w.heap.size ≤ x) := fun x hx => by
    have := HB3.out.size
    rcases hx4 x hx with q | q
    · exact HA3.out x q
    · simp at q; omega
  have HB4 : Hid (Below w.heap.size w w4) := (below_trans HB3.out (below_trans (below_alloc _ _) (below_alloc _ _))).trans (hC4.to_below (by have := HB3.out.size; simp; omega) HA3.out)
  clear hK4 hx4 hC4
  go_wp2_with fail
  refine (get_walk HK4.out 0 (by show (0 : Nat) < _; omega)).mono ?_
  rintro e w5 ⟨r, rfl, ho5, hK5, hC5⟩
  rw [pa4.1]
  rw [pa4.2.1] at ho5
  rw [pa4.2.2.1, pa4.2.2.2] at hK5
  have HK5 : Hid (BP A4 w5 (.pointer (some ⟨pb, 0, none⟩)) (.pointer (some ⟨sb, 0, none⟩)) ⟨3, [4, 3], 0, false⟩ aS4) := hK5
  have HB5 : Hid (Below w.heap.size w w5) := HB4.out.trans (hC5.to_below HB4.out.size HA4.out)
  obtain ⟨ro, rc, hr, _, _⟩ := row_form ho5
  subst hr
  have hv5 : Bv w5 (.slice ro 1 rc) [122] := own_bv ho5 (by simp)
  have s5 := str_lit hv5 (s := ⟨#[122]⟩) rfl
  clear hv5
  clear ho5 hK5 hC5
  go_wp2_with fail
  refine (used_walk HK5.out).mono ?_
  rintro e w9 ⟨rfl, h9⟩
  have h9 := h9.symm
  subst h9
  have hu : usedN [4, 3] = 2 := rfl
  rw [hu]
  clear s5 hu
  go_wp2_with fail
  refine (pages_walk HK5.out).mono ?_
  rintro e w9 ⟨rfl, h9⟩
  have h9 := h9.symm
  subst h9
  go_wp2_with fail
  refine (ended_walk HK5.out).mono ?_
  rintro e w9 ⟨rfl, h9⟩
  have h9 := h9.symm
  subst h9
  go_wp2_with fail
  obtain ⟨D5, hD5, _, _⟩ := HK5.out.disk
  refine (image_walk hD5).mono ?_
  rintro e w6 ⟨g, cap, rfl, hG, _, hB6⟩
  have HG : Hid (Pv w6 (.slice (some ⟨g, 0, none⟩) 6 cap) aS4.bl) := hG.pv (by decide)
  have HB6 : Hid (Below w5.heap.size w5 w6) := hB6
  have hl6 : aS4.bl.length = 6 := rfl
  rw [hl6]
  clear hG hB6 hD5 hl6
  go_wp2_with fail
  refine (images_walk (HG.out.below (below_trans (below_trans (below_trans (below_trans (below_trans (below_alloc _ _) (below_alloc _ _)) (below_alloc _ _)) (below_alloc _ _)) (below_alloc _ _)) (below_alloc _ _))) (lit_im6 w6)).mono ?_
  rintro e w7 ⟨rfl, hB7⟩
  rw [decide_eq_true rfl]
  have HB7 : Hid (Below w.heap.size w w7) := below_trans (below_trans HB5.out HB6.out) (below_trans (below_trans (below_trans (below_trans (below_trans (below_trans (below_alloc _ _) (below_alloc _ _)) (below_alloc _ _)) (below_alloc _ _)) (below_alloc _ _)) (below_alloc _ _)) hB7)
  clear hB7
  go_wp2_with fail
  go_ret
  exact ⟨rfl, HB7.out⟩
end Go.Proofs.Ytakijnclllmkfab


