/- Where the row is parted; patterns broken. -/
import Derived.Test.YtkicnoohfilgjaaUe

import Derived.Test.YtkicnoohfilgjaaSh

namespace Go.Proofs.Ytkicnoohfilgjaa

open Go.RowKit Go.Shelf



theorem ulen_walk (x : Nat) (hx : x < 18446744073709551616) (w : World) :
    Calls Try.prog 40 #[.int .u64 x] w fun e w' => (∃ m : Nat, m ≤ 64 ∧ e = .returned (.int .i64 m)) ∧ w' = w := by
  refine (Any.bits_Len (SlLaysF0.n15.bits lays15) (x : Int) w (by omega) (by omega)).mono ?_
  rintro e w' ⟨rfl, rfl⟩
  rw [Int.toNat_natCast]
  refine ⟨⟨_, ?_, rfl⟩, rfl⟩
  rw [Go.Proofs.bitLen_eq _ (by omega)]
  exact (Go.Sort.bitsLen_le_iff x 64).2 (by omega)


theorem upow_walk (n : Nat) (hn : n < 4611686018427387904) (w : World) :
    Calls Try.prog 56 #[.int .i64 n] w fun e w' => e = .returned (.int .u64 ((1 <<< Sort.bitsLen n : Nat) : Int)) ∧ w' = w := AnyF.nextPowerOfTwo lays47 n hn w


theorem unext_walk (rb X : Nat) (hX : X < 18446744073709551616) (w : World) (hc : w.cell? ⟨rb, 0, none⟩ = some (.int .u64 X)) (hf : w.frozen? ⟨rb, 0, none⟩ = false) :
    Calls Try.prog 57 #[.pointer (some ⟨rb, 0, none⟩)] w fun e w' => e = .returned (.int .u64 (Sort.xorNextN X : Nat)) ∧ w' = (w.setCell ⟨rb, 0, none⟩ (.int .u64 (Sort.xorNextN X : Nat))).drewN 3 := AnyF.xorshift_Next lays48 rb 0 X hX w hc hf


/-- Block s counts: c. -/
def Ct (w : World) (s c : Nat) : Prop := w.cell? ⟨s, 0, none⟩ = some (.int .i64 (c : Nat)) ∧ w.frozen? ⟨s, 0, none⟩ = false
theorem Ct.lt {w : World} {s c : Nat} (h : Ct w s c) : s < w.heap.size := World.block_lt_of_cell? w ⟨s, 0, none⟩ h.1
theorem Un.grown {w w' : World} {g o cap s : Nat} {d : Array Nat} (h : Un w g o cap d) (hg : w.grownBy w' (some s)) (hs : g ≠ s) : Un w' g o cap d := h.kept (hg.block g h.lt (by simpa using hs))


theorem uord_walk {w : World} {g o cap n a b s c : Nat} {d : Array Nat} (h : Un w g o cap d) (hn : d.size = n) (ha : a < n) (hb : b < n) (hC : Ct w s c) (hc : c ≤ 1000) :
    Calls Try.prog 61 #[.slice (some ⟨g, o, none⟩) n cap, .int .i64 a, .int .i64 b, .pointer (some ⟨s, 0, none⟩)] w fun e w' => ∃ x y c' : Nat, e = .returned (.tuple #[.int .i64 x, .int .i64 y]) ∧ ((x = a ∧ y = b) ∨ (x = b ∧ y = a)) ∧ c' ≤ c + 1 ∧ Ct w' s c' ∧ w.grownBy w' (some s) := by
  have HC : Hid (Ct w s c) := hC
  obtain ⟨c1, c2⟩ := hC
  obtain ⟨G, hG, hcw, hfw⟩ := (hn ▸ Us.start h : Us w g o cap n d w).fam
  clear hG h hn
  go_enter Try.func61, Try.ntmps61
  go_wp2_with fail
  go_quiet ((go_at_call 50; exact Calls.quiet_of_same (uless_walk _ _ _)))
  cases hl : ltN (G b) (G a)
  · go_wp2_with fail
    go_ret2
    exact ⟨a, b, c, rfl, .inl ⟨rfl, rfl⟩, by omega, HC.out, ⟨rfl, rfl, rfl, Nat.le_refl _, fun _ _ _ => rfl⟩⟩
  · go_wp2_with fail
    go_ret2
    refine ⟨b, a, c + 1, rfl, .inr ⟨rfl, rfl⟩, Nat.le_refl _, ⟨?_, ?_⟩, ?_⟩
    · simp [go_sem, c1]
    · simpa [go_sem] using c2
    · have := grown_set w s 0 (.int .i64 ((c : Int) + 1))
      exact ⟨this.os, this.tape, this.output, this.size, this.block⟩


theorem umed_walk {w : World} {g o cap n a b x s c : Nat} {d : Array Nat} (h : Un w g o cap d) (hn : d.size = n) (ha : a < n) (hb : b < n) (hx : x < n) (hC : Ct w s c) (hc : c ≤ 900) (hgs : g ≠ s) :
    Calls Try.prog 59 #[.slice (some ⟨g, o, none⟩) n cap, .int .i64 a, .int .i64 b, .int .i64 x, .pointer (some ⟨s, 0, none⟩)] w fun e w' => ∃ y c' : Nat, e = .returned (.int .i64 y) ∧ (y = a ∨ y = b ∨ y = x) ∧ c' ≤ c + 3 ∧ Ct w' s c' ∧ w.grownBy w' (some s) := by
  have HU : Hid (Un w g o cap d) := h
  have HN : Hid (d.size = n) := hn
  have HC : Hid (Ct w s c) := hC
  clear h hn hC
  go_enter Try.func59, Try.ntmps59
  go_wp2_with fail
  refine (uord_walk HU.out HN.out ha hb HC.out (by omega)).mono ?_
  rintro e w1 ⟨x1, y1, k1, rfl, hxy1, hk1, hC1, hg1⟩
  have HX1 : Hid ((x1 = a ∧ y1 = b) ∨ (x1 = b ∧ y1 = a)) := hxy1
  have HC1 : Hid (Ct w1 s k1) := hC1
  have HG1 : Hid (w.grownBy w1 (some s)) := hg1
  have hy1 : y1 < n := by omega
  have hx1 : x1 < n := by omega
  clear hxy1 hC1 hg1
  go_wp2_with fail
  refine (uord_walk (HU.out.grown HG1.out hgs) HN.out hy1 hx HC1.out (by omega)).mono ?_
  rintro e w2 ⟨x2, y2, k2, rfl, hxy2, hk2, hC2, hg2⟩
  have HX2 : Hid ((x2 = y1 ∧ y2 = x) ∨ (x2 = x ∧ y2 = y1)) := hxy2
  have HC2 : Hid (Ct w2 s k2) := hC2
  have HG2 : Hid (w.grownBy w2 (some s)) := grown_trans HG1.out hg2
  have hx2 : x2 < n := by omega
  clear hxy2 hC2 hg2
  go_wp2_with fail
  refine (uord_walk (HU.out.grown HG2.out hgs) HN.out hx1 hx2 HC2.out (by omega)).mono ?_
  rintro e w3 ⟨x3, y3, k3, rfl, hxy3, hk3, hC3, hg3⟩
  have HX3 : Hid ((x3 = x1 ∧ y3 = x2) ∨ (x3 = x2 ∧ y3 = x1)) := hxy3
  have HC3 : Hid (Ct w3 s k3) := hC3
  have HG3 : Hid (w.grownBy w3 (some s)) := grown_trans HG2.out hg3
  clear hxy3 hC3 hg3
  go_wp2_with fail
  go_ret
  exact ⟨y3, k3, rfl, by have := HX1.out; have := HX2.out; have := HX3.out; omega, by omega, HC3.out, HG3.out⟩


theorem uadj_walk {w : World} {g o cap n a s c : Nat} {d : Array Nat} (h : Un w g o cap d) (hn : d.size = n) (ha : 1 ≤ a) (hb : a + 1 < n) (hsz : n ≤ 2305843009213693951) (hC : Ct w s c) (hc : c ≤ 900) (hgs : g ≠ s) :
    Calls Try.prog 58 #[.slice (some ⟨g, o, none⟩) n cap, .int .i64 a, .pointer (some ⟨s, 0, none⟩)] w fun e w' => ∃ y c' : Nat, e = .returned (.int .i64 y) ∧ a ≤ y + 1 ∧ y ≤ a + 1 ∧ c' ≤ c + 3 ∧ Ct w' s c' ∧ w.grownBy w' (some s) := by
  have HU : Hid (Un w g o cap d) := h
  have HN : Hid (d.size = n) := hn
  have HC : Hid (Ct w s c) := hC
  obtain ⟨p, hp⟩ : ∃ p, a = p + 1 := ⟨a - 1, by omega⟩
  have hp1 : (a : Int) - 1 = (p : Int) := by omega
  have hp2 : (a : Int) + 1 = ((a + 1 : Nat) : Int) := by omega
  have hcall := umed_walk (a := p) (b := a) (x := a + 1) HU.out HN.out (by omega) (by omega) hb HC.out hc hgs
  rw [← hp1, ← hp2] at hcall
  have HCL : Hid (Calls Try.prog 59 #[.slice (some ⟨g, o, none⟩) n cap, .int .i64 ((a : Int) - 1), .int .i64 a, .int .i64 ((a : Int) + 1), .pointer (some ⟨s, 0, none⟩)] w fun e w' => ∃ y c' : Nat, e = .returned (.int .i64 y) ∧ (y = p ∨ y = a ∨ y = a + 1) ∧ c' ≤ c + 3 ∧ Ct w' s c' ∧ w.grownBy w' (some s)) := hcall
  have HP : Hid (a = p + 1) := hp
  clear h hn hC hp1 hp2 hcall hp
  go_enter Try.func58, Try.ntmps58
  go_wp2_with fail
  refine Calls.mono HCL.out ?_
  rintro e w1 ⟨y, k, rfl, hy, hk, hC1, hg1⟩
  go_wp2_with fail
  go_ret
  exact ⟨y, k, rfl, by have := HP.out; omega, by have := HP.out; omega, hk, hC1, hg1⟩
end Go.Proofs.Ytkicnoohfilgjaa


