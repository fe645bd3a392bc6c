/- Numbers as hexadecimal digits; the texts of numbers, keys, floats. -/
import Derived.Test.YtkiplcmndpdifaaGreatDoorSc

namespace Go.Proofs.YtkiplcmndpdifaaGreatDoor

open Ieee Go.RowKit Go.Sort



theorem digits_hex_fin : ∀ i : Fin 16, Lib.digits36.data.toList.getD i.val 0 = hexd i.val := by decide +kernel


theorem idx_digits (k : IntKind) (z : Int) (i : Nat) (hz : z = (i : Int)) (hi : i < 16) (w : World) :
    (Instr.index 9 (.string Lib.digits36) (.int k z)).run Tryz.prog w = .ok (.int .u8 ((hexd i).toNat : Int)) w := by
  subst hz
  rw [run_index_string w 9 Lib.digits36 k _ Tryz.underlying9, dif_pos ⟨by omega, by rw [Lib.digits36_size]; omega⟩]
  have e : ((i : Int)).toNat = i := by omega
  simp only [e]
  rw [Lib.getD_at Lib.digits36 i (by rw [Lib.digits36_size]; omega), digits_hex_fin ⟨i, hi⟩]


theorem pow2_walk (w : World) :
    Calls Tryz.prog 100 #[.int .i64 16] w fun e w' => e = .returned (.bool true) ∧ w' = w := by
  have h : bits .and .i64 16 15 = 0 := by decide +kernel
  go_enter Tryz.func100, Tryz.ntmps100
  go_wp2
  go_ret
  exact ⟨rfl, rfl⟩


theorem tz64_walk (w : World) (ht : Tb w) :
    Calls Tryz.prog 115 #[.int .u64 16] w fun e w' => e = .returned (.int .i64 4) ∧ w' = w := by
  have h : bits .and .u64 16 (IntKind.u64.wrap (-16)) = 16 := by decide +kernel
  have h2 : IntKind.u64.wrap 4573923408821661840 = 4573923408821661840 := by decide +kernel
  have hd := ht.deb
  go_enter Tryz.func115, Tryz.ntmps115
  go_wp2
  go_ret
  exact ⟨rfl, rfl⟩


theorem tz_walk (w : World) (ht : Tb w) :
    Calls Tryz.prog 101 #[.int .u64 16] w fun e w' => e = .returned (.int .i64 4) ∧ w' = w := by
  go_enter Tryz.func101, Tryz.ntmps101
  go_wp2_with (go_at_call 115; refine (tz64_walk _ ht).mono ?_; rintro e w' ⟨rfl, rfl⟩)
  go_ret
  exact ⟨rfl, rfl⟩
/-- What the loop of digits keeps: from place i on they are laid; u is what is left of u0. -/
structure HxI (w : World) (u0 i u : Nat) (wr : World) : Prop where
  lo : 49 ≤ i
  hi : i ≤ 65
  below : Below w.heap.size w wr
  cell : ∀ t, t < 65 → ∃ c : Int, wr.cell? ⟨w.heap.size, t, none⟩ = some (.int .u8 c)
  fr : ∀ t, t < 65 → wr.frozen? ⟨w.heap.size, t, none⟩ = false
  done : ∀ t, i ≤ t → t < 65 → wr.cell? ⟨w.heap.size, t, none⟩ = some (.int .u8 ((hexd (u0 / 16 ^ (64 - t) % 16)).toNat : Int))
  rest : u = u0 / 16 ^ (65 - i)
  small : u < 16 ^ (i - 49)


theorem HxI.step {w wr : World} {u0 j u : Nat} (h : HxI w u0 (j + 1) u wr) (hj : 49 ≤ j) :
    HxI w u0 j (u / 16) (wr.setCell ⟨w.heap.size, j, none⟩ (.int .u8 ((hexd (u % 16)).toNat : Int))) := by
  have hhi := h.hi
  obtain ⟨c, hc⟩ := h.cell j (by omega)
  refine ⟨hj, by omega, h.below.setCell (Nat.le_refl _) _, fun t ht => ?_, fun t ht => ?_, fun t h1 h2 => ?_, ?_, ?_⟩
  · by_cases e : t = j
    · subst e
      exact ⟨_, World.cell?_setCell_same _ _ _ hc⟩
    · rw [World.cell?_setCell_other _ _ _ _ (by rintro ⟨⟩; exact e rfl)]
      exact h.cell t ht
  · have := h.fr t ht
    simpa [go_sem] using this
  · by_cases e : t = j
    · subst e
      rw [World.cell?_setCell_same _ _ _ hc, h.rest, show 65 - (t + 1) = 64 - t by omega]
    · rw [World.cell?_setCell_other _ _ _ _ (by rintro ⟨⟩; exact e rfl)]
      exact h.done t (by omega) h2
  · rw [h.rest, Nat.div_div_eq_div_mul, show 65 - j = 65 - (j + 1) + 1 by omega, Nat.pow_succ]
  · have hs := h.small
    rw [show j + 1 - 49 = j - 49 + 1 by omega, Nat.pow_succ] at hs
    exact Nat.div_lt_of_lt_mul (by rw [Nat.mul_comm]; exact hs)


theorem hx_start {w w1 : World} {u0 : Nat} (hu : u0 < 18446744073709551616) (h : w.alloc (Obj.cells (Array.replicate 65 (Value.int .u8 0)) 150) = w1) : HxI w u0 65 u0 w1 := by
  subst h
  refine ⟨by omega, by omega, below_alloc _ _, fun t ht => ⟨0, ?_⟩, fun t ht => World.frozen?_alloc_new _ _ _ _, fun t h1 h2 => by omega, by simp, by simpa using hu⟩
  rw [World.cell?_alloc_new]
  simp [ht]


theorem hx_end {w wr : World} {u0 j u : Nat} (h : HxI w u0 j u wr) (hu : u = 0) : u0 < 16 ^ (65 - j) := by
  have hr := h.rest
  rw [hu] at hr
  rcases Nat.div_eq_zero_iff.1 hr.symm with h0 | h0
  · exact absurd h0 (by have := Nat.pow_pos (n := 65 - j) (show 0 < 16 by omega); omega)
  · exact h0


theorem hx_cells {w wr : World} {u0 j u : Nat} (h : HxI w u0 j u wr) (i : Nat) (hi : i < (hexRow u0 (65 - j)).length) :
    wr.cell? ((⟨w.heap.size, j, none⟩ : Addr).add i) = some (.int .u8 ((hexRow u0 (65 - j))[i].toNat : Int)) := by
  rw [hexRow_get]
  rw [hexRow_length] at hi
  rw [Lib.add_plain, h.done (j + i) (by omega) (by omega), show 65 - j - 1 - i = 64 - (j + i) by omega]


set_option maxRecDepth 100000 in
set_option maxHeartbeats 8000000 in
theorem fmtbits_walk (u0 : Nat) (hu : u0 < 18446744073709551616) (w : World) (ht : Tb w) :
    Calls Tryz.prog 82 #[.slice none 0 0, .int .u64 u0, .int .i64 16, .bool false, .bool false] w fun e w' => (∃ m, m ≤ 16 ∧ u0 < 16 ^ m ∧ e = .returned (.tuple #[.slice none 0 0, .string ⟨(hexRow u0 m).toArray⟩])) ∧ Below w.heap.size w w' := by
  go_enter Tryz.func82, Tryz.ntmps82
  go_name_bytes_deep 42 PM hPM
  clear hPM
  go_name_bytes_deep 30 DG hDG
  have eDG : DG = Lib.digits36 := by rw [← hDG]; decide +kernel
  subst eDG
  clear hDG
  go_wp2_with fail
  refine (pow2_walk _).mono ?_
  rintro e w1 ⟨rfl, hw⟩
  have hg : w.alloc (Obj.cells (Array.replicate 65 (Value.int .u8 0)) 150) = w1 := by rw [hw]; rfl
  have HT1 : Hid (Tb w1) := by show Tb _; rw [← hg]; exact ht.below (below_alloc _ _)
  have HI1 : Hid (HxI w u0 65 u0 w1) := hx_start hu hg
  clear hg hw
  go_wp2_with (go_at_call 101; refine (tz_walk _ HT1.out).mono ?_; rintro e w' ⟨rfl, rfl⟩)
  go_loopw [1, 13] (fun vu vi wr => ∃ u i : Nat, vu = .int .u64 u ∧ vi = .int .i64 i ∧ 50 ≤ i ∧ HxI w u0 i u wr) (fun vu _ _ => (intOf vu).toNat)
  case atStart => exact ⟨u0, 65, rfl, rfl, by omega, HI1.out⟩
  case round =>
    obtain ⟨u, i, rfl, rfl, hi, HI'⟩ := hrel
    have HI : Hid (HxI w u0 i u wr) := HI'
    have hi65 := HI'.hi
    obtain ⟨j, rfl⟩ : ∃ j, i = j + 1 := ⟨i - 1, by omega⟩
    obtain ⟨c, hc⟩ := HI'.cell j (by omega)
    have hf := HI'.fr j (by omega)
    have hu64 : u < 18446744073709551616 := by rw [HI'.rest]; exact Nat.lt_of_le_of_lt (Nat.div_le_self _ _) hu
    have hu64' : (u : Int) < 18446744073709551616 := by omega
    clear HI'
    by_cases h16 : 16 ≤ u
    · have hj : 50 ≤ j := by
        have hs := HI.out.small
        by_cases e : j = 49
        · subst e
          rw [show 49 + 1 - 49 = 1 by omega] at hs
          omega
        · omega
      have h16' : (16 : Int) ≤ (u : Int) := by omega
      have hb : bits .and .u64 (u : Int) 15 = (u : Int) % 16 := by
        have h := bits_and_u64_nat u 15 hu64 (by omega)
        rw [show (15 : Nat) = 2 ^ 4 - 1 from rfl, Nat.and_two_pow_sub_one_eq_mod] at h
        rw [show ((2 ^ 4 - 1 : Nat) : Int) = 15 from rfl] at h
        rw [h]
        omega
      have hx := fun wx => idx_digits .u64 ((u : Int) % 16) (u % 16) (by omega) (by omega) wx
      have HS : Hid (HxI w u0 j (u / 16) (wr.setCell ⟨w.heap.size, j, none⟩ (.int .u8 ((hexd (u % 16)).toNat : Int)))) := HI.out.step (by omega)
      clear HI
      go_wp2_with fail
      exact ⟨⟨u / 16, j, by simp, rfl, hj, HS.out⟩, by simp [intOf]; omega⟩
    · have h16' : (u : Int) < 16 := by omega
      have hx := fun wx => idx_digits .u64 (u : Int) u rfl (by omega) wx
      have HS0 := HI.out.step (by omega)
      rw [Nat.mod_eq_of_lt (show u < 16 by omega), Nat.div_eq_of_lt (show u < 16 by omega)] at HS0
      have HS : Hid (HxI w u0 j 0 (wr.setCell ⟨w.heap.size, j, none⟩ (.int .u8 ((hexd u).toNat : Int)))) := HS0
      have hlt := hx_end HS0 rfl
      have hal : Tryz.prog.arrayLen 150 = 65 := by simp [Program.arrayLen, Tryz.underlying150]
      have hsl : ∀ W, (Instr.sliceAt 150 (.pointer (some ⟨w.heap.size, 0, none⟩)) (some (.int .i64 (j : Int))) none none).run Tryz.prog W = .ok (.slice (some ⟨w.heap.size, j, none⟩) (65 - j) (65 - j)) W := fun W => by
        rw [run_sliceAt_array_l W 150 ⟨w.heap.size, 0, none⟩ (by simp [Program.arrayLen, Program.elem, Tryz.underlying150]) .i64 (j : Int) (by omega) (by rw [hal]; omega)]
        go_simp
        omega
      have hcv := run_convert_bytes_back (P := Tryz.prog) (wr.setCell ⟨w.heap.size, j, none⟩ (.int .u8 ((hexd u).toNat : Int))) 60 9 5 ⟨w.heap.size, j, none⟩ (65 - j) (hexRow u0 (65 - j)) Tryz.underlying60 Tryz.underlying5 Tryz.underlying9 (fun t h => hx_cells HS0 t h)
      rw [hexRow_length] at hcv
      obtain ⟨m, hm⟩ : ∃ m, 65 - j = m := ⟨_, rfl⟩
      rw [hm] at hsl hcv hlt
      have HL : Hid (u0 < 16 ^ m ∧ m ≤ 16) := ⟨hlt, by omega⟩
      clear HI HS0 hlt hal hm h16 hu64 hu64'
      go_wp2_with fail
      go_ret2
      exact ⟨⟨m, HL.out.2, HL.out.1, rfl⟩, HS.out.below⟩


theorem ifmthex_walk (u : Nat) (hu : u < 18446744073709551616) (w : World) (ht : Tb w) :
    Calls Tryz.prog 66 #[.int .u64 u, .int .i64 16] w fun e w' => (∃ m, m ≤ 16 ∧ u < 16 ^ m ∧ e = .returned (.string ⟨(hexRow u m).toArray⟩)) ∧ Below w.heap.size w w' := by
  go_enter Tryz.func66, Tryz.ntmps66
  go_wp2_with fail
  refine (fmtbits_walk u hu _ ht).mono ?_
  rintro e w' ⟨⟨m, h1, h2, rfl⟩, hB⟩
  have HM : Hid (m ≤ 16 ∧ u < 16 ^ m) := ⟨h1, h2⟩
  clear h1 h2
  go_wp2_with fail
  go_ret
  exact ⟨⟨m, HM.out.1, HM.out.2, rfl⟩, hB⟩


theorem fmthex_walk (u : Nat) (hu : u < 18446744073709551616) (w : World) (ht : Tb w) :
    Calls Tryz.prog 53 #[.int .u64 u, .int .i64 16] w fun e w' => (∃ m, m ≤ 16 ∧ u < 16 ^ m ∧ e = .returned (.string ⟨(hexRow u m).toArray⟩)) ∧ Below w.heap.size w w' := by
  go_enter Tryz.func53, Tryz.ntmps53
  go_wp2_with fail
  refine (ifmthex_walk u hu _ ht).mono ?_
  rintro e w' ⟨⟨m, h1, h2, rfl⟩, hB⟩
  have HM : Hid (m ≤ 16 ∧ u < 16 ^ m) := ⟨h1, h2⟩
  clear h1 h2
  go_wp2_with fail
  go_ret
  exact ⟨⟨m, HM.out.1, HM.out.2, rfl⟩, hB⟩
theorem add_mk (a b : List UInt8) : (⟨a.toArray⟩ ++ ⟨b.toArray⟩ : ByteArray) = ⟨(a ++ b).toArray⟩ := by
  rw [ByteArray.ext_iff]
  simp [ByteArray.data_append]


theorem size_mk (l : List UInt8) : (⟨l.toArray⟩ : ByteArray).size = l.length := by simp [ByteArray.size]


theorem run_add (a b : List UInt8) (h : a.length + b.length ≤ 9223372036854775807) (w : World) : (Op.stringOp .add ⟨a.toArray⟩ ⟨b.toArray⟩).run Tryz.prog w = .ok (.string ⟨(a ++ b).toArray⟩) w := by
  have e := run_string_add_sum (P := Tryz.prog) w ⟨a.toArray⟩ ⟨b.toArray⟩ (by rw [size_mk, size_mk]; exact h)
  rw [add_mk] at e
  exact e


theorem dec_length {b : Nat} (hb : b < 18446744073709551616) : (Lib.decDigits b).length ≤ 20 := by
  rw [Lib.decDigits_length]
  by_cases h : 1 ≤ b
  · have := Lib.numDigits_eq b h hb
    split at this <;> omega
  · rw [Lib.nDigits_small (by omega)]
    omega


theorem repeat_nought (c : Nat) : Lib.repeatL [48] c = List.replicate c 48 := by
  induction c with
  | zero => rfl
  | succ c ih => rw [Lib.repeatL, ih, List.replicate_succ]; rfl


theorem hex_whole {u m c : Nat} (h : u < 16 ^ m) (hc : m + c = 16) : Lib.repeatL [48] c ++ hexRow u m = hexRow u 16 := by
  rw [repeat_nought, ← hc, hexRow_pad h]




theorem ntext_walk (n : Int) (h : In64 n) (w : World) (ht : Tb w) :
    Calls Tryz.prog 38 #[.int .i64 n] w fun e w' => e = .returned (S (Lib.itoa n)) ∧ Below w.heap.size w w' := by
  go_enter Tryz.func38, Tryz.ntmps38
  go_wp2_with fail
  refine (fmtint_walk n h.1 (by have := h.2; omega) _ ht).mono ?_
  rintro e w' ⟨rfl, hB⟩
  go_wp2_with fail
  go_ret
  exact ⟨rfl, hB⟩


theorem ktext_walk (u : Nat) (hu : u < 18446744073709551616) (w : World) (ht : Tb w) :
    Calls Tryz.prog 41 #[.int .u64 u] w fun e w' => e = .returned (S (Lib.decDigits u)) ∧ Below w.heap.size w w' := by
  go_enter Tryz.func41, Tryz.ntmps41
  go_wp2_with fail
  refine (fmtuint_walk u hu _ ht).mono ?_
  rintro e w' ⟨rfl, hB⟩
  go_wp2_with fail
  go_ret
  exact ⟨rfl, hB⟩


set_option maxHeartbeats 2000000 in
theorem ftext_walk (u : Nat) (hu : u < 18446744073709551616) (w : World) (ht : Tb w) :
    Calls Tryz.prog 40 #[.int .u64 u] w fun e w' => e = .returned (S (hexRow u 16)) ∧ Below w.heap.size w w' := by
  go_enter Tryz.func40, Tryz.ntmps40
  go_wp2_with fail
  refine (fmthex_walk u hu _ ht).mono ?_
  rintro e w1 ⟨⟨m, h1, h2, rfl⟩, hB⟩
  have HM : Hid (m ≤ 16 ∧ u < 16 ^ m) := ⟨h1, h2⟩
  have HB : Hid (Below w.heap.size w w1) := hB
  obtain ⟨c, hc⟩ : ∃ c, m + c = 16 := ⟨16 - m, by omega⟩
  have hl : (⟨(hexRow u m).toArray⟩ : ByteArray).size = m := by rw [size_mk, hexRow_length]
  have hs : IntKind.i64.wrap (16 - (m : Int)) = (c : Int) := by rw [IntKind.wrap_i64]; omega
  have HC : Hid (m + c = 16) := hc
  have ha := fun wx => run_add (Lib.repeatL [48] c) (hexRow u m) (by rw [repeat_nought, List.length_replicate, hexRow_length]; omega) wx
  have HR : Hid (Lib.repeatL [48] c ++ hexRow u m = hexRow u 16) := hex_whole h2 hc
  clear h1 h2 hB hc
  go_wp2_with (refine (repeat_walk ⟨#[48]⟩ c _ (by have := HC.out; omega) (by have := HC.out; simp [ByteArray.size]; omega)).mono ?_; rintro e w2 ⟨rfl, hB2⟩)
  all_goals go_wp2_with fail
  go_ret
  rw [← HR.out]
  exact ⟨rfl, below_trans HB.out hB2⟩
end Go.Proofs.YtkiplcmndpdifaaGreatDoor


