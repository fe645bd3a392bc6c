/- Worlds; the tables that the library and the program read; numbers as decimal digits: contracts of strconv's FormatInt and FormatUint at base 10, of strings.Repeat. -/
import Derived.Test.YtkiplcmndpdifaaGreatDoorSb

import Derived.Test.YtkiplcmndpdifaaGreatDoorSh

import Derived.Lib.AppendIntMem

import Derived.Lib.Walk

import Derived.Lib.Hide

import Derived.Lib.LaidTab

import Derived.Laws.ResultCell

import Derived.Maps.AppendAt

namespace Go.Proofs.YtkiplcmndpdifaaGreatDoor

open Ieee Go.RowKit Go.Sort



theorem cell_lt {w : World} {a : Addr} {u : Value} (h : w.cell? a = some u) : a.block < w.heap.size := World.block_lt_of_cell? w a h
theorem below_alloc (w : World) (o : Obj) : Below w.heap.size w (w.alloc o) := (Below.refl _ _).alloc (Nat.le_refl _) o
theorem below_trans {w w1 w2 : World} (h : Below w.heap.size w w1) (k : Below w1.heap.size w1 w2) : Below w.heap.size w w2 :=
  h.trans (k.mono h.size)
theorem below_same (w : World) : Below w.heap.size w w := Below.refl _ _
theorem below_drew (w : World) : Below w.heap.size w w.drew := (Below.refl _ _).drew
theorem below_drewN (w : World) (n : Nat) : Below w.heap.size w (w.drewN n) := ⟨rfl, rfl, rfl, Nat.le_refl _, fun _ _ => rfl⟩


/-- The string of the bytes l. -/
abbrev S (l : Bs) : Value := .string ⟨l.toArray⟩


def formV (f : Fm) : List Value := [.int .i64 f.K, S f.w, .int .i64 f.g]


def formC : Array Value := (formL.flatMap formV).toArray


/-- What the tables hold. -/
structure Tb (w : World) : Prop where
  pow : Lib.TabIs Tryz.prog w "internal/strconv.uint64pow10" .u64 Lib.pow10Tab
  deb : w.cell? ⟨7, 15, none⟩ = some (.int .u8 4)
  es : ∃ t p, w.cell? ⟨4, 0, none⟩ = some (.iface t p)
  er : ∃ t p, w.cell? ⟨5, 0, none⟩ = some (.iface t p)
  fm : ∃ t fr, w.heap[1]? = some (.cells formC t fr)


theorem Tb.below {w w' : World} (h : Tb w) (hb : Below w.heap.size w w') : Tb w' := by
  obtain ⟨ts, ps, h1⟩ := h.es
  obtain ⟨tr, pr, h2⟩ := h.er
  obtain ⟨tf, fr, h3⟩ := h.fm
  refine ⟨Lib.tabBelow_of_tabIs h.pow w' hb, by rw [hb.cell (p := ⟨7, 15, none⟩) (cell_lt h.deb)]; exact h.deb, ⟨ts, ps, ?_⟩, ⟨tr, pr, ?_⟩, ⟨tf, fr, ?_⟩⟩
  · rw [hb.cell (p := ⟨4, 0, none⟩) (cell_lt h1)]; exact h1
  · rw [hb.cell (p := ⟨5, 0, none⟩) (cell_lt h2)]; exact h2
  · rw [hb.block _ (Array.getElem?_eq_some_iff.1 h3).1]; exact h3


theorem fmtint_walk (n : Int) (h0 : -9223372036854775808 ≤ n) (h1 : n ≤ 9223372036854775807) (w : World) (ht : Tb w) :
    Calls Tryz.prog 52 #[.int .i64 n, .int .i64 10] w fun e w' => e = .returned (.string ⟨(Lib.itoa n).toArray⟩) ∧ Below w.heap.size w w' := by
  have c : Calls Tryz.prog 52 #[.int .i64 n, .int .i64 10] w fun e w' => e = .returned (.string ⟨(Lib.itoa n).toArray⟩) ∧ ∃ k os, w' = grow (w.drewN k) os :=
    Any.strconv_FormatInt_10 laysM173 n h0 h1 w ht.pow
  refine c.mono ?_
  rintro e w' ⟨rfl, k, os, rfl⟩
  exact ⟨rfl, Lib.below_grow _ w (Nat.le_refl _) k os⟩


theorem small_walk (i : Nat) (h : i < 100) (w : World) :
    Calls Tryz.prog 79 #[.int .i64 i] w fun e w' => e = .returned (.string ⟨(Lib.decDigits i).toArray⟩) ∧ w' = w :=
  Any.internal_strconv_small lays283 i h w


theorem ndigits_walk (u : Nat) (h1 : 1 ≤ u) (h2 : u < 18446744073709551616) (w : World) (ht : Tb w) :
    Calls Tryz.prog 80 #[.int .u64 u] w fun e w' => e = .returned (.int .i64 (Lib.nDigits u)) ∧ w' = w :=
  Any.internal_strconv_numDigits laysM284 u h1 h2 w ht.pow


theorem repeat_walk (s : ByteArray) (c : Nat) (w : World) (hc : c ≤ 9223372036854775807) (hl : s.size * c ≤ 140737488355328) :
    Calls Tryz.prog 54 #[.string s, .int .i64 c] w fun e w' => e = .returned (.string ⟨(Lib.repeatL s.data.toList c).toArray⟩) ∧ Below w.heap.size w w' :=
  Any.strings_Repeat lays105 Builder_Extra_105 s c w hc hl


set_option maxRecDepth 100000 in
set_option maxHeartbeats 4000000 in
theorem ifmtuint_walk (u : Nat) (hu : u < 18446744073709551616) (w : World) (ht : Tb w) :
    Calls Tryz.prog 66 #[.int .u64 u, .int .i64 10] w fun e w' => e = .returned (.string ⟨(Lib.decDigits u).toArray⟩) ∧ Below w.heap.size w w' := by
  by_cases hs : u < 100
  · have e : IntKind.i64.wrap (u : Int) = (u : Int) := by rw [IntKind.wrap_i64]; omega
    have hb : (u : Int) < 100 := by omega
    go_enter Tryz.func66, Tryz.ntmps66
    go_wp2_with (go_at_call 79; refine (small_walk u hs _).mono ?_; rintro e w' ⟨rfl, rfl⟩)
    go_ret
    exact ⟨rfl, below_same _⟩
  · have hu1 : 1 ≤ u := by omega
    have hb : (100 : Int) ≤ (u : Int) := by omega
    have hnd20 : Lib.nDigits u ≤ 20 := by have := Lib.numDigits_eq u hu1 hu; split at this <;> omega
    have hal : Tryz.prog.arrayLen 133 = 24 := by simp [Program.arrayLen, Tryz.underlying133]
    have hsl : ∀ W, (Instr.sliceAt 133 (.pointer (some ⟨w.heap.size, 0, none⟩)) none (some (.int .i64 (Lib.nDigits u : Int))) none).run Tryz.prog W = .ok (.slice (some ⟨w.heap.size, 0, none⟩) (Lib.nDigits u) 24) W := fun W => by
      rw [run_sliceAt_array_h W 133 ⟨w.heap.size, 0, none⟩ (by simp [Program.arrayLen, Program.elem, Tryz.underlying133]) .i64 (Lib.nDigits u : Int) (by omega) (by rw [hal]; omega)]
      go_simp
    have hH := Lib.holds_zero0 w 133 (Lib.nDigits u) (by omega)
    have hfmt : Calls Tryz.prog 81 #[.slice (some ⟨w.heap.size, 0, none⟩) (Array.replicate (Lib.nDigits u) (0 : UInt8)).size 24, .int .u64 u] (w.alloc (.cells Lib.zeros24 133)) fun e w' =>
        e = .returned (.tuple #[]) ∧ ∃ (n v' : Nat) (dk : Array UInt8), w' = (putRow (fun (b : UInt8) => Value.int .u8 (b.toNat : Int)) (w.alloc (.cells Lib.zeros24 133)) w.heap.size 0 dk).drewN n ∧ Lib.FmtInv (Array.replicate (Lib.nDigits u) (0 : UInt8)).size u 0 v' dk :=
      Any.internal_strconv_formatBase10 lays285 w.heap.size 0 24 u (Array.replicate (Lib.nDigits u) 0) (w.alloc (.cells Lib.zeros24 133)) hH (by rw [Array.size_replicate]; exact Lib.lt_pow_nDigits u) hu (by rw [Array.size_replicate]; omega)
    rw [Array.size_replicate] at hfmt
    have HH : Hid (Holds (fun (b : UInt8) => Value.int .u8 (b.toNat : Int)) (w.alloc (.cells Lib.zeros24 133)) w.heap.size 0 (Array.replicate (Lib.nDigits u) (0 : UInt8))) := hH
    clear hH hal
    go_enter Tryz.func66, Tryz.ntmps66
    go_wp2_with (go_at_call 80; refine (ndigits_walk u hu1 hu _ (ht.below (below_alloc _ _))).mono ?_; rintro e w' ⟨rfl, rfl⟩)
    refine hfmt.mono ?_
    rintro e w' ⟨rfl, k, v', dk, rfl, hF⟩
    have hcv : (convert 60 9 (.slice (some ⟨w.heap.size, 0, none⟩) (Lib.nDigits u) 24)).run Tryz.prog ((putRow (fun (b : UInt8) => Value.int .u8 (b.toNat : Int)) (w.alloc (.cells Lib.zeros24 133)) w.heap.size 0 dk).drewN k) = .ok (.string ⟨(Lib.decDigits u).toArray⟩) ((putRow (fun (b : UInt8) => Value.int .u8 (b.toNat : Int)) (w.alloc (.cells Lib.zeros24 133)) w.heap.size 0 dk).drewN k) := by
      have h := run_convert_bytes_back (P := Tryz.prog) ((putRow (fun (b : UInt8) => Value.int .u8 (b.toNat : Int)) (w.alloc (.cells Lib.zeros24 133)) w.heap.size 0 dk).drewN k) 60 9 5 ⟨w.heap.size, 0, none⟩ 24 (Lib.decDigits u) Tryz.underlying60 Tryz.underlying5 Tryz.underlying9 (fun j hj => by
        rw [Lib.row_is_numeral hF j hj, Lib.add_plain, World.cell?_drewN]
        exact cell?_putRow (fun (b : UInt8) => Value.int .u8 (b.toNat : Int)) _ w.heap.size 0 _ dk HH.out (by rw [hF.size, Array.size_replicate]) j (by rw [hF.size]; rw [Lib.decDigits_length] at hj; exact hj))
      rw [Lib.decDigits_length] at h
      exact h
    obtain ⟨os, eo⟩ := Lib.fin_at w (.cells Lib.zeros24 133) dk k 0
    have HB : Hid (Below w.heap.size w ((putRow (fun (b : UInt8) => Value.int .u8 (b.toNat : Int)) (w.alloc (.cells Lib.zeros24 133)) w.heap.size 0 dk).drewN k)) := by
      show Below _ _ _
      rw [eo]
      exact Lib.below_grow _ w (Nat.le_refl _) k os
    clear eo hF HH hfmt
    generalize (putRow (fun (b : UInt8) => Value.int .u8 (b.toNat : Int)) (w.alloc (.cells Lib.zeros24 133)) w.heap.size 0 dk).drewN k = W2 at hcv HB ⊢
    go_wp2_with fail
    go_ret
    exact ⟨rfl, HB.out⟩


theorem fmtuint_walk (u : Nat) (hu : u < 18446744073709551616) (w : World) (ht : Tb w) :
    Calls Tryz.prog 53 #[.int .u64 u, .int .i64 10] w fun e w' => e = .returned (.string ⟨(Lib.decDigits u).toArray⟩) ∧ Below w.heap.size w w' := by
  go_enter Tryz.func53, Tryz.ntmps53
  go_wp2_with fail
  refine (ifmtuint_walk u hu _ ht).mono ?_
  rintro e w' ⟨rfl, hB⟩
  go_wp2_with fail
  go_ret
  exact ⟨rfl, hB⟩
end Go.Proofs.YtkiplcmndpdifaaGreatDoor


