/- A job's pipeline, kind, records and place: right, place, table. -/
import Derived.Test.YtfcpooihihklaaaGreatKl
namespace Go.Proofs.YtfcpooihihklaaaGreat
open Ieee Go.RowKit

/-- A block that holds a job. -/
structure JB (w : World) (b : Nat) (lv : Value) (kind : Int) (rv : Value) (n : Int) : Prop where
  c0 : w.cell? ⟨b, 0, none⟩ = some lv
  c1 : w.cell? ⟨b, 1, none⟩ = some (.int .i64 kind)
  c2 : w.cell? ⟨b, 2, none⟩ = some rv
  c3 : w.cell? ⟨b, 3, none⟩ = some (.int .i64 n)

theorem JB.below {w w' : World} {b : Nat} {lv rv : Value} {kind n : Int} (h : JB w b lv kind rv n) (hb : Below w.heap.size w w') : JB w' b lv kind rv n :=
  ⟨by rw [hb.cell (p := ⟨b, 0, none⟩) (cell_lt h.c0)]; exact h.c0, by rw [hb.cell (p := ⟨b, 1, none⟩) (cell_lt h.c1)]; exact h.c1, by rw [hb.cell (p := ⟨b, 2, none⟩) (cell_lt h.c2)]; exact h.c2, by rw [hb.cell (p := ⟨b, 3, none⟩) (cell_lt h.c3)]; exact h.c3⟩

/-- A place among n records. -/
def placeN (a : Int) (n : Nat) : Nat := (IntKind.u64.wrap a).toNat % (n + 1)
theorem place_le (a : Int) (n : Nat) : placeN a n ≤ n := by have := Nat.mod_lt (IntKind.u64.wrap a).toNat (show 0 < n + 1 by omega); unfold placeN; omega

theorem place_num (a : Int) {n : Nat} (hn : n ≤ 11728124029610) : wrap64 ((IntKind.u64.wrap a).tmod ((n : Int) + 1)) = (placeN a n : Int) := by
  have h1 : 0 ≤ IntKind.u64.wrap a ∧ IntKind.u64.wrap a < 18446744073709551616 := by rw [IntKind.wrap_u64]; omega
  obtain ⟨x, hx⟩ : ∃ x : Nat, IntKind.u64.wrap a = x := ⟨(IntKind.u64.wrap a).toNat, by omega⟩
  unfold placeN
  rw [hx, Int.tmod_eq_emod_of_nonneg (by omega)]
  have h3 : ((x : Int) % ((n : Int) + 1)) = ((x % (n + 1) : Nat) : Int) := by simp
  have h4 : x % (n + 1) < n + 1 := Nat.mod_lt _ (by omega)
  rw [h3]
  simp only [Int.toNat_natCast]
  unfold wrap64
  omega

theorem tab_batch {l : List Stp} {kind : Int} (hk : knownB kind = true) (recs : List Rcd) : tabB (batchT l kind recs) = true := tab_iff.2 ⟨rise_batch _ _ _, has_batch hk _⟩

theorem Rv.parts {w : World} {v : Value} {l : List Rcd} (h : Rv w v l) : ∃ ao cap, v = .slice ao l.length cap ∧ l.length ≤ cap ∧ cap ≤ maxLen ∧ (ao = none → cap = 0) ∧ Rl w ao l := h.1
end Go.Proofs.YtfcpooihihklaaaGreat
