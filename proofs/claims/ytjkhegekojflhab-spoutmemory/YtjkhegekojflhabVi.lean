/- What the statements ask of rows; one source beside what was before it; awake. -/
import Derived.Test.YtjkhegekojflhabVh
namespace Go.Proofs.Ytjkhegekojflhab
open Ieee Go.RowKit

/-- The value v is a source that is S; its memory lies from B on. -/
def Sb (B : Nat) (w : World) (v : Value) (S : Sc) : Prop := ∃ D, Src D w v S ∧ ∀ b, D b → B ≤ b
theorem Sb.below {B : Nat} {w w' : World} {v : Value} {S : Sc} (h : Sb B w v S) (hb : Below w.heap.size w w') : Sb B w' v S := by
  obtain ⟨D, h1, h2⟩ := h
  exact ⟨D, h1.below hb, h2⟩
theorem Sb.good {B : Nat} {w : World} {v : Value} {S : Sc} (h : Sb B w v S) : S.ok := by obtain ⟨D, h1, h2⟩ := h; exact h1.good
theorem Sb.form {B : Nat} {w : World} {v : Value} {S : Sc} (h : Sb B w v S) : ∃ sb, v = .pointer (some ⟨sb, 0, none⟩) := by obtain ⟨D, ⟨sb, _, _, _, _, e, _⟩, h2⟩ := h; exact ⟨sb, e⟩

section
variable {B : Nat} {w : World} {v : Value} {S : Sc}
theorem produceB (h : Sb B w v S) (hB : B ≤ w.heap.size) (p : Int) {r : Rcd} (hr : r.ok) : Calls Try.prog 16 #[v, .int .i64 p, .agg #[.int .u64 r.k, .float .f64 r.x]] w fun e w' =>
    e = .returned (.int .i64 (prodS S p r).1) ∧ Sb B w' v (prodS S p r).2 ∧ Below B w w' ∧ ((prodS S p r).1 ≠ 0 → Below w.heap.size w w') := by
  obtain ⟨D, h1, h2⟩ := h
  refine (produce_walk h1 p hr).mono ?_
  rintro e w' ⟨rfl, ⟨D', hs, hc, hd⟩, hq⟩
  exact ⟨rfl, ⟨D', hs, fun b hb => by rcases hd b hb with h | h; exact h2 b h; omega⟩, hc.to_below hB h2, hq⟩
theorem switchB (h : Sb B w v S) (hB : B ≤ w.heap.size) (p : Int) (on : Bool) : Calls Try.prog 18 #[v, .int .i64 p, .bool on] w fun e w' => e = .returned (.int .i64 (switchI S p)) ∧ Sb B w' v (switchS S p on) ∧ Below B w w' := by
  obtain ⟨D, h1, h2⟩ := h
  refine (switch_walk h1 p on).mono ?_
  rintro e w' ⟨rfl, hs, hc⟩
  exact ⟨rfl, ⟨D, hs, h2⟩, hc.to_below hB h2⟩
theorem partsB (h : Sb B w v S) : Calls Try.prog 37 #[v] w fun e w' => e = .returned (.int .i64 S.np) ∧ w' = w := by obtain ⟨D, h1, h2⟩ := h; exact parts_walk h1
theorem lenB (h : Sb B w v S) (p : Int) : Calls Try.prog 23 #[v, .int .i64 p] w fun e w' => e = .returned (.int .i64 (lenS S p)) ∧ w' = w := by obtain ⟨D, h1, h2⟩ := h; exact len_walk h1 p
theorem upB (h : Sb B w v S) (p : Int) : Calls Try.prog 22 #[v, .int .i64 p] w fun e w' => e = .returned (.bool (upS S p)) ∧ w' = w := by obtain ⟨D, h1, h2⟩ := h; exact up_walk h1 p
theorem logB (h : Sb B w v S) (p : Int) : Calls Try.prog 38 #[v, .int .i64 p] w fun e w' => ∃ r, e = .returned r ∧ w'.ownsRow w.heap.size 40 2 r (logS S p).length (flatR (logS S p)) ∧ Below w.heap.size w w' := by obtain ⟨D, h1, h2⟩ := h; exact log_walk h1 p
theorem newB {lv : Value} {n : Nat} {l : List Stp} (h1 : 1 ≤ n) (h4 : n ≤ 4) (ho : Ov w lv l) (hc : checkB l = true) :
    Calls Try.prog 14 #[.int .i64 n, lv] w fun e w' => ∃ v, e = .returned (.tuple #[v, .int .i64 0]) ∧ Sb w.heap.size w' v (newS n l) ∧ Below w.heap.size w w' := by
  refine (new_ok h1 h4 ho hc).mono ?_
  rintro e w' ⟨v, D, rfl, hs, hB, hd⟩
  exact ⟨v, rfl, ⟨D, hs, hd⟩, hB⟩
theorem Sb.mono {B' : Nat} (h : Sb B w v S) (hb : B' ≤ B) : Sb B' w v S := by
  obtain ⟨D, h1, h2⟩ := h
  exact ⟨D, h1, fun b hd => Nat.le_trans hb (h2 b hd)⟩
end

/-- The cells behind ao hold the keys l. -/
def Kl (w : World) (ao : Option Addr) (l : List Nat) : Prop := ∀ i, (h : i < l.length) → ∃ b off, ao = some ⟨b, off, none⟩ ∧ w.cell? ⟨b, off + i, none⟩ = some (.int .u64 (l[i] : Nat))
theorem Kl.below {w w' : World} {ao : Option Addr} {l : List Nat} (h : Kl w ao l) (hb : Below w.heap.size w w') : Kl w' ao l := by
  intro i hi
  obtain ⟨b, off, e, c⟩ := h i hi
  exact ⟨b, off, e, by rw [hb.cell (p := ⟨b, off + i, none⟩) (cell_lt c)]; exact c⟩
theorem own_kl {w : World} {base n : Nat} {v : Value} {l : List Nat} (h : w.ownsRow base 37 1 v n (l.map fun k => .int .u64 (k : Nat))) : ∃ ao cap, v = .slice ao l.length cap ∧ Kl w ao l := by
  obtain ⟨h1, h2⟩ := h
  have hn : n = l.length := by simp at h1; omega
  subst hn
  rcases h2 with ⟨rfl, h0⟩ | ⟨g, cap, cur, rfl, hb, hg, hnc, hcm, hcs, htake⟩
  · exact ⟨none, 0, by rw [h0], fun i hi => by omega⟩
  · refine ⟨_, cap, rfl, fun i hi => ⟨g, 0, rfl, ?_⟩⟩
    have e := congrArg (fun l => l[i]?) htake
    simp only [List.getElem?_take, Nat.mul_one, if_pos hi, List.getElem?_map, List.getElem?_eq_getElem hi] at e
    rw [Nat.zero_add, cell_of_row w g i cur _ (0, 0) hg, ← Array.getElem?_toList, e]; rfl
theorem own_rl {w : World} {base e n : Nat} {v : Value} {l : List Rcd} (h : w.ownsRow base e 2 v n (flatR l)) (hok : ∀ r ∈ l, r.ok) : ∃ ao cap, v = .slice ao l.length cap ∧ Rl w ao l := by
  obtain ⟨⟨ao, cap, e, _, _, _, h4⟩, _⟩ := own_rv h hok
  exact ⟨ao, cap, e, h4⟩

set_option maxRecDepth 100000 in
theorem lrecs_walk {ao bo : Option Addr} {ca cb : Nat} {l : List Rcd} {w : World} (hl : l.length ≤ 1048576) (ha : Rl w ao l) (hb : Rl w bo l) :
    Calls Try.prog 8 #[.slice ao l.length ca, .slice bo l.length cb] w fun e w' => e = .returned (.bool true) ∧ Below w.heap.size w w' := by
  have HA : Hid (Rl w ao l) := ha
  have HB : Hid (Rl w bo l) := hb
  clear ha hb
  go_enter Try.func8, Try.ntmps8
  go_wp2_with fail
  go_loopw [5] (fun iv wr => ∃ k : Nat, k ≤ l.length ∧ iv = .int .i64 k ∧ Below w.heap.size w wr) (fun iv _ => l.length - (intOf iv).toNat)
  case atStart => exact ⟨0, Nat.zero_le _, rfl, below_same _⟩
  case round =>
    obtain ⟨k, hk, rfl, hB⟩ := hrel
    have HW : Hid (Below w.heap.size w wr) := hB
    clear hB
    by_cases hlt : k < l.length
    · obtain ⟨b, off, rfl, c0, c1⟩ := HA.out.below HW.out k hlt
      obtain ⟨d, doff, rfl, d0, d1⟩ := HB.out.below HW.out k hlt
      obtain ⟨o, hoe⟩ : ∃ o, o = l[k] := ⟨_, rfl⟩
      rw [← hoe] at c0 c1 d0 d1
      have hn : ((o.k : Int) != (o.k : Int)) = false := by simp
      clear hoe
      go_wp2_with fail
      go_quiet ((go_at_call 25; exact Calls.quiet_of_same (rsame_walk _ _ _)))
      go_wp2_with fail
      go_roundw
      case rel => exact ⟨k + 1, by omega, by go_num, below_trans HW.out (below_drewN _ _)⟩
      case measure => simp [intOf]; omega
    · go_wp2_with fail
      go_ret
      exact ⟨rfl, HW.out⟩
end Go.Proofs.Ytjkhegekojflhab
