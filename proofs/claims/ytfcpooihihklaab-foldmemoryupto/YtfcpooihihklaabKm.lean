/- A job's pipeline, kind, records and place: right, place, table. -/
import Derived.Test.YtfcpooihihklaabKl
namespace Go.Proofs.Ytfcpooihihklaab
open Ieee Go.RowKit

/-- A block that holds a job. -/
structure JB (w : World) (b : Nat) (lv : Value) (kind : Int) (rv : Value) (n : Int) : Prop where
  c0 : w.cell? ⟨b, 0, none⟩ = some lv
  c1 : w.cell? ⟨b, 1, none⟩ = some (.int .i64 kind)
  c2 : w.cell? ⟨b, 2, none⟩ = some rv
  c3 : w.cell? ⟨b, 3, none⟩ = some (.int .i64 n)

theorem JB.below {w w' : World} {b : Nat} {lv rv : Value} {kind n : Int} (h : JB w b lv kind rv n) (hb : Below w.heap.size w w') : JB w' b lv kind rv n :=
  ⟨by rw [hb.cell (p := ⟨b, 0, none⟩) (cell_lt h.c0)]; exact h.c0, by rw [hb.cell (p := ⟨b, 1, none⟩) (cell_lt h.c1)]; exact h.c1, by rw [hb.cell (p := ⟨b, 2, none⟩) (cell_lt h.c2)]; exact h.c2, by rw [hb.cell (p := ⟨b, 3, none⟩) (cell_lt h.c3)]; exact h.c3⟩

theorem right_walk {lv rv : Value} {l : List Stp} {kind n : Int} {w : World} (ho : Ov w lv l) :
    Calls Try.prog 6 #[.agg #[lv, .int .i64 kind, rv, .int .i64 n]] w fun e w' => e = .returned (.bool (checkB l && knownB kind)) ∧ Below w.heap.size w w' := by
  obtain ⟨⟨ao, cap, rfl, h1, h2, h3, h4⟩, h5⟩ := ho
  have HO : Hid (Ol w ao l) := h4
  have HL : Hid (l.length ≤ maxLen) := Nat.le_trans h1 h2
  clear h1 h2 h3 h4 h5
  cases hc : checkB l
  · have HC : Hid (chkI l = 30) := by show _ = _; unfold chkI; rw [hc]; rfl
    clear hc
    go_enter Try.func6, Try.ntmps6
    go_wp2_with fail
    refine (check_walk HL.out (HO.out.below (below_alloc _ _))).mono ?_
    rw [HC.out]
    rintro e w1 ⟨rfl, hB⟩
    go_wp2_with fail
    go_ret
    exact ⟨rfl, below_trans (below_alloc _ _) hB⟩
  · have HC : Hid (chkI l = 0) := by show _ = _; unfold chkI; rw [hc]; rfl
    clear hc
    go_enter Try.func6, Try.ntmps6
    go_wp2_with fail
    refine (check_walk HL.out (HO.out.below (below_alloc _ _))).mono ?_
    rw [HC.out]
    rintro e w1 ⟨rfl, hB⟩
    have k1 : w1.cell? ⟨w.heap.size, 1, none⟩ = some (.int .i64 kind) := by
      rw [hB.cell (p := ⟨w.heap.size, 1, none⟩) (by simp)]; simp [go_sem]
    go_wp2_with (go_at_call 20; refine (known_walk _ _).mono ?_; rintro e w9 ⟨rfl, h9⟩; have h9 := h9.symm; subst h9)
    go_ret
    exact ⟨by simp, below_trans (below_alloc _ _) hB⟩

/-- A place among n records. -/
def placeN (a : Int) (n : Nat) : Nat := (IntKind.u64.wrap a).toNat % (n + 1)
theorem place_le (a : Int) (n : Nat) : placeN a n ≤ n := by have := Nat.mod_lt (IntKind.u64.wrap a).toNat (show 0 < n + 1 by omega); unfold placeN; omega

theorem place_num (a : Int) {n : Nat} (hn : n ≤ 11728124029610) : wrap64 ((IntKind.u64.wrap a).tmod ((n : Int) + 1)) = (placeN a n : Int) := by
  have h1 : 0 ≤ IntKind.u64.wrap a ∧ IntKind.u64.wrap a < 18446744073709551616 := by rw [IntKind.wrap_u64]; omega
  obtain ⟨x, hx⟩ : ∃ x : Nat, IntKind.u64.wrap a = x := ⟨(IntKind.u64.wrap a).toNat, by omega⟩
  unfold placeN
  rw [hx, Int.tmod_eq_emod_of_nonneg (by omega)]
  have h3 : ((x : Int) % ((n : Int) + 1)) = ((x % (n + 1) : Nat) : Int) := by simp
  have h4 : x % (n + 1) < n + 1 := Nat.mod_lt _ (by omega)
  rw [h3]
  simp only [Int.toNat_natCast]
  unfold wrap64
  omega

theorem tab_batch {l : List Stp} {kind : Int} (hk : knownB kind = true) (recs : List Rcd) : tabB (batchT l kind recs) = true := tab_iff.2 ⟨rise_batch _ _ _, has_batch hk _⟩

theorem Rv.parts {w : World} {v : Value} {l : List Rcd} (h : Rv w v l) : ∃ ao cap, v = .slice ao l.length cap ∧ l.length ≤ cap ∧ cap ≤ maxLen ∧ (ao = none → cap = 0) ∧ Rl w ao l := h.1

theorem table_walk {lv rv rv2 : Value} {l : List Stp} {kind n : Int} {recs : List Rcd} {w : World} (ho : Ov w lv l) (hr : Rv w rv2 recs) (hc : checkB l = true) (hk : knownB kind = true) (hsz : recs.length * 24 ≤ 281474976710656) :
    Calls Try.prog 7 #[.agg #[lv, .int .i64 kind, rv, .int .i64 n], rv2] w fun e w' => ∃ g, e = .returned (.tuple #[.slice (some ⟨g, 0, none⟩) (batchT l kind recs).length (batchT l kind recs).length, .int .i64 (trapN l recs), .bool true]) ∧
      Mq w' g (batchT l kind recs) ∧ w.heap.size ≤ g ∧ g < w'.heap.size ∧ Below w.heap.size w w' := by
  have HO : Hid (Ov w lv l) := ho
  have HR : Hid (Rv w rv2 recs) := hr
  have HSZ : Hid (recs.length * 24 ≤ 281474976710656) := hsz
  clear ho hr hsz
  go_enter Try.func7, Try.ntmps7
  go_wp2_with fail
  refine (batch_good (HO.out.below (below_alloc _ _)) (HR.out.below (below_alloc _ _)) hc hk HSZ.out).mono ?_
  rintro e w1 ⟨g, rfl, hM, hg1, hg2, hB⟩
  have HM : Hid (Mq w1 g (batchT l kind recs)) := hM
  have HB : Hid (Below w.heap.size w w1) := below_trans (below_alloc _ _) hB
  have HG1 : Hid (w.heap.size ≤ g) := by have := hg1; simp at this; show _ ≤ _; omega
  have HG2 : Hid (g < w1.heap.size) := hg2
  have HLN : Hid ((batchT l kind recs).length ≤ maxLen) := by have := batch_len l kind recs; have := HSZ.out; show _ ≤ _; simp only [maxLen]; omega
  have HT : Hid (tabB (batchT l kind recs) = true) := tab_batch hk recs
  clear hM hg1 hg2 hB
  go_wp2_with fail
  refine (sound_walk HLN.out (mq_ql HM.out)).mono ?_
  rw [HT.out]
  rintro e w2 ⟨rfl, hB⟩
  go_wp2_with fail
  refine bodyPost_ret (v := .tuple #[.slice (some ⟨g, 0, none⟩) (batchT l kind recs).length (batchT l kind recs).length, .int .i64 (trapN l recs), .bool true]) (by simp [results, Try.results7, go_sem]) rfl ?_
  exact ⟨g, rfl, HM.out.below hB HG2.out, HG1.out, Nat.lt_of_lt_of_le HG2.out hB.size, below_trans HB.out hB⟩
end Go.Proofs.Ytfcpooihihklaab
