/- Slices of pairs as lists; tables: contracts of fold.Sound and of the reference's. -/
import Derived.Test.YtopjedgknbbgkaaGreatM00
import Derived.Test.YtopjedgknbbgkaaGreatM07
import Derived.Test.YtopjedgknbbgkaaGreatGb
import Derived.Test.YtopjedgknbbgkaaGreatM06
import Derived.Test.YtopjedgknbbgkaaGreatM08
import Derived.Laws.AppendOwnNone
import Derived.Laws.StructEq
import Derived.OwnWalk
namespace Go.Proofs.YtopjedgknbbgkaaGreat

open Go.RowKit





































def goodAt (t : List Pr) (i : Nat) : Prop := (∀ h : i < t.length, t[i].v.h = true) ∧ (∀ (h : i < t.length) (_ : 0 < i), t[i - 1].k < t[i].k)


theorem rise_of_good {t : List Pr} (h : ∀ i, i < t.length → goodAt t i) : Rise t := by
  unfold Rise
  rw [List.pairwise_iff_getElem]
  intro i j hi hj hij
  induction j with
  | zero => omega
  | succ j ih =>
    have h1 := (h (j + 1) hj).2 hj (by omega)
    simp only [Nat.add_sub_cancel] at h1
    rcases Nat.lt_or_ge i j with h2 | h2
    · exact Nat.lt_trans (ih (by omega) h2) h1
    · obtain rfl : i = j := by omega
      exact h1


theorem tab_iff {t : List Pr} : tabB t = true ↔ Rise t ∧ hasT t := by
  induction t with
  | nil => exact ⟨fun _ => ⟨List.Pairwise.nil, fun p hp => by simp at hp⟩, fun _ => rfl⟩
  | cons p t ih =>
    have e : tabB (p :: t) = (p.v.h && (t.all fun q => decide (p.k < q.k)) && tabB t) := rfl
    rw [e, Bool.and_eq_true, Bool.and_eq_true, ih, List.all_eq_true]
    unfold Rise hasT
    rw [List.pairwise_cons]
    constructor
    · rintro ⟨⟨h1, h2⟩, h3, h4⟩
      exact ⟨⟨fun q hq => by simpa using h2 q hq, h3⟩, fun q hq => by
        rcases List.mem_cons.1 hq with h | h
        · rw [h]; exact h1
        · exact h4 q h⟩
    · rintro ⟨⟨h2, h3⟩, h4⟩
      exact ⟨⟨h4 p (List.mem_cons_self), fun q hq => by simpa using h2 q hq⟩, h3, fun q hq => h4 q (List.mem_cons_of_mem _ hq)⟩


theorem tab_good {t : List Pr} (h : ∀ i, i < t.length → goodAt t i) : tabB t = true := by
  rw [tab_iff]
  refine ⟨rise_of_good h, fun p hp => ?_⟩
  obtain ⟨i, hi, rfl⟩ := List.getElem_of_mem hp
  exact (h i hi).1 hi


theorem tab_none {t : List Pr} {i : Nat} (hi : i < t.length) (h : t[i].v.h = false) : tabB t = false := by
  cases hb : tabB t
  · rfl
  · have := (tab_iff.1 hb).2 t[i] (List.getElem_mem hi); rw [h] at this; cases this


theorem tab_falls {t : List Pr} {i : Nat} (hi : i < t.length) (h0 : 0 < i) (h : ¬ t[i - 1].k < t[i].k) : tabB t = false := by
  cases hb : tabB t
  · rfl
  · exact absurd ((List.pairwise_iff_getElem.1 (tab_iff.1 hb).1) (i - 1) i (by omega) hi (by omega)) h


/-- Where Sound stands. -/
def Sd (w : World) (t : List Pr) (iv : Value) (wr : World) : Prop := ∃ i : Nat, i ≤ t.length ∧ iv = .int .i64 i ∧ (∀ j, j < i → goodAt t j) ∧ Below w.heap.size w wr


theorem sd_step {w wr w1 : World} {t : List Pr} {i : Nat} (hi : i < t.length) (h : ∀ j, j < i → goodAt t j) (hg : goodAt t i) (hB : Below w.heap.size w wr) (h1 : Below wr.heap.size wr w1) : Sd w t (.int .i64 ((i : Int) + 1)) w1 :=
  ⟨i + 1, hi, by simp, fun j hj => by
    rcases Nat.lt_or_ge j i with h2 | h2
    · exact h j h2
    · obtain rfl : j = i := by omega
      exact hg, below_trans hB h1⟩


theorem good_zero {t : List Pr} (hi : 0 < t.length) {o : Pr} (ho : o = t[0]) (h : o.v.h = true) : goodAt t 0 := ⟨fun _ => by rw [← ho]; exact h, fun _ h0 => by omega⟩
theorem good_more {t : List Pr} {i : Nat} (hi : i < t.length) {o q : Pr} (ho : o = t[i]) (hq : q = t[i - 1]) (h : o.v.h = true) (hk : q.k < o.k) : goodAt t i := ⟨fun _ => by rw [← ho]; exact h, fun _ _ => by rw [← ho, ← hq]; exact hk⟩


theorem wrap_small {x : Int} (h0 : 0 ≤ x) (h1 : x < 9223372036854775808) : IntKind.i64.wrap x = x := by
  rw [IntKind.wrap_i64]; omega


theorem below_alloc_drew (w : World) (o : Obj) (n : Nat) : Below w.heap.size w ((w.alloc o).drewN n) := below_trans (below_alloc _ _) (below_drewN _ _)


set_option maxRecDepth 100000 in
set_option maxHeartbeats 2000000 in
theorem fsound_walk {ao : Option Addr} {ca : Nat} {l : List Pr} {w : World} (hl : l.length ≤ maxLen) (ha : Ql w ao l) :
    Calls Tryz.prog 56 #[.slice ao l.length ca] w fun e w' => e = .returned (.bool (tabB l)) ∧ Below w.heap.size w w' := by
  have hli : (l.length : Int) ≤ 9223372036854775807 := by simp only [maxLen] at hl; omega
  have HA : Hid (Ql w ao l) := ha
  clear ha hl
  go_enter Tryz.func56, Tryz.ntmps56
  go_wp2_with fail
  go_loopw [7] (fun iv wr => Sd w l iv wr) (fun iv _ => l.length - (intOf iv).toNat)
  case atStart => exact ⟨0, Nat.zero_le _, rfl, fun j hj => by omega, below_same _⟩
  case round =>
    obtain ⟨i, hi, rfl, hgood, hB⟩ := hrel
    have HG : Hid (∀ j, j < i → goodAt l j) := hgood
    have HB : Hid (Below w.heap.size w wr) := hB
    clear hgood hB
    by_cases hlt : i < l.length
    · obtain ⟨b, off, rfl, c0, c1, c2⟩ := HA.out.below HB.out i hlt
      obtain ⟨o, hoe⟩ : ∃ o, o = l[i] := ⟨_, rfl⟩
      rw [← hoe] at c0 c1 c2
      have HE : Hid (o = l[i]) := hoe
      clear hoe
      cases hh : o.v.h
      · have HT : Hid (tabB l = false) := tab_none hlt (by rw [← HE.out]; exact hh)
        go_wp2_with fail
        go_ret
        exact ⟨ret_bool HT.out.symm, below_trans HB.out (below_alloc _ _)⟩
      · have HH : Hid (o.v.h = true) := hh
        rw [hh] at c1
        clear hh
        by_cases h0 : i = 0
        · subst h0
          simp only [Nat.zero_mul, Nat.add_zero] at c0 c1 c2
          have R' : ∀ n, Sd w l (.int .i64 (((0 : Nat) : Int) + 1)) ((wr.alloc (Obj.cells #[.int .u64 o.k, .bool true, .int .u64 o.v.b] 65)).drewN n) := fun n => sd_step hlt HG.out (good_zero hlt HE.out HH.out) HB.out (below_alloc_drew _ _ _)
          go_wp2_with fail
          go_quiet (fail)
          go_wp2_with fail
          go_roundw
          case rel => exact R' _
          case measure => simp [intOf]; omega
        · obtain ⟨b2, off2, e2, g0, g1, g2⟩ := HA.out.below HB.out (i - 1) (by omega)
          cases e2
          obtain ⟨q, hqe⟩ : ∃ q, q = l[i - 1] := ⟨_, rfl⟩
          rw [← hqe] at g0 g1 g2
          have HQ : Hid (q = l[i - 1]) := hqe
          clear hqe g1 g2
          have hi0 : (0 : Int) < (i : Int) := by omega
          obtain ⟨j, hj⟩ : ∃ j, i = j + 1 := ⟨i - 1, by omega⟩
          subst hj
          simp only [Nat.add_sub_cancel] at g0
          have hwj : IntKind.i64.wrap (j : Int) = j := wrap_small (by omega) (by omega)
          have hjl : j < l.length := by omega
          have g0' : ∀ x : Obj, (wr.alloc x).cell? ⟨b, off + j * 3, none⟩ = some (.int .u64 q.k) := fun x => by rw [(below_alloc wr x).cell (p := ⟨b, off + j * 3, none⟩) (cell_lt g0)]; exact g0
          by_cases hk : q.k < o.k
          · have R' : ∀ n, Sd w l (.int .i64 (((j + 1 : Nat) : Int) + 1)) ((wr.alloc (Obj.cells #[.int .u64 o.k, .bool true, .int .u64 o.v.b] 65)).drewN n) := fun n => sd_step hlt HG.out (good_more hlt HE.out HQ.out HH.out hk) HB.out (below_alloc_drew _ _ _)
            have hkb : ¬ ((o.k : Int) ≤ (q.k : Int)) := by omega
            clear hk
            go_wp2_with fail
            go_quiet (fail)
            go_wp2_with fail
            go_roundw
            case rel => exact R' _
            case measure => simp [intOf]; omega
          · have HT : Hid (tabB l = false) := tab_falls hlt (by omega) (by rw [← HE.out, ← HQ.out]; exact hk)
            have hkb : (o.k : Int) ≤ (q.k : Int) := by omega
            clear hk
            go_wp2_with fail
            go_quiet (fail)
            go_wp2_with fail
            go_ret
            exact ⟨ret_bool HT.out.symm, below_trans HB.out (below_alloc_drew _ _ _)⟩
    · have HT : Hid (tabB l = true) := tab_good fun j hj => HG.out j (by omega)
      go_wp2_with fail
      go_ret
      exact ⟨ret_bool HT.out.symm, HB.out⟩


end Go.Proofs.YtopjedgknbbgkaaGreat
