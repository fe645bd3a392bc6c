/- Contracts of the reference's Rising, Find over cells. -/
import Derived.Test.YtjcmmhonidamoaaCa
namespace Go.Proofs.Ytjcmmhonidamoaa
open Go.RowKit

set_option maxRecDepth 100000 in
set_option maxHeartbeats 2000000 in
theorem rrising_some (l : List Cl) (b off cap : Nat) (w : World) (hl : l.length ≤ cap) (hcap : cap ≤ maxLen) (hp : 0 < l.length) (hc : ∀ i, (hi : i < l.length) → CA w b (off + i * 6) l[i]) :
    Calls Try.prog 35 #[.slice (some ⟨b, off, none⟩) l.length cap] w fun e w' => e = .returned (.bool (ordB l)) ∧ Below w.heap.size w w' := by
  unfold maxLen at hcap
  have hli : (l.length : Int) ≤ 9223372036854775807 := by omega
  have HC : Hid (∀ i, (hi : i < l.length) → CA w b (off + i * 6) l[i]) := hc
  have HP : Hid (0 < l.length) := hp
  clear hc hcap hl hp
  go_enter Try.func35, Try.ntmps35
  go_wp2_with fail
  go_loopw [3] (fun iv wr => ∃ i : Nat, iv = .int .i64 i ∧ 1 ≤ i ∧ i ≤ l.length ∧ ordE (lastK (l.take i)) (l.drop i) = ordB l ∧ Below w.heap.size w wr) (fun iv _ => l.length - (intOf iv).toNat)
  case atStart => exact ⟨1, rfl, by omega, HP.out, ord_start HP.out, Below.refl _ _⟩
  case round =>
    obtain ⟨i, rfl, hi1, hil, hord, hbel⟩ := hrel
    have HO : Hid (ordE (lastK (l.take i)) (l.drop i) = ordB l) := hord
    have HB : Hid (Below w.heap.size w wr) := hbel
    clear hord hbel
    by_cases hlt : i < l.length
    · obtain ⟨j, rfl⟩ : ∃ j, i = j + 1 := ⟨i - 1, by omega⟩
      have hA := ((HC.out (j + 1) hlt).keep HB.out).c0
      have hD := ((HC.out j (by omega)).keep HB.out).c0
      have HLK : Hid (lastK (l.take (j + 1)) = some l[j].k) := lastK_take (by omega)
      obtain ⟨c, hcd⟩ : ∃ c, l[j + 1].k = c := ⟨_, rfl⟩
      obtain ⟨d, hdd⟩ : ∃ d, l[j].k = d := ⟨_, rfl⟩
      rw [hcd] at hA
      rw [hdd] at hD HLK
      have HCD : Hid (l[j + 1].k = c) := hcd
      clear hcd hdd
      have hlti : ((j + 1 : Nat) : Int) < (l.length : Int) := by omega
      have hltj : (j : Int) < (l.length : Int) := by omega
      have hjj : ((j + 1 : Nat) : Int) - 1 = (j : Int) := by omega
      have hD2 : ∀ n, (wr.drewN n).cell? ⟨b, off + j * 6, none⟩ = some (.int .u64 d) := fun _ => hD
      have hA2 : ∀ n, (wr.drewN n).cell? ⟨b, off + (j + 1) * 6, none⟩ = some (.int .u64 c) := fun _ => hA
      by_cases hk : c ≤ d
      · have hki : (c : Int) ≤ (d : Int) := by omega
        have HR : Hid (ordB l = false) := ord_stop hlt HO.out (by rw [HLK.out, HCD.out]; simp [folB]; omega)
        go_wp2_with fail
        go_quiet (fail)
        go_wp2_with fail
        go_ret
        exact ⟨by rw [HR.out]; rfl, below_trans HB.out (below_drewN _ _)⟩
      · have hki : ¬ (c : Int) ≤ (d : Int) := by omega
        have HR : Hid (ordE (lastK (l.take (j + 1 + 1))) (l.drop (j + 1 + 1)) = ordB l) := ord_step hlt HO.out (by rw [HLK.out, HCD.out]; simp [folB]; omega)
        go_wp2_with fail
        go_quiet (fail)
        have HB2 : Hid (Below w.heap.size w (wr.drewN nq)) := below_trans HB.out (below_drewN _ _)
        go_wp2_with fail
        go_roundw
        case rel => exact ⟨j + 1 + 1, by go_num, by omega, by omega, HR.out, HB2.out⟩
        case measure => simp [intOf]; omega
    · have hlti : ¬ (i : Int) < (l.length : Int) := by omega
      have HR : Hid (ordB l = true) := ord_end (by omega) HO.out
      go_wp2_with fail
      go_ret
      exact ⟨by rw [HR.out]; rfl, HB.out⟩

set_option maxRecDepth 100000 in
theorem rrising_none (ao : Option Addr) (cap : Nat) (w : World) :
    Calls Try.prog 35 #[.slice ao 0 cap] w fun e w' => e = .returned (.bool true) ∧ Below w.heap.size w w' := by
  go_enter Try.func35, Try.ntmps35
  go_wp2
  refine wp_loop_rounds 1 ?_
  rw [rounds_succ]
  go_wp2
  go_ret
  exact ⟨rfl, Below.refl _ _⟩

theorem rrising_walk {w : World} {v : Value} {l : List Cl} (h : Cv w v l) :
    Calls Try.prog 35 #[v] w fun e w' => e = .returned (.bool (ordB l)) ∧ Below w.heap.size w w' := by
  rcases cv_cases h with ⟨rfl, ao, cap, rfl⟩ | ⟨b, off, cap, rfl, hp, h1, h2, h3⟩
  · exact rrising_none ao cap w
  · exact rrising_some l b off cap w h1 h2 hp h3

set_option maxRecDepth 100000 in
set_option maxHeartbeats 2000000 in
theorem rfind_some (l : List Cl) (b off cap k : Nat) (w : World) (hl : l.length ≤ cap) (hcap : cap ≤ maxLen) (hc : ∀ i, (hi : i < l.length) → CA w b (off + i * 6) l[i]) :
    Calls Try.prog 16 #[.slice (some ⟨b, off, none⟩) l.length cap, .int .u64 k] w fun e w' => e = .returned (.tuple #[.int .i64 (findI l k), .bool (findB l k)]) ∧ Below w.heap.size w w' := by
  have HV : Hid (Cv w (.slice (some ⟨b, off, none⟩) l.length cap) l) := cv_of hl hcap hc
  unfold maxLen at hcap
  have hli : (l.length : Int) ≤ 9223372036854775807 := by omega
  have HC : Hid (∀ i, (hi : i < l.length) → CA w b (off + i * 6) l[i]) := hc
  clear hc hcap hl
  cases ho : ordB l
  · have e1 : findI l k = 0 := by simp [findI, ho]
    have e2 : findB l k = false := by simp [findB, ho]
    rw [e1, e2]
    go_enter Try.func16, Try.ntmps16
    go_wp2_with fail
    refine (rrising_walk HV.out).mono ?_
    rw [ho]
    rintro e w1 ⟨rfl, hB1⟩
    go_wp2_with fail
    go_ret2
    exact ⟨rfl, hB1⟩
  · have e1 : findI l k = fndF l k := by simp [findI, ho]
    have e2 : findB l k = isK l (fndF l k) k := by simp [findB, ho]
    rw [e1, e2]
    clear e1 e2
    go_enter Try.func16, Try.ntmps16
    go_wp2_with fail
    refine (rrising_walk HV.out).mono ?_
    rw [ho]
    rintro e w1 ⟨rfl, hB1⟩
    have HB : Hid (Below w.heap.size w w1) := hB1
    clear hB1 ho HV
    go_wp2_with fail
    go_loop [6] (fun iv => ∃ i : Nat, iv = .int .i64 i ∧ i ≤ l.length ∧ i + fndF (l.drop i) k = fndF l k) (fun iv => l.length - (intOf iv).toNat)
    case atStart => exact ⟨0, rfl, by omega, by simp⟩
    case round =>
      obtain ⟨i, rfl, hil, hfn⟩ := hrel
      have HF : Hid (i + fndF (l.drop i) k = fndF l k) := hfn
      clear hfn
      by_cases hlt : i < l.length
      · have hA := (HC.out i hlt).keep HB.out
        obtain ⟨c, hcd⟩ : ∃ c, l[i] = c := ⟨_, rfl⟩
        rw [hcd] at hA
        have HCD : Hid (l[i] = c) := hcd
        clear hcd
        have hlti : (i : Int) < (l.length : Int) := by omega
        have c0 := hA.c0
        have hcw : ∀ n, (w1.drewN n).cell? ⟨b, off + i * 6, none⟩ = some (.int .u64 c.k) := fun _ => c0
        clear hA
        by_cases hk : c.k < k
        · have hki : (c.k : Int) < (k : Int) := by omega
          have HR : Hid (i + 1 + fndF (l.drop (i + 1)) k = fndF l k) := fnd_step hlt HF.out (by rw [HCD.out]; exact hk)
          go_wp2_with fail
          go_round
          case rel => exact ⟨i + 1, by go_num, by omega, HR.out⟩
          case measure => simp [intOf]; omega
        · have hki : ¬ (c.k : Int) < (k : Int) := by omega
          have HR : Hid (i = fndF l k) := fnd_stop hlt HF.out (by rw [HCD.out]; exact hk)
          have HK : Hid (isK l (fndF l k) k = decide (c.k = k)) := by show _ = _; rw [← HR.out]; simp [isK, hlt, HCD.out]
          have hB0 := HB.out
          by_cases he : c.k = k
          · have hke : ((c.k : Int) == (k : Int)) = true := by simp [he]
            go_wp2_with fail
            go_quiet (fail)
            go_wp2_with fail
            go_ret2
            exact ⟨by rw [HK.out, ← HR.out]; simp [he], below_trans HB.out (below_drewN _ _)⟩
          · have hke : ((c.k : Int) == (k : Int)) = false := by simp; omega
            go_wp2_with fail
            go_quiet (fail)
            go_wp2_with fail
            go_ret2
            exact ⟨by rw [HK.out, ← HR.out]; simp [he], below_trans HB.out (below_drewN _ _)⟩
      · have hlti : ¬ (i : Int) < (l.length : Int) := by omega
        have HR : Hid (i = fndF l k) := fnd_end (by omega) HF.out
        have HK : Hid (isK l (fndF l k) k = false) := by show _ = _; rw [← HR.out]; simp [isK, List.getElem?_eq_none (Nat.le_of_not_lt hlt)]
        go_wp2_with fail
        go_quiet (fail)
        go_wp2_with fail
        go_ret2
        exact ⟨by rw [HK.out, ← HR.out]; rfl, below_trans HB.out (below_drewN _ _)⟩

set_option maxRecDepth 100000 in
set_option maxHeartbeats 1000000 in
theorem rfind_none (ao : Option Addr) (cap k : Nat) (w : World) :
    Calls Try.prog 16 #[.slice ao 0 cap, .int .u64 k] w fun e w' => e = .returned (.tuple #[.int .i64 0, .bool false]) ∧ Below w.heap.size w w' := by
  go_enter Try.func16, Try.ntmps16
  go_wp2_with fail
  refine (rrising_none ao cap _).mono ?_
  rintro e w1 ⟨rfl, hB1⟩
  go_wp2_with fail
  refine wp_loop_rounds 1 ?_
  rw [rounds_succ]
  go_wp2_with fail
  go_quiet (fail)
  go_wp2_with fail
  go_ret2
  exact ⟨rfl, below_trans hB1 (below_drewN _ _)⟩

theorem rfind_walk {w : World} {v : Value} {l : List Cl} (h : Cv w v l) (k : Nat) :
    Calls Try.prog 16 #[v, .int .u64 k] w fun e w' => e = .returned (.tuple #[.int .i64 (findI l k), .bool (findB l k)]) ∧ Below w.heap.size w w' := by
  rcases cv_cases h with ⟨rfl, ao, cap, rfl⟩ | ⟨b, off, cap, rfl, hp, h1, h2, h3⟩
  · exact rfind_none ao cap k w
  · exact rfind_some l b off cap k w h1 h2 h3
end Go.Proofs.Ytjcmmhonidamoaa
