/- Numbers parted around one of them. Printed by program. -/
import Derived.Test.YtofkhgokfdpdiabGreatB02
import Derived.Test.YtofkhgokfdpdiabGreatB42
import Derived.Deep.DeepCutAuto
set_option maxRecDepth 100000
set_option maxHeartbeats 16000000
namespace Go.Proofs.YtofkhgokfdpdiabGreat
section
open Go.RowKit

theorem su_stop {p : Nat → Bool} {d : Array Nat} {j i : Nat} (h : i ≤ j → p d[i]! = false) : Sort.scanUp p d j i = i := by
 rw [Sort.scanUp.eq_1]
 refine if_neg ?_
 simp only [Bool.and_eq_true, decide_eq_true_eq, not_and]
 intro hij; rw [h hij]; simp
theorem su_go {p : Nat → Bool} {d : Array Nat} {j i : Nat} (h : i ≤ j) (hp : p d[i]! = true) : Sort.scanUp p d j i = Sort.scanUp p d j (i + 1) := by
 rw [Sort.scanUp.eq_1 p d j i]
 refine if_pos ?_
 simp [h, hp]
theorem sd_stop {p : Nat → Bool} {d : Array Nat} {j i : Nat} (h : i ≤ j → p d[j]! = false) : Sort.scanDown p d i j = j := by
 cases j with
 | zero => rfl
 | succ j =>
  rw [Sort.scanDown]
  refine if_neg ?_
  simp only [Bool.and_eq_true, decide_eq_true_eq, not_and]
  intro hij; rw [h hij]; simp
theorem sd_go {p : Nat → Bool} {d : Array Nat} {j i : Nat} (h1 : 1 ≤ i) (h : i ≤ j) (hp : p d[j]! = true) : Sort.scanDown p d i j = Sort.scanDown p d i (j - 1) := by
 cases j with
 | zero => omega
 | succ j =>
  rw [Sort.scanDown]
  refine (if_pos ?_).trans rfl
  simp only [Bool.and_eq_true, decide_eq_true_eq]
  exact ⟨h, hp⟩
theorem scans_apart {p q : Nat → Bool} (hpq : ∀ x, q x = !p x) {d : Array Nat} {i j i0 j0 : Nat} (hi : Sort.scanUp p d j0 i0 = i) (hj : Sort.scanDown q d i j0 = j) (h1 : 1 ≤ i0) (h : ¬ i > j) : i < j := by
 rcases Nat.lt_or_ge i j with h2 | h2
 ·exact h2
 ·have e : i = j := by omega
  exfalso
  have hle : j ≤ j0 := hj ▸ Sort.scanDown_le q d i j0
  have a1 : p d[i]! = false := by
   cases hp : p d[i]! with
   | false => rfl
   | true =>
    have hs := Sort.scanUp_spec p d j0 _ i0 rfl
    rw [hi] at hs
    have := su_go (j := j0) (by omega) hp
    have hz := Sort.scanUp_ge p d j0 (i + 1)
    have hs2 : Sort.scanUp p d j0 i = i := by
     have key : ∀ m i1, j0 + 1 - i1 = m → Sort.scanUp p d j0 (Sort.scanUp p d j0 i1) = Sort.scanUp p d j0 i1 := by
      intro m
      induction m with
      | zero => intro i1 hm; rw [su_stop (i := i1) (by omega)]; rw [su_stop (by omega)]
      | succ m ih =>
       intro i1 hm
       cases hp1 : p d[i1]! with
       | false => rw [su_stop (i := i1) (fun _ => hp1)]; rw [su_stop (fun _ => hp1)]
       | true => rw [su_go (i := i1) (by omega) hp1]; exact ih (i1 + 1) (by omega)
     have := key _ i0 rfl
     rw [hi] at this; exact this
    rw [this] at hs2; omega
  have a2 : q d[j]! = false := by
   cases hp : q d[j]! with
   | false => rfl
   | true =>
    have key : ∀ j1, 1 ≤ i → Sort.scanDown q d i (Sort.scanDown q d i j1) = Sort.scanDown q d i j1 := by
     intro j1 hi1
     induction j1 with
     | zero => rfl
     | succ j1 ih =>
      by_cases hc : i ≤ j1 + 1 ∧ q d[j1 + 1]! = true
      ·rw [sd_go hi1 hc.1 hc.2]; exact ih
      ·have : Sort.scanDown q d i (j1 + 1) = j1 + 1 := sd_stop (fun hh => by
        cases hq : q d[j1 + 1]! with
        | false => rfl
        | true => exact absurd ⟨hh, hq⟩ hc)
       rw [this, this]
    have hi1 : 1 ≤ i := by have := Sort.scanUp_ge p d j0 i0; omega
    have h3 := key j0 hi1
    rw [hj] at h3
    rw [sd_go hi1 (by omega) hp] at h3
    have := Sort.scanDown_le q d i (j - 1)
    omega
  rw [hpq, ← e, a1] at a2
  cases a2
theorem upeq_walk {w : World} {g o cap n a b pivot : Nat} {d : Array Nat} (h : Un w g o cap d) (hn : d.size = n) (hap : a ≤ pivot) (hpb : pivot < b) (hb : b ≤ n) (hsz : n ≤ 2305843009213693951) :
  Calls Tryz.prog 156 #[.slice (some ⟨g, o, none⟩) n cap, .int .i64 a, .int .i64 b, .int .i64 pivot] w fun e w' => ∃ mid : Nat, e = .returned (.int .i64 mid) ∧
   mid = (Sort.partitionEqual ltN d a b pivot).1 ∧ Us w g o cap n (Sort.partitionEqual ltN d a b pivot).2 w' := by
 show Calls _ _ _ _ fun e w' => ∃ mid : Nat, e = .returned (.int .i64 mid) ∧ mid = (Sort.partEqLoop ltN a (a + 1) (b - 1) (Sort.swp d a pivot)).1 ∧ Us w g o cap n (Sort.partEqLoop ltN a (a + 1) (b - 1) (Sort.swp d a pivot)).2 w'
 have HU : Hid (Us w g o cap n d w) := hn ▸ Us.start h
 obtain ⟨G, hG, hcw, hfw⟩ := HU.out.fam
 have HG : Hid (∀ x, G x = d[x]!) := hG
 have hbi : ((b - 1 : Nat) : Int) = (b : Int) - 1 := by omega
 have HBI : Hid (((b - 1 : Nat) : Int) = (b : Int) - 1) := hbi
 clear h hn hG hbi
 go_in
 go_wp2_with fail
 go_cut [24] (fun _ wx => Us w g o cap n (Sort.swp d a pivot) wx)
 case first =>
  by_cases hae : a = pivot
  ·subst hae
   go_region
   all_goals go_wp2_with fail
   all_goals go_meet
   all_goals exact HU.out.swp0 (i := a) (j := a) HG.out (by omega) (by omega)
  ·go_region
   all_goals go_wp2_with fail
   all_goals go_meet
   all_goals exact HU.out.swp0 (i := a) (j := pivot) HG.out (by omega) (by omega)
 case rest =>
  clear HU HG hcw hfw
  have HU := hidH hcut
  clear hcut
  go_wp2_with fail
  go_loopw [9, 10] (fun iv jv wr => ∃ (i j : Nat) (D : Array Nat), iv = .int .i64 i ∧ jv = .int .i64 j ∧ a < i ∧ i ≤ j + 1 ∧ j < b ∧ Us w g o cap n D wr ∧ Sort.partEqLoop ltN a i j D = Sort.partEqLoop ltN a (a + 1) (b - 1) (Sort.swp d a pivot)) (fun iv jv _ => (intOf jv).toNat + 1 - (intOf iv).toNat)
  case atStart => exact ⟨a + 1, b - 1, _, by simp, by rw [HBI.out], by omega, by omega, by omega, HU.out, rfl⟩
  case round =>
   clear HU
   obtain ⟨i, j, D, rfl, rfl, h1, h2, h3, hU, hO⟩ := hrel
   have HU : Hid (Us w g o cap n D wr) := hU
   have HL : Hid (Sort.partEqLoop ltN a i j D = Sort.partEqLoop ltN a (a + 1) (b - 1) (Sort.swp d a pivot)) := hO
   clear hU hO
   go_wp2_with fail
   go_loopw [9] (fun iv wr => ∃ t : Nat, iv = .int .i64 t ∧ i ≤ t ∧ t ≤ j + 1 ∧ Us w g o cap n D wr ∧ Sort.scanUp (fun x => !ltN D[a]! x) D j t = Sort.scanUp (fun x => !ltN D[a]! x) D j i) (fun iv _ => j + 1 - (intOf iv).toNat)
   case atStart => exact ⟨i, rfl, Nat.le_refl _, by omega, HU.out, rfl⟩
   case round =>
    clear HU
    obtain ⟨t, rfl, h1a, h2a, hU, hO⟩ := hrel
    have HU : Hid (Us w g o cap n D wr) := hU
    have HOa : Hid (Sort.scanUp (fun x => !ltN D[a]! x) D j t = Sort.scanUp (fun x => !ltN D[a]! x) D j i) := hO
    obtain ⟨G, hG, hcw, hfw⟩ := hU.fam
    have HG : Hid (∀ x, G x = D[x]!) := hG
    clear hU hO hG
    go_wp2_with fail
    go_cut [43] (fun c wx => c = .bool (decide (t ≤ j) && !ltN (G a) (G t)) ∧ Us w g o cap n D wx)
    case first =>
     by_cases hij : t ≤ j
     ·go_quiet ((go_at_call 155; exact Calls.quiet_of_same (uless_walk _ _ _)))
      go_wp2_with fail
      go_meet
      exact ⟨by simp [hij], HU.out.drew _⟩
     ·go_quiet (fail)
      go_wp2_with fail
      go_meet
      exact ⟨by simp [hij], HU.out.drew _⟩
    case rest =>
     obtain ⟨rfl, hU2⟩ := hcut
     clear HU hcw hfw
     have HU : Hid (Us w g o cap n D wc) := hU2
     clear hU2
     cases hc : (decide (t ≤ j) && !ltN (G a) (G t))
     ·have HTa : Hid (Sort.scanUp (fun x => !ltN D[a]! x) D j i = t) := by
       show _ = _
       rw [← HOa.out, su_stop (fun hh => by
        have hc2 := hc
        simp only [hh, decide_true, Bool.true_and] at hc2
        rw [HG.out, HG.out] at hc2
        exact hc2)]
      clear hc HG
      obtain ⟨i2, hi2⟩ : ∃ i2, i2 = t := ⟨_, rfl⟩
      subst hi2
      go_wp2_with fail
      go_loopw [10] (fun iv wr => ∃ t : Nat, iv = .int .i64 t ∧ t ≤ j ∧ i2 ≤ t + 1 ∧ Us w g o cap n D wr ∧ Sort.scanDown (fun x => ltN D[a]! x) D i2 t = Sort.scanDown (fun x => ltN D[a]! x) D i2 j) (fun iv _ => (intOf iv).toNat)
      case atStart => exact ⟨j, rfl, Nat.le_refl _, by omega, HU.out, rfl⟩
      case round =>
       clear HU
       obtain ⟨t, rfl, h1b, h2b, hU, hO⟩ := hrel
       have HU : Hid (Us w g o cap n D wr) := hU
       have HOb : Hid (Sort.scanDown (fun x => ltN D[a]! x) D i2 t = Sort.scanDown (fun x => ltN D[a]! x) D i2 j) := hO
       obtain ⟨G, hG, hcw, hfw⟩ := hU.fam
       have HG : Hid (∀ x, G x = D[x]!) := hG
       clear hU hO hG
       go_wp2_with fail
       go_cut [59] (fun c wx => c = .bool (decide (i2 ≤ t) && ltN (G a) (G t)) ∧ Us w g o cap n D wx)
       case first =>
        by_cases hij : i2 ≤ t
        ·go_quiet ((go_at_call 155; exact Calls.quiet_of_same (uless_walk _ _ _)))
         go_wp2_with fail
         go_meet
         exact ⟨by simp [hij], HU.out.drew _⟩
        ·go_quiet (fail)
         go_wp2_with fail
         go_meet
         exact ⟨by simp [hij], HU.out.drew _⟩
       case rest =>
        obtain ⟨rfl, hU2⟩ := hcut
        clear HU hcw hfw
        have HU : Hid (Us w g o cap n D wc) := hU2
        clear hU2
        cases hc : (decide (i2 ≤ t) && ltN (G a) (G t))
        ·have HTb : Hid (Sort.scanDown (fun x => ltN D[a]! x) D i2 j = t) := by
          show _ = _
          rw [← HOb.out, sd_stop (fun hh => by
           have hc2 := hc
           simp only [hh, decide_true, Bool.true_and] at hc2
           rw [HG.out, HG.out] at hc2
           exact hc2)]
         clear hc HG
         obtain ⟨j2, hj2⟩ : ∃ j2, j2 = t := ⟨_, rfl⟩
         subst hj2
         by_cases hgt : i2 > j2
         ·have hgi : (i2 : Int) > (j2 : Int) := by omega
          have HE : Hid (Sort.partEqLoop ltN a (a + 1) (b - 1) (Sort.swp d a pivot) = (i2, D)) := by
           show _ = _
           rw [← HL.out, Sort.partEqLoop_eq, HTa.out, HTb.out, if_pos hgt]
          go_wp2_with fail
          go_ret
          exact ⟨i2, rfl, by rw [HE.out], by rw [HE.out]; exact HU.out⟩
         ·have hlt : i2 < j2 := scans_apart (fun x => by simp) HTa.out HTb.out (by omega) hgt
          have hgi : ¬ ((i2 : Int) > (j2 : Int)) := by omega
          have HE : Hid (Sort.partEqLoop ltN a (i2 + 1) (j2 - 1) (Sort.swp D i2 j2) = Sort.partEqLoop ltN a (a + 1) (b - 1) (Sort.swp d a pivot)) := by
           show _ = _
           rw [← HL.out, Sort.partEqLoop_eq ltN a i j D, HTa.out, HTb.out, if_neg hgt]
          obtain ⟨G, hG, hcw, hfw⟩ := HU.out.fam
          have HG : Hid (∀ x, G x = D[x]!) := hG
          clear hG
          go_wp2_with fail
          go_region
          all_goals go_wp2_with fail
          all_goals go_roundw
          case rel => exact ⟨i2 + 1, j2 - 1, Sort.swp D i2 j2, by simp, by congr 1; omega, by omega, by omega, by omega, HU.out.swp0 (i := i2) (j := j2) HG.out (by omega) (by omega), HE.out⟩
          case measure => simp [intOf]; omega
        ·have hij : i2 ≤ t := by simp at hc; exact hc.1
         have HE : Hid (Sort.scanDown (fun x => ltN D[a]! x) D i2 (t - 1) = Sort.scanDown (fun x => ltN D[a]! x) D i2 j) := by
          show _ = _
          rw [← HOb.out, sd_go (by omega) hij (by
           have hc2 := hc
           simp only [hij, decide_true, Bool.true_and] at hc2
           rw [HG.out, HG.out] at hc2
           exact hc2)]
         go_wp2_with fail
         go_roundw
         case rel => exact ⟨t - 1, by congr 1; omega, by omega, by omega, HU.out, HE.out⟩
         case measure => simp [intOf]; omega
     ·have hij : t ≤ j := by simp at hc; exact hc.1
      have HE : Hid (Sort.scanUp (fun x => !ltN D[a]! x) D j (t + 1) = Sort.scanUp (fun x => !ltN D[a]! x) D j i) := by
       show _ = _
       rw [← HOa.out, su_go hij (by
        have hc2 := hc
        simp only [hij, decide_true, Bool.true_and] at hc2
        rw [HG.out, HG.out] at hc2
        exact hc2)]
      go_wp2_with fail
      go_roundw
      case rel => exact ⟨t + 1, by simp, by omega, by omega, HU.out, HE.out⟩
      case measure => simp [intOf]; omega
theorem upart0_walk {w : World} {g o cap n a b pivot K : Nat} {d : Array Nat} (h : Un w g o cap d) (hn : d.size = n) (hap : a ≤ pivot) (hpb : pivot < b) (hb : b ≤ n) (hsz : n ≤ 2305843009213693951) (hK : (b : Int) - 1 = (K : Int)) :
  Calls Tryz.prog 157 #[.slice (some ⟨g, o, none⟩) n cap, .int .i64 a, .int .i64 b, .int .i64 pivot] w fun e w' => ∃ (mid : Nat) (ap : Bool), e = .returned (.tuple #[.int .i64 mid, .bool ap]) ∧
   mid = (Sort.partLoop ltN a (a + 1) K (Sort.swp d a pivot)).1 ∧ Us w g o cap n (Sort.swp (Sort.partLoop ltN a (a + 1) K (Sort.swp d a pivot)).2 (Sort.partLoop ltN a (a + 1) K (Sort.swp d a pivot)).1 a) w' := by
 have HU : Hid (Us w g o cap n d w) := hn ▸ Us.start h
 obtain ⟨G, hG, hcw, hfw⟩ := HU.out.fam
 have HG : Hid (∀ x, G x = d[x]!) := hG
 clear h hn hG
 go_in
 go_wp2_with fail
 go_cut [25] (fun _ wx => Us w g o cap n (Sort.swp d a pivot) wx)
 case first =>
  by_cases hae : a = pivot
  ·subst hae
   go_region
   all_goals go_wp2_with fail
   all_goals go_meet
   all_goals exact HU.out.swp0 (i := a) (j := a) HG.out (by omega) (by omega)
  ·go_region
   all_goals go_wp2_with fail
   all_goals go_meet
   all_goals exact HU.out.swp0 (i := a) (j := pivot) HG.out (by omega) (by omega)
 case rest =>
  clear HU HG hcw hfw
  obtain ⟨D, hD⟩ : ∃ D, D = Sort.swp d a pivot := ⟨_, rfl⟩
  have HU : Hid (Us w g o cap n D wc) := by show Us w g o cap n D wc; rw [hD]; exact hcut
  have HD : Hid (D = Sort.swp d a pivot) := hD
  clear hcut hD
  go_wp2_with fail
  go_loopw [10] (fun iv wr => ∃ t : Nat, iv = .int .i64 t ∧ (a + 1) ≤ t ∧ t ≤ K + 1 ∧ Us w g o cap n D wr ∧ Sort.scanUp (fun x => ltN x D[a]!) D K t = Sort.scanUp (fun x => ltN x D[a]!) D K (a + 1)) (fun iv _ => K + 1 - (intOf iv).toNat)
  case atStart => exact ⟨(a + 1), by simp, Nat.le_refl _, by omega, HU.out, rfl⟩
  case round =>
   clear HU
   obtain ⟨t, rfl, h1a, h2a, hU, hO⟩ := hrel
   have HU : Hid (Us w g o cap n D wr) := hU
   have HOa : Hid (Sort.scanUp (fun x => ltN x D[a]!) D K t = Sort.scanUp (fun x => ltN x D[a]!) D K (a + 1)) := hO
   obtain ⟨G, hG, hcw, hfw⟩ := hU.fam
   have HG : Hid (∀ x, G x = D[x]!) := hG
   clear hU hO hG
   go_wp2_with fail
   go_cut [43] (fun c wx => c = .bool (decide (t ≤ K) && ltN (G t) (G a)) ∧ Us w g o cap n D wx)
   case first =>
    by_cases hij : t ≤ K
    ·go_quiet ((go_at_call 155; exact Calls.quiet_of_same (uless_walk _ _ _)))
     go_wp2_with fail
     go_meet
     exact ⟨by simp [hij], HU.out.drew _⟩
    ·go_quiet (fail)
     go_wp2_with fail
     go_meet
     exact ⟨by simp [hij], HU.out.drew _⟩
   case rest =>
    obtain ⟨rfl, hU2⟩ := hcut
    clear HU hcw hfw
    have HU : Hid (Us w g o cap n D wc) := hU2
    clear hU2
    cases hc : (decide (t ≤ K) && ltN (G t) (G a))
    ·have HTa : Hid (Sort.scanUp (fun x => ltN x D[a]!) D K (a + 1) = t) := by
      show _ = _
      rw [← HOa.out, su_stop (fun hh => by
       have hc2 := hc
       simp only [hh, decide_true, Bool.true_and] at hc2
       rw [HG.out, HG.out] at hc2
       exact hc2)]
     clear hc HG
     obtain ⟨i1, hi1⟩ : ∃ i1, i1 = t := ⟨_, rfl⟩
     subst hi1
     go_wp2_with fail
     go_loopw [11] (fun iv wr => ∃ t : Nat, iv = .int .i64 t ∧ t ≤ K ∧ i1 ≤ t + 1 ∧ Us w g o cap n D wr ∧ Sort.scanDown (fun x => !ltN x D[a]!) D i1 t = Sort.scanDown (fun x => !ltN x D[a]!) D i1 K) (fun iv _ => (intOf iv).toNat)
     case atStart => exact ⟨K, rfl, Nat.le_refl _, by omega, HU.out, rfl⟩
     case round =>
      clear HU
      obtain ⟨t, rfl, h1b, h2b, hU, hO⟩ := hrel
      have HU : Hid (Us w g o cap n D wr) := hU
      have HOb : Hid (Sort.scanDown (fun x => !ltN x D[a]!) D i1 t = Sort.scanDown (fun x => !ltN x D[a]!) D i1 K) := hO
      obtain ⟨G, hG, hcw, hfw⟩ := hU.fam
      have HG : Hid (∀ x, G x = D[x]!) := hG
      clear hU hO hG
      go_wp2_with fail
      go_cut [60] (fun c wx => c = .bool (decide (i1 ≤ t) && !ltN (G t) (G a)) ∧ Us w g o cap n D wx)
      case first =>
       by_cases hij : i1 ≤ t
       ·go_quiet ((go_at_call 155; exact Calls.quiet_of_same (uless_walk _ _ _)))
        go_wp2_with fail
        go_meet
        exact ⟨by simp [hij], HU.out.drew _⟩
       ·go_quiet (fail)
        go_wp2_with fail
        go_meet
        exact ⟨by simp [hij], HU.out.drew _⟩
      case rest =>
       obtain ⟨rfl, hU2⟩ := hcut
       clear HU hcw hfw
       have HU : Hid (Us w g o cap n D wc) := hU2
       clear hU2
       cases hc : (decide (i1 ≤ t) && !ltN (G t) (G a))
       ·have HTb : Hid (Sort.scanDown (fun x => !ltN x D[a]!) D i1 K = t) := by
         show _ = _
         rw [← HOb.out, sd_stop (fun hh => by
          have hc2 := hc
          simp only [hh, decide_true, Bool.true_and] at hc2
          rw [HG.out, HG.out] at hc2
          exact hc2)]
        clear hc HG
        obtain ⟨j1, hj1⟩ : ∃ j1, j1 = t := ⟨_, rfl⟩
        subst hj1
        by_cases hgt : i1 > j1
        ·obtain ⟨j2, hj2⟩ : ∃ j2, j2 = j1 := ⟨_, rfl⟩
         subst hj2
         have hgi : (i1 : Int) > (j2 : Int) := by omega
         have HE : Hid (Sort.partLoop ltN a (a + 1) K (Sort.swp d a pivot) = (j2, D)) := by
          show _ = _
          rw [← HD.out, Sort.partLoop_eq, HTa.out, HTb.out, if_pos hgt]
         obtain ⟨G, hG, hcw, hfw⟩ := HU.out.fam
         have HG : Hid (∀ x, G x = D[x]!) := hG
         clear hG
         go_wp2_with fail
         by_cases hja : j2 = a
         ·subst hja
          go_region
          all_goals go_wp2_with fail
          all_goals go_ret2
          all_goals exact ⟨_, _, rfl, by rw [HE.out], by rw [HE.out]; exact HU.out.swp0 (i := j2) (j := j2) HG.out (by omega) (by omega)⟩
         ·go_region
          all_goals go_wp2_with fail
          all_goals go_ret2
          all_goals exact ⟨_, _, rfl, by rw [HE.out], by rw [HE.out]; exact HU.out.swp0 (i := j2) (j := a) HG.out (by omega) (by omega)⟩
        ·have hlt : i1 < j1 := scans_apart (fun x => by simp) HTa.out HTb.out (by omega) hgt
         have hgi : ¬ ((i1 : Int) > (j1 : Int)) := by omega
         have HE : Hid (Sort.partLoop ltN a (i1 + 1) (j1 - 1) (Sort.swp D i1 j1) = Sort.partLoop ltN a (a + 1) K (Sort.swp d a pivot)) := by
          show _ = _
          rw [← HD.out, Sort.partLoop_eq ltN a (a + 1) K D, HTa.out, HTb.out, if_neg hgt]
         obtain ⟨G, hG, hcw, hfw⟩ := HU.out.fam
         have HG : Hid (∀ x, G x = D[x]!) := hG
         clear hG
         go_wp2_with fail
         go_region
         all_goals go_wp2_with fail
         have HV : Hid (Us w g o cap n (Sort.swp D i1 j1) (((wc.setCell ⟨g, o + i1, none⟩ (.int .u64 (G j1 : Nat))).setCell ⟨g, o + j1, none⟩ (.int .u64 (G i1 : Nat))).drew)) := HU.out.swp0 (i := i1) (j := j1) HG.out (by omega) (by omega)
         go_loopw [10, 11] (fun iv jv wr => ∃ (i j : Nat) (E : Array Nat), iv = .int .i64 i ∧ jv = .int .i64 j ∧ a < i ∧ i ≤ j + 1 ∧ j < b ∧ Us w g o cap n E wr ∧ Sort.partLoop ltN a i j E = Sort.partLoop ltN a (a + 1) K (Sort.swp d a pivot)) (fun iv jv _ => (intOf jv).toNat + 1 - (intOf iv).toNat)
         case atStart => exact ⟨i1 + 1, j1 - 1, _, by simp, by congr 1; omega, by omega, by omega, by omega, HV.out, HE.out⟩
         case round =>
          clear HU HV hcw hfw HG HE
          obtain ⟨i, j, E, rfl, rfl, h1, h2, h3, hU, hO⟩ := hrel
          have HU : Hid (Us w g o cap n E wr) := hU
          have HL : Hid (Sort.partLoop ltN a i j E = Sort.partLoop ltN a (a + 1) K (Sort.swp d a pivot)) := hO
          clear hU hO
          go_wp2_with fail
          go_loopw [10] (fun iv wr => ∃ t : Nat, iv = .int .i64 t ∧ i ≤ t ∧ t ≤ j + 1 ∧ Us w g o cap n E wr ∧ Sort.scanUp (fun x => ltN x E[a]!) E j t = Sort.scanUp (fun x => ltN x E[a]!) E j i) (fun iv _ => j + 1 - (intOf iv).toNat)
          case atStart => exact ⟨i, rfl, Nat.le_refl _, by omega, HU.out, rfl⟩
          case round =>
           clear HU
           obtain ⟨t, rfl, h1c, h2c, hU, hO⟩ := hrel
           have HU : Hid (Us w g o cap n E wr) := hU
           have HOc : Hid (Sort.scanUp (fun x => ltN x E[a]!) E j t = Sort.scanUp (fun x => ltN x E[a]!) E j i) := hO
           obtain ⟨G, hG, hcw, hfw⟩ := hU.fam
           have HG : Hid (∀ x, G x = E[x]!) := hG
           clear hU hO hG
           go_wp2_with fail
           go_cut [112] (fun c wx => c = .bool (decide (t ≤ j) && ltN (G t) (G a)) ∧ Us w g o cap n E wx)
           case first =>
            by_cases hij : t ≤ j
            ·go_quiet ((go_at_call 155; exact Calls.quiet_of_same (uless_walk _ _ _)))
             go_wp2_with fail
             go_meet
             exact ⟨by simp [hij], HU.out.drew _⟩
            ·go_quiet (fail)
             go_wp2_with fail
             go_meet
             exact ⟨by simp [hij], HU.out.drew _⟩
           case rest =>
            obtain ⟨rfl, hU2⟩ := hcut
            clear HU hcw hfw
            have HU : Hid (Us w g o cap n E wc) := hU2
            clear hU2
            cases hc : (decide (t ≤ j) && ltN (G t) (G a))
            ·have HTc : Hid (Sort.scanUp (fun x => ltN x E[a]!) E j i = t) := by
              show _ = _
              rw [← HOc.out, su_stop (fun hh => by
               have hc2 := hc
               simp only [hh, decide_true, Bool.true_and] at hc2
               rw [HG.out, HG.out] at hc2
               exact hc2)]
             clear hc HG
             obtain ⟨i2, hi2⟩ : ∃ i2, i2 = t := ⟨_, rfl⟩
             subst hi2
             go_wp2_with fail
             go_loopw [11] (fun iv wr => ∃ t : Nat, iv = .int .i64 t ∧ t ≤ j ∧ i2 ≤ t + 1 ∧ Us w g o cap n E wr ∧ Sort.scanDown (fun x => !ltN x E[a]!) E i2 t = Sort.scanDown (fun x => !ltN x E[a]!) E i2 j) (fun iv _ => (intOf iv).toNat)
             case atStart => exact ⟨j, rfl, Nat.le_refl _, by omega, HU.out, rfl⟩
             case round =>
              clear HU
              obtain ⟨t, rfl, h1d, h2d, hU, hO⟩ := hrel
              have HU : Hid (Us w g o cap n E wr) := hU
              have HOd : Hid (Sort.scanDown (fun x => !ltN x E[a]!) E i2 t = Sort.scanDown (fun x => !ltN x E[a]!) E i2 j) := hO
              obtain ⟨G, hG, hcw, hfw⟩ := hU.fam
              have HG : Hid (∀ x, G x = E[x]!) := hG
              clear hU hO hG
              go_wp2_with fail
              go_cut [129] (fun c wx => c = .bool (decide (i2 ≤ t) && !ltN (G t) (G a)) ∧ Us w g o cap n E wx)
              case first =>
               by_cases hij : i2 ≤ t
               ·go_quiet ((go_at_call 155; exact Calls.quiet_of_same (uless_walk _ _ _)))
                go_wp2_with fail
                go_meet
                exact ⟨by simp [hij], HU.out.drew _⟩
               ·go_quiet (fail)
                go_wp2_with fail
                go_meet
                exact ⟨by simp [hij], HU.out.drew _⟩
              case rest =>
               obtain ⟨rfl, hU2⟩ := hcut
               clear HU hcw hfw
               have HU : Hid (Us w g o cap n E wc) := hU2
               clear hU2
               cases hc : (decide (i2 ≤ t) && !ltN (G t) (G a))
               ·have HTd : Hid (Sort.scanDown (fun x => !ltN x E[a]!) E i2 j = t) := by
                 show _ = _
                 rw [← HOd.out, sd_stop (fun hh => by
                  have hc2 := hc
                  simp only [hh, decide_true, Bool.true_and] at hc2
                  rw [HG.out, HG.out] at hc2
                  exact hc2)]
                clear hc HG
                obtain ⟨j2, hj2⟩ : ∃ j2, j2 = t := ⟨_, rfl⟩
                subst hj2
                by_cases hgt : i2 > j2
                ·have hgi : (i2 : Int) > (j2 : Int) := by omega
                 have HE : Hid (Sort.partLoop ltN a (a + 1) K (Sort.swp d a pivot) = (j2, E)) := by
                  show _ = _
                  rw [← HL.out, Sort.partLoop_eq, HTc.out, HTd.out, if_pos hgt]
                 obtain ⟨G, hG, hcw, hfw⟩ := HU.out.fam
                 have HG : Hid (∀ x, G x = E[x]!) := hG
                 clear hG
                 go_wp2_with fail
                 by_cases hja : j2 = a
                 ·subst hja
                  go_region
                  all_goals go_wp2_with fail
                  all_goals go_ret2
                  all_goals exact ⟨_, _, rfl, by rw [HE.out], by rw [HE.out]; exact HU.out.swp0 (i := j2) (j := j2) HG.out (by omega) (by omega)⟩
                 ·go_region
                  all_goals go_wp2_with fail
                  all_goals go_ret2
                  all_goals exact ⟨_, _, rfl, by rw [HE.out], by rw [HE.out]; exact HU.out.swp0 (i := j2) (j := a) HG.out (by omega) (by omega)⟩
                ·have hlt : i2 < j2 := scans_apart (fun x => by simp) HTc.out HTd.out (by omega) hgt
                 have hgi : ¬ ((i2 : Int) > (j2 : Int)) := by omega
                 have HE : Hid (Sort.partLoop ltN a (i2 + 1) (j2 - 1) (Sort.swp E i2 j2) = Sort.partLoop ltN a (a + 1) K (Sort.swp d a pivot)) := by
                  show _ = _
                  rw [← HL.out, Sort.partLoop_eq ltN a i j E, HTc.out, HTd.out, if_neg hgt]
                 obtain ⟨G, hG, hcw, hfw⟩ := HU.out.fam
                 have HG : Hid (∀ x, G x = E[x]!) := hG
                 clear hG
                 go_wp2_with fail
                 go_region
                 all_goals go_wp2_with fail
                 all_goals go_roundw
                 case rel => exact ⟨i2 + 1, j2 - 1, Sort.swp E i2 j2, by simp, by congr 1; omega, by omega, by omega, by omega, HU.out.swp0 (i := i2) (j := j2) HG.out (by omega) (by omega), HE.out⟩
                 case measure => simp [intOf]; omega
               ·have hij : i2 ≤ t := by simp at hc; exact hc.1
                have HE : Hid (Sort.scanDown (fun x => !ltN x E[a]!) E i2 (t - 1) = Sort.scanDown (fun x => !ltN x E[a]!) E i2 j) := by
                 show _ = _
                 rw [← HOd.out, sd_go (by omega) hij (by
                  have hc2 := hc
                  simp only [hij, decide_true, Bool.true_and] at hc2
                  rw [HG.out, HG.out] at hc2
                  exact hc2)]
                go_wp2_with fail
                go_roundw
                case rel => exact ⟨t - 1, by congr 1; omega, by omega, by omega, HU.out, HE.out⟩
                case measure => simp [intOf]; omega
            ·have hij : t ≤ j := by simp at hc; exact hc.1
             have HE : Hid (Sort.scanUp (fun x => ltN x E[a]!) E j (t + 1) = Sort.scanUp (fun x => ltN x E[a]!) E j i) := by
              show _ = _
              rw [← HOc.out, su_go hij (by
               have hc2 := hc
               simp only [hij, decide_true, Bool.true_and] at hc2
               rw [HG.out, HG.out] at hc2
               exact hc2)]
             go_wp2_with fail
             go_roundw
             case rel => exact ⟨t + 1, by simp, by omega, by omega, HU.out, HE.out⟩
             case measure => simp [intOf]; omega
       ·have hij : i1 ≤ t := by simp at hc; exact hc.1
        have HE : Hid (Sort.scanDown (fun x => !ltN x D[a]!) D i1 (t - 1) = Sort.scanDown (fun x => !ltN x D[a]!) D i1 K) := by
         show _ = _
         rw [← HOb.out, sd_go (by omega) hij (by
          have hc2 := hc
          simp only [hij, decide_true, Bool.true_and] at hc2
          rw [HG.out, HG.out] at hc2
          exact hc2)]
        go_wp2_with fail
        go_roundw
        case rel => exact ⟨t - 1, by congr 1; omega, by omega, by omega, HU.out, HE.out⟩
        case measure => simp [intOf]; omega
    ·have hij : t ≤ K := by simp at hc; exact hc.1
     have HE : Hid (Sort.scanUp (fun x => ltN x D[a]!) D K (t + 1) = Sort.scanUp (fun x => ltN x D[a]!) D K (a + 1)) := by
      show _ = _
      rw [← HOa.out, su_go hij (by
       have hc2 := hc
       simp only [hij, decide_true, Bool.true_and] at hc2
       rw [HG.out, HG.out] at hc2
       exact hc2)]
     go_wp2_with fail
     go_roundw
     case rel => exact ⟨t + 1, by simp, by omega, by omega, HU.out, HE.out⟩
     case measure => simp [intOf]; omega
theorem upart_walk {w : World} {g o cap n a b pivot : Nat} {d : Array Nat} (h : Un w g o cap d) (hn : d.size = n) (hap : a ≤ pivot) (hpb : pivot < b) (hb : b ≤ n) (hsz : n ≤ 2305843009213693951) :
  Calls Tryz.prog 157 #[.slice (some ⟨g, o, none⟩) n cap, .int .i64 a, .int .i64 b, .int .i64 pivot] w fun e w' => ∃ (mid : Nat) (ap : Bool), e = .returned (.tuple #[.int .i64 mid, .bool ap]) ∧
   mid = (Sort.partition ltN d a b pivot).1 ∧ Us w g o cap n (Sort.partition ltN d a b pivot).2.2 w' := by
 rw [Sort.partition_fst, Sort.partition_arr]
 exact upart0_walk h hn hap hpb hb hsz (by omega)
end
end Go.Proofs.YtofkhgokfdpdiabGreat
