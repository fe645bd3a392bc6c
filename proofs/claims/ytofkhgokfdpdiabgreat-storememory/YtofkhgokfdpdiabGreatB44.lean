/- Where the row is parted; patterns broken: the choice. -/
import Derived.Test.YtofkhgokfdpdiabGreatB02
import Derived.Test.YtofkhgokfdpdiabGreatB43
import Derived.Shelf.SlSortCmp.Xorshift
import Derived.Test.YtofkhgokfdpdiabGreatProg
set_option maxRecDepth 100000
set_option maxHeartbeats 16000000
namespace Go.Proofs.YtofkhgokfdpdiabGreat
section
open Go.RowKit

theorem shd_stop {t : Nat} {d : Array Nat} (h : 1 ≤ t) (hl : ltN d[t]! d[t - 1]! = false) : Sort.shiftDown ltN t d = d := by
 cases t with
 | zero => omega
 | succ t => rw [Sort.shiftDown]; simp only [Nat.add_sub_cancel] at hl; rw [hl]; rfl
theorem shd_go {t : Nat} {d : Array Nat} (h : 1 ≤ t) (hl : ltN d[t]! d[t - 1]! = true) : Sort.shiftDown ltN t d = Sort.shiftDown ltN (t - 1) (Sort.swp d t (t - 1)) := by
 cases t with
 | zero => omega
 | succ t => rw [Sort.shiftDown]; simp only [Nat.add_sub_cancel] at hl ⊢; rw [hl]; rfl
theorem shd_end {t : Nat} {d : Array Nat} (h : ¬ 1 ≤ t) : Sort.shiftDown ltN t d = d := by
 obtain rfl : t = 0 := by omega
 rfl
theorem shu_stop {b t : Nat} {d : Array Nat} (h : t < b) (hl : ltN d[t]! d[t - 1]! = false) : Sort.shiftUp ltN b t d = d := by
 rw [Sort.shiftUp.eq_1, if_pos h, hl]; rfl
theorem shu_go {b t : Nat} {d : Array Nat} (h : t < b) (hl : ltN d[t]! d[t - 1]! = true) : Sort.shiftUp ltN b t d = Sort.shiftUp ltN b (t + 1) (Sort.swp d t (t - 1)) := by
 rw [Sort.shiftUp.eq_1, if_pos h, hl]; rfl
theorem shu_end {b t : Nat} {d : Array Nat} (h : ¬ t < b) : Sort.shiftUp ltN b t d = d := by
 rw [Sort.shiftUp.eq_1, if_neg h]
theorem ss_stop {b i : Nat} {d : Array Nat} (h : i < b → ltN d[i]! d[i - 1]! = true) : Sort.scanSorted ltN d b i = i := by
 rw [Sort.scanSorted.eq_1]
 refine if_neg ?_
 simp only [Bool.and_eq_true, decide_eq_true_eq, not_and]
 intro hib; rw [h hib]; simp
theorem ss_go {b i : Nat} {d : Array Nat} (h : i < b) (hl : ltN d[i]! d[i - 1]! = false) : Sort.scanSorted ltN d b i = Sort.scanSorted ltN d b (i + 1) := by
 rw [Sort.scanSorted.eq_1 ltN d b i]
 refine if_pos ?_
 simp [h, hl]
theorem upins_walk {w : World} {g o cap n a b : Nat} {d : Array Nat} (h : Un w g o cap d) (hn : d.size = n) (hab : a < b) (hb : b ≤ n) (hsz : n ≤ 2305843009213693951) :
  Calls Tryz.prog 154 #[.slice (some ⟨g, o, none⟩) n cap, .int .i64 a, .int .i64 b] w fun e w' => e = .returned (.bool (Sort.partialInsertionSort ltN d a b).2) ∧ Us w g o cap n (Sort.partialInsertionSort ltN d a b).1 w' := by
 show Calls _ _ _ _ fun e w' => e = .returned (.bool (Sort.partialIns ltN a b 5 (a + 1) d).2) ∧ Us w g o cap n (Sort.partialIns ltN a b 5 (a + 1) d).1 w'
 have HU : Hid (Us w g o cap n d w) := hn ▸ Us.start h
 obtain ⟨R, hR⟩ : ∃ R, R = Sort.partialIns ltN a b 5 (a + 1) d := ⟨_, rfl⟩
 rw [← hR]
 have HR : Hid (R = Sort.partialIns ltN a b 5 (a + 1) d) := hR
 clear h hn hR
 go_in
 go_wp2_with fail
 go_loopw [7, 8] (fun iv jv wr => ∃ (i s : Nat) (D : Array Nat), iv = .int .i64 i ∧ jv = .int .i64 (5 - (s : Int)) ∧ s ≤ 5 ∧ a < i ∧ i ≤ b ∧ Us w g o cap n D wr ∧ Sort.partialIns ltN a b s i D = R) (fun _ jv _ => (5 - intOf jv).toNat)
 case atStart => exact ⟨a + 1, 5, d, by simp, rfl, Nat.le_refl _, by omega, by omega, HU.out, HR.out.symm⟩
 case round =>
  clear HU
  obtain ⟨i0, s, D, rfl, rfl, hs5, h1, h2, hU, hO⟩ := hrel
  have HU : Hid (Us w g o cap n D wr) := hU
  have HL : Hid (Sort.partialIns ltN a b s i0 D = R) := hO
  clear hU hO
  cases s with
  | zero =>
   have HE : Hid ((D, false) = R) := HL.out
   have hz : (5 : Int) - ((0 : Nat) : Int) = 5 := rfl
   rw [hz]
   clear hz
   go_wp2_with fail
   go_ret
   exact ⟨by rw [← HE.out]; rfl, HE.out ▸ HU.out⟩
  | succ s =>
   obtain ⟨V, hV⟩ : ∃ V : Int, V = 5 - ((s + 1 : Nat) : Int) := ⟨_, rfl⟩
   rw [← hV]
   have hV5 : V < 5 := by omega
   have hV0 : 0 ≤ V := by omega
   have HV : Hid (V + 1 = 5 - (s : Int)) := by show _ = _; omega
   have HVS : Hid (s ≤ 5) := by show _ ≤ _; omega
   clear hV hs5
   go_wp2_with fail
   go_loopw [7] (fun iv wr => ∃ t : Nat, iv = .int .i64 t ∧ i0 ≤ t ∧ t ≤ b ∧ Us w g o cap n D wr ∧ Sort.scanSorted ltN D b t = Sort.scanSorted ltN D b i0) (fun iv _ => b - (intOf iv).toNat)
   case atStart => exact ⟨i0, rfl, Nat.le_refl _, h2, HU.out, rfl⟩
   case round =>
    clear HU
    obtain ⟨t, rfl, h3, h4, hU, hO⟩ := hrel
    have HU : Hid (Us w g o cap n D wr) := hU
    have HO : Hid (Sort.scanSorted ltN D b t = Sort.scanSorted ltN D b i0) := hO
    clear hU hO
    obtain ⟨G, hG, hcw, hfw⟩ := HU.out.fam
    have HG : Hid (∀ x, G x = D[x]!) := hG
    clear hG
    go_wp2_with fail
    go_cut [32] (fun c wx => c = .bool (decide (t < b) && !ltN (G t) (G (t - 1))) ∧ Us w g o cap n D wx)
    case first =>
     by_cases hij : t < b
     ·go_quiet ((go_at_call 155; exact Calls.quiet_of_same (uless_walk _ _ _)))
      go_wp2_with fail
      go_meet
      exact ⟨by simp [hij], HU.out.drew _⟩
     ·go_quiet (fail)
      go_wp2_with fail
      go_meet
      exact ⟨by simp [hij], HU.out.drew _⟩
    case rest =>
     obtain ⟨rfl, hU2⟩ := hcut
     clear HU hcw hfw
     have HU : Hid (Us w g o cap n D wc) := hU2
     clear hU2
     cases hc : (decide (t < b) && !ltN (G t) (G (t - 1)))
     ·have HT : Hid (Sort.scanSorted ltN D b i0 = t) := by
       show _ = _
       rw [← HO.out, ss_stop (fun hh => by
        have hc2 := hc
        simp only [hh, decide_true, Bool.true_and] at hc2
        rw [HG.out, HG.out] at hc2
        simpa using hc2)]
      clear hc HG HO
      obtain ⟨i, hi⟩ : ∃ i, i = t := ⟨_, rfl⟩
      subst hi
      have HN : Hid ((if i = b then (D, true) else if b - a < 50 then (D, false) else Sort.partialIns ltN a b s i (Sort.fixUp ltN b i (Sort.fixDown ltN a i (Sort.swp D i (i - 1))))) = R) := by
       show _ = _
       rw [← HL.out, Sort.partialIns_succ, HT.out]
      by_cases hib : i = b
      ·have HE : Hid ((D, true) = R) := by have := HN.out; rw [if_pos hib] at this; exact this
       have hie : ((i : Int) == (b : Int)) = true := by simp [hib]
       go_wp2_with fail
       go_ret
       exact ⟨by rw [← HE.out]; rfl, HE.out ▸ HU.out⟩
      ·have hie : ((i : Int) == (b : Int)) = false := by simp; omega
       have hie2 : ¬ ((i : Int) = (b : Int)) := by omega
       have hlb : i < b := by omega
       by_cases h50 : b - a < 50
       ·have HE : Hid ((D, false) = R) := by have := HN.out; rw [if_neg hib, if_pos h50] at this; exact this
        have h5i : ((b : Int) - (a : Int) < 50) := by omega
        go_wp2_with fail
        go_ret
        exact ⟨by rw [← HE.out]; rfl, HE.out ▸ HU.out⟩
       ·have HE : Hid (Sort.partialIns ltN a b s i (Sort.fixUp ltN b i (Sort.fixDown ltN a i (Sort.swp D i (i - 1)))) = R) := by have := HN.out; rw [if_neg hib, if_neg h50] at this; exact this
        have h5i : ¬ ((b : Int) - (a : Int) < 50) := by omega
        clear HN HT HL
        obtain ⟨G, hG, hcw, hfw⟩ := HU.out.fam
        have HG : Hid (∀ x, G x = D[x]!) := hG
        clear hG
        go_wp2_with fail
        go_cut [57] (fun _ wx => Us w g o cap n (Sort.swp D i (i - 1)) wx)
        case first =>
         go_region
         all_goals go_wp2_with fail
         all_goals go_meet
         all_goals exact HU.out.swp0 (i := i) (j := i - 1) HG.out (by omega) (by omega)
        case rest =>
         clear HU HG hcw hfw
         obtain ⟨D1, hD1⟩ : ∃ D1, D1 = Sort.swp D i (i - 1) := ⟨_, rfl⟩
         rw [← hD1] at hcut
         have HU := hidH hcut
         have HE1 : Hid (Sort.partialIns ltN a b s i (Sort.fixUp ltN b i (Sort.fixDown ltN a i D1)) = R) := by show _ = _; rw [hD1]; exact HE.out
         clear hcut hD1 HE
         go_upto_if 61 with fail
         go_cut [9] (fun _ wx => Us w g o cap n (Sort.fixDown ltN a i D1) wx)
         case first =>
          obtain ⟨D, hD⟩ : ∃ D, D = D1 := ⟨_, rfl⟩
          subst hD
          by_cases h2a : i - a ≥ 2
          ·have h2i : (i : Int) - (a : Int) ≥ 2 := by omega
           have HF : Hid (Sort.fixDown ltN a i D = Sort.shiftDown ltN (i - 1) D) := if_pos h2a
           go_wp2_with fail
           go_loopw [9] (fun jv wr => ∃ (t : Nat) (E : Array Nat), jv = .int .i64 t ∧ t ≤ i - 1 ∧ 0 ≤ t ∧ Us w g o cap n E wr ∧ Sort.shiftDown ltN t E = Sort.shiftDown ltN (i - 1) D) (fun jv _ => (intOf jv).toNat)
           case atStart => exact ⟨i - 1, D, by congr 1; omega, Nat.le_refl _, Nat.zero_le _, HU.out, rfl⟩
           case round =>
            clear HU
            obtain ⟨t, E, rfl, h1, h2, hU, hO⟩ := hrel
            have HU : Hid (Us w g o cap n E wr) := hU
            have HO : Hid (Sort.shiftDown ltN t E = Sort.shiftDown ltN (i - 1) D) := hO
            clear hU hO
            obtain ⟨G, hG, hcw, hfw⟩ := HU.out.fam
            have HG : Hid (∀ x, G x = E[x]!) := hG
            clear hG
            by_cases hg : 1 ≤ t
            ·go_wp2_with fail
             go_quiet ((go_at_call 155; exact Calls.quiet_of_same (uless_walk _ _ _)))
             cases hl : ltN (G t) (G (t - 1))
             ·have HE : Hid (E = Sort.shiftDown ltN (i - 1) D) := by show _ = _; rw [← HO.out, shd_stop hg (by rw [← HG.out, ← HG.out]; exact hl)]
              go_wp2_with fail
              go_meet
              rw [HF.out]
              exact HE.out ▸ HU.out.drew _
             ·have HE : Hid (Sort.shiftDown ltN (t - 1) (Sort.swp E t (t - 1)) = Sort.shiftDown ltN (i - 1) D) := by show _ = _; rw [← HO.out, shd_go hg (by rw [← HG.out, ← HG.out]; exact hl)]
              go_wp2_with fail
              go_region
              all_goals go_wp2_with fail
              all_goals go_roundw
              case rel => exact ⟨t - 1, _, by congr 1; omega, by omega, by omega, HU.out.swp (i := t) (j := t - 1) HG.out (by omega) (by omega) _, HE.out⟩
              case measure => simp [intOf]; omega
            ·have HE : Hid (E = Sort.shiftDown ltN (i - 1) D) := by show _ = _; rw [← HO.out, shd_end hg]
             go_wp2_with fail
             go_meet
             rw [HF.out]
             exact HE.out ▸ HU.out
          ·have h2i : ¬ ((i : Int) - (a : Int) ≥ 2) := by omega
           have HF : Hid (Sort.fixDown ltN a i D = D) := if_neg h2a
           go_wp2_with fail
           go_meet
           rw [HF.out]
           exact HU.out
         case rest =>
          clear HU
          obtain ⟨D2, hD2⟩ : ∃ D2, D2 = Sort.fixDown ltN a i D1 := ⟨_, rfl⟩
          rw [← hD2] at hcut
          have HU := hidH hcut
          have HE2 : Hid (Sort.partialIns ltN a b s i (Sort.fixUp ltN b i D2) = R) := by show _ = _; rw [hD2]; exact HE1.out
          clear hcut hD2 HE1
          obtain ⟨D, hD⟩ : ∃ D, D = D2 := ⟨_, rfl⟩
          subst hD
          by_cases h2a : b - i ≥ 2
          ·have h2i : (b : Int) - (i : Int) ≥ 2 := by omega
           have HF : Hid (Sort.fixUp ltN b i D = Sort.shiftUp ltN b (i + 1) D) := if_pos h2a
           go_wp2_with fail
           go_loopw [10] (fun jv wr => ∃ (t : Nat) (E : Array Nat), jv = .int .i64 t ∧ i + 1 ≤ t ∧ t ≤ b ∧ Us w g o cap n E wr ∧ Sort.shiftUp ltN b t E = Sort.shiftUp ltN b (i + 1) D) (fun jv _ => b - (intOf jv).toNat)
           case atStart => exact ⟨i + 1, D, by simp, Nat.le_refl _, by omega, HU.out, rfl⟩
           case round =>
            clear HU
            obtain ⟨t, E, rfl, h1, h2, hU, hO⟩ := hrel
            have HU : Hid (Us w g o cap n E wr) := hU
            have HO : Hid (Sort.shiftUp ltN b t E = Sort.shiftUp ltN b (i + 1) D) := hO
            clear hU hO
            obtain ⟨G, hG, hcw, hfw⟩ := HU.out.fam
            have HG : Hid (∀ x, G x = E[x]!) := hG
            clear hG
            by_cases hg : t < b
            ·go_wp2_with fail
             go_quiet ((go_at_call 155; exact Calls.quiet_of_same (uless_walk _ _ _)))
             cases hl : ltN (G t) (G (t - 1))
             ·have HE : Hid (E = Sort.shiftUp ltN b (i + 1) D) := by show _ = _; rw [← HO.out, shu_stop hg (by rw [← HG.out, ← HG.out]; exact hl)]
              go_wp2_with fail
              go_roundw
              case rel => exact ⟨i, s, E, rfl, by rw [HV.out], HVS.out, by omega, by omega, HU.out.drew _, by rw [HE.out, ← HF.out]; exact HE2.out⟩
              case measure => simp [intOf]; omega
             ·have HE : Hid (Sort.shiftUp ltN b (t + 1) (Sort.swp E t (t - 1)) = Sort.shiftUp ltN b (i + 1) D) := by show _ = _; rw [← HO.out, shu_go hg (by rw [← HG.out, ← HG.out]; exact hl)]
              go_wp2_with fail
              go_region
              all_goals go_wp2_with fail
              all_goals go_roundw
              case rel => exact ⟨t + 1, _, by simp, by omega, by omega, HU.out.swp (i := t) (j := t - 1) HG.out (by omega) (by omega) _, HE.out⟩
              case measure => simp [intOf]; omega
            ·have HE : Hid (E = Sort.shiftUp ltN b (i + 1) D) := by show _ = _; rw [← HO.out, shu_end hg]
             go_wp2_with fail
             go_roundw
             case rel => exact ⟨i, s, E, rfl, by rw [HV.out], HVS.out, by omega, by omega, HU.out, by rw [HE.out, ← HF.out]; exact HE2.out⟩
             case measure => simp [intOf]; omega
          ·have h2i : ¬ ((b : Int) - (i : Int) ≥ 2) := by omega
           have HF : Hid (Sort.fixUp ltN b i D = D) := if_neg h2a
           go_wp2_with fail
           go_roundw
           case rel => exact ⟨i, s, D, rfl, by rw [HV.out], HVS.out, by omega, by omega, HU.out, by have := HE2.out; rw [HF.out] at this; exact this⟩
           case measure => simp [intOf]; omega
     ·have hij : t < b := by simp at hc; exact hc.1
      have HE : Hid (Sort.scanSorted ltN D b (t + 1) = Sort.scanSorted ltN D b i0) := by
       show _ = _
       rw [← HO.out, ss_go hij (by
        have hc2 := hc
        simp only [hij, decide_true, Bool.true_and] at hc2
        rw [HG.out, HG.out] at hc2
        simpa using hc2)]
      go_wp2_with fail
      go_roundw
      case rel => exact ⟨t + 1, by simp, by omega, by omega, HU.out, HE.out⟩
      case measure => simp [intOf]; omega
end
section
open Go.Shelf

def lays15_ren : Go.Shelf.Ren := ⟨fun | 15 => 106 | 28 => 158 | 29 => 159 | n => n, fun | 39 => 37 | 3 => 3 | 53 => 227 | 55 => 33 | 4 => 4 | 5 => 5 | 9 => 9 | n => n, fun | n => n⟩

theorem lays15 : Go.Proofs.SlLaysF0.n15 Tryz.prog lays15_ren := {
  mixed := by kernel_rfl
  f15 := Tryz.func106.trans (congrArg some (by kernel_rfl))
  f28 := Tryz.func158.trans (congrArg some (by kernel_rfl))
  f29 := Tryz.func159.trans (congrArg some (by kernel_rfl))
  t3 := Tryz.underlying3
  a3 := Tryz.isAgg3
  z3 := Tryz.sizeOf3
  v3 := Tryz.zeroValue3
  t4 := Tryz.underlying4
  a4 := Tryz.isAgg4
  z4 := Tryz.sizeOf4
  v4 := Tryz.zeroValue4
  t5 := Tryz.underlying5
  a5 := Tryz.isAgg5
  z5 := Tryz.sizeOf5
  v5 := Tryz.zeroValue5
  t9 := Tryz.underlying9
  a9 := Tryz.isAgg9
  z9 := Tryz.sizeOf9
  v9 := Tryz.zeroValue9
  t39 := Tryz.underlying37
  a39 := Tryz.isAgg37
  z39 := Tryz.sizeOf37
  v39 := Tryz.zeroValue37
  t53 := Tryz.underlying227
  a53 := Tryz.isAgg227
  z53 := Tryz.sizeOf227
  v53 := Tryz.zeroValue227
  t55 := Tryz.underlying33
  a55 := Tryz.isAgg33
  z55 := Tryz.sizeOf33
  v55 := Tryz.zeroValue33 }

def lays47_ren : Go.Shelf.Ren := ⟨fun | 47 => 191 | 15 => 106 | 28 => 158 | 29 => 159 | n => n, fun | 3 => 3 | 39 => 37 | 53 => 227 | 55 => 33 | 4 => 4 | 5 => 5 | 9 => 9 | n => n, fun | n => n⟩

theorem lays47 : Go.Proofs.SlLaysF0.n47 Tryz.prog lays47_ren := {
  mixed := by kernel_rfl
  f15 := Tryz.func106.trans (congrArg some (by kernel_rfl))
  f28 := Tryz.func158.trans (congrArg some (by kernel_rfl))
  f29 := Tryz.func159.trans (congrArg some (by kernel_rfl))
  f47 := Tryz.func191.trans (congrArg some (by kernel_rfl))
  t3 := Tryz.underlying3
  a3 := Tryz.isAgg3
  z3 := Tryz.sizeOf3
  v3 := Tryz.zeroValue3
  t4 := Tryz.underlying4
  a4 := Tryz.isAgg4
  z4 := Tryz.sizeOf4
  v4 := Tryz.zeroValue4
  t5 := Tryz.underlying5
  a5 := Tryz.isAgg5
  z5 := Tryz.sizeOf5
  v5 := Tryz.zeroValue5
  t9 := Tryz.underlying9
  a9 := Tryz.isAgg9
  z9 := Tryz.sizeOf9
  v9 := Tryz.zeroValue9
  t39 := Tryz.underlying37
  a39 := Tryz.isAgg37
  z39 := Tryz.sizeOf37
  v39 := Tryz.zeroValue37
  t53 := Tryz.underlying227
  a53 := Tryz.isAgg227
  z53 := Tryz.sizeOf227
  v53 := Tryz.zeroValue227
  t55 := Tryz.underlying33
  a55 := Tryz.isAgg33
  z55 := Tryz.sizeOf33
  v55 := Tryz.zeroValue33 }

def lays48_ren : Go.Shelf.Ren := ⟨fun | 48 => 192 | n => n, fun | 76 => 263 | 55 => 33 | 0 => 0 | 66 => 250 | 39 => 37 | n => n, fun | n => n⟩

theorem lays48 : Go.Proofs.SlLaysF0.n48 Tryz.prog lays48_ren := {
  mixed := by kernel_rfl
  f48 := Tryz.func192.trans (congrArg some (by kernel_rfl))
  t0 := Tryz.underlying0
  a0 := Tryz.isAgg0
  z0 := Tryz.sizeOf0
  v0 := Tryz.zeroValue0
  t39 := Tryz.underlying37
  a39 := Tryz.isAgg37
  z39 := Tryz.sizeOf37
  v39 := Tryz.zeroValue37
  t55 := Tryz.underlying33
  a55 := Tryz.isAgg33
  z55 := Tryz.sizeOf33
  v55 := Tryz.zeroValue33
  t66 := Tryz.underlying250
  a66 := Tryz.isAgg250
  z66 := Tryz.sizeOf250
  v66 := Tryz.zeroValue250
  t76 := Tryz.underlying263
  a76 := Tryz.isAgg263
  z76 := Tryz.sizeOf263
  v76 := Tryz.zeroValue263 }
end
section
open Go.RowKit Go.Shelf

theorem ulen_walk (x : Nat) (hx : x < 18446744073709551616) (w : World) :
  Calls Tryz.prog 106 #[.int .u64 x] w fun e w' => (∃ m : Nat, m ≤ 64 ∧ e = .returned (.int .i64 m)) ∧ w' = w := by
 refine (Any.bits_Len (SlLaysF0.n15.bits lays15) (x : Int) w (by omega) (by omega)).mono ?_
 rintro e w' ⟨rfl, rfl⟩
 rw [Int.toNat_natCast]
 refine ⟨⟨_, ?_, rfl⟩, rfl⟩
 rw [Go.Proofs.bitLen_eq _ (by omega)]
 exact (Go.Sort.bitsLen_le_iff x 64).2 (by omega)
theorem upow_walk (n : Nat) (hn : n < 4611686018427387904) (w : World) :
  Calls Tryz.prog 191 #[.int .i64 n] w fun e w' => e = .returned (.int .u64 ((1 <<< Sort.bitsLen n : Nat) : Int)) ∧ w' = w := AnyF.nextPowerOfTwo lays47 n hn w
theorem unext_walk (rb X : Nat) (hX : X < 18446744073709551616) (w : World) (hc : w.cell? ⟨rb, 0, none⟩ = some (.int .u64 X)) (hf : w.frozen? ⟨rb, 0, none⟩ = false) :
  Calls Tryz.prog 192 #[.pointer (some ⟨rb, 0, none⟩)] w fun e w' => e = .returned (.int .u64 (Sort.xorNextN X : Nat)) ∧ w' = (w.setCell ⟨rb, 0, none⟩ (.int .u64 (Sort.xorNextN X : Nat))).drewN 3 := AnyF.xorshift_Next lays48 rb 0 X hX w hc hf
def Ct (w : World) (s c : Nat) : Prop := w.cell? ⟨s, 0, none⟩ = some (.int .i64 (c : Nat)) ∧ w.frozen? ⟨s, 0, none⟩ = false
theorem Un.grown {w w' : World} {g o cap s : Nat} {d : Array Nat} (h : Un w g o cap d) (hg : w.grownBy w' (some s)) (hs : g ≠ s) : Un w' g o cap d := h.kept (hg.block g h.lt (by simpa using hs))
theorem uord_walk {w : World} {g o cap n a b s c : Nat} {d : Array Nat} (h : Un w g o cap d) (hn : d.size = n) (ha : a < n) (hb : b < n) (hC : Ct w s c) (hc : c ≤ 1000) :
  Calls Tryz.prog 208 #[.slice (some ⟨g, o, none⟩) n cap, .int .i64 a, .int .i64 b, .pointer (some ⟨s, 0, none⟩)] w fun e w' => ∃ x y c' : Nat, e = .returned (.tuple #[.int .i64 x, .int .i64 y]) ∧ ((x = a ∧ y = b) ∨ (x = b ∧ y = a)) ∧ c' ≤ c + 1 ∧ Ct w' s c' ∧ w.grownBy w' (some s) := by
 have HC : Hid (Ct w s c) := hC
 obtain ⟨c1, c2⟩ := hC
 obtain ⟨G, hG, hcw, hfw⟩ := (hn ▸ Us.start h : Us w g o cap n d w).fam
 clear hG h hn
 go_in
 go_wp2_with fail
 go_quiet ((go_at_call 155; exact Calls.quiet_of_same (uless_walk _ _ _)))
 cases hl : ltN (G b) (G a)
 ·go_wp2_with fail
  go_ret2
  exact ⟨a, b, c, rfl, .inl ⟨rfl, rfl⟩, by omega, HC.out, ⟨rfl, rfl, rfl, Nat.le_refl _, fun _ _ _ => rfl⟩⟩
 ·go_wp2_with fail
  go_ret2
  refine ⟨b, a, c + 1, rfl, .inr ⟨rfl, rfl⟩, Nat.le_refl _, ⟨?_, ?_⟩, ?_⟩
  ·simp [go_sem, c1]
  ·simpa [go_sem] using c2
  ·have := grown_set w s 0 (.int .i64 ((c : Int) + 1))
   exact ⟨this.os, this.tape, this.output, this.size, this.block⟩
theorem umed_walk {w : World} {g o cap n a b x s c : Nat} {d : Array Nat} (h : Un w g o cap d) (hn : d.size = n) (ha : a < n) (hb : b < n) (hx : x < n) (hC : Ct w s c) (hc : c ≤ 900) (hgs : g ≠ s) :
  Calls Tryz.prog 194 #[.slice (some ⟨g, o, none⟩) n cap, .int .i64 a, .int .i64 b, .int .i64 x, .pointer (some ⟨s, 0, none⟩)] w fun e w' => ∃ y c' : Nat, e = .returned (.int .i64 y) ∧ (y = a ∨ y = b ∨ y = x) ∧ c' ≤ c + 3 ∧ Ct w' s c' ∧ w.grownBy w' (some s) := by
 have HU : Hid (Un w g o cap d) := h
 have HN : Hid (d.size = n) := hn
 have HC : Hid (Ct w s c) := hC
 clear h hn hC
 go_in
 go_wp2_with fail
 refine (uord_walk HU.out HN.out ha hb HC.out (by omega)).mono ?_
 rintro e w1 ⟨x1, y1, k1, rfl, hxy1, hk1, hC1, hg1⟩
 have HX1 : Hid ((x1 = a ∧ y1 = b) ∨ (x1 = b ∧ y1 = a)) := hxy1
 have HC1 : Hid (Ct w1 s k1) := hC1
 have HG1 := hidH hg1
 have hy1 : y1 < n := by omega
 have hx1 : x1 < n := by omega
 clear hxy1 hC1 hg1
 go_wp2_with fail
 refine (uord_walk (HU.out.grown HG1.out hgs) HN.out hy1 hx HC1.out (by omega)).mono ?_
 rintro e w2 ⟨x2, y2, k2, rfl, hxy2, hk2, hC2, hg2⟩
 have HX2 : Hid ((x2 = y1 ∧ y2 = x) ∨ (x2 = x ∧ y2 = y1)) := hxy2
 have HC2 : Hid (Ct w2 s k2) := hC2
 have HG2 : Hid (w.grownBy w2 (some s)) := grown_trans HG1.out hg2
 have hx2 : x2 < n := by omega
 clear hxy2 hC2 hg2
 go_wp2_with fail
 refine (uord_walk (HU.out.grown HG2.out hgs) HN.out hx1 hx2 HC2.out (by omega)).mono ?_
 rintro e w3 ⟨x3, y3, k3, rfl, hxy3, hk3, hC3, hg3⟩
 have HX3 : Hid ((x3 = x1 ∧ y3 = x2) ∨ (x3 = x2 ∧ y3 = x1)) := hxy3
 have HC3 : Hid (Ct w3 s k3) := hC3
 have HG3 : Hid (w.grownBy w3 (some s)) := grown_trans HG2.out hg3
 clear hxy3 hC3 hg3
 go_wp2_with fail
 go_ret
 exact ⟨y3, k3, rfl, by have := HX1.out; have := HX2.out; have := HX3.out; omega, by omega, HC3.out, HG3.out⟩
theorem uadj_walk {w : World} {g o cap n a s c : Nat} {d : Array Nat} (h : Un w g o cap d) (hn : d.size = n) (ha : 1 ≤ a) (hb : a + 1 < n) (hsz : n ≤ 2305843009213693951) (hC : Ct w s c) (hc : c ≤ 900) (hgs : g ≠ s) :
  Calls Tryz.prog 193 #[.slice (some ⟨g, o, none⟩) n cap, .int .i64 a, .pointer (some ⟨s, 0, none⟩)] w fun e w' => ∃ y c' : Nat, e = .returned (.int .i64 y) ∧ a ≤ y + 1 ∧ y ≤ a + 1 ∧ c' ≤ c + 3 ∧ Ct w' s c' ∧ w.grownBy w' (some s) := by
 have HU : Hid (Un w g o cap d) := h
 have HN : Hid (d.size = n) := hn
 have HC : Hid (Ct w s c) := hC
 obtain ⟨p, hp⟩ : ∃ p, a = p + 1 := ⟨a - 1, by omega⟩
 have hp1 : (a : Int) - 1 = (p : Int) := by omega
 have hp2 : (a : Int) + 1 = ((a + 1 : Nat) : Int) := by omega
 have hcall := umed_walk (a := p) (b := a) (x := a + 1) HU.out HN.out (by omega) (by omega) hb HC.out hc hgs
 rw [← hp1, ← hp2] at hcall
 have HCL : Hid (Calls Tryz.prog 194 #[.slice (some ⟨g, o, none⟩) n cap, .int .i64 ((a : Int) - 1), .int .i64 a, .int .i64 ((a : Int) + 1), .pointer (some ⟨s, 0, none⟩)] w fun e w' => ∃ y c' : Nat, e = .returned (.int .i64 y) ∧ (y = p ∨ y = a ∨ y = a + 1) ∧ c' ≤ c + 3 ∧ Ct w' s c' ∧ w.grownBy w' (some s)) := hcall
 have HP : Hid (a = p + 1) := hp
 clear h hn hC hp1 hp2 hcall hp
 go_in
 go_wp2_with fail
 refine Calls.mono HCL.out ?_
 rintro e w1 ⟨y, k, rfl, hy, hk, hC1, hg1⟩
 go_wp2_with fail
 go_ret
 exact ⟨y, k, rfl, by have := HP.out; omega, by have := HP.out; omega, hk, hC1, hg1⟩
end
section
open Go.RowKit Go.Shelf

theorem Un.alloc {w : World} {g o cap : Nat} {d : Array Nat} (h : Un w g o cap d) (x : Obj) : Un (w.alloc x) g o cap d := h.kept (by have := (World.grownBy_alloc w x none).block g h.lt (by simp); exact this)
theorem ct_new (w : World) (t : TypeId) : Ct (w.alloc (Obj.cells #[.int .i64 0] t)) w.heap.size 0 := by
 refine ⟨?_, ?_⟩ <;> simp [go_sem]
theorem grown_new {w w1 w2 : World} {x : Obj} (h1 : w1 = w.alloc x) (h2 : w1.grownBy w2 (some w.heap.size)) : w.grownBy w2 none := by
 subst h1
 exact ((World.grownBy_alloc w x none).andThen h2 (fun j hj => Or.inl (by cases hj; exact Nat.le_refl _)))
theorem upiv_walk {w : World} {g o cap n a b : Nat} {d : Array Nat} (h : Un w g o cap d) (hn : d.size = n) (hab : a + 12 < b) (hb : b ≤ n) (hsz : n ≤ 2305843009213693951) :
  Calls Tryz.prog 152 #[.slice (some ⟨g, o, none⟩) n cap, .int .i64 a, .int .i64 b] w fun e w' => ∃ p hint : Nat, e = .returned (.tuple #[.int .i64 p, .int .i64 hint]) ∧ a ≤ p ∧ p < b ∧ hint ≤ 2 ∧ w.grownBy w' none := by
 obtain ⟨L, hL⟩ : ∃ L, L = b - a := ⟨_, rfl⟩
 obtain ⟨q, hq⟩ : ∃ q, q = L / 4 := ⟨_, rfl⟩
 obtain ⟨I, hI⟩ : ∃ I, I = a + q := ⟨_, rfl⟩
 obtain ⟨J, hJ⟩ : ∃ J, J = a + q * 2 := ⟨_, rfl⟩
 obtain ⟨K, hK⟩ : ∃ K, K = a + q * 3 := ⟨_, rfl⟩
 have rL : (b : Int) - (a : Int) = (L : Int) := by omega
 have rq : (L : Int).tdiv 4 = (q : Int) := by rw [Int.tdiv_eq_ediv_of_nonneg (by omega)]; omega
 have rI : (a : Int) + (q : Int) = (I : Int) := by omega
 have rJ : (a : Int) + (q : Int) * 2 = (J : Int) := by omega
 have rK : (a : Int) + (q : Int) * 3 = (K : Int) := by omega
 have hqn : q < n := by omega
 have hLn : L ≤ n := by omega
 have hL8 : 8 ≤ L := by omega
 have HI : Hid (a + 3 ≤ I ∧ I + 1 < b) := by show _ ∧ _; omega
 have HJ : Hid (a + 3 ≤ J ∧ J + 1 < b) := by show _ ∧ _; omega
 have HK : Hid (a + 3 ≤ K ∧ K + 1 < b) := by show _ ∧ _; omega
 have HB : Hid (b ≤ n) := hb
 have HU : Hid (Un w g o cap d) := h
 have HN : Hid (d.size = n) := hn
 have HGN : Hid (g ≠ w.heap.size) := by have := h.lt; show g ≠ _; omega
 clear h hn hL hq hI hJ hK
 go_in
 by_cases h50 : 50 ≤ L
 ·go_wp2_with fail
  generalize hw0 : w.alloc (Obj.cells #[.int .i64 0] 3) = w0
  have HW0 : Hid (w0 = w.alloc (Obj.cells #[.int .i64 0] 3)) := hw0.symm
  have HC0 : Hid (Ct w0 w.heap.size 0) := by show Ct _ _ _; rw [← hw0]; exact ct_new _ _
  have HU0 : Hid (Un w0 g o cap d) := by show Un _ _ _ _ _; rw [← hw0]; exact HU.out.alloc _
  clear hw0
  refine (uadj_walk HU0.out HN.out (by have := HI.out; omega) (by have := HI.out; omega) hsz HC0.out (by omega) HGN.out).mono ?_
  rintro e w1 ⟨i1, c1, rfl, hi1, hi2, hc1, hC1, hg1⟩
  have HC1 := hidH hC1
  have HG1 := hidH hg1
  have HR1 : Hid (I ≤ i1 + 1 ∧ i1 ≤ I + 1) := ⟨hi1, hi2⟩
  have HU1 : Hid (Un w1 g o cap d) := HU0.out.grown hg1 HGN.out
  clear hC1 hg1 hi1 hi2
  go_wp2_with fail
  refine (uadj_walk HU1.out HN.out (by have := HJ.out; omega) (by have := HJ.out; omega) hsz HC1.out (by omega) HGN.out).mono ?_
  rintro e w2 ⟨j1, c2, rfl, hj1, hj2, hc2, hC2, hg2⟩
  have HC2 := hidH hC2
  have HG2 : Hid (w0.grownBy w2 (some w.heap.size)) := grown_trans HG1.out hg2
  have HR2 : Hid (J ≤ j1 + 1 ∧ j1 ≤ J + 1) := ⟨hj1, hj2⟩
  have HU2 : Hid (Un w2 g o cap d) := HU1.out.grown hg2 HGN.out
  clear hC2 hg2 hj1 hj2
  go_wp2_with fail
  refine (uadj_walk HU2.out HN.out (by have := HK.out; omega) (by have := HK.out; omega) hsz HC2.out (by omega) HGN.out).mono ?_
  rintro e w3 ⟨k1, c3, rfl, hk1, hk2, hc3, hC3, hg3⟩
  have HC3 := hidH hC3
  have HG3 : Hid (w0.grownBy w3 (some w.heap.size)) := grown_trans HG2.out hg3
  have HR3 : Hid (K ≤ k1 + 1 ∧ k1 ≤ K + 1) := ⟨hk1, hk2⟩
  have HU3 : Hid (Un w3 g o cap d) := HU2.out.grown hg3 HGN.out
  clear hC3 hg3 hk1 hk2
  go_wp2_with fail
  refine (umed_walk HU3.out HN.out (by have := HI.out; have := HR1.out; omega) (by have := HJ.out; have := HR2.out; omega) (by have := HK.out; have := HR3.out; omega) HC3.out (by omega) HGN.out).mono ?_
  rintro e w4 ⟨y, c4, rfl, hy, hc4, hC4, hg4⟩
  have HG4 : Hid (w.grownBy w4 none) := grown_new HW0.out (grown_trans HG3.out hg4)
  have HR : Hid (a ≤ y ∧ y < b) := by
   have := HI.out; have := HJ.out; have := HK.out; have := HR1.out; have := HR2.out; have := HR3.out
   show _ ∧ _
   omega
  obtain ⟨q1, q2⟩ := hC4
  clear hg4 hy HR1 HR2 HR3 HC1 HC2 HC3
  go_wp2_with fail
  all_goals go_ret2
  all_goals first | exact ⟨y, 1, rfl, HR.out.1, HR.out.2, by omega, HG4.out⟩ | exact ⟨y, 2, rfl, HR.out.1, HR.out.2, by omega, HG4.out⟩ | exact ⟨y, 0, rfl, HR.out.1, HR.out.2, by omega, HG4.out⟩
 ·go_wp2_with fail
  generalize hw0 : w.alloc (Obj.cells #[.int .i64 0] 3) = w0
  have HW0 : Hid (w0 = w.alloc (Obj.cells #[.int .i64 0] 3)) := hw0.symm
  have HC0 : Hid (Ct w0 w.heap.size 0) := by show Ct _ _ _; rw [← hw0]; exact ct_new _ _
  have HU0 : Hid (Un w0 g o cap d) := by show Un _ _ _ _ _; rw [← hw0]; exact HU.out.alloc _
  clear hw0
  refine (umed_walk HU0.out HN.out (by have := HI.out; omega) (by have := HJ.out; omega) (by have := HK.out; omega) HC0.out (by omega) HGN.out).mono ?_
  rintro e w4 ⟨y, c4, rfl, hy, hc4, hC4, hg4⟩
  have HG4 : Hid (w.grownBy w4 none) := grown_new HW0.out hg4
  have HR : Hid (a ≤ y ∧ y < b) := by
   have := HI.out; have := HJ.out; have := HK.out
   show _ ∧ _
   omega
  obtain ⟨q1, q2⟩ := hC4
  clear hg4 hy
  go_wp2_with fail
  all_goals go_ret2
  all_goals first | exact ⟨y, 1, rfl, HR.out.1, HR.out.2, by omega, HG4.out⟩ | exact ⟨y, 2, rfl, HR.out.1, HR.out.2, by omega, HG4.out⟩ | exact ⟨y, 0, rfl, HR.out.1, HR.out.2, by omega, HG4.out⟩
end
end Go.Proofs.YtofkhgokfdpdiabGreat
