/- The reference's readings of a word: a key, a number, a float. -/
import Derived.Test.YtkiplcmndpdifaaGreatDoorTk

import Derived.Test.YtkiplcmndpdifaaGreatDoorTg

namespace Go.Proofs.YtkiplcmndpdifaaGreatDoor

open Go.RowKit

attribute [local go_sem] run_bits run_frombits run_store_float


theorem digV_app (l r : Bs) (a : Nat) : digV a (l ++ r) = (digV a l).bind fun n => digV n r := by
  induction l generalizing a with
  | nil => simp [digV]
  | cons d l ih =>
    simp only [List.cons_append, digV]
    split
    · exact ih _
    · rfl


theorem digV_ge : ∀ (l : Bs) (a m : Nat), digV a l = some m → a ≤ m := by
  intro l
  induction l with
  | nil => intro a m h; simp only [digV, Option.some.injEq] at h; omega
  | cons c l ih =>
    intro a m h
    simp only [digV] at h
    split at h
    · have := ih _ _ h; omega
    · cases h


/-- What key has read of T's first i bytes. -/
structure Kr (T : Bs) (i n : Nat) : Prop where
  top : i ≤ T.length
  val : digV 0 (T.take i) = some n
  lt : n < 18446744073709551616


theorem Kr.start (T : Bs) : Kr T 0 0 := ⟨Nat.zero_le _, rfl, by decide⟩


theorem Kr.cut {T : Bs} {i n : Nat} {c : UInt8} (h : Kr T i n) (hc : T[i]? = some c) : digV 0 T = digV n (c :: T.drop (i + 1)) := by
  obtain ⟨h1, h2⟩ := List.getElem?_eq_some_iff.1 hc
  have e : T = T.take i ++ (c :: T.drop (i + 1)) := by
    rw [← h2, List.getElem_cons_drop, List.take_append_drop]
  rw [e, digV_app, ← e, h.val]
  rfl


theorem Kr.bad {T : Bs} {i n : Nat} {c : UInt8} (h : Kr T i n) (hc : T[i]? = some c) (hd : ¬ (48 ≤ c.toNat ∧ c.toNat ≤ 57)) : digV 0 T = none := by
  rw [h.cut hc, digV, if_neg hd]


theorem Kr.over {T : Bs} {i n : Nat} {c : UInt8} (h : Kr T i n) (hc : T[i]? = some c) (hd : 48 ≤ c.toNat ∧ c.toNat ≤ 57) (ho : 18446744073709551616 ≤ n * 10 + (c.toNat - 48)) (m : Nat) (hm : digV 0 T = some m) : 18446744073709551616 ≤ m := by
  rw [h.cut hc, digV, if_pos hd] at hm
  exact Nat.le_trans ho (digV_ge _ _ _ hm)


theorem Kr.step {T : Bs} {i n : Nat} {c : UInt8} (h : Kr T i n) (hc : T[i]? = some c) (hd : 48 ≤ c.toNat ∧ c.toNat ≤ 57) (ho : n * 10 + (c.toNat - 48) < 18446744073709551616) : Kr T (i + 1) (n * 10 + (c.toNat - 48)) := by
  obtain ⟨h1, h2⟩ := List.getElem?_eq_some_iff.1 hc
  refine ⟨h1, ?_, ho⟩
  rw [List.take_add_one, hc, digV_app, h.val]
  simp [digV, hd]


theorem keyP_cons {c : UInt8} {l : Bs} (h : ¬ (c = 48 ∧ l ≠ [])) : (digV 0 (c :: l) = none → keyP (c :: l) = none) ∧ (∀ m, digV 0 (c :: l) = some m → (m < 18446744073709551616 → keyP (c :: l) = some m) ∧ (18446744073709551616 ≤ m → keyP (c :: l) = none)) := by
  simp only [keyP, if_neg h]
  refine ⟨fun h => by rw [h], fun m hm => ⟨fun h1 => by rw [hm]; simp [h1], fun h1 => by rw [hm]; simp; omega⟩⟩


theorem Kr.none {T : Bs} {c : UInt8} {l : Bs} (hT : T = c :: l) (h : ¬ (c = 48 ∧ l ≠ [])) (hb : ∀ m, digV 0 T = some m → 18446744073709551616 ≤ m) : keyP T = none := by
  subst hT
  cases hd : digV 0 (c :: l) with
  | none => exact (keyP_cons h).1 hd
  | some m => exact ((keyP_cons h).2 m hd).2 (hb m hd)


set_option maxRecDepth 100000 in
set_option maxHeartbeats 8000000 in
theorem rkey_walk (T : Bs) (w : World) (hT : T.length ≤ 262144) : Calls Tryz.prog 33 #[S T] w fun e w' => e = .returned (.tuple #[.int .u64 ((keyP T).getD 0 : Nat), .bool (keyP T).isSome]) ∧ w' = w := by
  obtain ⟨t, ht⟩ : ∃ t : ByteArray, t = ⟨T.toArray⟩ := ⟨_, rfl⟩
  obtain ⟨n, hn⟩ : ∃ n, n = T.length := ⟨_, rfl⟩
  have hsz : t.size = n := by rw [ht, size_mk, hn]
  have hnb : (n : Int) ≤ 262144 := by omega
  have HTT : Hid (t = ⟨T.toArray⟩ ∧ n = T.length) := ⟨ht, hn⟩
  show Calls _ _ #[.string _] _ _
  rw [← ht]
  clear ht hn hT
  cases hT : T with
  | nil =>
    have h0 : ((n : Int) == 0) = true := by have := HTT.out.2; rw [hT] at this; simp at this; rw [this]; rfl
    clear hT
    go_enter Tryz.func33, Tryz.ntmps33
    go_wp2_with fail
    go_ret2
    exact ⟨rfl, rfl⟩
  | cons c0 l0 =>
    have h0 : ((n : Int) == 0) = false := by have := HTT.out.2; rw [hT] at this; simp at this; rw [beq_eq_false_iff_ne]; omega
    have hn0 : 0 < t.size := by rw [HTT.out.1, hT, size_mk]; simp
    have hct0 := get_mk HTT.out.1 (show T[0]? = some c0 by rw [hT]; rfl) hn0
    have HT0 : Hid (T = c0 :: l0) := hT
    rw [← hT]
    clear hT
    by_cases hbad : 1 < n ∧ c0 = 48
    · have h1 : (1 : Int) < (n : Int) := by omega
      have hq : (((t[0]'hn0).toNat : Int) == 48) = true := by rw [hct0, hbad.2]; rfl
      have HK : Hid (keyP T = none) := by
        show keyP T = none
        have h2 := HTT.out.2
        rw [HT0.out] at h2 ⊢
        simp at h2
        have h3 : c0 = 48 ∧ l0 ≠ [] := ⟨hbad.2, by intro e; rw [e] at h2; simp at h2; omega⟩
        simp only [keyP]
        rw [if_pos h3]
      clear hbad hct0
      go_enter Tryz.func33, Tryz.ntmps33
      go_wp2_with fail
      go_ret2
      rw [HK.out]
      exact ⟨rfl, rfl⟩
    · have HGD : Hid (¬ (c0 = 48 ∧ l0 ≠ [])) := by
        rintro ⟨e1, e2⟩
        refine hbad ⟨?_, e1⟩
        have h2 := HTT.out.2
        rw [HT0.out] at h2
        have := List.length_pos_iff.2 e2
        simp at h2
        omega
      have hcase : (¬ (1 : Int) < (n : Int)) ∨ ((1 : Int) < (n : Int) ∧ (((t[0]'hn0).toNat : Int) == 48) = false) := by
        by_cases h1 : 1 < n
        · refine .inr ⟨by omega, ?_⟩
          rw [hct0, beq_eq_false_iff_ne]
          intro e
          exact hbad ⟨h1, UInt8.toNat_inj.1 (by have : c0.toNat = 48 := by omega
                                                simpa using this)⟩
        · exact .inl (by omega)
      clear hbad hct0
      rcases hcase with h1 | ⟨h1, hq⟩
      all_goals
        go_enter Tryz.func33, Tryz.ntmps33
        go_wp2_with fail
        go_loopw [4, 5] (fun v4 v5 wr => ∃ i m : Nat, v5 = .int .i64 i ∧ v4 = .int .u64 m ∧ Kr T i m ∧ wr = w) (fun _ v5 _ => n - (intOf v5).toNat)
        case atStart => exact ⟨0, 0, rfl, rfl, Kr.start T, rfl⟩
        case round =>
          obtain ⟨i, m, rfl, rfl, hkr, hw⟩ := hrel
          subst hw
          have HKR : Hid (Kr T i m) := hkr
          have htop := hkr.top
          rw [← HTT.out.2] at htop
          clear hkr
          by_cases hlt : i < n
          · have hli : (i : Int) < (n : Int) := by omega
            obtain ⟨c, hc⟩ : ∃ c, T[i]? = some c := ⟨_, List.getElem?_eq_getElem (by have := HTT.out.2; omega)⟩
            have hits : i < t.size := by omega
            have hct := get_mk HTT.out.1 hc hits
            have HC : Hid (T[i]? = some c) := hc
            clear hc
            by_cases hlo : c.toNat < 48
            · have hq1 : ((t[i]'hits).toNat : Int) < 48 := by rw [hct]; omega
              have HK : Hid (keyP T = none) := Kr.none HT0.out HGD.out (fun m hm => by rw [HKR.out.bad HC.out (by omega)] at hm; cases hm)
              clear hct
              go_wp2_with fail
              go_ret2
              rw [HK.out]
              exact ⟨rfl, rfl⟩
            · have hq1 : ¬ ((t[i]'hits).toNat : Int) < 48 := by rw [hct]; omega
              by_cases hhi : 57 < c.toNat
              · have hq2 : (57 : Int) < ((t[i]'hits).toNat : Int) := by rw [hct]; omega
                have HK : Hid (keyP T = none) := Kr.none HT0.out HGD.out (fun m hm => by rw [HKR.out.bad HC.out (by omega)] at hm; cases hm)
                clear hct
                go_wp2_with fail
                go_ret2
                rw [HK.out]
                exact ⟨rfl, rfl⟩
              · have hq2 : ¬ (57 : Int) < ((t[i]'hits).toNat : Int) := by rw [hct]; omega
                obtain ⟨d, hd⟩ : ∃ d, d = c.toNat - 48 := ⟨_, rfl⟩
                have HD : Hid (d = c.toNat - 48 ∧ (48 ≤ c.toNat ∧ c.toNat ≤ 57)) := ⟨hd, by omega⟩
                have hd9 : (d : Int) ≤ 9 := by omega
                have hsub : IntKind.u8.wrap (((t[i]'hits).toNat : Int) - 48) = (d : Int) := by rw [hct]; rw [IntKind.wrap_u8]; omega
                clear hct hd
                have hwq : IntKind.u64.wrap (18446744073709551615 - (d : Int)) = 18446744073709551615 - (d : Int) := by rw [IntKind.wrap_u64]; omega
                obtain ⟨q, hq9⟩ : ∃ q : Int, q = (18446744073709551615 - (d : Int)) / 10 := ⟨_, rfl⟩
                have hqt : (18446744073709551615 - (d : Int)).tdiv 10 = q := by rw [hq9, Int.tdiv_eq_ediv_of_nonneg (by omega)]
                have hqe : (18446744073709551615 - (d : Int)) / 10 = q := hq9.symm
                have HM := hidH HKR.out.lt
                by_cases hov : q < (m : Int)
                · have HK : Hid (keyP T = none) := Kr.none HT0.out HGD.out (HKR.out.over HC.out HD.out.2 (by have := HD.out.1; omega))
                  clear hq9
                  go_wp2_with fail
                  go_ret2
                  rw [HK.out]
                  exact ⟨rfl, rfl⟩
                · have HKN : Hid (Kr T (i + 1) (m * 10 + (c.toNat - 48))) := HKR.out.step HC.out HD.out.2 (by have := HD.out.1; omega)
                  obtain ⟨m2, hm2⟩ : ∃ m2, m2 = m * 10 + d := ⟨_, rfl⟩
                  have hmul : IntKind.u64.wrap ((m : Int) * 10) = (m : Int) * 10 := by rw [IntKind.wrap_u64]; omega
                  have hadd : IntKind.u64.wrap ((m : Int) * 10 + (d : Int)) = (m2 : Int) := by rw [IntKind.wrap_u64]; omega
                  have HM2 : Hid (m2 = m * 10 + (c.toNat - 48)) := by show m2 = _; rw [hm2, HD.out.1]
                  have hovb : decide (q < (m : Int)) = false := decide_eq_false hov
                  clear hq9 hm2 hov
                  go_wp2_with fail
                  exact ⟨⟨i + 1, m2, by (congr 1), rfl, by rw [HM2.out]; exact HKN.out, trivial⟩, by simp [intOf]; omega⟩
          · have hni : ¬ (i : Int) < (n : Int) := by omega
            have HK : Hid (keyP T = some m) := by
              have e : T.take i = T := List.take_of_length_le (by have := HTT.out.2; omega)
              have h := HKR.out.val
              rw [e] at h
              have h2 := HKR.out.lt
              rw [HT0.out] at h ⊢
              exact ((keyP_cons HGD.out).2 m h).1 h2
            go_wp2_with fail
            go_ret2
            rw [HK.out]
            exact ⟨rfl, rfl⟩
end Go.Proofs.YtkiplcmndpdifaaGreatDoor


