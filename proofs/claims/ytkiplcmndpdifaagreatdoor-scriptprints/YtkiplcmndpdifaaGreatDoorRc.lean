/- The reference's readings of a word: a number, a float. -/
import Derived.Test.YtkiplcmndpdifaaGreatDoorRa

namespace Go.Proofs.YtkiplcmndpdifaaGreatDoor

open Go.RowKit

attribute [local go_sem] run_bits run_frombits run_store_float


theorem numP_neg {l : Bs} : (keyP l = none → numP (45 :: l) = none) ∧ (∀ n, keyP l = some n → (n ≠ 0 → n ≤ 9223372036854775808 → numP (45 :: l) = some (-(n : Int))) ∧ (n = 0 ∨ 9223372036854775808 < n → numP (45 :: l) = none)) := by
  simp only [numP, List.head?_cons, if_true, List.tail_cons]
  refine ⟨fun h => by rw [h], fun n hn => ⟨fun h1 h2 => by rw [hn]; simp [h1, h2], fun h => by rw [hn]; simp; omega⟩⟩


theorem numP_pos {T : Bs} (hh : T.head? ≠ some 45) : (keyP T = none → numP T = none) ∧ (∀ n, keyP T = some n → (n < 9223372036854775808 → numP T = some (n : Int)) ∧ (9223372036854775808 ≤ n → numP T = none)) := by
  unfold numP
  rw [if_neg hh]
  refine ⟨fun h => by rw [h], fun n hn => ⟨fun h1 => by rw [hn]; simp [h1], fun h => by rw [hn]; simp; omega⟩⟩


set_option maxRecDepth 100000 in
set_option maxHeartbeats 8000000 in
theorem rnumber_walk (T : Bs) (w : World) (hT : T.length ≤ 262144) : Calls Tryz.prog 31 #[S T] w fun e w' => e = .returned (.tuple #[.int .i64 ((numP T).getD 0), .bool (numP T).isSome]) ∧ w' = w := by
  obtain ⟨t, ht⟩ : ∃ t : ByteArray, t = ⟨T.toArray⟩ := ⟨_, rfl⟩
  obtain ⟨n, hn⟩ : ∃ n, n = T.length := ⟨_, rfl⟩
  have hsz : t.size = n := by rw [ht, size_mk, hn]
  have HTT : Hid (t = ⟨T.toArray⟩ ∧ n = T.length ∧ T.length ≤ 262144) := ⟨ht, hn, hT⟩
  show Calls _ _ #[.string _] _ _
  rw [← ht]
  clear ht hn hT
  by_cases hh : T.head? = some 45
  · obtain ⟨l, hl⟩ : ∃ l, T = 45 :: l := by
      cases hT : T with
      | nil => rw [hT] at hh; simp at hh
      | cons c l => rw [hT] at hh; simp at hh; exact ⟨l, by rw [hh]⟩
    have hn0 : 0 < t.size := by rw [HTT.out.1, hl, size_mk]; simp
    have hni : (0 : Int) < (n : Int) := by omega
    have hn1 : (1 : Int) ≤ (n : Int) := by omega
    have hct0 := get_mk HTT.out.1 (show T[0]? = some 45 by rw [hl]; rfl) hn0
    have hq : (((t[0]'hn0).toNat : Int) == 45) = true := by rw [hct0]; rfl
    obtain ⟨u, hu⟩ : ∃ u : ByteArray, u = ⟨l.toArray⟩ := ⟨_, rfl⟩
    have hex : t.extract 1 n = u := by
      rw [HTT.out.1, ext_mid, hu, HTT.out.2.1, hl]
      simp
    have HKY : Hid (Calls Tryz.prog 33 #[.string u] w fun e w' => e = .returned (.tuple #[.int .u64 ((keyP l).getD 0 : Nat), .bool (keyP l).isSome]) ∧ w' = w) := by
      rw [hu]
      exact rkey_walk l w (by have := HTT.out.2.2; rw [hl] at this; simp at this; omega)
    have HL : Hid (T = 45 :: l) := hl
    clear hct0 hu hl hh
    cases hk : keyP l with
    | none =>
      have HK : Hid (numP T = none) := by show numP T = none; rw [HL.out]; exact numP_neg.1 hk
      rw [hk] at HKY
      clear hk
      go_enter Tryz.func31, Tryz.ntmps31
      go_wp2_with fail
      refine HKY.out.mono ?_
      rintro e9 w1 ⟨rfl, hw⟩
      subst hw
      simp only [Option.getD_none, Option.isSome_none]
      go_wp2_with fail
      go_ret2
      rw [HK.out]
      exact ⟨rfl, rfl⟩
    | some k =>
      rw [hk] at HKY
      have HKL : Hid (keyP l = some k) := hk
      clear hk
      by_cases h0 : k = 0
      · have HK : Hid (numP T = none) := by show numP T = none; rw [HL.out]; exact (numP_neg.2 k HKL.out).2 (.inl h0)
        have hb0 : ((k : Int) == 0) = true := by rw [h0]; rfl
        clear h0
        go_enter Tryz.func31, Tryz.ntmps31
        go_wp2_with fail
        refine HKY.out.mono ?_
        rintro e9 w1 ⟨rfl, hw⟩
        subst hw
        simp only [Option.getD_some, Option.isSome_some]
        go_wp2_with fail
        go_ret2
        rw [HK.out]
        exact ⟨rfl, rfl⟩
      · have hb0 : ((k : Int) == 0) = false := by rw [beq_eq_false_iff_ne]; omega
        by_cases hbig : 9223372036854775808 < k
        · have HK : Hid (numP T = none) := by show numP T = none; rw [HL.out]; exact (numP_neg.2 k HKL.out).2 (.inr hbig)
          have hbb : (9223372036854775808 : Int) < (k : Int) := by omega
          clear h0 hbig
          go_enter Tryz.func31, Tryz.ntmps31
          go_wp2_with fail
          refine HKY.out.mono ?_
          rintro e9 w1 ⟨rfl, hw⟩
          subst hw
          simp only [Option.getD_some, Option.isSome_some]
          go_wp2_with fail
          go_ret2
          rw [HK.out]
          exact ⟨rfl, rfl⟩
        · have HK : Hid (numP T = some (-(k : Int))) := by show numP T = _; rw [HL.out]; exact (numP_neg.2 k HKL.out).1 h0 (by omega)
          have hbb : decide ((9223372036854775808 : Int) < (k : Int)) = false := decide_eq_false (by omega)
          have hw1 : IntKind.u64.wrap ((k : Int) - 1) = (k : Int) - 1 := by rw [IntKind.wrap_u64]; omega
          have hw2 : IntKind.i64.wrap ((k : Int) - 1) = (k : Int) - 1 := by rw [IntKind.wrap_i64]; omega
          have hw3 : IntKind.i64.wrap (-((k : Int) - 1)) = -((k : Int) - 1) := by rw [IntKind.wrap_i64]; omega
          have hw4 : IntKind.i64.wrap (-((k : Int) - 1) - 1) = -(k : Int) := by rw [IntKind.wrap_i64]; omega
          have HW : Hid (IntKind.i64.wrap (-((k : Int) - 1) - 1) = -(k : Int)) := hw4
          clear h0 hbig
          go_enter Tryz.func31, Tryz.ntmps31
          go_wp2_with fail
          refine HKY.out.mono ?_
          rintro e9 w1 ⟨rfl, hw⟩
          subst hw
          simp only [Option.getD_some, Option.isSome_some]
          go_wp2_with fail
          go_ret2
          rw [HK.out]
          exact ⟨rfl, rfl⟩
  · have hcase : (¬ (0 : Int) < (n : Int)) ∨ ∃ hn0 : 0 < t.size, (0 : Int) < (n : Int) ∧ (((t[0]'hn0).toNat : Int) == 45) = false := by
      cases hT : T with
      | nil => left; have := HTT.out.2.1; rw [hT] at this; simp at this; omega
      | cons c l =>
        right
        have hn0 : 0 < t.size := by rw [HTT.out.1, hT, size_mk]; simp
        refine ⟨hn0, by omega, ?_⟩
        have hct0 := get_mk HTT.out.1 (show T[0]? = some c by rw [hT]; rfl) hn0
        rw [hct0, beq_eq_false_iff_ne]
        intro e
        rw [hT] at hh
        simp at hh
        exact hh (UInt8.toNat_inj.1 (by have : c.toNat = 45 := by omega
                                        simpa using this))
    have HKY : Hid (Calls Tryz.prog 33 #[.string t] w fun e w' => e = .returned (.tuple #[.int .u64 ((keyP T).getD 0 : Nat), .bool (keyP T).isSome]) ∧ w' = w) := by
      rw [HTT.out.1]
      exact rkey_walk T w HTT.out.2.2
    have HH : Hid (T.head? ≠ some 45) := hh
    clear hh
    rcases hcase with h1 | ⟨hn0, h1, hq⟩
    all_goals
      cases hk : keyP T with
      | none =>
        have HK : Hid (numP T = none) := (numP_pos HH.out).1 hk
        rw [hk] at HKY
        clear hk
        go_enter Tryz.func31, Tryz.ntmps31
        go_wp2_with fail
        refine HKY.out.mono ?_
        rintro e9 w1 ⟨rfl, hw⟩
        subst hw
        simp only [Option.getD_none, Option.isSome_none]
        go_wp2_with fail
        go_ret2
        rw [HK.out]
        exact ⟨rfl, rfl⟩
      | some k =>
        rw [hk] at HKY
        have HKL : Hid (keyP T = some k) := hk
        clear hk
        by_cases hbig : 9223372036854775808 ≤ k
        · have HK : Hid (numP T = none) := ((numP_pos HH.out).2 k HKL.out).2 hbig
          have hbb : (9223372036854775807 : Int) < (k : Int) := by omega
          clear hbig
          go_enter Tryz.func31, Tryz.ntmps31
          go_wp2_with fail
          refine HKY.out.mono ?_
          rintro e9 w1 ⟨rfl, hw⟩
          subst hw
          simp only [Option.getD_some, Option.isSome_some]
          go_wp2_with fail
          go_ret2
          rw [HK.out]
          exact ⟨rfl, rfl⟩
        · have HK : Hid (numP T = some (k : Int)) := ((numP_pos HH.out).2 k HKL.out).1 (by omega)
          have hbb : decide ((9223372036854775807 : Int) < (k : Int)) = false := decide_eq_false (by omega)
          have hw2 : IntKind.i64.wrap (k : Int) = (k : Int) := by rw [IntKind.wrap_i64]; omega
          clear hbig
          go_enter Tryz.func31, Tryz.ntmps31
          go_wp2_with fail
          refine HKY.out.mono ?_
          rintro e9 w1 ⟨rfl, hw⟩
          subst hw
          simp only [Option.getD_some, Option.isSome_some]
          go_wp2_with fail
          go_ret2
          rw [HK.out]
          exact ⟨rfl, rfl⟩

/-! ### Floats -/
theorem hexV_app (l r : Bs) (a : Nat) : hexV a (l ++ r) = (hexV a l).bind fun n => hexV n r := by
  induction l generalizing a with
  | nil => simp [hexV]
  | cons d l ih =>
    simp only [List.cons_append, hexV]
    cases hexN d with
    | none => rfl
    | some e => exact ih _


/-- What float has read of T's first i bytes. -/
structure Fr (T : Bs) (i b : Nat) : Prop where
  top : i ≤ T.length
  val : hexV 0 (T.take i) = some b
  lt : b < 16 ^ i


theorem Fr.start (T : Bs) : Fr T 0 0 := ⟨Nat.zero_le _, rfl, by decide⟩


theorem Fr.bad {T : Bs} {i b : Nat} {c : UInt8} (h : Fr T i b) (hc : T[i]? = some c) (hd : hexN c = none) : hexV 0 T = none := by
  obtain ⟨h1, h2⟩ := List.getElem?_eq_some_iff.1 hc
  have e : T = T.take i ++ (c :: T.drop (i + 1)) := by
    rw [← h2, List.getElem_cons_drop, List.take_append_drop]
  rw [e, hexV_app, h.val]
  simp [hexV, hd]


theorem Fr.step {T : Bs} {i b d : Nat} {c : UInt8} (h : Fr T i b) (hc : T[i]? = some c) (hd : hexN c = some d) : Fr T (i + 1) (b * 16 + d) := by
  obtain ⟨h1, h2⟩ := List.getElem?_eq_some_iff.1 hc
  have hd16 := (hexN_back hd).1
  have hl := h.lt
  refine ⟨h1, ?_, ?_⟩
  · rw [List.take_add_one, hc, hexV_app, h.val]
    simp [hexV, hd]
  · rw [Nat.pow_succ]; omega


theorem Fr.small {T : Bs} {i b : Nat} (h : Fr T i b) (hi : i < 16) : b < 1152921504606846976 := by
  have h1 : 16 ^ i ≤ 16 ^ 15 := Nat.pow_le_pow_right (by decide) (by omega)
  have h2 : 16 ^ 15 = 1152921504606846976 := by decide
  have := h.lt
  omega


theorem rfrom_walk (x : Nat) (w : World) : Calls Tryz.prog 51 #[.int .u64 x] w fun e w' => e = .returned (.float .f64 x) ∧ w' = w := by
  go_enter Tryz.func51, Tryz.ntmps51
  go_wp2_with fail
  go_ret
  exact ⟨rfl, rfl⟩


set_option maxRecDepth 100000 in
set_option maxHeartbeats 8000000 in
theorem rfloat_walk (T : Bs) (w : World) : Calls Tryz.prog 32 #[S T] w fun e w' => e = .returned (.tuple #[.float .f64 ((fltP T).getD 0), .bool (fltP T).isSome]) ∧ w' = w := by
  obtain ⟨t, ht⟩ : ∃ t : ByteArray, t = ⟨T.toArray⟩ := ⟨_, rfl⟩
  obtain ⟨n, hn⟩ : ∃ n, n = T.length := ⟨_, rfl⟩
  have hsz : t.size = n := by rw [ht, size_mk, hn]
  have HTT : Hid (t = ⟨T.toArray⟩ ∧ n = T.length) := ⟨ht, hn⟩
  show Calls _ _ #[.string _] _ _
  rw [← ht]
  clear ht hn
  by_cases h16 : n = 16
  · have hb : ((n : Int) != 16) = false := by rw [h16]; rfl
    have H16 : Hid (n = 16) := h16
    clear h16
    go_enter Tryz.func32, Tryz.ntmps32
    go_wp2_with fail
    go_loopw [4, 5, 6] (fun v4 v5 _ wr => ∃ i b : Nat, v5 = .int .i64 i ∧ v4 = .int .u64 b ∧ Fr T i b ∧ wr = w) (fun _ v5 _ _ => 16 - (intOf v5).toNat)
    case atStart => exact ⟨0, 0, rfl, rfl, Fr.start T, rfl⟩
    case round =>
      obtain ⟨i, b, rfl, rfl, hfr, hw⟩ := hrel
      subst hw
      have HFR : Hid (Fr T i b) := hfr
      have htop : i ≤ 16 := by have := hfr.top; have := HTT.out.2; have := H16.out; omega
      clear hfr
      by_cases hlt : i < 16
      · have hli : (i : Int) < 16 := by omega
        obtain ⟨c, hc⟩ : ∃ c, T[i]? = some c := ⟨_, List.getElem?_eq_getElem (by have := HTT.out.2; have := H16.out; omega)⟩
        have hits : i < t.size := by have := H16.out; omega
        have hct := get_mk HTT.out.1 hc hits
        have HC : Hid (T[i]? = some c) := hc
        have HS := hidH (HFR.out.small hlt)
        have hmul : IntKind.u64.wrap ((b : Int) * 16) = (b : Int) * 16 := by rw [IntKind.wrap_u64]; have := HS.out; omega
        have hgi : ((t[i]'hits).toNat : Int) = (c.toNat : Int) := by rw [hct]
        clear hc hct
        by_cases h1 : 48 ≤ c.toNat ∧ c.toNat ≤ 57
        · have q1 : (48 : Int) ≤ ((t[i]'hits).toNat : Int) := by omega
          have q2 : ((t[i]'hits).toNat : Int) ≤ 57 := by omega
          obtain ⟨d, hd⟩ : ∃ d, d = c.toNat - 48 := ⟨_, rfl⟩
          have hsub : IntKind.u8.wrap (((t[i]'hits).toNat : Int) - 48) = (d : Int) := by rw [hgi, IntKind.wrap_u8]; omega
          have hwd : IntKind.u64.wrap (d : Int) = (d : Int) := by rw [IntKind.wrap_u64]; omega
          have hN : hexN c = some d := by unfold hexN; rw [if_pos h1, hd]
          obtain ⟨b2, hb2⟩ : ∃ b2, b2 = b * 16 + d := ⟨_, rfl⟩
          have hadd : IntKind.u64.wrap ((b : Int) * 16 + (d : Int)) = (b2 : Int) := by rw [IntKind.wrap_u64]; have := HS.out; omega
          have HF2 : Hid (Fr T (i + 1) b2) := by show Fr T (i + 1) b2; rw [hb2]; exact HFR.out.step HC.out hN
          clear hN hd hb2 h1 hgi
          go_wp2_with fail
          exact ⟨⟨i + 1, b2, by (congr 1), rfl, HF2.out, trivial⟩, by simp [intOf]; omega⟩
        · by_cases h2 : 97 ≤ c.toNat ∧ c.toNat ≤ 102
          · have q1 : (48 : Int) ≤ ((t[i]'hits).toNat : Int) := by omega
            have q2 : ¬ ((t[i]'hits).toNat : Int) ≤ 57 := by omega
            have q3 : (97 : Int) ≤ ((t[i]'hits).toNat : Int) := by omega
            have q4 : ((t[i]'hits).toNat : Int) ≤ 102 := by omega
            obtain ⟨d, hd⟩ : ∃ d, d = c.toNat - 97 := ⟨_, rfl⟩
            have hsub : IntKind.u8.wrap (((t[i]'hits).toNat : Int) - 97) = (d : Int) := by rw [hgi, IntKind.wrap_u8]; omega
            have hwd : IntKind.u64.wrap (d : Int) = (d : Int) := by rw [IntKind.wrap_u64]; omega
            have hN : hexN c = some (d + 10) := by unfold hexN; rw [if_neg h1, if_pos h2, hd]; congr 1; omega
            obtain ⟨b1, hb1⟩ : ∃ b2, b2 = b * 16 + d := ⟨_, rfl⟩
            obtain ⟨b2, hb2⟩ : ∃ b2, b2 = b * 16 + (d + 10) := ⟨_, rfl⟩
            have hadd : IntKind.u64.wrap ((b : Int) * 16 + (d : Int)) = (b1 : Int) := by rw [IntKind.wrap_u64]; have := HS.out; omega
            have hadd2 : IntKind.u64.wrap ((b1 : Int) + 10) = (b2 : Int) := by rw [IntKind.wrap_u64]; have := HS.out; omega
            have HF2 : Hid (Fr T (i + 1) b2) := by show Fr T (i + 1) b2; rw [hb2]; exact HFR.out.step HC.out hN
            clear hN hd hb2 hb1 h1 h2 hgi
            go_wp2_with fail
            exact ⟨⟨i + 1, b2, by (congr 1), rfl, HF2.out, trivial⟩, by simp [intOf]; omega⟩
          · have hN : hexN c = none := by unfold hexN; rw [if_neg h1, if_neg h2]
            have HK : Hid (fltP T = none) := by show fltP T = none; unfold fltP; rw [HFR.out.bad HC.out hN]; split <;> rfl
            have hcs : ((t[i]'hits).toNat : Int) < 48 ∨ ((48 : Int) ≤ ((t[i]'hits).toNat : Int) ∧ ¬ ((t[i]'hits).toNat : Int) ≤ 57 ∧ ((t[i]'hits).toNat : Int) < 97) ∨ ((48 : Int) ≤ ((t[i]'hits).toNat : Int) ∧ ¬ ((t[i]'hits).toNat : Int) ≤ 57 ∧ (97 : Int) ≤ ((t[i]'hits).toNat : Int) ∧ ¬ ((t[i]'hits).toNat : Int) ≤ 102) := by omega
            clear hN h1 h2 hgi
            rcases hcs with q1 | ⟨q1, q2, q3⟩ | ⟨q1, q2, q3, q4⟩
            all_goals
              go_wp2_with fail
              go_ret2
              rw [HK.out]
              exact ⟨rfl, rfl⟩
      · have hni : ¬ (i : Int) < 16 := by omega
        have HK : Hid (fltP T = some b) := by
          show fltP T = some b
          have e : T.take i = T := List.take_of_length_le (by have := HTT.out.2; have := H16.out; omega)
          have h := HFR.out.val
          rw [e] at h
          unfold fltP
          rw [if_pos (by have := HTT.out.2; have := H16.out; omega), h]
        go_wp2_with fail
        refine (rfrom_walk b _).mono ?_
        rintro e9 w1 ⟨rfl, hw⟩
        subst hw
        go_wp2_with fail
        go_ret2
        rw [HK.out]
        exact ⟨rfl, rfl⟩
  · have hb : ((n : Int) != 16) = true := by rw [bne_iff_ne]; omega
    have HK : Hid (fltP T = none) := by show fltP T = none; unfold fltP; rw [if_neg (by have := HTT.out.2; omega)]
    clear h16
    go_enter Tryz.func32, Tryz.ntmps32
    go_wp2_with fail
    go_ret2
    rw [HK.out]
    exact ⟨rfl, rfl⟩
end Go.Proofs.YtkiplcmndpdifaaGreatDoor


