/- Numbers, keys and floats read: contracts of strconv's ParseInt and ParseUint, as far as the program asks them. -/
import Derived.Test.YtkiplcmndpdifaaGreatDoorSd

import Derived.Lib.ParseIntBTie

import Derived.Laws.Strings3

import Derived.Laws.Closers25

import Derived.Laws.Closers25b

import Derived.Lib.ConvBytes

import Derived.BigCall

import Derived.BigGuard

namespace Go.Proofs.YtkiplcmndpdifaaGreatDoor

open Go.RowKit



theorem digV_le : ∀ (l : Bs) (n m : Nat), digV n l = some m → n ≤ m := by
  intro l
  induction l with
  | nil => intro n m h; simp only [digV, Option.some.injEq] at h; omega
  | cons c l ih =>
    intro n m h
    simp only [digV] at h
    split at h
    · have := ih _ _ h; omega
    · simp at h


theorem puM_dig : ∀ (l : Bs) (n m : Nat), digV n l = some m → m < 18446744073709551616 → Lib.parseUintM (2 ^ 64 - 1) n l = .ok m := by
  intro l
  induction l with
  | nil => intro n m h _; simp only [digV, Option.some.injEq] at h; subst h; rfl
  | cons c l ih =>
    intro n m h hm
    simp only [digV] at h
    split at h
    · rename_i hc
      have h1 := digV_le _ _ _ h
      simp only [Lib.parseUintM, if_pos hc]
      rw [if_neg (by omega), if_neg (by omega)]
      exact ih _ _ h hm
    · simp at h


theorem pu_dec {u : Nat} (hu : u < 18446744073709551616) : Lib.parseUintB 64 (Lib.decDigits u) = .ok u := by
  obtain ⟨c, l, e, _⟩ := dec_head u
  unfold Lib.parseUintB
  rw [if_neg (by rw [e]; simp)]
  exact puM_dig _ _ _ (digV_of_dec u) hu


theorem pi_itoa {x : Int} (h : In64 x) : Lib.parseIntB 64 (Lib.itoa x) = .ok x := by
  obtain ⟨h1, h2⟩ := h
  unfold Lib.itoa
  split
  · rw [Lib.parseIntB_minus, pu_dec (by omega)]
    simp only [Lib.signedC]
    rw [if_neg (by omega)]
    congr 1; omega
  · obtain ⟨c, l, e, _, h48, h57⟩ := dec_head x.toNat
    have hp := pu_dec (u := x.toNat) (by omega)
    rw [e] at hp ⊢
    rw [Lib.parseIntB_plain 64 c l (by omega) (by omega), hp]
    simp only [Lib.signlessC]
    rw [if_neg (by omega)]
    congr 1; omega


/-- What a reading of a number gives: the number that is written so, or, if none is, an error or another number. -/
def NuGot (w : World) (l : Bs) (e : Ending) (w' : World) : Prop :=
  ∃ x ev, In64 x ∧ e = .returned (.tuple #[.int .i64 x, ev]) ∧ Below w.heap.size w w' ∧ ((ev = .nilIface ∧ ∀ y, In64 y → l = Lib.itoa y → x = y) ∨ ((∃ t p, ev = .iface t p) ∧ ∀ y, In64 y → l ≠ Lib.itoa y))
def KeGot (w : World) (f : Nat → Bs) (l : Bs) (e : Ending) (w' : World) : Prop :=
  ∃ (x : Nat) (ev : Value), x < 18446744073709551616 ∧ e = .returned (.tuple #[.int .u64 x, ev]) ∧ Below w.heap.size w w' ∧ ((ev = .nilIface ∧ ∀ y, y < 18446744073709551616 → l = f y → x = y) ∨ ((∃ t p, ev = .iface t p) ∧ ∀ y, y < 18446744073709551616 → l ≠ f y))


theorem below_or {w w' : World} {e : TypeId} {s : ByteArray} (h : w' = w ∨ w' = Lib.bytesWorld w e s) : Below w.heap.size w w' := by
  rcases h with rfl | rfl
  · exact Below.refl _ _
  · exact Lib.bytesWorld_below _ _ _


theorem pint_walk (l : Bs) (hl : l.length ≤ 281474976710656) (w : World) (ht : Tb w) :
    Calls Tryz.prog 77 #[S l, .int .i64 10, .int .i64 64] w (NuGot w l) := by
  obtain ⟨ts, ps, hes⟩ := ht.es
  obtain ⟨tr, pr, her⟩ := ht.er
  have hsz : (⟨l.toArray⟩ : ByteArray).size = l.length := size_mk l
  cases h : Lib.parseIntB 64 l with
  | ok v =>
    refine (Any.strconv_ParseInt_10_at64_ok laysC174 ⟨l.toArray⟩ (by rw [hsz]; omega) v (by simpa using h) w).mono ?_
    rintro e w' ⟨rfl, hw⟩
    have hb := Lib.parseIntB_bounds h
    refine ⟨v, _, ⟨by omega, by omega⟩, rfl, (by rcases hw with hw | ⟨t, hw⟩; exact below_or (s := ⟨#[]⟩) (e := 0) (.inl hw); exact below_or (.inr hw)), .inl ⟨rfl, ?_⟩⟩
    intro y hy e
    rw [e, pi_itoa hy] at h
    cases h
    rfl
  | «syntax» =>
    refine (Any.strconv_ParseInt_10_at64_syntax laysC174 ⟨l.toArray⟩ (by rw [hsz]; omega) (by simpa using h) _ w hes (.inr ⟨_, _, rfl⟩)).mono ?_
    rintro e w' ⟨N, rfl, _, _, hB⟩
    refine ⟨0, _, ⟨by omega, by omega⟩, rfl, hB, .inr ⟨⟨_, _, rfl⟩, ?_⟩⟩
    intro y hy e
    rw [e, pi_itoa hy] at h
    cases h
  | range =>
    refine (Any.strconv_ParseInt_10_at64_range laysC174 ⟨l.toArray⟩ (by rw [hsz]; omega) (by simpa using h) _ w her (.inr ⟨_, _, rfl⟩)).mono ?_
    rintro e w' ⟨N, rfl, _, _, hB⟩
    refine ⟨_, _, ?_, rfl, hB, .inr ⟨⟨_, _, rfl⟩, ?_⟩⟩
    · unfold Lib.intSat In64
      split <;> omega
    · intro y hy e
      rw [e, pi_itoa hy] at h
      cases h


theorem puint_walk (l : Bs) (hl : l.length ≤ 281474976710656) (w : World) (ht : Tb w) :
    Calls Tryz.prog 78 #[S l, .int .i64 10, .int .i64 64] w (KeGot w Lib.decDigits l) := by
  obtain ⟨ts, ps, hes⟩ := ht.es
  obtain ⟨tr, pr, her⟩ := ht.er
  have hsz : (⟨l.toArray⟩ : ByteArray).size = l.length := size_mk l
  cases h : Lib.parseUintB 64 l with
  | ok v =>
    refine (Any.strconv_ParseUint_10_at64_ok laysPu14 ⟨l.toArray⟩ (by rw [hsz]; omega) v (by simpa using h) w).mono ?_
    rintro e w' ⟨rfl, hw⟩
    have hb := Lib.parseUintB_le h
    refine ⟨v, _, by omega, rfl, below_or hw, .inl ⟨rfl, ?_⟩⟩
    intro y hy e
    rw [e, pu_dec hy] at h
    cases h
    rfl
  | «syntax» =>
    refine (Any.strconv_ParseUint_10_at64_syntax laysPu14 ⟨l.toArray⟩ (by rw [hsz]; omega) (by simpa using h) _ w hes (.inr ⟨_, _, rfl⟩)).mono ?_
    rintro e w' ⟨N, rfl, _, _, hB⟩
    refine ⟨0, _, by omega, rfl, hB, .inr ⟨⟨_, _, rfl⟩, ?_⟩⟩
    intro y hy e
    rw [e, pu_dec hy] at h
    cases h
  | range =>
    refine (Any.strconv_ParseUint_10_at64_range laysPu14 ⟨l.toArray⟩ (by rw [hsz]; omega) (by simpa using h) _ w her (.inr ⟨_, _, rfl⟩)).mono ?_
    rintro e w' ⟨N, rfl, _, _, hB⟩
    refine ⟨18446744073709551615, _, by omega, rfl, hB, .inr ⟨⟨_, _, rfl⟩, ?_⟩⟩
    intro y hy e
    rw [e, pu_dec hy] at h
    cases h


theorem lower_walk (c : Int) (w : World) : Calls Tryz.prog 112 #[.int .u8 c] w fun e w' => e = .returned (.int .u8 (bits .or .u8 c 32)) ∧ w' = w := by
  go_enter Tryz.func112, Tryz.ntmps112
  go_wp2
  go_ret
  exact ⟨rfl, rfl⟩


/-- A hexadecimal digit's byte. -/
theorem hexd_cases (d : Nat) (hd : d < 16) : (48 ≤ (hexd d).toNat ∧ (hexd d).toNat ≤ 57 ∧ ((hexd d).toNat : Int) - 48 = d) ∨ (¬ (hexd d).toNat ≤ 57 ∧ bits .or .u8 ((hexd d).toNat : Int) 32 = ((hexd d).toNat : Int) ∧ 97 ≤ (hexd d).toNat ∧ (hexd d).toNat ≤ 102 ∧ ((hexd d).toNat : Int) - 87 = d) := by
  have : ∀ i : Fin 16, (48 ≤ (hexd i.val).toNat ∧ (hexd i.val).toNat ≤ 57 ∧ ((hexd i.val).toNat : Int) - 48 = (i.val : Nat)) ∨ (¬ (hexd i.val).toNat ≤ 57 ∧ bits .or .u8 ((hexd i.val).toNat : Int) 32 = ((hexd i.val).toNat : Int) ∧ 97 ≤ (hexd i.val).toNat ∧ (hexd i.val).toNat ≤ 102 ∧ ((hexd i.val).toNat : Int) - 87 = (i.val : Nat)) := by decide +kernel
  exact this ⟨d, hd⟩


set_option maxHeartbeats 32000000 in
set_option maxRecDepth 100000 in
theorem ipu_good (y : Nat) (hy : y < 18446744073709551616) (w : World) :
    Calls Tryz.prog 96 #[S (hexRow y 16), .int .i64 16, .int .i64 64] w fun e w' => e = .returned (.tuple #[.int .u64 y, .nilIface]) ∧ Below w.heap.size w w' := by
  obtain ⟨t, hT⟩ : ∃ t : ByteArray, t = ⟨(hexRow y 16).toArray⟩ := ⟨_, rfl⟩
  have hsz : t.size = 16 := by rw [hT, size_mk, hexRow_length]
  have hemp : t.toList.isEmpty = false := by
    rw [← decide_eq_emptyBytes]
    exact decide_eq_false (fun h => by rw [h] at hsz; simp at hsz)
  have hcv := Lib.run_convert_string_bytes (P := Tryz.prog) w 9 60 5 t (u := .string) Tryz.underlying9 Tryz.underlying60 Tryz.underlying5
  have hB : ∀ j, j < 16 → (Lib.bytesWorld w 5 t).cell? ⟨w.heap.size, j, none⟩ = some (.int .u8 ((hexd (y / 16 ^ (15 - j) % 16)).toNat : Int)) := fun j hj => by
    rw [Lib.bytesWorld_cell w 5 t j (by omega), hT]
    have := hexRow_get y 16 j (by rw [hexRow_length]; exact hj)
    simp only [List.getD]
    rw [List.getElem?_eq_getElem (by rw [hexRow_length]; exact hj), this]
    rfl
  have HBW : Hid (Below w.heap.size w (Lib.bytesWorld w 5 t)) := Lib.bytesWorld_below _ _ _
  obtain ⟨W1, hW1⟩ : ∃ W1, W1 = Lib.bytesWorld w 5 t := ⟨_, rfl⟩
  show Calls Tryz.prog _ #[.string ⟨(hexRow y 16).toArray⟩, _, _] w _
  rw [← hT]
  rw [← hW1] at hcv hB HBW
  clear hW1 hT
  have hmv : IntKind.u64.wrap (IntKind.u64.wrap 18446744073709551616 - 1) = 18446744073709551615 := by
    rw [IntKind.wrap_u64, IntKind.wrap_u64]
    decide
  go_enter Tryz.func96, Tryz.ntmps96
  go_wp2
  go_loop [12, 13, 101] (fun vu vn vi => ∃ (k : Nat) (a : Int), vu = .bool false ∧ vn = .int .u64 a ∧ vi = .int .i64 k ∧ k ≤ 16 ∧ Hid (a = ((y / 16 ^ (16 - k) : Nat) : Int)))
    (fun _ _ vi => 16 - (intOf vi).toNat)
  case atStart => exact ⟨0, 0, rfl, rfl, rfl, by omega, by show (0 : Int) = _; rw [Nat.div_eq_of_lt (by simpa using hy)]; rfl⟩
  case round =>
    obtain ⟨k, a, rfl, rfl, rfl, hk, hh⟩ := hrel
    by_cases hkn : k < 16
    · have hc := hB k hkn
      obtain ⟨d, hd⟩ : ∃ d, y / 16 ^ (15 - k) % 16 = d := ⟨_, rfl⟩
      have hd16 : d < 16 := by rw [← hd]; exact Nat.mod_lt _ (by omega)
      rw [hd] at hc
      have hcs := hexd_cases d hd16
      have hc256 : (hexd d).toNat < 256 := (hexd d).toNat_lt
      have hnx : y / 16 ^ (15 - k) = y / 16 ^ (16 - k) * 16 + d := by
        have e1 : y / 16 ^ (15 - k) / 16 = y / 16 ^ (16 - k) := by
          rw [Nat.div_div_eq_div_mul, ← Nat.pow_succ, show (15 - k).succ = 16 - k by omega]
        omega
      have hsm : y / 16 ^ (15 - k) < 18446744073709551616 := Nat.lt_of_le_of_lt (Nat.div_le_self _ _) hy
      have ha : a = ((y / 16 ^ (16 - k) : Nat) : Int) := hh.out
      have a0 : 0 ≤ a := by omega
      have icut : a < 1152921504606846976 := by omega
      have HN : Hid (a * 16 + (d : Int) = ((y / 16 ^ (16 - (k + 1)) : Nat) : Int)) := by
        show _ = _
        rw [show 16 - (k + 1) = 15 - k by omega, hnx]
        omega
      have iov : a * 16 + (d : Int) < 18446744073709551616 := by omega
      obtain ⟨c, hcc⟩ : ∃ c : Nat, (hexd d).toNat = c := ⟨_, rfl⟩
      rw [hcc] at hc hcs hc256
      clear hB hh ha hnx hsm hd hcc hy
      have hd0 : (0 : Int) ≤ (d : Int) := by omega
      have hdd : (d : Int) < 16 := by omega
      rcases hcs with ⟨h1, h2, h3⟩ | ⟨h1, h2, h3, h4, h5⟩
      · obtain rfl : d = c - 48 := by omega
        have h3' : ((c - 48 : Nat) : Int) = (c : Int) - 48 := by omega
        rw [h3'] at HN iov hd0 hdd
        clear h3 h3' hd16
        go_wp2
        exact ⟨⟨k + 1, a * 16 + ((c : Int) - 48), rfl, (by first | rfl | (congr 1; omega)), (by first | rfl | (congr 1; omega)), by omega, HN⟩, by simp [intOf]; omega⟩
      · obtain rfl : d = c - 87 := by omega
        have h3' : ((c - 87 : Nat) : Int) = (c : Int) - 97 + 10 := by omega
        rw [h3'] at HN iov hd0 hdd
        have hg : 57 < c := by omega
        have hg' : ¬ ((c : Int) = 95) := by omega
        clear h5 h3' hd16 h1
        go_wp2_with (go_at_call 112; refine (lower_walk _ _).mono ?_; rintro e w' ⟨rfl, rfl⟩; rw [h2])
        exact ⟨⟨k + 1, a * 16 + ((c : Int) - 97 + 10), rfl, (by first | rfl | (congr 1; omega)), (by first | rfl | (congr 1; omega)), by omega, HN⟩, by simp [intOf]; omega⟩
    · have hkk : k = 16 := by omega
      subst hkk
      have ha : a = (y : Int) := by have := hh.out; simpa using this
      subst ha
      clear hh hy
      go_wp2
      go_ret2
      exact ⟨rfl, HBW.out⟩


set_option maxHeartbeats 32000000 in
set_option maxRecDepth 100000 in
/-- Whatever is read: a number, or an error. -/
theorem ipu_any (t : ByteArray) (hmax : t.size ≤ 281474976710656) (hne : t.size ≠ 0) (w : World) :
    Calls Tryz.prog 96 #[.string t, .int .i64 16, .int .i64 64] w fun e w' => (∃ x : Nat, x < 18446744073709551616 ∧ (e = .returned (.tuple #[.int .u64 x, .nilIface]) ∨ e = .returned (.tuple #[.int .u64 x, .iface 159 (.int .i64 1)]) ∨ e = .returned (.tuple #[.int .u64 x, .iface 159 (.int .i64 2)]))) ∧ Below w.heap.size w w' := by
  have hemp : t.toList.isEmpty = false := by
    rw [← decide_eq_emptyBytes]
    exact decide_eq_false (fun h => hne (by rw [h]; rfl))
  have hcv := Lib.run_convert_string_bytes (P := Tryz.prog) w 9 60 5 t (u := .string) Tryz.underlying9 Tryz.underlying60 Tryz.underlying5
  have hB : ∀ j, j < t.size → (Lib.bytesWorld w 5 t).cell? ⟨w.heap.size, j, none⟩ = some (.int .u8 (t.data.toList.getD j 0).toNat) := fun j hj => Lib.bytesWorld_cell w 5 t j hj
  have HBW : Hid (Below w.heap.size w (Lib.bytesWorld w 5 t)) := Lib.bytesWorld_below _ _ _
  obtain ⟨W1, hW1⟩ : ∃ W1, W1 = Lib.bytesWorld w 5 t := ⟨_, rfl⟩
  rw [← hW1] at hcv hB HBW
  clear hW1
  have hmv : IntKind.u64.wrap (IntKind.u64.wrap 18446744073709551616 - 1) = 18446744073709551615 := by
    rw [IntKind.wrap_u64, IntKind.wrap_u64]
    decide
  have HMX : Hid (∃ x : Nat, x < 18446744073709551616 ∧ (18446744073709551615 : Int) = x) := ⟨18446744073709551615, by omega, rfl⟩
  go_enter Tryz.func96, Tryz.ntmps96
  go_wp2
  go_loop [12, 13, 101] (fun vu vn vi => ∃ (k : Nat) (a : Int), vu = .bool false ∧ vn = .int .u64 a ∧ vi = .int .i64 k ∧ k ≤ t.size ∧ 0 ≤ a ∧ a < 18446744073709551616)
    (fun _ _ vi => t.size - (intOf vi).toNat)
  case atStart => exact ⟨0, 0, rfl, rfl, rfl, by omega, by omega, by omega⟩
  case round =>
    obtain ⟨k, a, rfl, rfl, rfl, hk, a0, a1⟩ := hrel
    by_cases hkn : k < t.size
    · have hc := hB k hkn
      generalize t.data.toList.getD k 0 = c at hc
      have hc256 : c.toNat < 256 := c.toNat_lt
      clear hB
      by_cases hdig : 48 ≤ c.toNat ∧ c.toNat ≤ 57
      · obtain ⟨hd0, hd1⟩ := hdig
        by_cases hcut : 1152921504606846976 ≤ a
        · go_wp2
          go_ret2
          exact ⟨⟨18446744073709551615, by omega, .inr (.inl rfl)⟩, HBW.out⟩
        · have icut : a < 1152921504606846976 := by omega
          have iov : a * 16 + ((c.toNat : Int) - 48) < 18446744073709551616 := by omega
          clear hcut
          go_wp2
          exact ⟨⟨k + 1, a * 16 + ((c.toNat : Int) - 48), rfl, (by first | rfl | (congr 1; omega)), (by first | rfl | (congr 1; omega)), by omega, by omega, iov⟩, by simp [intOf]; omega⟩
      · have hv0 := bits_lo_u8 .or (c.toNat : Int) 32
        have hv1 := bits_hi_u8 .or (c.toNat : Int) 32
        have hu0 := bits_lo_u8 .or 95 32
        have hu1 := bits_hi_u8 .or 95 32
        have hu2 : bits .or .u8 95 32 = 127 := by decide +kernel
        by_cases h95 : c.toNat = 95
        · have h95' : (c.toNat : Int) = 95 := by omega
          rw [h95'] at hc
          clear h95 h95' hdig
          go_wp2_with (go_at_call 112; refine (lower_walk _ _).mono ?_; rintro e w' ⟨rfl, rfl⟩; rw [hu2])
          go_ret2
          exact ⟨⟨0, by omega, .inr (.inr rfl)⟩, HBW.out⟩
        · have h95' : ¬ ((c.toNat : Int) = 95) := by omega
          obtain ⟨v, hv⟩ : ∃ v, bits .or .u8 (c.toNat : Int) 32 = v := ⟨_, rfl⟩
          rw [hv] at hv0 hv1
          have hnd : (decide ((48 : Int) ≤ (c.toNat : Int)) && decide ((c.toNat : Int) ≤ 57)) = false := by
            simp; omega
          clear hnd h95
          by_cases hlet : 97 ≤ v ∧ v ≤ 122
          · obtain ⟨hl0, hl1⟩ := hlet
            by_cases h16 : 16 ≤ v - 97 + 10
            · rcases Nat.lt_or_ge c.toNat 48 with hlow | hlow
              · have hlow' : (c.toNat : Int) < 48 := by omega
                clear hdig
                go_wp2_with (go_at_call 112; refine (lower_walk _ _).mono ?_; rintro e w' ⟨rfl, rfl⟩; rw [hv])
                go_ret2
                exact ⟨⟨0, by omega, .inr (.inr rfl)⟩, HBW.out⟩
              · have hhi' : (57 : Int) < (c.toNat : Int) := by omega
                clear hdig
                go_wp2_with (go_at_call 112; refine (lower_walk _ _).mono ?_; rintro e w' ⟨rfl, rfl⟩; rw [hv])
                go_ret2
                exact ⟨⟨0, by omega, .inr (.inr rfl)⟩, HBW.out⟩
            · have h16' : v - 97 + 10 < 16 := by omega
              by_cases hcut : 1152921504606846976 ≤ a
              · rcases Nat.lt_or_ge c.toNat 48 with hlow | hlow
                · have hlow' : (c.toNat : Int) < 48 := by omega
                  clear hdig h16
                  go_wp2_with (go_at_call 112; refine (lower_walk _ _).mono ?_; rintro e w' ⟨rfl, rfl⟩; rw [hv])
                  go_ret2
                  exact ⟨⟨18446744073709551615, by omega, .inr (.inl rfl)⟩, HBW.out⟩
                · have hhi' : (57 : Int) < (c.toNat : Int) := by omega
                  clear hdig h16
                  go_wp2_with (go_at_call 112; refine (lower_walk _ _).mono ?_; rintro e w' ⟨rfl, rfl⟩; rw [hv])
                  go_ret2
                  exact ⟨⟨18446744073709551615, by omega, .inr (.inl rfl)⟩, HBW.out⟩
              · have icut : a < 1152921504606846976 := by omega
                have iov : a * 16 + (v - 97 + 10) < 18446744073709551616 := by omega
                have ge0 : 0 ≤ a * 16 + (v - 97 + 10) := by omega
                rcases Nat.lt_or_ge c.toNat 48 with hlow | hlow
                · have hlow' : (c.toNat : Int) < 48 := by omega
                  clear hdig h16 hcut
                  go_wp2_with (go_at_call 112; refine (lower_walk _ _).mono ?_; rintro e w' ⟨rfl, rfl⟩; rw [hv])
                  exact ⟨⟨k + 1, a * 16 + (v - 97 + 10), rfl, (by first | rfl | (congr 1; omega)), (by first | rfl | (congr 1; omega)), by omega, ge0, iov⟩, by simp [intOf]; omega⟩
                · have hhi' : (57 : Int) < (c.toNat : Int) := by omega
                  clear hdig h16 hcut
                  go_wp2_with (go_at_call 112; refine (lower_walk _ _).mono ?_; rintro e w' ⟨rfl, rfl⟩; rw [hv])
                  exact ⟨⟨k + 1, a * 16 + (v - 97 + 10), rfl, (by first | rfl | (congr 1; omega)), (by first | rfl | (congr 1; omega)), by omega, ge0, iov⟩, by simp [intOf]; omega⟩
          · rcases Int.lt_or_le v 97 with hlo | hlo
            · rcases Nat.lt_or_ge c.toNat 48 with hlow | hlow
              · have hlow' : (c.toNat : Int) < 48 := by omega
                clear hdig hlet
                go_wp2_with (go_at_call 112; refine (lower_walk _ _).mono ?_; rintro e w' ⟨rfl, rfl⟩; rw [hv])
                go_ret2
                exact ⟨⟨0, by omega, .inr (.inr rfl)⟩, HBW.out⟩
              · have hhi' : (57 : Int) < (c.toNat : Int) := by omega
                clear hdig hlet
                go_wp2_with (go_at_call 112; refine (lower_walk _ _).mono ?_; rintro e w' ⟨rfl, rfl⟩; rw [hv])
                go_ret2
                exact ⟨⟨0, by omega, .inr (.inr rfl)⟩, HBW.out⟩
            · have hhi : 122 < v := by omega
              rcases Nat.lt_or_ge c.toNat 48 with hlow | hlow
              · have hlow' : (c.toNat : Int) < 48 := by omega
                clear hdig hlet
                go_wp2_with (go_at_call 112; refine (lower_walk _ _).mono ?_; rintro e w' ⟨rfl, rfl⟩; rw [hv])
                go_ret2
                exact ⟨⟨0, by omega, .inr (.inr rfl)⟩, HBW.out⟩
              · have hhi' : (57 : Int) < (c.toNat : Int) := by omega
                clear hdig hlet
                go_wp2_with (go_at_call 112; refine (lower_walk _ _).mono ?_; rintro e w' ⟨rfl, rfl⟩; rw [hv])
                go_ret2
                exact ⟨⟨0, by omega, .inr (.inr rfl)⟩, HBW.out⟩
    · have hkk : k = t.size := by omega
      subst hkk
      obtain ⟨x, rfl⟩ : ∃ x : Nat, a = (x : Int) := ⟨a.toNat, by omega⟩
      go_wp2
      go_ret2
      exact ⟨⟨x, by omega, .inl rfl⟩, HBW.out⟩
end Go.Proofs.YtkiplcmndpdifaaGreatDoor


