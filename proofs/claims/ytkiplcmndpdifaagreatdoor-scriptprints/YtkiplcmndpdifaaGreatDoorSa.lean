/- Scripts as lists of bytes: words, lines, numbers, what Parse reads and Print writes. -/
import Derived.Test.YtkiplcmndpdifaaGreatDoorChecked

import Derived.Lib.ItoaNum

import Derived.WalkKit

namespace Go.Proofs.YtkiplcmndpdifaaGreatDoor

open Go.RowKit



abbrev Bs := List UInt8


/-- A text cut at every byte b. -/
def splitB (b : UInt8) : Bs → List Bs
  | [] => [[]]
  | c :: l => if c = b then [] :: splitB b l else match splitB b l with
    | [] => [[c]]
    | w :: ws => (c :: w) :: ws


/-- Pieces, b ahead of each. -/
def joinB (b : UInt8) : List Bs → Bs
  | [] => []
  | w :: ws => b :: (w ++ joinB b ws)


theorem split_cons (b : UInt8) (l : Bs) : ∃ w ws, splitB b l = w :: ws ∧ l = w ++ joinB b ws ∧ ∀ x ∈ w :: ws, b ∉ x := by
  induction l with
  | nil => exact ⟨[], [], rfl, rfl, by simp⟩
  | cons c l ih =>
    obtain ⟨w, ws, h1, h2, h3⟩ := ih
    by_cases hc : c = b
    · subst hc
      refine ⟨[], w :: ws, by simp [splitB, h1], by simp [joinB, ← h2], ?_⟩
      intro x hx
      rcases List.mem_cons.1 hx with rfl | hx
      · simp
      · exact h3 x hx
    · refine ⟨c :: w, ws, by simp [splitB, hc, h1], by simp [← h2], ?_⟩
      intro x hx
      rcases List.mem_cons.1 hx with rfl | hx
      · intro h
        rcases List.mem_cons.1 h with h | h
        · exact hc h.symm
        · exact h3 w (by simp) h
      · exact h3 x (by simp [hx])


theorem split_join (b : UInt8) : ∀ (w : Bs) (ws : List Bs), (∀ x ∈ w :: ws, b ∉ x) → splitB b (w ++ joinB b ws) = w :: ws := by
  intro w
  induction w with
  | nil =>
    intro ws h
    induction ws with
    | nil => rfl
    | cons v vs ih =>
      have key : ∀ (u : Bs), b ∉ u → splitB b (u ++ joinB b vs) = u :: vs := by
        intro u hu
        induction u with
        | nil => exact ih (fun x hx => by rcases List.mem_cons.1 hx with rfl | hx; exact hu; exact h x (by simp [hx]))
        | cons c u ihu =>
          have hc : c ≠ b := fun e => hu (by simp [e])
          have := ihu (fun e => hu (by simp [e]))
          simp [splitB, hc, this]
      simp only [joinB, List.nil_append, splitB]
      rw [key v (h v (by simp))]
      simp
  | cons c w ih =>
    intro ws h
    have hc : c ≠ b := fun e => h (c :: w) (by simp) (by simp [e])
    have := ih ws (fun x hx => by
      rcases List.mem_cons.1 hx with rfl | hx
      · exact fun e => h (c :: x) (by simp) (by simp [e])
      · exact h x (by simp [hx]))
    simp [splitB, hc, this]

/-! ### Numbers -/
def digV : Nat → Bs → Option Nat
  | n, [] => some n
  | n, c :: l => if 48 ≤ c.toNat ∧ c.toNat ≤ 57 then digV (n * 10 + (c.toNat - 48)) l else none


def keyP : Bs → Option Nat
  | [] => none
  | c :: l => if c = 48 ∧ l ≠ [] then none else match digV 0 (c :: l) with
    | some n => if n < 18446744073709551616 then some n else none
    | none => none


def numP (w : Bs) : Option Int :=
  if w.head? = some 45 then match keyP w.tail with
    | some n => if n ≠ 0 ∧ n ≤ 9223372036854775808 then some (-(n : Int)) else none
    | none => none
  else match keyP w with
    | some n => if n < 9223372036854775808 then some (n : Int) else none
    | none => none


theorem byte_of {c : UInt8} {n : Nat} (h : c.toNat = n) : UInt8.ofNat n = c := by
  subst h; simp


theorem dec_big {n d : Nat} (hn : 1 ≤ n) (hd : d < 10) : Lib.decDigits (n * 10 + d) = Lib.decDigits n ++ [UInt8.ofNat (48 + d)] := by
  rw [Lib.decDigits.eq_1 (n * 10 + d), dif_neg (by omega), show (n * 10 + d) / 10 = n by omega, show (n * 10 + d) % 10 = d by omega]


theorem dec_one {n : Nat} (h : n < 10) : Lib.decDigits n = [UInt8.ofNat (48 + n)] := by rw [Lib.decDigits.eq_1, dif_pos h]


theorem digV_dec : ∀ (l : Bs) (n m : Nat), 1 ≤ n → digV n l = some m → Lib.decDigits m = Lib.decDigits n ++ l ∧ 1 ≤ m := by
  intro l
  induction l with
  | nil => intro n m hn h; simp only [digV, Option.some.injEq] at h; subst h; exact ⟨by simp, hn⟩
  | cons c l ih =>
    intro n m hn h
    simp only [digV] at h
    split at h
    · rename_i hc
      obtain ⟨e, hm⟩ := ih _ _ (by omega) h
      refine ⟨?_, hm⟩
      rw [e, dec_big hn (by omega), show 48 + (c.toNat - 48) = c.toNat by omega, byte_of rfl]
      simp
    · simp at h


theorem digV_snoc (l : Bs) (c : UInt8) (a : Nat) : digV a (l ++ [c]) = (digV a l).bind fun n => digV n [c] := by
  induction l generalizing a with
  | nil => simp [digV]
  | cons d l ih =>
    simp only [List.cons_append, digV]
    split
    · exact ih _
    · rfl


theorem byte_nat {n : Nat} (h : n < 10) : (UInt8.ofNat (48 + n)).toNat = 48 + n := by
  simp; omega


theorem digV_of_dec (n : Nat) : digV 0 (Lib.decDigits n) = some n := by
  induction n using Nat.strongRecOn with
  | _ n ih =>
    by_cases h : n < 10
    · rw [dec_one h]
      simp only [digV, byte_nat h]
      rw [if_pos ⟨by omega, by omega⟩]
      simp
    · rw [Lib.decDigits.eq_1, dif_neg h, digV_snoc, ih (n / 10) (by omega)]
      have := byte_nat (n := n % 10) (by omega)
      simp only [Option.bind_some, digV, this]
      rw [if_pos ⟨by omega, by omega⟩]
      simp
      omega


theorem dec_head (n : Nat) : ∃ c l, Lib.decDigits n = c :: l ∧ (c = 48 → l = []) ∧ 48 ≤ c.toNat ∧ c.toNat ≤ 57 := by
  induction n using Nat.strongRecOn with
  | _ n ih =>
    by_cases h : n < 10
    · exact ⟨_, [], dec_one h, fun _ => rfl, by rw [byte_nat h]; omega, by rw [byte_nat h]; omega⟩
    · obtain ⟨c, l, e, hc, h1, h2⟩ := ih (n / 10) (by omega)
      refine ⟨c, l ++ [UInt8.ofNat (48 + n % 10)], by rw [Lib.decDigits.eq_1, dif_neg h, e]; rfl, ?_, h1, h2⟩
      intro hz
      have := hc hz
      subst this
      subst hz
      exfalso
      have h3 := digV_of_dec (n / 10)
      rw [e] at h3
      simp [digV] at h3
      omega


theorem keyP_iff (w : Bs) (n : Nat) : keyP w = some n ↔ n < 18446744073709551616 ∧ w = Lib.decDigits n := by
  constructor
  · intro h
    cases w with
    | nil => simp [keyP] at h
    | cons c l =>
      simp only [keyP] at h
      split at h
      · simp at h
      · rename_i hc
        cases hd : digV 0 (c :: l) with
        | none => rw [hd] at h; simp at h
        | some m =>
          rw [hd] at h
          simp only at h
          split at h
          · rename_i hm
            simp only [Option.some.injEq] at h
            subst h
            refine ⟨hm, ?_⟩
            simp only [digV] at hd
            split at hd
            · rename_i hr
              by_cases h0 : c = 48
              · have hl : l = [] := Classical.byContradiction fun e => hc ⟨h0, e⟩
                subst hl; subst h0
                simp [digV] at hd
                subst hd
                rw [dec_one (by omega)]; rfl
              · have hc0 : c.toNat ≠ 48 := fun e => h0 (UInt8.toNat_inj.1 (by simpa using e))
                obtain ⟨e, _⟩ := digV_dec l _ _ (by omega) hd
                rw [e, dec_one (by omega), show 48 + (0 * 10 + (c.toNat - 48)) = c.toNat by omega, byte_of rfl]
                rfl
            · simp at hd
          · simp at h
  · rintro ⟨hn, rfl⟩
    obtain ⟨c, l, e, hc, _, _⟩ := dec_head n
    have hd := digV_of_dec n
    rw [e] at hd ⊢
    simp only [keyP]
    rw [if_neg (by rintro ⟨a, b⟩; exact b (hc a)), hd]
    simp [hn]


theorem numP_iff (w : Bs) (x : Int) : numP w = some x ↔ (-9223372036854775808 ≤ x ∧ x < 9223372036854775808) ∧ w = Lib.itoa x := by
  constructor
  · intro h
    unfold numP at h
    split at h
    · rename_i hh
      cases hk : keyP w.tail with
      | none => rw [hk] at h; simp at h
      | some n =>
        rw [hk] at h
        simp only at h
        split at h
        · rename_i hn
          simp only [Option.some.injEq] at h
          obtain ⟨_, e⟩ := (keyP_iff _ _).1 hk
          refine ⟨by omega, ?_⟩
          subst h
          rw [Lib.itoa, if_pos (by omega), show (-(n : Int)).natAbs = n by omega, ← e]
          cases w with
          | nil => simp at hh
          | cons c l => simp at hh; simp [hh]
        · simp at h
    · cases hk : keyP w with
      | none => rw [hk] at h; simp at h
      | some n =>
        rw [hk] at h
        simp only at h
        split at h
        · rename_i hn
          simp only [Option.some.injEq] at h
          obtain ⟨_, e⟩ := (keyP_iff _ _).1 hk
          refine ⟨by omega, ?_⟩
          subst h
          rw [Lib.itoa, if_neg (by omega)]
          simpa using e
        · simp at h
  · rintro ⟨⟨h1, h2⟩, rfl⟩
    unfold Lib.itoa
    split
    · rename_i hx
      have hk := (keyP_iff (Lib.decDigits x.natAbs) x.natAbs).2 ⟨by omega, rfl⟩
      simp only [numP, List.head?_cons, if_true, List.tail_cons, hk]
      rw [if_pos ⟨by omega, by omega⟩]
      congr 1; omega
    · rename_i hx
      have hk := (keyP_iff (Lib.decDigits x.toNat) x.toNat).2 ⟨by omega, rfl⟩
      obtain ⟨c, l, e, _, h48, h57⟩ := dec_head x.toNat
      unfold numP
      rw [if_neg (by rw [e]; simp; intro h; subst h; simp at h48), hk]
      simp only
      rw [if_pos (by omega)]
      congr 1; omega
end Go.Proofs.YtkiplcmndpdifaaGreatDoor


