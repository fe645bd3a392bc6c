/- Items; a source filled. -/
import Derived.Test.YtfgeabcdcepfdaaVj
namespace Go.Proofs.Ytfgeabcdcepfdaa
open Ieee Go.RowKit
attribute [local go_sem] run_store_float

structure It where
  p : Int
  r : Rcd
def It.ok (t : It) : Prop := (-9223372036854775808 ≤ t.p ∧ t.p < 9223372036854775808) ∧ t.r.ok
/-- The cells behind ao hold the items l. -/
def Il (w : World) (ao : Option Addr) (l : List It) : Prop :=
  ∀ i, (h : i < l.length) → ∃ b off, ao = some ⟨b, off, none⟩ ∧ w.cell? ⟨b, off + i * 3, none⟩ = some (.int .i64 l[i].p) ∧ w.cell? ⟨b, off + i * 3 + 1, none⟩ = some (.int .u64 l[i].r.k) ∧ w.cell? ⟨b, off + i * 3 + 2, none⟩ = some (.float .f64 l[i].r.x)
theorem Il.below {B : Nat} {w w' : World} {ao : Option Addr} {l : List It} (h : Il w ao l) (hb : Below B w w') (hB : w.heap.size ≤ B) : Il w' ao l := by
  intro i hi
  obtain ⟨b, off, e, c0, c1, c2⟩ := h i hi
  have hl : b < B := Nat.lt_of_lt_of_le (cell_lt c0) hB
  exact ⟨b, off, e, by rw [hb.cell (p := ⟨b, off + i * 3, none⟩) hl]; exact c0, by rw [hb.cell (p := ⟨b, off + i * 3 + 1, none⟩) hl]; exact c1, by rw [hb.cell (p := ⟨b, off + i * 3 + 2, none⟩) hl]; exact c2⟩

/-- Which of two partitions an item's number means. -/
def parN (p : Int) : Nat := (p % 2).toNat
theorem parN_lt (p : Int) : parN p < 2 := by unfold parN; omega
theorem par_rem (p : Int) : (IntKind.u64.wrap p).tmod 2 = (parN p : Int) := by
  have h0 : 0 ≤ IntKind.u64.wrap p := by rw [IntKind.wrap_u64]; omega
  rw [Int.tmod_eq_emod_of_nonneg h0, IntKind.wrap_u64]
  unfold parN; omega
theorem par_rem' (p : Int) : (IntKind.u64.wrap p) % 2 = (parN p : Int) := by
  rw [IntKind.wrap_u64]
  unfold parN; omega

def fillS (S : Sc) : List It → Sc
  | [] => S
  | t :: l => fillS (prodS S (parN t.p) t.r).2 l
theorem fill_snoc (S : Sc) (l : List It) (t : It) : fillS S (l ++ [t]) = (prodS (fillS S l) (parN t.p) t.r).2 := by
  induction l generalizing S with
  | nil => rfl
  | cons a l ih => exact ih _
theorem prod_list (S : Sc) (p : Int) (r : Rcd) : (prodS S p r).2.list = S.list ∧ (prodS S p r).2.np = S.np ∧ (prodS S p r).2.on = S.on := by
  unfold prodS
  split
  · split
    · exact ⟨rfl, rfl, rfl⟩
    · split
      · split <;> exact ⟨rfl, rfl, rfl⟩
      · exact ⟨rfl, rfl, rfl⟩
  · exact ⟨rfl, rfl, rfl⟩
theorem fill_list (S : Sc) (l : List It) : (fillS S l).list = S.list ∧ (fillS S l).np = S.np ∧ (fillS S l).on = S.on := by
  induction l generalizing S with
  | nil => exact ⟨rfl, rfl, rfl⟩
  | cons t l ih =>
    have h1 := ih (prodS S (parN t.p) t.r).2
    have h2 := prod_list S (parN t.p) t.r
    exact ⟨h1.1.trans h2.1, h1.2.1.trans h2.2.1, h1.2.2.trans h2.2.2⟩

theorem fill_step {l : List Stp} {items : List It} {w w5 : World} {v : Value} {i q tk tx : Nat} {tp : Int} (hlt : i < items.length) (h46 : i < 4096) (hT : (⟨tp, ⟨tk, tx⟩⟩ : It) = items[i]) (hQ : q = parN tp)
    (hS : Sb w.heap.size w5 v (prodS (fillS (newS 2 l) (items.take i)) q ⟨tk, tx⟩).2) (hB : Below w.heap.size w w5) :
    ∃ j : Nat, j ≤ items.length ∧ j ≤ 4096 ∧ Value.int .i64 ((i : Int) + 1) = .int .i64 j ∧ Sb w.heap.size w5 v (fillS (newS 2 l) (items.take j)) ∧ Below w.heap.size w w5 := by
  refine ⟨i + 1, hlt, by omega, by simp, ?_, hB⟩
  rw [List.take_succ_eq_append_getElem hlt, fill_snoc, ← hT]
  show Sb _ _ _ (prodS _ (parN tp) ⟨tk, tx⟩).2
  rw [← hQ]
  exact hS

set_option maxRecDepth 100000 in
set_option maxHeartbeats 4000000 in
theorem filled_walk {lv : Value} {l : List Stp} {io : Option Addr} {ic : Nat} {items : List It} {w : World} (ho : Ov w lv l) (hi : Il w io items) (hik : ∀ t ∈ items, t.ok) (hil : items.length ≤ maxLen) (hc : checkB l = true) :
    Calls Try.prog 17 #[lv, .slice io items.length ic] w fun e w' => ∃ v, e = .returned v ∧ Sb w.heap.size w' v (fillS (newS 2 l) (items.take 4096)) ∧ Below w.heap.size w w' := by
  have HO : Hid (Ov w lv l) := ho
  have HI : Hid (Il w io items) := hi
  have HIK : Hid (∀ t ∈ items, t.ok) := hik
  have hli : (items.length : Int) ≤ 9223372036854775807 := by simp only [maxLen] at hil; omega
  clear ho hi hik hil
  go_enter Try.func17, Try.ntmps17
  go_wp2_with fail
  refine (newB (n := 2) (l := l) (by omega) (by omega) HO.out hc).mono ?_
  rintro e w1 ⟨v, rfl, hS, hB⟩
  have HS1 : Hid (Sb w.heap.size w1 v (newS 2 l)) := hS
  have HB1 : Hid (Below w.heap.size w w1) := hB
  obtain ⟨sb, rfl⟩ := hS.form
  clear hS hB
  go_wp2_with fail
  go_loopw [7] (fun iv wr => ∃ i : Nat, i ≤ items.length ∧ i ≤ 4096 ∧ iv = .int .i64 i ∧ Sb w.heap.size wr (.pointer (some ⟨sb, 0, none⟩)) (fillS (newS 2 l) (items.take i)) ∧ Below w.heap.size w wr) (fun iv _ => 4096 - (intOf iv).toNat)
  case atStart => exact ⟨0, Nat.zero_le _, by omega, rfl, by simpa [fillS] using HS1.out, HB1.out⟩
  case round =>
    clear HS1 HB1
    obtain ⟨i, h1, h2, rfl, hS, hB⟩ := hrel
    have HS : Hid (Sb w.heap.size wr (.pointer (some ⟨sb, 0, none⟩)) (fillS (newS 2 l) (items.take i))) := hS
    have HB : Hid (Below w.heap.size w wr) := hB
    clear hS hB
    by_cases hlt : i < items.length ∧ i < 4096
    · obtain ⟨hlt, h46⟩ := hlt
      obtain ⟨b, off, rfl, c0, c1, c2⟩ := HI.out.below HB.out (Nat.le_refl _) i hlt
      obtain ⟨t, ht⟩ : ∃ t, t = items[i] := ⟨_, rfl⟩
      rw [← ht] at c0 c1 c2
      have HT : Hid (t = items[i]) := ht
      have HTK : Hid t.ok := by rw [ht]; exact HIK.out _ (List.getElem_mem hlt)
      obtain ⟨tp, tk, tx⟩ := t
      have rm := par_rem tp
      have rm' := par_rem' tp
      have hq2 := parN_lt tp
      obtain ⟨q, hq⟩ : ∃ q, q = parN tp := ⟨_, rfl⟩
      rw [← hq] at rm rm' hq2
      have HQ : Hid (q = parN tp) := hq
      clear ht hq
      simp only at c0 c1 c2
      have hlti : (i : Int) < (items.length : Int) := by omega
      have h46i : (i : Int) < 4096 := by omega
      have hwq : IntKind.i64.wrap (q : Int) = (q : Int) := wrapU (by omega) (by omega)
      go_wp2_with fail
      go_region_with ((go_at_call 13; refine (produceB (r := ⟨tk, tx⟩) (HS.out.below (Below.refl _ _).drew) HB.out.size q HTK.out.2).mono ?_; rintro e w5 ⟨rfl, hS5, hB5, _⟩))
      all_goals go_wp2_with fail
      all_goals go_roundw
      all_goals first
        | exact fill_step hlt h46 HT.out HQ.out hS5 ((Below.drew HB.out).trans hB5)
        | (simp [intOf]; omega)
    · have HE : Hid (items.take i = items.take 4096) := by
        show _ = _
        rcases Nat.lt_or_ge i 4096 with h | h
        · have : i = items.length := by omega
          rw [this, List.take_length, List.take_of_length_le (by omega)]
        · rw [show i = 4096 by omega]
      by_cases hl2 : i < items.length
      · have h46 : ¬ ((i : Int) < 4096) := by omega
        have hl2i : (i : Int) < (items.length : Int) := by omega
        go_wp2_with fail
        go_ret
        exact ⟨_, rfl, by rw [← HE.out]; exact HS.out, HB.out⟩
      · have hl2i : ¬ ((i : Int) < (items.length : Int)) := by omega
        go_wp2_with fail
        go_ret
        exact ⟨_, rfl, by rw [← HE.out]; exact HS.out, HB.out⟩

theorem Sb.src {B : Nat} {w : World} {v : Value} {S : Sc} (h : Sb B w v S) : ∃ D, Src D w v S ∧ ∀ b, D b → B ≤ b := h

/-- A row of records apart from what is of D. -/
def Rd (D : Nat → Prop) (w : World) (ao : Option Addr) (l : List Rcd) : Prop := Rl w ao l ∧ ∀ a, ao = some a → ¬ D a.block ∧ a.block < w.heap.size
theorem Rd.below {D : Nat → Prop} {w w' : World} {ao : Option Addr} {l : List Rcd} (h : Rd D w ao l) (hb : Below w.heap.size w w') : Rd D w' ao l :=
  ⟨h.1.below hb, fun a ha => ⟨(h.2 a ha).1, Nat.lt_of_lt_of_le (h.2 a ha).2 hb.size⟩⟩
theorem Rd.ch {D : Nat → Prop} {w w' : World} {ao : Option Addr} {l : List Rcd} (h : Rd D w ao l) (hc : Ch D w w') : Rd D w' ao l := by
  refine ⟨fun i hi => ?_, fun a ha => ⟨(h.2 a ha).1, Nat.lt_of_lt_of_le (h.2 a ha).2 hc.size⟩⟩
  obtain ⟨b, off, e, c0, c1⟩ := h.1 i hi
  have hb : w'.heap[b]? = w.heap[b]? := hc.block b (h.2 _ e).2 (h.2 _ e).1
  exact ⟨b, off, e, by rw [World.cell?_of_block (w := w) (a := ⟨b, off + i * 2, none⟩) hb]; exact c0, by rw [World.cell?_of_block (w := w) (a := ⟨b, off + i * 2 + 1, none⟩) hb]; exact c1⟩
theorem rd_new {D : Nat → Prop} {w w' : World} {e n : Nat} {v : Value} {l : List Rcd} (h : w'.ownsRow w.heap.size e 2 v n (flatR l)) (hok : ∀ r ∈ l, r.ok) (hd : ∀ x, D x → x < w.heap.size) : ∃ ao cap, v = .slice ao l.length cap ∧ Rd D w' ao l := by
  have hn : n = l.length := by have := h.1; rw [flatR_len] at this; omega
  subst hn
  obtain ⟨ao, cap, hv, hr⟩ := own_rl h hok
  refine ⟨ao, cap, hv, hr, fun a ha => ?_⟩
  have hx : v.ownBlock = some a.block := by rw [hv, ha]; rfl
  have := h.lt _ hx
  exact ⟨fun hD => by have := hd _ hD; omega, this.2⟩

theorem filled_bad {lv : Value} {l : List Stp} {iv : Value} {w : World} (ho : Ov w lv l) (hc : checkB l = false) :
    Calls Try.prog 17 #[lv, iv] w fun e w' => e = .returned (.pointer none) ∧ Below w.heap.size w w' := by
  have HO : Hid (Ov w lv l) := ho
  clear ho
  go_enter Try.func17, Try.ntmps17
  go_wp2_with fail
  refine (new_ops (parts := 2) (by omega) (by omega) HO.out hc).mono ?_
  rintro e w1 ⟨rfl, hB⟩
  go_wp2_with fail
  go_ret
  exact ⟨rfl, hB⟩
end Go.Proofs.Ytfgeabcdcepfdaa
