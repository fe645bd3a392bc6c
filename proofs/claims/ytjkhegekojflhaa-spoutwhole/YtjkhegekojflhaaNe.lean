/- Form and Again: the program's and the reference's. -/
import Derived.Test.YtjkhegekojflhaaNd
namespace Go.Proofs.Ytjkhegekojflhaa
open Ieee Go.RowKit

def endS (S : Sc) (a : List Int) (m : Int) (p : Nat) : Int := if upS S p then min (nth a p + m) (lenS S p) else nth a p
def mixT (S : Sc) (a : List Int) (m : Int) (k : Nat) : List Int := (List.range a.length).map fun p => if p < k then endS S a m p else nth a p
def formT (S : Sc) (a : List Int) (m : Int) : List Int := mixT S a m a.length
def formI (S : Sc) (a : List Int) (m : Int) : Int := if m < 1 ∨ 16 < m then 1 else if fitB S a = true then 0 else 70
def formL (S : Sc) (a : List Int) (m : Int) : List Int := if formI S a m = 0 then formT S a m else []
def formR (S : Sc) (a : List Int) (m : Int) : List Rcd := if formI S a m = 0 then betS S a (formT S a m) a.length else []
def againB (S : Sc) (a b : List Int) : Bool := fitB S a && fitB S b && fwdB a b
theorem again_yes {S : Sc} {a b : List Int} (h : Fit S a ∧ Fit S b ∧ Fwd a b) : againB S a b = true := by unfold againB; rw [h.1.yes, h.2.1.yes, h.2.2.yes]; rfl
theorem again_of {S : Sc} {a b : List Int} (h : againB S a b = true) : Fit S a ∧ Fit S b ∧ Fwd a b := by
  unfold againB at h
  rw [Bool.and_eq_true, Bool.and_eq_true] at h
  exact ⟨Fit.of h.1.1, Fit.of h.1.2, Fwd.of h.2⟩
def againI (S : Sc) (a b : List Int) : Int := if againB S a b = true then 0 else 70
def againR (S : Sc) (a b : List Int) : List Rcd := if againB S a b = true then betS S a b a.length else []

theorem mix_len (S : Sc) (a : List Int) (m : Int) (k : Nat) : (mixT S a m k).length = a.length := by simp [mixT]
theorem mix_nth (S : Sc) (a : List Int) (m : Int) (k : Nat) {i : Nat} (hi : i < a.length) : nth (mixT S a m k) i = if i < k then endS S a m i else nth a i := by
  rw [nth_at (by rw [mix_len]; exact hi)]
  simp [mixT]
theorem mix_zero (S : Sc) (a : List Int) (m : Int) : mixT S a m 0 = a := by
  refine nth_ext (mix_len _ _ _ _) fun i hi => ?_
  rw [mix_len] at hi
  rw [mix_nth _ _ _ _ hi, if_neg (by omega)]
theorem mix_set (S : Sc) (a : List Int) (m : Int) (k : Nat) : (mixT S a m k).set k (endS S a m k) = mixT S a m (k + 1) := by
  refine nth_ext (by simp [mix_len]) fun i hi => ?_
  have hl : i < a.length := by simpa [mix_len] using hi
  rw [mix_nth _ _ _ _ hl, nth_at hi]
  by_cases hik : k = i
  · subst hik
    rw [List.getElem_set_self, if_pos (by omega)]
  · rw [List.getElem_set_ne hik, ← nth_at (by rw [mix_len]; exact hl), mix_nth _ _ _ _ hl]
    by_cases h : i < k
    · rw [if_pos h, if_pos (by omega)]
    · rw [if_neg h, if_neg (by omega)]
theorem mix_same (S : Sc) (a : List Int) (m : Int) {k : Nat} (hk : endS S a m k = nth a k) : mixT S a m k = mixT S a m (k + 1) := by
  refine nth_ext (by simp [mix_len]) fun i hi => ?_
  rw [mix_len] at hi
  rw [mix_nth _ _ _ _ hi, mix_nth _ _ _ _ hi]
  by_cases hik : i = k
  · subst hik; rw [if_neg (by omega), if_pos (by omega), hk]
  · by_cases h : i < k
    · rw [if_pos h, if_pos (by omega)]
    · rw [if_neg h, if_neg (by omega)]
theorem form_len (S : Sc) (a : List Int) (m : Int) : (formT S a m).length = a.length := mix_len _ _ _ _
theorem form_nth (S : Sc) (a : List Int) (m : Int) {i : Nat} (hi : i < a.length) : nth (formT S a m) i = endS S a m i := by
  unfold formT; rw [mix_nth _ _ _ _ hi, if_pos hi]
theorem end_bound {S : Sc} {a : List Int} {m : Int} (hf : Fit S a) (hm : 1 ≤ m) {i : Nat} (hi : i < a.length) : nth a i ≤ endS S a m i ∧ endS S a m i ≤ lenS S i := by
  have := hf.2 i hi
  unfold endS
  split <;> omega
theorem form_fit {S : Sc} {a : List Int} {m : Int} (hf : Fit S a) (hm : 1 ≤ m) : Fit S (formT S a m) := by
  refine ⟨by rw [form_len]; exact hf.1, fun i hi => ?_⟩
  rw [form_len] at hi
  rw [form_nth _ _ _ hi]
  have := hf.2 i hi
  have := end_bound hf hm hi
  omega
theorem form_fwd {S : Sc} {a : List Int} {m : Int} (hf : Fit S a) (hm : 1 ≤ m) : Fwd a (formT S a m) := by
  refine ⟨(form_len _ _ _).symm, fun i hi => ?_⟩
  rw [form_nth _ _ _ hi]
  exact (end_bound hf hm hi).1
theorem fit_in64 {S : Sc} {a : List Int} (hok : S.ok) (hf : Fit S a) : In64 a := by
  intro x hx
  obtain ⟨i, hi, rfl⟩ := List.getElem_of_mem hx
  have := hf.2 i hi
  rw [nth_at hi] at this
  have := lenS_le hok i
  omega
theorem mix_in64 {S : Sc} {a : List Int} {m : Int} (hok : S.ok) (hf : Fit S a) (hm : 1 ≤ m) (k : Nat) : In64 (mixT S a m k) := by
  intro x hx
  obtain ⟨i, hi, rfl⟩ := List.getElem_of_mem hx
  rw [← nth_at hi]
  rw [mix_len] at hi
  rw [mix_nth _ _ _ _ hi]
  have h1 := hf.2 i hi
  have h2 := end_bound hf hm hi
  have := lenS_le hok i
  split <;> omega
theorem form_in64 {S : Sc} {a : List Int} {m : Int} (hok : S.ok) (hf : Fit S a) (hm : 1 ≤ m) : In64 (formT S a m) := mix_in64 hok hf hm _
theorem mix_snoc (S : Sc) (a : List Int) (m : Int) {k : Nat} (hk : k < a.length) : (formT S a m).take k ++ [endS S a m k] = (formT S a m).take (k + 1) := by
  rw [List.take_succ_eq_append_getElem (by rw [form_len]; exact hk), ← nth_at (by rw [form_len]; exact hk), form_nth _ _ _ hk]

section
variable {D : Nat → Prop} {w : World} {v av bv : Value} {S : Sc} {a b : List Int} {m : Int}

/-- What Form answers. -/
def Fo (w : World) (S : Sc) (a : List Int) (m : Int) (e : Ending) (w' : World) : Prop :=
  ∃ tv rv, e = .returned (.tuple #[tv, rv, .int .i64 (formI S a m)]) ∧ w'.ownsRow w.heap.size 3 1 tv (formL S a m).length (cellsN (formL S a m)) ∧ w'.ownsRow w.heap.size 66 2 rv (formR S a m).length (flatR (formR S a m)) ∧
    (∀ x, tv.ownBlock = some x → rv.ownBlock ≠ some x) ∧ Below w.heap.size w w'
theorem fo_bad {w' : World} {c : Int} (h : formI S a m = c) (hc : c ≠ 0) (hB : Below w.heap.size w w') : Fo w S a m (.returned (.tuple #[.slice none 0 0, .slice none 0 0, .int .i64 c])) w' := by
  subst h
  refine ⟨_, _, rfl, ?_, ?_, fun x hx => by simp [Value.ownBlock] at hx, hB⟩
  · unfold formL; rw [if_neg hc]; exact World.ownsRow_nil _ _ _ _
  · unfold formR; rw [if_neg hc]; exact World.ownsRow_nil _ _ _ _

set_option maxRecDepth 100000 in
set_option maxHeartbeats 4000000 in
theorem form_walk (h : Src D w v S) (ha : Nv w av a) :
    Calls Try.prog 10 #[v, av, .int .i64 m] w fun e w' => Fo w S a m e w' := by
  have HS : Hid (Src D w v S) := h
  have HA : Hid (Nv w av a) := ha
  have HK : Hid S.ok := h.good
  obtain ⟨ao, ca, rfl, hla, _⟩ := ha.form
  have hv : ∃ sb, v = .pointer (some ⟨sb, 0, none⟩) := by obtain ⟨sb, _, _, _, _, e, _⟩ := h; exact ⟨sb, e⟩
  obtain ⟨sb, rfl⟩ := hv
  clear h ha
  by_cases hm : m < 1 ∨ 16 < m
  · have HI : Hid (formI S a m = 1) := by show _ = _; unfold formI; rw [if_pos hm]
    by_cases hm1 : m < 1
    · clear hm
      go_enter Try.func10, Try.ntmps10
      go_wp2_with fail
      go_ret3
      exact fo_bad HI.out (by omega) (below_same _)
    · have hm2 : 16 < m := by omega
      clear hm
      go_enter Try.func10, Try.ntmps10
      go_wp2_with fail
      go_ret3
      exact fo_bad HI.out (by omega) (below_same _)
  · have hm1 : ¬ m < 1 := by omega
    have hm2 : ¬ 16 < m := by omega
    by_cases hf : Fit S a
    · have HI : Hid (formI S a m = 0) := by show _ = _; unfold formI; rw [if_neg hm, if_pos hf.yes]
      have HF : Hid (Fit S a) := hf
      have HD : Hid (fitB S a = true) := Fit.yes hf
      have hm1' : 1 ≤ m := by omega
      have hm2' : m ≤ 16 := by omega
      have hla4 : a.length ≤ 4 := by have := hf.1; have := HK.out.np4; omega
      have hla1 : 1 ≤ a.length := by have := hf.1; have := HK.out.np1; omega
      clear hf hm
      go_enter Try.func10, Try.ntmps10
      go_wp2_with fail
      refine (fits_walk HS.out HA.out).mono ?_
      rw [HD.out]
      rintro e w1 ⟨rfl, hB1⟩
      have HW1 : Hid (Below w.heap.size w w1) := hB1
      clear hB1
      go_wp2_with fail
      refine (cloneN_walk (HA.out.below HW1.out) (by omega)).mono ?_
      rintro e w2 ⟨tv, rfl, ht, hB2⟩
      have HW2 : Hid (Below w.heap.size w w2) := below_trans HW1.out hB2
      have hgc : ∃ g2 cap2, tv = .slice (some ⟨g2, 0, none⟩) a.length cap2 := by
        rcases ht.2 with ⟨_, h0⟩ | ⟨g2, cap2, cur, e, _⟩
        · omega
        · exact ⟨g2, cap2, e⟩
      obtain ⟨g2, cap2, rfl⟩ := hgc
      obtain ⟨hz, hg2, _⟩ := own_zw ht
      have HZ : Hid (Zw w2 g2 cap2 (mixT S a m 0)) := by rw [mix_zero]; exact hz
      have HG : Hid (w.heap.size ≤ g2) := Nat.le_trans HW1.out.size hg2
      clear hz hg2 ht hB2
      go_wp2_with fail
      go_loopw [27] (fun iv wr => ∃ k : Nat, k ≤ a.length ∧ iv = .int .i64 k ∧ Zw wr g2 cap2 (mixT S a m k) ∧ Below w.heap.size w wr) (fun iv _ => a.length - (intOf iv).toNat)
      case atStart => exact ⟨0, Nat.zero_le _, rfl, HZ.out, HW2.out⟩
      case round =>
        obtain ⟨k, hk, rfl, hZ, hB⟩ := hrel
        have HZK : Hid (Zw wr g2 cap2 (mixT S a m k)) := hZ
        have HW : Hid (Below w.heap.size w wr) := hB
        clear hZ hB
        by_cases hlt : k < a.length
        · have hlti : (k : Int) < (a.length : Int) := by omega
          cases hup : upS S k
          · have HE : Hid (mixT S a m k = mixT S a m (k + 1)) := mix_same S a m (by unfold endS; rw [hup]; rfl)
            have HU : Hid (upS S k = false) := hup
            clear hup
            go_wp2_with (go_at_call 28; refine (up_walk (HS.out.below HW.out) k).mono ?_; rw [HU.out]; rintro e w9 ⟨rfl, h9⟩; have h9 := h9.symm; subst h9)
            go_roundw
            case rel => exact ⟨k + 1, by omega, by go_num, HE.out ▸ HZK.out, HW.out⟩
            case measure => simp [intOf]; omega
          · have HU : Hid (upS S k = true) := hup
            obtain ⟨g, off, rfl, c0⟩ := HA.out.at hlt
            obtain ⟨x, hx⟩ : ∃ x, x = nth a k := ⟨_, rfl⟩
            rw [← hx] at c0
            obtain ⟨n, hn⟩ : ∃ n, n = lenS S k := ⟨_, rfl⟩
            have HN : Hid (n = lenS S k) := hn
            have hxb := HF.out.2 k hlt
            rw [← hx, ← hn] at hxb
            obtain ⟨hx0, hxn⟩ := hxb
            have hn256 : n ≤ 256 := by rw [hn]; exact lenS_le HK.out _
            obtain ⟨z, hz⟩ : ∃ z : Int, (if (n : Int) < x + m then (n : Int) else x + m) = z := ⟨_, rfl⟩
            have HE : Hid (endS S a m k = z) := by show _ = _; unfold endS; rw [hup, if_pos rfl, ← hx, ← hn, ← hz]; split <;> omega
            have r1 : IntKind.i64.wrap (x + m) = x + m := wrapU (by omega) (by omega)
            have j0 : ∀ wx, Below w.heap.size w wx → wx.cell? ⟨g, off + k, none⟩ = some (.int .i64 x) := fun wx hb => by rw [hb.cell (p := ⟨g, off + k, none⟩) (cell_lt c0)]; exact c0
            have d0 : wr.cell? ⟨g2, k, none⟩ = some (.int .i64 (nth (mixT S a m k) k)) := HZK.out.cell (by rw [mix_len]; exact hlt)
            have d1 : wr.frozen? ⟨g2, k, none⟩ = false := HZK.out.soft k
            have hSd : Below w.heap.size w wr.drew := HW.out.drew
            clear c0 hx hn hup
            go_wp2_with (go_at_call 28; refine (up_walk (HS.out.below HW.out) k).mono ?_; rw [HU.out]; rintro e w9 ⟨rfl, h9⟩; have h9 := h9.symm; subst h9)
            go_region_held3 (fun wx => Below w.heap.size w wx) (first | assumption | exact (HW.out.setCell (p := ⟨g2, k, none⟩) HG.out _).drew)
              (first
                | (go_at_call 29; refine (len_walk (HS.out.below (by assumption)) k).mono ?_; rw [← HN.out]; rintro e w9 ⟨rfl, h9⟩; have h9 := h9.symm; subst h9))
            all_goals go_wp2_with fail
            all_goals go_roundw
            all_goals first
              | exact ⟨k + 1, by omega, by go_num, by rw [← mix_set, HE.out]; exact HZK.out.set (by rw [mix_len]; exact hlt) z, (HW.out.setCell (p := ⟨g2, k, none⟩) HG.out _).drew⟩
              | (simp [intOf]; omega)
        · have hke : k = a.length := by omega
          have hnl : ¬ ((k : Int) < (a.length : Int)) := by omega
          subst hke
          have HNT : Hid (Nv wr (.slice (some ⟨g2, 0, none⟩) a.length cap2) (formT S a m)) := by
            have := HZK.out.nv (mix_in64 HK.out HF.out hm1' _)
            rw [mix_len] at this
            exact this
          go_wp2_with fail
          refine (between_walk (HS.out.below HW.out) (HA.out.below HW.out) HNT.out HF.out (form_fit HF.out hm1') (form_fwd HF.out hm1')).mono ?_
          rintro e w3 ⟨rv, rfl, hr, hB3⟩
          go_wp2_with fail
          go_ret3
          have ho := HZK.out.own HG.out
          rw [mix_len] at ho
          refine ⟨_, rv, by rw [HI.out]; rfl, ?_, ?_, ?_, below_trans HW.out hB3⟩
          · unfold formL; rw [HI.out, if_pos rfl, form_len]; exact own_below ho hB3
          · unfold formR; rw [HI.out, if_pos rfl]; exact row_base hr (fun x hx => Nat.le_trans HW.out.size (hr.lt x hx).1)
          · intro x hx hy
            have h1 := (ho.lt x hx).2
            have h2 := (hr.lt x hy).1
            omega
    · have HI : Hid (formI S a m = 70) := by show _ = _; unfold formI; rw [if_neg hm, if_neg (fun h => hf (Fit.of h))]
      have HD : Hid (fitB S a = false) := Fit.no hf
      clear hf hm
      go_enter Try.func10, Try.ntmps10
      go_wp2_with fail
      refine (fits_walk HS.out HA.out).mono ?_
      rw [HD.out]
      rintro e w1 ⟨rfl, hB1⟩
      go_wp2_with fail
      go_ret3
      exact fo_bad HI.out (by omega) hB1
theorem nv_one (w : World) (x : Int) (hx : -9223372036854775808 ≤ x ∧ x < 9223372036854775808) (t : TypeId) : Nv (w.alloc (Obj.cells #[.int .i64 x] t)) (.slice (some ⟨w.heap.size, 0, none⟩) 1 1) [x] := by
  refine ⟨⟨_, 1, rfl, by simp, by simp [maxLen], by simp, fun i hi => ?_⟩, fun y hy => by simp at hy; subst hy; exact hx⟩
  have : i = 0 := by simpa using hi
  subst this
  exact ⟨_, _, rfl, by simp [go_sem, nth]⟩

/-- The reference's loop over partitions: round k, the ends so far, the world. -/
def Rf (w : World) (S : Sc) (a : List Int) (m : Int) (tv iv : Value) (wr : World) : Prop :=
  ∃ k : Nat, k ≤ a.length ∧ iv = .int .i64 k ∧ wr.ownsRow w.heap.size 3 1 tv k (cellsN ((formT S a m).take k)) ∧ Below w.heap.size w wr
theorem rf_step {k : Nat} {E : Int} {tv v' : Value} {wx w7 : World} {o : Obj} (hlt : k < a.length) (hE : endS S a m k = E) (hO : wx.ownsRow w.heap.size 3 1 tv k (cellsN ((formT S a m).take k))) (hB : Below w.heap.size w wx)
    (g1 : w7.ownsRow w.heap.size 3 1 v' (k + [E].length) (cellsN ((formT S a m).take k ++ [E]))) (g2 : (wx.alloc o).grownBy w7 tv.ownBlock) : Rf w S a m v' (.int .i64 ((k : Int) + 1)) w7 := by
  refine ⟨k + 1, hlt, by simp, ?_, ?_⟩
  · rw [← mix_snoc S a m hlt, hE]; exact g1
  · have hs := hB.size
    exact (hB.alloc hs o).grown g2 (by simp; omega) (fun x hx => (hO.lt x hx).1)

set_option maxRecDepth 100000 in
set_option maxHeartbeats 4000000 in
theorem rform_walk (h : Rs D w v S) (ha : Nv w av a) :
    Calls Try.prog 12 #[v, av, .int .i64 m] w fun e w' => Fo w S a m e w' := by
  have HS : Hid (Rs D w v S) := h
  have HA : Hid (Nv w av a) := ha
  have HK : Hid S.ok := h.good
  obtain ⟨ao, ca, rfl, hla, _⟩ := ha.form
  have hv : ∃ sb, v = .pointer (some ⟨sb, 0, none⟩) := by obtain ⟨sb, _, _, _, _, e, _⟩ := h; exact ⟨sb, e⟩
  obtain ⟨sb, rfl⟩ := hv
  clear h ha
  by_cases hm : m < 1 ∨ 16 < m
  · have HI : Hid (formI S a m = 1) := by show _ = _; unfold formI; rw [if_pos hm]
    by_cases hm1 : m < 1
    · clear hm
      go_enter Try.func12, Try.ntmps12
      go_wp2_with fail
      go_ret3
      exact fo_bad HI.out (by omega) (below_same _)
    · have hm2 : 16 < m := by omega
      clear hm
      go_enter Try.func12, Try.ntmps12
      go_wp2_with fail
      go_ret3
      exact fo_bad HI.out (by omega) (below_same _)
  · have hm1 : ¬ m < 1 := by omega
    have hm2 : ¬ 16 < m := by omega
    by_cases hf : Fit S a
    · have HI : Hid (formI S a m = 0) := by show _ = _; unfold formI; rw [if_neg hm, if_pos hf.yes]
      have HF : Hid (Fit S a) := hf
      have HD : Hid (fitB S a = true) := Fit.yes hf
      have hm1' : 1 ≤ m := by omega
      have hm2' : m ≤ 16 := by omega
      have hla4 : a.length ≤ 4 := by have := hf.1; have := HK.out.np4; omega
      clear hf hm
      go_enter Try.func12, Try.ntmps12
      go_wp2_with fail
      refine (rfits_walk HS.out HA.out).mono ?_
      rw [HD.out]
      rintro e w1 ⟨rfl, hB1⟩
      have HW1 : Hid (Below w.heap.size w w1) := hB1
      clear hB1
      go_wp2_with fail
      go_loopw [9, 10] (fun tv iv wr => Rf w S a m tv iv wr) (fun _ iv _ => a.length - (intOf iv).toNat)
      case atStart => exact ⟨0, Nat.zero_le _, rfl, World.ownsRow_made w1 #[] 0 HW1.out.size (by simp [maxLen]) (by simp), HW1.out.alloc HW1.out.size _⟩
      case round =>
        obtain ⟨k, hk, rfl, hO, hB⟩ := hrel
        have HO : Hid (wr.ownsRow w.heap.size 3 1 u9 k (cellsN ((formT S a m).take k))) := hO
        have HW : Hid (Below w.heap.size w wr) := hB
        clear hO hB
        by_cases hlt : k < a.length
        · have hlti : (k : Int) < (a.length : Int) := by omega
          obtain ⟨g, off, rfl, c0⟩ := (HA.out.below HW.out).at hlt
          obtain ⟨x, hx⟩ : ∃ x, x = nth a k := ⟨_, rfl⟩
          rw [← hx] at c0
          have HX : Hid (x = nth a k) := hx
          obtain ⟨n, hn⟩ : ∃ n, n = lenS S k := ⟨_, rfl⟩
          have HN : Hid (n = lenS S k) := hn
          obtain ⟨u, hu⟩ : ∃ u, u = upS S k := ⟨_, rfl⟩
          have HU : Hid (u = upS S k) := hu
          have hxb := HF.out.2 k hlt
          rw [← hx, ← hn] at hxb
          obtain ⟨hx0, hxn⟩ := hxb
          have hn256 : n ≤ 256 := by rw [hn]; exact lenS_le HK.out _
          clear hx hn hu
          go_wp2_with fail
          go_loopw [11, 12] (fun ev iv wx => ∃ i : Nat, (i : Int) ≤ m ∧ iv = .int .i64 i ∧ ev = .int .i64 (x + i) ∧ (0 < i → u = true) ∧ x + i ≤ (n : Int) ∧ wx.ownsRow w.heap.size 3 1 u9 k (cellsN ((formT S a m).take k)) ∧ Below w.heap.size w wx) (fun _ iv _ => (m - intOf iv).toNat)
          case atStart => exact ⟨0, by omega, rfl, by simp, by omega, by omega, HO.out, HW.out⟩
          case round =>
            obtain ⟨i, him, hiv, hev, hiu, hxi, hO, hB⟩ := hrel
            subst hiv
            subst hev
            clear HO HW
            have HOX : Hid (wr.ownsRow w.heap.size 3 1 u9 k (cellsN ((formT S a m).take k))) := hO
            have HWX : Hid (Below w.heap.size w wr) := hB
            have HE64 : Hid (-9223372036854775808 ≤ x + (i : Int) ∧ x + (i : Int) < 9223372036854775808) := ⟨by omega, by omega⟩
            have HIU : Hid (0 < i → u = true) := hiu
            clear hO hB hiu
            have r1 : IntKind.i64.wrap (x + (i : Int) + 1) = x + (i : Int) + 1 := wrapU (by omega) (by omega)
            by_cases h1 : (i : Int) < m
            · cases u
              · have HE : Hid (endS S a m k = x + i) := by
                  show _ = _
                  unfold endS
                  rw [← HU.out, ← HX.out]
                  have : ¬ 0 < i := fun h => by have := HIU.out h; simp at this
                  rw [if_neg (by simp)]; omega
                go_wp2_with (first
                    | (go_at_call 40; refine (rup_walk (HS.out.below HWX.out) k).mono ?_; rw [← HU.out]; rintro e w9 ⟨rfl, h9⟩; have h9 := h9.symm; subst h9)
                    | (go_at_call 41; refine (rlen_walk (HS.out.below HWX.out) k).mono ?_; rw [← HN.out]; rintro e w9 ⟨rfl, h9⟩; have h9 := h9.symm; subst h9)
                    | (at_builtin; refine wpList_append_nv (by rfl) _ _ 23 (by rfl) w.heap.size 3 Try.underlying23 info_int u9 k ((formT S a m).take k) (by rfl) (HOX.out.alloc _) _ [x + i] (by rfl) (nv_one wr _ HE64.out _) (by simp [maxLen]; omega) (by simp; omega) (by have := HWX.out.size; simp; omega) ?_; intro v' w7 g1 g2; go_frame))
                go_roundw
                case rel => exact rf_step hlt HE.out HOX.out HWX.out g1 g2
                case measure => simp [intOf]; omega
              · by_cases h2 : x + (i : Int) < (n : Int)
                · go_wp2_with (first
                      | (go_at_call 40; refine (rup_walk (HS.out.below HWX.out) k).mono ?_; rw [← HU.out]; rintro e w9 ⟨rfl, h9⟩; have h9 := h9.symm; subst h9)
                      | (go_at_call 41; refine (rlen_walk (HS.out.below HWX.out) k).mono ?_; rw [← HN.out]; rintro e w9 ⟨rfl, h9⟩; have h9 := h9.symm; subst h9)
                      | (at_builtin; refine wpList_append_nv (by rfl) _ _ 23 (by rfl) w.heap.size 3 Try.underlying23 info_int u9 k ((formT S a m).take k) (by rfl) (HOX.out.alloc _) _ [x + i] (by rfl) (nv_one wr _ HE64.out _) (by simp [maxLen]; omega) (by simp; omega) (by have := HWX.out.size; simp; omega) ?_; intro v' w7 g1 g2; go_frame))
                  go_roundw
                  case rel => exact ⟨i + 1, by omega, by go_num, by rw [Int.natCast_add, ← Int.add_assoc]; rfl, by simp, by omega, HOX.out, HWX.out⟩
                  case measure => simp [intOf]; omega
                · have HE : Hid (endS S a m k = x + i) := by
                    show _ = _
                    unfold endS
                    rw [← HU.out, ← HX.out, ← HN.out, if_pos rfl]; omega
                  go_wp2_with (first
                      | (go_at_call 40; refine (rup_walk (HS.out.below HWX.out) k).mono ?_; rw [← HU.out]; rintro e w9 ⟨rfl, h9⟩; have h9 := h9.symm; subst h9)
                      | (go_at_call 41; refine (rlen_walk (HS.out.below HWX.out) k).mono ?_; rw [← HN.out]; rintro e w9 ⟨rfl, h9⟩; have h9 := h9.symm; subst h9)
                      | (at_builtin; refine wpList_append_nv (by rfl) _ _ 23 (by rfl) w.heap.size 3 Try.underlying23 info_int u9 k ((formT S a m).take k) (by rfl) (HOX.out.alloc _) _ [x + i] (by rfl) (nv_one wr _ HE64.out _) (by simp [maxLen]; omega) (by simp; omega) (by have := HWX.out.size; simp; omega) ?_; intro v' w7 g1 g2; go_frame))
                  go_roundw
                  case rel => exact rf_step hlt HE.out HOX.out HWX.out g1 g2
                  case measure => simp [intOf]; omega
            · have HE : Hid (endS S a m k = x + i) := by
                show _ = _
                unfold endS
                rw [← HU.out, ← HX.out, ← HN.out, HIU.out (by omega), if_pos rfl]; omega
              go_wp2_with (first
                  | (go_at_call 40; refine (rup_walk (HS.out.below HWX.out) k).mono ?_; rw [← HU.out]; rintro e w9 ⟨rfl, h9⟩; have h9 := h9.symm; subst h9)
                  | (go_at_call 41; refine (rlen_walk (HS.out.below HWX.out) k).mono ?_; rw [← HN.out]; rintro e w9 ⟨rfl, h9⟩; have h9 := h9.symm; subst h9)
                  | (at_builtin; refine wpList_append_nv (by rfl) _ _ 23 (by rfl) w.heap.size 3 Try.underlying23 info_int u9 k ((formT S a m).take k) (by rfl) (HOX.out.alloc _) _ [x + i] (by rfl) (nv_one wr _ HE64.out _) (by simp [maxLen]; omega) (by simp; omega) (by have := HWX.out.size; simp; omega) ?_; intro v' w7 g1 g2; go_frame))
              go_roundw
              case rel => exact rf_step hlt HE.out HOX.out HWX.out g1 g2
              case measure => simp [intOf]; omega
        · have hke : k = a.length := by omega
          have hnl : ¬ ((k : Int) < (a.length : Int)) := by omega
          subst hke
          have HNT : Hid (Nv wr u9 (formT S a m)) := by
            have := own_nv HO.out (by rw [List.take_of_length_le (by rw [form_len]; omega)]; exact form_in64 HK.out HF.out hm1')
            rw [List.take_of_length_le (by rw [form_len]; omega)] at this
            exact this
          go_wp2_with fail
          refine (rbetween_walk (HS.out.below HW.out) (HA.out.below HW.out) HNT.out HF.out (form_fit HF.out hm1') (form_fwd HF.out hm1')).mono ?_
          rintro e w3 ⟨rv, rfl, hr, hB3⟩
          go_wp2_with fail
          go_ret3
          have ho := HO.out
          rw [List.take_of_length_le (by rw [form_len]; omega)] at ho
          refine ⟨_, rv, by rw [HI.out]; rfl, ?_, ?_, ?_, below_trans HW.out hB3⟩
          · unfold formL; rw [HI.out, if_pos rfl, form_len]; exact own_below ho hB3
          · unfold formR; rw [HI.out, if_pos rfl]; exact row_base hr (fun x hx => Nat.le_trans HW.out.size (hr.lt x hx).1)
          · intro x hx hy
            have h1 := (ho.lt x hx).2
            have h2 := (hr.lt x hy).1
            omega
    · have HI : Hid (formI S a m = 70) := by show _ = _; unfold formI; rw [if_neg hm, if_neg (fun h => hf (Fit.of h))]
      have HD : Hid (fitB S a = false) := Fit.no hf
      clear hf hm
      go_enter Try.func12, Try.ntmps12
      go_wp2_with fail
      refine (rfits_walk HS.out HA.out).mono ?_
      rw [HD.out]
      rintro e w1 ⟨rfl, hB1⟩
      go_wp2_with fail
      go_ret3
      exact fo_bad HI.out (by omega) hB1

set_option maxRecDepth 100000 in
theorem again_walk (h : Src D w v S) (ha : Nv w av a) (hb : Nv w bv b) :
    Calls Try.prog 17 #[v, av, bv] w fun e w' => ∃ r, e = .returned (.tuple #[r, .int .i64 (againI S a b)]) ∧ w'.ownsRow w.heap.size 66 2 r (againR S a b).length (flatR (againR S a b)) ∧ Below w.heap.size w w' := by
  have HS : Hid (Src D w v S) := h
  have HA : Hid (Nv w av a) := ha
  have HB : Hid (Nv w bv b) := hb
  obtain ⟨ao, ca, rfl, hla, _⟩ := ha.form
  obtain ⟨bo, cb, rfl, hlb, _⟩ := hb.form
  have hv : ∃ sb, v = .pointer (some ⟨sb, 0, none⟩) := by obtain ⟨sb, _, _, _, _, e, _⟩ := h; exact ⟨sb, e⟩
  obtain ⟨sb, rfl⟩ := hv
  clear h ha hb
  by_cases hall : Fit S a ∧ Fit S b ∧ Fwd a b
  · have HI : Hid (againI S a b = 0) := by show _ = _; unfold againI; rw [if_pos (again_yes hall)]
    have HR : Hid (againR S a b = betS S a b a.length) := by show _ = _; unfold againR; rw [if_pos (again_yes hall)]
    rw [HI.out, HR.out]
    have HALL : Hid (Fit S a ∧ Fit S b ∧ Fwd a b) := hall
    clear hall
    go_enter Try.func17, Try.ntmps17
    go_wp2_with fail
    refine (fits_walk HS.out HA.out).mono ?_
    rw [HALL.out.1.yes]
    rintro e w1 ⟨rfl, hB1⟩
    have HW1 : Hid (Below w.heap.size w w1) := hB1
    clear hB1
    go_wp2_with fail
    refine (fits_walk (HS.out.below HW1.out) (HB.out.below HW1.out)).mono ?_
    rw [HALL.out.2.1.yes]
    rintro e w2 ⟨rfl, hB2⟩
    have HW2 : Hid (Below w.heap.size w w2) := below_trans HW1.out hB2
    clear hB2
    go_wp2_with fail
    refine (fwd_walk (HA.out.below HW2.out) (HB.out.below HW2.out)).mono ?_
    rw [HALL.out.2.2.yes]
    rintro e w3 ⟨rfl, hB3⟩
    have HW3 : Hid (Below w.heap.size w w3) := below_trans HW2.out hB3
    clear hB3
    go_wp2_with fail
    refine (between_walk (HS.out.below HW3.out) (HA.out.below HW3.out) (HB.out.below HW3.out) HALL.out.1 HALL.out.2.1 HALL.out.2.2).mono ?_
    rintro e w4 ⟨r, rfl, hr, hB4⟩
    go_wp2_with fail
    go_ret2
    exact ⟨r, rfl, row_base hr (fun x hx => Nat.le_trans HW3.out.size (hr.lt x hx).1), below_trans HW3.out hB4⟩
  · have HI : Hid (againI S a b = 70) := by show _ = _; unfold againI; rw [if_neg (fun h => hall (again_of h))]
    have HR : Hid (againR S a b = []) := by show _ = _; unfold againR; rw [if_neg (fun h => hall (again_of h))]
    rw [HI.out, HR.out]
    by_cases h1 : Fit S a
    · have H1 : Hid (fitB S a = true) := Fit.yes h1
      by_cases h2 : Fit S b
      · have H2 : Hid (fitB S b = true) := Fit.yes h2
        have H3 : Hid (fwdB a b = false) := Fwd.no fun h => hall ⟨h1, h2, h⟩
        clear hall h1 h2
        go_enter Try.func17, Try.ntmps17
        go_wp2_with fail
        refine (fits_walk HS.out HA.out).mono ?_
        rw [H1.out]
        rintro e w1 ⟨rfl, hB1⟩
        have HW1 : Hid (Below w.heap.size w w1) := hB1
        clear hB1
        go_wp2_with fail
        refine (fits_walk (HS.out.below HW1.out) (HB.out.below HW1.out)).mono ?_
        rw [H2.out]
        rintro e w2 ⟨rfl, hB2⟩
        have HW2 : Hid (Below w.heap.size w w2) := below_trans HW1.out hB2
        clear hB2
        go_wp2_with fail
        refine (fwd_walk (HA.out.below HW2.out) (HB.out.below HW2.out)).mono ?_
        rw [H3.out]
        rintro e w3 ⟨rfl, hB3⟩
        go_wp2_with fail
        go_ret2
        exact ⟨_, rfl, World.ownsRow_nil _ _ _ _, below_trans HW2.out hB3⟩
      · have H2 : Hid (fitB S b = false) := Fit.no h2
        clear hall h1 h2
        go_enter Try.func17, Try.ntmps17
        go_wp2_with fail
        refine (fits_walk HS.out HA.out).mono ?_
        rw [H1.out]
        rintro e w1 ⟨rfl, hB1⟩
        have HW1 : Hid (Below w.heap.size w w1) := hB1
        clear hB1
        go_wp2_with fail
        refine (fits_walk (HS.out.below HW1.out) (HB.out.below HW1.out)).mono ?_
        rw [H2.out]
        rintro e w2 ⟨rfl, hB2⟩
        go_wp2_with fail
        go_ret2
        exact ⟨_, rfl, World.ownsRow_nil _ _ _ _, below_trans HW1.out hB2⟩
    · have H1 : Hid (fitB S a = false) := Fit.no h1
      clear hall h1
      go_enter Try.func17, Try.ntmps17
      go_wp2_with fail
      refine (fits_walk HS.out HA.out).mono ?_
      rw [H1.out]
      rintro e w1 ⟨rfl, hB1⟩
      go_wp2_with fail
      go_ret2
      exact ⟨_, rfl, World.ownsRow_nil _ _ _ _, hB1⟩

set_option maxRecDepth 100000 in
theorem ragain_walk (h : Rs D w v S) (ha : Nv w av a) (hb : Nv w bv b) :
    Calls Try.prog 19 #[v, av, bv] w fun e w' => ∃ r, e = .returned (.tuple #[r, .int .i64 (againI S a b)]) ∧ w'.ownsRow w.heap.size 66 2 r (againR S a b).length (flatR (againR S a b)) ∧ Below w.heap.size w w' := by
  have HS : Hid (Rs D w v S) := h
  have HA : Hid (Nv w av a) := ha
  have HB : Hid (Nv w bv b) := hb
  obtain ⟨ao, ca, rfl, hla, _⟩ := ha.form
  obtain ⟨bo, cb, rfl, hlb, _⟩ := hb.form
  have hv : ∃ sb, v = .pointer (some ⟨sb, 0, none⟩) := by obtain ⟨sb, _, _, _, _, e, _⟩ := h; exact ⟨sb, e⟩
  obtain ⟨sb, rfl⟩ := hv
  clear h ha hb
  by_cases hall : Fit S a ∧ Fit S b ∧ Fwd a b
  · have HI : Hid (againI S a b = 0) := by show _ = _; unfold againI; rw [if_pos (again_yes hall)]
    have HR : Hid (againR S a b = betS S a b a.length) := by show _ = _; unfold againR; rw [if_pos (again_yes hall)]
    rw [HI.out, HR.out]
    have HALL : Hid (Fit S a ∧ Fit S b ∧ Fwd a b) := hall
    clear hall
    go_enter Try.func19, Try.ntmps19
    go_wp2_with fail
    refine (rfits_walk HS.out HA.out).mono ?_
    rw [HALL.out.1.yes]
    rintro e w1 ⟨rfl, hB1⟩
    have HW1 : Hid (Below w.heap.size w w1) := hB1
    clear hB1
    go_wp2_with fail
    refine (rfits_walk (HS.out.below HW1.out) (HB.out.below HW1.out)).mono ?_
    rw [HALL.out.2.1.yes]
    rintro e w2 ⟨rfl, hB2⟩
    have HW2 : Hid (Below w.heap.size w w2) := below_trans HW1.out hB2
    clear hB2
    go_wp2_with fail
    refine (rfwd_walk (HA.out.below HW2.out) (HB.out.below HW2.out)).mono ?_
    rw [HALL.out.2.2.yes]
    rintro e w3 ⟨rfl, hB3⟩
    have HW3 : Hid (Below w.heap.size w w3) := below_trans HW2.out hB3
    clear hB3
    go_wp2_with fail
    refine (rbetween_walk (HS.out.below HW3.out) (HA.out.below HW3.out) (HB.out.below HW3.out) HALL.out.1 HALL.out.2.1 HALL.out.2.2).mono ?_
    rintro e w4 ⟨r, rfl, hr, hB4⟩
    go_wp2_with fail
    go_ret2
    exact ⟨r, rfl, row_base hr (fun x hx => Nat.le_trans HW3.out.size (hr.lt x hx).1), below_trans HW3.out hB4⟩
  · have HI : Hid (againI S a b = 70) := by show _ = _; unfold againI; rw [if_neg (fun h => hall (again_of h))]
    have HR : Hid (againR S a b = []) := by show _ = _; unfold againR; rw [if_neg (fun h => hall (again_of h))]
    rw [HI.out, HR.out]
    by_cases h1 : Fit S a
    · have H1 : Hid (fitB S a = true) := Fit.yes h1
      by_cases h2 : Fit S b
      · have H2 : Hid (fitB S b = true) := Fit.yes h2
        have H3 : Hid (fwdB a b = false) := Fwd.no fun h => hall ⟨h1, h2, h⟩
        clear hall h1 h2
        go_enter Try.func19, Try.ntmps19
        go_wp2_with fail
        refine (rfits_walk HS.out HA.out).mono ?_
        rw [H1.out]
        rintro e w1 ⟨rfl, hB1⟩
        have HW1 : Hid (Below w.heap.size w w1) := hB1
        clear hB1
        go_wp2_with fail
        refine (rfits_walk (HS.out.below HW1.out) (HB.out.below HW1.out)).mono ?_
        rw [H2.out]
        rintro e w2 ⟨rfl, hB2⟩
        have HW2 : Hid (Below w.heap.size w w2) := below_trans HW1.out hB2
        clear hB2
        go_wp2_with fail
        refine (rfwd_walk (HA.out.below HW2.out) (HB.out.below HW2.out)).mono ?_
        rw [H3.out]
        rintro e w3 ⟨rfl, hB3⟩
        go_wp2_with fail
        go_ret2
        exact ⟨_, rfl, World.ownsRow_nil _ _ _ _, below_trans HW2.out hB3⟩
      · have H2 : Hid (fitB S b = false) := Fit.no h2
        clear hall h1 h2
        go_enter Try.func19, Try.ntmps19
        go_wp2_with fail
        refine (rfits_walk HS.out HA.out).mono ?_
        rw [H1.out]
        rintro e w1 ⟨rfl, hB1⟩
        have HW1 : Hid (Below w.heap.size w w1) := hB1
        clear hB1
        go_wp2_with fail
        refine (rfits_walk (HS.out.below HW1.out) (HB.out.below HW1.out)).mono ?_
        rw [H2.out]
        rintro e w2 ⟨rfl, hB2⟩
        go_wp2_with fail
        go_ret2
        exact ⟨_, rfl, World.ownsRow_nil _ _ _ _, below_trans HW1.out hB2⟩
    · have H1 : Hid (fitB S a = false) := Fit.no h1
      clear hall h1
      go_enter Try.func19, Try.ntmps19
      go_wp2_with fail
      refine (rfits_walk HS.out HA.out).mono ?_
      rw [H1.out]
      rintro e w1 ⟨rfl, hB1⟩
      go_wp2_with fail
      go_ret2
      exact ⟨_, rfl, World.ownsRow_nil _ _ _ _, hB1⟩

theorem form_nil (av : Value) (m : Int) (w : World) : Calls Try.prog 10 #[.pointer none, av, .int .i64 m] w fun e w' => e = .returned (.tuple #[.slice none 0 0, .slice none 0 0, .int .i64 2]) ∧ w' = w := by
  go_enter Try.func10, Try.ntmps10
  go_wp2_with fail
  go_ret3
  exact ⟨rfl, rfl⟩
theorem again_nil (av bv : Value) (w : World) : Calls Try.prog 17 #[.pointer none, av, bv] w fun e w' => e = .returned (.tuple #[.slice none 0 0, .int .i64 2]) ∧ w' = w := by
  go_enter Try.func17, Try.ntmps17
  go_wp2_with fail
  go_ret2
  exact ⟨rfl, rfl⟩

end
end Go.Proofs.Ytjkhegekojflhaa
