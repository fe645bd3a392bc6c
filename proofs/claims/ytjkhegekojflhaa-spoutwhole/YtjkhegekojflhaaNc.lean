/- Ends that fit; how many records are left; the records between ends. -/
import Derived.Test.YtjkhegekojflhaaNb
namespace Go.Proofs.Ytjkhegekojflhaa
open Ieee Go.RowKit

def Fit (S : Sc) (l : List Int) : Prop := l.length = S.np ∧ ∀ i, i < l.length → 0 ≤ nth l i ∧ nth l i ≤ (lenS S i : Int)
def fitB (S : Sc) (l : List Int) : Bool := decide (l.length = S.np ∧ ∀ i, i < l.length → 0 ≤ nth l i ∧ nth l i ≤ (lenS S i : Int))
theorem Fit.yes {S : Sc} {l : List Int} (h : Fit S l) : fitB S l = true := decide_eq_true (p := l.length = S.np ∧ ∀ i, i < l.length → 0 ≤ nth l i ∧ nth l i ≤ (lenS S i : Int)) h
theorem Fit.no {S : Sc} {l : List Int} (h : ¬ Fit S l) : fitB S l = false := decide_eq_false (p := l.length = S.np ∧ ∀ i, i < l.length → 0 ≤ nth l i ∧ nth l i ≤ (lenS S i : Int)) h
theorem Fit.of {S : Sc} {l : List Int} (h : fitB S l = true) : Fit S l := of_decide_eq_true (p := l.length = S.np ∧ ∀ i, i < l.length → 0 ≤ nth l i ∧ nth l i ≤ (lenS S i : Int)) h
def leftS (S : Sc) (l : List Int) : Nat → Int
  | 0 => 0
  | k + 1 => leftS S l k + ((lenS S k : Int) - nth l k)
def betS (S : Sc) (a b : List Int) : Nat → List Rcd
  | 0 => []
  | k + 1 => betS S a b k ++ ((S.logs k).drop (nth a k).toNat).take ((nth b k).toNat - (nth a k).toNat)
theorem lenS_at {S : Sc} {k : Nat} (h : k < S.np) : lenS S k = (S.logs k).length := by unfold lenS; rw [if_pos ⟨by omega, by omega⟩]; rfl
theorem logS_at {S : Sc} {k : Nat} (h : k < S.np) : logS S k = S.logs k := by unfold logS; rw [if_pos ⟨by omega, by omega⟩]; rfl
theorem lenS_le {S : Sc} (hok : S.ok) (k : Int) : lenS S k ≤ 256 := by
  unfold lenS
  split
  · exact hok.len _
  · omega
theorem leftS_le {S : Sc} (hok : S.ok) {l : List Int} (hf : Fit S l) : ∀ k, k ≤ l.length → 0 ≤ leftS S l k ∧ leftS S l k ≤ 256 * k
  | 0, _ => by simp [leftS]
  | k + 1, h => by
    have := leftS_le hok hf k (by omega)
    have h2 := hf.2 k (by omega)
    have := lenS_le hok k
    simp only [leftS]; omega
theorem betS_le {S : Sc} (hok : S.ok) (a b : List Int) : ∀ k, (betS S a b k).length ≤ 256 * k
  | 0 => by simp [betS]
  | k + 1 => by
    have := betS_le hok a b k
    have := hok.len k
    simp only [betS, List.length_append, List.length_take, List.length_drop]; omega
theorem betS_ok {S : Sc} (hok : S.ok) (a b : List Int) : ∀ k, ∀ r ∈ betS S a b k, r.ok
  | 0 => by simp [betS]
  | k + 1 => by
    intro r hr
    simp only [betS, List.mem_append] at hr
    rcases hr with hr | hr
    · exact betS_ok hok a b k r hr
    · exact hok.rok k r (List.mem_of_mem_drop (List.mem_of_mem_take hr))

theorem step_app_rv {P : Program} {ops : Array Oper} {o : Oper} {a : Act} {w : World} {K : Act → World → Prop} {Q : Exit → Act → World → Prop} {E : Prop}
    (hg : o.guard = none) (s x : Operand) (t : TypeId) (hop : o.op = Op.call { callee := Callee.builtin Builtin.append, args := #[s, x], argTypes := #[t, t] })
    (base : Nat) (e : TypeId) (h1 : P.underlying t = some (.slice e)) (hinf : (P.info? e).map (fun i => (i.zero, i.size, i.bytes)) = some (some (.agg #[.int .u64 0, .float .f64 0]), 2, 16))
    (v : Value) (n : Nat) (m : List Rcd) (hs : a.eval s = v) (hown : w.ownsRow base e 2 v n (flatR m))
    (y : Value) (l : List Rcd) (hx : a.eval x = y) (hy : Rv w y l) (hn : n + l.length ≤ 1000000) (hb : base ≤ w.heap.size)
    (hK : ∀ v' w', w'.ownsRow base e 2 v' (n + l.length) (flatR (m ++ l)) → w.grownBy w' v.ownBlock → K (a.put o.dst v') w') :
    if Region.wanted o (yielded ops a.tmps) = true then Oper.wp P o a w K Q else E := by
  have hw : Region.wanted o (yielded ops a.tmps) = true := by simp [Region.wanted, hg]
  rw [if_pos hw]
  obtain ⟨i0, hi, hz0, hz1, hz2⟩ := info_partsV hinf
  obtain ⟨⟨ao, c, rfl, hc1, hc2, hnone, hcells⟩, _⟩ := hy
  cases ao with
  | none =>
    obtain rfl := hnone rfl
    have hl0 : l.length = 0 := by omega
    have hl : l = [] := List.eq_nil_of_length_eq_zero hl0
    subst hl
    have hrun := run_append_owned_none (P := P) (w := w) base t o.type e i0 2 h1 hi v n (flatR m) hown
    unfold Oper.wp
    simp [execOp, hop, resolve, invoke, builtin, hs, hx, hrun, Result.andThen]
    exact hK v w (by simpa using hown) ⟨rfl, rfl, rfl, Nat.le_refl _, fun _ _ _ => rfl⟩
  | some p =>
    obtain ⟨v', w', hrun, r1, r2, _, r4⟩ := run_append_own_at (P := P) w base t o.type e i0 (.agg #[.int .u64 0, .float .f64 0]) 2 16 h1 hi hz0 hz1 hz2 rfl (by decide) v n (flatR m) hown p l.length c (flatR l) (flatR_len l) (by
      intro j u hj
      have hjl : j < l.length * 2 := by
        rcases Nat.lt_or_ge j (l.length * 2) with h | h
        · exact h
        · rw [List.getElem?_eq_none (by rw [flatR_len]; exact h)] at hj; cases hj
      obtain ⟨b, off, e1, g0, g1⟩ := hcells (j / 2) (by omega)
      cases e1
      obtain ⟨f0, f1⟩ := flatR_get l (j / 2) (by omega)
      rw [WideShapes.add_plain]
      have hmod : j % 2 = 0 ∨ j % 2 = 1 := by omega
      rcases hmod with hm | hm
      · have e2 : j / 2 * 2 = j := by omega
        rw [e2] at g0
        rw [e2] at f0
        rw [f0] at hj; rw [g0, hj]
      · have e2 : j / 2 * 2 + 1 = j := by omega
        rw [Nat.add_assoc, e2] at g1
        rw [e2] at f1
        rw [f1] at hj; rw [g1, hj]) (fun u hu => flatR_mem hu) (by simp only [maxLen]; omega) (by omega) hb
    unfold Oper.wp
    simp [execOp, hop, resolve, invoke, builtin, hs, hx, hrun, Result.andThen]
    exact hK v' w' (by rw [flatR_append]; exact r1) r2

/-- A piece of a slice of records. -/
theorem cut_piece {w : World} {lo : Option Addr} {n lc X Y : Nat} {l : List Rcd} (h : Rv w (.slice lo n lc) l) (hX : X ≤ Y) (hY : Y ≤ l.length) :
    Rv w (.slice (if lc = X then lo else lo.map (·.add (X * 2))) (Y - X) (lc - X)) ((l.drop X).take (Y - X)) := by
  obtain ⟨⟨ao, c, e, h1, h2, h3, h4⟩, hok⟩ := h
  cases e
  have hlen : ((l.drop X).take (Y - X)).length = Y - X := by simp; omega
  refine ⟨⟨_, lc - X, by rw [hlen], by rw [hlen]; omega, by omega, ?_, fun i hi => ?_⟩, fun r hr => hok r (List.mem_of_mem_drop (List.mem_of_mem_take hr))⟩
  · intro hn
    by_cases hc : lc = X
    · omega
    · rw [if_neg hc] at hn
      cases lo with
      | none => have := h3 rfl; omega
      | some p => cases hn
  · rw [hlen] at hi
    obtain ⟨b, off, e, g0, g1⟩ := h4 (X + i) (by omega)
    subst e
    have hc : ¬ lc = X := by omega
    refine ⟨b, off + X * 2, by rw [if_neg hc, Option.map_some, WideShapes.add_plain], ?_, ?_⟩
    · rw [List.getElem_take, List.getElem_drop, Nat.add_assoc, ← Nat.add_mul]; exact g0
    · rw [List.getElem_take, List.getElem_drop, Nat.add_assoc off, ← Nat.add_mul]; exact g1

section
variable {D : Nat → Prop} {w : World} {v lv av bv : Value} {S : Sc} {l a b : List Int}

set_option maxRecDepth 100000 in
theorem fits_walk (h : Src D w v S) (hl : Nv w lv l) : Calls Try.prog 31 #[v, lv] w fun e w' => e = .returned (.bool (fitB S l)) ∧ Below w.heap.size w w' := by
  have HS : Hid (Src D w v S) := h
  have HA : Hid (Nv w lv l) := hl
  obtain ⟨ao, ca, rfl, hla, _⟩ := hl.form
  have h4 := h.good.np4
  clear hl h
  by_cases hn : l.length = S.np
  · have hln : ((l.length : Int) != (S.np : Int)) = false := by simp [hn]
    have HN : Hid (l.length = S.np) := hn
    clear hn
    go_enter Try.func31, Try.ntmps31
    go_wp2_with (go_at_call 26; refine (parts_walk HS.out).mono ?_; rintro e w9 ⟨rfl, h9⟩; have h9 := h9.symm; subst h9)
    go_loopw [14] (fun iv wr => ∃ k : Nat, k ≤ l.length ∧ iv = .int .i64 k ∧ (∀ i, i < k → 0 ≤ nth l i ∧ nth l i ≤ (lenS S i : Int)) ∧ Below w.heap.size w wr) (fun iv _ => l.length - (intOf iv).toNat)
    case atStart => exact ⟨0, Nat.zero_le _, rfl, fun i hi => by omega, below_same _⟩
    case round =>
      obtain ⟨k, hk, rfl, hall, hB⟩ := hrel
      have HW : Hid (Below w.heap.size w wr) := hB
      clear hB
      have HALL : Hid (∀ i, i < k → 0 ≤ nth l i ∧ nth l i ≤ (lenS S i : Int)) := hall
      clear hall
      by_cases hlt : k < l.length
      · obtain ⟨g, off, rfl, c0⟩ := (HA.out.below HW.out).at hlt
        obtain ⟨x, hx⟩ : ∃ x, x = nth l k := ⟨_, rfl⟩
        rw [← hx] at c0
        have HX : Hid (x = nth l k) := hx
        clear hx
        have hlti : (k : Int) < (l.length : Int) := by omega
        obtain ⟨m, hm⟩ : ∃ m, m = lenS S k := ⟨_, rfl⟩
        have HM : Hid (m = lenS S k) := hm
        clear hm
        by_cases hb : x < 0 ∨ (m : Int) < x
        · have HD : Hid (fitB S l = false) := by
            show _ = _
            refine Fit.no fun h => ?_
            have := h.2 k hlt
            rw [← HX.out, ← HM.out] at this
            omega
          by_cases hx0 : x < 0
          · clear hb
            go_wp2_with fail
            go_ret
            exact ⟨HD.out ▸ rfl, HW.out⟩
          · have hx1 : (m : Int) < x := by omega
            clear hb
            go_wp2_with (go_at_call 29; refine (len_walk (HS.out.below HW.out) k).mono ?_; rw [← HM.out]; rintro e w9 ⟨rfl, h9⟩; have h9 := h9.symm; subst h9)
            go_ret
            exact ⟨HD.out ▸ rfl, HW.out⟩
        · have hx0 : ¬ x < 0 := by omega
          have hx1 : ¬ ((m : Int) < x) := by omega
          clear hb
          go_wp2_with (go_at_call 29; refine (len_walk (HS.out.below HW.out) k).mono ?_; rw [← HM.out]; rintro e w9 ⟨rfl, h9⟩; have h9 := h9.symm; subst h9)
          go_roundw
          case rel =>
            refine ⟨k + 1, by omega, by go_num, fun i hi => ?_, HW.out⟩
            by_cases hik : i = k
            · subst hik; rw [← HX.out, ← HM.out]; omega
            · exact HALL.out i (by omega)
          case measure => simp [intOf]; omega
      · have hnl : ¬ ((k : Int) < (l.length : Int)) := by omega
        have HD : Hid (fitB S l = true) := Fit.yes ⟨HN.out, fun i hi => HALL.out i (by omega)⟩
        go_wp2_with fail
        go_ret
        exact ⟨HD.out ▸ rfl, HW.out⟩
  · have hln : ((l.length : Int) != (S.np : Int)) = true := by simp; omega
    have HD : Hid (fitB S l = false) := Fit.no fun h => hn h.1
    clear hn
    go_enter Try.func31, Try.ntmps31
    go_wp2_with (go_at_call 26; refine (parts_walk HS.out).mono ?_; rintro e w9 ⟨rfl, h9⟩; have h9 := h9.symm; subst h9)
    go_ret
    exact ⟨HD.out ▸ rfl, below_same _⟩

set_option maxRecDepth 100000 in
theorem rfits_walk (h : Rs D w v S) (hl : Nv w lv l) : Calls Try.prog 39 #[v, lv] w fun e w' => e = .returned (.bool (fitB S l)) ∧ Below w.heap.size w w' := by
  have HS : Hid (Rs D w v S) := h
  have HA : Hid (Nv w lv l) := hl
  obtain ⟨ao, ca, rfl, hla, _⟩ := hl.form
  have h4 := h.good.np4
  clear hl h
  by_cases hn : l.length = S.np
  · have hln : ((l.length : Int) != (S.np : Int)) = false := by simp [hn]
    have HN : Hid (l.length = S.np) := hn
    clear hn
    go_enter Try.func39, Try.ntmps39
    go_wp2_with (go_at_call 58; refine (rparts_walk HS.out).mono ?_; rintro e w9 ⟨rfl, h9⟩; have h9 := h9.symm; subst h9)
    go_loopw [5] (fun iv wr => ∃ k : Nat, k ≤ l.length ∧ iv = .int .i64 k ∧ (∀ i, i < k → 0 ≤ nth l i ∧ nth l i ≤ (lenS S i : Int)) ∧ Below w.heap.size w wr) (fun iv _ => l.length - (intOf iv).toNat)
    case atStart => exact ⟨0, Nat.zero_le _, rfl, fun i hi => by omega, below_same _⟩
    case round =>
      obtain ⟨k, hk, rfl, hall, hB⟩ := hrel
      have HALL : Hid (∀ i, i < k → 0 ≤ nth l i ∧ nth l i ≤ (lenS S i : Int)) := hall
      have HW : Hid (Below w.heap.size w wr) := hB
      clear hall hB
      by_cases hlt : k < l.length
      · obtain ⟨g, off, rfl, c0⟩ := (HA.out.below HW.out).at hlt
        obtain ⟨x, hx⟩ : ∃ x, x = nth l k := ⟨_, rfl⟩
        rw [← hx] at c0
        have HX : Hid (x = nth l k) := hx
        clear hx
        have hlti : (k : Int) < (l.length : Int) := by omega
        obtain ⟨m, hm⟩ : ∃ m, m = lenS S k := ⟨_, rfl⟩
        have HM : Hid (m = lenS S k) := hm
        clear hm
        by_cases hb : x < 0 ∨ (m : Int) < x
        · have HD : Hid (fitB S l = false) := by
            show _ = _
            refine Fit.no fun h => ?_
            have := h.2 k hlt
            rw [← HX.out, ← HM.out] at this
            omega
          by_cases hx0 : x < 0
          · clear hb
            go_wp2_with fail
            go_quiet (fail)
            go_wp2_with fail
            go_ret
            exact ⟨HD.out ▸ rfl, below_trans HW.out (below_drewN _ _)⟩
          · have hx1 : (m : Int) < x := by omega
            clear hb
            go_wp2_with fail
            go_quiet ((go_at_call 41; exact Calls.quiet_of_same (HM.out ▸ rlen_walk ((HS.out.below HW.out).below (below_drewN _ _)) k)))
            go_wp2_with fail
            go_ret
            exact ⟨HD.out ▸ rfl, below_trans HW.out (below_drewN _ _)⟩
        · have hx0 : ¬ x < 0 := by omega
          have hx1 : ¬ ((m : Int) < x) := by omega
          clear hb
          go_wp2_with fail
          go_quiet ((go_at_call 41; exact Calls.quiet_of_same (HM.out ▸ rlen_walk ((HS.out.below HW.out).below (below_drewN _ _)) k)))
          go_wp2_with fail
          go_roundw
          case rel =>
            refine ⟨k + 1, by omega, by go_num, fun i hi => ?_, below_trans HW.out (below_drewN _ _)⟩
            by_cases hik : i = k
            · subst hik; rw [← HX.out, ← HM.out]; omega
            · exact HALL.out i (by omega)
          case measure => simp [intOf]; omega
      · have hnl : ¬ ((k : Int) < (l.length : Int)) := by omega
        have HD : Hid (fitB S l = true) := Fit.yes ⟨HN.out, fun i hi => HALL.out i (by omega)⟩
        go_wp2_with fail
        go_ret
        exact ⟨HD.out ▸ rfl, HW.out⟩
  · have hln : ((l.length : Int) != (S.np : Int)) = true := by simp; omega
    have HD : Hid (fitB S l = false) := Fit.no fun h => hn h.1
    clear hn
    go_enter Try.func39, Try.ntmps39
    go_wp2_with (go_at_call 58; refine (rparts_walk HS.out).mono ?_; rintro e w9 ⟨rfl, h9⟩; have h9 := h9.symm; subst h9)
    go_ret
    exact ⟨HD.out ▸ rfl, below_same _⟩

end
end Go.Proofs.Ytjkhegekojflhaa
