/- Deal: the program's. -/
import Derived.Test.YtopjedgknbbgkaaGreatM15
import Derived.Test.YtopjedgknbbgkaaGreatM13
namespace Go.Proofs.YtopjedgknbbgkaaGreat

open Ieee Go.RowKit



def Fit (S : Sc) (l : List Int) : Prop := l.length = S.np ∧ ∀ i, i < l.length → 0 ≤ nth l i ∧ nth l i ≤ (lenS S i : Int)
def fitB (S : Sc) (l : List Int) : Bool := decide (l.length = S.np ∧ ∀ i, i < l.length → 0 ≤ nth l i ∧ nth l i ≤ (lenS S i : Int))
theorem Fit.yes {S : Sc} {l : List Int} (h : Fit S l) : fitB S l = true := decide_eq_true (p := l.length = S.np ∧ ∀ i, i < l.length → 0 ≤ nth l i ∧ nth l i ≤ (lenS S i : Int)) h
theorem Fit.no {S : Sc} {l : List Int} (h : ¬ Fit S l) : fitB S l = false := decide_eq_false (p := l.length = S.np ∧ ∀ i, i < l.length → 0 ≤ nth l i ∧ nth l i ≤ (lenS S i : Int)) h
theorem Fit.of {S : Sc} {l : List Int} (h : fitB S l = true) : Fit S l := of_decide_eq_true (p := l.length = S.np ∧ ∀ i, i < l.length → 0 ≤ nth l i ∧ nth l i ≤ (lenS S i : Int)) h
def leftS (S : Sc) (l : List Int) : Nat → Int
  | 0 => 0
  | k + 1 => leftS S l k + ((lenS S k : Int) - nth l k)
def betS (S : Sc) (a b : List Int) : Nat → List Rcd
  | 0 => []
  | k + 1 => betS S a b k ++ ((S.logs k).drop (nth a k).toNat).take ((nth b k).toNat - (nth a k).toNat)
theorem lenS_at {S : Sc} {k : Nat} (h : k < S.np) : lenS S k = (S.logs k).length := by unfold lenS; rw [if_pos ⟨by omega, by omega⟩]; rfl
theorem logS_at {S : Sc} {k : Nat} (h : k < S.np) : logS S k = S.logs k := by unfold logS; rw [if_pos ⟨by omega, by omega⟩]; rfl
theorem lenS_le {S : Sc} (hok : S.ok) (k : Int) : lenS S k ≤ 256 := by
  unfold lenS
  split
  · exact hok.len _
  · omega
theorem leftS_le {S : Sc} (hok : S.ok) {l : List Int} (hf : Fit S l) : ∀ k, k ≤ l.length → 0 ≤ leftS S l k ∧ leftS S l k ≤ 256 * k
  | 0, _ => by simp [leftS]
  | k + 1, h => by
    have := leftS_le hok hf k (by omega)
    have h2 := hf.2 k (by omega)
    have := lenS_le hok k
    simp only [leftS]; omega
theorem betS_le {S : Sc} (hok : S.ok) (a b : List Int) : ∀ k, (betS S a b k).length ≤ 256 * k
  | 0 => by simp [betS]
  | k + 1 => by
    have := betS_le hok a b k
    have := hok.len k
    simp only [betS, List.length_append, List.length_take, List.length_drop]; omega
theorem betS_ok {S : Sc} (hok : S.ok) (a b : List Int) : ∀ k, ∀ r ∈ betS S a b k, r.ok
  | 0 => by simp [betS]
  | k + 1 => by
    intro r hr
    simp only [betS, List.mem_append] at hr
    rcases hr with hr | hr
    · exact betS_ok hok a b k r hr
    · exact hok.rok k r (List.mem_of_mem_drop (List.mem_of_mem_take hr))


theorem step_app_rv {P : Program} {ops : Array Oper} {o : Oper} {a : Act} {w : World} {K : Act → World → Prop} {Q : Exit → Act → World → Prop} {E : Prop}
    (hg : o.guard = none) (s x : Operand) (t : TypeId) (hop : o.op = Op.call { callee := Callee.builtin Builtin.append, args := #[s, x], argTypes := #[t, t] })
    (base : Nat) (e : TypeId) (h1 : P.underlying t = some (.slice e)) (hinf : (P.info? e).map (fun i => (i.zero, i.size, i.bytes)) = some (some (.agg #[.int .u64 0, .float .f64 0]), 2, 16))
    (v : Value) (n : Nat) (m : List Rcd) (hs : a.eval s = v) (hown : w.ownsRow base e 2 v n (flatR m))
    (y : Value) (l : List Rcd) (hx : a.eval x = y) (hy : Rv w y l) (hn : n + l.length ≤ 1000000) (hb : base ≤ w.heap.size)
    (hK : ∀ v' w', w'.ownsRow base e 2 v' (n + l.length) (flatR (m ++ l)) → w.grownBy w' v.ownBlock → K (a.put o.dst v') w') :
    if Region.wanted o (yielded ops a.tmps) = true then Oper.wp P o a w K Q else E := by
  have hw : Region.wanted o (yielded ops a.tmps) = true := by simp [Region.wanted, hg]
  rw [if_pos hw]
  obtain ⟨i0, hi, hz0, hz1, hz2⟩ := info_partsV hinf
  obtain ⟨⟨ao, c, rfl, hc1, hc2, hnone, hcells⟩, _⟩ := hy
  cases ao with
  | none =>
    obtain rfl := hnone rfl
    have hl0 : l.length = 0 := by omega
    have hl : l = [] := List.eq_nil_of_length_eq_zero hl0
    subst hl
    have hrun := run_append_owned_none (P := P) (w := w) base t o.type e i0 2 h1 hi v n (flatR m) hown
    unfold Oper.wp
    simp [execOp, hop, resolve, invoke, builtin, hs, hx, hrun, Result.andThen]
    exact hK v w (by simpa using hown) ⟨rfl, rfl, rfl, Nat.le_refl _, fun _ _ _ => rfl⟩
  | some p =>
    obtain ⟨v', w', hrun, r1, r2, _, r4⟩ := run_append_own_at (P := P) w base t o.type e i0 (.agg #[.int .u64 0, .float .f64 0]) 2 16 h1 hi hz0 hz1 hz2 rfl (by decide) v n (flatR m) hown p l.length c (flatR l) (flatR_len l) (by
      intro j u hj
      have hjl : j < l.length * 2 := by
        rcases Nat.lt_or_ge j (l.length * 2) with h | h
        · exact h
        · rw [List.getElem?_eq_none (by rw [flatR_len]; exact h)] at hj; cases hj
      obtain ⟨b, off, e1, g0, g1⟩ := hcells (j / 2) (by omega)
      cases e1
      obtain ⟨f0, f1⟩ := flatR_get l (j / 2) (by omega)
      rw [WideShapes.add_plain]
      have hmod : j % 2 = 0 ∨ j % 2 = 1 := by omega
      rcases hmod with hm | hm
      · have e2 : j / 2 * 2 = j := by omega
        rw [e2] at g0
        rw [e2] at f0
        rw [f0] at hj; rw [g0, hj]
      · have e2 : j / 2 * 2 + 1 = j := by omega
        rw [Nat.add_assoc, e2] at g1
        rw [e2] at f1
        rw [f1] at hj; rw [g1, hj]) (fun u hu => flatR_mem hu) (by simp only [maxLen]; omega) (by omega) hb
    unfold Oper.wp
    simp [execOp, hop, resolve, invoke, builtin, hs, hx, hrun, Result.andThen]
    exact hK v' w' (by rw [flatR_append]; exact r1) r2


/-- A piece of a slice of records. -/
theorem cut_piece {w : World} {lo : Option Addr} {n lc X Y : Nat} {l : List Rcd} (h : Rv w (.slice lo n lc) l) (hX : X ≤ Y) (hY : Y ≤ l.length) :
    Rv w (.slice (if lc = X then lo else lo.map (·.add (X * 2))) (Y - X) (lc - X)) ((l.drop X).take (Y - X)) := by
  obtain ⟨⟨ao, c, e, h1, h2, h3, h4⟩, hok⟩ := h
  cases e
  have hlen : ((l.drop X).take (Y - X)).length = Y - X := by simp; omega
  refine ⟨⟨_, lc - X, by rw [hlen], by rw [hlen]; omega, by omega, ?_, fun i hi => ?_⟩, fun r hr => hok r (List.mem_of_mem_drop (List.mem_of_mem_take hr))⟩
  · intro hn
    by_cases hc : lc = X
    · omega
    · rw [if_neg hc] at hn
      cases lo with
      | none => have := h3 rfl; omega
      | some p => cases hn
  · rw [hlen] at hi
    obtain ⟨b, off, e, g0, g1⟩ := h4 (X + i) (by omega)
    subst e
    have hc : ¬ lc = X := by omega
    refine ⟨b, off + X * 2, by rw [if_neg hc, Option.map_some, WideShapes.add_plain], ?_, ?_⟩
    · rw [List.getElem_take, List.getElem_drop, Nat.add_assoc, ← Nat.add_mul]; exact g0
    · rw [List.getElem_take, List.getElem_drop, Nat.add_assoc off, ← Nat.add_mul]; exact g1


section

variable {D : Nat → Prop} {w : World} {v lv av bv : Value} {S : Sc} {l a b : List Int}



set_option maxRecDepth 100000 in
theorem fits_walk (h : Src D w v S) (hl : Nv w lv l) : Calls Tryz.prog 34 #[v, lv] w fun e w' => e = .returned (.bool (fitB S l)) ∧ Below w.heap.size w w' := by
  have HS : Hid (Src D w v S) := h
  have HA : Hid (Nv w lv l) := hl
  obtain ⟨ao, ca, rfl, hla, _⟩ := hl.form
  have h4 := h.good.np4
  clear hl h
  by_cases hn : l.length = S.np
  · have hln : ((l.length : Int) != (S.np : Int)) = false := by simp [hn]
    have HN : Hid (l.length = S.np) := hn
    clear hn
    go_enter Tryz.func34, Tryz.ntmps34
    go_wp2_with (go_at_call 63; refine (parts_walkS HS.out).mono ?_; rintro e w9 ⟨rfl, h9⟩; have h9 := h9.symm; subst h9)
    go_loopw [14] (fun iv wr => ∃ k : Nat, k ≤ l.length ∧ iv = .int .i64 k ∧ (∀ i, i < k → 0 ≤ nth l i ∧ nth l i ≤ (lenS S i : Int)) ∧ Below w.heap.size w wr) (fun iv _ => l.length - (intOf iv).toNat)
    case atStart => exact ⟨0, Nat.zero_le _, rfl, fun i hi => by omega, below_same _⟩
    case round =>
      obtain ⟨k, hk, rfl, hall, hB⟩ := hrel
      have HW : Hid (Below w.heap.size w wr) := hB
      clear hB
      have HALL : Hid (∀ i, i < k → 0 ≤ nth l i ∧ nth l i ≤ (lenS S i : Int)) := hall
      clear hall
      by_cases hlt : k < l.length
      · obtain ⟨g, off, rfl, c0⟩ := (HA.out.below HW.out).at hlt
        obtain ⟨x, hx⟩ : ∃ x, x = nth l k := ⟨_, rfl⟩
        rw [← hx] at c0
        have HX : Hid (x = nth l k) := hx
        clear hx
        have hlti : (k : Int) < (l.length : Int) := by omega
        obtain ⟨m, hm⟩ : ∃ m, m = lenS S k := ⟨_, rfl⟩
        have HM : Hid (m = lenS S k) := hm
        clear hm
        by_cases hb : x < 0 ∨ (m : Int) < x
        · have HD : Hid (fitB S l = false) := by
            show _ = _
            refine Fit.no fun h => ?_
            have := h.2 k hlt
            rw [← HX.out, ← HM.out] at this
            omega
          by_cases hx0 : x < 0
          · clear hb
            go_wp2_with fail
            go_ret
            exact ⟨HD.out ▸ rfl, HW.out⟩
          · have hx1 : (m : Int) < x := by omega
            clear hb
            go_wp2_with (go_at_call 29; refine (len_walk (HS.out.below HW.out) k).mono ?_; rw [← HM.out]; rintro e w9 ⟨rfl, h9⟩; have h9 := h9.symm; subst h9)
            go_ret
            exact ⟨HD.out ▸ rfl, HW.out⟩
        · have hx0 : ¬ x < 0 := by omega
          have hx1 : ¬ ((m : Int) < x) := by omega
          clear hb
          go_wp2_with (go_at_call 29; refine (len_walk (HS.out.below HW.out) k).mono ?_; rw [← HM.out]; rintro e w9 ⟨rfl, h9⟩; have h9 := h9.symm; subst h9)
          go_roundw
          case rel =>
            refine ⟨k + 1, by omega, by go_num, fun i hi => ?_, HW.out⟩
            by_cases hik : i = k
            · subst hik; rw [← HX.out, ← HM.out]; omega
            · exact HALL.out i (by omega)
          case measure => simp [intOf]; omega
      · have hnl : ¬ ((k : Int) < (l.length : Int)) := by omega
        have HD : Hid (fitB S l = true) := Fit.yes ⟨HN.out, fun i hi => HALL.out i (by omega)⟩
        go_wp2_with fail
        go_ret
        exact ⟨HD.out ▸ rfl, HW.out⟩
  · have hln : ((l.length : Int) != (S.np : Int)) = true := by simp; omega
    have HD : Hid (fitB S l = false) := Fit.no fun h => hn h.1
    clear hn
    go_enter Tryz.func34, Tryz.ntmps34
    go_wp2_with (go_at_call 63; refine (parts_walkS HS.out).mono ?_; rintro e w9 ⟨rfl, h9⟩; have h9 := h9.symm; subst h9)
    go_ret
    exact ⟨HD.out ▸ rfl, below_same _⟩




end

end Go.Proofs.YtopjedgknbbgkaaGreat

namespace Go.Proofs.YtopjedgknbbgkaaGreat

open Ieee Go.RowKit



section

variable {D : Nat → Prop} {w : World} {v lv av bv : Value} {S : Sc} {l a b : List Int}



/-- A loop that gathers records between ends: round k, what is gathered, the world. -/
def Bw (w : World) (S : Sc) (a b : List Int) (rv iv : Value) (wr : World) : Prop :=
  ∃ k : Nat, k ≤ a.length ∧ iv = .int .i64 k ∧ wr.ownsRow w.heap.size 53 2 rv (betS S a b k).length (flatR (betS S a b k)) ∧ Below w.heap.size w wr


theorem own_below {w w' : World} {base e s n : Nat} {v : Value} {xs : List Value} (h : w.ownsRow base e s v n xs) (hb : Below w.heap.size w w') : w'.ownsRow base e s v n xs := row_keep h (fun x hx => hb.block x (h.lt x hx).2)


theorem bw_step {w' : World} {k : Nat} {rv : Value} {n : Nat} (hlt : k < a.length) (ho : w'.ownsRow w.heap.size 53 2 rv n (flatR (betS S a b k ++ ((S.logs k).drop (nth a k).toNat).take ((nth b k).toNat - (nth a k).toNat)))) (hB : Below w.heap.size w w') :
    Bw w S a b rv (.int .i64 ((k : Int) + 1)) w' := by
  refine ⟨k + 1, hlt, by simp, ?_, hB⟩
  have hn : n = (betS S a b (k + 1)).length := by have := ho.1; rw [flatR_len] at this; simp only [betS]; omega
  rw [← hn]
  exact ho


set_option maxRecDepth 100000 in
set_option maxHeartbeats 2000000 in
theorem between_walk (h : Src D w v S) (ha : Nv w av a) (hb : Nv w bv b) (hfa : Fit S a) (hfb : Fit S b) (hf : Fwd a b) :
    Calls Tryz.prog 37 #[v, av, bv] w fun e w' => ∃ r, e = .returned r ∧ w'.ownsRow w.heap.size 53 2 r (betS S a b a.length).length (flatR (betS S a b a.length)) ∧ Below w.heap.size w w' := by
  have HS : Hid (Src D w v S) := h
  have HA : Hid (Nv w av a) := ha
  have HB : Hid (Nv w bv b) := hb
  have HFA : Hid (Fit S a) := hfa
  have HFB : Hid (Fit S b) := hfb
  have HF : Hid (Fwd a b) := hf
  obtain ⟨ao, ca, rfl, hla, _⟩ := ha.form
  obtain ⟨bo, cb, rfl, hlb, _⟩ := hb.form
  have HK : Hid S.ok := h.good
  clear ha hb h hfa hfb hf
  go_enter Tryz.func37, Tryz.ntmps37
  go_wp2_with fail
  go_loopw [7, 11] (fun rv iv wr => Bw w S a b rv iv wr) (fun _ iv _ => a.length - (intOf iv).toNat)
  case atStart => exact ⟨0, Nat.zero_le _, rfl, World.ownsRow_nil _ _ _ _, below_same _⟩
  case round =>
    obtain ⟨k, hk, rfl, hO, hB⟩ := hrel
    have HW : Hid (Below w.heap.size w wr) := hB
    have HO : Hid (wr.ownsRow w.heap.size 53 2 u7 (betS S a b k).length (flatR (betS S a b k))) := hO
    clear hB hO
    by_cases hlt : k < a.length
    · have hltb : k < b.length := by have := HF.out.1; omega
      have hkn : k < S.np := by have := HFA.out.1; omega
      obtain ⟨g, off, rfl, c0⟩ := HA.out.at hlt
      obtain ⟨d, doff, rfl, d0⟩ := HB.out.at hltb
      obtain ⟨X, hX⟩ : ∃ X : Nat, (X : Int) = nth a k := ⟨(nth a k).toNat, by have := HFA.out.2 k hlt; omega⟩
      obtain ⟨Y, hY⟩ : ∃ Y : Nat, (Y : Int) = nth b k := ⟨(nth b k).toNat, by have := HFB.out.2 k hltb; omega⟩
      rw [← hX] at c0
      rw [← hY] at d0
      have hXY : X ≤ Y := by have := HF.out.2 k hlt; omega
      have hYn : Y ≤ (S.logs k).length := by have := (HFB.out.2 k hltb).2; rw [lenS_at hkn] at this; omega
      have HXY : Hid (X ≤ Y ∧ Y ≤ (S.logs k).length) := ⟨hXY, hYn⟩
      have HX : Hid ((X : Int) = nth a k) := hX
      have HY : Hid ((Y : Int) = nth b k) := hY
      have HLG : Hid (logS S k = S.logs k) := logS_at hkn
      have hl256 : (S.logs k).length ≤ 256 := HK.out.len k
      have hlti : (k : Int) < (a.length : Int) := by omega
      have hltbi : (k : Int) < (b.length : Int) := by omega
      have hXYi : (X : Int) ≤ (Y : Int) := by omega
      have j0 : ∀ wx, Below w.heap.size w wx → wx.cell? ⟨g, off + k, none⟩ = some (.int .i64 (X : Int)) := fun wx hb => by rw [hb.cell (p := ⟨g, off + k, none⟩) (cell_lt c0)]; exact c0
      have j1 : ∀ wx, Below w.heap.size w wx → wx.cell? ⟨d, doff + k, none⟩ = some (.int .i64 (Y : Int)) := fun wx hb => by rw [hb.cell (p := ⟨d, doff + k, none⟩) (cell_lt d0)]; exact d0
      have HBL : Hid ((betS S a b k).length ≤ 4 * 256) := by show _ ≤ _; have := betS_le HK.out a b k; have := HK.out.np4; omega
      have hSd : Below w.heap.size w wr.drew := HW.out.drew
      clear c0 d0 hX hY hXY hYn
      go_wp2_with fail
      go_region_held3 (fun wx => Below w.heap.size w wx) (assumption)
        (first
          | (go_at_call 64; refine (log_walk (HS.out.below (by assumption)) k).mono ?_; rw [HLG.out]; rintro e w5 ⟨lr, rfl, hlr, hB5⟩; have HR5 : Hid (Rv w5 lr (S.logs k)) := own_rv hlr (HK.out.rok k); obtain ⟨lo, lc, hlv, hnc, _⟩ := row_form hlr; subst hlv; clear hlr; have hYc : (Y : Int) ≤ (lc : Int) := (by have := HXY.out; omega); have hS5 : Below w.heap.size w w5 := below_trans (by assumption) hB5; have HO5 : Hid (w5.ownsRow w.heap.size 53 2 u7 (betS S a b k).length (flatR (betS S a b k))) := own_below HO.out (below_trans (below_drewN _ _) hB5))
          | (refine step_app_rv rfl (.tmp 14) (.tmp 26) 25 rfl w.heap.size 53 Tryz.underlying25 info_rec u7 _ (betS S a b k) (by simp [Act.eval]) HO5.out _ (((S.logs k).drop X).take (Y - X)) (by simp [Act.eval]) (cut_piece HR5.out HXY.out.1 HXY.out.2) (by (have := HBL.out); simp; omega) hS5.size ?_; intro v' w7 g1 g2; have hS7 : Below w.heap.size w w7 := hS5.grown g2 hS5.size (fun x hx => (HO5.out.lt x hx).1)))
      all_goals go_wp2_with fail
      all_goals go_roundw
      all_goals first
        | exact bw_step hlt (by rw [← HX.out, ← HY.out]; exact g1) hS7
        | (simp [intOf]; omega)
    · have hke : k = a.length := by omega
      have hnl : ¬ ((k : Int) < (a.length : Int)) := by omega
      have HKE : Hid (k = a.length) := hke
      clear hke
      go_wp2_with fail
      go_ret
      exact ⟨u7, rfl, HKE.out ▸ HO.out, HW.out⟩




theorem left_stepS {k : Nat} {L x : Int} {m : Nat} (hL : L = leftS S l k) (hx : x = nth l k) (hm : m = lenS S k) : L + ((m : Int) - x) = leftS S l (k + 1) := by
  subst hL hx hm; rfl


def leftI (S : Sc) (l : List Int) : Int := if fitB S l = true then 0 else 70
def leftN (S : Sc) (l : List Int) : Int := if fitB S l = true then leftS S l l.length else 0








end

end Go.Proofs.YtopjedgknbbgkaaGreat

namespace Go.Proofs.YtopjedgknbbgkaaGreat

open Ieee Go.RowKit



def endS (S : Sc) (a : List Int) (m : Int) (p : Nat) : Int := if upS S p then min (nth a p + m) (lenS S p) else nth a p
def mixT (S : Sc) (a : List Int) (m : Int) (k : Nat) : List Int := (List.range a.length).map fun p => if p < k then endS S a m p else nth a p
def formT (S : Sc) (a : List Int) (m : Int) : List Int := mixT S a m a.length
def formI (S : Sc) (a : List Int) (m : Int) : Int := if m < 1 ∨ 16 < m then 1 else if fitB S a = true then 0 else 70
def formL (S : Sc) (a : List Int) (m : Int) : List Int := if formI S a m = 0 then formT S a m else []
def formR (S : Sc) (a : List Int) (m : Int) : List Rcd := if formI S a m = 0 then betS S a (formT S a m) a.length else []
def againB (S : Sc) (a b : List Int) : Bool := fitB S a && fitB S b && fwdB a b
theorem again_yes {S : Sc} {a b : List Int} (h : Fit S a ∧ Fit S b ∧ Fwd a b) : againB S a b = true := by unfold againB; rw [h.1.yes, h.2.1.yes, h.2.2.yes]; rfl
theorem again_of {S : Sc} {a b : List Int} (h : againB S a b = true) : Fit S a ∧ Fit S b ∧ Fwd a b := by
  unfold againB at h
  rw [Bool.and_eq_true, Bool.and_eq_true] at h
  exact ⟨Fit.of h.1.1, Fit.of h.1.2, Fwd.of h.2⟩
def againI (S : Sc) (a b : List Int) : Int := if againB S a b = true then 0 else 70
def againR (S : Sc) (a b : List Int) : List Rcd := if againB S a b = true then betS S a b a.length else []


theorem mix_len (S : Sc) (a : List Int) (m : Int) (k : Nat) : (mixT S a m k).length = a.length := by simp [mixT]
theorem mix_nth (S : Sc) (a : List Int) (m : Int) (k : Nat) {i : Nat} (hi : i < a.length) : nth (mixT S a m k) i = if i < k then endS S a m i else nth a i := by
  rw [nth_at (by rw [mix_len]; exact hi)]
  simp [mixT]
theorem mix_zero (S : Sc) (a : List Int) (m : Int) : mixT S a m 0 = a := by
  refine nth_ext (mix_len _ _ _ _) fun i hi => ?_
  rw [mix_len] at hi
  rw [mix_nth _ _ _ _ hi, if_neg (by omega)]
theorem mix_set (S : Sc) (a : List Int) (m : Int) (k : Nat) : (mixT S a m k).set k (endS S a m k) = mixT S a m (k + 1) := by
  refine nth_ext (by simp [mix_len]) fun i hi => ?_
  have hl : i < a.length := by simpa [mix_len] using hi
  rw [mix_nth _ _ _ _ hl, nth_at hi]
  by_cases hik : k = i
  · subst hik
    rw [List.getElem_set_self, if_pos (by omega)]
  · rw [List.getElem_set_ne hik, ← nth_at (by rw [mix_len]; exact hl), mix_nth _ _ _ _ hl]
    by_cases h : i < k
    · rw [if_pos h, if_pos (by omega)]
    · rw [if_neg h, if_neg (by omega)]
theorem mix_same (S : Sc) (a : List Int) (m : Int) {k : Nat} (hk : endS S a m k = nth a k) : mixT S a m k = mixT S a m (k + 1) := by
  refine nth_ext (by simp [mix_len]) fun i hi => ?_
  rw [mix_len] at hi
  rw [mix_nth _ _ _ _ hi, mix_nth _ _ _ _ hi]
  by_cases hik : i = k
  · subst hik; rw [if_neg (by omega), if_pos (by omega), hk]
  · by_cases h : i < k
    · rw [if_pos h, if_pos (by omega)]
    · rw [if_neg h, if_neg (by omega)]
theorem form_len (S : Sc) (a : List Int) (m : Int) : (formT S a m).length = a.length := mix_len _ _ _ _
theorem form_nth (S : Sc) (a : List Int) (m : Int) {i : Nat} (hi : i < a.length) : nth (formT S a m) i = endS S a m i := by
  unfold formT; rw [mix_nth _ _ _ _ hi, if_pos hi]
theorem end_bound {S : Sc} {a : List Int} {m : Int} (hf : Fit S a) (hm : 1 ≤ m) {i : Nat} (hi : i < a.length) : nth a i ≤ endS S a m i ∧ endS S a m i ≤ lenS S i := by
  have := hf.2 i hi
  unfold endS
  split <;> omega
theorem form_fit {S : Sc} {a : List Int} {m : Int} (hf : Fit S a) (hm : 1 ≤ m) : Fit S (formT S a m) := by
  refine ⟨by rw [form_len]; exact hf.1, fun i hi => ?_⟩
  rw [form_len] at hi
  rw [form_nth _ _ _ hi]
  have := hf.2 i hi
  have := end_bound hf hm hi
  omega
theorem form_fwd {S : Sc} {a : List Int} {m : Int} (hf : Fit S a) (hm : 1 ≤ m) : Fwd a (formT S a m) := by
  refine ⟨(form_len _ _ _).symm, fun i hi => ?_⟩
  rw [form_nth _ _ _ hi]
  exact (end_bound hf hm hi).1
theorem fit_in64 {S : Sc} {a : List Int} (hok : S.ok) (hf : Fit S a) : In64 a := by
  intro x hx
  obtain ⟨i, hi, rfl⟩ := List.getElem_of_mem hx
  have := hf.2 i hi
  rw [nth_at hi] at this
  have := lenS_le hok i
  omega
theorem mix_in64 {S : Sc} {a : List Int} {m : Int} (hok : S.ok) (hf : Fit S a) (hm : 1 ≤ m) (k : Nat) : In64 (mixT S a m k) := by
  intro x hx
  obtain ⟨i, hi, rfl⟩ := List.getElem_of_mem hx
  rw [← nth_at hi]
  rw [mix_len] at hi
  rw [mix_nth _ _ _ _ hi]
  have h1 := hf.2 i hi
  have h2 := end_bound hf hm hi
  have := lenS_le hok i
  split <;> omega
theorem form_in64 {S : Sc} {a : List Int} {m : Int} (hok : S.ok) (hf : Fit S a) (hm : 1 ≤ m) : In64 (formT S a m) := mix_in64 hok hf hm _
theorem mix_snoc (S : Sc) (a : List Int) (m : Int) {k : Nat} (hk : k < a.length) : (formT S a m).take k ++ [endS S a m k] = (formT S a m).take (k + 1) := by
  rw [List.take_succ_eq_append_getElem (by rw [form_len]; exact hk), ← nth_at (by rw [form_len]; exact hk), form_nth _ _ _ hk]


section

variable {D : Nat → Prop} {w : World} {v av bv : Value} {S : Sc} {a b : List Int} {m : Int}



/-- What Form answers. -/
def Fo (w : World) (S : Sc) (a : List Int) (m : Int) (e : Ending) (w' : World) : Prop :=
  ∃ tv rv, e = .returned (.tuple #[tv, rv, .int .i64 (formI S a m)]) ∧ w'.ownsRow w.heap.size 3 1 tv (formL S a m).length (cellsN (formL S a m)) ∧ w'.ownsRow w.heap.size 53 2 rv (formR S a m).length (flatR (formR S a m)) ∧
    (∀ x, tv.ownBlock = some x → rv.ownBlock ≠ some x) ∧ Below w.heap.size w w'
theorem fo_bad {w' : World} {c : Int} (h : formI S a m = c) (hc : c ≠ 0) (hB : Below w.heap.size w w') : Fo w S a m (.returned (.tuple #[.slice none 0 0, .slice none 0 0, .int .i64 c])) w' := by
  subst h
  refine ⟨_, _, rfl, ?_, ?_, fun x hx => by simp [Value.ownBlock] at hx, hB⟩
  · unfold formL; rw [if_neg hc]; exact World.ownsRow_nil _ _ _ _
  · unfold formR; rw [if_neg hc]; exact World.ownsRow_nil _ _ _ _


set_option maxRecDepth 100000 in
set_option maxHeartbeats 4000000 in
theorem form_walk (h : Src D w v S) (ha : Nv w av a) :
    Calls Tryz.prog 8 #[v, av, .int .i64 m] w fun e w' => Fo w S a m e w' := by
  have HS : Hid (Src D w v S) := h
  have HA : Hid (Nv w av a) := ha
  have HK : Hid S.ok := h.good
  obtain ⟨ao, ca, rfl, hla, _⟩ := ha.form
  have hv : ∃ sb, v = .pointer (some ⟨sb, 0, none⟩) := by obtain ⟨sb, _, _, _, _, e, _⟩ := h; exact ⟨sb, e⟩
  obtain ⟨sb, rfl⟩ := hv
  clear h ha
  by_cases hm : m < 1 ∨ 16 < m
  · have HI : Hid (formI S a m = 1) := by show _ = _; unfold formI; rw [if_pos hm]
    by_cases hm1 : m < 1
    · clear hm
      go_enter Tryz.func8, Tryz.ntmps8
      go_wp2_with fail
      go_ret3
      exact fo_bad HI.out (by omega) (below_same _)
    · have hm2 : 16 < m := by omega
      clear hm
      go_enter Tryz.func8, Tryz.ntmps8
      go_wp2_with fail
      go_ret3
      exact fo_bad HI.out (by omega) (below_same _)
  · have hm1 : ¬ m < 1 := by omega
    have hm2 : ¬ 16 < m := by omega
    by_cases hf : Fit S a
    · have HI : Hid (formI S a m = 0) := by show _ = _; unfold formI; rw [if_neg hm, if_pos hf.yes]
      have HF : Hid (Fit S a) := hf
      have HD : Hid (fitB S a = true) := Fit.yes hf
      have hm1' : 1 ≤ m := by omega
      have hm2' : m ≤ 16 := by omega
      have hla4 : a.length ≤ 4 := by have := hf.1; have := HK.out.np4; omega
      have hla1 : 1 ≤ a.length := by have := hf.1; have := HK.out.np1; omega
      clear hf hm
      go_enter Tryz.func8, Tryz.ntmps8
      go_wp2_with fail
      refine (fits_walk HS.out HA.out).mono ?_
      rw [HD.out]
      rintro e w1 ⟨rfl, hB1⟩
      have HW1 : Hid (Below w.heap.size w w1) := hB1
      clear hB1
      go_wp2_with fail
      refine (cloneN_walk (HA.out.below HW1.out) (by omega)).mono ?_
      rintro e w2 ⟨tv, rfl, ht, hB2⟩
      have HW2 : Hid (Below w.heap.size w w2) := below_trans HW1.out hB2
      have hgc : ∃ g2 cap2, tv = .slice (some ⟨g2, 0, none⟩) a.length cap2 := by
        rcases ht.2 with ⟨_, h0⟩ | ⟨g2, cap2, cur, e, _⟩
        · omega
        · exact ⟨g2, cap2, e⟩
      obtain ⟨g2, cap2, rfl⟩ := hgc
      obtain ⟨hz, hg2, _⟩ := own_zw ht
      have HZ : Hid (Zw w2 g2 cap2 (mixT S a m 0)) := by rw [mix_zero]; exact hz
      have HG : Hid (w.heap.size ≤ g2) := Nat.le_trans HW1.out.size hg2
      clear hz hg2 ht hB2
      go_wp2_with fail
      go_loopw [27] (fun iv wr => ∃ k : Nat, k ≤ a.length ∧ iv = .int .i64 k ∧ Zw wr g2 cap2 (mixT S a m k) ∧ Below w.heap.size w wr) (fun iv _ => a.length - (intOf iv).toNat)
      case atStart => exact ⟨0, Nat.zero_le _, rfl, HZ.out, HW2.out⟩
      case round =>
        obtain ⟨k, hk, rfl, hZ, hB⟩ := hrel
        have HZK : Hid (Zw wr g2 cap2 (mixT S a m k)) := hZ
        have HW : Hid (Below w.heap.size w wr) := hB
        clear hZ hB
        by_cases hlt : k < a.length
        · have hlti : (k : Int) < (a.length : Int) := by omega
          cases hup : upS S k
          · have HE : Hid (mixT S a m k = mixT S a m (k + 1)) := mix_same S a m (by unfold endS; rw [hup]; rfl)
            have HU : Hid (upS S k = false) := hup
            clear hup
            go_wp2_with (go_at_call 36; refine (up_walk (HS.out.below HW.out) k).mono ?_; rw [HU.out]; rintro e w9 ⟨rfl, h9⟩; have h9 := h9.symm; subst h9)
            go_roundw
            case rel => exact ⟨k + 1, by omega, by go_num, HE.out ▸ HZK.out, HW.out⟩
            case measure => simp [intOf]; omega
          · have HU : Hid (upS S k = true) := hup
            obtain ⟨g, off, rfl, c0⟩ := HA.out.at hlt
            obtain ⟨x, hx⟩ : ∃ x, x = nth a k := ⟨_, rfl⟩
            rw [← hx] at c0
            obtain ⟨n, hn⟩ : ∃ n, n = lenS S k := ⟨_, rfl⟩
            have HN : Hid (n = lenS S k) := hn
            have hxb := HF.out.2 k hlt
            rw [← hx, ← hn] at hxb
            obtain ⟨hx0, hxn⟩ := hxb
            have hn256 : n ≤ 256 := by rw [hn]; exact lenS_le HK.out _
            obtain ⟨z, hz⟩ : ∃ z : Int, (if (n : Int) < x + m then (n : Int) else x + m) = z := ⟨_, rfl⟩
            have HE : Hid (endS S a m k = z) := by show _ = _; unfold endS; rw [hup, if_pos rfl, ← hx, ← hn, ← hz]; split <;> omega
            have r1 : IntKind.i64.wrap (x + m) = x + m := wrapU (by omega) (by omega)
            have j0 : ∀ wx, Below w.heap.size w wx → wx.cell? ⟨g, off + k, none⟩ = some (.int .i64 x) := fun wx hb => by rw [hb.cell (p := ⟨g, off + k, none⟩) (cell_lt c0)]; exact c0
            have d0 : wr.cell? ⟨g2, k, none⟩ = some (.int .i64 (nth (mixT S a m k) k)) := HZK.out.cell (by rw [mix_len]; exact hlt)
            have d1 : wr.frozen? ⟨g2, k, none⟩ = false := HZK.out.soft k
            have hSd : Below w.heap.size w wr.drew := HW.out.drew
            clear c0 hx hn hup
            go_wp2_with (go_at_call 36; refine (up_walk (HS.out.below HW.out) k).mono ?_; rw [HU.out]; rintro e w9 ⟨rfl, h9⟩; have h9 := h9.symm; subst h9)
            go_region_held3 (fun wx => Below w.heap.size w wx) (first | assumption | exact (HW.out.setCell (p := ⟨g2, k, none⟩) HG.out _).drew)
              (first
                | (go_at_call 29; refine (len_walk (HS.out.below (by assumption)) k).mono ?_; rw [← HN.out]; rintro e w9 ⟨rfl, h9⟩; have h9 := h9.symm; subst h9))
            all_goals go_wp2_with fail
            all_goals go_roundw
            all_goals first
              | exact ⟨k + 1, by omega, by go_num, by rw [← mix_set, HE.out]; exact HZK.out.set (by rw [mix_len]; exact hlt) z, (HW.out.setCell (p := ⟨g2, k, none⟩) HG.out _).drew⟩
              | (simp [intOf]; omega)
        · have hke : k = a.length := by omega
          have hnl : ¬ ((k : Int) < (a.length : Int)) := by omega
          subst hke
          have HNT : Hid (Nv wr (.slice (some ⟨g2, 0, none⟩) a.length cap2) (formT S a m)) := by
            have := HZK.out.nv (mix_in64 HK.out HF.out hm1' _)
            rw [mix_len] at this
            exact this
          go_wp2_with fail
          refine (between_walk (HS.out.below HW.out) (HA.out.below HW.out) HNT.out HF.out (form_fit HF.out hm1') (form_fwd HF.out hm1')).mono ?_
          rintro e w3 ⟨rv, rfl, hr, hB3⟩
          go_wp2_with fail
          go_ret3
          have ho := HZK.out.own HG.out
          rw [mix_len] at ho
          refine ⟨_, rv, by rw [HI.out]; rfl, ?_, ?_, ?_, below_trans HW.out hB3⟩
          · unfold formL; rw [HI.out, if_pos rfl, form_len]; exact own_below ho hB3
          · unfold formR; rw [HI.out, if_pos rfl]; exact row_base hr (fun x hx => Nat.le_trans HW.out.size (hr.lt x hx).1)
          · intro x hx hy
            have h1 := (ho.lt x hx).2
            have h2 := (hr.lt x hy).1
            omega
    · have HI : Hid (formI S a m = 70) := by show _ = _; unfold formI; rw [if_neg hm, if_neg (fun h => hf (Fit.of h))]
      have HD : Hid (fitB S a = false) := Fit.no hf
      clear hf hm
      go_enter Tryz.func8, Tryz.ntmps8
      go_wp2_with fail
      refine (fits_walk HS.out HA.out).mono ?_
      rw [HD.out]
      rintro e w1 ⟨rfl, hB1⟩
      go_wp2_with fail
      go_ret3
      exact fo_bad HI.out (by omega) hB1
theorem nv_one (w : World) (x : Int) (hx : -9223372036854775808 ≤ x ∧ x < 9223372036854775808) (t : TypeId) : Nv (w.alloc (Obj.cells #[.int .i64 x] t)) (.slice (some ⟨w.heap.size, 0, none⟩) 1 1) [x] := by
  refine ⟨⟨_, 1, rfl, by simp, by simp [maxLen], by simp, fun i hi => ?_⟩, fun y hy => by simp at hy; subst hy; exact hx⟩
  have : i = 0 := by simpa using hi
  subst this
  exact ⟨_, _, rfl, by simp [go_sem, nth]⟩


/-- The reference's loop over partitions: round k, the ends so far, the world. -/
def Rf (w : World) (S : Sc) (a : List Int) (m : Int) (tv iv : Value) (wr : World) : Prop :=
  ∃ k : Nat, k ≤ a.length ∧ iv = .int .i64 k ∧ wr.ownsRow w.heap.size 3 1 tv k (cellsN ((formT S a m).take k)) ∧ Below w.heap.size w wr
theorem rf_step {k : Nat} {E : Int} {tv v' : Value} {wx w7 : World} {o : Obj} (hlt : k < a.length) (hE : endS S a m k = E) (hO : wx.ownsRow w.heap.size 3 1 tv k (cellsN ((formT S a m).take k))) (hB : Below w.heap.size w wx)
    (g1 : w7.ownsRow w.heap.size 3 1 v' (k + [E].length) (cellsN ((formT S a m).take k ++ [E]))) (g2 : (wx.alloc o).grownBy w7 tv.ownBlock) : Rf w S a m v' (.int .i64 ((k : Int) + 1)) w7 := by
  refine ⟨k + 1, hlt, by simp, ?_, ?_⟩
  · rw [← mix_snoc S a m hlt, hE]; exact g1
  · have hs := hB.size
    exact (hB.alloc hs o).grown g2 (by simp; omega) (fun x hx => (hO.lt x hx).1)




set_option maxRecDepth 100000 in
theorem again_walk (h : Src D w v S) (ha : Nv w av a) (hb : Nv w bv b) :
    Calls Tryz.prog 15 #[v, av, bv] w fun e w' => ∃ r, e = .returned (.tuple #[r, .int .i64 (againI S a b)]) ∧ w'.ownsRow w.heap.size 53 2 r (againR S a b).length (flatR (againR S a b)) ∧ Below w.heap.size w w' := by
  have HS : Hid (Src D w v S) := h
  have HA : Hid (Nv w av a) := ha
  have HB : Hid (Nv w bv b) := hb
  obtain ⟨ao, ca, rfl, hla, _⟩ := ha.form
  obtain ⟨bo, cb, rfl, hlb, _⟩ := hb.form
  have hv : ∃ sb, v = .pointer (some ⟨sb, 0, none⟩) := by obtain ⟨sb, _, _, _, _, e, _⟩ := h; exact ⟨sb, e⟩
  obtain ⟨sb, rfl⟩ := hv
  clear h ha hb
  by_cases hall : Fit S a ∧ Fit S b ∧ Fwd a b
  · have HI : Hid (againI S a b = 0) := by show _ = _; unfold againI; rw [if_pos (again_yes hall)]
    have HR : Hid (againR S a b = betS S a b a.length) := by show _ = _; unfold againR; rw [if_pos (again_yes hall)]
    rw [HI.out, HR.out]
    have HALL : Hid (Fit S a ∧ Fit S b ∧ Fwd a b) := hall
    clear hall
    go_enter Tryz.func15, Tryz.ntmps15
    go_wp2_with fail
    refine (fits_walk HS.out HA.out).mono ?_
    rw [HALL.out.1.yes]
    rintro e w1 ⟨rfl, hB1⟩
    have HW1 : Hid (Below w.heap.size w w1) := hB1
    clear hB1
    go_wp2_with fail
    refine (fits_walk (HS.out.below HW1.out) (HB.out.below HW1.out)).mono ?_
    rw [HALL.out.2.1.yes]
    rintro e w2 ⟨rfl, hB2⟩
    have HW2 : Hid (Below w.heap.size w w2) := below_trans HW1.out hB2
    clear hB2
    go_wp2_with fail
    refine (fwd_walk (HA.out.below HW2.out) (HB.out.below HW2.out)).mono ?_
    rw [HALL.out.2.2.yes]
    rintro e w3 ⟨rfl, hB3⟩
    have HW3 : Hid (Below w.heap.size w w3) := below_trans HW2.out hB3
    clear hB3
    go_wp2_with fail
    refine (between_walk (HS.out.below HW3.out) (HA.out.below HW3.out) (HB.out.below HW3.out) HALL.out.1 HALL.out.2.1 HALL.out.2.2).mono ?_
    rintro e w4 ⟨r, rfl, hr, hB4⟩
    go_wp2_with fail
    go_ret2
    exact ⟨r, rfl, row_base hr (fun x hx => Nat.le_trans HW3.out.size (hr.lt x hx).1), below_trans HW3.out hB4⟩
  · have HI : Hid (againI S a b = 70) := by show _ = _; unfold againI; rw [if_neg (fun h => hall (again_of h))]
    have HR : Hid (againR S a b = []) := by show _ = _; unfold againR; rw [if_neg (fun h => hall (again_of h))]
    rw [HI.out, HR.out]
    by_cases h1 : Fit S a
    · have H1 : Hid (fitB S a = true) := Fit.yes h1
      by_cases h2 : Fit S b
      · have H2 : Hid (fitB S b = true) := Fit.yes h2
        have H3 : Hid (fwdB a b = false) := Fwd.no fun h => hall ⟨h1, h2, h⟩
        clear hall h1 h2
        go_enter Tryz.func15, Tryz.ntmps15
        go_wp2_with fail
        refine (fits_walk HS.out HA.out).mono ?_
        rw [H1.out]
        rintro e w1 ⟨rfl, hB1⟩
        have HW1 : Hid (Below w.heap.size w w1) := hB1
        clear hB1
        go_wp2_with fail
        refine (fits_walk (HS.out.below HW1.out) (HB.out.below HW1.out)).mono ?_
        rw [H2.out]
        rintro e w2 ⟨rfl, hB2⟩
        have HW2 : Hid (Below w.heap.size w w2) := below_trans HW1.out hB2
        clear hB2
        go_wp2_with fail
        refine (fwd_walk (HA.out.below HW2.out) (HB.out.below HW2.out)).mono ?_
        rw [H3.out]
        rintro e w3 ⟨rfl, hB3⟩
        go_wp2_with fail
        go_ret2
        exact ⟨_, rfl, World.ownsRow_nil _ _ _ _, below_trans HW2.out hB3⟩
      · have H2 : Hid (fitB S b = false) := Fit.no h2
        clear hall h1 h2
        go_enter Tryz.func15, Tryz.ntmps15
        go_wp2_with fail
        refine (fits_walk HS.out HA.out).mono ?_
        rw [H1.out]
        rintro e w1 ⟨rfl, hB1⟩
        have HW1 : Hid (Below w.heap.size w w1) := hB1
        clear hB1
        go_wp2_with fail
        refine (fits_walk (HS.out.below HW1.out) (HB.out.below HW1.out)).mono ?_
        rw [H2.out]
        rintro e w2 ⟨rfl, hB2⟩
        go_wp2_with fail
        go_ret2
        exact ⟨_, rfl, World.ownsRow_nil _ _ _ _, below_trans HW1.out hB2⟩
    · have H1 : Hid (fitB S a = false) := Fit.no h1
      clear hall h1
      go_enter Tryz.func15, Tryz.ntmps15
      go_wp2_with fail
      refine (fits_walk HS.out HA.out).mono ?_
      rw [H1.out]
      rintro e w1 ⟨rfl, hB1⟩
      go_wp2_with fail
      go_ret2
      exact ⟨_, rfl, World.ownsRow_nil _ _ _ _, hB1⟩




theorem form_nil (av : Value) (m : Int) (w : World) : Calls Tryz.prog 8 #[.pointer none, av, .int .i64 m] w fun e w' => e = .returned (.tuple #[.slice none 0 0, .slice none 0 0, .int .i64 2]) ∧ w' = w := by
  go_enter Tryz.func8, Tryz.ntmps8
  go_wp2_with fail
  go_ret3
  exact ⟨rfl, rfl⟩
theorem again_nil (av bv : Value) (w : World) : Calls Tryz.prog 15 #[.pointer none, av, bv] w fun e w' => e = .returned (.tuple #[.slice none 0 0, .int .i64 2]) ∧ w' = w := by
  go_enter Tryz.func15, Tryz.ntmps15
  go_wp2_with fail
  go_ret2
  exact ⟨rfl, rfl⟩


end

end Go.Proofs.YtopjedgknbbgkaaGreat

namespace Go.Proofs.YtopjedgknbbgkaaGreat

open Go.RowKit



section

variable {wx wy : World} {X g : Nat} {q : Pr}

theorem pc_below {B : Nat} (h : wx.cell? ⟨X, 0, none⟩ = some (.int .u64 q.k) ∧ wx.cell? ⟨X, 1, none⟩ = some (.bool q.v.h) ∧ wx.cell? ⟨X, 2, none⟩ = some (.int .u64 q.v.b)) (hb : Below B wx wy) (hX : X < B) :
    wy.cell? ⟨X, 0, none⟩ = some (.int .u64 q.k) ∧ wy.cell? ⟨X, 1, none⟩ = some (.bool q.v.h) ∧ wy.cell? ⟨X, 2, none⟩ = some (.int .u64 q.v.b) :=
  ⟨by rw [hb.cell (p := ⟨X, 0, none⟩) hX]; exact h.1, by rw [hb.cell (p := ⟨X, 1, none⟩) hX]; exact h.2.1, by rw [hb.cell (p := ⟨X, 2, none⟩) hX]; exact h.2.2⟩
theorem pc_grown {row : Option Nat} (h : wx.cell? ⟨X, 0, none⟩ = some (.int .u64 q.k) ∧ wx.cell? ⟨X, 1, none⟩ = some (.bool q.v.h) ∧ wx.cell? ⟨X, 2, none⟩ = some (.int .u64 q.v.b)) (hg : wx.grownBy wy row) (hX : ∀ m, row = some m → X ≠ m) :
    wy.cell? ⟨X, 0, none⟩ = some (.int .u64 q.k) ∧ wy.cell? ⟨X, 1, none⟩ = some (.bool q.v.h) ∧ wy.cell? ⟨X, 2, none⟩ = some (.int .u64 q.v.b) :=
  ⟨cell_own h.1 hg hX, cell_own h.2.1 hg hX, cell_own h.2.2 hg hX⟩
theorem pc_set (h : wx.cell? ⟨X, 0, none⟩ = some (.int .u64 q.k) ∧ wx.cell? ⟨X, 1, none⟩ = some (.bool q.v.h) ∧ wx.cell? ⟨X, 2, none⟩ = some (.int .u64 q.v.b)) (hX : X ≠ g) (i : Nat) (u : Value) :
    (wx.setCell ⟨g, i, none⟩ u).cell? ⟨X, 0, none⟩ = some (.int .u64 q.k) ∧ (wx.setCell ⟨g, i, none⟩ u).cell? ⟨X, 1, none⟩ = some (.bool q.v.h) ∧ (wx.setCell ⟨g, i, none⟩ u).cell? ⟨X, 2, none⟩ = some (.int .u64 q.v.b) :=
  ⟨by rw [World.cell?_setCell_other _ _ _ _ (by intro e; cases e; exact hX rfl)]; exact h.1, by rw [World.cell?_setCell_other _ _ _ _ (by intro e; cases e; exact hX rfl)]; exact h.2.1, by rw [World.cell?_setCell_other _ _ _ _ (by intro e; cases e; exact hX rfl)]; exact h.2.2⟩
end



/-- Where Deal's loop stands. -/
def Dr (w1 : World) (g n : Nat) (p : Pn) (t : List Pr) (iv : Value) (wr : World) : Prop :=
  ∃ (k : Nat) (vs : Nat → Value), k ≤ t.length ∧ iv = .int .i64 k ∧ Dl w1.heap.size wr (.slice (some ⟨g, 0, none⟩) n n) n vs (dealF p (t.take k)) ∧ Ne n vs ∧ Below w1.heap.size w1 wr


/-- What Deal answers. -/
def DG (B : Nat) (w : World) (v : Value) (p : Pn) (t : List Pr) : Prop :=
  ∃ vs, Dl B w v p.n vs (dealF p t) ∧ Ne p.n vs


theorem deal_no {p : Pn} {ov tv : Value} {t : List Pr} {w : World} (ho : Ov w ov p.l) (hp : p.is = false) :
    Calls Tryz.prog 91 #[.agg #[.int .i64 p.P, .int .i64 p.S, .int .i64 p.W, ov, .int .i64 p.A, .int .i64 p.B, .int .i64 p.N, .int .i64 p.G], tv] w fun e w' => ∃ v, e = .returned v ∧ DG w.heap.size w' v p t ∧ Below w.heap.size w w' := by
  have HO : Hid (Ov w ov p.l) := ho
  clear ho
  go_enter Tryz.func91, Tryz.ntmps91
  go_wp2_with fail
  refine (isplan_walk (HO.out.below (below_alloc _ _))).mono ?_
  rw [hp]
  rintro e w1 ⟨rfl, hB1⟩
  go_wp2_with fail
  go_ret
  refine ⟨_, rfl, ⟨fun _ => .slice none 0 0, ?_, ?_⟩, below_trans (below_alloc _ _) hB1⟩
  · have : p.n = 0 := by unfold Pn.n; rw [hp]; rfl
    rw [this]
    exact ⟨World.ownsRow_nil _ _ _ _, fun i hi => by omega⟩
  · have : p.n = 0 := by unfold Pn.n; rw [hp]; rfl
    rw [this]
    exact fun i j hi => by omega
set_option maxRecDepth 20000 in
theorem deal_good {p : Pn} {ov tv : Value} {t : List Pr} {w : World} (ho : Ov w ov p.l) (hp : p.is = true) (hq : Qv w tv t) (hsz : t.length * 24 ≤ 140737488355328) :
    Calls Tryz.prog 91 #[.agg #[.int .i64 p.P, .int .i64 p.S, .int .i64 p.W, ov, .int .i64 p.A, .int .i64 p.B, .int .i64 p.N, .int .i64 p.G], tv] w fun e w' => ∃ v, e = .returned v ∧ DG w.heap.size w' v p t ∧ Below w.heap.size w w' := by
  have HO : Hid (Ov w ov p.l) := ho
  have HOK : Hid (okT t) := hq.2
  obtain ⟨tg, tc, rfl, hl, hql⟩ := hq.form
  have HQL : Hid (Ql w tg t) := hql
  have HSZ : Hid (t.length * 24 ≤ 140737488355328) := hsz
  have hli : (t.length : Int) ≤ 9223372036854775807 := by omega
  clear ho hq hl hql hsz
  obtain ⟨_, ⟨s1, s2⟩, ⟨w1, w2⟩, _⟩ := Pn.is_num hp
  have hmk := make_sp hp
  obtain ⟨n, hn⟩ : ∃ n, n = p.S.toNat := ⟨_, rfl⟩
  have HN : Hid (n = p.S.toNat) := hn
  have hn4 : n ≤ 4 := by omega
  rw [← hn] at hmk
  have HPN : Hid (p.n = n) := by show _ = _; unfold Pn.n; rw [hp, hn]; rfl
  clear hn
  obtain ⟨Z, hZ⟩ : ∃ Z, Z = madeCells #[Value.slice none 0 0] (n * 1) := ⟨_, rfl⟩
  rw [← hZ] at hmk
  have HZ : Hid (Z = madeCells #[Value.slice none 0 0] (n * 1)) := hZ
  clear hZ
  go_enter Tryz.func91, Tryz.ntmps91
  go_wp2_with fail
  refine (isplan_walk (HO.out.below (below_alloc _ _))).mono ?_
  rw [hp]
  rintro e w1 ⟨rfl, hB1⟩
  have HB1 : Hid (Below w.heap.size w w1) := below_trans (below_alloc _ _) hB1
  have HX1 : Hid (Bx w1 w.heap.size p ov) := box_then hB1
  have HXL : Hid (w.heap.size < w1.heap.size) := box_lt hB1
  obtain ⟨c0, c1, c2, c3, c4, c5, c6, c7⟩ := box_then hB1
  clear hB1
  have HST : Hid (Dr w1 w1.heap.size n p t (.int .i64 0) (w1.alloc (.cells Z 42))) := by
    have h := made_sp w1 hn4 p
    rw [← HZ.out] at h
    exact ⟨0, _, Nat.zero_le _, rfl, h, fun i j _ _ _ => .inl rfl, below_alloc _ _⟩
  go_wp2_with fail
  go_loopw [17] (fun iv wr => Dr w1 w1.heap.size n p t iv wr) (fun iv _ => t.length - (intOf iv).toNat)
  case atStart => exact HST.out
  case round =>
    obtain ⟨k, vs, hk, rfl, hD, hNe, hBr⟩ := hrel
    clear c0 c1 c2 c3 c4 c5 c6 c7 HST
    obtain ⟨g, hg⟩ : ∃ g, g = w1.heap.size := ⟨_, rfl⟩
    have HG : Hid (g = w1.heap.size) := hg
    have HDL0 : Hid (Dl w1.heap.size wr (.slice (some ⟨g, 0, none⟩) n n) n vs (dealF p (t.take k))) := by rw [hg]; exact hD
    have HNE : Hid (Ne n vs) := hNe
    have HBR : Hid (Below w1.heap.size w1 wr) := hBr
    have HWR : Hid (w1.heap.size ≤ wr.heap.size) := hBr.size
    rw [← hg]
    clear hD hNe hBr hg
    by_cases hlt : k < t.length
    · obtain ⟨b, off, hto, d0, d1, d2⟩ := (HQL.out.below HB1.out).below HBR.out |> fun h => h k hlt
      subst hto
      obtain ⟨q, hqe⟩ : ∃ q, q = t[k] := ⟨_, rfl⟩
      rw [← hqe] at d0 d1 d2
      have HQ : Hid (q = t[k]) := hqe
      have HQK : Hid (q.k < 18446744073709551616) := by rw [hqe]; exact (HOK.out _ (List.getElem_mem hlt)).1
      clear hqe
      obtain ⟨A, hA⟩ : ∃ A, A = p.place q.k := ⟨_, rfl⟩
      have HA : Hid (A = p.place q.k) := hA
      have hAn : A < n := by rw [hA, HN.out]; exact (place_lt q.k hp).2
      have HAN : Hid (A < n) := hAn
      have hA4 : A < 4 := by omega
      clear hA
      obtain ⟨c0, c1, c2, c3, c4, c5, c6, c7⟩ := HX1.out.below (HBR.out.trans ((below_alloc wr (Obj.cells #[.int .u64 q.k, .bool q.v.h, .int .u64 q.v.b] 65)).mono HWR.out)) HXL.out
      go_wp2_with fail
      refine (place_walk q.k HQK.out hp).mono ?_
      rw [← HA.out]
      rintro e w5 ⟨rfl, hB5⟩
      have HPC : Hid (w5.cell? ⟨wr.heap.size, 0, none⟩ = some (.int .u64 q.k) ∧ w5.cell? ⟨wr.heap.size, 1, none⟩ = some (.bool q.v.h) ∧ w5.cell? ⟨wr.heap.size, 2, none⟩ = some (.int .u64 q.v.b)) := pc_below (B := wr.heap.size + 1) (wx := wr.alloc (Obj.cells #[.int .u64 q.k, .bool q.v.h, .int .u64 q.v.b] 65)) ⟨by simp [go_sem], by simp [go_sem], by simp [go_sem]⟩ (hB5.mono (by simp)) (by omega)
      have HX5 : Hid (wr.heap.size < w5.heap.size) := by have := hB5.size; simp at this; show _ < _; omega
      have hR5 : Below wr.heap.size wr w5 := below_trans (below_alloc _ _) hB5
      have HDL : Hid (Dl w1.heap.size w5 (.slice (some ⟨g, 0, none⟩) n n) n vs (dealF p (t.take k))) := HDL0.out.below hR5
      have HB5 : Hid (Below w1.heap.size w1 w5) := HBR.out.trans (hR5.mono HWR.out)
      have HB5s : Hid (w1.heap.size ≤ w5.heap.size) := HB5.out.size
      have HOA0 : Hid (w5.ownsRow w1.heap.size 65 3 (vs A) (dealF p (t.take k) A).length (flatQ (dealF p (t.take k) A))) := HDL.out.own A HAN.out
      obtain ⟨ao, cap, hva, _, _⟩ := row_form HOA0.out
      have HVA : Hid (vs A = .slice ao (dealF p (t.take k) A).length cap) := hva
      have HOA : Hid (w5.ownsRow w1.heap.size 65 3 (.slice ao (dealF p (t.take k) A).length cap) (dealF p (t.take k) A).length (flatQ (dealF p (t.take k) A))) := by
        have h := HOA0.out
        rw [hva] at h
        exact h
      have z5 := (row1_cell HDL.out.row HAN.out).1
      rw [hva] at z5
      have z6 : (w5.alloc (Obj.cells #[.int .u64 q.k, .bool q.v.h, .int .u64 q.v.b] 65)).cell? ⟨g, A, none⟩ = some (.slice ao (dealF p (t.take k) A).length cap) := by
        have h := (row1_cell (w := (w5.alloc (Obj.cells #[.int .u64 q.k, .bool q.v.h, .int .u64 q.v.b] 65))) (HDL.out.below (below_alloc _ _)).row HAN.out).1
        rw [hva] at h
        exact h
      clear hva
      have HBD : Hid (((dealF p (t.take k) A).length + 1) * 24 ≤ 140737488355328) := by
        show _ ≤ _
        have h1 := deal_len p (t.take k) A
        have h2 : (dealF p (t.take k) A).length + 1 ≤ t.length := by rw [List.length_take] at h1; omega
        exact Nat.le_trans (Nat.mul_le_mul_right 24 h2) HSZ.out
      have HNG : Hid (∀ w8 : World, (Value.slice (some ⟨g, 0, none⟩) n n).ownBlock = none ∨ (Value.slice (some ⟨g, 0, none⟩) n n).ownBlock ≠ (Value.slice ao (dealF p (t.take k) A).length cap).ownBlock) := fun _ => own_ne HDL.out.row HOA.out sp_ne.symm
      have HXN : Hid (∀ (_ : Nat) (m : Nat), (Value.slice ao (dealF p (t.take k) A).length cap).ownBlock = some m → wr.heap.size ≠ m) := fun _ m he => by
        have h := HDL0.out.own A HAN.out
        rw [HVA.out] at h
        have := (h.lt m he).2
        omega
      have HXG : Hid (wr.heap.size ≠ g) := by
        have h := (HDL0.out.row.lt g rfl).2
        show _ ≠ _
        omega
      have HGB : Hid (w1.heap.size ≤ g) := by rw [HG.out]; exact Nat.le_refl _
      have HBW : Hid (∀ (w8 w9 : World), (w5.drew.alloc (Obj.cells #[.int .u64 q.k, .bool q.v.h, .int .u64 q.v.b] 65)).grownBy w9 (Value.slice ao (dealF p (t.take k) A).length cap).ownBlock → Below w1.heap.size w1 w9) := fun _ w9 hg9 => by
        have h8 : Below w1.heap.size w1 (w5.drew.alloc (Obj.cells #[.int .u64 q.k, .bool q.v.h, .int .u64 q.v.b] 65)) := HB5.out.trans ((below_trans (below_drw _) (below_alloc _ _)).mono HB5s.out)
        exact h8.grown hg9 h8.size (fun x hx => (HOA.out.lt x hx).1)
      clear c0 c1 c2 c3 c4 c5 c6 c7 d0 d1 d2 hB5 hR5
      go_wp2_with fail
      refine wp_region_noPanic ?_
      refine wp_region_held_drew (S := fun wx => wx.cell? ⟨wr.heap.size, 0, none⟩ = some (.int .u64 q.k) ∧ wx.cell? ⟨wr.heap.size, 1, none⟩ = some (.bool q.v.h) ∧ wx.cell? ⟨wr.heap.size, 2, none⟩ = some (.int .u64 q.v.b)) (by kernel_rfl) ?_ (fun hHeld => ?_)
      · exact pc_below HPC.out (below_drw _) HX5.out
      refine wpAnyH_take (i := 0) (oi := ⟨some 25, _, _, _, _, _⟩) (v := ?_) rfl (by kernel_rfl) (by kernel_rfl) (by kernel_rfl) (fun _ _ _ h => h) (Or.inl ⟨by rfl, ?_⟩) hHeld ?_
      rotate_left
      · intro w hSw; (try dsimp only at hSw); go_simp; all_goals (with_reducible rfl)
      try simp only [Act.put, List.setIfInBounds_toArray, List.set_cons_zero, List.set_cons_succ]
      refine wpAnyH_take (i := 1) (oi := ⟨some 26, _, _, _, _, _⟩) (v := ?_) rfl (by kernel_rfl) (by kernel_rfl) (by kernel_rfl) (fun _ _ _ h => h) (Or.inl ⟨by rfl, ?_⟩) hHeld ?_
      rotate_left
      · intro w hSw; (try dsimp only at hSw); go_simp; all_goals (with_reducible rfl)
      try simp only [Act.put, List.setIfInBounds_toArray, List.set_cons_zero, List.set_cons_succ]
      refine wpAnyH_take (i := 2) (oi := ⟨some 27, _, _, _, _, _⟩) (v := ?_) rfl (by kernel_rfl) (by kernel_rfl) (by kernel_rfl) (fun _ _ _ h => h) (Or.inl ⟨by rfl, ?_⟩) hHeld ?_
      rotate_left
      · intro w hSw; (try dsimp only at hSw); go_simp; all_goals (with_reducible rfl)
      try simp only [Act.put, List.setIfInBounds_toArray, List.set_cons_zero, List.set_cons_succ]
      refine wpAnyH_take (i := 3) (oi := ⟨some 28, _, _, _, _, _⟩) (v := ?_) rfl (by kernel_rfl) (by kernel_rfl) (by kernel_rfl) (fun _ _ _ h => h) (Or.inl ⟨by rfl, ?_⟩) hHeld ?_
      rotate_left
      · intro w hSw; (try dsimp only at hSw); go_simp; all_goals (with_reducible rfl)
      try simp only [Act.put, List.setIfInBounds_toArray, List.set_cons_zero, List.set_cons_succ]
      refine wpAnyH_take (i := 4) (oi := ⟨some 29, _, _, _, _, _⟩) (v := ?_) rfl (by kernel_rfl) (by kernel_rfl) (by kernel_rfl) (fun _ _ _ h => h) (Or.inl ⟨by rfl, ?_⟩) hHeld ?_
      rotate_left
      · intro w hSw; (try dsimp only at hSw); go_simp; all_goals (with_reducible rfl)
      try simp only [Act.put, List.setIfInBounds_toArray, List.set_cons_zero, List.set_cons_succ]
      refine wpAnyH_take (i := 6) (oi := ⟨some 31, _, _, _, _, _⟩) (v := ?_) rfl (by kernel_rfl) (by kernel_rfl) (by kernel_rfl) (fun _ _ _ h => h) (Or.inl ⟨by rfl, ?_⟩) hHeld ?_
      rotate_left
      · intro w hSw; (try dsimp only at hSw); go_simp; all_goals (with_reducible rfl)
      try simp only [Act.put, List.setIfInBounds_toArray, List.set_cons_zero, List.set_cons_succ]
      refine wpAnyH_ready (rs := [5, 7]) (by kernel_rfl) (by simp) ?_
      refine AllReadyH.cons (o := ⟨some 30, _, _, _, _, _⟩) rfl (fun K hK => ?_) (AllReadyH.cons (o := ⟨some 32, _, _, _, _, _⟩) rfl (fun K hK => ?_) AllReadyH.nil)
      · go_simp
        refine hK.out _ _ ?_ (fun hHeld => ?_)
        · exact hHeld
        clear hK K
        try simp only [Act.put, List.setIfInBounds_toArray, List.set_cons_zero, List.set_cons_succ]
        refine wpAnyH_ready (rs := [7]) (by kernel_rfl) (by simp) ?_
        refine AllReadyH.cons (o := ⟨some 32, _, _, _, _, _⟩) rfl (fun K hK => ?_) AllReadyH.nil
        go_simp
        refine hK.out _ _ ?_ (fun hHeld => ?_)
        · exact pc_below hHeld (below_alloc _ _) HX5.out
        clear hK K
        try simp only [Act.put, List.setIfInBounds_toArray, List.set_cons_zero, List.set_cons_succ]
        refine wpAnyH_ready (rs := [8]) (by kernel_rfl) (by simp) ?_
        refine AllReadyH.cons (o := ⟨some 33, _, _, _, _, _⟩) rfl (fun K hK => ?_) AllReadyH.nil
        refine step_app_pr rfl (.tmp 30) (.tmp 32) rfl (.slice ao (dealF p (t.take k) A).length cap) (dealF p (t.take k) A) (by simp [Act.eval]) (own3_below HOA.out (below_trans (below_drw _) (below_alloc _ _))) w5.heap.size q (by simp [Act.eval]) (by simp [go_sem]) (by simp [go_sem]) (by simp [go_sem]) HBD.out (Nat.le_trans HB5s.out (below_trans (below_drw _) (below_alloc _ _)).size) ?_
        intro v9 w9 hown9 hg9 hat9
        obtain ⟨v9o, v9c, hv9, _, _⟩ := row_form hown9
        subst hv9
        have HS9 : Hid (Dl w1.heap.size (w9.setCell ⟨g, A, none⟩ (.slice v9o ((dealF p (t.take k) A).length + 1) v9c)) (.slice (some ⟨g, 0, none⟩) n n) n (setF vs A (.slice v9o ((dealF p (t.take k) A).length + 1) v9c)) (setF (dealF p (t.take k)) A (dealF p (t.take k) A ++ [q])) ∧ Ne n (setF vs A (.slice v9o ((dealF p (t.take k) A).length + 1) v9c))) := HDL.out.step HNE.out HAN.out (below_trans (below_drw _) (below_alloc _ _)) hown9 (by rw [HVA.out]; exact hg9) (by rw [HVA.out]; exact hat9)
        have HG9 : Hid ((w5.drew.alloc (Obj.cells #[.int .u64 q.k, .bool q.v.h, .int .u64 q.v.b] 65)).grownBy w9 (Value.slice ao (dealF p (t.take k) A).length cap).ownBlock) := hg9
        have z9 := (row1_cell (i := A) ((HDL.out.below (below_trans (below_drw _) (below_alloc _ _))).row.kept hg9 (HNG.out w9)) HAN.out).1
        have z9f := (row1_cell (i := A) ((HDL.out.below (below_trans (below_drw _) (below_alloc _ _))).row.kept hg9 (HNG.out w9)) HAN.out).2
        rw [HVA.out] at z9
        clear hown9 hg9 hat9
        refine hK.out _ _ ?_ (fun hHeld => ?_)
        · exact pc_grown hHeld HG9.out (HXN.out 0)
        clear hK K
        try simp only [Act.put, List.setIfInBounds_toArray, List.set_cons_zero, List.set_cons_succ]
        refine wpAnyH_take (i := 9) (oi := ⟨some 34, _, _, _, _, _⟩) (v := ?_) rfl (by kernel_rfl) (by kernel_rfl) (by kernel_rfl) (fun _ _ _ h => h) (Or.inl ⟨by rfl, ?_⟩) hHeld ?_
        rotate_left
        · intro w hSw; (try dsimp only at hSw); go_simp; all_goals (with_reducible rfl)
        try simp only [Act.put, List.setIfInBounds_toArray, List.set_cons_zero, List.set_cons_succ]
        refine wpAnyH_ready (rs := [10]) (by kernel_rfl) (by simp) ?_
        refine AllReadyH.cons (o := ⟨none, _, _, _, _, _⟩) rfl (fun K hK => ?_) AllReadyH.nil
        go_simp
        have HW9 : Hid (Below w1.heap.size w1 w9) := HBW.out w9 _ HG9.out
        refine hK.out _ _ ?_ (fun hHeld => ?_)
        · exact pc_set hHeld HXG.out _ _
        clear hK K
        try simp only [Act.put, List.setIfInBounds_toArray, List.set_cons_zero, List.set_cons_succ]
        refine wpAnyH_done (by kernel_rfl) ?_ _
        refine NoPanic.normal ?_
        have HR : Hid (Dr w1 g n p t (.int .i64 ((k : Int) + 1)) (w9.setCell ⟨g, A, none⟩ (.slice v9o ((dealF p (t.take k) A).length + 1) v9c))) := by
          refine ⟨k + 1, _, hlt, by simp, ?_, HS9.out.2, HW9.out.setCell (p := ⟨g, A, none⟩) HGB.out _⟩
          rw [deal_step p t hlt, ← HQ.out, ← HA.out]
          exact HS9.out.1
        clear z9 z9f HS9
        go_wp2_with fail
        go_roundw
        case rel => exact HR.out
        case measure => simp [intOf]; omega
      · go_simp
        refine hK.out _ _ ?_ (fun hHeld => ?_)
        · exact pc_below hHeld (below_alloc _ _) HX5.out
        clear hK K
        try simp only [Act.put, List.setIfInBounds_toArray, List.set_cons_zero, List.set_cons_succ]
        refine wpAnyH_ready (rs := [5]) (by kernel_rfl) (by simp) ?_
        refine AllReadyH.cons (o := ⟨some 30, _, _, _, _, _⟩) rfl (fun K hK => ?_) AllReadyH.nil
        go_simp
        refine hK.out _ _ ?_ (fun hHeld => ?_)
        · exact hHeld
        clear hK K
        try simp only [Act.put, List.setIfInBounds_toArray, List.set_cons_zero, List.set_cons_succ]
        refine wpAnyH_ready (rs := [8]) (by kernel_rfl) (by simp) ?_
        refine AllReadyH.cons (o := ⟨some 33, _, _, _, _, _⟩) rfl (fun K hK => ?_) AllReadyH.nil
        refine step_app_pr rfl (.tmp 30) (.tmp 32) rfl (.slice ao (dealF p (t.take k) A).length cap) (dealF p (t.take k) A) (by simp [Act.eval]) (own3_below HOA.out (below_trans (below_drw _) (below_alloc _ _))) w5.heap.size q (by simp [Act.eval]) (by simp [go_sem]) (by simp [go_sem]) (by simp [go_sem]) HBD.out (Nat.le_trans HB5s.out (below_trans (below_drw _) (below_alloc _ _)).size) ?_
        intro v9 w9 hown9 hg9 hat9
        obtain ⟨v9o, v9c, hv9, _, _⟩ := row_form hown9
        subst hv9
        have HS9 : Hid (Dl w1.heap.size (w9.setCell ⟨g, A, none⟩ (.slice v9o ((dealF p (t.take k) A).length + 1) v9c)) (.slice (some ⟨g, 0, none⟩) n n) n (setF vs A (.slice v9o ((dealF p (t.take k) A).length + 1) v9c)) (setF (dealF p (t.take k)) A (dealF p (t.take k) A ++ [q])) ∧ Ne n (setF vs A (.slice v9o ((dealF p (t.take k) A).length + 1) v9c))) := HDL.out.step HNE.out HAN.out (below_trans (below_drw _) (below_alloc _ _)) hown9 (by rw [HVA.out]; exact hg9) (by rw [HVA.out]; exact hat9)
        have HG9 : Hid ((w5.drew.alloc (Obj.cells #[.int .u64 q.k, .bool q.v.h, .int .u64 q.v.b] 65)).grownBy w9 (Value.slice ao (dealF p (t.take k) A).length cap).ownBlock) := hg9
        have z9 := (row1_cell (i := A) ((HDL.out.below (below_trans (below_drw _) (below_alloc _ _))).row.kept hg9 (HNG.out w9)) HAN.out).1
        have z9f := (row1_cell (i := A) ((HDL.out.below (below_trans (below_drw _) (below_alloc _ _))).row.kept hg9 (HNG.out w9)) HAN.out).2
        rw [HVA.out] at z9
        clear hown9 hg9 hat9
        refine hK.out _ _ ?_ (fun hHeld => ?_)
        · exact pc_grown hHeld HG9.out (HXN.out 0)
        clear hK K
        try simp only [Act.put, List.setIfInBounds_toArray, List.set_cons_zero, List.set_cons_succ]
        refine wpAnyH_take (i := 9) (oi := ⟨some 34, _, _, _, _, _⟩) (v := ?_) rfl (by kernel_rfl) (by kernel_rfl) (by kernel_rfl) (fun _ _ _ h => h) (Or.inl ⟨by rfl, ?_⟩) hHeld ?_
        rotate_left
        · intro w hSw; (try dsimp only at hSw); go_simp; all_goals (with_reducible rfl)
        try simp only [Act.put, List.setIfInBounds_toArray, List.set_cons_zero, List.set_cons_succ]
        refine wpAnyH_ready (rs := [10]) (by kernel_rfl) (by simp) ?_
        refine AllReadyH.cons (o := ⟨none, _, _, _, _, _⟩) rfl (fun K hK => ?_) AllReadyH.nil
        go_simp
        have HW9 : Hid (Below w1.heap.size w1 w9) := HBW.out w9 _ HG9.out
        refine hK.out _ _ ?_ (fun hHeld => ?_)
        · exact pc_set hHeld HXG.out _ _
        clear hK K
        try simp only [Act.put, List.setIfInBounds_toArray, List.set_cons_zero, List.set_cons_succ]
        refine wpAnyH_done (by kernel_rfl) ?_ _
        refine NoPanic.normal ?_
        have HR : Hid (Dr w1 g n p t (.int .i64 ((k : Int) + 1)) (w9.setCell ⟨g, A, none⟩ (.slice v9o ((dealF p (t.take k) A).length + 1) v9c))) := by
          refine ⟨k + 1, _, hlt, by simp, ?_, HS9.out.2, HW9.out.setCell (p := ⟨g, A, none⟩) HGB.out _⟩
          rw [deal_step p t hlt, ← HQ.out, ← HA.out]
          exact HS9.out.1
        clear z9 z9f HS9
        go_wp2_with fail
        go_roundw
        case rel => exact HR.out
        case measure => simp [intOf]; omega
    · obtain rfl : k = t.length := by omega
      go_wp2_with fail
      go_ret
      have hD := HDL0.out
      rw [List.take_length] at hD
      refine ⟨_, rfl, ⟨vs, ?_, ?_⟩, ?_⟩
      · rw [HPN.out]
        exact ⟨own_base hD.row HB1.out.size, fun i hi => own_base (hD.own i hi) HB1.out.size⟩
      · rw [HPN.out]
        exact HNE.out
      · exact HB1.out.trans (HBR.out.mono HB1.out.size)
theorem deal_walk {p : Pn} {ov tv : Value} {t : List Pr} {w : World} (ho : Ov w ov p.l) (hq : Qv w tv t) (hsz : t.length * 24 ≤ 140737488355328) :
    Calls Tryz.prog 91 #[.agg #[.int .i64 p.P, .int .i64 p.S, .int .i64 p.W, ov, .int .i64 p.A, .int .i64 p.B, .int .i64 p.N, .int .i64 p.G], tv] w fun e w' => ∃ v, e = .returned v ∧ DG w.heap.size w' v p t ∧ Below w.heap.size w w' := by
  cases hp : p.is
  · exact deal_no ho hp
  · exact deal_good ho hp hq hsz
end Go.Proofs.YtopjedgknbbgkaaGreat
