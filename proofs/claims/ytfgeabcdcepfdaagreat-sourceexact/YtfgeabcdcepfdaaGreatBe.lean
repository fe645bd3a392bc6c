/- The reference's Read and New. -/
import Derived.Test.YtfgeabcdcepfdaaGreatBd
namespace Go.Proofs.YtfgeabcdcepfdaaGreat
open Ieee Go.RowKit

theorem wpList_append_rec1 {P : Program} {w : World} {ops : Array Oper} {rest : List Oper} {o : Oper} {a : Act} {Q : Exit → Act → World → Prop} (hgd : o.guard = none) (s x : Operand) (t : TypeId)
    (ho : o.op = .call { callee := .builtin .append, args := #[s, x], argTypes := #[t, t] })
    (B : Nat) (e : TypeId) (ht : P.underlying t = some (.slice e)) (hinf : (P.info? e).map (fun i => (i.zero, i.size, i.bytes)) = some (some (.agg #[.int .u64 0, .float .f64 0]), 2, 16))
    (v : Value) (n : Nat) (m : List Rcd) (hs : a.eval s = v) (hown : w.ownsRow B e 2 v n (flatR m))
    (q : Nat) (r : Rcd) (hx : a.eval x = .slice (some ⟨q, 0, none⟩) 1 1) (h0 : w.cell? ⟨q, 0, none⟩ = some (.int .u64 r.k)) (h1 : w.cell? ⟨q, 1, none⟩ = some (.float .f64 r.x)) (hn : n ≤ 1000000) (hB : B ≤ w.heap.size)
    (h : ∀ ao cap w', w'.ownsRow B e 2 (.slice ao (n + 1) cap) (n + 1) (flatR (m ++ [r])) → w.grownBy w' v.ownBlock → wpList P ops Q rest (a.put o.dst (.slice ao (n + 1) cap)) w') : wpList P ops Q (o :: rest) a w := by
  obtain ⟨i0, hi, hz0, hz1, hz2⟩ := info_partsV hinf
  refine wpList_append_own w hgd s x t ho B e i0 (.agg #[.int .u64 0, .float .f64 0]) 2 16 ht hi hz0 hz1 hz2 rfl (by decide) v n (flatR m) hs hown ⟨q, 0, none⟩ 1 1 [.int .u64 r.k, .float .f64 r.x] hx rfl (one_cells h0 h1) (fun u hu => by simp at hu; rcases hu with rfl | rfl <;> rfl) (by simp only [maxLen]; omega) (by omega) hB (fun v' w' h1 h2 h3 => ?_)
  obtain ⟨ao, cap, hv, _⟩ := row_form h1
  subst hv
  exact h ao cap w' (by rw [flatR_snoc]; exact h1) h2

/-- Where the loop of the reference's Read stands. -/
def Rd6 (w : World) (L : List Rcd) (X n : Nat) (m : Int) (lv iv : Value) (wr : World) : Prop :=
  ∃ (k : Nat) (lo : Option Addr) (lc : Nat), X + k ≤ n ∧ (k : Int) ≤ m ∧ iv = .int .i64 ((X + k : Nat) : Int) ∧ lv = .slice lo k lc ∧ wr.ownsRow w.heap.size 38 2 (.slice lo k lc) k (flatR ((L.drop X).take k)) ∧ Below w.heap.size w wr

section
variable {D : Nat → Prop} {w : World} {v : Value} {S : Sc}

set_option maxRecDepth 100000 in
set_option maxHeartbeats 1000000 in
theorem rread_walk (h : Rs D w v S) (p x m : Int) : Calls Tryz.prog 28 #[v, .int .i64 p, .int .i64 x, .int .i64 m] w fun e w' =>
    ∃ r, e = .returned (.tuple #[r, .int .i64 (readI S p x m)]) ∧ w'.ownsRow w.heap.size 38 2 r (readL S p x m).length (flatR (readL S p x m)) ∧ Below w.heap.size w w' := by
  obtain ⟨sb, gp, gq, lv, rv, rfl, h, hok⟩ := h
  have HS : Hid (RM D w sb gp gq lv rv S) := h
  have HK : Hid S.ok := hok
  have h4 := hok.np4
  clear h hok
  by_cases hh : hasS S p
  · obtain ⟨q, rfl, hq⟩ := has_nat hh
    have HI : Hid (readI S q x m = if x < 0 ∨ x > (S.logs q).length ∨ m < 0 then 1 else if S.on q then 0 else 63) := by show _ = _; unfold readI; rw [if_pos hh]; rfl
    have HLL : Hid (readL S q x m = if readI S q x m = 0 then ((S.logs q).drop x.toNat).take m.toNat else []) := rfl
    have c0 := HS.out.c0
    have c1 := HS.out.c1
    have p0 := HS.out.p0 hq
    have p1 := HS.out.p1 hq
    have hlen := HK.out.len q
    obtain ⟨n, hn⟩ : ∃ n, n = (S.logs q).length := ⟨_, rfl⟩
    rw [← hn] at hlen
    obtain ⟨ao, cap, hrv, hnc, hcm⟩ := row_form (HS.out.rows q hq)
    rw [hrv, ← hn] at p0
    have HN : Hid (n = (S.logs q).length) := hn
    have HRV : Hid (rv q = .slice ao n cap) := by show _ = _; rw [hrv, hn]
    clear hh hn hrv hnc hcm
    by_cases hbad : x < 0 ∨ x > n ∨ m < 0
    · have HE : Hid (readI S q x m = 1) := by show _ = _; rw [HI.out, ← HN.out, if_pos hbad]
      have HZ : Hid (readL S q x m = []) := by show _ = _; rw [HLL.out, HE.out]; rfl
      rw [HE.out, HZ.out]
      by_cases hx0 : x < 0
      · clear hbad
        go_enter Tryz.func28, Tryz.ntmps28
        go_wp2_with (go_at_call 35; refine (rhas_ok HS.out HK.out hq).mono ?_; rintro e w9 ⟨rfl, h9⟩; have h9 := h9.symm; subst h9)
        go_ret2
        exact ⟨_, rfl, World.ownsRow_nil _ _ _ _, below_same _⟩
      · by_cases hxn : (n : Int) < x
        · clear hbad
          go_enter Tryz.func28, Tryz.ntmps28
          go_wp2_with (go_at_call 35; refine (rhas_ok HS.out HK.out hq).mono ?_; rintro e w9 ⟨rfl, h9⟩; have h9 := h9.symm; subst h9)
          go_ret2
          exact ⟨_, rfl, World.ownsRow_nil _ _ _ _, below_same _⟩
        · have hm0 : m < 0 := by omega
          clear hbad
          go_enter Tryz.func28, Tryz.ntmps28
          go_wp2_with (go_at_call 35; refine (rhas_ok HS.out HK.out hq).mono ?_; rintro e w9 ⟨rfl, h9⟩; have h9 := h9.symm; subst h9)
          go_ret2
          exact ⟨_, rfl, World.ownsRow_nil _ _ _ _, below_same _⟩
    · obtain ⟨X, rfl⟩ : ∃ X : Nat, x = X := ⟨x.toNat, by omega⟩
      have hXn : X ≤ n := by omega
      have hm0 : 0 ≤ m := by omega
      cases hon : S.on q
      · have HE : Hid (readI S q X m = 63) := by show _ = _; rw [HI.out, ← HN.out, if_neg hbad, hon]; rfl
        have HZ : Hid (readL S q X m = []) := by show _ = _; rw [HLL.out, HE.out]; rfl
        rw [HE.out, HZ.out]
        rw [hon] at p1
        clear hbad hon
        go_enter Tryz.func28, Tryz.ntmps28
        go_wp2_with (go_at_call 35; refine (rhas_ok HS.out HK.out hq).mono ?_; rintro e w9 ⟨rfl, h9⟩; have h9 := h9.symm; subst h9)
        go_ret2
        exact ⟨_, rfl, World.ownsRow_nil _ _ _ _, below_same _⟩
      · have HE : Hid (readI S q X m = 0) := by show _ = _; rw [HI.out, ← HN.out, if_neg hbad, hon]; rfl
        have HZ : Hid (readL S q X m = ((S.logs q).drop X).take m.toNat) := by show _ = _; rw [HLL.out, HE.out]; rfl
        rw [HE.out, HZ.out]
        rw [hon] at p1
        clear hbad hon
        have hd1 : decide (n < X) = false := decide_eq_false (by omega)
        have hd2 : decide ((n : Int) < (X : Int)) = false := decide_eq_false (by omega)
        have hd3 : decide ((X : Int) < 0) = false := decide_eq_false (by omega)
        have hd4 : decide (m < 0) = false := decide_eq_false (by omega)
        go_enter Tryz.func28, Tryz.ntmps28
        go_wp2_with (go_at_call 35; refine (rhas_ok HS.out HK.out hq).mono ?_; rintro e w9 ⟨rfl, h9⟩; have h9 := h9.symm; subst h9)
        have R0 : Rd6 w (S.logs q) X n m (.slice (some ⟨w.heap.size, 0, none⟩) 0 0) (.int .i64 X) (w.alloc (Obj.cells #[] 38)) :=
          ⟨0, _, _, by omega, hm0, rfl, rfl, World.ownsRow_made w #[] 0 (Nat.le_refl _) (by simp [maxLen]) (by simp), below_alloc _ _⟩
        clear c0 c1 p0 p1
        go_loopw [11, 12] (fun lv iv wr => Rd6 w (S.logs q) X n m lv iv wr) (fun _ iv _ => n - (intOf iv).toNat)
        case atStart => exact R0
        case round =>
          clear R0
          obtain ⟨k, lo, lc, hkn, hkm, hiv, hlv, hrow, hB⟩ := hrel
          subst hiv
          subst hlv
          obtain ⟨i, hi⟩ : ∃ i, i = X + k := ⟨_, rfl⟩
          rw [← hi] at hkn ⊢
          have HIX : Hid (i = X + k) := hi
          have HROW : Hid (wr.ownsRow w.heap.size 38 2 (.slice lo k lc) k (flatR (((S.logs q).drop X).take k))) := hrow
          have HB : Hid (Below w.heap.size w wr) := hB
          have HS1 : Hid (RM D wr sb gp gq lv rv S) := HS.out.below hB
          have hk6 : k ≤ 256 := by omega
          clear hrow hB hi
          by_cases hin : i < n
          · have hil : (i : Int) < (n : Int) := by omega
            by_cases hkl : (k : Int) < m
            · have c0 := HS1.out.c0
              have p0 : wr.cell? ⟨gp, q, none⟩ = some (.slice ao n cap) := by rw [HS1.out.p0 hq, HRV.out]
              have HIL : Hid (i < (S.logs q).length) := by show _ < _; rw [← HN.out]; exact hin
              obtain ⟨⟨ao2, cp2, e2, _, _, _, hRl⟩, hrok⟩ := HS1.out.recs HK.out hq
              rw [HRV.out] at e2
              simp only [Value.slice.injEq] at e2
              replace e2 := e2.1
              subst e2
              obtain ⟨b, off, hao, d0, d1⟩ := Rl.get hRl HIL.out
              subst hao
              obtain ⟨r, hre⟩ : ∃ r, r = (S.logs q)[i]'HIL.out := ⟨_, rfl⟩
              rw [← hre] at d0 d1
              have HLT : Hid (((S.logs q).drop X).take k ++ [r] = ((S.logs q).drop X).take (k + 1)) := by
                have hl2 : k < ((S.logs q).drop X).length := by have := HIL.out; have := HIX.out; simp; omega
                show _ = _
                rw [List.take_succ_eq_append_getElem hl2, List.getElem_drop, hre]
                congr 2
                simp only [HIX.out]
              clear hre hRl hrok
              go_wp2_with (at_builtin; refine wpList_append_rec1 (by rfl) _ _ 47 (by rfl) w.heap.size 38 Tryz.underlying47 info_rec _ k (((S.logs q).drop X).take k) (by rfl) (HROW.out.alloc _) _ r (by rfl) (by simp [go_sem]) (by simp [go_sem]) (by omega) (by have := HB.out.size; simp; omega) ?_; intro lo2 lc2 w7 hrow7 hgrow7)
              have HR7 : Hid (Rd6 w (S.logs q) X n m (.slice lo2 (k + 1) lc2) (.int .i64 ((i : Int) + 1)) w7) := by
                refine ⟨k + 1, lo2, lc2, by have := HIX.out; omega, by omega, by have := HIX.out; simp; omega, rfl, by rw [← HLT.out]; exact hrow7, ?_⟩
                exact (HB.out.alloc HB.out.size _).grown hgrow7 (by have := HB.out.size; simp; omega) (by intro j hj; exact (HROW.out.lt j hj).1)
              clear hrow7 hgrow7
              go_wp2_with fail
              go_roundw
              case rel => exact HR7.out
              case measure => simp [intOf]; omega
            · have HKE : Hid (m.toNat = k) := by show _ = _; omega
              go_wp2_with fail
              go_ret2
              refine ⟨_, rfl, ?_, HB.out⟩
              rw [HKE.out]
              have e2 : min k ((S.logs q).length - X) = k := by have := HIX.out; have := HN.out; omega
              rw [e2]
              exact HROW.out
          · have hil : ¬ ((i : Int) < (n : Int)) := by omega
            go_wp2_with fail
            go_ret2
            refine ⟨_, rfl, ?_, HB.out⟩
            have e2 : min m.toNat ((S.logs q).length - X) = k := by have := HIX.out; have := HN.out; omega
            have e1 : ((S.logs q).drop X).take m.toNat = ((S.logs q).drop X).take k := by
              rw [List.take_of_length_le (by have := HIX.out; have := HN.out; simp; omega), List.take_of_length_le (by have := HIX.out; have := HN.out; simp; omega)]
            rw [e1, e2]
            exact HROW.out
  · have HE : Hid (readI S p x m = 60) := by show _ = _; unfold readI; rw [if_neg hh]
    have HZ : Hid (readL S p x m = []) := by show _ = _; unfold readL; rw [HE.out]; rfl
    rw [HE.out, HZ.out]
    have HN : Hid (p < 0 ∨ (S.np : Int) ≤ p) := not_has hh
    clear hh
    go_enter Tryz.func28, Tryz.ntmps28
    go_wp2_with (go_at_call 35; refine (rhas_no HS.out HK.out HN.out).mono ?_; rintro e w9 ⟨rfl, h9⟩; have h9 := h9.symm; subst h9)
    go_ret2
    exact ⟨_, rfl, World.ownsRow_nil _ _ _ _, below_same _⟩
end
end Go.Proofs.YtfgeabcdcepfdaaGreat
