/- FbitBounds: the roads put together. -/
import Derived.Test.YtjieoemknocikaaL6
namespace Go.Proofs.Ytjieoemknocikaa
open Ieee Go.RowKit

theorem ord_lt' {x y : Nat} (hx : x < 18446744073709551616) (hy : y < 18446744073709551616) (nx : nanB x = false) (ny : nanB y = false) (h : key x < key y) : FloatKind.f64.format.order x y = some .lt := by
  rcases order_cases hx hy nx ny rfl with ⟨o, k⟩ | ⟨o, k⟩ | ⟨o, k⟩
  · exact o
  · omega
  · omega
theorem ord_gt' {x y : Nat} (hx : x < 18446744073709551616) (hy : y < 18446744073709551616) (nx : nanB x = false) (ny : nanB y = false) (h : key y < key x) : FloatKind.f64.format.order x y = some .gt := by
  rcases order_cases hx hy nx ny rfl with ⟨o, k⟩ | ⟨o, k⟩ | ⟨o, k⟩
  · omega
  · omega
  · exact o
theorem ord_eq' {x y : Nat} (hx : x < 18446744073709551616) (hy : y < 18446744073709551616) (nx : nanB x = false) (ny : nanB y = false) (h : key x = key y) : FloatKind.f64.format.order x y = some .eq := by
  rcases order_cases hx hy nx ny rfl with ⟨o, k⟩ | ⟨o, k⟩ | ⟨o, k⟩
  · omega
  · exact o
  · omega
theorem ord_ngt {x y : Nat} (hx : x < 18446744073709551616) (hy : y < 18446744073709551616) (nx : nanB x = false) (ny : nanB y = false) (h : key x ≤ key y) : (FloatKind.f64.format.order x y == some .gt) = false := by
  rcases order_cases hx hy nx ny rfl with ⟨o, k⟩ | ⟨o, k⟩ | ⟨o, k⟩
  · rw [o]; rfl
  · rw [o]; rfl
  · omega
theorem ord_nlt {x y : Nat} (hx : x < 18446744073709551616) (hy : y < 18446744073709551616) (nx : nanB x = false) (ny : nanB y = false) (h : key y ≤ key x) : (FloatKind.f64.format.order x y == some .lt) = false := by
  rcases order_cases hx hy nx ny rfl with ⟨o, k⟩ | ⟨o, k⟩ | ⟨o, k⟩
  · omega
  · rw [o]; rfl
  · rw [o]; rfl

theorem sub_self {x : Nat} (hx : x < 18446744073709551616) (h : rung x < 9218868437227405312) : FloatKind.f64.format.sub x x = some 0 := by
  show Ieee.double.sub x x = some 0
  unfold Format.sub
  rw [read_num hx h]
  generalize negB x = s
  generalize mag (rung x) = m
  generalize (-1074 + (sh (rung x) : Int)) = p
  simp only [Datum.opposite, Datum.sum, Option.map_some, Format.write]
  have e : signed s m (p - min p p).toNat + signed (!s) m (p - min p p).toNat = 0 := by
    unfold signed; cases s <;> simp <;> omega
  rw [e, if_pos rfl, Int.natAbs_zero]
  cases s
  · exact congrArg some (nearest_zero false _)
  · exact congrArg some (nearest_zero false _)
theorem sub_inf {x : Nat} (hx : x < 18446744073709551616) (h : rung x = 9218868437227405312) : FloatKind.f64.format.sub x x = none := by
  show Ieee.double.sub x x = none
  unfold Format.sub
  rw [read_inf hx h]
  cases negB x <;> rfl

theorem c52 : key 4841369599423283200 = 4841369599423283200 ∧ key 14064741636278059008 = -4841369599423283200 ∧ key 4890909195324358656 = 4890909195324358656 ∧ key 14114281232179134464 = -4890909195324358656 ∧ key 0 = 0 := by decide
theorem k52 : scaleR 4607182418800017408 52 = 4841369599423283200 := by decide
theorem k63 : scaleR 4607182418800017408 63 = 4890909195324358656 := by decide
theorem kn52 : Op.unary .neg (.float .f64 4841369599423283200) = pure (.float .f64 14064741636278059008) := by
  rw [show Op.unary .neg (.float .f64 4841369599423283200) = pure (.float .f64 (Op.negFloat .f64 4841369599423283200)) from rfl, show Op.negFloat .f64 4841369599423283200 = 14064741636278059008 by decide]
theorem kn63 : Op.unary .neg (.float .f64 4890909195324358656) = pure (.float .f64 14114281232179134464) := by
  rw [show Op.unary .neg (.float .f64 4890909195324358656) = pure (.float .f64 (Op.negFloat .f64 4890909195324358656)) from rfl, show Op.negFloat .f64 4890909195324358656 = 14114281232179134464 by decide]
theorem zz0 : FloatKind.f64.format.order 0 0 = some .eq := by decide

/-- From 2^52 on the whole part's float is the float itself. -/
theorem of_whole_big {x : Nat} (hx : x < 18446744073709551616) (h1 : 4841369599423283200 ≤ rung x) (h2 : rung x < 4890909195324358656 ∨ (rung x = 4890909195324358656 ∧ negB x = true)) : ofW (wholeI x) = x := by
  have hn : nanB x = false := by unfold nanB; simp; omega
  have hs : 1074 ≤ sh (rung x) := by unfold sh; omega
  have hw : wn (rung x) = mag (rung x) * 2 ^ (sh (rung x) - 1074) := by unfold wn; rw [if_pos hs]
  have hp : 0 < wn (rung x) := by
    rw [hw]; exact Nat.mul_pos (by unfold mag; split <;> omega) (Nat.two_pow_pos _)
  have e3 := nearest_scale (negB x) (mag (rung x)) (-1074 + (sh (rung x) : Nat)) (sh (rung x) - 1074)
  rw [show (-1074 : Int) + (sh (rung x) : Nat) - ((sh (rung x) - 1074 : Nat) : Int) = 0 by omega, nearest_rung _ (by omega), word_self hx, ← hw] at e3
  have e : wholeI x = if negB x then -(wn (rung x) : Int) else wn (rung x) := by
    unfold wholeI; rw [hn, if_neg (by simp)]
    rcases h2 with h2 | ⟨h2, h3⟩
    · rw [if_neg (by omega)]
    · rw [if_pos (by omega), h3, h2, wn_end]; rfl
  rw [e]
  unfold ofW
  cases sg : negB x
  · rw [sg] at e3
    simp only [Bool.false_eq_true, if_false]
    rw [decide_eq_false (by omega), Int.natAbs_natCast]; exact e3
  · rw [sg] at e3
    simp only [if_true]
    rw [decide_eq_true (by omega), Int.natAbs_neg, Int.natAbs_natCast]; exact e3

theorem bounds_small {x : Nat} (hx : x < 18446744073709551616) (h0 : rung x ≠ 0) (hl : rung x < 4841369599423283200) (w : World) :
    Calls Try.prog 8 #[.float .f64 x] w fun e w' => e = .returned (.bool true) ∧ ∃ n, w' = w.drewN n := by
  have hn : nanB x = false := by unfold nanB; simp; omega
  obtain ⟨q1, q2, q3, q4, q5⟩ := c52
  have sx := ord_eq' hx hx hn hn rfl
  have hs := sub_self hx (by omega)
  obtain ⟨f1, f2⟩ := floor_int hx hl h0
  obtain ⟨w1, w2⟩ := whole_int hn hl
  obtain ⟨a1, a2, a3⟩ := whole_above hn hl
  have hff := (of_exact (n := floorI x) (by omega)).2
  have ha := plus_one (a := floorI x) (by omega)
  have hF := of_lt (floorI x)
  have hv := Nat.div_add_mod (V (rung x)) UU
  have hm : V (rung x) % UU < UU := Nat.mod_lt _ UU_pos
  rw [← wn_V, Nat.mul_comm] at hv
  have hws := wn_small hl
  have kx : key x = if negB x then -(rung x : Int) else rung x := rfl
  have o1 : FloatKind.f64.format.order 4841369599423283200 x = some .gt := ord_gt' (by omega) hx (by decide) hn (by rw [q1, kx]; split <;> omega)
  have o2 : FloatKind.f64.format.order x 14064741636278059008 = some .gt := ord_gt' hx (by omega) hn (by decide) (by rw [q2, kx]; split <;> omega)
  have o4 : FloatKind.f64.format.order x 4890909195324358656 = some .lt := ord_lt' hx (by omega) hn (by decide) (by rw [q3, kx]; split <;> omega)
  have o5 : FloatKind.f64.format.order x 14114281232179134464 = some .gt := ord_gt' hx (by omega) hn (by decide) (by rw [q4, kx]; split <;> omega)
  cases sg : negB x
  · have e : wholeI x = wn (rung x) := by rw [w1, sg]; rfl
    have e' : floorI x = wn (rung x) := by unfold floorI; rw [sg]; rfl
    have hT : ofW (wholeI x) = ofW (floorI x) := by rw [e, e']
    have ox0 : FloatKind.f64.format.order x 0 = some .gt := ord_gt' hx (by omega) hn (by decide) (by rw [q5, kx, sg]; simp; omega)
    have o3 : FloatKind.f64.format.order (ofW (floorI x + 1)) x = some .gt := by
      refine ord_gt' (of_lt _) hx (of_nan _) hn ?_
      rw [of_key, kx, sg, e', if_neg (show ¬ ((wn (rung x) : Int) + 1 < 0) by omega), show ((wn (rung x) : Int) + 1).natAbs = wn (rung x) + 1 by omega]
      have := (key_cmp (M := wn (rung x) + 1) (r := rung x) (by omega)).2.2 (by rw [Nat.add_mul]; omega)
      simp; omega
    have hk := a2 sg
    rw [hT] at hk
    rcases order_cases hF hx (of_nan _) hn rfl with ⟨o, k⟩ | ⟨o, k⟩ | ⟨o, k⟩
    · exact bd_small_p_lt hx w hF sx hs zz0 k52 k63 kn52 kn63 ox0 f1 hff hT ha o1 o2 o3 o4 o5 o
    · exact bd_small_p_eq hx w hF sx hs zz0 k52 k63 kn52 kn63 ox0 f1 hff hT ha o1 o2 o3 o4 o5 o
    · omega
  · have e : wholeI x = -(wn (rung x) : Int) := by rw [w1, sg]; rfl
    have e' : floorI x = -(fk true (rung x) : Int) := by unfold floorI; rw [sg]; rfl
    have ox0 : FloatKind.f64.format.order x 0 = some .lt := ord_lt' hx (by omega) hn (by decide) (by rw [q5, kx, sg]; simp; omega)
    by_cases c : V (rung x) % UU = 0
    · have ef : fk true (rung x) = wn (rung x) := by unfold fk; rw [c]; simp
      have hT : ofW (wholeI x) = ofW (floorI x) := by rw [e, e', ef]
      have hk := a3 sg
      have hk2 : ¬ key x < key (ofW (wholeI x)) := fun k => (a1.1 k).2 c
      rw [hT] at hk hk2
      have oT : FloatKind.f64.format.order (ofW (floorI x)) x = some .eq := ord_eq' hF hx (of_nan _) hn (by omega)
      have hw0 : wn (rung x) ≠ 0 := by
        intro z
        rw [z, Nat.zero_mul, c] at hv
        have v0 : V 0 = 0 := by decide
        exact h0 (V_inj (hv.symm.trans v0.symm))
      have o3 : FloatKind.f64.format.order (ofW (floorI x + 1)) x = some .gt := by
        refine ord_gt' (of_lt _) hx (of_nan _) hn ?_
        rw [of_key, kx, sg, e', ef, show (-(wn (rung x) : Int) + 1).natAbs = wn (rung x) - 1 by omega]
        have hlt : (wn (rung x) - 1) * UU < V (rung x) := by
          have hu := UU_pos
          have : (wn (rung x) - 1) * UU + UU = wn (rung x) * UU := by rw [← Nat.succ_mul]; congr 1; omega
          omega
        have := (key_cmp (M := wn (rung x) - 1) (r := rung x) (by omega)).1.2 hlt
        simp only [if_true]
        split <;> omega
      exact bd_small_n_eq hx w hF sx hs zz0 k52 k63 kn52 kn63 ox0 f1 hff hT ha o1 o2 o3 o4 o5 oT
    · have ef : fk true (rung x) = wn (rung x) + 1 := by unfold fk; rw [if_pos ⟨rfl, c⟩]
      have hT : ofW (wholeI x) = ofW (floorI x + 1) := by rw [e, e', ef]; congr 1; omega
      have hk := a1.2 ⟨sg, c⟩
      rw [hT] at hk
      have o3 : FloatKind.f64.format.order (ofW (floorI x + 1)) x = some .gt := ord_gt' (of_lt _) hx (of_nan _) hn hk
      have oF : FloatKind.f64.format.order (ofW (floorI x)) x = some .lt := by
        refine ord_lt' hF hx (of_nan _) hn ?_
        rw [of_key, kx, sg, e', ef, if_pos (show -((wn (rung x) + 1 : Nat) : Int) < 0 by omega), show (-((wn (rung x) + 1 : Nat) : Int)).natAbs = wn (rung x) + 1 by omega]
        have := (key_cmp (M := wn (rung x) + 1) (r := rung x) (by omega)).2.2 (by rw [Nat.add_mul]; omega)
        simp; omega
      have oFF := ord_eq' hF hF (of_nan _) (of_nan _) rfl
      have hb := sub_one (a := floorI x + 1) (by omega)
      rw [show floorI x + 1 - 1 = floorI x by omega] at hb
      exact bd_small_n_gt hx w hF sx hs zz0 k52 k63 kn52 kn63 ox0 f1 hff hT ha o1 o2 o3 o4 o5 oF oFF hb

theorem bounds_big {x : Nat} (hx : x < 18446744073709551616) (h1 : 4841369599423283200 ≤ rung x) (h2 : rung x < 9218868437227405312) (w : World) :
    Calls Try.prog 8 #[.float .f64 x] w fun e w' => e = .returned (.bool true) ∧ ∃ n, w' = w.drewN n := by
  have hn : nanB x = false := by unfold nanB; simp; omega
  obtain ⟨q1, q2, q3, q4, q5⟩ := c52
  have sx := ord_eq' hx hx hn hn rfl
  have hs := sub_self hx h2
  have hf := floor_big hx h2 h1
  have kx : key x = if negB x then -(rung x : Int) else rung x := rfl
  cases sg : negB x
  · rw [sg] at kx
    simp only [Bool.false_eq_true, if_false] at kx
    have ox0 : FloatKind.f64.format.order x 0 = some .gt := ord_gt' hx (by omega) hn (by decide) (by omega)
    have o1 : (FloatKind.f64.format.order 4841369599423283200 x == some .gt) = false := ord_ngt (by omega) hx (by decide) hn (by omega)
    by_cases c : rung x < 4890909195324358656
    · exact bd_mid_p hx w sx hs zz0 k52 k63 kn52 kn63 ox0 hf (of_whole_big hx h1 (.inl c)) o1 (ord_lt' hx (by omega) hn (by decide) (by omega)) (ord_gt' hx (by omega) hn (by decide) (by omega))
    · have hw : (wholeI x == 9223372036854775807) = true := by
        have : wholeI x = 9223372036854775807 := by unfold wholeI; rw [hn, sg, if_neg (by simp), if_pos (by omega)]; rfl
        rw [this]; rfl
      by_cases c2 : rung x = 4890909195324358656
      · exact bd_big_p_eq hx w sx hs zz0 k52 k63 kn52 kn63 ox0 hf hw o1 (ord_eq' hx (by omega) hn (by decide) (by omega))
      · exact bd_big_p_gt hx w sx hs zz0 k52 k63 kn52 kn63 ox0 hf hw o1 (ord_gt' hx (by omega) hn (by decide) (by omega))
  · rw [sg] at kx
    simp only [if_true] at kx
    have ox0 : FloatKind.f64.format.order x 0 = some .lt := ord_lt' hx (by omega) hn (by decide) (by omega)
    have o1 : FloatKind.f64.format.order 4841369599423283200 x = some .gt := ord_gt' (by omega) hx (by decide) hn (by omega)
    have o2 : (FloatKind.f64.format.order x 14064741636278059008 == some .gt) = false := ord_ngt hx (by omega) hn (by decide) (by omega)
    have o4 : FloatKind.f64.format.order x 4890909195324358656 = some .lt := ord_lt' hx (by omega) hn (by decide) (by omega)
    by_cases c : rung x ≤ 4890909195324358656
    · exact bd_mid_n hx w sx hs zz0 k52 k63 kn52 kn63 ox0 hf (of_whole_big hx h1 (by by_cases z : rung x = 4890909195324358656; exact .inr ⟨z, sg⟩; left; omega)) o1 o2 o4 (ord_nlt hx (by omega) hn (by decide) (by omega))
    · have hw : (wholeI x == -9223372036854775808) = true := by
        have : wholeI x = -9223372036854775808 := by unfold wholeI; rw [hn, sg, if_neg (by simp), if_pos (by omega)]; rfl
        rw [this]; rfl
      exact bd_big_n hx w sx hs zz0 k52 k63 kn52 kn63 ox0 hf hw o1 o2 o4 (ord_lt' hx (by omega) hn (by decide) (by omega))

theorem bounds_walk {x : Nat} (hx : x < 18446744073709551616) (w : World) :
    Calls Try.prog 8 #[.float .f64 x] w fun e w' => e = .returned (.bool true) ∧ ∃ n, w' = w.drewN n := by
  obtain ⟨q1, q2, q3, q4, q5⟩ := c52
  cases hn : nanB x
  · have hr := nan_f hn
    have sx := ord_eq' hx hx hn hn rfl
    have kx : key x = if negB x then -(rung x : Int) else rung x := rfl
    by_cases hi : rung x = 9218868437227405312
    · have hf : floorW x = x := by
        unfold floorW
        rw [hn, read_inf hx hi]
        simp only [Bool.false_eq_true, if_false, Datum.integral, Format.write, ir]
        rw [← hi]; exact word_self hx
      cases sg : negB x
      · rw [sg] at kx
        simp only [Bool.false_eq_true, if_false] at kx
        refine bd_inf_p hx w sx (sub_inf hx hi) hf (ord_gt' hx (by omega) hn (by decide) (by omega)) ?_
        have : wholeI x = 9223372036854775807 := by unfold wholeI; rw [hn, sg, if_neg (by simp), if_pos (by omega)]; rfl
        rw [this]; rfl
      · rw [sg] at kx
        simp only [if_true] at kx
        refine bd_inf_n hx w sx (sub_inf hx hi) hf (ord_lt' hx (by omega) hn (by decide) (by omega)) ?_
        have : wholeI x = -9223372036854775808 := by unfold wholeI; rw [hn, sg, if_neg (by simp), if_pos (by omega)]; rfl
        rw [this]; rfl
    · by_cases h0 : rung x = 0
      · have hf : floorW x = x := by
          rw [floor_fk hx (by omega), h0]
          have v0 : V 0 = 0 := by decide
          have hk : fk (negB x) 0 = 0 := by unfold fk; rw [wn_V, v0, Nat.zero_div, Nat.zero_mod]; simp
          rw [hk, nearest_zero, ← h0]; exact word_self hx
        have hw : wholeI x = 0 := by
          have v0 : V 0 = 0 := by decide
          unfold wholeI; rw [hn, h0, if_neg (by simp), if_neg (by omega), wn_V, v0, Nat.zero_div]; split <;> rfl
        exact bd_zero hx w sx (sub_self hx (by omega)) zz0 hf (ord_eq' hx (by omega) hn (by decide) (by rw [q5, kx, h0]; split <;> rfl)) hw
      · by_cases hl : rung x < 4841369599423283200
        · exact bounds_small hx h0 hl w
        · exact bounds_big hx (by omega) (by omega) w
  · exact bd_nan hx w (order_nan_left hx hn) (by unfold floorW; rw [hn]; rfl) (by unfold wholeI; rw [hn]; rfl)

end Go.Proofs.Ytjieoemknocikaa
