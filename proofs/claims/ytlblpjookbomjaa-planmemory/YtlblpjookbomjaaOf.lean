/- Comparisons of the laws: same, lists; lists of pairs in memory. -/
import Derived.Test.YtlblpjookbomjaaOe

import Derived.Maps.AppendAt

import Derived.OneCell

namespace Go.Proofs.Ytlblpjookbomjaa

open Go.RowKit



theorem eq_val (v : Vl) (w : World) : (Op.equalIn 9999 41 (.agg #[.bool v.h, .int .u64 v.b]) (.agg #[.bool v.h, .int .u64 v.b])).run Try.prog w = .ok true w := by
  have u0 := Try.underlying4
  have u1 := Try.underlying29
  have a0 := Try.isAgg4
  have a1 := Try.isAgg29
  have z0 := Try.sizeOf4
  have z1 := Try.sizeOf29
  have hS : Try.prog.underlying 41 = some (.struct (Try.prog.fieldsOf 41)) := by kernel_rfl
  have hp : Try.prog.stoodInHeld 41 = false := by kernel_rfl
  rw [show (9999 : Nat) = 9998 + 1 from rfl, run_equalIn_agg w 9998 41 _ _ hS hp]
  simp only [Program.fieldsOf, Try.underlying41]
  go_simp


theorem eq_val' (v : Vl) (w : World) : (Op.equalIn 10000 41 (.agg #[.bool v.h, .int .u64 v.b]) (.agg #[.bool v.h, .int .u64 v.b])).run Try.prog w = .ok true w := by
  have u0 := Try.underlying4
  have u1 := Try.underlying29
  have a0 := Try.isAgg4
  have a1 := Try.isAgg29
  have z0 := Try.sizeOf4
  have z1 := Try.sizeOf29
  have hS : Try.prog.underlying 41 = some (.struct (Try.prog.fieldsOf 41)) := by kernel_rfl
  have hp : Try.prog.stoodInHeld 41 = false := by kernel_rfl
  rw [show (10000 : Nat) = 9999 + 1 from rfl, run_equalIn_agg w 9999 41 _ _ hS hp]
  simp only [Program.fieldsOf, Try.underlying41]
  go_simp


theorem eq_pair (p : Pr) (w : World) : (Op.equalIn 10000 43 (.agg #[.int .u64 p.k, .bool p.v.h, .int .u64 p.v.b]) (.agg #[.int .u64 p.k, .bool p.v.h, .int .u64 p.v.b])).run Try.prog w = .ok true w := by
  have u1 := Try.underlying29
  have a1 := Try.isAgg29
  have a2 := Try.isAgg41
  have z1 := Try.sizeOf29
  have z2 := Try.sizeOf41
  have hv := eq_val p.v
  have hS : Try.prog.underlying 43 = some (.struct (Try.prog.fieldsOf 43)) := by kernel_rfl
  have hp : Try.prog.stoodInHeld 43 = false := by kernel_rfl
  rw [show (10000 : Nat) = 9999 + 1 from rfl, run_equalIn_agg w 9999 43 _ _ hS hp]
  simp only [Program.fieldsOf, Try.underlying43]
  go_simp


theorem neq_pair (p : Pr) (w : World) : (binOp .neq 43 (.agg #[.int .u64 p.k, .bool p.v.h, .int .u64 p.v.b]) (.agg #[.int .u64 p.k, .bool p.v.h, .int .u64 p.v.b])).run Try.prog w = .ok (.bool false) w := by
  rw [run_neq_struct, eq_pair]; rfl
theorem guard_pair : Try.prog.eqGuardType Try.prog.depth 43 = false := by kernel_rfl


set_option maxHeartbeats 1000000 in
theorem same_walk {ao bo : Option Addr} {ca cb : Nat} {l : List Pr} {w : World} (hl : l.length ≤ maxLen) (ha : Ql w ao l) (hb : Ql w bo l) :
    Calls Try.prog 22 #[.slice ao l.length ca, .slice bo l.length cb] w fun e w' => e = .returned (.bool true) ∧ Below w.heap.size w w' := by
  have hli : (l.length : Int) ≤ 9223372036854775807 := by simp only [maxLen] at hl; omega
  have HA : Hid (Ql w ao l) := ha
  have HB : Hid (Ql w bo l) := hb
  have hgd := guard_pair
  clear ha hb hl
  go_enter Try.func22, Try.ntmps22
  go_wp2_with fail
  go_loopw [5] (fun iv wr => ∃ k : Nat, k ≤ l.length ∧ iv = .int .i64 k ∧ Below w.heap.size w wr) (fun iv _ => l.length - (intOf iv).toNat)
  case atStart => exact ⟨0, Nat.zero_le _, rfl, below_same _⟩
  case round =>
    obtain ⟨k, hk, rfl, hB⟩ := hrel
    have HW : Hid (Below w.heap.size w wr) := hB
    clear hB
    by_cases hlt : k < l.length
    · obtain ⟨b, off, rfl, c0, c1, c2⟩ := HA.out.below HW.out k hlt
      obtain ⟨d, doff, rfl, d0, d1, d2⟩ := HB.out.below HW.out k hlt
      obtain ⟨o, hoe⟩ : ∃ o, o = l[k] := ⟨_, rfl⟩
      rw [← hoe] at c0 c1 c2 d0 d1 d2
      have hn := neq_pair o
      clear hoe
      go_wp2_with fail
      go_quiet (fail)
      go_wp2_with fail
      go_roundw
      case rel => exact ⟨k + 1, by omega, by go_num, below_trans HW.out (below_drewN _ _)⟩
      case measure => simp [intOf]; omega
    · go_wp2_with fail
      go_ret
      exact ⟨rfl, HW.out⟩




theorem Qv.form {w : World} {v : Value} {l : List Pr} (h : Qv w v l) : ∃ ao cap, v = .slice ao l.length cap ∧ l.length ≤ maxLen ∧ Ql w ao l := by
  obtain ⟨⟨ao, cap, e, h1, h2, _, h4⟩, _⟩ := h
  exact ⟨ao, cap, e, Nat.le_trans h1 h2, h4⟩
theorem samev_walk {a b : Value} {l : List Pr} {w : World} (ha : Qv w a l) (hb : Qv w b l) :
    Calls Try.prog 22 #[a, b] w fun e w' => e = .returned (.bool true) ∧ Below w.heap.size w w' := by
  obtain ⟨ao, ca, rfl, h1, h2⟩ := ha.form
  obtain ⟨bo, cb, rfl, _, h4⟩ := hb.form
  exact same_walk h1 h2 h4


/-- The value v is a slice of n slices that hold the pairs ls 0, ls 1, .. -/
def Lq (w : World) (v : Value) (n : Nat) (ls : Nat → List Pr) : Prop :=
  ∃ ao cap, v = .slice ao n cap ∧ n ≤ cap ∧ cap ≤ maxLen ∧ ∀ i, i < n → ∃ b off u, ao = some ⟨b, off, none⟩ ∧ w.cell? ⟨b, off + i, none⟩ = some u ∧ Qv w u (ls i)
theorem Lq.below {w w' : World} {v : Value} {n : Nat} {ls : Nat → List Pr} (h : Lq w v n ls) (hb : Below w.heap.size w w') : Lq w' v n ls := by
  obtain ⟨ao, cap, e, h1, h2, h3⟩ := h
  refine ⟨ao, cap, e, h1, h2, fun i hi => ?_⟩
  obtain ⟨b, off, u, e1, c, q⟩ := h3 i hi
  exact ⟨b, off, u, e1, by rw [hb.cell (p := ⟨b, off + i, none⟩) (cell_lt c)]; exact c, q.below hb⟩
theorem lists_walk {a b : Value} {n : Nat} {ls : Nat → List Pr} {w : World} (ha : Lq w a n ls) (hb : Lq w b n ls) :
    Calls Try.prog 19 #[a, b] w fun e w' => e = .returned (.bool true) ∧ Below w.heap.size w w' := by
  obtain ⟨ao, ca, rfl, a1, a2, a3⟩ := ha
  obtain ⟨bo, cb, rfl, b1, b2, b3⟩ := hb
  have HA : Hid (Lq w (.slice ao n ca) n ls) := ⟨ao, ca, rfl, a1, a2, a3⟩
  have HB : Hid (Lq w (.slice bo n cb) n ls) := ⟨bo, cb, rfl, b1, b2, b3⟩
  have hli : (n : Int) ≤ 9223372036854775807 := by simp only [maxLen] at a2; omega
  clear a1 a2 a3 b1 b2 b3
  go_enter Try.func19, Try.ntmps19
  go_wp2_with fail
  go_loopw [5] (fun iv wr => ∃ k : Nat, k ≤ n ∧ iv = .int .i64 k ∧ Below w.heap.size w wr) (fun iv _ => n - (intOf iv).toNat)
  case atStart => exact ⟨0, Nat.zero_le _, rfl, below_same _⟩
  case round =>
    obtain ⟨k, hk, rfl, hB⟩ := hrel
    have HW : Hid (Below w.heap.size w wr) := hB
    clear hB
    by_cases hlt : k < n
    · obtain ⟨_, _, e1, _, _, h3⟩ := HA.out.below HW.out
      cases e1
      obtain ⟨b, off, u, rfl, c0, q0⟩ := h3 k hlt
      obtain ⟨_, _, e2, _, _, h4⟩ := HB.out.below HW.out
      cases e2
      obtain ⟨d, doff, z, rfl, d0, q1⟩ := h4 k hlt
      clear h3 h4
      have HQ0 : Hid (Qv wr u (ls k)) := q0
      have HQ1 : Hid (Qv wr z (ls k)) := q1
      obtain ⟨uo, uc, rfl, _, _⟩ := q0.form
      obtain ⟨zo, zc, rfl, _, _⟩ := q1.form
      have k0 : ∀ wx, Below wr.heap.size wr wx → wx.cell? ⟨b, off + k, none⟩ = some (.slice uo (ls k).length uc) := fun wx h => by rw [h.cell (p := ⟨b, off + k, none⟩) (cell_lt c0)]; exact c0
      have k1 : ∀ wx, Below wr.heap.size wr wx → wx.cell? ⟨d, doff + k, none⟩ = some (.slice zo (ls k).length zc) := fun wx h => by rw [h.cell (p := ⟨d, doff + k, none⟩) (cell_lt d0)]; exact d0
      clear c0 d0 q0 q1
      go_wp2_with fail
      refine wp_region_noPanic ?_
      refine wp_region_held_drew (S := fun wx => Below wr.heap.size wr wx) (by kernel_rfl) ?_ (fun hHeld => ?_)
      · exact below_drw _
      refine wpAnyH_take (i := 0) (oi := ⟨some 17, _, _, _, _, _⟩) (v := ?_) rfl (by kernel_rfl) (by kernel_rfl) (by kernel_rfl) (fun _ _ _ h => h) (Or.inl ⟨by rfl, ?_⟩) hHeld ?_
      rotate_left
      · intro w hSw; (try dsimp only at hSw); go_simp; all_goals (with_reducible rfl)
      try simp only [Act.put, List.setIfInBounds_toArray, List.set_cons_zero, List.set_cons_succ]
      refine wpAnyH_take (i := 1) (oi := ⟨some 18, _, _, _, _, _⟩) (v := ?_) rfl (by kernel_rfl) (by kernel_rfl) (by kernel_rfl) (fun _ _ _ h => h) (Or.inl ⟨by rfl, ?_⟩) hHeld ?_
      rotate_left
      · intro w hSw; (try dsimp only at hSw); go_simp; all_goals (with_reducible rfl)
      try simp only [Act.put, List.setIfInBounds_toArray, List.set_cons_zero, List.set_cons_succ]
      refine wpAnyH_take (i := 2) (oi := ⟨some 19, _, _, _, _, _⟩) (v := ?_) rfl (by kernel_rfl) (by kernel_rfl) (by kernel_rfl) (fun _ _ _ h => h) (Or.inl ⟨by rfl, ?_⟩) hHeld ?_
      rotate_left
      · intro w hSw; (try dsimp only at hSw); go_simp; all_goals (with_reducible rfl)
      try simp only [Act.put, List.setIfInBounds_toArray, List.set_cons_zero, List.set_cons_succ]
      refine wpAnyH_take (i := 3) (oi := ⟨some 20, _, _, _, _, _⟩) (v := ?_) rfl (by kernel_rfl) (by kernel_rfl) (by kernel_rfl) (fun _ _ _ h => h) (Or.inl ⟨by rfl, ?_⟩) hHeld ?_
      rotate_left
      · intro w hSw; (try dsimp only at hSw); go_simp; all_goals (with_reducible rfl)
      try simp only [Act.put, List.setIfInBounds_toArray, List.set_cons_zero, List.set_cons_succ]
      refine wpAnyH_take (i := 4) (oi := ⟨some 21, _, _, _, _, _⟩) (v := ?_) rfl (by kernel_rfl) (by kernel_rfl) (by kernel_rfl) (fun _ _ _ h => h) (Or.inl ⟨by rfl, ?_⟩) hHeld ?_
      rotate_left
      · intro w hSw; (try dsimp only at hSw); go_simp; all_goals (with_reducible rfl)
      try simp only [Act.put, List.setIfInBounds_toArray, List.set_cons_zero, List.set_cons_succ]
      refine wpAnyH_take (i := 5) (oi := ⟨some 22, _, _, _, _, _⟩) (v := ?_) rfl (by kernel_rfl) (by kernel_rfl) (by kernel_rfl) (fun _ _ _ h => h) (Or.inl ⟨by rfl, ?_⟩) hHeld ?_
      rotate_left
      · intro w hSw; (try dsimp only at hSw); go_simp; all_goals (with_reducible rfl)
      try simp only [Act.put, List.setIfInBounds_toArray, List.set_cons_zero, List.set_cons_succ]
      refine wpAnyH_take (i := 6) (oi := ⟨some 23, _, _, _, _, _⟩) (v := ?_) rfl (by kernel_rfl) (by kernel_rfl) (by kernel_rfl) (fun _ _ _ h => h) (Or.inl ⟨by rfl, ?_⟩) hHeld ?_
      rotate_left
      · intro w hSw; (try dsimp only at hSw); go_simp; all_goals (with_reducible rfl)
      try simp only [Act.put, List.setIfInBounds_toArray, List.set_cons_zero, List.set_cons_succ]
      refine wpAnyH_take (i := 7) (oi := ⟨some 24, _, _, _, _, _⟩) (v := ?_) rfl (by kernel_rfl) (by kernel_rfl) (by kernel_rfl) (fun _ _ _ h => h) (Or.inl ⟨by rfl, ?_⟩) hHeld ?_
      rotate_left
      · intro w hSw; (try dsimp only at hSw); go_simp; all_goals (with_reducible rfl)
      try simp only [Act.put, List.setIfInBounds_toArray, List.set_cons_zero, List.set_cons_succ]
      refine wpAnyH_ready (rs := [8]) (by kernel_rfl) (by simp) ?_
      refine AllReadyH.cons (o := ⟨some 25, _, _, _, _, _⟩) rfl (fun K hK => ?_) AllReadyH.nil
      go_simp
      refine (samev_walk (HQ0.out.below hHeld) (HQ1.out.below hHeld)).mono ?_
      rintro e w2 ⟨rfl, hB2⟩
      refine hK.out _ _ ?_ (fun hHeld => ?_)
      · exact below_trans hHeld hB2
      clear hK K
      try simp only [Act.put, List.setIfInBounds_toArray, List.set_cons_zero, List.set_cons_succ]
      refine wpAnyH_take (i := 9) (oi := ⟨some 26, _, _, _, _, _⟩) (v := ?_) rfl (by kernel_rfl) (by kernel_rfl) (by kernel_rfl) (fun _ _ _ h => h) (Or.inl ⟨by rfl, ?_⟩) hHeld ?_
      rotate_left
      · intro w hSw; (try dsimp only at hSw); go_simp; all_goals (with_reducible rfl)
      try simp only [Act.put, List.setIfInBounds_toArray, List.set_cons_zero, List.set_cons_succ]
      refine wpAnyH_done (by kernel_rfl) ?_ _
      refine NoPanic.normal ?_
      go_wp2_with fail
      go_roundw
      case rel => exact ⟨k + 1, by omega, by go_num, below_trans HW.out hHeld⟩
      case measure => simp [intOf]; omega
    · go_wp2_with fail
      go_ret
      exact ⟨rfl, HW.out⟩


/-- Lists in a row of the call's own, each in a row of its own. -/
structure Dl (B : Nat) (w : World) (v : Value) (n : Nat) (vs : Nat → Value) (ls : Nat → List Pr) : Prop where
  row : w.ownsRow B 34 1 v n ((List.range n).map vs)
  own : ∀ i, i < n → w.ownsRow B 43 3 (vs i) (ls i).length (flatQ (ls i))


theorem info_pair : (Try.prog.info? 43).map (fun i => (i.zero, i.size, i.bytes)) = some (some (.agg #[.int .u64 0, .bool false, .int .u64 0]), 3, 24) := by kernel_rfl
theorem info_sp : (Try.prog.info? 34).map (fun i => (i.zero, i.size, i.bytes)) = some (some (.slice none 0 0), 1, 24) := by kernel_rfl


theorem own_qv {w : World} {B e : Nat} {v : Value} {l : List Pr} (h : w.ownsRow B e 3 v l.length (flatQ l)) (hok : okT l) : Qv w v l := by
  have hh := h
  rcases h.2 with ⟨rfl, h0⟩ | ⟨g, cap, cur, rfl, hg, hp, hnc, hcm, hcs, htk⟩
  · obtain rfl := List.eq_nil_of_length_eq_zero h0
    exact ⟨⟨none, 0, rfl, Nat.le_refl _, by simp [maxLen], fun _ => rfl, fun i hi => by simp at hi⟩, by simp⟩
  · have := mq_qv (own_mq hh) (Nat.le_refl _) hnc hcm hok
    rwa [List.take_length] at this
theorem own_ne {w : World} {B B' e e' s s' n n' : Nat} {v v' : Value} {xs xs' : List Value} (h : w.ownsRow B e s v n xs) (h' : w.ownsRow B' e' s' v' n' xs') (hne : e ≠ e') : v.ownBlock = none ∨ v.ownBlock ≠ v'.ownBlock := by
  rcases h.2 with ⟨rfl, _⟩ | ⟨g, cap, cur, rfl, _, hp, _⟩
  · exact .inl rfl
  · rcases h'.2 with ⟨rfl, _⟩ | ⟨g', cap', cur', rfl, _, hp', _⟩
    · exact .inr (by simp [Value.ownBlock])
    · refine .inr ?_
      intro he
      simp [Value.ownBlock] at he
      subst he
      rw [hp] at hp'
      simp at hp'
      exact hne hp'.2
theorem Dl.lq {B : Nat} {w : World} {v : Value} {n : Nat} {vs : Nat → Value} {ls : Nat → List Pr} (h : Dl B w v n vs ls) (hok : ∀ i, i < n → okT (ls i)) : Lq w v n ls := by
  rcases h.row.2 with ⟨rfl, h0⟩ | ⟨g, cap, cur, rfl, hg, hp, hnc, hcm, hcs, htk⟩
  · subst h0
    exact ⟨none, 0, rfl, Nat.le_refl _, by simp [maxLen], fun i hi => by omega⟩
  · refine ⟨_, cap, rfl, hnc, hcm, fun i hi => ⟨g, 0, vs i, rfl, ?_, own_qv (h.own i hi) (hok i hi)⟩⟩
    rw [Nat.zero_add, cell_of_row w g i cur _ (0, 0) hp]
    have e := congrArg (fun x => x[i]?) htk
    simp only [List.getElem?_take, Nat.mul_one, hi, if_true, Array.getElem?_toList] at e
    rw [e]
    simp [hi]
theorem Dl.below {B : Nat} {w w' : World} {v : Value} {n : Nat} {vs : Nat → Value} {ls : Nat → List Pr} (h : Dl B w v n vs ls) (hb : Below w.heap.size w w') : Dl B w' v n vs ls := by
  refine ⟨h.row.kept (grown_of_below hb) ?_, fun i hi => own3_below (h.own i hi) hb⟩
  cases hv : v.ownBlock
  · exact Or.inl rfl
  · exact Or.inr (by simp)
end Go.Proofs.Ytlblpjookbomjaa


