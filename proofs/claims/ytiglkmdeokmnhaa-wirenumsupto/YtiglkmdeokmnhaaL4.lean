/- The walk of the statement WireNums. -/
import Derived.Test.YtiglkmdeokmnhaaL2
namespace Go.Proofs.Ytiglkmdeokmnhaa
open Go.RowKit

theorem tnums_encAll (xs : List Nat) : ∀ (pre acc r : List Nat), (∀ x ∈ xs, x < 18446744073709551616) →
    Wm.tnums xs.length (pre ++ Wm.encAll xs ++ r) pre.length acc = if ∀ x ∈ xs, x ≤ 4611686018427387904 then (acc ++ xs, pre.length + (Wm.encAll xs).length, 0) else ([], 0, 4) := by
  induction xs with
  | nil => intro pre acc r _; simp [Wm.tnums, Wm.encAll]
  | cons x xs ih =>
    intro pre acc r hx
    have hd : (pre ++ Wm.encAll (x :: xs) ++ r).drop pre.length = Wm.enc x ++ (Wm.encAll xs ++ r) := by
      simp [Wm.encAll, List.append_assoc]
    have ht := Wm.take_enc x (Wm.encAll xs ++ r) (hx x (by simp))
    rw [List.length_cons, Wm.tnums, hd, ht]
    simp only
    by_cases hb : 4611686018427387904 < x
    · rw [if_pos hb, if_neg]
      intro h; have := h x (by simp); omega
    · rw [if_neg hb]
      have h := ih (pre ++ Wm.enc x) (acc ++ [x]) r (fun y hy => hx y (by simp [hy]))
      have e1 : pre ++ Wm.enc x ++ Wm.encAll xs ++ r = pre ++ Wm.encAll (x :: xs) ++ r := by simp [Wm.encAll]
      rw [e1, List.length_append] at h
      rw [h]
      by_cases ha : ∀ y ∈ xs, y ≤ 4611686018427387904
      · rw [if_pos ha, if_pos (by intro y hy; rcases List.mem_cons.1 hy with rfl | hy; · omega
                                  · exact ha y hy)]
        simp [Wm.encAll, Nat.add_assoc]
      · rw [if_neg ha, if_neg (fun h' => ha fun y hy => h' y (by simp [hy]))]

theorem takeNums_numsB (l : List Int) (r : List Nat) (hl : l.length < 9223372036854775808) (hx : ∀ x ∈ l, x < 9223372036854775808) :
    Wm.takeNums (numsB l ++ r) (l.length : Int) = if ∀ x ∈ l.map Int.toNat, x ≤ 4611686018427387904 then (l.map Int.toNat, (numsB l).length, 0) else ([], 0, 4) := by
  have ht := Wm.take_enc l.length (Wm.encAll (l.map Int.toNat) ++ r) (by omega)
  have e : numsB l ++ r = Wm.enc l.length ++ (Wm.encAll (l.map Int.toNat) ++ r) := by simp [numsB]
  rw [takeNums_go (c := l.length) (p := (Wm.enc l.length).length) (by rw [e]; exact ht) (by omega)]
  have h := tnums_encAll (l.map Int.toNat) (Wm.enc l.length) [] r (fun y hy => by
    obtain ⟨x, hx', rfl⟩ := List.mem_map.1 hy
    have := hx x hx'; omega)
  rw [List.length_map] at h
  unfold numsB
  rw [h, List.length_append]
  simp

theorem small_all {l : List Int} {k : Nat} {x : Int} (hk : k < l.length) (hx : l.getD k 0 = x) (hb : (4611686018427387904 : Int) < x) : ¬ ∀ y ∈ l.map Int.toNat, y ≤ 4611686018427387904 := by
  intro h
  have e : l.getD k 0 = l[k] := by simp [List.getD, List.getElem?_eq_getElem hk]
  have := h l[k].toNat (List.mem_map.2 ⟨l[k], List.getElem_mem hk, rfl⟩)
  rw [← e, hx] at this
  omega

theorem all_small {l : List Int} (h : ∀ i, i < l.length → l.getD i 0 ≤ 4611686018427387904) : ∀ y ∈ l.map Int.toNat, y ≤ 4611686018427387904 := by
  intro y hy
  obtain ⟨x, hx, rfl⟩ := List.mem_map.1 hy
  obtain ⟨i, hi, rfl⟩ := List.getElem_of_mem hx
  have := h i hi
  simp [List.getD, List.getElem?_eq_getElem hi] at this
  omega

theorem ib_toNat {l : List Int} (h : ∀ x ∈ l, 0 ≤ x) : ib (l.map Int.toNat) = l := by
  unfold ib
  rw [List.map_map]
  conv => rhs; rw [← List.map_id l]
  refine List.map_congr_left fun x hx => ?_
  have := h x hx
  simp; omega

theorem numsB_lt {l : List Int} (hl : l.length < 9223372036854775808) (hx : ∀ x ∈ l, x < 9223372036854775808) : ∀ c ∈ numsB l, c < 256 := by
  intro c hc
  rcases List.mem_append.1 hc with h | h
  · exact Wm.enc_lt l.length (by omega) c h
  · refine encAll_lt (l.map Int.toNat) (fun y hy => ?_) c h
    obtain ⟨x, hx', rfl⟩ := List.mem_map.1 hy
    have := hx x hx'; omega

theorem Sv.cellAt {k : IntKind} {w : World} {ao : Option Addr} {n cap : Nat} {l : List Int} (h : Sv k w (.slice ao n cap) l) (i : Nat) (hi : i < l.length) : ∃ b off, ao = some ⟨b, off, none⟩ ∧ w.cell? ⟨b, off + i, none⟩ = some (.int k (l.getD i 0)) := by
  obtain ⟨ao', cap', e, _, _, _, h4⟩ := h
  simp only [Value.slice.injEq] at e
  obtain ⟨rfl, _, _⟩ := e
  exact h4 i hi

/-- Nums' answers, as a caller takes them. -/
theorem nums_got {w : World} {v : Value} {l : List Int} {q : List Nat} {er : Nat} (h : Sv .i64 w v l) (hsz : 10 + 10 * l.length ≤ 140737488355328) (hin : ∀ x ∈ l, x < 9223372036854775808) (hq : numsA l = (q, er)) (hl : ∀ c ∈ q, c < 256) :
    Calls Try.prog 27 #[v] w fun e w' => ∃ ao cap, e = .returned (.tuple #[.slice ao q.length cap, .int .i64 er]) ∧ Bv w' (.slice ao q.length cap) q ∧ Below w.heap.size w w' := by
  refine (nums_walk h hsz hin).mono fun e w' hh => ?_
  obtain ⟨v', h1, h2, h3⟩ := hh
  rw [hq] at h1 h2
  obtain ⟨ao, cap, rfl⟩ := own_form h2
  exact ⟨ao, cap, h1, own_bv h2 hl, h3⟩
theorem rnums_got {w : World} {v : Value} {l : List Int} {q : List Nat} {er : Nat} (h : Sv .i64 w v l) (hsz : 10 + 10 * l.length ≤ 140737488355328) (hin : ∀ x ∈ l, x < 9223372036854775808) (hq : numsA l = (q, er)) (hl : ∀ c ∈ q, c < 256) :
    Calls Try.prog 28 #[v] w fun e w' => ∃ ao cap, e = .returned (.tuple #[.slice ao q.length cap, .int .i64 er]) ∧ Bv w' (.slice ao q.length cap) q ∧ Below w.heap.size w w' := by
  refine (rnums_walk h hsz hin).mono fun e w' hh => ?_
  obtain ⟨v', h1, h2, h3⟩ := hh
  rw [hq] at h1 h2
  obtain ⟨ao, cap, rfl⟩ := own_form h2
  exact ⟨ao, cap, h1, own_bv h2 hl, h3⟩

set_option maxRecDepth 100000 in
set_option maxHeartbeats 4000000 in
theorem nums_law (u v : Value) (l : List Int) (r : List Nat) (w : World) (hu : Sv .i64 w u l) (hv : Bv w v r) (hn : l.length ≤ 1048576) (hr : r.length ≤ 1048576) (hin : ∀ x ∈ l, x < 9223372036854775808) :
    Calls Try.prog 6 #[u, v] w fun e w' => e = .returned (.bool true) ∧ Below w.heap.size w w' := by
  have HU : Hid (Sv .i64 w u l) := hu
  have HV : Hid (Bv w v r) := hv
  have HN : Hid (l.length ≤ 1048576) := hn
  have HRL : Hid (r.length ≤ 1048576) := hr
  have HIN : Hid (∀ x ∈ l, x < 9223372036854775808) := hin
  have hnl : (l.length : Int) ≤ 1048576 := by omega
  obtain ⟨a1, c1, rfl⟩ := sv_form hu
  obtain ⟨a0, c0, rfl⟩ := bv_form hv
  clear hu hv hn hr hin
  go_enter Try.func6, Try.ntmps6
  go_wp2_with fail
  refine (awake_walk w).mono ?_
  rintro e w1 ⟨rfl, B1⟩
  have HB1 : Hid (Below w.heap.size w w1) := B1
  have HU1 : Hid (Sv .i64 w1 (.slice a1 l.length c1) l) := HU.out.below B1
  clear B1
  by_cases hneg : ∀ x ∈ l, 0 ≤ x
  · obtain ⟨q, hq⟩ : ∃ q, q = numsB l := ⟨_, rfl⟩
    have HQ : Hid (numsA l = (q, 0)) := by show _ = _; rw [hq]; unfold numsA; rw [if_pos hneg]
    have HQB : Hid (q = numsB l) := hq
    have HQ2 : Hid (∀ c ∈ q, c < 256) := by show ∀ c ∈ q, c < 256; rw [hq]; exact numsB_lt (by have := HN.out; omega) HIN.out
    have HQL : Hid (q.length ≤ 10 + 10 * l.length) := by show _ ≤ _; rw [hq]; exact numsB_len l
    have HNEG : Hid (∀ x ∈ l, 0 ≤ x) := hneg
    clear hq hneg
    go_wp2_with fail
    refine (nums_got HU1.out (by have := HN.out; omega) HIN.out HQ.out HQ2.out).mono ?_
    rintro e w2 ⟨a2, c2, rfl, P2, B2⟩
    have HB2 : Hid (Below w.heap.size w w2) := below_trans HB1.out B2
    have HP2 : Hid (Bv w2 (.slice a2 q.length c2) q) := P2
    have HU2 : Hid (Sv .i64 w2 (.slice a1 l.length c1) l) := HU1.out.below B2
    clear P2 B2
    go_wp2_with fail
    refine (rnums_got HU2.out (by have := HN.out; omega) HIN.out HQ.out HQ2.out).mono ?_
    rintro e w3 ⟨a3, c3, rfl, P3, B3⟩
    have HB3 : Hid (Below w.heap.size w w3) := below_trans HB2.out B3
    have r2 := str_of (HP2.out.below B3)
    have r3 := str_of P3
    have HP3 : Hid (Bv w3 (.slice a2 q.length c2) q) := HP2.out.below B3
    have HU3 : Hid (Sv .i64 w3 (.slice a1 l.length c1) l) := HU2.out.below B3
    have HV3 : Hid (Bv w3 (.slice a0 r.length c0) r) := HV.out.below HB3.out
    clear P3 B3
    obtain ⟨t, ht⟩ : ∃ t, t = q ++ r := ⟨_, rfl⟩
    have HT : Hid (t = q ++ r) := ht
    clear ht
    go_wp2_with fail
    refine (join_got HP3.out HV3.out HT.out (by have := HQL.out; have := HRL.out; have := HN.out; omega)).mono ?_
    rintro e w4 ⟨a4, c4, rfl, P4, B4⟩
    have HB4 : Hid (Below w.heap.size w w4) := below_trans HB3.out B4
    have HP4 : Hid (Bv w4 (.slice a4 t.length c4) t) := P4
    have HU4 : Hid (Sv .i64 w4 (.slice a1 l.length c1) l) := HU3.out.below B4
    have HTL : Hid (t.length * 8 ≤ 140737488355328) := by show _ ≤ _; rw [HT.out, List.length_append]; have := HQL.out; have := HRL.out; have := HN.out; omega
    clear P4 B4 r2 r3
    have hans : Hid (Wm.takeNums t (l.length : Int) = if ∀ x ∈ l.map Int.toNat, x ≤ 4611686018427387904 then (l.map Int.toNat, q.length, 0) else ([], 0, 4)) := by
      show _ = _
      rw [HT.out, HQB.out]
      exact takeNums_numsB l r (by have := HN.out; omega) HIN.out
    by_cases hall : ∀ x ∈ l.map Int.toNat, x ≤ 4611686018427387904
    · have HA : Hid (Wm.takeNums t (l.length : Int) = (l.map Int.toNat, q.length, 0)) := by show _ = _; rw [hans.out, if_pos hall]
      have HS : Hid (∀ i, i < l.length → l.getD i 0 ≤ 4611686018427387904) := by
        intro i hi
        have e : l.getD i 0 = l[i] := by simp [List.getD, List.getElem?_eq_getElem hi]
        have := hall l[i].toNat (List.mem_map.2 ⟨l[i], List.getElem_mem hi, rfl⟩)
        have := HNEG.out l[i] (List.getElem_mem hi)
        rw [e]; omega
      have HI : Hid (ib (l.map Int.toNat) = l) := ib_toNat HNEG.out
      clear hall
      go_wp2_with fail
      refine (takenums_got HP4.out HTL.out (by have := HN.out; omega) HA.out).mono ?_
      rintro e w5 ⟨a5, c5, he, P5, B5⟩
      rw [HI.out] at he P5
      subst he
      have HB5 : Hid (Below w.heap.size w w5) := below_trans HB4.out B5
      have HP5 : Hid (Sv .i64 w5 (.slice a5 l.length c5) l) := P5
      have HU5 : Hid (Sv .i64 w5 (.slice a1 l.length c1) l) := HU4.out.below B5
      clear P5 B5
      go_wp2_with fail
      go_loop [11] (fun iv => ∃ k : Nat, k ≤ l.length ∧ iv = .int .i64 k) (fun iv => l.length - (intOf iv).toNat)
      case atStart => exact ⟨0, Nat.zero_le _, rfl⟩
      case round =>
        obtain ⟨k, hk, rfl⟩ := hrel
        by_cases hlt : (k : Int) < (l.length : Int)
        · obtain ⟨b, off, e1, hcell⟩ := HU5.out.cellAt k (by omega)
          subst e1
          obtain ⟨x, hx⟩ : ∃ x, l.getD k 0 = x := ⟨_, rfl⟩
          have hxb : decide ((4611686018427387904 : Int) < x) = false := by
            have := HS.out k (by omega)
            rw [hx] at this
            exact decide_eq_false (by omega)
          rw [hx] at hcell
          clear hx
          go_wp2_with fail
          go_round
          case rel => exact ⟨k + 1, by omega, by go_num⟩
          case measure => simp [intOf]; omega
        · go_wp2_with fail
          refine (ints_walk HP5.out HU5.out).mono ?_
          rintro e w6 ⟨rfl, B6⟩
          have HB6 : Hid (Below w.heap.size w w6) := below_trans HB5.out B6
          clear B6
          go_wp2_with fail
          go_ret
          exact ⟨rfl, HB6.out⟩
    · have HA : Hid (Wm.takeNums t (l.length : Int) = ([], 0, 4)) := by show _ = _; rw [hans.out, if_neg hall]
      have HNA : Hid (¬ ∀ x ∈ l.map Int.toNat, x ≤ 4611686018427387904) := hall
      clear hall
      go_wp2_with fail
      refine (takenums_got HP4.out HTL.out (by have := HN.out; omega) HA.out).mono ?_
      rintro e w5 ⟨a5, c5, he, P5, B5⟩
      have he' : e = .returned (.tuple #[.slice a5 0 c5, .int .i64 0, .int .i64 4]) := he
      subst he'
      have HB5 : Hid (Below w.heap.size w w5) := below_trans HB4.out B5
      have HU5 : Hid (Sv .i64 w5 (.slice a1 l.length c1) l) := HU4.out.below B5
      clear P5 B5 he
      go_wp2_with fail
      go_loop [11] (fun iv => ∃ k : Nat, k ≤ l.length ∧ iv = .int .i64 k ∧ ∀ i, i < k → l.getD i 0 ≤ 4611686018427387904) (fun iv => l.length - (intOf iv).toNat)
      case atStart => exact ⟨0, Nat.zero_le _, rfl, fun i hi => by omega⟩
      case round =>
        obtain ⟨k, hk, rfl, hsm⟩ := hrel
        have HSM : Hid (∀ i, i < k → l.getD i 0 ≤ 4611686018427387904) := hsm
        clear hsm
        by_cases hlt : (k : Int) < (l.length : Int)
        · obtain ⟨b, off, e1, hcell⟩ := HU5.out.cellAt k (by omega)
          subst e1
          obtain ⟨x, hx⟩ : ∃ x, l.getD k 0 = x := ⟨_, rfl⟩
          have HXi : Hid (l.getD k 0 = x) := hx
          rw [hx] at hcell
          clear hx
          by_cases hb : (4611686018427387904 : Int) < x
          · go_wp2_with fail
            go_ret
            exact ⟨rfl, HB5.out⟩
          · have hxb : decide ((4611686018427387904 : Int) < x) = false := decide_eq_false hb
            have HXB : Hid (x ≤ 4611686018427387904) := by show x ≤ _; omega
            clear hb
            go_wp2_with fail
            go_round
            case rel =>
              refine ⟨k + 1, by omega, by go_num, fun i hi => ?_⟩
              by_cases h : i < k
              · exact HSM.out i h
              · obtain rfl : i = k := by omega
                rw [HXi.out]; exact HXB.out
            case measure => simp [intOf]; omega
        · exact absurd (all_small fun i hi => HSM.out i (by omega)) HNA.out
  · have HQ : Hid (numsA l = ([], 1)) := by show _ = _; unfold numsA; rw [if_neg hneg]
    clear hneg
    go_wp2_with fail
    refine (nums_got HU1.out (by have := HN.out; omega) HIN.out HQ.out (by simp)).mono ?_
    rintro e w2 ⟨a2, c2, rfl, P2, B2⟩
    have HB2 : Hid (Below w.heap.size w w2) := below_trans HB1.out B2
    have HP2 : Hid (Bv w2 (.slice a2 0 c2) []) := P2
    have HU2 : Hid (Sv .i64 w2 (.slice a1 l.length c1) l) := HU1.out.below B2
    clear P2 B2
    go_wp2_with fail
    refine (rnums_got HU2.out (by have := HN.out; omega) HIN.out HQ.out (by simp)).mono ?_
    rintro e w3 ⟨a3, c3, rfl, P3, B3⟩
    have HB3 : Hid (Below w.heap.size w w3) := below_trans HB2.out B3
    have P3' : Bv w3 (.slice a3 0 c3) [] := P3
    have r2 := str_of (HP2.out.below B3)
    have r3 := str_of P3'
    clear P3 B3 P3'
    go_wp2_with fail
    go_ret
    exact ⟨rfl, HB3.out⟩
end Go.Proofs.Ytiglkmdeokmnhaa
