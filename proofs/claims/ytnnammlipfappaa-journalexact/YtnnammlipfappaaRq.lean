/- JournalExact: the walk. -/
import Derived.Test.YtnnammlipfappaaRx

import Derived.Deep.DeepCutAuto

import Derived.Deep.CutBlock

import Derived.Deep.CutRange

namespace Go.Proofs.Ytnnammlipfappaa

open Ieee Go.RowKit



set_option maxRecDepth 100000 in
set_option maxHeartbeats 16000000 in
theorem journalexact_walk {w : World} {v : Value} {l : List Oj} (n q : Int) (hv : Scr w v l) (hlen : l.length ≤ 140737488355328) : Calls Try.prog 3 #[.int .i64 n, .int .i64 q, v] w fun e w' => e = .returned (.bool true) ∧ Below w.heap.size w w' := by
  have HV : Hid (Scr w v l) := hv
  have HLEN : Hid (l.length ≤ 140737488355328) := hlen
  obtain ⟨va, vc, rfl, _, _⟩ := hv
  have hll : (l.length : Int) ≤ 140737488355328 := by omega
  clear hlen
  go_enter Try.func3, Try.ntmps3
  go_wp2_with fail
  refine (awake18_walk w).mono ?_
  rintro e w1 ⟨rfl, hB1⟩
  have HB1 : Hid (Below w.heap.size w w1) := hB1
  clear hB1
  go_wp2_with fail
  refine (jformat_nil (w := w1) q).mono ?_
  rintro e w2 ⟨rfl, h2⟩
  replace h2 := h2.symm
  subst h2
  go_wp2_with fail
  refine (jopen_nil (w := w1) q).mono ?_
  rintro e w2 ⟨rfl, h2⟩
  replace h2 := h2.symm
  subst h2
  by_cases hbad : n < 1 ∨ 64 < n
  · have HBAD : Hid (n < 1 ∨ 64 < n) := hbad
    clear hbad
    go_wp2_with fail
    refine (new_bad HBAD.out).mono ?_
    rintro e w2 ⟨rfl, h2⟩
    replace h2 := h2.symm
    subst h2
    go_wp2_with fail
    refine (rnew_bad HBAD.out).mono ?_
    rintro e w2 ⟨rfl, h2⟩
    replace h2 := h2.symm
    subst h2
    go_wp2_with fail
    go_ret
    exact ⟨rfl, HB1.out⟩
  obtain ⟨m, rfl, hm1, hm64⟩ : ∃ m : Nat, n = (m : Int) ∧ 1 ≤ m ∧ m ≤ 64 := ⟨n.toNat, by omega, by omega, by omega⟩
  have HM : Hid (1 ≤ m ∧ m ≤ 64) := ⟨hm1, hm64⟩
  clear hbad hm1 hm64
  go_wp2_with fail
  refine (new_walk HM.out.1 HM.out.2).mono ?_
  rintro e w2 ⟨dv, D0, rfl, hD, hB2, hx2⟩
  obtain ⟨L, hL⟩ : ∃ L : List (List Nat), L = List.replicate m [] := ⟨_, rfl⟩
  rw [← hL] at hD
  have HL : Hid (L.length < 2 → L = [[]]) := by
    intro h
    have h1 := HM.out.1
    rw [hL, List.length_replicate] at h
    obtain rfl : m = 1 := by omega
    rw [hL]
    rfl
  have HL0 := hidH hL
  clear hL
  obtain ⟨sb, _, _, rfl, _⟩ := id hD
  have HD2 := hidH hD
  have HB2 := hidH hB2
  have HX2 := hidH hx2
  clear hD hB2 hx2
  go_wp2_with fail
  refine (rnew_walk HM.out.1 HM.out.2).mono ?_
  rintro e w3 ⟨xv, D1, rfl, hD, hB3, hx3⟩
  rw [← HL0.out] at hD
  obtain ⟨rb, _, _, rfl, _⟩ := id hD
  have HT3 : Hid (Tw w (fun _ => False) sb rb (.pointer none) (.pointer none) none none (loadS L) (rdS (loadS L) 0) w3) := tw_start HB1.out HD2.out HX2.out HB2.out hD hx3 hB3
  have HNE : Hid (∀ z : Int, (z != z) = false) := fun z => by simp
  have HNB : Hid (∀ z : Bool, (z != z) = false) := fun z => by simp
  clear hD hB3 hx3 HD2 HB2 HX2
  go_wp2_with fail
  refine (tw_format HT3.out q (by show (0 : Nat) < 9223372036854775800; decide)).mono ?_
  rintro e w4 ⟨jv4, rfl, ht4, _⟩
  obtain ⟨fi, hfi⟩ : ∃ fi, fi = fmtI (loadS L) q := ⟨_, rfl⟩
  rw [← hfi]
  have HFI := hidH hfi
  have HT4 := hidH ht4
  clear hfi ht4
  go_wp2_with fail
  refine (tw_rformat HT4.out q (by show (0 : Nat) < 9223372036854775800; decide)).mono ?_
  rw [fmtI_rdS, ← HFI.out]
  rintro e w5 ⟨kv5, rfl, ht5, _⟩
  have HB5 : Hid (Bt w (fun _ => False) sb rb 0 jv4 kv5 (fmtO (loadS L) q) (fmtS (loadS L) q) 0 w5) := bt_first HL.out ht5
  clear ht5 HT3 HT4 HFI HL HL0 HM
  go_upto_region 13 with fail
  go_cut [77] (fun bv wx => bv = .bool false ∧ wx = w5)
  case first =>
    have hnz := HNE.out
    rcases HB5.out.t.form with ⟨rfl, rfl⟩ | ⟨jb, kb, rfl, rfl⟩
    · go_wp2_with fail
      go_meet
      exact ⟨rfl, rfl⟩
    · go_wp2_with fail
      go_meet
      exact ⟨rfl, rfl⟩
  case rest =>
  obtain ⟨rfl, rfl⟩ := hcut
  go_upto_region 15 with fail
  go_wp2_with fail
  go_loopw [13, 14, 15] (fun jv kv iv wr => ∃ (i : Nat) (o : On) (S : Dk) (r : Nat), iv = .int .i64 i ∧ i ≤ l.length ∧ Bt w (fun _ => False) sb rb i jv kv o S r wr) (fun _ _ iv _ => l.length - (intOf iv).toNat)
  case atStart => exact ⟨0, _, _, _, rfl, Nat.zero_le _, HB5.out⟩
  case round =>
    clear HB5
    obtain ⟨i, o, S, r, rfl, hil, hbt⟩ := hrel
    have HBT := hidH hbt
    clear hbt
    by_cases hlt : i < l.length
    · have hlti : (i : Int) < (l.length : Int) := by omega
      have HLT : Hid (i < l.length) := hlt
      obtain ⟨ao, cap, e0, _, _, hcell⟩ := HV.out
      simp only [Value.slice.injEq] at e0
      obtain ⟨tb, toff, pv, cv, e1, m0, m1, m2, m3, m4, m5, hp, hc, hb64, hn64⟩ := hcell i hlt
      obtain rfl : va = some ⟨tb, toff, none⟩ := e0.1.trans e1
      clear e0 hcell e1
      obtain ⟨pa, pc, rfl, _⟩ := hp.form
      obtain ⟨ca, cc, rfl, _⟩ := hc.form
      have HP := hidH hp
      have HC := hidH hc
      have H64 := hidH hb64
      have HN64 := hidH hn64
      have y0 := (HBT.out.t.bel.cell (p := ⟨tb, toff + i * 6, none⟩) (cell_lt m0)).trans m0
      have y1 := (HBT.out.t.bel.cell (p := ⟨tb, toff + i * 6 + 1, none⟩) (cell_lt m1)).trans m1
      have y2 := (HBT.out.t.bel.cell (p := ⟨tb, toff + i * 6 + 2, none⟩) (cell_lt m2)).trans m2
      have y3 := (HBT.out.t.bel.cell (p := ⟨tb, toff + i * 6 + 3, none⟩) (cell_lt m3)).trans m3
      have y4 := (HBT.out.t.bel.cell (p := ⟨tb, toff + i * 6 + 4, none⟩) (cell_lt m4)).trans m4
      have y5 := (HBT.out.t.bel.cell (p := ⟨tb, toff + i * 6 + 5, none⟩) (cell_lt m5)).trans m5
      clear m0 m1 m2 m3 m4 m5 hp hc hb64 hn64
      generalize ojt l i = x at y0 y1 y2 y3 y4 y5 HP HC H64 HN64
      obtain ⟨w4, hw4⟩ : ∃ w4, w4 = wr.alloc (Obj.cells #[.int .i64 x.k, .int .i64 x.n, .int .i64 x.t.b, .slice pa x.t.p.length pc, .slice ca x.t.c.length cc, .int .i64 x.t.a] 43) := ⟨_, rfl⟩
      obtain ⟨NB, hnb⟩ : ∃ NB, NB = wr.heap.size := ⟨_, rfl⟩
      have HW4 := hidH hw4
      have HNBE := hidH hnb
      have hb4 : Below wr.heap.size wr w4 := by rw [hw4]; exact below_alloc _ _
      have HBK : Hid (w4.heap[NB]? = some (.cells #[.int .i64 x.k, .int .i64 x.n, .int .i64 x.t.b, .slice pa x.t.p.length pc, .slice ca x.t.c.length cc, .int .i64 x.t.a] 43 (0, 0))) := by show _ = _; rw [hw4, hnb]; exact alloc_at rfl
      have HT4 := hidH (HBT.out.t.more hb4)
      have HAN : Hid ((fun x => False ∨ (wr.heap.size ≤ x ∧ x < w4.heap.size)) NB) := .inr ⟨by rw [hnb]; exact Nat.le_refl _, by rw [hnb, hw4, alloc_size]; omega⟩
      obtain ⟨hwr1, hwr2, hrd1, hrd2⟩ := HBT.out.wr (Nat.le_trans hil HLEN.out)
      have HWR := hidH hwr1
      have HWR2 := hidH hwr2
      have HRD := hidH hrd1
      have HRD2 := hidH hrd2
      have n0 : ∀ wx : World, wx.heap[NB]? = some (.cells #[.int .i64 x.k, .int .i64 x.n, .int .i64 x.t.b, .slice pa x.t.p.length pc, .slice ca x.t.c.length cc, .int .i64 x.t.a] 43 (0, 0)) → wx.cell? ⟨NB, 0, none⟩ = some (.int .i64 x.k) := fun wx h => by rw [blk_cell h]; rfl
      have n1 : ∀ wx : World, wx.heap[NB]? = some (.cells #[.int .i64 x.k, .int .i64 x.n, .int .i64 x.t.b, .slice pa x.t.p.length pc, .slice ca x.t.c.length cc, .int .i64 x.t.a] 43 (0, 0)) → wx.cell? ⟨NB, 1, none⟩ = some (.int .i64 x.n) := fun wx h => by rw [blk_cell h]; rfl
      have c0 := n0 w4 HBK.out
      have c1 := n1 w4 HBK.out
      have HN1 := hidH n1
      clear hw4 hnb hb4 hwr1 hwr2 hrd1 hrd2 n0 n1
      go_upto_region 19 with fail
      rw [← HW4.out, ← HNBE.out]
      clear y0 y1 y2 y3 y4 y5
      go_upto_block 2 with fail
      go_cut [8, 10, 13, 14, 17] from 78 to 199 (fun _ _ jv kv _ wx => ∃ (o : On) (S : Dk) (r : Nat), Bt w (fun _ => False) sb rb (i + 1) jv kv o S r wx)
      case first =>
        by_cases hk1 : x.k = 1
        · have b1 : (x.k == 1) = true := by rw [hk1]; decide
          have b2 : (x.k == 2) = false := by rw [hk1]; decide
          have b3 : (x.k == 3) = false := by rw [hk1]; decide
          have b4 : (x.k == 4) = false := by rw [hk1]; decide
          have b5 : (x.k == 5) = false := by rw [hk1]; decide
          have b6 : (x.k == 6) = false := by rw [hk1]; decide
          have b7 : (x.k == 7) = false := by rw [hk1]; decide
          obtain ⟨sv, hsv⟩ : ∃ sv, sv = savOI o S x.t := ⟨_, rfl⟩
          have HSV := hidH hsv
          have hvv : (sv != sv) = false := HNE.out sv
          have n2 : ∀ wx : World, wx.heap[NB]? = some (.cells #[.int .i64 x.k, .int .i64 x.n, .int .i64 x.t.b, .slice pa x.t.p.length pc, .slice ca x.t.c.length cc, .int .i64 x.t.a] 43 (0, 0)) → wx.cell? ⟨NB, 2, none⟩ = some (.int .i64 x.t.b) := fun wx h => by rw [blk_cell h]; rfl
          have n3 : ∀ wx : World, wx.heap[NB]? = some (.cells #[.int .i64 x.k, .int .i64 x.n, .int .i64 x.t.b, .slice pa x.t.p.length pc, .slice ca x.t.c.length cc, .int .i64 x.t.a] 43 (0, 0)) → wx.cell? ⟨NB, 3, none⟩ = some (.slice pa x.t.p.length pc) := fun wx h => by rw [blk_cell h]; rfl
          have n4 : ∀ wx : World, wx.heap[NB]? = some (.cells #[.int .i64 x.k, .int .i64 x.n, .int .i64 x.t.b, .slice pa x.t.p.length pc, .slice ca x.t.c.length cc, .int .i64 x.t.a] 43 (0, 0)) → wx.cell? ⟨NB, 4, none⟩ = some (.slice ca x.t.c.length cc) := fun wx h => by rw [blk_cell h]; rfl
          have n5 : ∀ wx : World, wx.heap[NB]? = some (.cells #[.int .i64 x.k, .int .i64 x.n, .int .i64 x.t.b, .slice pa x.t.p.length pc, .slice ca x.t.c.length cc, .int .i64 x.t.a] 43 (0, 0)) → wx.cell? ⟨NB, 5, none⟩ = some (.int .i64 x.t.a) := fun wx h => by rw [blk_cell h]; rfl
          clear hsv
          go_upto_region 21 with fail
          refine wp_region_noPanic ?_
          refine wp_region_held_drew (S := (fun wx : World => wx.heap[NB]? = some (.cells #[.int .i64 x.k, .int .i64 x.n, .int .i64 x.t.b, .slice pa x.t.p.length pc, .slice ca x.t.c.length cc, .int .i64 x.t.a] 43 (0, 0)))) (by kernel_rfl) ?_ (fun hHeld => ?_)
          · exact (blk_below HBK.out (below_drewN w4 1))
          refine wpAnyH_take (i := 0) (oi := ⟨some 92, _, _, _, _, _⟩) (v := ?_) rfl (by kernel_rfl) (by kernel_rfl) (by kernel_rfl) (fun _ _ _ h => h) (Or.inl ⟨by rfl, ?_⟩) hHeld ?_
          rotate_left
          · intro w hSw; (try dsimp only at hSw); go_simp; all_goals (with_reducible rfl)
          try simp only [Act.put, List.setIfInBounds_toArray, List.set_cons_zero, List.set_cons_succ]
          refine wpAnyH_take (i := 1) (oi := ⟨some 93, _, _, _, _, _⟩) (v := ?_) rfl (by kernel_rfl) (by kernel_rfl) (by kernel_rfl) (fun _ _ _ h => h) (Or.inl ⟨by rfl, ?_⟩) hHeld ?_
          rotate_left
          · intro w hSw; (try dsimp only at hSw); go_simp; all_goals (with_reducible rfl)
          try simp only [Act.put, List.setIfInBounds_toArray, List.set_cons_zero, List.set_cons_succ]
          refine wpAnyH_take (i := 2) (oi := ⟨some 94, _, _, _, _, _⟩) (v := ?_) rfl (by kernel_rfl) (by kernel_rfl) (by kernel_rfl) (fun _ _ _ h => h) (Or.inl ⟨by rfl, ?_⟩) hHeld ?_
          rotate_left
          · intro w hSw; (try dsimp only at hSw); go_simp; all_goals (with_reducible rfl)
          try simp only [Act.put, List.setIfInBounds_toArray, List.set_cons_zero, List.set_cons_succ]
          refine wpAnyH_take (i := 4) (oi := ⟨some 96, _, _, _, _, _⟩) (v := ?_) rfl (by kernel_rfl) (by kernel_rfl) (by kernel_rfl) (fun _ _ _ h => h) (Or.inl ⟨by rfl, ?_⟩) hHeld ?_
          rotate_left
          · intro w hSw; (try dsimp only at hSw); go_simp; all_goals (with_reducible rfl)
          try simp only [Act.put, List.setIfInBounds_toArray, List.set_cons_zero, List.set_cons_succ]
          refine wpAnyH_take (i := 5) (oi := ⟨some 97, _, _, _, _, _⟩) (v := ?_) rfl (by kernel_rfl) (by kernel_rfl) (by kernel_rfl) (fun _ _ _ h => h) (Or.inl ⟨by rfl, ?_⟩) hHeld ?_
          rotate_left
          · intro w hSw; (try dsimp only at hSw); go_simp; all_goals (with_reducible rfl)
          try simp only [Act.put, List.setIfInBounds_toArray, List.set_cons_zero, List.set_cons_succ]
          refine wpAnyH_take (i := 6) (oi := ⟨some 98, _, _, _, _, _⟩) (v := ?_) rfl (by kernel_rfl) (by kernel_rfl) (by kernel_rfl) (fun _ _ _ h => h) (Or.inl ⟨by rfl, ?_⟩) hHeld ?_
          rotate_left
          · intro w hSw; (try dsimp only at hSw); go_simp; all_goals (with_reducible rfl)
          try simp only [Act.put, List.setIfInBounds_toArray, List.set_cons_zero, List.set_cons_succ]
          refine wpAnyH_ready (rs := [3]) (by kernel_rfl) (by simp) ?_
          refine AllReadyH.cons (o := ⟨some 95, _, _, _, _, _⟩) rfl (fun K hK => ?_) AllReadyH.nil
          go_simp
          refine (tw_save (n := x.t) (HT4.out.below (below_drewN w4 1)) HP.out HC.out H64.out HWR.out).mono ?_
          rintro e w5 ⟨rfl, ht5, hk5⟩
          rw [← HSV.out]
          have HT5 := hidH ht5
          have HN5 : Hid (w5.heap[NB]? = some (.cells #[.int .i64 x.k, .int .i64 x.n, .int .i64 x.t.b, .slice pa x.t.p.length pc, .slice ca x.t.c.length cc, .int .i64 x.t.a] 43 (0, 0))) := (hk5 NB HAN.out).trans (blk_below HBK.out (below_drewN w4 1))
          clear ht5 hk5
          refine hK.out _ _ ?_ (fun hHeld => ?_)
          · exact HN5.out
          clear hK K
          try simp only [Act.put, List.setIfInBounds_toArray, List.set_cons_zero, List.set_cons_succ]
          refine wpAnyH_ready (rs := [7]) (by kernel_rfl) (by simp) ?_
          refine AllReadyH.cons (o := ⟨some 99, _, _, _, _, _⟩) rfl (fun K hK => ?_) AllReadyH.nil
          go_simp
          refine (tw_rsave (n := x.t) HT5.out HP.out HC.out HWR2.out).mono ?_
          rw [savOI_rdS, ← HSV.out]
          rintro e w6 ⟨rfl, ht6, hk6⟩
          have HB6 := hidH (bt_save HBT.out.iv ht6 HBT.out.ok)
          have HN6 : Hid (w6.heap[NB]? = some (.cells #[.int .i64 x.k, .int .i64 x.n, .int .i64 x.t.b, .slice pa x.t.p.length pc, .slice ca x.t.c.length cc, .int .i64 x.t.a] 43 (0, 0))) := (hk6 NB HAN.out).trans HN5.out
          clear ht6 hk6
          refine hK.out _ _ ?_ (fun hHeld => ?_)
          · exact HN6.out
          clear hK K
          try simp only [Act.put, List.setIfInBounds_toArray, List.set_cons_zero, List.set_cons_succ]
          refine wpAnyH_take (i := 8) (oi := ⟨some 100, _, _, _, _, _⟩) (v := ?_) rfl (by kernel_rfl) (by kernel_rfl) (by kernel_rfl) (fun _ _ _ h => h) (Or.inl ⟨by rfl, ?_⟩) hHeld ?_
          rotate_left
          · intro w hSw; (try dsimp only at hSw); go_simp; all_goals (with_reducible rfl)
          try simp only [Act.put, List.setIfInBounds_toArray, List.set_cons_zero, List.set_cons_succ]
          refine wpAnyH_done (by kernel_rfl) ?_ _
          refine NoPanic.normal ?_
          clear n2 n3 n4 n5
          go_wp2_with fail
          go_meet
          exact ⟨_, _, _, HB6.out.less⟩
        by_cases hk2 : x.k = 2
        · have b1 : (x.k == 1) = false := by rw [hk2]; decide
          have b2 : (x.k == 2) = true := by rw [hk2]; decide
          have b3 : (x.k == 3) = false := by rw [hk2]; decide
          have b4 : (x.k == 4) = false := by rw [hk2]; decide
          have b5 : (x.k == 5) = false := by rw [hk2]; decide
          have b6 : (x.k == 6) = false := by rw [hk2]; decide
          have b7 : (x.k == 7) = false := by rw [hk2]; decide
          go_wp2_with fail
          refine (tw_cut HT4.out HN64.out).mono ?_
          rintro e w5 ⟨rfl, ht5, hk5⟩
          have c1 := HN1.out w5 ((hk5 NB HAN.out).trans HBK.out)
          have HT5 := hidH ht5
          clear ht5 hk5
          go_wp2_with fail
          refine (tw_rcut HT5.out HN64.out).mono ?_
          rintro e w6 ⟨rfl, ht6, _⟩
          have HB6 := hidH (bt_cut HBT.out.iv ht6)
          clear ht6
          go_wp2_with fail
          go_meet
          exact ⟨_, _, _, HB6.out.less⟩
        by_cases hk3 : x.k = 3
        · have b1 : (x.k == 1) = false := by rw [hk3]; decide
          have b2 : (x.k == 2) = false := by rw [hk3]; decide
          have b3 : (x.k == 3) = true := by rw [hk3]; decide
          have b4 : (x.k == 4) = false := by rw [hk3]; decide
          have b5 : (x.k == 5) = false := by rw [hk3]; decide
          have b6 : (x.k == 6) = false := by rw [hk3]; decide
          have b7 : (x.k == 7) = false := by rw [hk3]; decide
          go_wp2_with fail
          refine (tw_off HT4.out).mono ?_
          rintro e w5 ⟨rfl, ht5, _⟩
          have HT5 := hidH ht5
          clear ht5
          go_wp2_with fail
          refine (tw_roff HT5.out).mono ?_
          rintro e w6 ⟨rfl, ht6, _⟩
          have HB6 := hidH (bt_off HBT.out.iv ht6)
          clear ht6
          go_wp2_with fail
          go_meet
          exact ⟨_, _, _, HB6.out.less⟩
        by_cases hk4 : x.k = 4
        · have b1 : (x.k == 1) = false := by rw [hk4]; decide
          have b2 : (x.k == 2) = false := by rw [hk4]; decide
          have b3 : (x.k == 3) = false := by rw [hk4]; decide
          have b4 : (x.k == 4) = true := by rw [hk4]; decide
          have b5 : (x.k == 5) = false := by rw [hk4]; decide
          have b6 : (x.k == 6) = false := by rw [hk4]; decide
          have b7 : (x.k == 7) = false := by rw [hk4]; decide
          go_wp2_with fail
          refine (tw_on HT4.out).mono ?_
          rintro e w5 ⟨rfl, ht5, _⟩
          have HT5 := hidH ht5
          clear ht5
          go_wp2_with fail
          refine (tw_ron HT5.out).mono ?_
          rintro e w6 ⟨rfl, ht6, _⟩
          have HB6 := hidH (bt_on HBT.out.iv ht6)
          clear ht6
          go_wp2_with fail
          go_meet
          exact ⟨_, _, _, HB6.out.less⟩
        by_cases hk5 : x.k = 5
        · have b1 : (x.k == 1) = false := by rw [hk5]; decide
          have b2 : (x.k == 2) = false := by rw [hk5]; decide
          have b3 : (x.k == 3) = false := by rw [hk5]; decide
          have b4 : (x.k == 4) = false := by rw [hk5]; decide
          have b5 : (x.k == 5) = true := by rw [hk5]; decide
          have b6 : (x.k == 6) = false := by rw [hk5]; decide
          have b7 : (x.k == 7) = false := by rw [hk5]; decide
          obtain ⟨oi, hoi⟩ : ∃ oi, oi = opnI S x.n := ⟨_, rfl⟩
          have HOI := hidH hoi
          clear hoi
          go_wp2_with fail
          refine (tw_open HT4.out x.n HRD.out).mono ?_
          rintro e w5 ⟨jv5, rfl, ht5, _⟩
          rw [← HOI.out]
          have HT5 := hidH ht5
          clear ht5
          go_wp2_with fail
          refine (tw_ropen HT5.out x.n HRD2.out).mono ?_
          rw [opnI_rdS, ← HOI.out]
          rintro e w6 ⟨kv6, rfl, ⟨S3, hsm, ht6⟩, _⟩
          have HB6 := hidH (bt_open HBT.out.iv hsm ht6)
          clear ht6 hsm
          have hnz := HNE.out
          rcases HB6.out.t.form with ⟨rfl, rfl⟩ | ⟨jb, kb, rfl, rfl⟩
          · go_wp2_with fail
            go_meet
            exact ⟨_, _, _, HB6.out.less⟩
          · go_wp2_with fail
            go_meet
            exact ⟨_, _, _, HB6.out.less⟩
        by_cases hk6 : x.k = 6
        · have b1 : (x.k == 1) = false := by rw [hk6]; decide
          have b2 : (x.k == 2) = false := by rw [hk6]; decide
          have b3 : (x.k == 3) = false := by rw [hk6]; decide
          have b4 : (x.k == 4) = false := by rw [hk6]; decide
          have b5 : (x.k == 5) = false := by rw [hk6]; decide
          have b6 : (x.k == 6) = true := by rw [hk6]; decide
          have b7 : (x.k == 7) = false := by rw [hk6]; decide
          obtain ⟨oi, hoi⟩ : ∃ oi, oi = opnI S q := ⟨_, rfl⟩
          have HOI := hidH hoi
          clear hoi
          go_wp2_with fail
          refine (tw_open HT4.out q HRD.out).mono ?_
          rintro e w5 ⟨jv5, rfl, ht5, _⟩
          rw [← HOI.out]
          have HT5 := hidH ht5
          clear ht5
          go_wp2_with fail
          refine (tw_ropen HT5.out q HRD2.out).mono ?_
          rw [opnI_rdS, ← HOI.out]
          rintro e w6 ⟨kv6, rfl, ⟨S3, hsm, ht6⟩, _⟩
          have HB6 := hidH (bt_open HBT.out.iv hsm ht6)
          clear ht6 hsm
          have hnz := HNE.out
          rcases HB6.out.t.form with ⟨rfl, rfl⟩ | ⟨jb, kb, rfl, rfl⟩
          · go_wp2_with fail
            go_meet
            exact ⟨_, _, _, HB6.out.less⟩
          · go_wp2_with fail
            go_meet
            exact ⟨_, _, _, HB6.out.less⟩
        by_cases hk7 : x.k = 7
        · have b1 : (x.k == 1) = false := by rw [hk7]; decide
          have b2 : (x.k == 2) = false := by rw [hk7]; decide
          have b3 : (x.k == 3) = false := by rw [hk7]; decide
          have b4 : (x.k == 4) = false := by rw [hk7]; decide
          have b5 : (x.k == 5) = false := by rw [hk7]; decide
          have b6 : (x.k == 6) = false := by rw [hk7]; decide
          have b7 : (x.k == 7) = true := by rw [hk7]; decide
          obtain ⟨oi, hoi⟩ : ∃ oi, oi = fmtI S x.n := ⟨_, rfl⟩
          have HOI := hidH hoi
          clear hoi
          go_wp2_with fail
          refine (tw_format HT4.out x.n HWR.out).mono ?_
          rintro e w5 ⟨jv5, rfl, ht5, hk5⟩
          rw [← HOI.out]
          have c1 := HN1.out w5 ((hk5 NB HAN.out).trans HBK.out)
          have HT5 := hidH ht5
          clear ht5 hk5
          go_wp2_with fail
          refine (tw_rformat HT5.out x.n HWR2.out).mono ?_
          rw [fmtI_rdS, ← HOI.out]
          rintro e w6 ⟨kv6, rfl, ht6, _⟩
          have HB6 := hidH (bt_format HBT.out.iv ht6)
          clear ht6
          have hnz := HNE.out
          rcases HB6.out.t.form with ⟨rfl, rfl⟩ | ⟨jb, kb, rfl, rfl⟩
          · go_wp2_with fail
            go_meet
            exact ⟨_, _, _, HB6.out.less⟩
          · go_wp2_with fail
            go_meet
            exact ⟨_, _, _, HB6.out.less⟩
        have b1 : (x.k == 1) = false := beq_eq_false_iff_ne.2 hk1
        have b2 : (x.k == 2) = false := beq_eq_false_iff_ne.2 hk2
        have b3 : (x.k == 3) = false := beq_eq_false_iff_ne.2 hk3
        have b4 : (x.k == 4) = false := beq_eq_false_iff_ne.2 hk4
        have b5 : (x.k == 5) = false := beq_eq_false_iff_ne.2 hk5
        have b6 : (x.k == 6) = false := beq_eq_false_iff_ne.2 hk6
        have b7 : (x.k == 7) = false := beq_eq_false_iff_ne.2 hk7
        go_wp2_with fail
        go_meet
        exact ⟨_, _, _, (Bt.next ⟨HT4.out, HBT.out.iv⟩).less⟩
      case rest =>
        clear HBT HT4 HP HC H64 HN64 HBK HAN HWR HWR2 HRD HRD2 HN1 c0 c1 HW4 HNBE
        obtain ⟨o, S, r, hbt⟩ := hcut
        have HB := hidH hbt
        clear hbt
        have hnz := HNE.out
        have hnb := HNB.out
        go_wp2_with fail
        refine (tw_note HB.out.t).mono ?_
        rintro e w5 ⟨pa1, pc1, ca1, cc1, rfl, hp1, hc1, hb5⟩
        have HB5 := hidH (HB.out.below hb5)
        have HP1 := hidH hp1
        have HC1 := hidH hc1
        clear hp1 hc1 hb5 HB
        go_wp2_with fail
        refine (tw_rnote HB5.out.t).mono ?_
        rintro e w6 ⟨pa2, pc2, ca2, cc2, rfl, hp2, hc2, hb6⟩
        have HB6 := hidH (HB5.out.below hb6)
        have HP2 := hidH hp2
        have HC2 := hidH hc2
        have HP3 := hidH (HP1.out.below hb6)
        have HC3 := hidH (HC1.out.below hb6)
        clear hp2 hc2 hb6 HB5 HP1 HC1
        go_wp2_with fail
        refine (notes_walk (n := notO o) HP3.out HC3.out HP2.out HC2.out).mono ?_
        rintro e w7 ⟨rfl, hb7⟩
        have HB7 := hidH (HB6.out.below hb7)
        clear hb7 HB6 HP2 HC2 HP3 HC3
        go_wp2_with fail
        refine (tw_ended HB7.out.t).mono ?_
        rintro e w8 ⟨rfl, h8⟩
        replace h8 := h8.symm
        subst h8
        go_wp2_with fail
        refine (tw_rended HB7.out.t).mono ?_
        rintro e w8 ⟨rfl, h8⟩
        replace h8 := h8.symm
        subst h8
        go_wp2_with fail
        refine (tw_writes HB7.out.t).mono ?_
        rintro e w8 ⟨rfl, h8⟩
        replace h8 := h8.symm
        subst h8
        go_wp2_with fail
        refine (tw_rwrites HB7.out.t).mono ?_
        rintro e w8 ⟨rfl, h8⟩
        replace h8 := h8.symm
        subst h8
        rw [show (rdS S r).wr = S.wr from rfl]
        go_wp2_with fail
        go_roundw
        case rel => exact ⟨i + 1, o, S, r, by go_num, HLT.out, HB7.out⟩
        case measure => have := HLT.out; simp [intOf]; omega
    · have hlti : ¬ (i : Int) < (l.length : Int) := by omega
      go_wp2_with fail
      refine (tw_image HBT.out.t).mono ?_
      rintro e w5 ⟨g, cap, rfl, hg, hb5⟩
      have HB5 := hidH (HBT.out.below hb5)
      have HG5 := hidH hg
      clear hb5 hg
      go_wp2_with fail
      refine (tw_rimage HB5.out.t).mono ?_
      rintro e w6 ⟨g2, cap2, rfl, hg2, hb6⟩
      have HB6 := hidH (HB5.out.below hb6)
      have HG6 := hidH (HG5.out.below hb6)
      have HG2 := hidH hg2
      clear hb6 hg2
      go_wp2_with fail
      refine (images_walk HG6.out HG2.out).mono ?_
      rw [decide_eq_true (show S.bl = (rdS S r).bl from rfl)]
      rintro e w7 ⟨rfl, hb7⟩
      have HB7 := hidH (HB6.out.below hb7)
      clear hb7
      go_wp2_with fail
      go_ret
      exact ⟨rfl, HB7.out.t.bel⟩
end Go.Proofs.Ytnnammlipfappaa


