/- The reference's plan: a plan's line. -/
import Derived.Test.YtkiplcmndpdifaaGreatDoorRd

namespace Go.Proofs.YtkiplcmndpdifaaGreatDoor

open Go.RowKit



theorem nms_add : ∀ (a b : Nat) (ws : List Bs), nms (a + b) ws = (nms a ws).bind fun q => (nms b q.2).bind fun r => some (q.1 ++ r.1, r.2) := by
  intro a
  induction a with
  | zero =>
    intro b ws
    rw [Nat.zero_add]
    simp only [nms, Option.bind_some, List.nil_append]
    cases nms b ws <;> rfl
  | succ a ih =>
    intro b ws
    rw [Nat.succ_add]
    simp only [nms]
    cases nm ws with
    | none => rfl
    | some q =>
      obtain ⟨x, r⟩ := q
      dsimp only
      rw [ih b r]
      cases nms a r with
      | none => rfl
      | some q2 =>
        simp only [Option.bind_some]
        cases nms b q2.2 with
        | none => rfl
        | some q3 => simp


theorem nms_one (w : Bs) (r : List Bs) : nms 1 (w :: r) = (numP w).bind fun x => some ([x], r) := by
  simp only [nms, nm]
  cases numP w <;> rfl


/-- What plan has read of the numbers of a line. -/
structure Pr9 (xs : List Bs) (i : Nat) (ns : List Int) : Prop where
  len : ns.length = i
  top : i ≤ 7
  val : nms i xs.tail = some (ns, xs.tail.drop i)


theorem Pr9.start (xs : List Bs) : Pr9 xs 0 [] := ⟨rfl, by omega, by simp [nms]⟩


theorem tail_drop {xs : List Bs} {i : Nat} {x : Bs} (h : xs[i + 1]? = some x) : xs.tail.drop i = x :: xs.tail.drop (i + 1) := by
  have h1 : xs.tail[i]? = some x := by rw [List.getElem?_tail]; exact h
  obtain ⟨h2, h3⟩ := List.getElem?_eq_some_iff.1 h1
  rw [List.drop_eq_getElem_cons h2, h3]


theorem Pr9.step {xs : List Bs} {i : Nat} {ns : List Int} {x : Bs} {n : Int} (h : Pr9 xs i ns) (hi : i < 7) (hx : xs[i + 1]? = some x) (hn : numP x = some n) : Pr9 xs (i + 1) (ns ++ [n]) := by
  refine ⟨by simp [h.len], by omega, ?_⟩
  rw [nms_add, h.val, Option.bind_some, tail_drop hx, nms_one, hn]
  rfl


theorem Pr9.bad {xs : List Bs} {i : Nat} {ns : List Int} {x : Bs} (h : Pr9 xs i ns) (hi : i < 7) (hx : xs[i + 1]? = some x) (hn : numP x = none) : nms 7 xs.tail = none := by
  rw [show 7 = i + (1 + (6 - i)) by omega, nms_add, h.val, Option.bind_some, nms_add, tail_drop hx, nms_one, hn]
  rfl


/-- The numbers so far, nought behind them. -/
def arr7 (ns : List Int) : Array Value := ((ns ++ List.replicate (7 - ns.length) 0).map fun x => Value.int .i64 x).toArray


theorem arr7_set {ns : List Int} {n : Int} (h : ns.length < 7) : (arr7 ns).setIfInBounds ns.length (.int .i64 n) = arr7 (ns ++ [n]) := by
  unfold arr7
  apply Array.toList_inj.1
  simp only [Array.toList_setIfInBounds, List.length_append, List.length_singleton]
  rw [show 7 - ns.length = (7 - (ns.length + 1)) + 1 by omega, List.replicate_succ]
  simp


/-- plan's own blocks: its answer, nought so far, and its numbers. -/
structure Pw9 (w : World) (P A : Nat) (ns : List Int) (wr : World) : Prop where
  bel : Below w.heap.size w wr
  pl : wr.heap[P]? = some (.cells #[.int .i64 0, .int .i64 0, .int .i64 0, .slice none 0 0, .int .i64 0, .int .i64 0, .int .i64 0, .int .i64 0] 25 (0, 0))
  ar : wr.heap[A]? = some (.cells (arr7 ns) 64 (0, 0))
  p : P = w.heap.size
  a : A = w.heap.size + 1


theorem pl_cells9 {w : World} {P : Nat} {x0 x1 x2 x3 x4 x5 x6 x7 : Value} {t : TypeId} (h : w.heap[P]? = some (.cells #[x0, x1, x2, x3, x4, x5, x6, x7] t (0, 0))) : w.cell? ⟨P, 0, none⟩ = some x0 ∧ w.cell? ⟨P, 1, none⟩ = some x1 ∧ w.cell? ⟨P, 2, none⟩ = some x2 ∧ w.cell? ⟨P, 3, none⟩ = some x3 ∧ w.cell? ⟨P, 4, none⟩ = some x4 ∧ w.cell? ⟨P, 5, none⟩ = some x5 ∧ w.cell? ⟨P, 6, none⟩ = some x6 ∧ w.cell? ⟨P, 7, none⟩ = some x7 :=
  ⟨blk_cell h 0, blk_cell h 1, blk_cell h 2, blk_cell h 3, blk_cell h 4, blk_cell h 5, blk_cell h 6, blk_cell h 7⟩


theorem Pw9.set {w : World} {P A : Nat} {ns : List Int} {wr : World} {n : Int} (h : Pw9 w P A ns wr) (hl : ns.length < 7) : Pw9 w P A (ns ++ [n]) (wr.setCell ⟨A, ns.length, none⟩ (.int .i64 n)) := by
  have h1 := h.p
  have h2 := h.a
  exact ⟨h.bel.setCell (by show _ ≤ A; omega) _, by rw [set_other _ (by omega)]; exact h.pl, by rw [set_row h.ar, arr7_set hl], h1, h2⟩


/-- What plan answers. -/
def PlGot (xs : List Bs) (w : World) (e : Ending) (w' : World) : Prop := ∃ (p : Pl) (b : Bool), e = .returned (.tuple #[.agg #[.int .i64 p.P, .int .i64 p.S, .int .i64 p.W, .slice none 0 0, .int .i64 p.A, .int .i64 p.B, .int .i64 p.N, .int .i64 p.G], .bool b]) ∧ (b = true → ∃ l, nms 7 xs.tail = some (l, []) ∧ p = plOf l) ∧ (b = false → ∀ l, nms 7 xs.tail ≠ some (l, [])) ∧ Below w.heap.size w w'


theorem nms_cnt : ∀ {n : Nat} {ws : List Bs} {l : List Int} {r : List Bs}, nms n ws = some (l, r) → ws.length = n + r.length := by
  intro n
  induction n with
  | zero => intro ws l r h; simp only [nms, Option.some.injEq, Prod.mk.injEq] at h; rw [h.2]; omega
  | succ n ih =>
    intro ws l r h
    cases ws with
    | nil => simp [nms, nm] at h
    | cons x ws =>
      simp only [nms, nm] at h
      cases hx : numP x with
      | none => rw [hx] at h; cases h
      | some y =>
        rw [hx] at h
        dsimp only at h
        cases hn : nms n ws with
        | none => rw [hn] at h; cases h
        | some q =>
          obtain ⟨l2, r2⟩ := q
          rw [hn] at h
          simp only [Option.some.injEq, Prod.mk.injEq] at h
          have := ih hn
          rw [← h.2]
          simp
          omega


set_option maxRecDepth 100000 in
set_option maxHeartbeats 8000000 in
theorem rplan_walk {xs : List Bs} {v : Value} {w : World} (hx : Wl w v xs) (h0 : 0 < xs.length) : Calls Tryz.prog 17 #[v] w (PlGot xs w) := by
  obtain ⟨g, cap, n, rfl, hn, hgl, hcell⟩ := ar_form hx.ar h0
  have HX : Hid (Wl w (.slice (some ⟨g, 0, none⟩) n cap) xs ∧ n = xs.length) := ⟨hx, hn⟩
  have HC : Hid (∀ (wx : World) (i : Nat) (x : Bs), Below w.heap.size w wx → xs[i]? = some x → wx.cell? ⟨g, i, none⟩ = some (.string ⟨x.toArray⟩)) := hcell
  have hgn : ¬ g = w.heap.size := by omega
  clear hx hcell h0
  by_cases h8 : n = 8
  · have hb : ((n : Int) != 8) = false := by rw [h8]; rfl
    have H8 : Hid (n = 8) := h8
    obtain ⟨P, hP⟩ : ∃ P, P = w.heap.size := ⟨_, rfl⟩
    obtain ⟨A, hA⟩ : ∃ A, A = w.heap.size + 1 := ⟨_, rfl⟩
    obtain ⟨w2, hw2⟩ : ∃ w2, w2 = (w.alloc (.cells #[.int .i64 0, .int .i64 0, .int .i64 0, .slice none 0 0, .int .i64 0, .int .i64 0, .int .i64 0, .int .i64 0] 25)).alloc (.cells #[.int .i64 0, .int .i64 0, .int .i64 0, .int .i64 0, .int .i64 0, .int .i64 0, .int .i64 0] 64) := ⟨_, rfl⟩
    have HW2 : Hid (w2 = (w.alloc (.cells #[.int .i64 0, .int .i64 0, .int .i64 0, .slice none 0 0, .int .i64 0, .int .i64 0, .int .i64 0, .int .i64 0] 25)).alloc (.cells #[.int .i64 0, .int .i64 0, .int .i64 0, .int .i64 0, .int .i64 0, .int .i64 0, .int .i64 0] 64) ∧ P = w.heap.size ∧ A = w.heap.size + 1) := ⟨hw2, hP, hA⟩
    clear hw2 hP hA h8 hn
    go_enter Tryz.func17, Tryz.ntmps17
    go_wp2_with fail
    rw [← HW2.out.2.2, ← HW2.out.2.1, ← HW2.out.1]
    have HS2 : Hid (Pw9 w P A [] w2) := by
      have h1 := HW2.out
      refine ⟨?_, ?_, ?_, by omega, by omega⟩
      · rw [h1.1]; exact below_trans (below_alloc _ _) (below_alloc _ _)
      · rw [h1.1]; exact alloc_old (alloc_at h1.2.1)
      · rw [h1.1]; exact alloc_at (by rw [alloc_sz]; exact h1.2.2)
    clear HW2
    go_loopw [5, 6, 7] (fun v5 _ _ wr => ∃ (i : Nat) (ns : List Int), v5 = .int .i64 i ∧ Pr9 xs i ns ∧ Pw9 w P A ns wr) (fun v5 _ _ _ => 7 - (intOf v5).toNat)
    case atStart => exact ⟨0, [], rfl, Pr9.start xs, HS2.out⟩
    case round =>
      obtain ⟨i, ns, rfl, hpr, hpw⟩ := hrel
      have HQ : Hid (Pr9 xs i ns ∧ Pw9 w P A ns wr) := ⟨hpr, hpw⟩
      have htop := hpr.top
      obtain ⟨p0, p1, p2, p3, p4, p5, p6, p7⟩ := pl_cells9 hpw.pl
      have z0 := blk_soft hpw.pl 0
      have z1 := blk_soft hpw.pl 1
      have z2 := blk_soft hpw.pl 2
      have z3 := blk_soft hpw.pl 3
      have z4 := blk_soft hpw.pl 4
      have z5 := blk_soft hpw.pl 5
      have z6 := blk_soft hpw.pl 6
      have z7 := blk_soft hpw.pl 7
      clear hpr hpw HS2
      by_cases hlt : i < 7
      · have hli : (i : Int) < 7 := by omega
        have hib : (i : Int) + 1 < (n : Int) := by have := H8.out; omega
        obtain ⟨x, hx⟩ : ∃ x, xs[i + 1]? = some x := ⟨_, List.getElem?_eq_getElem (by have := HX.out.2; have := H8.out; omega)⟩
        obtain ⟨t, ht⟩ : ∃ t : ByteArray, t = ⟨x.toArray⟩ := ⟨_, rfl⟩
        have kx : wr.cell? ⟨g, i + 1, none⟩ = some (.string t) := by rw [ht]; exact HC.out wr (i + 1) x HQ.out.2.bel hx
        have HXX : Hid (xs[i + 1]? = some x) := hx
        have HRN : Hid (∀ wx, Calls Tryz.prog 31 #[.string t] wx fun e w' => e = .returned (.tuple #[.int .i64 ((numP x).getD 0), .bool (numP x).isSome]) ∧ w' = wx) := by intro wx; rw [ht]; exact rnumber_walk _ _ (HX.out.1.len x (List.mem_of_getElem? hx))
        clear hx ht
        cases hnx : numP x with
        | none =>
          rw [hnx] at HRN
          have HN : Hid (nms 7 xs.tail = none) := HQ.out.1.bad hlt HXX.out hnx
          clear hnx
          go_wp2_with fail
          refine (HRN.out _).mono ?_
          rintro e9 w3 ⟨rfl, hw⟩
          subst hw
          simp only [Option.getD_none, Option.isSome_none]
          clear kx
          go_wp2_with fail
          refine bodyPost_ret (v := .tuple #[.agg #[.int .i64 0, .int .i64 0, .int .i64 0, .slice none 0 0, .int .i64 0, .int .i64 0, .int .i64 0, .int .i64 0], .bool false]) (by rw [results_cell_tmp rfl]; go_simp) rfl ?_
          have hpp : w.heap.size ≤ P := by have := HQ.out.2.p; omega
          exact ⟨Pl.zero, false, rfl, (fun h => by cases h), (fun _ l h => by rw [HN.out] at h; cases h), (Below.setCell (Below.setCell (Below.setCell (Below.setCell (Below.setCell (Below.setCell (Below.setCell (Below.setCell HQ.out.2.bel (p := ⟨P, 0, none⟩) hpp _) (p := ⟨P, 1, none⟩) hpp _) (p := ⟨P, 2, none⟩) hpp _) (p := ⟨P, 3, none⟩) hpp _) (p := ⟨P, 4, none⟩) hpp _) (p := ⟨P, 5, none⟩) hpp _) (p := ⟨P, 6, none⟩) hpp _) (p := ⟨P, 7, none⟩) hpp _)⟩
        | some a =>
          rw [hnx] at HRN
          have HN : Hid (Pr9 xs (i + 1) (ns ++ [a])) := HQ.out.1.step hlt HXX.out hnx
          have hbl := HQ.out.2.ar
          have hlen := HQ.out.1.len
          obtain ⟨y, ka⟩ : ∃ y, wr.cell? ⟨A, i, none⟩ = some y := ⟨(arr7 ns)[i]'(by simp [arr7]; omega), by rw [blk_cell hbl]; exact Array.getElem?_eq_getElem _⟩
          have za := blk_soft hbl i
          have HN2 : Hid (Pw9 w P A (ns ++ [a]) (wr.setCell ⟨A, i, none⟩ (.int .i64 a))) := by
            have h := HQ.out.2.set (n := a) (by omega)
            rw [hlen] at h
            exact h
          clear hnx hbl hlen
          go_wp2_with fail
          refine (HRN.out _).mono ?_
          rintro e9 w3 ⟨rfl, hw⟩
          subst hw
          simp only [Option.getD_some, Option.isSome_some]
          go_wp2_with fail
          exact ⟨⟨i + 1, ns ++ [a], by (congr 1), HN.out, HN2.out⟩, by simp [intOf]; omega⟩
      · have hni : ¬ (i : Int) < 7 := by omega
        obtain ⟨n0, n1, n2, n3, n4, n5, n6, hns⟩ : ∃ n0 n1 n2 n3 n4 n5 n6, ns = [n0, n1, n2, n3, n4, n5, n6] := by
          match ns, (show ns.length = 7 by have := HQ.out.1.len; omega) with
          | [n0, n1, n2, n3, n4, n5, n6], _ => exact ⟨n0, n1, n2, n3, n4, n5, n6, rfl⟩
        have HV : Hid (nms 7 xs.tail = some ([n0, n1, n2, n3, n4, n5, n6], [])) := by
          have h := HQ.out.1.val
          rw [show i = 7 by omega, hns, List.drop_of_length_le (by have := HX.out.2; have := H8.out; simp; omega)] at h
          exact h
        have hbl := HQ.out.2.ar
        rw [hns] at hbl
        have k0 : wr.cell? ⟨A, 0, none⟩ = some (.int .i64 n0) := by rw [blk_cell hbl]; rfl
        have k1 : wr.cell? ⟨A, 1, none⟩ = some (.int .i64 n1) := by rw [blk_cell hbl]; rfl
        have k2 : wr.cell? ⟨A, 2, none⟩ = some (.int .i64 n2) := by rw [blk_cell hbl]; rfl
        have k3 : wr.cell? ⟨A, 3, none⟩ = some (.int .i64 n3) := by rw [blk_cell hbl]; rfl
        have k4 : wr.cell? ⟨A, 4, none⟩ = some (.int .i64 n4) := by rw [blk_cell hbl]; rfl
        have k5 : wr.cell? ⟨A, 5, none⟩ = some (.int .i64 n5) := by rw [blk_cell hbl]; rfl
        have k6 : wr.cell? ⟨A, 6, none⟩ = some (.int .i64 n6) := by rw [blk_cell hbl]; rfl
        clear hbl hns
        go_wp2_with fail
        refine bodyPost_ret (v := .tuple #[.agg #[.int .i64 n0, .int .i64 n1, .int .i64 n2, .slice none 0 0, .int .i64 n3, .int .i64 n4, .int .i64 n5, .int .i64 n6], .bool true]) (by rw [results_cell_tmp rfl]; go_simp) rfl ?_
        have hpp : w.heap.size ≤ P := by have := HQ.out.2.p; omega
        exact ⟨⟨n0, n1, n2, n3, n4, n5, n6⟩, true, rfl, (fun _ => ⟨_, HV.out, rfl⟩), (fun h => by cases h), (Below.setCell (Below.setCell (Below.setCell (Below.setCell (Below.setCell (Below.setCell (Below.setCell (Below.setCell HQ.out.2.bel (p := ⟨P, 0, none⟩) hpp _) (p := ⟨P, 1, none⟩) hpp _) (p := ⟨P, 2, none⟩) hpp _) (p := ⟨P, 3, none⟩) hpp _) (p := ⟨P, 4, none⟩) hpp _) (p := ⟨P, 5, none⟩) hpp _) (p := ⟨P, 6, none⟩) hpp _) (p := ⟨P, 7, none⟩) hpp _)⟩
  · have hb : ((n : Int) != 8) = true := by rw [bne_iff_ne]; omega
    have HN : Hid (∀ l, nms 7 xs.tail ≠ some (l, [])) := by
      intro l h
      have h1 := nms_cnt h
      have h2 := HX.out.2
      simp at h1
      omega
    clear h8 hn
    go_enter Tryz.func17, Tryz.ntmps17
    go_wp2_with fail
    refine bodyPost_ret (v := .tuple #[.agg #[.int .i64 0, .int .i64 0, .int .i64 0, .slice none 0 0, .int .i64 0, .int .i64 0, .int .i64 0, .int .i64 0], .bool false]) (by rw [results_cell_tmp rfl]; go_simp) rfl ?_
    exact ⟨Pl.zero, false, rfl, (fun h => by cases h), fun _ => HN.out, below_alloc _ _⟩
end Go.Proofs.YtkiplcmndpdifaaGreatDoor


