/- Tries in memory: rows of them; function values that pick them. -/
import Derived.Test.YtpndafieknddcaaM07
import Derived.Test.YtpndafieknddcaaM08
namespace Go.Proofs.Ytpndafieknddcaa

open Ieee Go.RowKit



/-- A try: batch, attempt, node, phase, ticks, from, to. -/
structure Yt where
  b : Int
  a : Int
  n : Int
  h : Int
  t : Int
  f : List Int
  e : List Int
/-- A try and its two slices. -/
structure Ye where
  y : Yt
  fv : Value
  ev : Value
def cellsY (x : Ye) : List Value := [.int .i64 x.y.b, .int .i64 x.y.a, .int .i64 x.y.n, .int .i64 x.y.h, .int .i64 x.y.t, x.fv, x.ev]
def flatY (F : List Ye) : List Value := F.flatMap cellsY
theorem flatY_len (F : List Ye) : (flatY F).length = F.length * 7 := by
  induction F with
  | nil => rfl
  | cons a t ih => simp only [flatY, List.flatMap_cons, List.length_append] at ih ⊢; rw [ih]; simp [cellsY]; omega
theorem flatY_app (F G : List Ye) : flatY (F ++ G) = flatY F ++ flatY G := by simp [flatY]
theorem flatY_one (x : Ye) : flatY [x] = cellsY x := by simp [flatY]
theorem flatY_get : ∀ (F : List Ye) (i j : Nat) (h : i < F.length), j < 7 → (flatY F)[i * 7 + j]? = (cellsY F[i])[j]?
  | [], i, j, h, _ => by simp at h
  | a :: t, 0, j, h, hj => by
    have e : (cellsY a).length = 7 := rfl
    simp only [flatY, List.flatMap_cons, Nat.zero_mul, Nat.zero_add, List.getElem_cons_zero]
    rw [List.getElem?_append_left (by omega)]
  | a :: t, i + 1, j, h, hj => by
    have e : (cellsY a).length = 7 := rfl
    have ih := flatY_get t i j (by simpa using h) hj
    simp only [flatY, List.flatMap_cons, List.getElem_cons_succ] at ih ⊢
    rw [List.getElem?_append_right (by omega), e, show (i + 1) * 7 + j - 7 = i * 7 + j by omega]
    exact ih
/-- A try's lists lie in w. -/
structure Yl (w : World) (x : Ye) : Prop where
  f : Nv w x.fv x.y.f
  e : Nv w x.ev x.y.e
  f0 : ∀ i, i < x.y.f.length → 0 ≤ nth x.y.f i
  e0 : ∀ i, i < x.y.e.length → 0 ≤ nth x.y.e i
theorem Yl.below {w w' : World} {x : Ye} (h : Yl w x) (hb : Below w.heap.size w w') : Yl w' x := ⟨h.f.below hb, h.e.below hb, h.f0, h.e0⟩
theorem Yl.form {w : World} {x : Ye} (h : Yl w x) : ∃ fa fc ea ec, x.fv = .slice fa x.y.f.length fc ∧ x.ev = .slice ea x.y.e.length ec := by
  obtain ⟨fa, fc, h1, _⟩ := h.f.form
  obtain ⟨ea, ec, h2, _⟩ := h.e.form
  exact ⟨fa, fc, ea, ec, h1, h2⟩
theorem cellsY_one {w : World} {x : Ye} (h : Yl w x) : ∀ u ∈ cellsY x, u.oneCell' = true := by
  obtain ⟨fa, fc, ea, ec, e1, e2⟩ := h.form
  intro u hu
  unfold cellsY at hu
  rw [e1, e2] at hu
  simp only [List.mem_cons, List.not_mem_nil, or_false] at hu
  rcases hu with rfl | rfl | rfl | rfl | rfl | rfl | rfl <;> rfl
/-- A row of tries of one's own. -/
structure Yr (w : World) (v : Value) (L : List Ye) : Prop where
  row : w.ownsRow 0 43 7 v L.length (flatY L)
  ls : ∀ x ∈ L, Yl w x
theorem Yr.below {w w' : World} {v : Value} {L : List Ye} (h : Yr w v L) (hb : Below w.heap.size w w') : Yr w' v L := ⟨own_below h.row hb, fun x hx => (h.ls x hx).below hb⟩
theorem own_formY {w : World} {base e s n : Nat} {v : Value} {xs : List Value} (h : w.ownsRow base e s v n xs) : ∃ a c, v = .slice a n c ∧ n ≤ c ∧ c ≤ maxLen := by
  rcases h.2 with ⟨h3, h0⟩ | ⟨g, cap, cur, rfl, _, _, h5, h6, _⟩
  · exact ⟨_, _, by rw [h3, h0], by omega, by simp [maxLen]⟩
  · exact ⟨_, _, rfl, h5, h6⟩
theorem row_formY {w : World} {base e s n : Nat} {v : Value} {xs : List Value} (h : w.ownsRow base e s v n xs) (hn : 0 < n) : ∃ g cap, v = .slice (some ⟨g, 0, none⟩) n cap ∧ n ≤ cap ∧ cap ≤ maxLen ∧ base ≤ g ∧ g < w.heap.size := by
  rcases h.2 with ⟨_, h0⟩ | ⟨g, cap, cur, rfl, hg, hh, hnc, hcm, hcs, htk⟩
  · omega
  · exact ⟨g, cap, rfl, hnc, hcm, hg, (Array.getElem?_eq_some_iff.1 hh).1⟩
theorem own_cellY {w : World} {base e s n g cap j : Nat} {xs : List Value} {u : Value} (h : w.ownsRow base e s (.slice (some ⟨g, 0, none⟩) n cap) n xs) (hj : xs[j]? = some u) : w.cell? ⟨g, j, none⟩ = some u ∧ w.frozen? ⟨g, j, none⟩ = false := by
  obtain ⟨h1, h2⟩ := h
  rcases h2 with ⟨h3, _⟩ | ⟨g', cap', cur, e1, hg, hh, hnc, hcm, hcs, htk⟩
  · cases h3
  · cases e1
    refine ⟨?_, by simp [World.frozen?, hh]⟩
    rw [cell_of_row w g j cur e (0, 0) hh]
    rw [← htk, List.getElem?_take] at hj
    split at hj
    · simpa using hj
    · cases hj
/-- The seven cells of the try at a place of a row. -/
structure Y7 (w : World) (g o : Nat) (x : Ye) : Prop where
  c0 : w.cell? ⟨g, o, none⟩ = some (.int .i64 x.y.b)
  c1 : w.cell? ⟨g, o + 1, none⟩ = some (.int .i64 x.y.a)
  c2 : w.cell? ⟨g, o + 2, none⟩ = some (.int .i64 x.y.n)
  c3 : w.cell? ⟨g, o + 3, none⟩ = some (.int .i64 x.y.h)
  c4 : w.cell? ⟨g, o + 4, none⟩ = some (.int .i64 x.y.t)
  c5 : w.cell? ⟨g, o + 5, none⟩ = some x.fv
  c6 : w.cell? ⟨g, o + 6, none⟩ = some x.ev
  z : ∀ j, w.frozen? ⟨g, j, none⟩ = false
theorem Yr.at {w : World} {v : Value} {L : List Ye} (h : Yr w v L) {i : Nat} (hi : i < L.length) : ∃ g cap, v = .slice (some ⟨g, 0, none⟩) L.length cap ∧ L.length ≤ cap ∧ cap ≤ maxLen ∧ g < w.heap.size ∧ Y7 w g (i * 7) L[i] := by
  obtain ⟨g, cap, rfl, h1, h2, _, h3⟩ := row_formY h.row (by omega)
  have hc := fun j (hj : j < 7) => own_cellY (u := (cellsY L[i])[j]'(by simpa [cellsY] using hj)) h.row (by rw [flatY_get L i j hi hj, List.getElem?_eq_getElem])
  have hz : ∀ j, w.frozen? ⟨g, j, none⟩ = false := fun j => by
    rcases h.row.2 with ⟨h9, _⟩ | ⟨g', cap', cur, e1, hg, hh, _⟩
    · cases h9
    · cases e1; exact blk_soft hh j
  exact ⟨g, cap, rfl, h1, h2, h3, (hc 0 (by omega)).1, (hc 1 (by omega)).1, (hc 2 (by omega)).1, (hc 3 (by omega)).1, (hc 4 (by omega)).1, (hc 5 (by omega)).1, (hc 6 (by omega)).1, hz⟩


/-- F picks by p. -/
def Pk (w : World) (F : Value) (p : Yt → Bool) : Prop := ∃ (n : Nat) (cs : Array Value), F = .func (.func n) #[] cs ∧ (∀ args w', (callFunc n args).run Try.prog w' = .ok (.enter n args) w') ∧ ∀ (w' : World) (x : Ye), Below w.heap.size w w' → Yl w' x → Calls Try.prog n (#[.agg #[.int .i64 x.y.b, .int .i64 x.y.a, .int .i64 x.y.n, .int .i64 x.y.h, .int .i64 x.y.t, x.fv, x.ev]] ++ cs) w' fun e w'' => e = .returned (.bool (p x.y)) ∧ Below w'.heap.size w' w''
theorem Pk.below {w w' : World} {F : Value} {p : Yt → Bool} (h : Pk w F p) (hb : Below w.heap.size w w') : Pk w' F p := by
  obtain ⟨n, cs, e, h1, h2⟩ := h
  exact ⟨n, cs, e, h1, fun w2 x hb2 hx => h2 w2 x (hb.trans (hb2.mono hb.size)) hx⟩
def idxP (p : Yt → Bool) : List Ye → Nat → Int
  | [], _ => -1
  | x :: t, k => if p x.y = true then (k : Int) else idxP p t (k + 1)
theorem idxP_yes {p : Yt → Bool} {L : List Ye} {k i : Nat} (hi : i < L.length) (h : p L[i].y = true) (hn : ∀ j (hj : j < i), p (L[j]'(by omega)).y = false) : idxP p L k = ((k + i : Nat) : Int) := by
  induction L generalizing k i with
  | nil => simp at hi
  | cons a t ih =>
    cases i with
    | zero => rw [idxP, if_pos (by simpa using h)]; rfl
    | succ i =>
      have h0 := hn 0 (by omega)
      simp only [List.getElem_cons_zero] at h0
      rw [idxP, if_neg (by rw [h0]; simp)]
      rw [ih (k := k + 1) (i := i) (by simpa using hi) (by simpa using h) (fun j hj => by have := hn (j + 1) (by omega); simpa using this)]
      congr 1; omega
theorem idxP_no {p : Yt → Bool} {L : List Ye} {k : Nat} (hn : ∀ j (hj : j < L.length), p (L[j]).y = false) : idxP p L k = -1 := by
  induction L generalizing k with
  | nil => rfl
  | cons a t ih =>
    have h0 := hn 0 (by simp)
    simp only [List.getElem_cons_zero] at h0
    rw [idxP, if_neg (by rw [h0]; simp)]
    exact ih (fun j hj => by have := hn (j + 1) (by simpa using hj); simpa using this)


set_option maxRecDepth 100000 in
theorem index_walk {w : World} {v F : Value} {p : Yt → Bool} {L : List Ye} (hr : Yr w v L) (hp : Pk w F p) : Calls Try.prog 45 #[v, F] w fun e w' => e = .returned (.int .i64 (idxP p L 0)) ∧ Below w.heap.size w w' := by
  have HR : Hid (Yr w v L) := hr
  obtain ⟨n, cs, rfl, hen, hcall⟩ := hp
  have HC : Hid (∀ (w' : World) (x : Ye), Below w.heap.size w w' → Yl w' x → Calls Try.prog n (#[.agg #[.int .i64 x.y.b, .int .i64 x.y.a, .int .i64 x.y.n, .int .i64 x.y.h, .int .i64 x.y.t, x.fv, x.ev]] ++ cs) w' fun e w'' => e = .returned (.bool (p x.y)) ∧ Below w'.heap.size w' w'') := hcall
  obtain ⟨ao, ca, rfl, hl1, hl2⟩ := own_formY hr.row
  have hlm : (L.length : Int) ≤ 9223372036854775807 := by unfold maxLen at hl2; omega
  clear hr hcall hl2
  go_enter Try.func45, Try.ntmps45
  go_wp2_with fail
  go_loopw [8] (fun iv wr => ∃ k : Nat, k ≤ L.length ∧ iv = .int .i64 k ∧ (∀ i (hi : i < L.length), i < k → p (L[i]).y = false) ∧ Below w.heap.size w wr) (fun iv _ => L.length - (intOf iv).toNat)
  case atStart => exact ⟨0, Nat.zero_le _, rfl, fun i _ hi => by omega, below_same _⟩
  case round =>
    obtain ⟨k, hk, rfl, hall, hB⟩ := hrel
    have HALL : Hid (∀ i (hi : i < L.length), i < k → p (L[i]).y = false) := hall
    have HW : Hid (Below w.heap.size w wr) := hB
    clear hB hall
    by_cases hlt : k < L.length
    · obtain ⟨g, cap, e1, _, _, hg, h7⟩ := (HR.out.below HW.out).at hlt
      cases e1
      have HT : Hid (Yl wr L[k]) := (HR.out.below HW.out).ls _ (List.getElem_mem hlt)
      obtain ⟨x, hx⟩ : ∃ x, x = L[k] := ⟨_, rfl⟩
      rw [← hx] at h7 HT
      have HX : Hid (x = L[k]) := hx
      clear hx
      obtain ⟨c0, c1, c2, c3, c4, c5, c6, _⟩ := h7
      obtain ⟨fa, fc, ea, ec, e5, e6⟩ := HT.out.form
      have HE5 : Hid (x.fv = .slice fa x.y.f.length fc) := e5
      have HE6 : Hid (x.ev = .slice ea x.y.e.length ec) := e6
      rw [e5] at c5
      rw [e6] at c6
      clear e5 e6
      have hlti : (k : Int) < (L.length : Int) := by omega
      have HCX : Hid (Calls Try.prog n (#[.agg #[.int .i64 x.y.b, .int .i64 x.y.a, .int .i64 x.y.n, .int .i64 x.y.h, .int .i64 x.y.t, x.fv, x.ev]] ++ cs) wr fun e w'' => e = .returned (.bool (p x.y)) ∧ Below wr.heap.size wr w'') := HC.out wr x HW.out HT.out
      rw [HE5.out, HE6.out] at HCX
      by_cases hpx : p x.y = true
      · have HQ : Hid (p x.y = true) := hpx
        have HBAD : Hid (idxP p L 0 = (k : Int)) := by
          have := idxP_yes (k := 0) hlt (by rw [← HX.out]; exact HQ.out) (fun j hj => HALL.out j (by omega) hj)
          rw [Nat.zero_add] at this
          exact this
        clear hpx
        go_wp2_with fail
        refine HCX.out.mono ?_
        rintro e w9 ⟨rfl, h9⟩
        have HB9 : Hid (Below w.heap.size w w9) := HW.out.trans (h9.mono HW.out.size)
        clear h9
        rw [HQ.out]
        go_wp2_with fail
        go_ret
        exact ⟨by rw [HBAD.out]; rfl, HB9.out⟩
      · have HQ : Hid (p x.y = false) := by show _ = _; simpa using hpx
        clear hpx
        go_wp2_with fail
        refine HCX.out.mono ?_
        rintro e w9 ⟨rfl, h9⟩
        have HB9 : Hid (Below w.heap.size w w9) := HW.out.trans (h9.mono HW.out.size)
        clear h9
        rw [HQ.out]
        go_wp2_with fail
        go_roundw
        case rel =>
          refine ⟨k + 1, by omega, by go_num, fun i hi hik => ?_, HB9.out⟩
          by_cases hik2 : i = k
          · subst hik2; rw [← HX.out]; exact HQ.out
          · exact HALL.out i hi (by omega)
        case measure => simp [intOf]; omega
    · have hnl : ¬ ((k : Int) < (L.length : Int)) := by omega
      have HD : Hid (idxP p L 0 = -1) := idxP_no fun j hj => HALL.out j hj (by omega)
      go_wp2_with fail
      go_ret
      exact ⟨by rw [HD.out]; rfl, HW.out⟩
end Go.Proofs.Ytpndafieknddcaa
