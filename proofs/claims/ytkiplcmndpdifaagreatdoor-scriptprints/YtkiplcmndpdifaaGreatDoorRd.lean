/- The reference's asks: what a word asks for; op: a pipeline's line. Printed by gen_rd22.py. -/
import Derived.Test.YtkiplcmndpdifaaGreatDoorRb

import Derived.Test.YtkiplcmndpdifaaGreatDoorRc

namespace Go.Proofs.YtkiplcmndpdifaaGreatDoor

open Go.RowKit

attribute [local go_sem] run_store_float


/-- What a kind of step asks for, letter by letter. -/
def askL (g : Int) : Bs := if g = 13 then [110, 117, 118] else if g = 3 then [110, 107] else if g = 0 then [] else if g = 2 then [107] else if g = 1 then [110] else [117]
def askW (T : Bs) : Bs := match formW T with | some f => askL f.g | none => []
def kndW (T : Bs) : Int := match formW T with | some f => f.K | none => 0


theorem formW_none {T : Bs} (h : ∀ f ∈ formL, f.w ≠ T) : formW T = none := by
  unfold formW
  rw [List.find?_eq_none]
  intro f hf
  simpa using h f hf


set_option maxRecDepth 100000 in
set_option maxHeartbeats 8000000 in
theorem rasks_walk (T : Bs) (w : World) : Calls Tryz.prog 16 #[S T] w fun e w' => e = .returned (.tuple #[S (askW T), .int .i64 (kndW T)]) ∧ w' = w := by
  obtain ⟨t, ht⟩ : ∃ t : ByteArray, t = ⟨T.toArray⟩ := ⟨_, rfl⟩
  have HT : Hid (t = ⟨T.toArray⟩) := ht
  show Calls _ _ #[.string _] _ _
  rw [← ht]
  clear ht
  by_cases h1 : T = ([112, 114, 111, 100, 117, 99, 101] : Bs)
  · have q1 : (t.toList == ([112, 114, 111, 100, 117, 99, 101] : Bs)) = true := str_eq_lit HT.out h1
    have HF : Hid (formW T = some ⟨1, [112, 114, 111, 100, 117, 99, 101], 13⟩) := by show formW T = _; rw [h1]; decide
    clear h1
    go_enter Tryz.func16, Tryz.ntmps16
    go_wp2_with fail
    go_ret2
    unfold askW kndW
    rw [HF.out]
    exact ⟨rfl, rfl⟩
  have q1 : (t.toList == ([112, 114, 111, 100, 117, 99, 101] : Bs)) = false := str_ne_lit HT.out h1
  by_cases h2 : T = ([115, 119, 105, 116, 99, 104] : Bs)
  · have q2 : (t.toList == ([115, 119, 105, 116, 99, 104] : Bs)) = true := str_eq_lit HT.out h2
    have HF : Hid (formW T = some ⟨2, [115, 119, 105, 116, 99, 104], 3⟩) := by show formW T = _; rw [h2]; decide
    clear h1 h2
    go_enter Tryz.func16, Tryz.ntmps16
    go_wp2_with fail
    go_ret2
    unfold askW kndW
    rw [HF.out]
    exact ⟨rfl, rfl⟩
  have q2 : (t.toList == ([115, 119, 105, 116, 99, 104] : Bs)) = false := str_ne_lit HT.out h2
  by_cases h3 : T = ([116, 105, 99, 107] : Bs)
  · have q3 : (t.toList == ([116, 105, 99, 107] : Bs)) = true := str_eq_lit HT.out h3
    have HF : Hid (formW T = some ⟨3, [116, 105, 99, 107], 0⟩) := by show formW T = _; rw [h3]; decide
    clear h1 h2 h3
    go_enter Tryz.func16, Tryz.ntmps16
    go_wp2_with fail
    go_ret2
    unfold askW kndW
    rw [HF.out]
    exact ⟨rfl, rfl⟩
  have q3 : (t.toList == ([116, 105, 99, 107] : Bs)) = false := str_ne_lit HT.out h3
  by_cases h4 : T = ([100, 101, 108, 105, 118, 101, 114] : Bs)
  · have q4 : (t.toList == ([100, 101, 108, 105, 118, 101, 114] : Bs)) = true := str_eq_lit HT.out h4
    have HF : Hid (formW T = some ⟨4, [100, 101, 108, 105, 118, 101, 114], 2⟩) := by show formW T = _; rw [h4]; decide
    clear h1 h2 h3 h4
    go_enter Tryz.func16, Tryz.ntmps16
    go_wp2_with fail
    go_ret2
    unfold askW kndW
    rw [HF.out]
    exact ⟨rfl, rfl⟩
  have q4 : (t.toList == ([100, 101, 108, 105, 118, 101, 114] : Bs)) = false := str_ne_lit HT.out h4
  by_cases h5 : T = ([100, 114, 111, 112] : Bs)
  · have q5 : (t.toList == ([100, 114, 111, 112] : Bs)) = true := str_eq_lit HT.out h5
    have HF : Hid (formW T = some ⟨5, [100, 114, 111, 112], 2⟩) := by show formW T = _; rw [h5]; decide
    clear h1 h2 h3 h4 h5
    go_enter Tryz.func16, Tryz.ntmps16
    go_wp2_with fail
    go_ret2
    unfold askW kndW
    rw [HF.out]
    exact ⟨rfl, rfl⟩
  have q5 : (t.toList == ([100, 114, 111, 112] : Bs)) = false := str_ne_lit HT.out h5
  by_cases h6 : T = ([99, 111, 112, 121] : Bs)
  · have q6 : (t.toList == ([99, 111, 112, 121] : Bs)) = true := str_eq_lit HT.out h6
    have HF : Hid (formW T = some ⟨6, [99, 111, 112, 121], 2⟩) := by show formW T = _; rw [h6]; decide
    clear h1 h2 h3 h4 h5 h6
    go_enter Tryz.func16, Tryz.ntmps16
    go_wp2_with fail
    go_ret2
    unfold askW kndW
    rw [HF.out]
    exact ⟨rfl, rfl⟩
  have q6 : (t.toList == ([99, 111, 112, 121] : Bs)) = false := str_ne_lit HT.out h6
  by_cases h7 : T = ([99, 117, 116] : Bs)
  · have q7 : (t.toList == ([99, 117, 116] : Bs)) = true := str_eq_lit HT.out h7
    have HF : Hid (formW T = some ⟨7, [99, 117, 116], 3⟩) := by show formW T = _; rw [h7]; decide
    clear h1 h2 h3 h4 h5 h6 h7
    go_enter Tryz.func16, Tryz.ntmps16
    go_wp2_with fail
    go_ret2
    unfold askW kndW
    rw [HF.out]
    exact ⟨rfl, rfl⟩
  have q7 : (t.toList == ([99, 117, 116] : Bs)) = false := str_ne_lit HT.out h7
  by_cases h8 : T = ([99, 114, 97, 115, 104] : Bs)
  · have q8 : (t.toList == ([99, 114, 97, 115, 104] : Bs)) = true := str_eq_lit HT.out h8
    have HF : Hid (formW T = some ⟨8, [99, 114, 97, 115, 104], 1⟩) := by show formW T = _; rw [h8]; decide
    clear h1 h2 h3 h4 h5 h6 h7 h8
    go_enter Tryz.func16, Tryz.ntmps16
    go_wp2_with fail
    go_ret2
    unfold askW kndW
    rw [HF.out]
    exact ⟨rfl, rfl⟩
  have q8 : (t.toList == ([99, 114, 97, 115, 104] : Bs)) = false := str_ne_lit HT.out h8
  by_cases h9 : T = ([114, 101, 115, 116, 97, 114, 116] : Bs)
  · have q9 : (t.toList == ([114, 101, 115, 116, 97, 114, 116] : Bs)) = true := str_eq_lit HT.out h9
    have HF : Hid (formW T = some ⟨9, [114, 101, 115, 116, 97, 114, 116], 1⟩) := by show formW T = _; rw [h9]; decide
    clear h1 h2 h3 h4 h5 h6 h7 h8 h9
    go_enter Tryz.func16, Tryz.ntmps16
    go_wp2_with fail
    go_ret2
    unfold askW kndW
    rw [HF.out]
    exact ⟨rfl, rfl⟩
  have q9 : (t.toList == ([114, 101, 115, 116, 97, 114, 116] : Bs)) = false := str_ne_lit HT.out h9
  by_cases h10 : T = ([113, 117, 101, 114, 121] : Bs)
  · have q10 : (t.toList == ([113, 117, 101, 114, 121] : Bs)) = true := str_eq_lit HT.out h10
    have HF : Hid (formW T = some ⟨10, [113, 117, 101, 114, 121], 4⟩) := by show formW T = _; rw [h10]; decide
    clear h1 h2 h3 h4 h5 h6 h7 h8 h9 h10
    go_enter Tryz.func16, Tryz.ntmps16
    go_wp2_with fail
    go_ret2
    unfold askW kndW
    rw [HF.out]
    exact ⟨rfl, rfl⟩
  have q10 : (t.toList == ([113, 117, 101, 114, 121] : Bs)) = false := str_ne_lit HT.out h10
  by_cases h11 : T = ([114, 111, 117, 110, 100] : Bs)
  · have q11 : (t.toList == ([114, 111, 117, 110, 100] : Bs)) = true := str_eq_lit HT.out h11
    have HF : Hid (formW T = some ⟨11, [114, 111, 117, 110, 100], 0⟩) := by show formW T = _; rw [h11]; decide
    clear h1 h2 h3 h4 h5 h6 h7 h8 h9 h10 h11
    go_enter Tryz.func16, Tryz.ntmps16
    go_wp2_with fail
    go_ret2
    unfold askW kndW
    rw [HF.out]
    exact ⟨rfl, rfl⟩
  have q11 : (t.toList == ([114, 111, 117, 110, 100] : Bs)) = false := str_ne_lit HT.out h11
  have HF : Hid (formW T = none) := formW_none (by
    intro f hf
    simp only [formL, List.mem_cons, List.not_mem_nil, or_false] at hf
    rcases hf with rfl | rfl | rfl | rfl | rfl | rfl | rfl | rfl | rfl | rfl | rfl
    · exact fun e => h1 e.symm
    · exact fun e => h2 e.symm
    · exact fun e => h3 e.symm
    · exact fun e => h4 e.symm
    · exact fun e => h5 e.symm
    · exact fun e => h6 e.symm
    · exact fun e => h7 e.symm
    · exact fun e => h8 e.symm
    · exact fun e => h9 e.symm
    · exact fun e => h10 e.symm
    · exact fun e => h11 e.symm)
  clear h1 h2 h3 h4 h5 h6 h7 h8 h9 h10 h11
  go_enter Tryz.func16, Tryz.ntmps16
  go_wp2_with fail
  go_ret2
  unfold askW kndW
  rw [HF.out]
  exact ⟨rfl, rfl⟩


/-- The words of a line in memory. -/
structure Wl (w : World) (v : Value) (xs : List Bs) : Prop where
  ar : AR w v xs
  len : ∀ x ∈ xs, x.length ≤ 262144
  few : xs.length ≤ 262145


theorem Wl.below {w w' : World} {v : Value} {xs : List Bs} (h : Wl w v xs) (hb : Below w.heap.size w w') : Wl w' v xs := ⟨h.ar.below hb, h.len, h.few⟩


theorem ar_form {w : World} {v : Value} {xs : List Bs} (h : AR w v xs) (h0 : 0 < xs.length) : ∃ g cap n, v = .slice (some ⟨g, 0, none⟩) n cap ∧ n = xs.length ∧ g < w.heap.size ∧ ∀ (wx : World) (i : Nat) (x : Bs), Below w.heap.size w wx → xs[i]? = some x → wx.cell? ⟨g, i, none⟩ = some (.string ⟨x.toArray⟩) := by
  rcases h with ⟨_, rfl⟩ | ⟨g, cap, cur, rfl, hg, hc⟩
  · simp at h0
  · refine ⟨g, cap, _, rfl, rfl, blk_lt hg, fun wx i x hb hx => ?_⟩
    obtain ⟨hi, e⟩ := List.getElem?_eq_some_iff.1 hx
    rw [blk_cell (blk_below hg hb), hc i hi, e]


/-- What op answers. -/
def OpGot (xs : List Bs) (w : World) (e : Ending) (w' : World) : Prop := ∃ (o : Og) (b : Bool), e = .returned (.tuple #[.agg #[.int .i64 o.K, .int .i64 o.N, .float .f64 o.X], .bool b]) ∧ (b = true → opA xs.tail = some (o, [])) ∧ (b = false → ∀ o, opA xs.tail ≠ some (o, [])) ∧ Below w.heap.size w w'


theorem opA_four {x y z : Bs} (o : Og) : opA [x, y, z] = some (o, []) ↔ numP x = some o.K ∧ numP y = some o.N ∧ fltP z = some o.X := by
  obtain ⟨K, N, X⟩ := o
  simp only [opA, nm, fl]
  cases numP x with
  | none => simp
  | some k =>
    dsimp only
    cases numP y with
    | none => simp
    | some n =>
      dsimp only
      cases fltP z with
      | none => simp
      | some u => simp


theorem opA_len {ws : List Bs} {o : Og} (h : opA ws = some (o, [])) : ws.length = 3 := by
  match ws with
  | [] => simp [opA, nm] at h
  | [x] => cases hx : numP x <;> simp [opA, nm, hx] at h
  | [x, y] => cases hx : numP x <;> cases hy : numP y <;> simp [opA, nm, fl, hx, hy] at h
  | [x, y, z] => rfl
  | x :: y :: z :: u :: r => cases hx : numP x <;> cases hy : numP y <;> cases hz : fltP z <;> simp [opA, nm, fl, hx, hy, hz] at h


set_option maxRecDepth 100000 in
set_option maxHeartbeats 8000000 in
theorem rop_walk {xs : List Bs} {v : Value} {w : World} (hx : Wl w v xs) (h0 : 0 < xs.length) : Calls Tryz.prog 18 #[v] w (OpGot xs w) := by
  obtain ⟨g, cap, n, rfl, hn, hgl, hcell⟩ := ar_form hx.ar h0
  have HX : Hid (Wl w (.slice (some ⟨g, 0, none⟩) n cap) xs ∧ n = xs.length) := ⟨hx, hn⟩
  have HC : Hid (∀ (wx : World) (i : Nat) (x : Bs), Below w.heap.size w wx → xs[i]? = some x → wx.cell? ⟨g, i, none⟩ = some (.string ⟨x.toArray⟩)) := hcell
  have hgn : ¬ g = w.heap.size := by omega
  clear hx hcell h0
  by_cases h4 : n = 4
  · have hb : ((n : Int) != 4) = false := by rw [h4]; rfl
    obtain ⟨x0, x1, x2, x3, hxs⟩ : ∃ x0 x1 x2 x3, xs = [x0, x1, x2, x3] := by
      match xs, (show xs.length = 4 by omega) with
      | [x0, x1, x2, x3], _ => exact ⟨x0, x1, x2, x3, rfl⟩
    have hL : ∀ x ∈ xs, x.length ≤ 262144 := HX.out.1.len
    have h1 := hL x1 (by rw [hxs]; simp)
    have h2 := hL x2 (by rw [hxs]; simp)
    have HLL : Hid (x1.length ≤ 262144 ∧ x2.length ≤ 262144) := ⟨h1, h2⟩
    obtain ⟨t1, ht1⟩ : ∃ t : ByteArray, t = ⟨x1.toArray⟩ := ⟨_, rfl⟩
    obtain ⟨t2, ht2⟩ : ∃ t : ByteArray, t = ⟨x2.toArray⟩ := ⟨_, rfl⟩
    obtain ⟨t3, ht3⟩ : ∃ t : ByteArray, t = ⟨x3.toArray⟩ := ⟨_, rfl⟩
    obtain ⟨w2, hw2⟩ : ∃ w2, w2 = w.alloc (.cells #[.int .i64 0, .int .i64 0, .float .f64 0] 53) := ⟨_, rfl⟩
    have HW2 : Hid (Below w.heap.size w w2) := by rw [hw2]; exact below_alloc _ _
    have k1 : w2.cell? ⟨g, 1, none⟩ = some (.string t1) := by rw [ht1]; exact HC.out w2 1 x1 HW2.out (by rw [hxs]; rfl)
    have k2 : w2.cell? ⟨g, 2, none⟩ = some (.string t2) := by rw [ht2]; exact HC.out w2 2 x2 HW2.out (by rw [hxs]; rfl)
    have k3 : w2.cell? ⟨g, 3, none⟩ = some (.string t3) := by rw [ht3]; exact HC.out w2 3 x3 HW2.out (by rw [hxs]; rfl)
    rw [hw2] at k1 k2 k3
    have hnn : (4 : Int) = (n : Int) := by omega
    obtain ⟨a1, ha1⟩ : ∃ a, a = (numP x1).getD 0 := ⟨_, rfl⟩
    obtain ⟨a2, ha2⟩ : ∃ a, a = (numP x2).getD 0 := ⟨_, rfl⟩
    obtain ⟨a3, ha3⟩ : ∃ a, a = (fltP x3).getD 0 := ⟨_, rfl⟩
    obtain ⟨b1, hb1⟩ : ∃ a, a = (numP x1).isSome := ⟨_, rfl⟩
    obtain ⟨b2, hb2⟩ : ∃ a, a = (numP x2).isSome := ⟨_, rfl⟩
    obtain ⟨b3, hb3⟩ : ∃ a, a = (fltP x3).isSome := ⟨_, rfl⟩
    have HR1 : Hid (∀ wx, Calls Tryz.prog 31 #[.string t1] wx fun e w' => e = .returned (.tuple #[.int .i64 a1, .bool b1]) ∧ w' = wx) := by intro wx; rw [ht1, ha1, hb1]; exact rnumber_walk _ _ HLL.out.1
    have HR2 : Hid (∀ wx, Calls Tryz.prog 31 #[.string t2] wx fun e w' => e = .returned (.tuple #[.int .i64 a2, .bool b2]) ∧ w' = wx) := by intro wx; rw [ht2, ha2, hb2]; exact rnumber_walk _ _ HLL.out.2
    have HR3 : Hid (∀ wx, Calls Tryz.prog 32 #[.string t3] wx fun e w' => e = .returned (.tuple #[.float .f64 a3, .bool b3]) ∧ w' = wx) := by intro wx; rw [ht3, ha3, hb3]; exact rfloat_walk _ _
    have HEND : Hid ((b1 && b2 && b3) = true → opA xs.tail = some (⟨a1, a2, a3⟩, [])) := by
      intro h
      simp only [Bool.and_eq_true] at h
      rw [hxs]
      obtain ⟨y1, e1⟩ := Option.isSome_iff_exists.1 (hb1 ▸ h.1.1)
      obtain ⟨y2, e2⟩ := Option.isSome_iff_exists.1 (hb2 ▸ h.1.2)
      obtain ⟨y3, e3⟩ := Option.isSome_iff_exists.1 (hb3 ▸ h.2)
      refine (opA_four _).2 ⟨?_, ?_, ?_⟩
      · rw [ha1, e1]; rfl
      · rw [ha2, e2]; rfl
      · rw [ha3, e3]; rfl
    have HENF : Hid ((b1 && b2 && b3) = false → ∀ o, opA xs.tail ≠ some (o, [])) := by
      intro h o ho
      rw [hxs] at ho
      obtain ⟨e1, e2, e3⟩ := (opA_four o).1 ho
      rw [hb1, hb2, hb3, e1, e2, e3] at h
      cases h
    have hi1 : (1 : Int) < (n : Int) := by omega
    have hi2 : (2 : Int) < (n : Int) := by omega
    have hi3 : (3 : Int) < (n : Int) := by omega
    clear hxs hL h1 h2 ht1 ht2 ht3 hw2 HW2 ha1 ha2 ha3 hb1 hb2 hb3 hnn h4 hn
    cases b1 with
    | false =>
      cases b2 with
      | false =>
        cases b3 with
        | false =>
          go_enter Tryz.func18, Tryz.ntmps18
          go_wp2_with fail
          refine (HR1.out _).mono ?_
          rintro e9 w3 ⟨rfl, hw⟩
          subst hw
          go_wp2_with fail
          refine (HR2.out _).mono ?_
          rintro e9 w3 ⟨rfl, hw⟩
          subst hw
          go_wp2_with fail
          refine (HR3.out _).mono ?_
          rintro e9 w3 ⟨rfl, hw⟩
          subst hw
          go_wp2_with fail
          refine bodyPost_ret (v := .tuple #[.agg #[.int .i64 a1, .int .i64 a2, .float .f64 a3], .bool false]) (by rw [results_cell_tmp rfl]; go_simp) rfl ?_
          refine ⟨⟨a1, a2, a3⟩, false, rfl, (fun h => by cases h), fun _ => HENF.out rfl, ?_⟩
          exact below_alloc _ _
        | true =>
          go_enter Tryz.func18, Tryz.ntmps18
          go_wp2_with fail
          refine (HR1.out _).mono ?_
          rintro e9 w3 ⟨rfl, hw⟩
          subst hw
          go_wp2_with fail
          refine (HR2.out _).mono ?_
          rintro e9 w3 ⟨rfl, hw⟩
          subst hw
          go_wp2_with fail
          refine (HR3.out _).mono ?_
          rintro e9 w3 ⟨rfl, hw⟩
          subst hw
          go_wp2_with fail
          refine bodyPost_ret (v := .tuple #[.agg #[.int .i64 a1, .int .i64 a2, .float .f64 a3], .bool false]) (by rw [results_cell_tmp rfl]; go_simp) rfl ?_
          refine ⟨⟨a1, a2, a3⟩, false, rfl, (fun h => by cases h), fun _ => HENF.out rfl, ?_⟩
          exact below_alloc _ _
      | true =>
        cases b3 with
        | false =>
          go_enter Tryz.func18, Tryz.ntmps18
          go_wp2_with fail
          refine (HR1.out _).mono ?_
          rintro e9 w3 ⟨rfl, hw⟩
          subst hw
          go_wp2_with fail
          refine (HR2.out _).mono ?_
          rintro e9 w3 ⟨rfl, hw⟩
          subst hw
          go_wp2_with fail
          refine (HR3.out _).mono ?_
          rintro e9 w3 ⟨rfl, hw⟩
          subst hw
          go_wp2_with fail
          refine bodyPost_ret (v := .tuple #[.agg #[.int .i64 a1, .int .i64 a2, .float .f64 a3], .bool false]) (by rw [results_cell_tmp rfl]; go_simp) rfl ?_
          refine ⟨⟨a1, a2, a3⟩, false, rfl, (fun h => by cases h), fun _ => HENF.out rfl, ?_⟩
          exact below_alloc _ _
        | true =>
          go_enter Tryz.func18, Tryz.ntmps18
          go_wp2_with fail
          refine (HR1.out _).mono ?_
          rintro e9 w3 ⟨rfl, hw⟩
          subst hw
          go_wp2_with fail
          refine (HR2.out _).mono ?_
          rintro e9 w3 ⟨rfl, hw⟩
          subst hw
          go_wp2_with fail
          refine (HR3.out _).mono ?_
          rintro e9 w3 ⟨rfl, hw⟩
          subst hw
          go_wp2_with fail
          refine bodyPost_ret (v := .tuple #[.agg #[.int .i64 a1, .int .i64 a2, .float .f64 a3], .bool false]) (by rw [results_cell_tmp rfl]; go_simp) rfl ?_
          refine ⟨⟨a1, a2, a3⟩, false, rfl, (fun h => by cases h), fun _ => HENF.out rfl, ?_⟩
          exact below_alloc _ _
    | true =>
      cases b2 with
      | false =>
        cases b3 with
        | false =>
          go_enter Tryz.func18, Tryz.ntmps18
          go_wp2_with fail
          refine (HR1.out _).mono ?_
          rintro e9 w3 ⟨rfl, hw⟩
          subst hw
          go_wp2_with fail
          refine (HR2.out _).mono ?_
          rintro e9 w3 ⟨rfl, hw⟩
          subst hw
          go_wp2_with fail
          refine (HR3.out _).mono ?_
          rintro e9 w3 ⟨rfl, hw⟩
          subst hw
          go_wp2_with fail
          refine bodyPost_ret (v := .tuple #[.agg #[.int .i64 a1, .int .i64 a2, .float .f64 a3], .bool false]) (by rw [results_cell_tmp rfl]; go_simp) rfl ?_
          refine ⟨⟨a1, a2, a3⟩, false, rfl, (fun h => by cases h), fun _ => HENF.out rfl, ?_⟩
          exact below_alloc _ _
        | true =>
          go_enter Tryz.func18, Tryz.ntmps18
          go_wp2_with fail
          refine (HR1.out _).mono ?_
          rintro e9 w3 ⟨rfl, hw⟩
          subst hw
          go_wp2_with fail
          refine (HR2.out _).mono ?_
          rintro e9 w3 ⟨rfl, hw⟩
          subst hw
          go_wp2_with fail
          refine (HR3.out _).mono ?_
          rintro e9 w3 ⟨rfl, hw⟩
          subst hw
          go_wp2_with fail
          refine bodyPost_ret (v := .tuple #[.agg #[.int .i64 a1, .int .i64 a2, .float .f64 a3], .bool false]) (by rw [results_cell_tmp rfl]; go_simp) rfl ?_
          refine ⟨⟨a1, a2, a3⟩, false, rfl, (fun h => by cases h), fun _ => HENF.out rfl, ?_⟩
          exact below_alloc _ _
      | true =>
        cases b3 with
        | false =>
          go_enter Tryz.func18, Tryz.ntmps18
          go_wp2_with fail
          refine (HR1.out _).mono ?_
          rintro e9 w3 ⟨rfl, hw⟩
          subst hw
          go_wp2_with fail
          refine (HR2.out _).mono ?_
          rintro e9 w3 ⟨rfl, hw⟩
          subst hw
          go_wp2_with fail
          refine (HR3.out _).mono ?_
          rintro e9 w3 ⟨rfl, hw⟩
          subst hw
          go_wp2_with fail
          refine bodyPost_ret (v := .tuple #[.agg #[.int .i64 a1, .int .i64 a2, .float .f64 a3], .bool false]) (by rw [results_cell_tmp rfl]; go_simp) rfl ?_
          refine ⟨⟨a1, a2, a3⟩, false, rfl, (fun h => by cases h), fun _ => HENF.out rfl, ?_⟩
          exact below_alloc _ _
        | true =>
          go_enter Tryz.func18, Tryz.ntmps18
          go_wp2_with fail
          refine (HR1.out _).mono ?_
          rintro e9 w3 ⟨rfl, hw⟩
          subst hw
          go_wp2_with fail
          refine (HR2.out _).mono ?_
          rintro e9 w3 ⟨rfl, hw⟩
          subst hw
          go_wp2_with fail
          refine (HR3.out _).mono ?_
          rintro e9 w3 ⟨rfl, hw⟩
          subst hw
          go_wp2_with fail
          refine bodyPost_ret (v := .tuple #[.agg #[.int .i64 a1, .int .i64 a2, .float .f64 a3], .bool true]) (by rw [results_cell_tmp rfl]; go_simp) rfl ?_
          refine ⟨⟨a1, a2, a3⟩, true, rfl, fun _ => HEND.out rfl, (fun h => by cases h), ?_⟩
          exact below_alloc _ _
  · have hb : ((n : Int) != 4) = true := by rw [bne_iff_ne]; omega
    have HN : Hid (∀ o, opA xs.tail ≠ some (o, [])) := by
      intro o h
      have := opA_len h
      have := HX.out.2
      simp at *
      omega
    clear h4 hn
    go_enter Tryz.func18, Tryz.ntmps18
    go_wp2_with fail
    refine bodyPost_ret (v := .tuple #[.agg #[.int .i64 0, .int .i64 0, .float .f64 0], .bool false]) (by rw [results_cell_tmp rfl]; go_simp) rfl ?_
    refine ⟨⟨0, 0, 0⟩, false, rfl, (fun h => by cases h), fun _ => HN.out, ?_⟩
    exact below_alloc _ _
end Go.Proofs.YtkiplcmndpdifaaGreatDoor


