/- The reference's step: a step's line. Printed by gen_rf22.py. -/
import Derived.Test.YtkiplcmndpdifaaGreatDoorRe

namespace Go.Proofs.YtkiplcmndpdifaaGreatDoor

open Go.RowKit

attribute [local go_sem] run_store_float


/-- The arguments read, letter by letter. -/
def stp : Bs → List Bs → Sp → Option Sp
  | [], _, s => some s
  | _ :: _, [], _ => none
  | c :: r, w :: ws, s =>
    if c = 110 then (numP w).bind fun x => stp r ws { s with D := x }
    else if c = 107 then (numP w).bind fun x => stp r ws { s with N := x }
    else if c = 117 then (keyP w).bind fun x => stp r ws { s with k := x }
    else (fltP w).bind fun x => stp r ws { s with x := x }


theorem only_t (w : Bs) (r : List Bs) : onlyI true (w :: r) = (numP w).bind fun x => some (x, r) := by
  simp only [onlyI, nm, if_true]
  cases numP w <;> rfl
theorem only_tk (w : Bs) (r : List Bs) : onlyK true (w :: r) = (keyP w).bind fun x => some (x, r) := by
  simp only [onlyK, ky, if_true]
  cases keyP w <;> rfl
theorem only_tf (w : Bs) (r : List Bs) : onlyF true (w :: r) = (fltP w).bind fun x => some (x, r) := by
  simp only [onlyF, fl, if_true]
  cases fltP w <;> rfl
theorem only_n : onlyI true [] = none := rfl
theorem only_nk : onlyK true [] = none := rfl
theorem only_nf : onlyF true [] = none := rfl
theorem only_f (ws : List Bs) : onlyI false ws = some (0, ws) := rfl
theorem only_fk (ws : List Bs) : onlyK false ws = some (0, ws) := rfl
theorem only_ff (ws : List Bs) : onlyF false ws = some (0, ws) := rfl


theorem stA_0 (K : Int) (w : Bs) (ws : List Bs) (t : Sp) : stA ⟨K, w, 0⟩ ws = some (t, []) ↔ (ws.length = 0 ∧ stp [] ws ⟨K, 0, 0, 0, 0⟩ = some t) := by
  simp only [stA, show fN 0 = false from rfl, show fK 0 = false from rfl, show fU 0 = false from rfl, show fV 0 = false from rfl, only_f, only_fk, only_ff, stp, Option.some.injEq, Prod.mk.injEq, List.length_eq_zero_iff]
  exact ⟨fun h => ⟨h.2, h.1⟩, fun h => ⟨h.2, h.1⟩⟩


theorem stA_1 (K : Int) (w : Bs) (ws : List Bs) (t : Sp) : stA ⟨K, w, 1⟩ ws = some (t, []) ↔ (ws.length = 1 ∧ stp [110] ws ⟨K, 0, 0, 0, 0⟩ = some t) := by
  simp only [stA, show fN 1 = true from rfl, show fK 1 = false from rfl, show fU 1 = false from rfl, show fV 1 = false from rfl]
  cases ws with
  | nil => simp [only_n]
  | cons a r =>
    simp only [only_t, stp, if_true]
    cases numP a with
    | none => simp
    | some x => simp [only_f, only_fk, only_ff, and_comm]


theorem stA_2 (K : Int) (w : Bs) (ws : List Bs) (t : Sp) : stA ⟨K, w, 2⟩ ws = some (t, []) ↔ (ws.length = 1 ∧ stp [107] ws ⟨K, 0, 0, 0, 0⟩ = some t) := by
  simp only [stA, show fN 2 = false from rfl, show fK 2 = true from rfl, show fU 2 = false from rfl, show fV 2 = false from rfl, only_f]
  cases ws with
  | nil => simp [only_n]
  | cons a r =>
    simp only [only_t, stp, show (107 : UInt8) ≠ 110 from by decide, if_false, if_true]
    cases numP a with
    | none => simp
    | some x => simp [only_fk, only_ff, and_comm]


theorem stA_4 (K : Int) (w : Bs) (ws : List Bs) (t : Sp) : stA ⟨K, w, 4⟩ ws = some (t, []) ↔ (ws.length = 1 ∧ stp [117] ws ⟨K, 0, 0, 0, 0⟩ = some t) := by
  simp only [stA, show fN 4 = false from rfl, show fK 4 = false from rfl, show fU 4 = true from rfl, show fV 4 = false from rfl, only_f]
  cases ws with
  | nil => simp [only_nk]
  | cons a r =>
    simp only [only_tk, stp, show (117 : UInt8) ≠ 110 from by decide, show (117 : UInt8) ≠ 107 from by decide, if_false, if_true]
    cases keyP a with
    | none => simp
    | some x => simp [only_ff, and_comm]


theorem stA_3 (K : Int) (w : Bs) (ws : List Bs) (t : Sp) : stA ⟨K, w, 3⟩ ws = some (t, []) ↔ (ws.length = 2 ∧ stp [110, 107] ws ⟨K, 0, 0, 0, 0⟩ = some t) := by
  simp only [stA, show fN 3 = true from rfl, show fK 3 = true from rfl, show fU 3 = false from rfl, show fV 3 = false from rfl]
  cases ws with
  | nil => simp [only_n]
  | cons a r =>
    simp only [only_t, stp, if_true]
    cases numP a with
    | none => simp
    | some x =>
      simp only [Option.bind_some]
      cases r with
      | nil => simp [only_n]
      | cons b r =>
        simp only [only_t, stp, show (107 : UInt8) ≠ 110 from by decide, if_false, if_true]
        cases numP b with
        | none => simp
        | some y => simp [only_fk, only_ff, and_comm]


theorem stA_13 (K : Int) (w : Bs) (ws : List Bs) (t : Sp) : stA ⟨K, w, 13⟩ ws = some (t, []) ↔ (ws.length = 3 ∧ stp [110, 117, 118] ws ⟨K, 0, 0, 0, 0⟩ = some t) := by
  simp only [stA, show fN 13 = true from rfl, show fK 13 = false from rfl, show fU 13 = true from rfl, show fV 13 = true from rfl]
  cases ws with
  | nil => simp [only_n]
  | cons a r =>
    simp only [only_t, stp, if_true]
    cases numP a with
    | none => simp
    | some x =>
      simp only [Option.bind_some, only_f]
      cases r with
      | nil => simp [only_nk]
      | cons b r =>
        simp only [only_tk, stp, show (117 : UInt8) ≠ 110 from by decide, show (117 : UInt8) ≠ 107 from by decide, if_false, if_true]
        cases keyP b with
        | none => simp
        | some y =>
          simp only [Option.bind_some]
          cases r with
          | nil => simp [only_nf]
          | cons c r =>
            simp only [only_tf, stp, show (118 : UInt8) ≠ 110 from by decide, show (118 : UInt8) ≠ 107 from by decide, show (118 : UInt8) ≠ 117 from by decide, if_false]
            cases fltP c with
            | none => simp
            | some z => simp [and_comm]


theorem formG9 : ∀ f ∈ formL, f.g = 13 ∨ f.g = 3 ∨ f.g = 0 ∨ f.g = 2 ∨ f.g = 1 ∨ f.g = 4 := by decide


theorem stA_stp {f : Fm} (hf : f ∈ formL) (ws : List Bs) (t : Sp) : stA f ws = some (t, []) ↔ (ws.length = (askL f.g).length ∧ stp (askL f.g) ws ⟨f.K, 0, 0, 0, 0⟩ = some t) := by
  have hg := formG9 f hf
  obtain ⟨K, w, g⟩ := f
  dsimp only at hg ⊢
  rcases hg with rfl | rfl | rfl | rfl | rfl | rfl
  · exact stA_13 K w ws t
  · exact stA_3 K w ws t
  · exact stA_0 K w ws t
  · exact stA_2 K w ws t
  · exact stA_1 K w ws t
  · exact stA_4 K w ws t


theorem ask_mem : ∀ g ∈ ([13, 3, 0, 2, 1, 4] : List Int), ∀ c ∈ askL g, c = 110 ∨ c = 107 ∨ c = 117 ∨ c = 118 := by decide


theorem askW_mem {T : Bs} {c : UInt8} (h : c ∈ askW T) : c = 110 ∨ c = 107 ∨ c = 117 ∨ c = 118 := by
  unfold askW at h
  cases hf : formW T with
  | none => rw [hf] at h; cases h
  | some f =>
    rw [hf] at h
    have hg := formG9 f (List.mem_of_find?_eq_some hf)
    refine ask_mem f.g ?_ c h
    simpa using hg


theorem askW_len (T : Bs) : (askW T).length ≤ 3 := by
  unfold askW
  cases hf : formW T with
  | none => simp
  | some f =>
    have hg := formG9 f (List.mem_of_find?_eq_some hf)
    simp only [askL]
    rcases hg with e | e | e | e | e | e <;> rw [e] <;> simp


/-- step's own blocks: its answer, nought so far, and the step as it is read. -/
structure Sw9 (w : World) (P B : Nat) (s : Sp) (wr : World) : Prop where
  bel : Below w.heap.size w wr
  pl : wr.heap[P]? = some (.cells #[.int .i64 0, .int .i64 0, .int .i64 0, .int .u64 0, .float .f64 0] 41 (0, 0))
  st : wr.heap[B]? = some (.cells #[.int .i64 s.K, .int .i64 s.D, .int .i64 s.N, .int .u64 s.k, .float .f64 s.x] 41 (0, 0))
  p : P = w.heap.size
  b : B = w.heap.size + 1


theorem Sw9.put {w : World} {P B : Nat} {s s' : Sp} {wr : World} {j : Nat} {u : Value} (h : Sw9 w P B s wr) (hs : (#[.int .i64 s.K, .int .i64 s.D, .int .i64 s.N, .int .u64 s.k, .float .f64 s.x] : Array Value).setIfInBounds j u = #[.int .i64 s'.K, .int .i64 s'.D, .int .i64 s'.N, .int .u64 s'.k, .float .f64 s'.x]) : Sw9 w P B s' (wr.setCell ⟨B, j, none⟩ u) := by
  have h1 := h.p
  have h2 := h.b
  exact ⟨h.bel.setCell (by show _ ≤ B; omega) _, by rw [set_other _ (by omega)]; exact h.pl, by rw [set_row h.st, hs], h1, h2⟩


/-- How far step has come. -/
structure Si9 (ask : Bs) (xs : List Bs) (s0 : Sp) (i : Nat) (s : Sp) (b : Bool) : Prop where
  top : i ≤ ask.length
  yes : b = true → stp ask xs.tail s0 = stp (ask.drop i) (xs.tail.drop i) s
  no : b = false → stp ask xs.tail s0 = none


/-- What step answers. -/
def StGot (x0 : Bs) (xs : List Bs) (w : World) (e : Ending) (w' : World) : Prop := ∃ (s : Sp) (b : Bool), e = .returned (.tuple #[.agg #[.int .i64 s.K, .int .i64 s.D, .int .i64 s.N, .int .u64 s.k, .float .f64 s.x], .bool b]) ∧ (b = true → xs.tail.length = (askW x0).length ∧ stp (askW x0) xs.tail ⟨kndW x0, 0, 0, 0, 0⟩ = some s) ∧ (b = false → ∀ t, ¬ (xs.tail.length = (askW x0).length ∧ stp (askW x0) xs.tail ⟨kndW x0, 0, 0, 0, 0⟩ = some t)) ∧ Below w.heap.size w w'


theorem st_cells9 {w : World} {P : Nat} {x0 x1 x2 x3 x4 : Value} {t : TypeId} (h : w.heap[P]? = some (.cells #[x0, x1, x2, x3, x4] t (0, 0))) : w.cell? ⟨P, 0, none⟩ = some x0 ∧ w.cell? ⟨P, 1, none⟩ = some x1 ∧ w.cell? ⟨P, 2, none⟩ = some x2 ∧ w.cell? ⟨P, 3, none⟩ = some x3 ∧ w.cell? ⟨P, 4, none⟩ = some x4 :=
  ⟨blk_cell h 0, blk_cell h 1, blk_cell h 2, blk_cell h 3, blk_cell h 4⟩


theorem Si9.step_n {ask : Bs} {xs : List Bs} {s0 : Sp} {i : Nat} {s : Sp} {x : Bs} (h : Si9 ask xs s0 i s true) (hc : ask[i]? = some 110) (hx : xs[i + 1]? = some x) : Si9 ask xs s0 (i + 1) { s with D := (numP x).getD 0 } (numP x).isSome := by
  obtain ⟨h1, h2⟩ := List.getElem?_eq_some_iff.1 hc
  have e : stp ask xs.tail s0 = (numP x).bind fun y => stp (ask.drop (i + 1)) (xs.tail.drop (i + 1)) { s with D := y } := by
    rw [h.yes rfl, List.drop_eq_getElem_cons h1, h2, tail_drop hx, stp]
    simp only [if_true]
  refine ⟨h1, fun hb => ?_, fun hb => ?_⟩
  · obtain ⟨y, hy⟩ := Option.isSome_iff_exists.1 hb
    rw [e, hy]
    rfl
  · rw [e]
    cases hn : numP x with
    | none => rfl
    | some y => rw [hn] at hb; cases hb


theorem Si9.step_k {ask : Bs} {xs : List Bs} {s0 : Sp} {i : Nat} {s : Sp} {x : Bs} (h : Si9 ask xs s0 i s true) (hc : ask[i]? = some 107) (hx : xs[i + 1]? = some x) : Si9 ask xs s0 (i + 1) { s with N := (numP x).getD 0 } (numP x).isSome := by
  obtain ⟨h1, h2⟩ := List.getElem?_eq_some_iff.1 hc
  have e : stp ask xs.tail s0 = (numP x).bind fun y => stp (ask.drop (i + 1)) (xs.tail.drop (i + 1)) { s with N := y } := by
    rw [h.yes rfl, List.drop_eq_getElem_cons h1, h2, tail_drop hx, stp]
    simp only [show (107 : UInt8) ≠ 110 from by decide, if_true, if_false]
  refine ⟨h1, fun hb => ?_, fun hb => ?_⟩
  · obtain ⟨y, hy⟩ := Option.isSome_iff_exists.1 hb
    rw [e, hy]
    rfl
  · rw [e]
    cases hn : numP x with
    | none => rfl
    | some y => rw [hn] at hb; cases hb


theorem Si9.step_u {ask : Bs} {xs : List Bs} {s0 : Sp} {i : Nat} {s : Sp} {x : Bs} (h : Si9 ask xs s0 i s true) (hc : ask[i]? = some 117) (hx : xs[i + 1]? = some x) : Si9 ask xs s0 (i + 1) { s with k := (keyP x).getD 0 } (keyP x).isSome := by
  obtain ⟨h1, h2⟩ := List.getElem?_eq_some_iff.1 hc
  have e : stp ask xs.tail s0 = (keyP x).bind fun y => stp (ask.drop (i + 1)) (xs.tail.drop (i + 1)) { s with k := y } := by
    rw [h.yes rfl, List.drop_eq_getElem_cons h1, h2, tail_drop hx, stp]
    simp only [show (117 : UInt8) ≠ 110 from by decide, show (117 : UInt8) ≠ 107 from by decide, if_true, if_false]
  refine ⟨h1, fun hb => ?_, fun hb => ?_⟩
  · obtain ⟨y, hy⟩ := Option.isSome_iff_exists.1 hb
    rw [e, hy]
    rfl
  · rw [e]
    cases hn : keyP x with
    | none => rfl
    | some y => rw [hn] at hb; cases hb


theorem Si9.step_v {ask : Bs} {xs : List Bs} {s0 : Sp} {i : Nat} {s : Sp} {x : Bs} (h : Si9 ask xs s0 i s true) (hc : ask[i]? = some 118) (hx : xs[i + 1]? = some x) : Si9 ask xs s0 (i + 1) { s with x := (fltP x).getD 0 } (fltP x).isSome := by
  obtain ⟨h1, h2⟩ := List.getElem?_eq_some_iff.1 hc
  have e : stp ask xs.tail s0 = (fltP x).bind fun y => stp (ask.drop (i + 1)) (xs.tail.drop (i + 1)) { s with x := y } := by
    rw [h.yes rfl, List.drop_eq_getElem_cons h1, h2, tail_drop hx, stp]
    simp only [show (118 : UInt8) ≠ 110 from by decide, show (118 : UInt8) ≠ 107 from by decide, show (118 : UInt8) ≠ 117 from by decide, if_false]
  refine ⟨h1, fun hb => ?_, fun hb => ?_⟩
  · obtain ⟨y, hy⟩ := Option.isSome_iff_exists.1 hb
    rw [e, hy]
    rfl
  · rw [e]
    cases hn : fltP x with
    | none => rfl
    | some y => rw [hn] at hb; cases hb


set_option maxRecDepth 100000 in
set_option maxHeartbeats 8000000 in
theorem rstep_walk {x0 : Bs} {xs : List Bs} {v : Value} {w : World} (hx : Wl w v xs) (h0 : xs[0]? = some x0) : Calls Tryz.prog 19 #[v] w (StGot x0 xs w) := by
  have hpos : 0 < xs.length := (List.getElem?_eq_some_iff.1 h0).1
  obtain ⟨g, cap, n, rfl, hn, hgl, hcell⟩ := ar_form hx.ar hpos
  have HX : Hid (Wl w (.slice (some ⟨g, 0, none⟩) n cap) xs ∧ n = xs.length) := ⟨hx, hn⟩
  have HC : Hid (∀ (wx : World) (i : Nat) (x : Bs), Below w.heap.size w wx → xs[i]? = some x → wx.cell? ⟨g, i, none⟩ = some (.string ⟨x.toArray⟩)) := hcell
  have hgn : ¬ g = w.heap.size := by omega
  obtain ⟨t0, ht0⟩ : ∃ t : ByteArray, t = ⟨x0.toArray⟩ := ⟨_, rfl⟩
  obtain ⟨ask, hask⟩ : ∃ a, a = askW x0 := ⟨_, rfl⟩
  obtain ⟨K, hK⟩ : ∃ a, a = kndW x0 := ⟨_, rfl⟩
  obtain ⟨u, hu⟩ : ∃ t : ByteArray, t = ⟨ask.toArray⟩ := ⟨_, rfl⟩
  obtain ⟨m, hm⟩ : ∃ m, m = ask.length := ⟨_, rfl⟩
  have husz : u.size = m := by rw [hu, size_mk, hm]
  have hm3 : (m : Int) ≤ 3 := by have := askW_len x0; rw [← hask, ← hm] at this; omega
  have HAS : Hid (ask = askW x0 ∧ K = kndW x0 ∧ u = ⟨ask.toArray⟩ ∧ m = ask.length) := ⟨hask, hK, hu, hm⟩
  have HRA : Hid (∀ wx, Calls Tryz.prog 16 #[.string t0] wx fun e w' => e = .returned (.tuple #[.string u, .int .i64 K]) ∧ w' = wx) := by intro wx; rw [ht0, hu, hask, hK]; exact rasks_walk _ _
  have k0 : (w.alloc (.cells #[.int .i64 0, .int .i64 0, .int .i64 0, .int .u64 0, .float .f64 0] 41)).cell? ⟨g, 0, none⟩ = some (.string t0) := by rw [ht0]; exact HC.out _ 0 x0 (below_alloc _ _) h0
  have hi0 : (0 : Int) < (n : Int) := by omega
  have hwm : IntKind.i64.wrap ((m : Int) + 1) = (m : Int) + 1 := by rw [IntKind.wrap_i64]; omega
  clear hx hcell h0 hpos hn ht0 hask hK hu hm
  by_cases hne : n = m + 1
  · have hb : ((n : Int) != (m : Int) + 1) = false := by rw [hne]; simp
    have HNM : Hid (n = m + 1) := hne
    obtain ⟨P, hP⟩ : ∃ P, P = w.heap.size := ⟨_, rfl⟩
    obtain ⟨B, hB⟩ : ∃ B, B = w.heap.size + 1 := ⟨_, rfl⟩
    obtain ⟨w2, hw2⟩ : ∃ w2, w2 = (w.alloc (.cells #[.int .i64 0, .int .i64 0, .int .i64 0, .int .u64 0, .float .f64 0] 41)).alloc (.cells #[.int .i64 K, .int .i64 0, .int .i64 0, .int .u64 0, .float .f64 0] 41) := ⟨_, rfl⟩
    have HW2 : Hid (w2 = (w.alloc (.cells #[.int .i64 0, .int .i64 0, .int .i64 0, .int .u64 0, .float .f64 0] 41)).alloc (.cells #[.int .i64 K, .int .i64 0, .int .i64 0, .int .u64 0, .float .f64 0] 41) ∧ P = w.heap.size ∧ B = w.heap.size + 1) := ⟨hw2, hP, hB⟩
    clear hw2 hP hB hne
    go_enter Tryz.func19, Tryz.ntmps19
    go_wp2_with fail
    refine (HRA.out _).mono ?_
    rintro e9 w3 ⟨rfl, hw⟩
    subst hw
    clear k0
    go_wp2_with fail
    rw [← HW2.out.2.2, ← HW2.out.2.1, ← HW2.out.1]
    have HS2 : Hid (Sw9 w P B ⟨K, 0, 0, 0, 0⟩ w2) := by
      have h1 := HW2.out
      refine ⟨?_, ?_, ?_, by omega, by omega⟩
      · rw [h1.1]; exact below_trans (below_alloc _ _) (below_alloc _ _)
      · rw [h1.1]; exact alloc_old (alloc_at h1.2.1)
      · rw [h1.1]; exact alloc_at (by rw [alloc_sz]; exact h1.2.2)
    clear HW2
    go_loopw [7, 8, 9, 10, 11, 12, 13, 14, 15, 16] (fun v7 v8 _ _ _ _ _ _ _ _ wr => ∃ (i : Nat) (s : Sp) (b : Bool), v8 = .int .i64 i ∧ v7 = .bool b ∧ Si9 ask xs ⟨K, 0, 0, 0, 0⟩ i s b ∧ Sw9 w P B s wr) (fun _ v8 _ _ _ _ _ _ _ _ _ => m - (intOf v8).toNat)
    case atStart => exact ⟨0, _, true, rfl, rfl, ⟨Nat.zero_le _, fun _ => by simp, (fun h => by cases h)⟩, HS2.out⟩
    case round =>
      obtain ⟨i, s, b, rfl, rfl, hsi, hsw⟩ := hrel
      have HQ : Hid (Si9 ask xs ⟨K, 0, 0, 0, 0⟩ i s b ∧ Sw9 w P B s wr) := ⟨hsi, hsw⟩
      have htop := hsi.top
      rw [← HAS.out.2.2.2] at htop
      obtain ⟨p0, p1, p2, p3, p4⟩ := st_cells9 hsw.pl
      obtain ⟨s0, s1, s2, s3, s4⟩ := st_cells9 hsw.st
      have hpb : ¬ P = B := by have h1 := hsw.p; have h2 := hsw.b; omega
      have hbp : ¬ B = P := by omega
      have z0 := blk_soft hsw.pl 0
      have z1 := blk_soft hsw.pl 1
      have z2 := blk_soft hsw.pl 2
      have z3 := blk_soft hsw.pl 3
      have z4 := blk_soft hsw.pl 4
      have y1 := blk_soft hsw.st 1
      have y2 := blk_soft hsw.st 2
      have y3 := blk_soft hsw.st 3
      have y4 := blk_soft hsw.st 4
      clear hsi hsw HS2
      cases b with
      | false =>
        by_cases hlt : i < m
        · have hli : (i : Int) < (m : Int) := by omega
          clear y1 y2 y3 y4
          go_wp2_with fail
          refine bodyPost_ret (v := .tuple #[.agg #[.int .i64 s.K, .int .i64 s.D, .int .i64 s.N, .int .u64 s.k, .float .f64 s.x], .bool false]) (by rw [results_cell_tmp rfl]; go_simp) rfl ?_
          have hpp : w.heap.size ≤ P := by have := HQ.out.2.p; omega
          refine ⟨s, false, rfl, (fun h => by cases h), (fun _ t h => ?_), (Below.setCell (Below.setCell (Below.setCell (Below.setCell (Below.setCell HQ.out.2.bel (p := ⟨P, 0, none⟩) hpp _) (p := ⟨P, 1, none⟩) hpp _) (p := ⟨P, 2, none⟩) hpp _) (p := ⟨P, 3, none⟩) hpp _) (p := ⟨P, 4, none⟩) hpp _)⟩
          rw [← HAS.out.1, ← HAS.out.2.1, HQ.out.1.no rfl] at h
          cases h.2
        · have hli : ¬ (i : Int) < (m : Int) := by omega
          clear y1 y2 y3 y4
          go_wp2_with fail
          refine bodyPost_ret (v := .tuple #[.agg #[.int .i64 s.K, .int .i64 s.D, .int .i64 s.N, .int .u64 s.k, .float .f64 s.x], .bool false]) (by rw [results_cell_tmp rfl]; go_simp) rfl ?_
          have hpp : w.heap.size ≤ P := by have := HQ.out.2.p; omega
          refine ⟨s, false, rfl, (fun h => by cases h), (fun _ t h => ?_), (Below.setCell (Below.setCell (Below.setCell (Below.setCell (Below.setCell HQ.out.2.bel (p := ⟨P, 0, none⟩) hpp _) (p := ⟨P, 1, none⟩) hpp _) (p := ⟨P, 2, none⟩) hpp _) (p := ⟨P, 3, none⟩) hpp _) (p := ⟨P, 4, none⟩) hpp _)⟩
          rw [← HAS.out.1, ← HAS.out.2.1, HQ.out.1.no rfl] at h
          cases h.2
      | true =>
        by_cases hlt : i < m
        · have hli : (i : Int) < (m : Int) := by omega
          have hib : (i : Int) + 1 < (n : Int) := by have := HNM.out; omega
          obtain ⟨c, hc⟩ : ∃ c, ask[i]? = some c := ⟨_, List.getElem?_eq_getElem (by have := HAS.out.2.2.2; omega)⟩
          have hits : i < u.size := by omega
          have hct := get_mk HAS.out.2.2.1 hc hits
          have HCC : Hid (ask[i]? = some c) := hc
          have hcc := askW_mem (T := x0) (by rw [← HAS.out.1]; exact List.mem_of_getElem? hc)
          obtain ⟨x, hx⟩ : ∃ x, xs[i + 1]? = some x := ⟨_, List.getElem?_eq_getElem (by have := HX.out.2; have := HNM.out; omega)⟩
          obtain ⟨t, ht⟩ : ∃ t : ByteArray, t = ⟨x.toArray⟩ := ⟨_, rfl⟩
          have kx : wr.cell? ⟨g, i + 1, none⟩ = some (.string t) := by rw [ht]; exact HC.out wr (i + 1) x HQ.out.2.bel hx
          have HXX : Hid (xs[i + 1]? = some x ∧ t = ⟨x.toArray⟩ ∧ x.length ≤ 262144) := ⟨hx, ht, HX.out.1.len x (List.mem_of_getElem? hx)⟩
          clear hx ht hc
          rcases hcc with rfl | rfl | rfl | rfl
          · have q110 : (((u[i]'hits).toNat : Int) == 110) = true := by rw [hct]; rfl
            have HN := hidH (HQ.out.1.step_n HCC.out HXX.out.1)
            have HRN : Hid (∀ wx, Calls Tryz.prog 31 #[.string t] wx fun e w' => e = .returned (.tuple #[.int .i64 ((numP x).getD 0), .bool (numP x).isSome]) ∧ w' = wx) := by intro wx; rw [HXX.out.2.1]; exact rnumber_walk _ _ HXX.out.2.2
            obtain ⟨a, ha⟩ : ∃ a, a = (numP x).getD 0 := ⟨_, rfl⟩
            obtain ⟨bb, hbb⟩ : ∃ a, a = (numP x).isSome := ⟨_, rfl⟩
            rw [← ha, ← hbb] at HN HRN
            have HW9 : Hid (Sw9 w P B { s with D := a } (wr.setCell ⟨B, 1, none⟩ (.int .i64 a))) := HQ.out.2.put rfl
            clear ha hbb hct
            go_wp2_with fail
            refine (HRN.out _).mono ?_
            rintro e9 w3 ⟨rfl, hw⟩
            subst hw
            go_wp2_with fail
            exact ⟨⟨i + 1, _, bb, by (congr 1), rfl, HN.out, HW9.out⟩, by simp [intOf]; omega⟩
          · have q110 : (((u[i]'hits).toNat : Int) == 110) = false := by rw [hct]; rfl
            have q107 : (((u[i]'hits).toNat : Int) == 107) = true := by rw [hct]; rfl
            have HN := hidH (HQ.out.1.step_k HCC.out HXX.out.1)
            have HRN : Hid (∀ wx, Calls Tryz.prog 31 #[.string t] wx fun e w' => e = .returned (.tuple #[.int .i64 ((numP x).getD 0), .bool (numP x).isSome]) ∧ w' = wx) := by intro wx; rw [HXX.out.2.1]; exact rnumber_walk _ _ HXX.out.2.2
            obtain ⟨a, ha⟩ : ∃ a, a = (numP x).getD 0 := ⟨_, rfl⟩
            obtain ⟨bb, hbb⟩ : ∃ a, a = (numP x).isSome := ⟨_, rfl⟩
            rw [← ha, ← hbb] at HN HRN
            have HW9 : Hid (Sw9 w P B { s with N := a } (wr.setCell ⟨B, 2, none⟩ (.int .i64 a))) := HQ.out.2.put rfl
            clear ha hbb hct
            go_wp2_with fail
            refine (HRN.out _).mono ?_
            rintro e9 w3 ⟨rfl, hw⟩
            subst hw
            go_wp2_with fail
            exact ⟨⟨i + 1, _, bb, by (congr 1), rfl, HN.out, HW9.out⟩, by simp [intOf]; omega⟩
          · have q110 : (((u[i]'hits).toNat : Int) == 110) = false := by rw [hct]; rfl
            have q107 : (((u[i]'hits).toNat : Int) == 107) = false := by rw [hct]; rfl
            have q117 : (((u[i]'hits).toNat : Int) == 117) = true := by rw [hct]; rfl
            have HN := hidH (HQ.out.1.step_u HCC.out HXX.out.1)
            have HRN : Hid (∀ wx, Calls Tryz.prog 33 #[.string t] wx fun e w' => e = .returned (.tuple #[.int .u64 ((keyP x).getD 0 : Nat), .bool (keyP x).isSome]) ∧ w' = wx) := by intro wx; rw [HXX.out.2.1]; exact rkey_walk _ _ HXX.out.2.2
            obtain ⟨a, ha⟩ : ∃ a, a = (keyP x).getD 0 := ⟨_, rfl⟩
            obtain ⟨bb, hbb⟩ : ∃ a, a = (keyP x).isSome := ⟨_, rfl⟩
            rw [← ha, ← hbb] at HN HRN
            have HW9 : Hid (Sw9 w P B { s with k := a } (wr.setCell ⟨B, 3, none⟩ (.int .u64 (a : Nat)))) := HQ.out.2.put rfl
            clear ha hbb hct
            go_wp2_with fail
            refine (HRN.out _).mono ?_
            rintro e9 w3 ⟨rfl, hw⟩
            subst hw
            go_wp2_with fail
            exact ⟨⟨i + 1, _, bb, by (congr 1), rfl, HN.out, HW9.out⟩, by simp [intOf]; omega⟩
          · have q110 : (((u[i]'hits).toNat : Int) == 110) = false := by rw [hct]; rfl
            have q107 : (((u[i]'hits).toNat : Int) == 107) = false := by rw [hct]; rfl
            have q117 : (((u[i]'hits).toNat : Int) == 117) = false := by rw [hct]; rfl
            have q118 : (((u[i]'hits).toNat : Int) == 118) = true := by rw [hct]; rfl
            have HN := hidH (HQ.out.1.step_v HCC.out HXX.out.1)
            have HRN : Hid (∀ wx, Calls Tryz.prog 32 #[.string t] wx fun e w' => e = .returned (.tuple #[.float .f64 ((fltP x).getD 0), .bool (fltP x).isSome]) ∧ w' = wx) := by intro wx; rw [HXX.out.2.1]; exact rfloat_walk _ _
            obtain ⟨a, ha⟩ : ∃ a, a = (fltP x).getD 0 := ⟨_, rfl⟩
            obtain ⟨bb, hbb⟩ : ∃ a, a = (fltP x).isSome := ⟨_, rfl⟩
            rw [← ha, ← hbb] at HN HRN
            have HW9 : Hid (Sw9 w P B { s with x := a } (wr.setCell ⟨B, 4, none⟩ (.float .f64 a))) := HQ.out.2.put rfl
            clear ha hbb hct
            go_wp2_with fail
            refine (HRN.out _).mono ?_
            rintro e9 w3 ⟨rfl, hw⟩
            subst hw
            go_wp2_with fail
            exact ⟨⟨i + 1, _, bb, by (congr 1), rfl, HN.out, HW9.out⟩, by simp [intOf]; omega⟩
        · have hli : ¬ (i : Int) < (m : Int) := by omega
          have hvv : stp ask xs.tail ⟨K, 0, 0, 0, 0⟩ = some s := by
            have h := HQ.out.1.yes rfl
            rw [List.drop_of_length_le (by have := HAS.out.2.2.2; omega)] at h
            rw [h]
            exact rfl
          have HV := hidH hvv
          clear y1 y2 y3 y4 hvv
          go_wp2_with fail
          refine bodyPost_ret (v := .tuple #[.agg #[.int .i64 s.K, .int .i64 s.D, .int .i64 s.N, .int .u64 s.k, .float .f64 s.x], .bool true]) (by rw [results_cell_tmp rfl]; go_simp) rfl ?_
          have hpp : w.heap.size ≤ P := by have := HQ.out.2.p; omega
          refine ⟨s, true, rfl, (fun _ => ?_), (fun h => by cases h), (Below.setCell (Below.setCell (Below.setCell (Below.setCell (Below.setCell HQ.out.2.bel (p := ⟨P, 0, none⟩) hpp _) (p := ⟨P, 1, none⟩) hpp _) (p := ⟨P, 2, none⟩) hpp _) (p := ⟨P, 3, none⟩) hpp _) (p := ⟨P, 4, none⟩) hpp _)⟩
          rw [← HAS.out.1, ← HAS.out.2.1]
          exact ⟨by have h1 := HAS.out.2.2.2; have h2 := HX.out.2; have h3 := HNM.out; simp; omega, HV.out⟩
  · have hb : ((n : Int) != (m : Int) + 1) = true := by rw [bne_iff_ne]; omega
    have hnn : ¬ xs.tail.length = (askW x0).length := by
      have h1 := HAS.out.1
      have h2 := HX.out.2
      have h3 := HAS.out.2.2.2
      rw [← h1, List.length_tail]
      omega
    have HNN := hidH hnn
    clear hne hnn
    go_enter Tryz.func19, Tryz.ntmps19
    go_wp2_with fail
    refine (HRA.out _).mono ?_
    rintro e9 w3 ⟨rfl, hw⟩
    subst hw
    clear k0
    go_wp2_with fail
    refine bodyPost_ret (v := .tuple #[.agg #[.int .i64 0, .int .i64 0, .int .i64 0, .int .u64 0, .float .f64 0], .bool false]) (by rw [results_cell_tmp rfl]; go_simp) rfl ?_
    exact ⟨⟨0, 0, 0, 0, 0⟩, false, rfl, (fun h => by cases h), (fun _ _ h => HNN.out h.1), below_alloc _ _⟩
end Go.Proofs.YtkiplcmndpdifaaGreatDoor


