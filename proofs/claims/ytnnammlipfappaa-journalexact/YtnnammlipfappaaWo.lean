/- Nums and its reference. -/
import Derived.Test.YtnnammlipfappaaWn

namespace Go.Proofs.Ytnnammlipfappaa

open Go.RowKit



/-- The list of numbers as bytes, where none is below 0. -/
def numsB (l : List Int) : List Nat := Wm.enc l.length ++ Wm.encAll (l.map Int.toNat)
/-- Nums' answers. -/
def numsA (l : List Int) : List Nat × Nat := if ∀ x ∈ l, 0 ≤ x then (numsB l, 0) else ([], 1)


theorem encAll_append (l r : List Nat) : Wm.encAll (l ++ r) = Wm.encAll l ++ Wm.encAll r := by
  induction l with
  | nil => rfl
  | cons x l ih => simp [Wm.encAll, ih]


theorem encAll_len (l : List Nat) : (Wm.encAll l).length ≤ 10 * l.length := by
  induction l with
  | nil => simp [Wm.encAll]
  | cons x l ih =>
    have := (Wm.enc_len x).2
    simp only [Wm.encAll, List.length_append, List.length_cons]; omega


theorem encAll_lt (l : List Nat) (h : ∀ x ∈ l, x < 18446744073709551616) : ∀ c ∈ Wm.encAll l, c < 256 := by
  induction l with
  | nil => simp [Wm.encAll]
  | cons x l ih =>
    intro c hc
    simp only [Wm.encAll, List.mem_append] at hc
    rcases hc with hc | hc
    · exact Wm.enc_lt x (h x (by simp)) c hc
    · exact ih (fun y hy => h y (by simp [hy])) c hc


theorem numsB_len (l : List Int) : (numsB l).length ≤ 10 + 10 * l.length := by
  have h1 := (Wm.enc_len l.length).2
  have h2 := encAll_len (l.map Int.toNat)
  rw [List.length_map] at h2
  unfold numsB; rw [List.length_append]; omega


/-- The loop: k numbers have been written. -/
def npre (l : List Int) (k : Nat) : List Nat := Wm.enc l.length ++ Wm.encAll ((l.take k).map Int.toNat)


theorem npre_zero (l : List Int) : npre l 0 = Wm.enc l.length := by simp [npre, Wm.encAll]
theorem npre_all (l : List Int) : npre l l.length = numsB l := by simp [npre, numsB]
theorem npre_len (l : List Int) (k : Nat) (hk : k ≤ l.length) : (npre l k).length ≤ 10 + 10 * k := by
  have h1 := (Wm.enc_len l.length).2
  have h2 := encAll_len ((l.take k).map Int.toNat)
  rw [List.length_map, List.length_take] at h2
  unfold npre; rw [List.length_append]; omega
theorem npre_succ {l : List Int} {k : Nat} {x : Int} (hk : k < l.length) (hx : l.getD k 0 = x) : npre l (k + 1) = npre l k ++ Wm.enc x.toNat := by
  have e : l.getD k 0 = l[k] := by simp [List.getD, List.getElem?_eq_getElem hk]
  unfold npre
  rw [List.take_succ_eq_append_getElem hk, List.map_append, encAll_append, ← e, hx, List.append_assoc]
  simp [Wm.encAll]


def NumsRel (l : List Int) (H : Nat) (w : World) (v iv : Value) (wr : World) : Prop :=
  ∃ k : Nat, k ≤ l.length ∧ iv = .int .i64 k ∧ (∀ i, i < k → 0 ≤ l.getD i 0) ∧ wr.ownsRow H 5 1 v (npre l k).length ((ib (npre l k)).map (Value.int .u8)) ∧ Below H w wr


theorem numsrel_step {l : List Int} {H k : Nat} {w wr w1 w2 : World} {v v' : Value} {x : Int} (hk : k < l.length) (hx : l.getD k 0 = x) (h0 : 0 ≤ x) (hpos : ∀ i, i < k → 0 ≤ l.getD i 0) (hbel : Below H w wr) (hH : H ≤ wr.heap.size)
    (hb1 : Below wr.heap.size wr w1) (hown : w1.ownsRow H 5 1 v (npre l k).length ((ib (npre l k)).map (Value.int .u8)))
    (hown' : w2.ownsRow H 5 1 v' ((npre l k).length + (ib (Wm.enc x.toNat)).length) ((ib (npre l k)).map (Value.int .u8) ++ (ib (Wm.enc x.toNat)).map (Value.int .u8))) (hg : w1.grownBy w2 v.ownBlock) :
    NumsRel l H w v' (.int .i64 ((k : Int) + 1)) w2 := by
  refine ⟨k + 1, hk, rfl, ?_, ?_, hbel.trans ((hb1.mono hH).trans (grown_below hown hg (Nat.le_trans hH hb1.size)))⟩
  · intro i hi
    by_cases h : i < k
    · exact hpos i h
    · obtain rfl : i = k := by omega
      rw [hx]; exact h0
  · rw [npre_succ hk hx, List.length_append, ib_append, List.map_append]
    rw [ib_len] at hown'
    exact hown'


theorem numsA_ok {l : List Int} (h : ∀ i, i < l.length → 0 ≤ l.getD i 0) : numsA l = (numsB l, 0) := by
  unfold numsA
  rw [if_pos]
  intro x hx
  obtain ⟨i, hi, rfl⟩ := List.getElem_of_mem hx
  have := h i hi
  simpa [List.getD, List.getElem?_eq_getElem hi] using this


theorem numsA_bad {l : List Int} {k : Nat} {x : Int} (hk : k < l.length) (hx : l.getD k 0 = x) (h : x < 0) : numsA l = ([], 1) := by
  unfold numsA
  rw [if_neg]
  intro hh
  have e : l.getD k 0 = l[k] := by simp [List.getD, List.getElem?_eq_getElem hk]
  have := hh l[k] (List.getElem_mem hk)
  rw [← e, hx] at this
  omega


/-- What Nums leaves. -/
def NumsLeft (l : List Int) (w : World) (e : Ending) (w' : World) : Prop :=
  ∃ v', e = .returned (.tuple #[v', .int .i64 ((numsA l).2 : Nat)]) ∧ w'.ownsRow w.heap.size 5 1 v' (numsA l).1.length ((ib (numsA l).1).map (Value.int .u8)) ∧ Below w.heap.size w w'


theorem numsleft_bad {l : List Int} {k : Nat} {x : Int} {w w' : World} (hk : k < l.length) (hx : l.getD k 0 = x) (h : x < 0) (hb : Below w.heap.size w w') :
    NumsLeft l w (.returned (.tuple #[.slice none 0 0, .int .i64 1])) w' := by
  refine ⟨_, by rw [numsA_bad hk hx h]; rfl, ?_, hb⟩
  rw [numsA_bad hk hx h]
  exact World.ownsRow_nil _ _ _ _


theorem numsleft_ok {l : List Int} {v : Value} {w w' : World} (h : ∀ i, i < l.length → 0 ≤ l.getD i 0) (hown : w'.ownsRow w.heap.size 5 1 v (npre l l.length).length ((ib (npre l l.length)).map (Value.int .u8))) (hb : Below w.heap.size w w') :
    NumsLeft l w (.returned (.tuple #[v, .int .i64 0])) w' := by
  refine ⟨v, by rw [numsA_ok h]; rfl, ?_, hb⟩
  rw [numsA_ok h, ← npre_all]
  exact hown


theorem sv_cells {w : World} {b off n cap : Nat} {k : IntKind} {l : List Int} (h : Sv k w (.slice (some ⟨b, off, none⟩) n cap) l) : n = l.length ∧ l.length ≤ cap ∧ cap ≤ maxLen ∧ ∀ i, i < l.length → w.cell? ⟨b, off + i, none⟩ = some (.int k (l.getD i 0)) := by
  obtain ⟨ao, cap', e, h1, h2, h3, h4⟩ := h
  simp only [Value.slice.injEq] at e
  obtain ⟨e1, e2, rfl⟩ := e
  refine ⟨e2, h1, h2, fun i hi => ?_⟩
  obtain ⟨b', off', e3, e4⟩ := h4 i hi
  rw [← e1] at e3
  cases e3
  exact e4


set_option maxRecDepth 100000 in
set_option maxHeartbeats 1000000 in
theorem nums_some (l : List Int) (b off cap : Nat) (w : World) (hsz : 10 + 10 * l.length ≤ 140737488355328) (hin : ∀ x ∈ l, x < 9223372036854775808)
    (hc : ∀ i, i < l.length → w.cell? ⟨b, off + i, none⟩ = some (.int .i64 (l.getD i 0))) :
    Calls Try.prog 60 #[.slice (some ⟨b, off, none⟩) l.length cap] w (NumsLeft l w) := by
  have HSZ : Hid (10 + 10 * l.length ≤ 140737488355328) := hsz
  have hle : (l.length : Int) ≤ 140737488355328 := by omega
  have HC : Hid (∀ i, i < l.length → w.cell? ⟨b, off + i, none⟩ = some (.int .i64 (l.getD i 0))) := hc
  have HIN : Hid (∀ x ∈ l, x < 9223372036854775808) := hin
  clear hsz hc hin
  go_enter Try.func60, Try.ntmps60
  go_wp2_with fail
  refine (put_walk l.length (by omega) _).mono ?_
  rintro e w1 ⟨v1, rfl, hown1, hbel1⟩
  have HST : Hid (NumsRel l w.heap.size w v1 (.int .i64 0) w1) := ⟨0, Nat.zero_le _, rfl, by omega, by rw [npre_zero]; exact hown1, hbel1⟩
  clear hown1 hbel1
  go_wp2_with fail
  go_loopw [4, 13] (fun v iv wr => NumsRel l w.heap.size w v iv wr) (fun _ iv _ => l.length - (intOf iv).toNat)
  case atStart => exact HST.out
  case round =>
    obtain ⟨k, hk, rfl, hpos, hown, hbel⟩ := hrel
    have HP : Hid (∀ i, i < k → 0 ≤ l.getD i 0) := hpos
    have hH : w.heap.size ≤ wr.heap.size := hbel.size
    clear hpos HST
    by_cases hlt : k < l.length
    · have hcell0 := HC.out k hlt
      obtain ⟨x, hx⟩ : ∃ x, l.getD k 0 = x := ⟨_, rfl⟩
      have HXi : Hid (l.getD k 0 = x) := hx
      have hcell : wr.cell? ⟨b, off + k, none⟩ = some (.int .i64 x) := by rw [hbel.cell (p := ⟨b, off + k, none⟩) (cell_lt hcell0), hcell0, hx]
      have HXL : Hid (x < 9223372036854775808) := by
        show x < _
        rw [← hx]
        have e : l.getD k 0 = l[k] := by simp [List.getD, List.getElem?_eq_getElem hlt]
        rw [e]; exact HIN.out _ (List.getElem_mem hlt)
      clear hcell0 hx
      by_cases h0 : x < 0
      · go_wp2_with fail
        go_ret2
        exact numsleft_bad hlt HXi.out h0 hbel
      · obtain ⟨y, rfl⟩ : ∃ y : Nat, x = (y : Int) := ⟨x.toNat, by omega⟩
        have hyl : (y : Int) ≤ 9223372036854775807 := by have := HXL.out; omega
        go_wp2_with fail
        refine (put_walk y (by omega) _).mono ?_
        rintro e w2 ⟨v2, rfl, hown2, hbel2⟩
        have hown3 := own_below hown hbel2
        have hsv : Hid (Sv .u8 w2 v2 (ib (Wm.enc y))) := own_sv hown2
        have HBD : Hid ((npre l k).length + (ib (Wm.enc y)).length ≤ 140737488355328) := by
          have h1 := npre_len l k hk
          have h2 := (Wm.enc_len y).2
          have := HSZ.out
          rw [ib_len]
          show _ ≤ _
          omega
        have hs2 : w.heap.size ≤ w2.heap.size := Nat.le_trans hH hbel2.size
        clear hown2
        go_wp2_with (at_builtin; refine wpList_append_sv (by rfl) (.tmp 19) (.tmp 22) 57 (by rfl) w.heap.size 5 .u8 1 Try.underlying57 info_u8 _ _ _ (by rfl) hown3 _ _ (by rfl) hsv.out (by have := HBD.out; simp only [maxLen]; omega) (by have := HBD.out; omega) hs2 ?_; intro v' w3 hown' hgrow)
        have R := numsrel_step hlt HXi.out (by omega) HP.out hbel hH hbel2 hown3 (by simpa using hown') hgrow
        clear hown' hgrow hown3 hbel2
        go_wp2
        go_roundw
        case rel => exact R
        case measure => simp [intOf]; omega
    · obtain rfl : k = l.length := by omega
      have HO : Hid (wr.ownsRow w.heap.size 5 1 u4 (npre l l.length).length ((ib (npre l l.length)).map (Value.int .u8))) := hown
      clear hown
      go_wp2_with fail
      go_ret2
      exact numsleft_ok HP.out HO.out hbel


set_option maxRecDepth 100000 in
theorem nums_none (ao : Option Addr) (cap : Nat) (w : World) :
    Calls Try.prog 60 #[.slice ao 0 cap] w (NumsLeft [] w) := by
  go_enter Try.func60, Try.ntmps60
  go_wp2_with fail
  refine (put_walk 0 (by omega) _).mono ?_
  rintro e w1 ⟨v1, rfl, hown1, hbel1⟩
  have HO : Hid (w1.ownsRow w.heap.size 5 1 v1 (npre [] ([] : List Int).length).length ((ib (npre [] ([] : List Int).length)).map (Value.int .u8))) := hown1
  clear hown1
  go_wp2_with fail
  refine wp_loop_rounds 1 ?_
  rw [rounds_succ]
  go_wp2_with fail
  go_ret2
  exact numsleft_ok (by simp) HO.out hbel1


theorem nums_walk {w : World} {v : Value} {l : List Int} (h : Sv .i64 w v l) (hsz : 10 + 10 * l.length ≤ 140737488355328) (hin : ∀ x ∈ l, x < 9223372036854775808) :
    Calls Try.prog 60 #[v] w (NumsLeft l w) := by
  have h' := h
  obtain ⟨ao, cap, rfl, h1, h2, h3, h4⟩ := h
  by_cases h0 : l = []
  · subst h0; exact nums_none ao cap w
  · obtain ⟨b, off, rfl, _⟩ := h4 0 (List.length_pos_iff.2 h0)
    exact nums_some l b off cap w hsz hin (sv_cells h').2.2.2


set_option maxRecDepth 100000 in
set_option maxHeartbeats 1000000 in
theorem rnums_some (l : List Int) (b off cap : Nat) (w : World) (hsz : 10 + 10 * l.length ≤ 140737488355328) (hin : ∀ x ∈ l, x < 9223372036854775808)
    (hc : ∀ i, i < l.length → w.cell? ⟨b, off + i, none⟩ = some (.int .i64 (l.getD i 0))) :
    Calls Try.prog 65 #[.slice (some ⟨b, off, none⟩) l.length cap] w (NumsLeft l w) := by
  have HSZ : Hid (10 + 10 * l.length ≤ 140737488355328) := hsz
  have hle : (l.length : Int) ≤ 140737488355328 := by omega
  have HC : Hid (∀ i, i < l.length → w.cell? ⟨b, off + i, none⟩ = some (.int .i64 (l.getD i 0))) := hc
  have HIN : Hid (∀ x ∈ l, x < 9223372036854775808) := hin
  clear hsz hc hin
  go_enter Try.func65, Try.ntmps65
  go_wp2_with fail
  refine (rput_walk l.length (by omega) _).mono ?_
  rintro e w1 ⟨v1, rfl, hown1, hbel1⟩
  have HST : Hid (NumsRel l w.heap.size w v1 (.int .i64 0) w1) := ⟨0, Nat.zero_le _, rfl, by omega, by rw [npre_zero]; exact hown1, hbel1⟩
  clear hown1 hbel1
  go_wp2_with fail
  go_loopw [4, 5] (fun v iv wr => NumsRel l w.heap.size w v iv wr) (fun _ iv _ => l.length - (intOf iv).toNat)
  case atStart => exact HST.out
  case round =>
    obtain ⟨k, hk, rfl, hpos, hown, hbel⟩ := hrel
    have HP : Hid (∀ i, i < k → 0 ≤ l.getD i 0) := hpos
    have hH : w.heap.size ≤ wr.heap.size := hbel.size
    clear hpos HST
    by_cases hlt : k < l.length
    · have hcell0 := HC.out k hlt
      obtain ⟨x, hx⟩ : ∃ x, l.getD k 0 = x := ⟨_, rfl⟩
      have HXi : Hid (l.getD k 0 = x) := hx
      have hcell : wr.cell? ⟨b, off + k, none⟩ = some (.int .i64 x) := by rw [hbel.cell (p := ⟨b, off + k, none⟩) (cell_lt hcell0), hcell0, hx]
      have HXL : Hid (x < 9223372036854775808) := by
        show x < _
        rw [← hx]
        have e : l.getD k 0 = l[k] := by simp [List.getD, List.getElem?_eq_getElem hlt]
        rw [e]; exact HIN.out _ (List.getElem_mem hlt)
      clear hcell0 hx
      by_cases h0 : x < 0
      · go_wp2_with fail
        go_ret2
        exact numsleft_bad hlt HXi.out h0 hbel
      · obtain ⟨y, rfl⟩ : ∃ y : Nat, x = (y : Int) := ⟨x.toNat, by omega⟩
        have hyl : (y : Int) ≤ 9223372036854775807 := by have := HXL.out; omega
        go_wp2_with fail
        refine (rput_walk y (by omega) _).mono ?_
        rintro e w2 ⟨v2, rfl, hown2, hbel2⟩
        have hown3 := own_below hown hbel2
        have hsv : Hid (Sv .u8 w2 v2 (ib (Wm.enc y))) := own_sv hown2
        have HBD : Hid ((npre l k).length + (ib (Wm.enc y)).length ≤ 140737488355328) := by
          have h1 := npre_len l k hk
          have h2 := (Wm.enc_len y).2
          have := HSZ.out
          rw [ib_len]
          show _ ≤ _
          omega
        have hs2 : w.heap.size ≤ w2.heap.size := Nat.le_trans hH hbel2.size
        clear hown2
        go_wp2_with (at_builtin; refine wpList_append_sv (by rfl) (.tmp 21) (.tmp 27) 57 (by rfl) w.heap.size 5 .u8 1 Try.underlying57 info_u8 _ _ _ (by rfl) hown3 _ _ (by rfl) hsv.out (by have := HBD.out; simp only [maxLen]; omega) (by have := HBD.out; omega) hs2 ?_; intro v' w3 hown' hgrow)
        have R := numsrel_step hlt HXi.out (by omega) HP.out hbel hH hbel2 hown3 (by simpa using hown') hgrow
        clear hown' hgrow hown3 hbel2
        go_wp2
        go_roundw
        case rel => exact R
        case measure => simp [intOf]; omega
    · obtain rfl : k = l.length := by omega
      have HO : Hid (wr.ownsRow w.heap.size 5 1 u4 (npre l l.length).length ((ib (npre l l.length)).map (Value.int .u8))) := hown
      clear hown
      go_wp2_with fail
      go_ret2
      exact numsleft_ok HP.out HO.out hbel


set_option maxRecDepth 100000 in
theorem rnums_none (ao : Option Addr) (cap : Nat) (w : World) :
    Calls Try.prog 65 #[.slice ao 0 cap] w (NumsLeft [] w) := by
  go_enter Try.func65, Try.ntmps65
  go_wp2_with fail
  refine (rput_walk 0 (by omega) _).mono ?_
  rintro e w1 ⟨v1, rfl, hown1, hbel1⟩
  have HO : Hid (w1.ownsRow w.heap.size 5 1 v1 (npre [] ([] : List Int).length).length ((ib (npre [] ([] : List Int).length)).map (Value.int .u8))) := hown1
  clear hown1
  go_wp2_with fail
  refine wp_loop_rounds 1 ?_
  rw [rounds_succ]
  go_wp2_with fail
  go_ret2
  exact numsleft_ok (by simp) HO.out hbel1


theorem rnums_walk {w : World} {v : Value} {l : List Int} (h : Sv .i64 w v l) (hsz : 10 + 10 * l.length ≤ 140737488355328) (hin : ∀ x ∈ l, x < 9223372036854775808) :
    Calls Try.prog 65 #[v] w (NumsLeft l w) := by
  have h' := h
  obtain ⟨ao, cap, rfl, h1, h2, h3, h4⟩ := h
  by_cases h0 : l = []
  · subst h0; exact rnums_none ao cap w
  · obtain ⟨b, off, rfl, _⟩ := h4 0 (List.length_pos_iff.2 h0)
    exact rnums_some l b off cap w hsz hin (sv_cells h').2.2.2
end Go.Proofs.Ytnnammlipfappaa


