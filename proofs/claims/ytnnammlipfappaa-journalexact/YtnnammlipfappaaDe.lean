/- A disk in memory: its blocks, apart from all else; what its calls answer, as functions. -/
import Derived.Test.YtnnammlipfappaaDd

namespace Go.Proofs.Ytnnammlipfappaa

open Go.RowKit



structure Dk where
  bl : List (List Nat)
  down : Bool
  left : Int
  rd : Nat
  wr : Nat


structure Dk.ok (S : Dk) : Prop where
  n1 : 1 ≤ S.bl.length
  n64 : S.bl.length ≤ 64
  len : ∀ b ∈ S.bl, b.length ≤ 1024
  byt : ∀ b ∈ S.bl, ∀ c ∈ b, c < 256
  l0 : -1 ≤ S.left
  l1 : S.left < 9223372036854775808


/-- The cells of a disk's own block. -/
def hd (gp cap : Nat) (S : Dk) : Array Value := #[.slice (some ⟨gp, 0, none⟩) S.bl.length cap, .bool S.down, .int .i64 S.left, .int .i64 S.rd, .int .i64 S.wr]


/-- The disk S lies in the blocks sb (itself), gp (its row of blocks) and the blocks' own; all of them are of D. -/
structure DM (T : TypeId) (D : Nat → Prop) (w : World) (sb gp cap : Nat) (S : Dk) : Prop where
  head : w.heap[sb]? = some (.cells (hd gp cap S) T (0, 0))
  row : Gr (fun x => D x ∧ x ≠ sb) w gp cap S.bl
  a1 : gp ≠ sb
  d1 : D sb
  d2 : D gp
  dl : ∀ x, D x → x < w.heap.size


/-- The value v is a disk that is S; its memory is of D. -/
def Dsk (T : TypeId) (D : Nat → Prop) (w : World) (v : Value) (S : Dk) : Prop := ∃ sb gp cap, v = .pointer (some ⟨sb, 0, none⟩) ∧ DM T D w sb gp cap S ∧ S.ok


section

variable {T : TypeId} {D : Nat → Prop} {w w' : World} {v : Value} {sb gp cap : Nat} {S : Dk}

theorem DM.keep (h : DM T D w sb gp cap S) (hk : ∀ x, D x → w'.heap[x]? = w.heap[x]?) (hs : w.heap.size ≤ w'.heap.size) : DM T D w' sb gp cap S :=
  ⟨by rw [hk _ h.d1]; exact h.head, h.row.keep (hk _ h.d2) (fun x hx _ _ => hk x hx.1), h.a1, h.d1, h.d2, fun x hx => Nat.lt_of_lt_of_le (h.dl x hx) hs⟩
theorem Dsk.keep (h : Dsk T D w v S) (hk : ∀ x, D x → w'.heap[x]? = w.heap[x]?) (hs : w.heap.size ≤ w'.heap.size) : Dsk T D w' v S := by
  obtain ⟨sb, gp, cap, e, h1, h2⟩ := h
  exact ⟨sb, gp, cap, e, h1.keep hk hs, h2⟩
theorem Dsk.lt (h : Dsk T D w v S) {x : Nat} (hx : D x) : x < w.heap.size := by
  obtain ⟨sb, gp, cap, e, h1, h2⟩ := h
  exact h1.dl x hx
theorem Dsk.good (h : Dsk T D w v S) : S.ok := by
  obtain ⟨sb, gp, cap, e, h1, h2⟩ := h
  exact h2
theorem DM.below (h : DM T D w sb gp cap S) (hb : Below w.heap.size w w') : DM T D w' sb gp cap S := h.keep (fun x hx => hb.block x (h.dl x hx)) hb.size
theorem Dsk.below (h : Dsk T D w v S) (hb : Below w.heap.size w w') : Dsk T D w' v S := h.keep (fun x hx => hb.block x (h.lt hx)) hb.size
/-- Another's turn leaves it. -/
theorem Dsk.ch {E : Nat → Prop} (h : Dsk T D w v S) (hc : Ch E w w') (hE : ∀ x, D x → ¬ E x) : Dsk T D w' v S := h.keep (fun x hx => hc.block x (h.lt hx) (hE x hx)) hc.size


theorem DM.cell (h : DM T D w sb gp cap S) (i : Nat) : w.cell? ⟨sb, i, none⟩ = (hd gp cap S)[i]? := cell_of_row w sb i _ _ (0, 0) h.head
theorem DM.c0 (h : DM T D w sb gp cap S) : w.cell? ⟨sb, 0, none⟩ = some (.slice (some ⟨gp, 0, none⟩) S.bl.length cap) := by rw [h.cell]; rfl
theorem DM.c1 (h : DM T D w sb gp cap S) : w.cell? ⟨sb, 1, none⟩ = some (.bool S.down) := by rw [h.cell]; rfl
theorem DM.c2 (h : DM T D w sb gp cap S) : w.cell? ⟨sb, 2, none⟩ = some (.int .i64 S.left) := by rw [h.cell]; rfl
theorem DM.c3 (h : DM T D w sb gp cap S) : w.cell? ⟨sb, 3, none⟩ = some (.int .i64 S.rd) := by rw [h.cell]; rfl
theorem DM.c4 (h : DM T D w sb gp cap S) : w.cell? ⟨sb, 4, none⟩ = some (.int .i64 S.wr) := by rw [h.cell]; rfl
theorem DM.soft (h : DM T D w sb gp cap S) (i : Nat) : w.frozen? ⟨sb, i, none⟩ = false := by simp [World.frozen?, h.head]
/-- A cell of its own block is written. -/
theorem DM.put (h : DM T D w sb gp cap S) (i : Nat) (u : Value) {S' : Dk} (hb : S'.bl = S.bl) (hc : (hd gp cap S).setIfInBounds i u = hd gp cap S') : DM T D (w.setCell ⟨sb, i, none⟩ u) sb gp cap S' := by
  refine ⟨by rw [set_row h.head, hc], ?_, h.a1, h.d1, h.d2, fun x hx => by have := h.dl x hx; simpa [go_sem] using this⟩
  rw [hb]
  exact h.row.keep (set_other i u h.a1) (fun x hx _ _ => set_other i u hx.2)
theorem ch_put (i : Nat) (u : Value) (hd : D sb) : Ch D w (w.setCell ⟨sb, i, none⟩ u) := Ch.of_grown (grown_set w sb i u) (fun x hx => by cases hx; exact hd)
theorem Ch.self {w1 w2 w3 : World} (h : Ch D w1 w2) (k : Ch D w2 w3) : Ch D w1 w3 := h.trans k (fun _ hx => .inl hx)
end



/-- What refuses answers. -/
def refI (S : Dk) (i : Int) : Int := if S.down = true then 80 else if i < 0 ∨ (S.bl.length : Int) ≤ i then 81 else 0
def readL (S : Dk) (i : Int) : List Nat := if refI S i = 0 then bk S.bl i.toNat else []
def readS (S : Dk) (i : Int) : Dk := if refI S i = 0 then { S with rd := S.rd + 1 } else S
def offS (S : Dk) : Dk := { S with down := true, left := -1 }
def onS (S : Dk) : Dk := { S with down := false, left := -1 }
def cutS (S : Dk) (n : Int) : Dk := { S with left := if n < 0 then -1 else n }
def decL (x : Int) : Int := if x = -1 then -1 else x - 1
def putS (S : Dk) (i : Nat) (b : List Nat) : Dk := { S with bl := S.bl.set i b, left := decL S.left, wr := S.wr + 1 }
def writeI (S : Dk) (i : Int) (b : List Nat) : Int := if refI S i ≠ 0 then refI S i else if 1024 < b.length then 6 else if S.left = 0 then 80 else 0
def writeS (S : Dk) (i : Int) (b : List Nat) : Dk := if refI S i ≠ 0 then S else if 1024 < b.length then S else if S.left = 0 then offS S else putS S i.toNat b


theorem ref_ok {S : Dk} {i : Int} (h : refI S i = 0) : S.down = false ∧ ∃ k : Nat, i = k ∧ k < S.bl.length := by
  unfold refI at h
  split at h
  · omega
  · rename_i hd
    split at h
    · omega
    · rename_i hi
      exact ⟨by simpa using hd, i.toNat, by omega, by omega⟩
theorem ok_off {S : Dk} (h : S.ok) : (offS S).ok := ⟨h.n1, h.n64, h.len, h.byt, Int.le_refl _, by show (-1 : Int) < _; omega⟩
theorem ok_on {S : Dk} (h : S.ok) : (onS S).ok := ⟨h.n1, h.n64, h.len, h.byt, Int.le_refl _, by show (-1 : Int) < _; omega⟩
theorem ok_cut {S : Dk} (h : S.ok) {n : Int} (hn : n < 9223372036854775808) : (cutS S n).ok := by
  refine ⟨h.n1, h.n64, h.len, h.byt, ?_, ?_⟩
  · show -1 ≤ (if n < 0 then (-1 : Int) else n); split <;> omega
  · show (if n < 0 then (-1 : Int) else n) < _; split <;> omega
theorem ok_rd {S : Dk} (h : S.ok) (n : Nat) : ({ S with rd := n } : Dk).ok := ⟨h.n1, h.n64, h.len, h.byt, h.l0, h.l1⟩
theorem ok_read {S : Dk} (h : S.ok) (i : Int) : (readS S i).ok := by unfold readS; split; exact ok_rd h _; exact h
theorem ok_put {S : Dk} (h : S.ok) (i : Nat) {b : List Nat} (hb : b.length ≤ 1024) (hc : ∀ c ∈ b, c < 256) : (putS S i b).ok := by
  refine ⟨by simpa [putS] using h.n1, by simpa [putS] using h.n64, ?_, ?_, ?_, ?_⟩
  · intro x hx
    rcases List.mem_or_eq_of_mem_set hx with h1 | h1
    · exact h.len x h1
    · rw [h1]; exact hb
  · intro x hx
    rcases List.mem_or_eq_of_mem_set hx with h1 | h1
    · exact h.byt x h1
    · rw [h1]; exact hc
  · have := h.l0
    show -1 ≤ decL S.left
    unfold decL; split <;> omega
  · have := h.l1
    show decL S.left < _
    unfold decL; split <;> omega


section

variable {T : TypeId} {D : Nat → Prop} {w w' : World} {v : Value} {sb gp cap : Nat} {S : Dk}

theorem refuses_nil (i : Int) : Calls Try.prog 55 #[.pointer none, .int .i64 i] w fun e w' => e = .returned (.int .i64 2) ∧ w' = w := by
  go_enter Try.func55, Try.ntmps55
  go_wp2_with fail
  go_ret
  exact ⟨rfl, rfl⟩
theorem refuses_walk (h : DM T D w sb gp cap S) (hok : S.ok) (i : Int) : Calls Try.prog 55 #[.pointer (some ⟨sb, 0, none⟩), .int .i64 i] w fun e w' => e = .returned (.int .i64 (refI S i)) ∧ w' = w := by
  have c0 := h.c0
  have c1 := h.c1
  have h64 := hok.n64
  clear h hok
  cases hd : S.down
  · rw [hd] at c1
    by_cases h0 : i < 0
    · have HL : Hid (refI S i = 81) := by show _ = _; unfold refI; rw [hd, if_neg (by simp), if_pos (.inl h0)]
      rw [HL.out]
      clear hd
      go_enter Try.func55, Try.ntmps55
      go_wp2_with fail
      go_ret
      exact ⟨rfl, rfl⟩
    · by_cases h1 : (S.bl.length : Int) ≤ i
      · have HL : Hid (refI S i = 81) := by show _ = _; unfold refI; rw [hd, if_neg (by simp), if_pos (.inr h1)]
        rw [HL.out]
        clear hd
        go_enter Try.func55, Try.ntmps55
        go_wp2_with fail
        go_ret
        exact ⟨rfl, rfl⟩
      · have HL : Hid (refI S i = 0) := by show _ = _; unfold refI; rw [hd, if_neg (by simp), if_neg (by omega)]
        rw [HL.out]
        clear hd
        go_enter Try.func55, Try.ntmps55
        go_wp2_with fail
        go_ret
        exact ⟨rfl, rfl⟩
  · rw [hd] at c1
    have HL : Hid (refI S i = 80) := by show _ = _; unfold refI; rw [hd, if_pos rfl]
    rw [HL.out]
    clear hd
    go_enter Try.func55, Try.ntmps55
    go_wp2_with fail
    go_ret
    exact ⟨rfl, rfl⟩




theorem off_nil : Calls Try.prog 15 #[.pointer none] w fun e w' => e = .returned (.tuple #[]) ∧ w' = w := by
  go_enter Try.func15, Try.ntmps15
  go_wp2_with fail
  refine bodyPost_ret (results_none rfl _ _ _) rfl ?_
  exact ⟨rfl, rfl⟩
theorem off_walk (h : Dsk T D w v S) : Calls Try.prog 15 #[v] w fun e w' => e = .returned (.tuple #[]) ∧ Dsk T D w' v (offS S) ∧ Ch D w w' := by
  obtain ⟨sb, gp, cap, rfl, h, hok⟩ := h
  have HM : Hid (DM T D w sb gp cap S) := h
  have HK : Hid S.ok := hok
  have c1 := h.c1
  have c2 := h.c2
  have f1 := h.soft 1
  have f2 := h.soft 2
  clear h hok
  go_enter Try.func15, Try.ntmps15
  go_wp2_with fail
  refine bodyPost_end (results_none rfl _ _ _) rfl ?_
  exact ⟨rfl, ⟨sb, gp, cap, rfl, (HM.out.put 1 (.bool true) (S' := { S with down := true }) rfl rfl).put 2 (.int .i64 (-1)) rfl rfl, ok_off HK.out⟩, (ch_put _ _ HM.out.d1).self (ch_put _ _ HM.out.d1)⟩


theorem on_nil : Calls Try.prog 17 #[.pointer none] w fun e w' => e = .returned (.tuple #[]) ∧ w' = w := by
  go_enter Try.func17, Try.ntmps17
  go_wp2_with fail
  refine bodyPost_ret (results_none rfl _ _ _) rfl ?_
  exact ⟨rfl, rfl⟩
theorem on_walk (h : Dsk T D w v S) : Calls Try.prog 17 #[v] w fun e w' => e = .returned (.tuple #[]) ∧ Dsk T D w' v (onS S) ∧ Ch D w w' := by
  obtain ⟨sb, gp, cap, rfl, h, hok⟩ := h
  have HM : Hid (DM T D w sb gp cap S) := h
  have HK : Hid S.ok := hok
  have c1 := h.c1
  have c2 := h.c2
  have f1 := h.soft 1
  have f2 := h.soft 2
  clear h hok
  go_enter Try.func17, Try.ntmps17
  go_wp2_with fail
  refine bodyPost_end (results_none rfl _ _ _) rfl ?_
  exact ⟨rfl, ⟨sb, gp, cap, rfl, (HM.out.put 1 (.bool false) (S' := { S with down := false }) rfl rfl).put 2 (.int .i64 (-1)) rfl rfl, ok_on HK.out⟩, (ch_put _ _ HM.out.d1).self (ch_put _ _ HM.out.d1)⟩


theorem cut_nil (n : Int) : Calls Try.prog 13 #[.pointer none, .int .i64 n] w fun e w' => e = .returned (.tuple #[]) ∧ w' = w := by
  go_enter Try.func13, Try.ntmps13
  go_wp2_with fail
  refine bodyPost_ret (results_none rfl _ _ _) rfl ?_
  exact ⟨rfl, rfl⟩
theorem cut_walk (h : Dsk T D w v S) {n : Int} (hn : n < 9223372036854775808) : Calls Try.prog 13 #[v, .int .i64 n] w fun e w' => e = .returned (.tuple #[]) ∧ Dsk T D w' v (cutS S n) ∧ Ch D w w' := by
  obtain ⟨sb, gp, cap, rfl, h, hok⟩ := h
  have HM : Hid (DM T D w sb gp cap S) := h
  have HK : Hid S.ok := hok
  have c2 := h.c2
  have f2 := h.soft 2
  have HN : Hid (n < 9223372036854775808) := hn
  clear h hok hn
  by_cases h0 : n < 0
  · have HS : Hid (cutS S n = { S with left := -1 }) := by show _ = _; unfold cutS; rw [if_pos h0]
    have r : max n (-1) = -1 := by omega
    have h1 : n ≤ -1 := by omega
    have HH : Hid (n ≤ -1) := h1
    go_enter Try.func13, Try.ntmps13
    go_wp2_with fail
    all_goals refine bodyPost_end (results_none rfl _ _ _) rfl ?_
    all_goals refine ⟨rfl, ⟨sb, gp, cap, rfl, ?_, ok_cut HK.out HN.out⟩, ch_put _ _ HM.out.d1⟩
    all_goals rw [HS.out]
    all_goals first
      | exact HM.out.put 2 _ rfl rfl
      | (have e : n = -1 := by have := HH.out; omega
         rw [e]; exact HM.out.put 2 _ rfl rfl)
  · have HS : Hid (cutS S n = { S with left := n }) := by show _ = _; unfold cutS; rw [if_neg h0]
    have r : max n (-1) = n := by omega
    have h1 : -1 < n := by omega
    clear h0
    go_enter Try.func13, Try.ntmps13
    go_wp2_with fail
    all_goals refine bodyPost_end (results_none rfl _ _ _) rfl ?_
    all_goals refine ⟨rfl, ⟨sb, gp, cap, rfl, ?_, ok_cut HK.out HN.out⟩, ch_put _ _ HM.out.d1⟩
    all_goals rw [HS.out]
    all_goals exact HM.out.put 2 _ rfl rfl


theorem down_nil : Calls Try.prog 37 #[.pointer none] w fun e w' => e = .returned (.bool false) ∧ w' = w := by
  go_enter Try.func37, Try.ntmps37
  go_wp2_with fail
  go_ret
  exact ⟨rfl, rfl⟩
theorem down_walk (h : Dsk T D w v S) : Calls Try.prog 37 #[v] w fun e w' => e = .returned (.bool S.down) ∧ w' = w := by
  obtain ⟨sb, gp, cap, rfl, h, hok⟩ := h
  have c1 := h.c1
  clear h hok
  go_enter Try.func37, Try.ntmps37
  go_wp2_with fail
  go_ret
  exact ⟨rfl, rfl⟩
theorem blocks_nil : Calls Try.prog 34 #[.pointer none] w fun e w' => e = .returned (.int .i64 0) ∧ w' = w := by
  go_enter Try.func34, Try.ntmps34
  go_wp2_with fail
  go_ret
  exact ⟨rfl, rfl⟩
theorem blocks_walk (h : Dsk T D w v S) : Calls Try.prog 34 #[v] w fun e w' => e = .returned (.int .i64 S.bl.length) ∧ w' = w := by
  obtain ⟨sb, gp, cap, rfl, h, hok⟩ := h
  have c0 := h.c0
  clear h hok
  go_enter Try.func34, Try.ntmps34
  go_wp2_with fail
  go_ret
  exact ⟨rfl, rfl⟩
theorem writes_nil : Calls Try.prog 25 #[.pointer none] w fun e w' => e = .returned (.int .i64 0) ∧ w' = w := by
  go_enter Try.func25, Try.ntmps25
  go_wp2_with fail
  go_ret
  exact ⟨rfl, rfl⟩
theorem writes_walk (h : Dsk T D w v S) : Calls Try.prog 25 #[v] w fun e w' => e = .returned (.int .i64 S.wr) ∧ w' = w := by
  obtain ⟨sb, gp, cap, rfl, h, hok⟩ := h
  have c4 := h.c4
  clear h hok
  go_enter Try.func25, Try.ntmps25
  go_wp2_with fail
  go_ret
  exact ⟨rfl, rfl⟩


theorem image_nil : Calls Try.prog 28 #[.pointer none] w fun e w' => e = .returned (.slice none 0 0) ∧ w' = w := by
  go_enter Try.func28, Try.ntmps28
  go_wp2_with fail
  go_ret
  exact ⟨rfl, rfl⟩
theorem image_walk (h : Dsk T D w v S) : Calls Try.prog 28 #[v] w fun e w' => ∃ g cap, e = .returned (.slice (some ⟨g, 0, none⟩) S.bl.length cap) ∧ Gr (fun x => w.heap.size ≤ x) w' g cap S.bl ∧ w.heap.size ≤ g ∧ Below w.heap.size w w' := by
  obtain ⟨sb, gp, cap, rfl, h, hok⟩ := h
  have c0 := h.c0
  have HP : Hid (PvD w (.slice (some ⟨gp, 0, none⟩) S.bl.length cap) S.bl) := h.row.pv hok.byt
  have HK : Hid S.ok := hok
  clear h hok
  go_enter Try.func28, Try.ntmps28
  go_wp2_with fail
  refine (copied_walk HP.out HK.out.n1 HK.out.n64 HK.out.len).mono ?_
  rintro e w1 ⟨g, cap1, rfl, hG, hge, hB⟩
  have HG : Hid (Gr (fun x => w.heap.size ≤ x) w1 g cap1 S.bl) := hG
  have HGE : Hid (w.heap.size ≤ g) := hge
  clear hG hge
  go_wp2_with fail
  go_ret
  exact ⟨g, cap1, rfl, HG.out, HGE.out, hB⟩
end

end Go.Proofs.Ytnnammlipfappaa


