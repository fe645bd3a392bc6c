/- New, Load. -/
import Derived.Test.YtakijnclllmkfabDf

namespace Go.Proofs.Ytakijnclllmkfab

open Go.RowKit



def loadS (ls : List (List Nat)) : Dk := ⟨ls, false, -1, 0, 0⟩
theorem ok_load {ls : List (List Nat)} (h1 : 1 ≤ ls.length) (h64 : ls.length ≤ 64) (hl : ∀ b ∈ ls, b.length ≤ 1024) (hb : ∀ b ∈ ls, ∀ c ∈ b, c < 256) : (loadS ls).ok := ⟨h1, h64, hl, hb, Int.le_refl _, by show (-1 : Int) < _; omega⟩
theorem ok_new {n : Nat} (h1 : 1 ≤ n) (h64 : n ≤ 64) : (loadS (List.replicate n [])).ok :=
  ok_load (by simpa using h1) (by simpa using h64) (fun b hb => by rw [(List.mem_replicate.1 hb).2]; simp) (fun b hb c hc => by rw [(List.mem_replicate.1 hb).2] at hc; simp at hc)


theorem Gr.fit {E : Nat → Prop} {w : World} {g cap : Nat} {ls : List (List Nat)} (h : Gr E w g cap ls) : Gr (fun x => E x ∧ x < w.heap.size) w g cap ls := by
  obtain ⟨⟨cur, h1, h2, h3⟩, h4⟩ := h
  refine ⟨⟨cur, h1, h2, fun i hi => ?_⟩, h4⟩
  obtain ⟨u, a, b, c⟩ := h3 i hi
  exact ⟨u, a, b, fun x hx => ⟨c x hx, (b.lt x hx).2⟩⟩


/-- What New and Load answer. -/
def Nw (T : TypeId) (w : World) (ls : List (List Nat)) (e : Ending) (w' : World) : Prop :=
  ∃ (v : Value) (D : Nat → Prop), e = .returned (.tuple #[v, .int .i64 0]) ∧ Dsk T D w' v (loadS ls) ∧ Below w.heap.size w w' ∧ ∀ x, D x → w.heap.size ≤ x
theorem nw_end {T : TypeId} {w wz : World} {ls : List (List Nat)} {g cap : Nat} (hok : (loadS ls).ok) (hG : Gr (fun x => w.heap.size ≤ x) wz g cap ls) (hg : w.heap.size ≤ g) (hB : Below w.heap.size w wz) :
    Nw T w ls (.returned (.tuple #[.pointer (some ⟨wz.heap.size, 0, none⟩), .int .i64 0])) (wz.alloc (.cells #[.slice (some ⟨g, 0, none⟩) ls.length cap, .bool false, .int .i64 (-1), .int .i64 0, .int .i64 0] T)) := by
  refine ⟨_, fun x => w.heap.size ≤ x ∧ x < wz.heap.size + 1, rfl, ⟨_, g, cap, rfl, ⟨heap_alloc_new wz _, ?_, ?_, ⟨hB.size, by omega⟩, ⟨hg, ?_⟩, fun x hx => by simpa [go_sem] using hx.2⟩, hok⟩, below_trans hB (below_alloc _ _), fun x hx => hx.1⟩
  · exact (hG.fit.below (below_alloc _ _)).mono (fun x hx => ⟨⟨hx.1, by omega⟩, by omega⟩)
  · have := hG.lt; omega
  · have := hG.lt; omega


theorem new_bad {n : Int} {w : World} (hp : n < 1 ∨ 64 < n) : Calls Try.prog 11 #[.int .i64 n] w fun e w' => e = .returned (.tuple #[.pointer none, .int .i64 1]) ∧ w' = w := by
  by_cases h1 : n < 1
  · clear hp
    go_enter Try.func11, Try.ntmps11
    go_wp2_with fail
    go_ret2
    exact ⟨rfl, rfl⟩
  · have h4 : 64 < n := by omega
    clear hp
    go_enter Try.func11, Try.ntmps11
    go_wp2_with fail
    go_ret2
    exact ⟨rfl, rfl⟩


theorem new_walk {n : Nat} {w : World} (h1 : 1 ≤ n) (h64 : n ≤ 64) : Calls Try.prog 11 #[.int .i64 n] w fun e w' => Nw 62 w (List.replicate n []) e w' := by
  have hmk := make_rows h64
  obtain ⟨Z, hZ⟩ : ∃ Z, Z = madeCells #[.slice none 0 0] (n * 1) := ⟨_, rfl⟩
  rw [← hZ] at hmk
  have HG : Hid (Gr (fun x => w.heap.size ≤ x) (w.alloc (.cells Z 31)) w.heap.size n (List.replicate n [])) := made_gr _ w h64 hZ
  have HK : Hid ((loadS (List.replicate n [])).ok) := ok_new h1 h64
  have hi1 : (1 : Int) ≤ n := by omega
  have hi2 : (n : Int) ≤ 64 := by omega
  clear hZ h1 h64
  go_enter Try.func11, Try.ntmps11
  go_wp2_with fail
  go_ret2
  have := nw_end (T := 62) HK.out HG.out (Nat.le_refl _) (below_alloc w _)
  rw [List.length_replicate] at this
  simpa [go_sem] using this


/-- The first block that is too long, or none. -/
def longB (ls : List (List Nat)) : Bool := ls.any fun b => decide (1024 < b.length)
theorem long_no {ls : List (List Nat)} (h : longB ls = false) : ∀ b ∈ ls, b.length ≤ 1024 := by
  intro b hb
  have := List.any_eq_false.1 h b hb
  simpa using this
theorem long_yes {ls : List (List Nat)} {b : List Nat} (hb : b ∈ ls) (h : 1024 < b.length) : longB ls = true := List.any_eq_true.2 ⟨b, hb, by simpa using h⟩


def LdRel (ls : List (List Nat)) (w : World) (iv : Value) (wr : World) : Prop := ∃ k : Nat, k ≤ ls.length ∧ iv = .int .i64 k ∧ (∀ i, i < k → (bk ls i).length ≤ 1024) ∧ wr = w




/-- What Load answers. -/
def Ld (T : TypeId) (w : World) (ls : List (List Nat)) (e : Ending) (w' : World) : Prop := if longB ls = true then e = .returned (.tuple #[.pointer none, .int .i64 6]) ∧ w' = w else Nw T w ls e w'


end Go.Proofs.Ytakijnclllmkfab


