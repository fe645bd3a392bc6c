/- New, Load. -/
import Derived.Test.YtnnammlipfappaaDf

namespace Go.Proofs.Ytnnammlipfappaa

open Go.RowKit



def loadS (ls : List (List Nat)) : Dk := ⟨ls, false, -1, 0, 0⟩
theorem ok_load {ls : List (List Nat)} (h1 : 1 ≤ ls.length) (h64 : ls.length ≤ 64) (hl : ∀ b ∈ ls, b.length ≤ 1024) (hb : ∀ b ∈ ls, ∀ c ∈ b, c < 256) : (loadS ls).ok := ⟨h1, h64, hl, hb, Int.le_refl _, by show (-1 : Int) < _; omega⟩
theorem ok_new {n : Nat} (h1 : 1 ≤ n) (h64 : n ≤ 64) : (loadS (List.replicate n [])).ok :=
  ok_load (by simpa using h1) (by simpa using h64) (fun b hb => by rw [(List.mem_replicate.1 hb).2]; simp) (fun b hb c hc => by rw [(List.mem_replicate.1 hb).2] at hc; simp at hc)


theorem Gr.fit {E : Nat → Prop} {w : World} {g cap : Nat} {ls : List (List Nat)} (h : Gr E w g cap ls) : Gr (fun x => E x ∧ x < w.heap.size) w g cap ls := by
  obtain ⟨⟨cur, h1, h2, h3⟩, h4⟩ := h
  refine ⟨⟨cur, h1, h2, fun i hi => ?_⟩, h4⟩
  obtain ⟨u, a, b, c⟩ := h3 i hi
  exact ⟨u, a, b, fun x hx => ⟨c x hx, (b.lt x hx).2⟩⟩


/-- What New and Load answer. -/
def Nw (T : TypeId) (w : World) (ls : List (List Nat)) (e : Ending) (w' : World) : Prop :=
  ∃ (v : Value) (D : Nat → Prop), e = .returned (.tuple #[v, .int .i64 0]) ∧ Dsk T D w' v (loadS ls) ∧ Below w.heap.size w w' ∧ ∀ x, D x → w.heap.size ≤ x
theorem nw_end {T : TypeId} {w wz : World} {ls : List (List Nat)} {g cap : Nat} (hok : (loadS ls).ok) (hG : Gr (fun x => w.heap.size ≤ x) wz g cap ls) (hg : w.heap.size ≤ g) (hB : Below w.heap.size w wz) :
    Nw T w ls (.returned (.tuple #[.pointer (some ⟨wz.heap.size, 0, none⟩), .int .i64 0])) (wz.alloc (.cells #[.slice (some ⟨g, 0, none⟩) ls.length cap, .bool false, .int .i64 (-1), .int .i64 0, .int .i64 0] T)) := by
  refine ⟨_, fun x => w.heap.size ≤ x ∧ x < wz.heap.size + 1, rfl, ⟨_, g, cap, rfl, ⟨heap_alloc_new wz _, ?_, ?_, ⟨hB.size, by omega⟩, ⟨hg, ?_⟩, fun x hx => by simpa [go_sem] using hx.2⟩, hok⟩, below_trans hB (below_alloc _ _), fun x hx => hx.1⟩
  · exact (hG.fit.below (below_alloc _ _)).mono (fun x hx => ⟨⟨hx.1, by omega⟩, by omega⟩)
  · have := hG.lt; omega
  · have := hG.lt; omega


theorem new_bad {n : Int} {w : World} (hp : n < 1 ∨ 64 < n) : Calls Try.prog 8 #[.int .i64 n] w fun e w' => e = .returned (.tuple #[.pointer none, .int .i64 1]) ∧ w' = w := by
  by_cases h1 : n < 1
  · clear hp
    go_enter Try.func8, Try.ntmps8
    go_wp2_with fail
    go_ret2
    exact ⟨rfl, rfl⟩
  · have h4 : 64 < n := by omega
    clear hp
    go_enter Try.func8, Try.ntmps8
    go_wp2_with fail
    go_ret2
    exact ⟨rfl, rfl⟩


theorem new_walk {n : Nat} {w : World} (h1 : 1 ≤ n) (h64 : n ≤ 64) : Calls Try.prog 8 #[.int .i64 n] w fun e w' => Nw 70 w (List.replicate n []) e w' := by
  have hmk := make_rows h64
  obtain ⟨Z, hZ⟩ : ∃ Z, Z = madeCells #[.slice none 0 0] (n * 1) := ⟨_, rfl⟩
  rw [← hZ] at hmk
  have HG : Hid (Gr (fun x => w.heap.size ≤ x) (w.alloc (.cells Z 57)) w.heap.size n (List.replicate n [])) := made_gr _ w h64 hZ
  have HK : Hid ((loadS (List.replicate n [])).ok) := ok_new h1 h64
  have hi1 : (1 : Int) ≤ n := by omega
  have hi2 : (n : Int) ≤ 64 := by omega
  clear hZ h1 h64
  go_enter Try.func8, Try.ntmps8
  go_wp2_with fail
  go_ret2
  have := nw_end (T := 70) HK.out HG.out (Nat.le_refl _) (below_alloc w _)
  rw [List.length_replicate] at this
  simpa [go_sem] using this


/-- The first block that is too long, or none. -/
def longB (ls : List (List Nat)) : Bool := ls.any fun b => decide (1024 < b.length)
theorem long_no {ls : List (List Nat)} (h : longB ls = false) : ∀ b ∈ ls, b.length ≤ 1024 := by
  intro b hb
  have := List.any_eq_false.1 h b hb
  simpa using this
theorem long_yes {ls : List (List Nat)} {b : List Nat} (hb : b ∈ ls) (h : 1024 < b.length) : longB ls = true := List.any_eq_true.2 ⟨b, hb, by simpa using h⟩


def LdRel (ls : List (List Nat)) (w : World) (iv : Value) (wr : World) : Prop := ∃ k : Nat, k ≤ ls.length ∧ iv = .int .i64 k ∧ (∀ i, i < k → (bk ls i).length ≤ 1024) ∧ wr = w


theorem load_bad {v : Value} {ls : List (List Nat)} {w : World} (hv : PvD w v ls) (hp : ls.length < 1 ∨ 64 < ls.length) : Calls Try.prog 30 #[v] w fun e w' => e = .returned (.tuple #[.pointer none, .int .i64 1]) ∧ w' = w := by
  obtain ⟨ao, cap, rfl, _, _⟩ := hv.form
  by_cases h1 : ls.length < 1
  · have h0 : ls.length = 0 := by omega
    rw [h0]
    clear hp hv
    go_enter Try.func30, Try.ntmps30
    go_wp2_with fail
    go_ret2
    exact ⟨rfl, rfl⟩
  · have h4 : 64 < (ls.length : Int) := by omega
    have h5 : 1 ≤ (ls.length : Int) := by omega
    clear hp hv h1
    go_enter Try.func30, Try.ntmps30
    go_wp2_with fail
    go_ret2
    exact ⟨rfl, rfl⟩


/-- What Load answers. -/
def Ld (T : TypeId) (w : World) (ls : List (List Nat)) (e : Ending) (w' : World) : Prop := if longB ls = true then e = .returned (.tuple #[.pointer none, .int .i64 6]) ∧ w' = w else Nw T w ls e w'


set_option maxRecDepth 100000 in
set_option maxHeartbeats 1000000 in
theorem load_walk {v : Value} {ls : List (List Nat)} {w : World} (hv : PvD w v ls) (h1 : 1 ≤ ls.length) (h64 : ls.length ≤ 64) : Calls Try.prog 30 #[v] w fun e w' => Ld 70 w ls e w' := by
  have HV : Hid (PvD w v ls) := hv
  obtain ⟨ao, cap, rfl, q1, q2, q3, q4⟩ := hv
  obtain ⟨b, off, u, rfl, _, _⟩ := q4 0 (by omega)
  have HC : Hid (∀ i, i < ls.length → ∃ u, w.cell? ⟨b, off + i, none⟩ = some u ∧ Bv w u (bk ls i)) := fun i hi => by
    obtain ⟨b', off', u', e1, e2, e3⟩ := q4 i hi
    cases e1
    exact ⟨u', e2, e3⟩
  have H1 : Hid (1 ≤ ls.length) := h1
  have H64 : Hid (ls.length ≤ 64) := h64
  have HBY : Hid (∀ b ∈ ls, ∀ c ∈ b, c < 256) := HV.out.bytes
  have hi1 : (1 : Int) ≤ (ls.length : Int) := by omega
  have hi2 : (ls.length : Int) ≤ 64 := by omega
  have HLD : Hid (∀ e w', (longB ls = true → e = .returned (.tuple #[.pointer none, .int .i64 6]) ∧ w' = w) → (longB ls = false → Nw 70 w ls e w') → Ld 70 w ls e w') := by
    intro e w' a b
    unfold Ld
    split
    · rename_i hh; exact a hh
    · rename_i hh; exact b (by simpa using hh)
  clear q1 q2 q3 q4 h1
  go_enter Try.func30, Try.ntmps30
  go_wp2_with fail
  go_loopw [16] (fun iv wr => LdRel ls w iv wr) (fun iv _ => ls.length - (intOf iv).toNat)
  case atStart => exact ⟨0, Nat.zero_le _, rfl, fun i hi => by omega, rfl⟩
  case round =>
    obtain ⟨k, hk, rfl, hsm, hw⟩ := hrel
    subst hw
    have HSM : Hid (∀ i, i < k → (bk ls i).length ≤ 1024) := hsm
    clear hsm
    by_cases hlt : k < ls.length
    · obtain ⟨u, hu, hbu⟩ := HC.out k hlt
      obtain ⟨p, hp⟩ : ∃ p, bk ls k = p := ⟨_, rfl⟩
      rw [hp] at hbu
      have HP : Hid (bk ls k = p) := hp
      obtain ⟨a, c, rfl, _, _⟩ := bv_formD hbu
      clear hp hbu
      by_cases hpl : p.length ≤ 1024
      · have hpi : decide ((1024 : Int) < (p.length : Int)) = false := decide_eq_false (by omega)
        have hpi2 : ¬ (1024 : Int) < (p.length : Int) := by omega
        have HPL : Hid (p.length ≤ 1024) := hpl
        clear hpl
        go_wp2_with fail
        go_roundw
        case rel =>
          refine ⟨k + 1, hlt, rfl, fun i hi => ?_, rfl⟩
          by_cases e : i = k
          · rw [e, HP.out]; exact HPL.out
          · exact HSM.out i (by omega)
        case measure => simp [intOf]; omega
      · have hpi : (1024 : Int) < (p.length : Int) := by omega
        have HPL : Hid (1024 < p.length) := by show _ < _; omega
        clear hpl
        go_wp2_with fail
        (try simp only [Exit.inBlock, Exit.then])
        go_ret2
        refine HLD.out _ _ (fun _ => ⟨rfl, rfl⟩) (fun h => ?_)
        exfalso
        have h2 := long_yes (bk_mem hlt) (by rw [HP.out]; exact HPL.out)
        rw [h] at h2; cases h2
    · obtain rfl : k = ls.length := by omega
      have HL : Hid (∀ b ∈ ls, b.length ≤ 1024) := by
        intro x hx
        obtain ⟨i, hi, rfl⟩ := List.getElem_of_mem hx
        rw [← bk_at hi]; exact HSM.out i hi
      go_wp2_with fail
      refine (copied_walk HV.out H1.out H64.out HL.out).mono ?_
      rintro e w1 ⟨g, cap1, rfl, hG, hge, hB⟩
      go_wp2_with fail
      go_ret2
      refine HLD.out _ _ (fun h => ?_) (fun _ => ?_)
      · exfalso
        obtain ⟨x, hx, h2⟩ := List.any_eq_true.1 h
        have := HL.out x hx
        simp at h2; omega
      · exact nw_end (ok_load H1.out H64.out HL.out HBY.out) hG hge hB
end Go.Proofs.Ytnnammlipfappaa


