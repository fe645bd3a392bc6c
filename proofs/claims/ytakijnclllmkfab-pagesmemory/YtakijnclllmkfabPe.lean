/- A book in memory, the program's or the reference's: its own block, its table, its disk, apart from all else. -/
import Derived.Test.YtakijnclllmkfabPd

namespace Go.Proofs.Ytakijnclllmkfab

open Go.RowKit



structure Bo where
  gen : Nat
  tab : List Nat
  home : Nat
  over : Bool
structure Bo.ok (P : Bo) (B : Nat) : Prop where
  g1 : 1 ≤ P.gen
  g40 : P.gen ≤ 1099511627776
  n8 : P.tab.length ≤ 8
  tok : Tok P.tab B
  h2 : P.home ≤ 1


/-- The cells of a book's own block: the program's, the reference's. -/
def hdP (tv dv : Value) (P : Bo) : Array Value := #[.int .u64 P.gen, tv, dv, .int .i64 P.home, .bool P.over]
def hdR (tv dv : Value) (P : Bo) : Array Value := #[dv, tv, .int .i64 P.gen, .int .i64 P.home, .bool P.over]


/-- The book P lies in block pb, its table behind tv, its disk S behind dv; all of it is of A. -/
structure BM (F : Value → Value → Bo → Array Value) (TB TD : TypeId) (A D : Nat → Prop) (w : World) (pb : Nat) (tv dv : Value) (P : Bo) (S : Dk) : Prop where
  head : w.heap[pb]? = some (.cells (F tv dv P) TB (0, 0))
  tab : Tw w tv P.tab
  dsk : Dsk TD D w dv S
  sub : ∀ x, D x → A x
  ab : A pb
  nb : ¬ D pb
  at' : ∀ x, tv.ownBlock = some x → A x ∧ ¬ D x ∧ x ≠ pb
  al : ∀ x, A x → x < w.heap.size
  ok : P.ok S.bl.length
/-- The value v is a book that is P, on the disk dv that is S; its memory is of A. -/
def Bk (F : Value → Value → Bo → Array Value) (TB TD : TypeId) (A : Nat → Prop) (w : World) (v dv : Value) (P : Bo) (S : Dk) : Prop := ∃ D pb tv, v = .pointer (some ⟨pb, 0, none⟩) ∧ BM F TB TD A D w pb tv dv P S


section

variable {F : Value → Value → Bo → Array Value} {TB TD : TypeId} {A A' D : Nat → Prop} {w w' : World} {v dv tv : Value} {P P' : Bo} {S S' : Dk} {pb : Nat}

theorem Tw.keep {t : List Nat} (h : Tw w tv t) (hk : ∀ x, tv.ownBlock = some x → w'.heap[x]? = w.heap[x]?) : Tw w' tv t := by
  obtain ⟨ao, cap, rfl, h1, h2⟩ := h.form
  exact h.ch hk
theorem BM.keep (h : BM F TB TD A D w pb tv dv P S) (hk : ∀ x, A x → w'.heap[x]? = w.heap[x]?) (hs : w.heap.size ≤ w'.heap.size) : BM F TB TD A D w' pb tv dv P S :=
  ⟨by rw [hk _ h.ab]; exact h.head, h.tab.keep (fun x hx => hk x (h.at' x hx).1), h.dsk.keep (fun x hx => hk x (h.sub x hx)) hs, h.sub, h.ab, h.nb, h.at', fun x hx => Nat.lt_of_lt_of_le (h.al x hx) hs, h.ok⟩
theorem BM.below (h : BM F TB TD A D w pb tv dv P S) (hb : Below w.heap.size w w') : BM F TB TD A D w' pb tv dv P S := h.keep (fun x hx => hb.block x (h.al x hx)) hb.size
theorem Bk.lt (h : Bk F TB TD A w v dv P S) {x : Nat} (hx : A x) : x < w.heap.size := by
  obtain ⟨D, pb, tv, e, h⟩ := h; exact h.al x hx
theorem Bk.good (h : Bk F TB TD A w v dv P S) : P.ok S.bl.length := by
  obtain ⟨D, pb, tv, e, h⟩ := h; exact h.ok
theorem Bk.keep (h : Bk F TB TD A w v dv P S) (hk : ∀ x, A x → w'.heap[x]? = w.heap[x]?) (hs : w.heap.size ≤ w'.heap.size) : Bk F TB TD A w' v dv P S := by
  obtain ⟨D, pb, tv, e, h⟩ := h; exact ⟨D, pb, tv, e, h.keep hk hs⟩
theorem Bk.below (h : Bk F TB TD A w v dv P S) (hb : Below w.heap.size w w') : Bk F TB TD A w' v dv P S := h.keep (fun x hx => hb.block x (h.lt hx)) hb.size
theorem Bk.ch {E : Nat → Prop} (h : Bk F TB TD A w v dv P S) (hc : Ch E w w') (hE : ∀ x, A x → ¬ E x) : Bk F TB TD A w' v dv P S := h.keep (fun x hx => hc.block x (h.lt hx) (hE x hx)) hc.size
/-- The disk of a book, and the book behind a call of the disk. -/
theorem BM.redisk {D' : Nat → Prop} (h : BM F TB TD A D w pb tv dv P S) (hd : Dsk TD D' w' dv S') (hx : ∀ x, D' x → D x ∨ w.heap.size ≤ x) (hc : Ch D w w') (hb : S'.bl.length = S.bl.length) : BM F TB TD (fun x => A x ∨ D' x) D' w' pb tv dv P S' := by
  have hpb := h.al pb h.ab
  refine ⟨by rw [hc.block pb hpb h.nb]; exact h.head, h.tab.keep (fun x hx => hc.block x (h.al x (h.at' x hx).1) (h.at' x hx).2.1), hd, fun x hx => .inr hx, .inl h.ab, fun e => ?_, fun x hx' => ⟨.inl (h.at' x hx').1, fun e => ?_, (h.at' x hx').2.2⟩, fun x hx' => ?_, by rw [hb]; exact h.ok⟩
  · rcases hx pb e with q | q
    · exact h.nb q
    · omega
  · rcases hx x e with q | q
    · exact (h.at' x hx').2.1 q
    · have := h.al x (h.at' x hx').1; omega
  · rcases hx' with q | q
    · exact Nat.lt_of_lt_of_le (h.al x q) hc.size
    · exact hd.lt q
theorem BM.mono (h : BM F TB TD A D w pb tv dv P S) (ha : ∀ x, A x → A' x) (hl : ∀ x, A' x → x < w.heap.size) : BM F TB TD A' D w pb tv dv P S :=
  ⟨h.head, h.tab, h.dsk, fun x hx => ha x (h.sub x hx), ha _ h.ab, h.nb, fun x hx => ⟨ha x (h.at' x hx).1, (h.at' x hx).2⟩, hl, h.ok⟩
theorem BM.chA (h : BM F TB TD A D w pb tv dv P S) (hc : Ch D w w') : Ch A w w' := ⟨hc.os, hc.tape, hc.output, hc.size, fun k hk hn => hc.block k hk (fun e => hn (h.sub k e))⟩
theorem Bk.disk (h : Bk F TB TD A w v dv P S) : ∃ D, Dsk TD D w dv S ∧ (∀ x, D x → A x) ∧ ∀ D' w' S', Dsk TD D' w' dv S' → (∀ x, D' x → D x ∨ w.heap.size ≤ x) → Ch D w w' → S'.bl.length = S.bl.length → Bk F TB TD (fun x => A x ∨ D' x) w' v dv P S' := by
  obtain ⟨D, pb, tv, e, h⟩ := h
  exact ⟨D, h.dsk, h.sub, fun D' w' S' hd hx hc hb => ⟨D', pb, tv, e, h.redisk hd hx hc hb⟩⟩


theorem BM.cell (h : BM F TB TD A D w pb tv dv P S) (i : Nat) : w.cell? ⟨pb, i, none⟩ = (F tv dv P)[i]? := cell_of_row w pb i _ _ (0, 0) h.head
theorem BM.soft (h : BM F TB TD A D w pb tv dv P S) (i : Nat) : w.frozen? ⟨pb, i, none⟩ = false := by simp [World.frozen?, h.head]
/-- Its own block is written. -/
theorem BM.put (h : BM F TB TD A D w pb tv dv P S) (i : Nat) (u : Value) (hc : (F tv dv P).setIfInBounds i u = F tv dv P') (ho : P'.tab = P.tab) (hk : P'.ok S.bl.length) : BM F TB TD A D (w.setCell ⟨pb, i, none⟩ u) pb tv dv P' S := by
  refine ⟨by rw [set_row h.head, hc], ?_, ?_, h.sub, h.ab, h.nb, h.at', fun x hx => by have := h.al x hx; simpa [go_sem] using this, hk⟩
  · rw [ho]; exact h.tab.keep (fun x hx => set_other i u (h.at' x hx).2.2)
  · exact h.dsk.keep (fun x hx => set_other i u (fun e => h.nb (e ▸ hx))) (by simp)
theorem BM.chput (h : BM F TB TD A D w pb tv dv P S) (i : Nat) (u : Value) : Ch A w (w.setCell ⟨pb, i, none⟩ u) := Ch.of_grown (grown_set w pb i u) (fun x hx => by cases hx; exact h.ab)
end



/-- The program's book, the reference's. -/
abbrev BP := Bk hdP 56 62
abbrev MP := BM hdP 56 62


section

variable {A D : Nat → Prop} {w w' : World} {v dv tv : Value} {P P' : Bo} {S S' : Dk} {pb : Nat}

theorem mp0 (h : MP A D w pb tv dv P S) : w.cell? ⟨pb, 0, none⟩ = some (.int .u64 P.gen) := by rw [h.cell]; rfl
theorem mp1 (h : MP A D w pb tv dv P S) : w.cell? ⟨pb, 1, none⟩ = some tv := by rw [h.cell]; rfl
theorem mp2 (h : MP A D w pb tv dv P S) : w.cell? ⟨pb, 2, none⟩ = some dv := by rw [h.cell]; rfl
theorem mp3 (h : MP A D w pb tv dv P S) : w.cell? ⟨pb, 3, none⟩ = some (.int .i64 P.home) := by rw [h.cell]; rfl
theorem mp4 (h : MP A D w pb tv dv P S) : w.cell? ⟨pb, 4, none⟩ = some (.bool P.over) := by rw [h.cell]; rfl


/-- A book that is ended. -/
def endB (P : Bo) : Bo := { P with over := true }
theorem ok_end {B : Nat} (h : P.ok B) : (endB P).ok B := ⟨h.g1, h.g40, h.n8, h.tok, h.h2⟩
theorem mp_end (h : MP A D w pb tv dv P S) : MP A D (w.setCell ⟨pb, 4, none⟩ (.bool true)) pb tv dv (endB P) S := h.put 4 _ rfl rfl (ok_end h.ok)


/-- Whether a book neither gives nor takes pages. -/
def shutB (P : Bo) (S : Dk) : Bool := P.over || S.down


theorem prefuses_nil : Calls Try.prog 18 #[.pointer none] w fun e w' => e = .returned (.int .i64 2) ∧ w' = w := by
  go_enter Try.func18, Try.ntmps18
  go_wp2_with fail
  go_ret
  exact ⟨rfl, rfl⟩
theorem prefuses_ok (h : MP A D w pb tv dv P S) (hs : shutB P S = false) : Calls Try.prog 18 #[.pointer (some ⟨pb, 0, none⟩)] w fun e w' => e = .returned (.int .i64 0) ∧ w' = w := by
  have HD : Hid (Dsk 62 D w dv S) := h.dsk
  have c2 := mp2 h
  have c4 := mp4 h
  have hs' := hs
  unfold shutB at hs'
  rw [Bool.or_eq_false_iff] at hs'
  rw [hs'.1] at c4
  have HDN : Hid (S.down = false) := hs'.2
  clear h hs hs'
  go_enter Try.func18, Try.ntmps18
  go_wp2_with fail
  refine (down_walk HD.out).mono ?_
  rintro e w1 ⟨rfl, h9⟩
  have h9 := h9.symm
  subst h9
  rw [HDN.out]
  go_wp2_with fail
  go_ret
  exact ⟨rfl, rfl⟩
theorem prefuses_shut (h : MP A D w pb tv dv P S) (hs : shutB P S = true) : Calls Try.prog 18 #[.pointer (some ⟨pb, 0, none⟩)] w fun e w' => e = .returned (.int .i64 80) ∧ MP A D w' pb tv dv (endB P) S ∧ Ch A w w' := by
  have HD : Hid (Dsk 62 D w dv S) := h.dsk
  have HE : Hid (MP A D (w.setCell ⟨pb, 4, none⟩ (.bool true)) pb tv dv (endB P) S) := mp_end h
  have HC : Hid (Ch A w (w.setCell ⟨pb, 4, none⟩ (.bool true))) := h.chput _ _
  have c2 := mp2 h
  have c4 := mp4 h
  have f4 := h.soft 4
  cases ho : P.over
  · rw [ho] at c4
    have HDN : Hid (S.down = true) := by unfold shutB at hs; rw [ho, Bool.false_or] at hs; exact hs
    clear h hs ho
    go_enter Try.func18, Try.ntmps18
    go_wp2_with fail
    refine (down_walk HD.out).mono ?_
    rintro e w1 ⟨rfl, h9⟩
    have h9 := h9.symm
    subst h9
    rw [HDN.out]
    go_wp2_with fail
    go_ret
    exact ⟨rfl, HE.out, HC.out⟩
  · rw [ho] at c4
    clear h hs ho
    go_enter Try.func18, Try.ntmps18
    go_wp2_with fail
    go_ret
    exact ⟨rfl, HE.out, HC.out⟩


/-- How many pages have a block. -/
def usedN (t : List Nat) : Nat := (t.filter (fun x => x != 0)).length
theorem used_take {t : List Nat} {k : Nat} (h : k < t.length) : usedN (t.take (k + 1)) = usedN (t.take k) + (if tn t k = 0 then 0 else 1) := by
  unfold usedN
  rw [List.take_succ_eq_append_getElem h, List.filter_append, List.length_append, tn_at h]
  by_cases e : t[k] = 0
  · rw [if_pos e]; simp [e]
  · rw [if_neg e]; simp [e]
theorem used_le (t : List Nat) : usedN t ≤ t.length := List.length_filter_le _ _


theorem pages_nil : Calls Try.prog 14 #[.pointer none] w fun e w' => e = .returned (.int .i64 0) ∧ w' = w := by
  go_enter Try.func14, Try.ntmps14
  go_wp2_with fail
  go_ret
  exact ⟨rfl, rfl⟩
theorem pages_walk (h : BP A w v dv P S) : Calls Try.prog 14 #[v] w fun e w' => e = .returned (.int .i64 P.tab.length) ∧ w' = w := by
  obtain ⟨D, pb, tv, rfl, h⟩ := h
  have c1 := mp1 h
  obtain ⟨ao, cap, rfl, h1, h2⟩ := h.tab.form
  clear h h1 h2
  go_enter Try.func14, Try.ntmps14
  go_wp2_with fail
  go_ret
  exact ⟨rfl, rfl⟩
theorem ended_nil : Calls Try.prog 15 #[.pointer none] w fun e w' => e = .returned (.bool false) ∧ w' = w := by
  go_enter Try.func15, Try.ntmps15
  go_wp2_with fail
  go_ret
  exact ⟨rfl, rfl⟩
theorem ended_walk (h : BP A w v dv P S) : Calls Try.prog 15 #[v] w fun e w' => e = .returned (.bool P.over) ∧ w' = w := by
  obtain ⟨D, pb, tv, rfl, h⟩ := h
  have c4 := mp4 h
  clear h
  go_enter Try.func15, Try.ntmps15
  go_wp2_with fail
  go_ret
  exact ⟨rfl, rfl⟩
theorem used_nil : Calls Try.prog 13 #[.pointer none] w fun e w' => e = .returned (.int .i64 0) ∧ w' = w := by
  go_enter Try.func13, Try.ntmps13
  go_wp2_with fail
  go_ret
  exact ⟨rfl, rfl⟩
set_option maxRecDepth 100000 in
theorem used_walk (h : BP A w v dv P S) : Calls Try.prog 13 #[v] w fun e w' => e = .returned (.int .i64 (usedN P.tab)) ∧ w' = w := by
  obtain ⟨D, pb, tv, rfl, h⟩ := h
  have c1 := mp1 h
  have HT : Hid (Tw w tv P.tab) := h.tab
  obtain ⟨t, ht⟩ : ∃ t, t = P.tab := ⟨_, rfl⟩
  have h8 := h.ok.n8
  rw [← ht] at HT h8 ⊢
  obtain ⟨ao, cap, rfl, h1, h2⟩ := HT.out.form
  have hli : (t.length : Int) ≤ 8 := by omega
  clear h h1 h2 ht
  go_enter Try.func13, Try.ntmps13
  go_wp2_with fail
  go_loop [3, 14] (fun uv iv => ∃ k : Nat, k ≤ t.length ∧ iv = .int .i64 k ∧ uv = .int .i64 (usedN (t.take k))) (fun _ iv => t.length - (intOf iv).toNat)
  case atStart => exact ⟨0, Nat.zero_le _, rfl, rfl⟩
  case round =>
    obtain ⟨k, hk, rfl, rfl⟩ := hrel
    by_cases hlt : k < t.length
    · obtain ⟨b, off, rfl, hc⟩ := HT.out.at hlt
      have HU : Hid (usedN (t.take (k + 1)) = usedN (t.take k) + (if tn t k = 0 then 0 else 1)) := used_take hlt
      obtain ⟨y, hy⟩ : ∃ y, y = tn t k := ⟨_, rfl⟩
      rw [← hy] at hc HU
      have hul : usedN (t.take k) ≤ 8 := Nat.le_trans (used_le _) (by rw [List.length_take]; omega)
      obtain ⟨q, hq⟩ : ∃ q, q = usedN (t.take k) := ⟨_, rfl⟩
      rw [← hq] at HU hul ⊢
      clear hy hq
      by_cases h0 : y = 0
      · rw [if_pos h0] at HU
        subst h0
        go_wp2_with fail
        go_round
        case rel => exact ⟨k + 1, hlt, by simp, by rw [HU.out]; rfl⟩
        case measure => simp [intOf]; omega
      · rw [if_neg h0] at HU
        have hyb : ((y : Int) != 0) = true := by simp; omega
        clear h0
        go_wp2_with fail
        go_round
        case rel => exact ⟨k + 1, hlt, by simp, by rw [HU.out]; simp⟩
        case measure => simp [intOf]; omega
    · have hkt : t.take k = t := List.take_of_length_le (by omega)
      have HK : Hid (t.take k = t) := hkt
      have hlti : ¬ (k : Int) < (t.length : Int) := by omega
      clear hkt
      go_wp2_with fail
      go_ret
      exact ⟨by rw [HK.out]; rfl, rfl⟩
end

end Go.Proofs.Ytakijnclllmkfab


