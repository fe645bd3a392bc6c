/- A journal on its disk beside what is kept: all calls. -/
import Derived.Test.YtnnammlipfappaaJm

namespace Go.Proofs.Ytnnammlipfappaa

open Ieee Go.RowKit



abbrev Pt (b : Nat) : Value := .pointer (some ⟨b, 0, none⟩)
abbrev ChA (wz : World) (A : Nat → Prop) (w w' : World) : Prop := Ch (fun x => wz.heap.size ≤ x ∧ ¬ A x) w w'
/-- A journal on its disk, both above wz, apart from the blocks A. -/
structure Lw (wz : World) (A : Nat → Prop) (sb jb : Nat) (q : Int) (J : Jn) (S : Dk) (w : World) : Prop where
  ex : ∃ D K : Nat → Prop, JS D K w (.pointer (some ⟨jb, 0, none⟩)) (.pointer (some ⟨sb, 0, none⟩)) q J S ∧ ∀ x, D x ∨ K x → wz.heap.size ≤ x ∧ ¬ A x
  bel : Below wz.heap.size wz w
  al : ∀ x, A x → x < w.heap.size
section

variable {wz w w' : World} {A : Nat → Prop} {sb jb : Nat} {q : Int} {J : Jn} {S : Dk} {n : Nt} {pv cv : Value}

theorem ChA.belowZ (h : ChA wz A w w') (hb : Below wz.heap.size wz w) : Below wz.heap.size wz w' := hb.trans (h.to_below hb.size (fun _ hx => hx.1))
theorem Lw.ok (h : Lw wz A sb jb q J S w) : J.ok q := by
  obtain ⟨D, K, h1, _⟩ := h.ex
  exact h1.j.ok
theorem Lw.dok (h : Lw wz A sb jb q J S w) : S.ok := by
  obtain ⟨D, K, h1, _⟩ := h.ex
  exact h1.d.good
theorem Lw.below (h : Lw wz A sb jb q J S w) (hb : Below w.heap.size w w') : Lw wz A sb jb q J S w' := by
  obtain ⟨D, K, h1, h2⟩ := h.ex
  exact ⟨⟨D, K, h1.below hb, h2⟩, h.bel.trans (hb.mono h.bel.size), fun x hx => Nat.lt_of_lt_of_le (h.al x hx) hb.size⟩
/-- What a call has made is kept from now on. -/
theorem Lw.more (h : Lw wz A sb jb q J S w) (hb : Below w.heap.size w w') : Lw wz (fun x => A x ∨ (w.heap.size ≤ x ∧ x < w'.heap.size)) sb jb q J S w' := by
  obtain ⟨D, K, h1, h2⟩ := h.ex
  refine ⟨⟨D, K, h1.below hb, fun x hx => ⟨(h2 x hx).1, ?_⟩⟩, h.bel.trans (hb.mono h.bel.size), fun x hx => ?_⟩
  · rintro (h3 | h3)
    · exact (h2 x hx).2 h3
    · rcases hx with hx | hx
      · have := h1.d.lt hx; omega
      · have := h1.j.lt hx; omega
  · rcases hx with hx | hx
    · exact Nat.lt_of_lt_of_le (h.al x hx) hb.size
    · exact hx.2
/-- Fewer blocks are kept. -/
theorem Lw.less {E : Nat → Prop} (h : Lw wz A sb jb q J S w) (hE : ∀ x, E x → A x) : Lw wz E sb jb q J S w := by
  obtain ⟨D, K, h1, h2⟩ := h.ex
  exact ⟨⟨D, K, h1, fun x hx => ⟨(h2 x hx).1, fun h => (h2 x hx).2 (hE x h)⟩⟩, h.bel, fun x hx => h.al x (hE x hx)⟩
/-- A block of A is written. -/
theorem Lw.write (h : Lw wz A sb jb q J S w) (hc : Ch A w w') (hA : ∀ x, A x → wz.heap.size ≤ x) : Lw wz A sb jb q J S w' := by
  obtain ⟨D, K, h1, h2⟩ := h.ex
  exact ⟨⟨D, K, h1.ch hc (fun x hx hA => (h2 x hx).2 hA), h2⟩, h.bel.trans (hc.to_below h.bel.size hA), fun x hx => Nat.lt_of_lt_of_le (h.al x hx) hc.size⟩
theorem ch_le {D E : Nat → Prop} (h : Ch D w w') (hE : ∀ x, D x → E x) : Ch E w w' := (Ch.refl E w).trans h (fun x hx => .inl (hE x hx))


def SvL (wz : World) (A : Nat → Prop) (sb jb : Nat) (q : Int) (J : Jn) (S : Dk) (n : Nt) (w : World) (e : Ending) (w' : World) : Prop := e = .returned (.int .i64 (savI J S q n)) ∧ Lw wz A sb jb q (savJ J S q n) (savS J S q n) w' ∧ ChA wz A w w'
theorem lw_save (h : Lw wz A sb jb q J S w) (hp : Nv w pv n.p) (hc : Nv w cv n.c) (hnb : -9223372036854775808 ≤ n.b ∧ n.b < 9223372036854775808) (hwr : S.wr < 9223372036854775800) :
    Calls Try.prog 11 #[.pointer (some ⟨jb, 0, none⟩), .agg #[.int .i64 n.b, pv, cv, .int .i64 n.a]] w (SvL wz A sb jb q J S n w) := by
  obtain ⟨D, K, h1, h2⟩ := h.ex
  refine (jsave_walk h1 hp hc hnb hwr).mono ?_
  rintro e w' ⟨he, ⟨D', K', h3, h4, h5⟩, h6⟩
  have hch : ChA wz A w w' := ch_le h6 (fun x hx => h2 x hx)
  refine ⟨he, ⟨⟨D', K', h3, fun x hx => ?_⟩, hch.belowZ h.bel, fun x hx => Nat.lt_of_lt_of_le (h.al x hx) hch.size⟩, hch⟩
  have hnew : w.heap.size ≤ x → wz.heap.size ≤ x ∧ ¬ A x := fun hx => ⟨Nat.le_trans h.bel.size hx, fun hA => by have := h.al x hA; omega⟩
  rcases hx with hx | hx
  · rcases h4 x hx with h | h
    · exact h2 x (.inl h)
    · exact hnew h
  · rcases h5 x hx with h | h
    · exact h2 x (.inr h)
    · exact hnew h
theorem lw_note (h : Lw wz A sb jb q J S w) : Calls Try.prog 21 #[.pointer (some ⟨jb, 0, none⟩)] w (CpGot w J.n) := by
  obtain ⟨D, K, h1, h2⟩ := h.ex
  exact jnote_walk h1.j
theorem lw_ended (h : Lw wz A sb jb q J S w) : Calls Try.prog 23 #[.pointer (some ⟨jb, 0, none⟩)] w fun e w' => e = .returned (.bool J.o) ∧ w' = w := by
  obtain ⟨D, K, h1, h2⟩ := h.ex
  exact jended_walk h1.j
theorem lw_writes (h : Lw wz A sb jb q J S w) : Calls Try.prog 25 #[.pointer (some ⟨sb, 0, none⟩)] w fun e w' => e = .returned (.int .i64 S.wr) ∧ w' = w := by
  obtain ⟨D, K, h1, h2⟩ := h.ex
  exact writes_walk h1.d
def ImL (S : Dk) (w : World) (e : Ending) (w' : World) : Prop := ∃ g cap, e = .returned (.slice (some ⟨g, 0, none⟩) S.bl.length cap) ∧ Gr (fun x => w.heap.size ≤ x) w' g cap S.bl ∧ w.heap.size ≤ g ∧ Below w.heap.size w w'
theorem lw_image (h : Lw wz A sb jb q J S w) : Calls Try.prog 28 #[.pointer (some ⟨sb, 0, none⟩)] w (ImL S w) := by
  obtain ⟨D, K, h1, h2⟩ := h.ex
  exact (image_walk h1.d).mono fun e w' h => h
def DkL (wz : World) (A : Nat → Prop) (sb jb : Nat) (q : Int) (J : Jn) (S' : Dk) (w : World) (e : Ending) (w' : World) : Prop := e = .returned (.tuple #[]) ∧ Lw wz A sb jb q J S' w' ∧ ChA wz A w w'
theorem lw_disk {D K : Nat → Prop} {S' : Dk} (h : Lw wz A sb jb q J S w) (h1 : JS D K w (.pointer (some ⟨jb, 0, none⟩)) (.pointer (some ⟨sb, 0, none⟩)) q J S) (h2 : ∀ x, D x ∨ K x → wz.heap.size ≤ x ∧ ¬ A x) (hd : Dsk 70 D w' (.pointer (some ⟨sb, 0, none⟩)) S') (hc : Ch D w w') : Lw wz A sb jb q J S' w' ∧ ChA wz A w w' := by
  have hch : ChA wz A w w' := ch_le hc (fun x hx => h2 x (.inl hx))
  exact ⟨⟨⟨D, K, ⟨hd, h1.j.keep (fun x hx => hc.block x (h1.j.lt hx) (h1.ap x hx)) hc.size, h1.ap⟩, h2⟩, hch.belowZ h.bel, fun x hx => Nat.lt_of_lt_of_le (h.al x hx) hch.size⟩, hch⟩
theorem lw_cut (h : Lw wz A sb jb q J S w) {m : Int} (hm : m < 9223372036854775808) : Calls Try.prog 13 #[.pointer (some ⟨sb, 0, none⟩), .int .i64 m] w (DkL wz A sb jb q J (cutS S m) w) := by
  obtain ⟨D, K, h1, h2⟩ := h.ex
  refine (cut_walk h1.d hm).mono ?_
  rintro e w' ⟨he, hd, hc⟩
  exact ⟨he, lw_disk h h1 h2 hd hc⟩
theorem lw_on (h : Lw wz A sb jb q J S w) : Calls Try.prog 17 #[.pointer (some ⟨sb, 0, none⟩)] w (DkL wz A sb jb q J (onS S) w) := by
  obtain ⟨D, K, h1, h2⟩ := h.ex
  refine (on_walk h1.d).mono ?_
  rintro e w' ⟨he, hd, hc⟩
  exact ⟨he, lw_disk h h1 h2 hd hc⟩
/-- Open beside an elder journal. -/
def OpL (wz : World) (A : Nat → Prop) (sb jb : Nat) (q : Int) (J : Jn) (S : Dk) (q' : Int) (w : World) (e : Ending) (w' : World) : Prop := ChA wz A w w' ∧ ((opnI S q' ≠ 0 ∧ e = .returned (.tuple #[.pointer none, .int .i64 (opnI S q')]) ∧ Lw wz A sb jb q J (opnS S q') w') ∨ ∃ (h g : Nat) (m : Nt) (jb' : Nat), opnI S q' = 0 ∧ opK q' S 2 = some (h, g, m) ∧ e = .returned (.tuple #[.pointer (some ⟨jb', 0, none⟩), .int .i64 0]) ∧ Lw wz A sb jb' q' ⟨g, m, h, false⟩ (opnS S q') w')
theorem lw_open (h : Lw wz A sb jb q J S w) (q' : Int) (hrd : S.rd < 9223372036854775800) : Calls Try.prog 7 #[.pointer (some ⟨sb, 0, none⟩), .int .i64 q'] w (OpL wz A sb jb q J S q' w) := by
  obtain ⟨D, K, h1, h2⟩ := h.ex
  refine (jopen_walk (q := q') h1.d hrd).mono ?_
  rintro e w' ⟨v, he, hc, hd, hno, hyes⟩
  obtain ⟨hl, hch⟩ := lw_disk h h1 h2 hd hc
  refine ⟨hch, ?_⟩
  by_cases h0 : opnI S q' = 0
  · obtain ⟨hh, g, m, K', ho, hj, hK⟩ := hyes h0
    obtain ⟨jb', rfl, _⟩ := hj.ptr
    rw [h0] at he
    exact .inr ⟨hh, g, m, jb', h0, ho, he, ⟨⟨D, K', ⟨hd, hj, fun x hx => (hK x hx).2⟩, fun x hx => by
      rcases hx with hx | hx
      · exact h2 x (.inl hx)
      · exact ⟨Nat.le_trans h.bel.size (hK x hx).1, fun hA => by have := h.al x hA; have := (hK x hx).1; omega⟩⟩, hch.belowZ h.bel, fun x hx => Nat.lt_of_lt_of_le (h.al x hx) hch.size⟩⟩
  · have hv := hno h0
    subst hv
    exact .inl ⟨h0, he, hl⟩
/-- A new disk, formatted. -/
theorem lw_format {D : Nat → Prop} (hd : Dsk 70 D w (.pointer (some ⟨sb, 0, none⟩)) S) (hb : Below wz.heap.size wz w) (hD : ∀ x, D x → wz.heap.size ≤ x) (hwr : S.wr < 9223372036854775800) (q : Int) :
    Calls Try.prog 6 #[.pointer (some ⟨sb, 0, none⟩), .int .i64 q] w fun e w' => Below wz.heap.size wz w' ∧ ((fmtI S q ≠ 0 ∧ e = .returned (.tuple #[.pointer none, .int .i64 (fmtI S q)])) ∨ (fmtI S q = 0 ∧ ∃ jb, e = .returned (.tuple #[.pointer (some ⟨jb, 0, none⟩), .int .i64 0]) ∧ Lw wz (fun _ => False) sb jb q ⟨1, n0 q.toNat, 0, false⟩ (fmtS S q) w')) := by
  refine (jformat_walk (q := q) hd hwr).mono ?_
  rintro e w' ⟨v, D', he, hD', hc, hd', hno, hyes⟩
  have hbz : Below wz.heap.size wz w' := hb.trans (hc.to_below hb.size hD)
  refine ⟨hbz, ?_⟩
  by_cases h0 : fmtI S q = 0
  · obtain ⟨K, hj, hK⟩ := hyes h0
    obtain ⟨jb, rfl, _⟩ := hj.ptr
    rw [h0] at he
    refine .inr ⟨h0, jb, he, ⟨⟨D', K, ⟨hd', hj, fun x hx => (hK x hx).2⟩, fun x hx => ⟨?_, fun h => h⟩⟩, hbz, fun x hx => hx.elim⟩⟩
    rcases hx with hx | hx
    · rcases hD' x hx with h | h
      · exact hD x h
      · exact Nat.le_trans hb.size h
    · exact Nat.le_trans hb.size (hK x hx).1
  · have hv := hno h0
    subst hv
    exact .inl ⟨h0, he⟩
end

/-- A list that lies in blocks of A. -/
structure Kl (A : Nat → Prop) (w : World) (v : Value) (l : List Int) : Prop where
  nv : Nv w v l
  inA : InA A v
section

variable {wz w w' : World} {A E : Nat → Prop} {v : Value} {l : List Int}

theorem Kl.ch (h : Kl A w v l) (hc : ChA wz A w w') : Kl A w' v l := by
  obtain ⟨⟨⟨ao, cap, e, h1, h2, h3, h4⟩, h5⟩, h6⟩ := h
  refine ⟨⟨⟨ao, cap, e, h1, h2, h3, fun i hi => ?_⟩, h5⟩, h6⟩
  obtain ⟨b, off, e2, c⟩ := h4 i hi
  subst e2
  exact ⟨b, off, rfl, by rw [World.cell?_of_block (w := w) (a := ⟨b, off + i, none⟩) (hc.block b (cell_lt c) (fun hx => hx.2 (h6 _ _ _ e)))]; exact c⟩
theorem Kl.below (h : Kl A w v l) (hb : Below w.heap.size w w') : Kl A w' v l := ⟨h.nv.below hb, h.inA⟩
theorem Kl.mono (h : Kl A w v l) (hE : ∀ x, A x → E x) : Kl E w v l := ⟨h.nv, fun a n c e => hE _ (h.inA a n c e)⟩
end

end Go.Proofs.Ytnnammlipfappaa


