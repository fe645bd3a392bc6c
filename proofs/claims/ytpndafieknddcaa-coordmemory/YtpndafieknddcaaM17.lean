/- QJn QJp Ce Cf -/
import Derived.Test.YtpndafieknddcaaQJj
import Derived.Test.YtpndafieknddcaaM11
namespace Go.Proofs.Ytpndafieknddcaa

open Ieee Go.RowKit



abbrev Pt (b : Nat) : Value := .pointer (some ⟨b, 0, none⟩)
abbrev ChA (wz : World) (A : Nat → Prop) (w w' : World) : Prop := Ch (fun x => wz.heap.size ≤ x ∧ ¬ A x) w w'
/-- A journal on its disk, both above wz, apart from the blocks A. -/
structure Lw (wz : World) (A : Nat → Prop) (sb jb : Nat) (q : Int) (J : Jn) (S : Dk) (w : World) : Prop where
  ex : ∃ D K : Nat → Prop, JS D K w (.pointer (some ⟨jb, 0, none⟩)) (.pointer (some ⟨sb, 0, none⟩)) q J S ∧ ∀ x, D x ∨ K x → wz.heap.size ≤ x ∧ ¬ A x
  bel : Below wz.heap.size wz w
  al : ∀ x, A x → x < w.heap.size
section

variable {wz w w' : World} {A : Nat → Prop} {sb jb : Nat} {q : Int} {J : Jn} {S : Dk} {n : Nt} {pv cv : Value}

theorem ChA.belowZ (h : ChA wz A w w') (hb : Below wz.heap.size wz w) : Below wz.heap.size wz w' := hb.trans (h.to_below hb.size (fun _ hx => hx.1))
theorem Lw.ok (h : Lw wz A sb jb q J S w) : J.ok q := by
  obtain ⟨D, K, h1, _⟩ := h.ex
  exact h1.j.ok
theorem Lw.dok (h : Lw wz A sb jb q J S w) : S.ok := by
  obtain ⟨D, K, h1, _⟩ := h.ex
  exact h1.d.good
theorem Lw.below (h : Lw wz A sb jb q J S w) (hb : Below w.heap.size w w') : Lw wz A sb jb q J S w' := by
  obtain ⟨D, K, h1, h2⟩ := h.ex
  exact ⟨⟨D, K, h1.below hb, h2⟩, h.bel.trans (hb.mono h.bel.size), fun x hx => Nat.lt_of_lt_of_le (h.al x hx) hb.size⟩
/-- What a call has made is kept from now on. -/
theorem Lw.more (h : Lw wz A sb jb q J S w) (hb : Below w.heap.size w w') : Lw wz (fun x => A x ∨ (w.heap.size ≤ x ∧ x < w'.heap.size)) sb jb q J S w' := by
  obtain ⟨D, K, h1, h2⟩ := h.ex
  refine ⟨⟨D, K, h1.below hb, fun x hx => ⟨(h2 x hx).1, ?_⟩⟩, h.bel.trans (hb.mono h.bel.size), fun x hx => ?_⟩
  · rintro (h3 | h3)
    · exact (h2 x hx).2 h3
    · rcases hx with hx | hx
      · have := h1.d.lt hx; omega
      · have := h1.j.lt hx; omega
  · rcases hx with hx | hx
    · exact Nat.lt_of_lt_of_le (h.al x hx) hb.size
    · exact hx.2
/-- Fewer blocks are kept. -/
theorem Lw.less {E : Nat → Prop} (h : Lw wz A sb jb q J S w) (hE : ∀ x, E x → A x) : Lw wz E sb jb q J S w := by
  obtain ⟨D, K, h1, h2⟩ := h.ex
  exact ⟨⟨D, K, h1, fun x hx => ⟨(h2 x hx).1, fun h => (h2 x hx).2 (hE x h)⟩⟩, h.bel, fun x hx => h.al x (hE x hx)⟩
/-- A block of A is written. -/
theorem Lw.write (h : Lw wz A sb jb q J S w) (hc : Ch A w w') (hA : ∀ x, A x → wz.heap.size ≤ x) : Lw wz A sb jb q J S w' := by
  obtain ⟨D, K, h1, h2⟩ := h.ex
  exact ⟨⟨D, K, h1.ch hc (fun x hx hA => (h2 x hx).2 hA), h2⟩, h.bel.trans (hc.to_below h.bel.size hA), fun x hx => Nat.lt_of_lt_of_le (h.al x hx) hc.size⟩
theorem ch_le {D E : Nat → Prop} (h : Ch D w w') (hE : ∀ x, D x → E x) : Ch E w w' := (Ch.refl E w).trans h (fun x hx => .inl (hE x hx))


def SvL (wz : World) (A : Nat → Prop) (sb jb : Nat) (q : Int) (J : Jn) (S : Dk) (n : Nt) (w : World) (e : Ending) (w' : World) : Prop := e = .returned (.int .i64 (savI J S q n)) ∧ Lw wz A sb jb q (savJ J S q n) (savS J S q n) w' ∧ ChA wz A w w'
theorem lw_save (h : Lw wz A sb jb q J S w) (hp : Nv w pv n.p) (hc : Nv w cv n.c) (hnb : -9223372036854775808 ≤ n.b ∧ n.b < 9223372036854775808) (hwr : S.wr < 9223372036854775800) :
    Calls Try.prog 48 #[.pointer (some ⟨jb, 0, none⟩), .agg #[.int .i64 n.b, pv, cv, .int .i64 n.a]] w (SvL wz A sb jb q J S n w) := by
  obtain ⟨D, K, h1, h2⟩ := h.ex
  refine (jsave_walk h1 hp hc hnb hwr).mono ?_
  rintro e w' ⟨he, ⟨D', K', h3, h4, h5⟩, h6⟩
  have hch : ChA wz A w w' := ch_le h6 (fun x hx => h2 x hx)
  refine ⟨he, ⟨⟨D', K', h3, fun x hx => ?_⟩, hch.belowZ h.bel, fun x hx => Nat.lt_of_lt_of_le (h.al x hx) hch.size⟩, hch⟩
  have hnew : w.heap.size ≤ x → wz.heap.size ≤ x ∧ ¬ A x := fun hx => ⟨Nat.le_trans h.bel.size hx, fun hA => by have := h.al x hA; omega⟩
  rcases hx with hx | hx
  · rcases h4 x hx with h | h
    · exact h2 x (.inl h)
    · exact hnew h
  · rcases h5 x hx with h | h
    · exact h2 x (.inr h)
    · exact hnew h
theorem lw_note (h : Lw wz A sb jb q J S w) : Calls Try.prog 35 #[.pointer (some ⟨jb, 0, none⟩)] w (CpGot w J.n) := by
  obtain ⟨D, K, h1, h2⟩ := h.ex
  exact jnote_walk h1.j
theorem lw_ended (h : Lw wz A sb jb q J S w) : Calls Try.prog 39 #[.pointer (some ⟨jb, 0, none⟩)] w fun e w' => e = .returned (.bool J.o) ∧ w' = w := by
  obtain ⟨D, K, h1, h2⟩ := h.ex
  exact jended_walk h1.j
def ImL (S : Dk) (w : World) (e : Ending) (w' : World) : Prop := ∃ g cap, e = .returned (.slice (some ⟨g, 0, none⟩) S.bl.length cap) ∧ Gr (fun x => w.heap.size ≤ x) w' g cap S.bl ∧ w.heap.size ≤ g ∧ Below w.heap.size w w'
def DkL (wz : World) (A : Nat → Prop) (sb jb : Nat) (q : Int) (J : Jn) (S' : Dk) (w : World) (e : Ending) (w' : World) : Prop := e = .returned (.tuple #[]) ∧ Lw wz A sb jb q J S' w' ∧ ChA wz A w w'
theorem lw_disk {D K : Nat → Prop} {S' : Dk} (h : Lw wz A sb jb q J S w) (h1 : JS D K w (.pointer (some ⟨jb, 0, none⟩)) (.pointer (some ⟨sb, 0, none⟩)) q J S) (h2 : ∀ x, D x ∨ K x → wz.heap.size ≤ x ∧ ¬ A x) (hd : Dsk 117 D w' (.pointer (some ⟨sb, 0, none⟩)) S') (hc : Ch D w w') : Lw wz A sb jb q J S' w' ∧ ChA wz A w w' := by
  have hch : ChA wz A w w' := ch_le hc (fun x hx => h2 x (.inl hx))
  exact ⟨⟨⟨D, K, ⟨hd, h1.j.keep (fun x hx => hc.block x (h1.j.lt hx) (h1.ap x hx)) hc.size, h1.ap⟩, h2⟩, hch.belowZ h.bel, fun x hx => Nat.lt_of_lt_of_le (h.al x hx) hch.size⟩, hch⟩
/-- Open beside an elder journal. -/
def OpL (wz : World) (A : Nat → Prop) (sb jb : Nat) (q : Int) (J : Jn) (S : Dk) (q' : Int) (w : World) (e : Ending) (w' : World) : Prop := ChA wz A w w' ∧ ((opnI S q' ≠ 0 ∧ e = .returned (.tuple #[.pointer none, .int .i64 (opnI S q')]) ∧ Lw wz A sb jb q J (opnS S q') w') ∨ ∃ (h g : Nat) (m : Nt) (jb' : Nat), opnI S q' = 0 ∧ opK q' S 2 = some (h, g, m) ∧ e = .returned (.tuple #[.pointer (some ⟨jb', 0, none⟩), .int .i64 0]) ∧ Lw wz A sb jb' q' ⟨g, m, h, false⟩ (opnS S q') w')
theorem lw_open (h : Lw wz A sb jb q J S w) (q' : Int) (hrd : S.rd < 9223372036854775800) : Calls Try.prog 71 #[.pointer (some ⟨sb, 0, none⟩), .int .i64 q'] w (OpL wz A sb jb q J S q' w) := by
  obtain ⟨D, K, h1, h2⟩ := h.ex
  refine (jopen_walk (q := q') h1.d hrd).mono ?_
  rintro e w' ⟨v, he, hc, hd, hno, hyes⟩
  obtain ⟨hl, hch⟩ := lw_disk h h1 h2 hd hc
  refine ⟨hch, ?_⟩
  by_cases h0 : opnI S q' = 0
  · obtain ⟨hh, g, m, K', ho, hj, hK⟩ := hyes h0
    obtain ⟨jb', rfl, _⟩ := hj.ptr
    rw [h0] at he
    exact .inr ⟨hh, g, m, jb', h0, ho, he, ⟨⟨D, K', ⟨hd, hj, fun x hx => (hK x hx).2⟩, fun x hx => by
      rcases hx with hx | hx
      · exact h2 x (.inl hx)
      · exact ⟨Nat.le_trans h.bel.size (hK x hx).1, fun hA => by have := h.al x hA; have := (hK x hx).1; omega⟩⟩, hch.belowZ h.bel, fun x hx => Nat.lt_of_lt_of_le (h.al x hx) hch.size⟩⟩
  · have hv := hno h0
    subst hv
    exact .inl ⟨h0, he, hl⟩
/-- A new disk, formatted. -/
theorem lw_format {D : Nat → Prop} (hd : Dsk 117 D w (.pointer (some ⟨sb, 0, none⟩)) S) (hb : Below wz.heap.size wz w) (hD : ∀ x, D x → wz.heap.size ≤ x) (hwr : S.wr < 9223372036854775800) (q : Int) :
    Calls Try.prog 37 #[.pointer (some ⟨sb, 0, none⟩), .int .i64 q] w fun e w' => Below wz.heap.size wz w' ∧ ((fmtI S q ≠ 0 ∧ e = .returned (.tuple #[.pointer none, .int .i64 (fmtI S q)])) ∨ (fmtI S q = 0 ∧ ∃ jb, e = .returned (.tuple #[.pointer (some ⟨jb, 0, none⟩), .int .i64 0]) ∧ Lw wz (fun _ => False) sb jb q ⟨1, n0 q.toNat, 0, false⟩ (fmtS S q) w')) := by
  refine (jformat_walk (q := q) hd hwr).mono ?_
  rintro e w' ⟨v, D', he, hD', hc, hd', hno, hyes⟩
  have hbz : Below wz.heap.size wz w' := hb.trans (hc.to_below hb.size hD)
  refine ⟨hbz, ?_⟩
  by_cases h0 : fmtI S q = 0
  · obtain ⟨K, hj, hK⟩ := hyes h0
    obtain ⟨jb, rfl, _⟩ := hj.ptr
    rw [h0] at he
    refine .inr ⟨h0, jb, he, ⟨⟨D', K, ⟨hd', hj, fun x hx => (hK x hx).2⟩, fun x hx => ⟨?_, fun h => h⟩⟩, hbz, fun x hx => hx.elim⟩⟩
    rcases hx with hx | hx
    · rcases hD' x hx with h | h
      · exact hD x h
      · exact Nat.le_trans hb.size h
    · exact Nat.le_trans hb.size (hK x hx).1
  · have hv := hno h0
    subst hv
    exact .inl ⟨h0, he⟩
end

end Go.Proofs.Ytpndafieknddcaa

namespace Go.Proofs.Ytpndafieknddcaa

open Ieee Go.RowKit



structure Gd (q : Int) (J : Jn) (S : Dk) : Prop where
  dn : S.down = false
  lf : S.left = -1
  l2 : S.bl.length = 2
  me : bk S.bl J.h = bytN J.g J.n
  ot : ∀ g n, takE q (bk S.bl (1 - J.h)) = some (g, n) → g < J.g
  oq : ∀ k : Int, k ≤ 4 → k ≠ q → takE k (bk S.bl (1 - J.h)) = none
  no : J.o = false
  ok : J.ok q
section

variable {q : Int} {J : Jn} {S : Dk} {n : Nt}

theorem Gd.len (h : Gd q J S) (hr : Rgt n q) (g : Nat) : (bytN g n).length ≤ 1024 := by
  have h1 := hr.lp; have h2 := hr.lc; have h3 := h.ok.q4
  have := bytN_len (g := g) (n := n) (by omega) (by omega)
  omega
theorem Gd.w0 (h : Gd q J S) (hr : Rgt n q) : savW J S n = 0 ∧ writeS S ((1 : Int) - J.h) (savB J n) = putS S (1 - J.h) (bytN (J.g + 1) n) := by
  have hh := h.ok.h1
  have e : ((1 : Int) - J.h) = ((1 - J.h : Nat) : Int) := by omega
  unfold savW savB
  rw [e]
  exact write_in h.dn (by rw [h.l2]; omega) (by rw [h.lf]; decide) (h.len hr _)
theorem Gd.save (h : Gd q J S) (hr : Rgt n q) (hf : folB n J.n = true) (hg : J.g < 1099511627776) : savI J S q n = 0 ∧ savJ J S q n = ⟨J.g + 1, n, 1 - J.h, false⟩ ∧ savS J S q n = putS S (1 - J.h) (bytN (J.g + 1) n) := by
  have hn : ¬ (J.o = true ∨ S.down = true) := by rw [h.no, h.dn]; simp
  have h1 : ¬ rgtB n q = false := by rw [hr.yes]; simp
  have h2 : ¬ folB n J.n = false := by rw [hf]; simp
  have h3 : ¬ J.g = 1099511627776 := by omega
  obtain ⟨h4, h5⟩ := h.w0 hr
  refine ⟨?_, ?_, ?_⟩
  · unfold savI; rw [if_neg hn, if_neg h1, if_neg h2, if_neg h3, h4]
  · unfold savJ; rw [if_neg hn, if_neg h1, if_neg h2, if_neg h3, if_pos h4]
  · unfold savS; rw [if_neg hn, if_neg h1, if_neg h2, if_neg h3, h5]
theorem Gd.next (h : Gd q J S) (hr : Rgt n q) (hg : J.g < 1099511627776) : Gd q ⟨J.g + 1, n, 1 - J.h, false⟩ (putS S (1 - J.h) (bytN (J.g + 1) n)) := by
  have hh := h.ok.h1
  have hl := h.l2
  have hne : ¬ 1 - J.h = J.h := by omega
  have e1 : 1 - (1 - J.h) = J.h := by omega
  have hg2 := h.ok.g2
  refine ⟨h.dn, ?_, by simp [putS, hl], ?_, ?_, ?_, rfl, ⟨by show 1 ≤ J.g + 1; omega, by show J.g + 1 ≤ _; omega, hr, h.ok.q4, by show 1 - J.h ≤ 1; omega⟩⟩
  · show decL S.left = -1; rw [h.lf]; rfl
  · show bk (S.bl.set (1 - J.h) _) (1 - J.h) = _; rw [bk_set (by omega), if_pos rfl]
  · intro g m
    show takE q (bk (S.bl.set (1 - J.h) _) (1 - (1 - J.h))) = some (g, m) → g < J.g + 1
    rw [bk_set (by omega), e1, if_neg hne, h.me, takE_of h.ok.g1 hg2 h.ok.r h.ok.q4]
    intro e; cases e; omega
  · intro k hk hkq
    show takE k (bk (S.bl.set (1 - J.h) _) (1 - (1 - J.h))) = none
    rw [bk_set (by omega), e1, if_neg hne, h.me]
    exact takE_other hg2 h.ok.r h.ok.q4 hk hkq
theorem Gd.refuse (h : Gd q J S) (hf : folB n J.n = false) : (savI J S q n = 1 ∨ savI J S q n = 7) ∧ savJ J S q n = J ∧ savS J S q n = S := by
  have hn : ¬ (J.o = true ∨ S.down = true) := by rw [h.no, h.dn]; simp
  unfold savI savJ savS
  rw [if_neg hn, if_neg hn, if_neg hn]
  by_cases h1 : rgtB n q = false
  · rw [if_pos h1, if_pos h1, if_pos h1]; exact ⟨.inl rfl, rfl, rfl⟩
  · rw [if_neg h1, if_neg h1, if_neg h1, if_pos hf, if_pos hf, if_pos hf]; exact ⟨.inr rfl, rfl, rfl⟩
theorem Gd.cut (h : Gd q J S) (hr : Rgt n q) (hf : folB n J.n = true) (hg : J.g < 1099511627776) : savI J (cutS S 0) q n = 80 ∧ savJ J (cutS S 0) q n = { J with o := true } ∧ onS (savS J (cutS S 0) q n) = S := by
  have hh := h.ok.h1
  have hl := h.l2
  have hn : ¬ (J.o = true ∨ (cutS S 0).down = true) := by rw [h.no, show (cutS S 0).down = S.down from rfl, h.dn]; simp
  have h1 : ¬ rgtB n q = false := by rw [hr.yes]; simp
  have h2 : ¬ folB n J.n = false := by rw [hf]; simp
  have h3 : ¬ J.g = 1099511627776 := by omega
  have e : ((1 : Int) - J.h) = ((1 - J.h : Nat) : Int) := by omega
  have hrf : refI (cutS S 0) ((1 - J.h : Nat) : Int) = 0 := ref_in (S := cutS S 0) h.dn (by show 1 - J.h < S.bl.length; omega)
  have hw : savW J (cutS S 0) n = 80 ∧ writeS (cutS S 0) ((1 : Int) - J.h) (savB J n) = offS (cutS S 0) := by
    have hln : ¬ 1024 < (savB J n).length := by have := h.len hr (J.g + 1); show ¬ 1024 < (bytN (J.g + 1) n).length; omega
    unfold savW writeI writeS
    have h0 : (cutS S 0).left = 0 := rfl
    rw [e, if_neg (by rw [hrf]; simp), if_neg hln, if_pos h0, if_neg (by rw [hrf]; simp), if_neg hln, if_pos h0]
    exact ⟨rfl, rfl⟩
  refine ⟨?_, ?_, ?_⟩
  · unfold savI; rw [if_neg hn, if_neg h1, if_neg h2, if_neg h3, hw.1]
  · unfold savJ; rw [if_neg hn, if_neg h1, if_neg h2, if_neg h3, if_neg (by rw [hw.1]; decide), hw.1]; rfl
  · unfold savS; rw [if_neg hn, if_neg h1, if_neg h2, if_neg h3, hw.2]
    obtain ⟨bl, dn, lf, rd, wr⟩ := S
    have e1 : dn = false := h.dn
    have e2 : lf = -1 := h.lf
    subst e1 e2
    rfl
theorem over_save (J : Jn) (S : Dk) (q : Int) (n : Nt) : savI { J with o := true } S q n = 80 ∧ savJ { J with o := true } S q n = { J with o := true } ∧ savS { J with o := true } S q n = S := by
  unfold savI savJ savS
  rw [if_pos (.inl rfl), if_pos (.inl rfl), if_pos (.inl rfl)]
  exact ⟨rfl, rfl, rfl⟩
theorem Gd.rd (h : Gd q J S) (k : Nat) : Gd q J (rdK S k) := by
  obtain ⟨h1, h2, h3, h4, h5⟩ := rdK_same S k
  exact ⟨h2.trans h.dn, h3.trans h.lf, by rw [h1]; exact h.l2, by rw [h1]; exact h.me, by rw [h1]; exact h.ot, by rw [h1]; exact h.oq, h.no, h.ok⟩
theorem Gd.readL (h : Gd q J S) {k : Nat} (hk : k < 2) : readL S k = bk S.bl k := (read_in h.dn (by rw [h.l2]; exact hk)).2.1
theorem Gd.found (h : Gd q J S) : opK q S 2 = some (J.h, J.g, J.n) := by
  have hh := h.ok.h1
  have hm : takE q (bytN J.g J.n) = some (J.g, J.n) := takE_of h.ok.g1 h.ok.g2 h.ok.r h.ok.q4
  have r0 := h.readL (k := 0) (by omega)
  have r1 := h.readL (k := 1) (by omega)
  have hc : J.h = 0 ∨ J.h = 1 := by omega
  have hme := h.me
  have hot := h.ot
  rcases hc with e | e
  · rw [e] at hme hot ⊢
    have t0 : takE q (Go.Proofs.Ytpndafieknddcaa.readL S ((0 : Nat) : Int)) = some (J.g, J.n) := by rw [r0, hme]; exact hm
    have s1 : opK q S 1 = some (0, J.g, J.n) := opK_first t0 rfl
    cases ht : takE q (bk S.bl 1) with
    | none => rw [opK_none (k := 1) (by rw [r1]; exact ht)]; exact s1
    | some x =>
      obtain ⟨g, m⟩ := x
      have hlt := hot g m ht
      rw [opK_more (k := 1) (by rw [r1]; exact ht) s1, if_neg (by show ¬ J.g < g; omega)]
  · rw [e] at hme hot ⊢
    have t1 : takE q (Go.Proofs.Ytpndafieknddcaa.readL S ((1 : Nat) : Int)) = some (J.g, J.n) := by rw [r1, hme]; exact hm
    cases ht : takE q (bk S.bl 0) with
    | none =>
      have s1 : opK q S 1 = none := (opK_none (k := 0) (by rw [r0]; exact ht)).trans rfl
      exact opK_first t1 s1
    | some x =>
      obtain ⟨g, m⟩ := x
      have hlt := hot g m ht
      have s1 : opK q S 1 = some (0, g, m) := opK_first (by rw [r0]; exact ht) rfl
      rw [opK_more t1 s1, if_pos (by show g < J.g; omega)]
theorem Gd.q1 (_h : Gd q J S) (hq : 1 ≤ q) (hq4 : q ≤ 4) : refJ q = 0 := if_neg (by omega)
theorem Gd.opn (h : Gd q J S) (hq : 1 ≤ q) : opnI S q = 0 ∧ opnS S q = rdK S 2 := by
  unfold opnI opnS
  rw [if_neg (by rw [h.q1 hq h.ok.q4]; simp), if_neg (by rw [h.dn]; simp), if_neg (by rw [h.found]; simp), if_neg (by rw [h.q1 hq h.ok.q4]; simp), if_neg (by rw [h.dn]; simp)]
  exact ⟨rfl, rfl⟩
theorem Gd.other (h : Gd q J S) {k : Int} (hk1 : 1 ≤ k) (hk4 : k ≤ 4) (hne : k ≠ q) : opnI S k = 180 ∧ opnS S k = rdK S 2 := by
  have hh := h.ok.h1
  have hm : takE k (bytN J.g J.n) = none := takE_other h.ok.g2 h.ok.r h.ok.q4 hk4 hne
  have ho := h.oq k hk4 hne
  have r0 := h.readL (k := 0) (by omega)
  have r1 := h.readL (k := 1) (by omega)
  have hme := h.me
  have hn : opK k S 2 = none := by
    have hc : J.h = 0 ∨ J.h = 1 := by omega
    have hb : takE k (bk S.bl 0) = none ∧ takE k (bk S.bl 1) = none := by
      rcases hc with e | e
      · rw [e] at hme ho; exact ⟨by rw [hme]; exact hm, ho⟩
      · rw [e] at hme ho; exact ⟨ho, by rw [hme]; exact hm⟩
    rw [opK_none (k := 1) (by rw [r1]; exact hb.2), opK_none (k := 0) (by rw [r0]; exact hb.1)]
    rfl
  unfold opnI opnS
  rw [if_neg (by rw [show refJ k = 0 from if_neg (by omega)]; simp), if_neg (by rw [h.dn]; simp), if_pos hn, if_neg (by rw [show refJ k = 0 from if_neg (by omega)]; simp), if_neg (by rw [h.dn]; simp)]
  exact ⟨rfl, rfl⟩
end

/-- A new journal. -/
theorem gd_new {q : Nat} (h1 : 1 ≤ q) (h4 : q ≤ 4) : fmtI (loadS (List.replicate 2 [])) q = 0 ∧ (fmtS (loadS (List.replicate 2 [])) q).wr = 2 ∧ (fmtS (loadS (List.replicate 2 [])) q).rd = 0 ∧ Gd q ⟨1, n0 q, 0, false⟩ (fmtS (loadS (List.replicate 2 [])) q) := by
  have hr : ¬ refJ (q : Int) ≠ 0 := by rw [show refJ (q : Int) = 0 from if_neg (by omega)]; simp
  have hl : ¬ (loadS (List.replicate 2 ([] : List Nat))).bl.length < 2 := by decide
  have e1 : writeI (loadS (List.replicate 2 [])) 1 [] = 0 ∧ writeS (loadS (List.replicate 2 [])) 1 [] = ⟨[[], []], false, -1, 0, 1⟩ := ⟨rfl, rfl⟩
  have hlen : (bytN 1 (n0 q)).length ≤ 1024 := by
    have := bytN_len (g := 1) (n := n0 q) (by show (zeros q).length ≤ 4; rw [zeros_len]; exact h4) (by show (zeros q).length ≤ 4; rw [zeros_len]; exact h4)
    omega
  have e2 := write_in (S := ⟨[[], []], false, -1, 0, 1⟩) (k := 0) (b := bytN 1 (n0 q)) rfl (by decide) (by decide) hlen
  have hI : fmtI (loadS (List.replicate 2 [])) q = 0 := by
    unfold fmtI; rw [if_neg hr, if_neg hl, if_neg (by rw [e1.1]; simp), e1.2]; exact e2.1
  have hS : fmtS (loadS (List.replicate 2 [])) q = ⟨[bytN 1 (n0 q), []], false, -1, 0, 2⟩ := by
    unfold fmtS; rw [if_neg hr, if_neg hl, if_neg (by rw [e1.1]; simp), e1.2]; exact e2.2
  refine ⟨hI, by rw [hS], by rw [hS], ?_⟩
  rw [hS]
  exact ⟨rfl, rfl, rfl, rfl, fun g n h => by rw [show takE (q : Int) (bk [bytN 1 (n0 q), []] (1 - 0)) = none from takE_nil _] at h; exact absurd h (by simp), fun k _ _ => takE_nil _, rfl, ⟨Nat.le_refl _, by show (1 : Nat) ≤ _; omega, n0_rgt, by omega, by show (0 : Nat) ≤ _; omega⟩⟩
end Go.Proofs.Ytpndafieknddcaa

namespace Go.Proofs.Ytpndafieknddcaa

open Ieee Go.RowKit



def cC (p : Pn) (dv jv tv : Value) (o : Bool) : Array Value := #[.int .i64 p.P, .int .i64 p.S, .int .i64 p.W, .slice none 0 0, .int .i64 p.A, .int .i64 p.B, .int .i64 p.N, .int .i64 p.G, dv, jv, tv, .bool o]
structure Yt.ok (y : Yt) : Prop where
  fm : ∀ v ∈ y.f, 0 ≤ v ∧ v ≤ 256
  em : ∀ v ∈ y.e, 0 ≤ v ∧ v ≤ 256
  fl : y.f.length ≤ 4
  el : y.e.length ≤ 4
  t0 : 0 ≤ y.t
  t1 : y.t < 4294967296
/-- A try whose lists lie in blocks of C. -/
structure Yo (C : Nat → Prop) (w : World) (x : Ye) : Prop where
  f : OwN 0 w x.fv x.y.f
  e : OwN 0 w x.ev x.y.e
  kf : ∀ b, x.fv.ownBlock = some b → C b
  ke : ∀ b, x.ev.ownBlock = some b → C b
  ok : x.y.ok
theorem in64_of {l : List Int} (h : ∀ v ∈ l, 0 ≤ v ∧ v ≤ 256) : In64 l := fun v hv => by have := h v hv; omega
theorem nth_of {l : List Int} (h : ∀ v ∈ l, 0 ≤ v ∧ v ≤ 256) {i : Nat} (hi : i < l.length) : 0 ≤ nth l i ∧ nth l i ≤ 256 := by
  refine h _ ?_
  unfold nth
  rw [List.getD_eq_getElem?_getD, List.getElem?_eq_getElem hi]
  exact List.getElem_mem hi
section

variable {C C' : Nat → Prop} {w w' : World} {x : Ye}

theorem Yo.yl (h : Yo C w x) : Yl w x := ⟨own_nv h.f (in64_of h.ok.fm), own_nv h.e (in64_of h.ok.em), fun _ hi => (nth_of h.ok.fm hi).1, fun _ hi => (nth_of h.ok.em hi).1⟩
theorem Yo.keep (h : Yo C w x) (hk : ∀ b, C b → w'.heap[b]? = w.heap[b]?) : Yo C w' x :=
  ⟨row_keep h.f fun b hb => hk b (h.kf b hb), row_keep h.e fun b hb => hk b (h.ke b hb), h.kf, h.ke, h.ok⟩
theorem Yo.mono (h : Yo C w x) (hc : ∀ b, C b → C' b) : Yo C' w x := ⟨h.f, h.e, fun b hb => hc b (h.kf b hb), fun b hb => hc b (h.ke b hb), h.ok⟩
theorem row_ne {b1 e1 s1 n1 b2 e2 s2 n2 : Nat} {v1 v2 : Value} {x1 x2 : List Value} (h1 : w.ownsRow b1 e1 s1 v1 n1 x1) (h2 : w.ownsRow b2 e2 s2 v2 n2 x2) (he : e1 ≠ e2) {a b : Nat} (ha : v1.ownBlock = some a) (hb : v2.ownBlock = some b) : a ≠ b := by
  rcases h1.2 with ⟨q, _⟩ | ⟨g, cap, cur, rfl, _, hh, _⟩
  · rw [q] at ha; cases ha
  · rcases h2.2 with ⟨q, _⟩ | ⟨g2, cap2, cur2, rfl, _, hh2, _⟩
    · rw [q] at hb; cases hb
    · have e1' : g = a := Option.some.inj ha
      have e2' : g2 = b := Option.some.inj hb
      subst e1' e2'
      intro e
      subst e
      rw [hh] at hh2
      injection hh2 with h3
      injection h3 with _ h4
      exact he h4
/-- Lists stay where a row of tries is written. -/
theorem Yo.rowset {tv : Value} {n : Nat} {xs : List Value} (h : Yo C w x) (hr : w.ownsRow 0 43 7 tv n xs) (hk : ∀ b, tv.ownBlock ≠ some b → b < w.heap.size → w'.heap[b]? = w.heap[b]?) : Yo C w' x :=
  ⟨row_keep h.f fun b hb => hk b (fun e => row_ne hr h.f (by decide) e hb rfl) (h.f.lt b hb).2, row_keep h.e fun b hb => hk b (fun e => row_ne hr h.e (by decide) e hb rfl) (h.e.lt b hb).2, h.kf, h.ke, h.ok⟩
end

/-- The coordinator in block cb, its tries in blocks of C. -/
structure CM (C : Nat → Prop) (w : World) (cb : Nat) (dv jv : Value) (p : Pn) (tv : Value) (V : List Ye) (o : Bool) : Prop where
  head : w.heap[cb]? = some (.cells (cC p dv jv tv o) 72 (0, 0))
  row : w.ownsRow 0 43 7 tv V.length (flatY V)
  ls : ∀ x ∈ V, Yo C w x
  kc : C cb
  kr : ∀ x, tv.ownBlock = some x → C x ∧ x ≠ cb
  kl : ∀ x, C x → x < w.heap.size
section

variable {C C' : Nat → Prop} {w w' : World} {cb : Nat} {dv jv tv : Value} {p : Pn} {V : List Ye} {o : Bool}

theorem CM.keep (h : CM C w cb dv jv p tv V o) (hk : ∀ x, C x → w'.heap[x]? = w.heap[x]?) (hs : w.heap.size ≤ w'.heap.size) : CM C w' cb dv jv p tv V o :=
  ⟨by rw [hk _ h.kc]; exact h.head, row_keep h.row fun x hx => hk x (h.kr x hx).1, fun x hx => (h.ls x hx).keep hk, h.kc, h.kr, fun x hx => Nat.lt_of_lt_of_le (h.kl x hx) hs⟩
theorem CM.below (h : CM C w cb dv jv p tv V o) (hb : Below w.heap.size w w') : CM C w' cb dv jv p tv V o := h.keep (fun x hx => hb.block x (h.kl x hx)) hb.size
theorem CM.mono (h : CM C w cb dv jv p tv V o) (hc : ∀ b, C b → C' b) (hl : ∀ b, C' b → b < w.heap.size) : CM C' w cb dv jv p tv V o :=
  ⟨h.head, h.row, fun x hx => (h.ls x hx).mono hc, hc _ h.kc, fun x hx => ⟨hc _ (h.kr x hx).1, (h.kr x hx).2⟩, hl⟩
theorem CM.yr (h : CM C w cb dv jv p tv V o) : Yr w tv V := ⟨h.row, fun x hx => (h.ls x hx).yl⟩
theorem CM.cell (h : CM C w cb dv jv p tv V o) (i : Nat) : w.cell? ⟨cb, i, none⟩ = (cC p dv jv tv o)[i]? := blk_cell h.head i
theorem CM.soft (h : CM C w cb dv jv p tv V o) (i : Nat) : w.frozen? ⟨cb, i, none⟩ = false := blk_soft h.head i
theorem CM.lt (h : CM C w cb dv jv p tv V o) : cb < w.heap.size := h.kl _ h.kc
theorem CM.form (h : CM C w cb dv jv p tv V o) : ∃ a c, tv = .slice a V.length c ∧ V.length ≤ c ∧ c ≤ maxLen := own_formY h.row
/-- A cell of the coordinator's own block is turned. -/
theorem cm_turn (hh0 : w.heap[cb]? = some (.cells (cC p dv jv tv o) 72 (0, 0))) (kc : C cb) (kl : ∀ x, C x → x < w.heap.size) {i : Nat} {u : Value} {tv' : Value} {o' : Bool} (hc : (cC p dv jv tv o).setIfInBounds i u = cC p dv jv tv' o') {V' : List Ye} (hr : w.ownsRow 0 43 7 tv' V'.length (flatY V')) (hl : ∀ x ∈ V', Yo C w x) (hk : ∀ x, tv'.ownBlock = some x → C x ∧ x ≠ cb) : CM C (w.setCell ⟨cb, i, none⟩ u) cb dv jv p tv' V' o' := by
  have hs : ∀ x, x ≠ cb → (w.setCell ⟨cb, i, none⟩ u).heap[x]? = w.heap[x]? := fun x hx => set_other _ _ hx
  have hne : ∀ {v : Value} {l : List Int}, OwN 0 w v l → ∀ x, v.ownBlock = some x → x ≠ cb := by
    intro v l ho x hx e
    subst e
    rcases ho.2 with ⟨q, _⟩ | ⟨g, cap, cur, rfl, _, hh, _⟩
    · rw [q] at hx; cases hx
    · have e1 : g = x := Option.some.inj hx
      subst e1
      rw [hh] at hh0
      injection hh0 with h3
      injection h3 with _ h4
      exact absurd h4 (by decide)
  refine ⟨by rw [set_row hh0, hc], row_keep hr fun x hx => hs x (hk x hx).2, fun x hx => ?_, kc, hk, fun x hx => by have := kl x hx; simpa [go_sem] using this⟩
  have hx1 := hl x hx
  exact ⟨row_keep hx1.f fun b hb => hs b (hne hx1.f b hb), row_keep hx1.e fun b hb => hs b (hne hx1.e b hb), hx1.kf, hx1.ke, hx1.ok⟩
theorem CM.setO (h : CM C w cb dv jv p tv V o) (o' : Bool) : CM C (w.setCell ⟨cb, 11, none⟩ (.bool o')) cb dv jv p tv V o' := cm_turn h.head h.kc h.kl rfl h.row h.ls h.kr
end



/-- A coordinator: its plan without steps, its journal, its disk, its tries, whether it has found the power gone. -/
structure Cs where
  p : Pn
  J : Jn
  S : Dk
  L : List Yt
  o : Bool
def Cs.endB (c : Cs) : Bool := c.o || (c.J.o || c.S.down)
structure Cs.ok (c : Cs) : Prop where
  pl : c.p.is = true
  pn : c.p.l = []
  ln : c.L.length ≤ 4
/-- A coordinator above wz, apart from the blocks A. -/
structure CW (wz : World) (A : Nat → Prop) (sb cb : Nat) (c : Cs) (w : World) : Prop where
  ex : ∃ (C : Nat → Prop) (jb : Nat) (tv : Value) (V : List Ye), (∀ x, C x → wz.heap.size ≤ x ∧ ¬ A x) ∧ Lw wz (fun x => A x ∨ C x) sb jb c.p.P c.J c.S w ∧ CM C w cb (Pt sb) (Pt jb) c.p tv V c.o ∧ V.map Ye.y = c.L
  ok : c.ok
section

variable {wz w w' w2 : World} {A E C : Nat → Prop} {sb cb jb : Nat} {c : Cs} {p : Pn} {q : Int} {J : Jn} {S : Dk} {F : Value} {f : Yt → Bool}

theorem ChA.self (h : ChA wz A w w') (k : ChA wz A w' w2) : ChA wz A w w2 := Ch.self h k
theorem ChA.of_below (h : Below w.heap.size w w') : ChA wz A w w' := Ch.of_below h
theorem Lw.ch (h : Lw wz A sb jb q J S w) (hc : Ch E w w') (hE : ∀ x, E x → A x) (hz : ∀ x, E x → wz.heap.size ≤ x) : Lw wz A sb jb q J S w' := by
  obtain ⟨D, K, h1, h2⟩ := h.ex
  exact ⟨⟨D, K, h1.ch hc (fun x hx he => (h2 x hx).2 (hE x he)), h2⟩, h.bel.trans (hc.to_below h.bel.size hz), fun x hx => Nat.lt_of_lt_of_le (h.al x hx) hc.size⟩
theorem CW.bel (h : CW wz A sb cb c w) : Below wz.heap.size wz w := by
  obtain ⟨C, jb, tv, V, h1, h2, h3, h4⟩ := h.ex
  exact h2.bel
theorem CW.al (h : CW wz A sb cb c w) {x : Nat} (hx : A x) : x < w.heap.size := by
  obtain ⟨C, jb, tv, V, h1, h2, h3, h4⟩ := h.ex
  exact h2.al x (.inl hx)
theorem CW.lt (h : CW wz A sb cb c w) : cb < w.heap.size := by
  obtain ⟨C, jb, tv, V, h1, h2, h3, h4⟩ := h.ex
  exact h3.lt
theorem CW.cbz (h : CW wz A sb cb c w) : wz.heap.size ≤ cb ∧ ¬ A cb := by
  obtain ⟨C, jb, tv, V, h1, h2, h3, h4⟩ := h.ex
  exact h1 _ h3.kc
theorem CW.yok (h : CW wz A sb cb c w) : ∀ y ∈ c.L, y.ok := fun y hy => by
  obtain ⟨C, jb, tv, V, h1, h2, h3, h4⟩ := h.ex
  rw [← h4] at hy
  obtain ⟨x, hx, rfl⟩ := List.mem_map.1 hy
  exact (h3.ls x hx).ok
theorem CW.jok (h : CW wz A sb cb c w) : c.J.ok c.p.P := by
  obtain ⟨C, jb, tv, V, h1, h2, h3, h4⟩ := h.ex
  exact h2.ok
theorem CW.below (h : CW wz A sb cb c w) (hb : Below w.heap.size w w') : CW wz A sb cb c w' := by
  obtain ⟨C, jb, tv, V, h1, h2, h3, h4⟩ := h.ex
  exact ⟨⟨C, jb, tv, V, h1, h2.below hb, h3.below hb, h4⟩, h.ok⟩
/-- What a call has made is kept from now on. -/
theorem CW.more (h : CW wz A sb cb c w) (hb : Below w.heap.size w w') : CW wz (fun x => A x ∨ (w.heap.size ≤ x ∧ x < w'.heap.size)) sb cb c w' := by
  obtain ⟨C, jb, tv, V, h1, h2, h3, h4⟩ := h.ex
  refine ⟨⟨C, jb, tv, V, fun x hx => ⟨(h1 x hx).1, ?_⟩, ?_, h3.below hb, h4⟩, h.ok⟩
  · rintro (h9 | h9)
    · exact (h1 x hx).2 h9
    · have := h3.kl x hx; omega
  · have := h2.more hb
    refine this.less ?_
    rintro x ((h9 | h9) | h9)
    · exact .inl (.inl h9)
    · exact .inr h9
    · exact .inl (.inr h9)
theorem CW.less (h : CW wz A sb cb c w) (hE : ∀ x, E x → A x) : CW wz E sb cb c w := by
  obtain ⟨C, jb, tv, V, h1, h2, h3, h4⟩ := h.ex
  exact ⟨⟨C, jb, tv, V, fun x hx => ⟨(h1 x hx).1, fun h => (h1 x hx).2 (hE x h)⟩, h2.less (fun x hx => hx.imp (hE x) id), h3, h4⟩, h.ok⟩
/-- Blocks of A are written. -/
theorem CW.write (h : CW wz A sb cb c w) (hc : Ch E w w') (hE : ∀ x, E x → A x) (hz : ∀ x, E x → wz.heap.size ≤ x) : CW wz A sb cb c w' := by
  obtain ⟨C, jb, tv, V, h1, h2, h3, h4⟩ := h.ex
  exact ⟨⟨C, jb, tv, V, h1, h2.ch hc (fun x hx => .inl (hE x hx)) hz, h3.keep (fun x hx => hc.block x (h3.kl x hx) (fun he => (h1 x hx).2 (hE x he))) hc.size, h4⟩, h.ok⟩
def idxY (f : Yt → Bool) : List Yt → Nat → Int
  | [], _ => -1
  | y :: t, k => if f y = true then (k : Int) else idxY f t (k + 1)
theorem idxP_map (f : Yt → Bool) (V : List Ye) (k : Nat) : idxP f V k = idxY f (V.map Ye.y) k := by
  induction V generalizing k with
  | nil => rfl
  | cons a t ih => rw [idxP, List.map_cons, idxY, ih]
theorem idxY_cases (f : Yt → Bool) (L : List Yt) (k : Nat) : (idxY f L k = -1 ∧ ∀ y ∈ L, f y = false) ∨ ∃ i, ∃ (hi : i < L.length), idxY f L k = ((k + i : Nat) : Int) ∧ f L[i] = true ∧ ∀ j (hj : j < i), f (L[j]'(by omega)) = false := by
  induction L generalizing k with
  | nil => exact .inl ⟨rfl, by simp⟩
  | cons a t ih =>
    by_cases h : f a = true
    · exact .inr ⟨0, by simp, by rw [idxY, if_pos h]; rfl, by simpa using h, by intro j hj; omega⟩
    · have ha : f a = false := by simpa using h
      rw [idxY, if_neg h]
      rcases ih (k + 1) with ⟨h1, h2⟩ | ⟨i, hi, h1, h2, h3⟩
      · refine .inl ⟨h1, fun y hy => ?_⟩
        rcases List.mem_cons.1 hy with rfl | hy
        · exact ha
        · exact h2 y hy
      · refine .inr ⟨i + 1, by simpa using hi, by rw [h1]; congr 1; omega, by simpa using h2, fun j hj => ?_⟩
        cases j with
        | zero => simpa using ha
        | succ j => have := h3 j (by omega); simpa using this
theorem find_walk (h : CW wz A sb cb c w) (hp : Pk w F f) : Calls Try.prog 25 #[Pt cb, F] w fun e w' => e = .returned (.int .i64 (idxY f c.L 0)) ∧ Below w.heap.size w w' := by
  obtain ⟨C, jb, tv, V, h1, h2, h3, h4⟩ := h.ex
  have HR : Hid (Yr w tv V) := h3.yr
  have HI : Hid (idxP f V 0 = idxY f c.L 0) := by show _ = _; rw [idxP_map, h4]
  have HP : Hid (Pk w F f) := hp
  obtain ⟨n, cs, rfl, _, _⟩ := hp
  obtain ⟨ta, tc, rfl, _⟩ := h3.form
  have c10 : w.cell? ⟨cb, 10, none⟩ = some (.slice ta V.length tc) := by rw [h3.cell]; rfl
  clear h h1 h2 h3 h4
  go_enter Try.func25, Try.ntmps25
  go_wp2_with fail
  refine (index_walk HR.out HP.out).mono ?_
  rw [HI.out]
  rintro e w9 ⟨rfl, h9⟩
  have H9 : Hid (Below w.heap.size w w9) := h9
  clear h9
  go_wp2_with fail
  go_ret
  exact ⟨rfl, H9.out⟩
def tolI (e : Int) : Int := if e = 80 then 80 else 0
theorem told_walk (e0 : Int) : Calls Try.prog 49 #[.int .i64 e0] w fun e w' => e = .returned (.int .i64 (tolI e0)) ∧ w' = w := by
  by_cases h : e0 = 80
  · subst h
    go_enter Try.func49, Try.ntmps49
    go_wp2_with fail
    go_ret
    exact ⟨rfl, rfl⟩
  · have HT : Hid (tolI e0 = 0) := if_neg h
    have q : (e0 == 80) = false := by simp [h]
    rw [HT.out]
    clear h
    go_enter Try.func49, Try.ntmps49
    go_wp2_with fail
    go_ret
    exact ⟨rfl, rfl⟩
/-- Whether an attempt may begin. -/
def mayB (c : Cs) : Bool := decide ((c.L.length : Int) < c.p.N) && (decide (c.L.length = 0) || ((c.L.getLast?.map Yt.h).getD 0 != 1))
end

end Go.Proofs.Ytpndafieknddcaa

namespace Go.Proofs.Ytpndafieknddcaa

open Ieee Go.RowKit

section

variable {wz w w' w2 : World} {A E C : Nat → Prop} {sb cb jb : Nat} {c : Cs} {p : Pn} {q : Int} {J : Jn} {S : Dk} {F : Value} {f : Yt → Bool}

theorem lw_down {B : Nat → Prop} (h : Lw wz B sb jb q J S w) : Calls Try.prog 40 #[.pointer (some ⟨sb, 0, none⟩)] w fun e w' => e = .returned (.bool S.down) ∧ w' = w := by
  obtain ⟨D, K, h1, h2⟩ := h.ex
  exact down_walk h1.d
/-- A call that turns nothing but the coordinator's own block. -/
def CwG (wz : World) (A : Nat → Prop) (sb cb : Nat) (c' : Cs) (v : Value) (w : World) (e : Ending) (w' : World) : Prop := e = .returned v ∧ CW wz A sb cb c' w' ∧ ChA wz A w w'
theorem cend_nil : Calls Try.prog 17 #[.pointer none] w fun e w' => e = .returned (.bool false) ∧ w' = w := by
  go_enter Try.func17, Try.ntmps17
  go_wp2_with fail
  go_ret
  exact ⟨rfl, rfl⟩
theorem CW.setO (h : CW wz A sb cb c w) (o' : Bool) : CW wz A sb cb { c with o := o' } (w.setCell ⟨cb, 11, none⟩ (.bool o')) ∧ ChA wz A w (w.setCell ⟨cb, 11, none⟩ (.bool o')) := by
  obtain ⟨C, jb, tv, V, h1, h2, h3, h4⟩ := h.ex
  have hc := ch_set w cb 11 (.bool o')
  exact ⟨⟨⟨C, jb, tv, V, h1, h2.ch hc (fun x hx => .inr (hx ▸ h3.kc)) (fun x hx => hx ▸ (h1 _ h3.kc).1), h3.setO o', h4⟩, ⟨h.ok.pl, h.ok.pn, h.ok.ln⟩⟩, ch_le hc (fun x hx => hx ▸ h1 _ h3.kc)⟩
set_option maxRecDepth 100000 in
theorem cend_walk (h : CW wz A sb cb c w) : Calls Try.prog 17 #[Pt cb] w (CwG wz A sb cb { c with o := c.endB } (.bool c.endB) w) := by
  have HC : Hid (CW wz A sb cb c w) := h
  obtain ⟨C, jb, tv, V, h1, h2, h3, h4⟩ := h.ex
  have HL : Hid (Lw wz (fun x => A x ∨ C x) sb jb c.p.P c.J c.S w) := h2
  have c8 : w.cell? ⟨cb, 8, none⟩ = some (.pointer (some ⟨sb, 0, none⟩)) := by rw [h3.cell]; rfl
  have c9 : w.cell? ⟨cb, 9, none⟩ = some (.pointer (some ⟨jb, 0, none⟩)) := by rw [h3.cell]; rfl
  have c11 : w.cell? ⟨cb, 11, none⟩ = some (.bool c.o) := by rw [h3.cell]; rfl
  have z11 : w.frozen? ⟨cb, 11, none⟩ = false := h3.soft 11
  obtain ⟨b, hb⟩ : ∃ b, b = c.endB := ⟨_, rfl⟩
  rw [← hb]
  have HB : Hid (b = (c.o || (c.J.o || c.S.down))) := hb
  have HE : Hid (CW wz A sb cb { c with o := b } (w.setCell ⟨cb, 11, none⟩ (.bool b)) ∧ ChA wz A w (w.setCell ⟨cb, 11, none⟩ (.bool b))) := HC.out.setO b
  clear h h1 h2 h3 h4 hb
  cases ho : c.o
  · rw [ho] at c11
    have HB2 : Hid (b = (c.J.o || c.S.down)) := by show _ = _; rw [HB.out, ho]; rfl
    clear ho
    cases hj : c.J.o
    · have HB3 : Hid (b = c.S.down) := by show _ = _; rw [HB2.out, hj]; rfl
      have HJ : Hid (c.J.o = false) := hj
      clear hj
      go_enter Try.func17, Try.ntmps17
      go_wp2_with (first | (go_at_call 39; refine (lw_ended HL.out).mono ?_; rw [HJ.out]; rintro e w9 ⟨rfl, h9⟩; replace h9 := h9.symm; subst h9) | (go_at_call 40; refine (lw_down HL.out).mono ?_; rw [← HB3.out]; rintro e w9 ⟨rfl, h9⟩; replace h9 := h9.symm; subst h9))
      go_ret
      exact ⟨rfl, HE.out⟩
    · have HB3 : Hid (b = true) := by show _ = _; rw [HB2.out, hj]; rfl
      have HJ : Hid (c.J.o = true) := hj
      rw [HB3.out] at HE ⊢
      clear hj
      go_enter Try.func17, Try.ntmps17
      go_wp2_with (go_at_call 39; refine (lw_ended HL.out).mono ?_; rw [HJ.out]; rintro e w9 ⟨rfl, h9⟩; replace h9 := h9.symm; subst h9)
      go_ret
      exact ⟨rfl, HE.out⟩
  · rw [ho] at c11
    have HB3 : Hid (b = true) := by show _ = _; rw [HB.out, ho]; rfl
    rw [HB3.out] at HE ⊢
    clear ho
    go_enter Try.func17, Try.ntmps17
    go_wp2_with fail
    go_ret
    exact ⟨rfl, HE.out⟩
theorem cref_nil : Calls Try.prog 22 #[.pointer none] w fun e w' => e = .returned (.int .i64 2) ∧ w' = w := by
  go_enter Try.func22, Try.ntmps22
  go_wp2_with fail
  go_ret
  exact ⟨rfl, rfl⟩
def refC (c : Cs) : Int := if c.endB = true then 80 else 0
theorem cref_walk (h : CW wz A sb cb c w) : Calls Try.prog 22 #[Pt cb] w (CwG wz A sb cb { c with o := c.endB } (.int .i64 (refC c)) w) := by
  have HC : Hid (CW wz A sb cb c w) := h
  clear h
  cases he : c.endB
  · have HR : Hid (refC c = 0) := if_neg (by rw [he]; simp)
    have HE : Hid (c.endB = false) := he
    rw [HR.out]
    clear he
    go_enter Try.func22, Try.ntmps22
    go_wp2_with fail
    refine (cend_walk HC.out).mono ?_
    rw [HE.out]
    rintro e w9 ⟨rfl, h9⟩
    have H9 : Hid (CW wz A sb cb { c with o := false } w9 ∧ ChA wz A w w9) := h9
    clear h9
    go_wp2_with fail
    go_ret
    exact ⟨rfl, H9.out⟩
  · have HR : Hid (refC c = 80) := if_pos he
    have HE : Hid (c.endB = true) := he
    rw [HR.out]
    clear he
    go_enter Try.func22, Try.ntmps22
    go_wp2_with fail
    refine (cend_walk HC.out).mono ?_
    rw [HE.out]
    rintro e w9 ⟨rfl, h9⟩
    have H9 : Hid (CW wz A sb cb { c with o := true } w9 ∧ ChA wz A w w9) := h9
    clear h9
    go_wp2_with fail
    go_ret
    exact ⟨rfl, H9.out⟩
theorem last_of {V : List Ye} (hn : 0 < V.length) : (V.map Ye.y).getLast? = some (V[V.length - 1]).y := by
  rw [List.getLast?_eq_getElem?, List.length_map, List.getElem?_map, List.getElem?_eq_getElem (by omega)]; rfl
set_option maxRecDepth 100000 in
theorem may_walk (h : CW wz A sb cb c w) : Calls Try.prog 28 #[Pt cb] w fun e w' => e = .returned (.bool (mayB c)) ∧ w' = w := by
  have HLN := h.ok.ln
  obtain ⟨_, _, _, _, _, ⟨hN1, hN2⟩, _⟩ := Pn.is_num h.ok.pl
  obtain ⟨C, jb, tv, V, h1, h2, h3, h4⟩ := h.ex
  have hlen : V.length = c.L.length := by rw [← h4, List.length_map]
  have HR : Hid (Yr w tv V) := h3.yr
  obtain ⟨N, hN⟩ : ∃ N, N = c.p.N := ⟨_, rfl⟩
  have c6 : w.cell? ⟨cb, 6, none⟩ = some (.int .i64 N) := by rw [h3.cell, hN]; rfl
  have c10 : w.cell? ⟨cb, 10, none⟩ = some tv := by rw [h3.cell]; rfl
  unfold mayB
  rw [← hN, ← hlen]
  have H4 : Hid (V.map Ye.y = c.L) := h4
  rw [← hlen] at HLN
  rw [← hN] at hN1 hN2
  clear h h1 h2 h3 h4 hN hlen
  by_cases h5 : (V.length : Int) < N
  · have q5 : decide ((V.length : Int) < N) = true := decide_eq_true h5
    rw [q5]
    by_cases h6 : V.length = 0
    · have hv : V = [] := List.eq_nil_of_length_eq_zero h6
      subst hv
      obtain ⟨ta, tc, rfl, _⟩ := own_formY HR.out.row
      have q0 : decide (([] : List Ye).length = 0) = true := rfl
      rw [q0]
      simp only [List.length_nil] at *
      go_enter Try.func28, Try.ntmps28
      go_wp2_with fail
      go_ret
      exact ⟨rfl, rfl⟩
    · have hn : 0 < V.length := by omega
      obtain ⟨g, cap, rfl, _, _, _, h7⟩ := HR.out.at (i := V.length - 1) (by omega)
      obtain ⟨ph, hph⟩ : ∃ ph, ph = (V[V.length - 1]).y.h := ⟨_, rfl⟩
      have c3 := h7.c3
      rw [← hph] at c3
      have HLA : Hid ((c.L.getLast?.map Yt.h).getD 0 = ph) := by show _ = _; rw [← H4.out, last_of hn, hph]; rfl
      have q0 : decide (V.length = 0) = false := decide_eq_false h6
      rw [HLA.out, q0]
      obtain ⟨m, hm⟩ : ∃ m, V.length = m + 1 := ⟨V.length - 1, by omega⟩
      have hm1 : V.length - 1 = m := by omega
      rw [hm1] at c3
      clear h7 hph hm1
      have hq0 : ((V.length : Int) == 0) = false := by rw [beq_eq_false_iff_ne]; omega
      have hi1 : ((V.length : Int) - 1) = (m : Int) := by omega
      have hwr : IntKind.i64.wrap ((V.length : Int) - 1) = (m : Int) := by rw [hi1, IntKind.wrap_i64]; omega
      generalize V.length = n at *
      subst hm
      go_enter Try.func28, Try.ntmps28
      go_wp2_with fail
      go_ret
      exact ⟨rfl, rfl⟩
  · have q5 : decide ((V.length : Int) < N) = false := decide_eq_false h5
    rw [q5]
    obtain ⟨ta, tc, rfl, _⟩ := own_formY HR.out.row
    go_enter Try.func28, Try.ntmps28
    go_wp2_with fail
    go_ret
    exact ⟨rfl, rfl⟩
end

end Go.Proofs.Ytpndafieknddcaa
