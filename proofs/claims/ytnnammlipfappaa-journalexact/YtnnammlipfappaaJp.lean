/- A journal whose disk has it: what its calls make of both. -/
import Derived.Test.YtnnammlipfappaaJo

namespace Go.Proofs.Ytnnammlipfappaa

open Ieee Go.RowKit



structure Gd (q : Int) (J : Jn) (S : Dk) : Prop where
  dn : S.down = false
  lf : S.left = -1
  l2 : S.bl.length = 2
  me : bk S.bl J.h = bytN J.g J.n
  ot : ∀ g n, takE q (bk S.bl (1 - J.h)) = some (g, n) → g < J.g
  oq : ∀ k : Int, k ≤ 4 → k ≠ q → takE k (bk S.bl (1 - J.h)) = none
  no : J.o = false
  ok : J.ok q
section

variable {q : Int} {J : Jn} {S : Dk} {n : Nt}

theorem Gd.len (h : Gd q J S) (hr : Rgt n q) (g : Nat) : (bytN g n).length ≤ 1024 := by
  have h1 := hr.lp; have h2 := hr.lc; have h3 := h.ok.q4
  have := bytN_len (g := g) (n := n) (by omega) (by omega)
  omega
theorem Gd.w0 (h : Gd q J S) (hr : Rgt n q) : savW J S n = 0 ∧ writeS S ((1 : Int) - J.h) (savB J n) = putS S (1 - J.h) (bytN (J.g + 1) n) := by
  have hh := h.ok.h1
  have e : ((1 : Int) - J.h) = ((1 - J.h : Nat) : Int) := by omega
  unfold savW savB
  rw [e]
  exact write_in h.dn (by rw [h.l2]; omega) (by rw [h.lf]; decide) (h.len hr _)
theorem Gd.save (h : Gd q J S) (hr : Rgt n q) (hf : folB n J.n = true) (hg : J.g < 1099511627776) : savI J S q n = 0 ∧ savJ J S q n = ⟨J.g + 1, n, 1 - J.h, false⟩ ∧ savS J S q n = putS S (1 - J.h) (bytN (J.g + 1) n) := by
  have hn : ¬ (J.o = true ∨ S.down = true) := by rw [h.no, h.dn]; simp
  have h1 : ¬ rgtB n q = false := by rw [hr.yes]; simp
  have h2 : ¬ folB n J.n = false := by rw [hf]; simp
  have h3 : ¬ J.g = 1099511627776 := by omega
  obtain ⟨h4, h5⟩ := h.w0 hr
  refine ⟨?_, ?_, ?_⟩
  · unfold savI; rw [if_neg hn, if_neg h1, if_neg h2, if_neg h3, h4]
  · unfold savJ; rw [if_neg hn, if_neg h1, if_neg h2, if_neg h3, if_pos h4]
  · unfold savS; rw [if_neg hn, if_neg h1, if_neg h2, if_neg h3, h5]
theorem Gd.next (h : Gd q J S) (hr : Rgt n q) (hg : J.g < 1099511627776) : Gd q ⟨J.g + 1, n, 1 - J.h, false⟩ (putS S (1 - J.h) (bytN (J.g + 1) n)) := by
  have hh := h.ok.h1
  have hl := h.l2
  have hne : ¬ 1 - J.h = J.h := by omega
  have e1 : 1 - (1 - J.h) = J.h := by omega
  have hg2 := h.ok.g2
  refine ⟨h.dn, ?_, by simp [putS, hl], ?_, ?_, ?_, rfl, ⟨by show 1 ≤ J.g + 1; omega, by show J.g + 1 ≤ _; omega, hr, h.ok.q4, by show 1 - J.h ≤ 1; omega⟩⟩
  · show decL S.left = -1; rw [h.lf]; rfl
  · show bk (S.bl.set (1 - J.h) _) (1 - J.h) = _; rw [bk_set (by omega), if_pos rfl]
  · intro g m
    show takE q (bk (S.bl.set (1 - J.h) _) (1 - (1 - J.h))) = some (g, m) → g < J.g + 1
    rw [bk_set (by omega), e1, if_neg hne, h.me, takE_of h.ok.g1 hg2 h.ok.r h.ok.q4]
    intro e; cases e; omega
  · intro k hk hkq
    show takE k (bk (S.bl.set (1 - J.h) _) (1 - (1 - J.h))) = none
    rw [bk_set (by omega), e1, if_neg hne, h.me]
    exact takE_other hg2 h.ok.r h.ok.q4 hk hkq
theorem Gd.refuse (h : Gd q J S) (hf : folB n J.n = false) : (savI J S q n = 1 ∨ savI J S q n = 7) ∧ savJ J S q n = J ∧ savS J S q n = S := by
  have hn : ¬ (J.o = true ∨ S.down = true) := by rw [h.no, h.dn]; simp
  unfold savI savJ savS
  rw [if_neg hn, if_neg hn, if_neg hn]
  by_cases h1 : rgtB n q = false
  · rw [if_pos h1, if_pos h1, if_pos h1]; exact ⟨.inl rfl, rfl, rfl⟩
  · rw [if_neg h1, if_neg h1, if_neg h1, if_pos hf, if_pos hf, if_pos hf]; exact ⟨.inr rfl, rfl, rfl⟩
theorem Gd.cut (h : Gd q J S) (hr : Rgt n q) (hf : folB n J.n = true) (hg : J.g < 1099511627776) : savI J (cutS S 0) q n = 80 ∧ savJ J (cutS S 0) q n = { J with o := true } ∧ onS (savS J (cutS S 0) q n) = S := by
  have hh := h.ok.h1
  have hl := h.l2
  have hn : ¬ (J.o = true ∨ (cutS S 0).down = true) := by rw [h.no, show (cutS S 0).down = S.down from rfl, h.dn]; simp
  have h1 : ¬ rgtB n q = false := by rw [hr.yes]; simp
  have h2 : ¬ folB n J.n = false := by rw [hf]; simp
  have h3 : ¬ J.g = 1099511627776 := by omega
  have e : ((1 : Int) - J.h) = ((1 - J.h : Nat) : Int) := by omega
  have hrf : refI (cutS S 0) ((1 - J.h : Nat) : Int) = 0 := ref_in (S := cutS S 0) h.dn (by show 1 - J.h < S.bl.length; omega)
  have hw : savW J (cutS S 0) n = 80 ∧ writeS (cutS S 0) ((1 : Int) - J.h) (savB J n) = offS (cutS S 0) := by
    have hln : ¬ 1024 < (savB J n).length := by have := h.len hr (J.g + 1); show ¬ 1024 < (bytN (J.g + 1) n).length; omega
    unfold savW writeI writeS
    have h0 : (cutS S 0).left = 0 := rfl
    rw [e, if_neg (by rw [hrf]; simp), if_neg hln, if_pos h0, if_neg (by rw [hrf]; simp), if_neg hln, if_pos h0]
    exact ⟨rfl, rfl⟩
  refine ⟨?_, ?_, ?_⟩
  · unfold savI; rw [if_neg hn, if_neg h1, if_neg h2, if_neg h3, hw.1]
  · unfold savJ; rw [if_neg hn, if_neg h1, if_neg h2, if_neg h3, if_neg (by rw [hw.1]; decide), hw.1]; rfl
  · unfold savS; rw [if_neg hn, if_neg h1, if_neg h2, if_neg h3, hw.2]
    obtain ⟨bl, dn, lf, rd, wr⟩ := S
    have e1 : dn = false := h.dn
    have e2 : lf = -1 := h.lf
    subst e1 e2
    rfl
theorem over_save (J : Jn) (S : Dk) (q : Int) (n : Nt) : savI { J with o := true } S q n = 80 ∧ savJ { J with o := true } S q n = { J with o := true } ∧ savS { J with o := true } S q n = S := by
  unfold savI savJ savS
  rw [if_pos (.inl rfl), if_pos (.inl rfl), if_pos (.inl rfl)]
  exact ⟨rfl, rfl, rfl⟩
theorem Gd.rd (h : Gd q J S) (k : Nat) : Gd q J (rdK S k) := by
  obtain ⟨h1, h2, h3, h4, h5⟩ := rdK_same S k
  exact ⟨h2.trans h.dn, h3.trans h.lf, by rw [h1]; exact h.l2, by rw [h1]; exact h.me, by rw [h1]; exact h.ot, by rw [h1]; exact h.oq, h.no, h.ok⟩
theorem Gd.readL (h : Gd q J S) {k : Nat} (hk : k < 2) : readL S k = bk S.bl k := (read_in h.dn (by rw [h.l2]; exact hk)).2.1
theorem Gd.found (h : Gd q J S) : opK q S 2 = some (J.h, J.g, J.n) := by
  have hh := h.ok.h1
  have hm : takE q (bytN J.g J.n) = some (J.g, J.n) := takE_of h.ok.g1 h.ok.g2 h.ok.r h.ok.q4
  have r0 := h.readL (k := 0) (by omega)
  have r1 := h.readL (k := 1) (by omega)
  have hc : J.h = 0 ∨ J.h = 1 := by omega
  have hme := h.me
  have hot := h.ot
  rcases hc with e | e
  · rw [e] at hme hot ⊢
    have t0 : takE q (Go.Proofs.Ytnnammlipfappaa.readL S ((0 : Nat) : Int)) = some (J.g, J.n) := by rw [r0, hme]; exact hm
    have s1 : opK q S 1 = some (0, J.g, J.n) := opK_first t0 rfl
    cases ht : takE q (bk S.bl 1) with
    | none => rw [opK_none (k := 1) (by rw [r1]; exact ht)]; exact s1
    | some x =>
      obtain ⟨g, m⟩ := x
      have hlt := hot g m ht
      rw [opK_more (k := 1) (by rw [r1]; exact ht) s1, if_neg (by show ¬ J.g < g; omega)]
  · rw [e] at hme hot ⊢
    have t1 : takE q (Go.Proofs.Ytnnammlipfappaa.readL S ((1 : Nat) : Int)) = some (J.g, J.n) := by rw [r1, hme]; exact hm
    cases ht : takE q (bk S.bl 0) with
    | none =>
      have s1 : opK q S 1 = none := (opK_none (k := 0) (by rw [r0]; exact ht)).trans rfl
      exact opK_first t1 s1
    | some x =>
      obtain ⟨g, m⟩ := x
      have hlt := hot g m ht
      have s1 : opK q S 1 = some (0, g, m) := opK_first (by rw [r0]; exact ht) rfl
      rw [opK_more t1 s1, if_pos (by show g < J.g; omega)]
theorem Gd.q1 (_h : Gd q J S) (hq : 1 ≤ q) (hq4 : q ≤ 4) : refJ q = 0 := if_neg (by omega)
theorem Gd.opn (h : Gd q J S) (hq : 1 ≤ q) : opnI S q = 0 ∧ opnS S q = rdK S 2 := by
  unfold opnI opnS
  rw [if_neg (by rw [h.q1 hq h.ok.q4]; simp), if_neg (by rw [h.dn]; simp), if_neg (by rw [h.found]; simp), if_neg (by rw [h.q1 hq h.ok.q4]; simp), if_neg (by rw [h.dn]; simp)]
  exact ⟨rfl, rfl⟩
theorem Gd.other (h : Gd q J S) {k : Int} (hk1 : 1 ≤ k) (hk4 : k ≤ 4) (hne : k ≠ q) : opnI S k = 180 ∧ opnS S k = rdK S 2 := by
  have hh := h.ok.h1
  have hm : takE k (bytN J.g J.n) = none := takE_other h.ok.g2 h.ok.r h.ok.q4 hk4 hne
  have ho := h.oq k hk4 hne
  have r0 := h.readL (k := 0) (by omega)
  have r1 := h.readL (k := 1) (by omega)
  have hme := h.me
  have hn : opK k S 2 = none := by
    have hc : J.h = 0 ∨ J.h = 1 := by omega
    have hb : takE k (bk S.bl 0) = none ∧ takE k (bk S.bl 1) = none := by
      rcases hc with e | e
      · rw [e] at hme ho; exact ⟨by rw [hme]; exact hm, ho⟩
      · rw [e] at hme ho; exact ⟨ho, by rw [hme]; exact hm⟩
    rw [opK_none (k := 1) (by rw [r1]; exact hb.2), opK_none (k := 0) (by rw [r0]; exact hb.1)]
    rfl
  unfold opnI opnS
  rw [if_neg (by rw [show refJ k = 0 from if_neg (by omega)]; simp), if_neg (by rw [h.dn]; simp), if_pos hn, if_neg (by rw [show refJ k = 0 from if_neg (by omega)]; simp), if_neg (by rw [h.dn]; simp)]
  exact ⟨rfl, rfl⟩
end

/-- A new journal. -/
theorem gd_new {q : Nat} (h1 : 1 ≤ q) (h4 : q ≤ 4) : fmtI (loadS (List.replicate 2 [])) q = 0 ∧ (fmtS (loadS (List.replicate 2 [])) q).wr = 2 ∧ (fmtS (loadS (List.replicate 2 [])) q).rd = 0 ∧ Gd q ⟨1, n0 q, 0, false⟩ (fmtS (loadS (List.replicate 2 [])) q) := by
  have hr : ¬ refJ (q : Int) ≠ 0 := by rw [show refJ (q : Int) = 0 from if_neg (by omega)]; simp
  have hl : ¬ (loadS (List.replicate 2 ([] : List Nat))).bl.length < 2 := by decide
  have e1 : writeI (loadS (List.replicate 2 [])) 1 [] = 0 ∧ writeS (loadS (List.replicate 2 [])) 1 [] = ⟨[[], []], false, -1, 0, 1⟩ := ⟨rfl, rfl⟩
  have hlen : (bytN 1 (n0 q)).length ≤ 1024 := by
    have := bytN_len (g := 1) (n := n0 q) (by show (zeros q).length ≤ 4; rw [zeros_len]; exact h4) (by show (zeros q).length ≤ 4; rw [zeros_len]; exact h4)
    omega
  have e2 := write_in (S := ⟨[[], []], false, -1, 0, 1⟩) (k := 0) (b := bytN 1 (n0 q)) rfl (by decide) (by decide) hlen
  have hI : fmtI (loadS (List.replicate 2 [])) q = 0 := by
    unfold fmtI; rw [if_neg hr, if_neg hl, if_neg (by rw [e1.1]; simp), e1.2]; exact e2.1
  have hS : fmtS (loadS (List.replicate 2 [])) q = ⟨[bytN 1 (n0 q), []], false, -1, 0, 2⟩ := by
    unfold fmtS; rw [if_neg hr, if_neg hl, if_neg (by rw [e1.1]; simp), e1.2]; exact e2.2
  refine ⟨hI, by rw [hS], by rw [hS], ?_⟩
  rw [hS]
  exact ⟨rfl, rfl, rfl, rfl, fun g n h => by rw [show takE (q : Int) (bk [bytN 1 (n0 q), []] (1 - 0)) = none from takE_nil _] at h; exact absurd h (by simp), fun k _ _ => takE_nil _, rfl, ⟨Nat.le_refl _, by show (1 : Nat) ≤ _; omega, n0_rgt, by omega, by show (0 : Nat) ≤ _; omega⟩⟩
end Go.Proofs.Ytnnammlipfappaa


