/- A coordinator whose journal's disk has it: what its calls make of it; msgs of the statements. -/
import Derived.Test.YtpndafieknddcaaCr
namespace Go.Proofs.Ytpndafieknddcaa

open Ieee Go.RowKit

theorem fol_att {n : Nt} {k : Int} (h : n.a ≤ k) : folB { n with a := k } n = true := by
  unfold folB
  simp [h]
theorem rgt_att {n : Nt} {q k : Int} (h : Rgt n q) (h0 : 0 ≤ k) (h1 : k ≤ 1099511627776) : Rgt { n with a := k } q := ⟨h0, h1, h.b1, h.lp, h.lc, h.r, h.f⟩
theorem beg_gd {c : Cs} (h : Gd c.p.P c.J c.S) (ha : c.J.n.a < 1099511627776) (hg : c.J.g < 1099511627776) : begI c = 0 ∧ Gd c.p.P (savJ c.J c.S c.p.P (begN c)) (savS c.J c.S c.p.P (begN c)) ∧ savJ c.J c.S c.p.P (begN c) = ⟨c.J.g + 1, begN c, 1 - c.J.h, false⟩ ∧ (savS c.J c.S c.p.P (begN c)).wr = c.S.wr + 1 ∧ (savS c.J c.S c.p.P (begN c)).rd = c.S.rd := by
  have hr : Rgt (begN c) c.p.P := rgt_att h.ok.r (by have := h.ok.r.a0; omega) (by omega)
  have hf : folB (begN c) c.J.n = true := fol_att (by omega)
  obtain ⟨h1, h2, h3⟩ := h.save hr hf hg
  refine ⟨h1, ?_, h2, by rw [h3]; rfl, by rw [h3]; rfl⟩
  rw [h2, h3]
  exact h.next hr hg
theorem cmt_gd {c : Cs} {y : Yt} {t : List Yt} (h : Gd c.p.P c.J c.S) (hL : c.L = y :: t) (hy : y.ok) (hf : Fwd c.J.n.c y.e) (hb : c.J.n.b < 1099511627776) (hg : c.J.g < 1099511627776) : cmtE c = 0 ∧ Gd c.p.P (savJ c.J c.S c.p.P (cmtN c)) (savS c.J c.S c.p.P (cmtN c)) ∧ savJ c.J c.S c.p.P (cmtN c) = ⟨c.J.g + 1, ⟨c.J.n.b + 1, c.J.n.c, y.e, c.J.n.a⟩, 1 - c.J.h, false⟩ ∧ (savS c.J c.S c.p.P (cmtN c)).wr = c.S.wr + 1 ∧ (savS c.J c.S c.p.P (cmtN c)).rd = c.S.rd := by
  have hr0 := h.ok.r
  have hI : stepI c.J.n.tp y.e = 0 := by
    unfold stepI
    rw [if_pos (step_yes hr0.r hf), if_neg (by show ¬ 1099511627776 ≤ c.J.n.b; omega)]
  have hT : cmtT c = ⟨c.J.n.b + 1, c.J.n.c, y.e⟩ := by
    unfold cmtT
    rw [hL]
    show stepT c.J.n.tp y.e = _
    unfold stepT
    rw [if_pos hI]; rfl
  have hN : cmtN c = ⟨c.J.n.b + 1, c.J.n.c, y.e, c.J.n.a⟩ := by unfold cmtN; rw [hT]
  have hr : Rgt ⟨c.J.n.b + 1, c.J.n.c, y.e, c.J.n.a⟩ c.p.P := by
    refine ⟨hr0.a0, hr0.a1, by show c.J.n.b + 1 ≤ _; omega, hr0.lc, by show (y.e.length : Int) = _; rw [← hf.1]; exact hr0.lc, ⟨by show 0 ≤ c.J.n.b + 1; have := hr0.b0; omega, hf, fun i hi => ⟨hr0.c0 (by rw [hf.1]; exact hi), fun e => ?_⟩⟩, fun i hi => (nth_of hy.em hi).2⟩
    exfalso
    have h0 := hr0.b0
    have e' : c.J.n.b + 1 = 0 := e
    omega
  have hfo : folB ⟨c.J.n.b + 1, c.J.n.c, y.e, c.J.n.a⟩ c.J.n = true := by
    unfold folB
    rw [if_neg (by show ¬ c.J.n.b + 1 = c.J.n.b; omega)]
    simp
  obtain ⟨h1, h2, h3⟩ := h.save hr hfo hg
  unfold cmtE
  rw [hN]
  refine ⟨h1, ?_, h2, by rw [h3]; rfl, by rw [h3]; rfl⟩
  rw [h2, h3]
  exact h.next hr hg
theorem gd_end {c : Cs} (h : Gd c.p.P c.J c.S) (ho : c.o = false) : c.endB = false := by
  unfold Cs.endB; rw [ho, h.no, h.dn]; rfl
section

variable {wz w w' w2 : World} {A E C : Nat → Prop} {sb cb jb : Nat} {c : Cs} {p : Pn} {q : Int} {J : Jn} {S : Dk} {ga gb : Nat} {ea eb : Value} {m : Ms}

set_option maxRecDepth 100000 in
set_option maxHeartbeats 2000000 in
theorem msgs1_walk (ha : w.heap[ga]? = some (.cells #[.int .i64 m.K, .int .i64 m.F, .int .i64 m.T, .int .i64 m.B, .int .i64 m.A, .int .i64 m.C, ea, .slice none 0 0, .slice none 0 0] 41 (0, 0))) (hb : w.heap[gb]? = some (.cells #[.int .i64 m.K, .int .i64 m.F, .int .i64 m.T, .int .i64 m.B, .int .i64 m.A, .int .i64 m.C, eb, .slice none 0 0, .slice none 0 0] 41 (0, 0))) (hea : Nv w ea m.E) (heb : Nv w eb m.E) :
    Calls Try.prog 16 #[.slice (some ⟨ga, 0, none⟩) 1 1, .slice (some ⟨gb, 0, none⟩) 1 1] w fun e w' => e = .returned (.bool true) ∧ Below w.heap.size w w' := by
  have HA : Hid (w.heap[ga]? = some (.cells #[.int .i64 m.K, .int .i64 m.F, .int .i64 m.T, .int .i64 m.B, .int .i64 m.A, .int .i64 m.C, ea, .slice none 0 0, .slice none 0 0] 41 (0, 0))) := ha
  have HB : Hid (w.heap[gb]? = some (.cells #[.int .i64 m.K, .int .i64 m.F, .int .i64 m.T, .int .i64 m.B, .int .i64 m.A, .int .i64 m.C, eb, .slice none 0 0, .slice none 0 0] 41 (0, 0))) := hb
  have HEA : Hid (Nv w ea m.E) := hea
  have HEB : Hid (Nv w eb m.E) := heb
  obtain ⟨aa, ac, rfl, _⟩ := hea.form
  obtain ⟨ba, bc, rfl, _⟩ := heb.form
  clear ha hb hea heb
  go_enter Try.func16, Try.ntmps16
  go_wp2_with fail
  go_loopw [5] (fun iv wr => ∃ k : Nat, k ≤ 1 ∧ iv = .int .i64 k ∧ Below w.heap.size w wr) (fun iv _ => 1 - (intOf iv).toNat)
  case atStart => exact ⟨0, Nat.zero_le _, rfl, below_same _⟩
  case round =>
    obtain ⟨k, hk, rfl, hB⟩ := hrel
    have HW : Hid (Below w.heap.size w wr) := hB
    by_cases hlt : k = 0
    · subst hlt
      have ha := blk_below HA.out hB
      have hb := blk_below HB.out hB
      have ac0 : wr.cell? ⟨ga, 0, none⟩ = some (.int .i64 m.K) := by rw [blk_cell ha]; rfl
      have ac1 : wr.cell? ⟨ga, 1, none⟩ = some (.int .i64 m.F) := by rw [blk_cell ha]; rfl
      have ac2 : wr.cell? ⟨ga, 2, none⟩ = some (.int .i64 m.T) := by rw [blk_cell ha]; rfl
      have ac3 : wr.cell? ⟨ga, 3, none⟩ = some (.int .i64 m.B) := by rw [blk_cell ha]; rfl
      have ac4 : wr.cell? ⟨ga, 4, none⟩ = some (.int .i64 m.A) := by rw [blk_cell ha]; rfl
      have ac5 : wr.cell? ⟨ga, 5, none⟩ = some (.int .i64 m.C) := by rw [blk_cell ha]; rfl
      have ac6 : wr.cell? ⟨ga, 6, none⟩ = some (.slice aa m.E.length ac) := by rw [blk_cell ha]; rfl
      have ac7 : wr.cell? ⟨ga, 7, none⟩ = some (.slice none 0 0) := by rw [blk_cell ha]; rfl
      have ac8 : wr.cell? ⟨ga, 8, none⟩ = some (.slice none 0 0) := by rw [blk_cell ha]; rfl
      have bc0 : wr.cell? ⟨gb, 0, none⟩ = some (.int .i64 m.K) := by rw [blk_cell hb]; rfl
      have bc1 : wr.cell? ⟨gb, 1, none⟩ = some (.int .i64 m.F) := by rw [blk_cell hb]; rfl
      have bc2 : wr.cell? ⟨gb, 2, none⟩ = some (.int .i64 m.T) := by rw [blk_cell hb]; rfl
      have bc3 : wr.cell? ⟨gb, 3, none⟩ = some (.int .i64 m.B) := by rw [blk_cell hb]; rfl
      have bc4 : wr.cell? ⟨gb, 4, none⟩ = some (.int .i64 m.A) := by rw [blk_cell hb]; rfl
      have bc5 : wr.cell? ⟨gb, 5, none⟩ = some (.int .i64 m.C) := by rw [blk_cell hb]; rfl
      have bc6 : wr.cell? ⟨gb, 6, none⟩ = some (.slice ba m.E.length bc) := by rw [blk_cell hb]; rfl
      have bc7 : wr.cell? ⟨gb, 7, none⟩ = some (.slice none 0 0) := by rw [blk_cell hb]; rfl
      have bc8 : wr.cell? ⟨gb, 8, none⟩ = some (.slice none 0 0) := by rw [blk_cell hb]; rfl
      obtain ⟨w2, hw2⟩ : ∃ w2, w2 = (wr.alloc (Obj.cells #[.int .i64 m.K, .int .i64 m.F, .int .i64 m.T, .int .i64 m.B, .int .i64 m.A, .int .i64 m.C, .slice aa m.E.length ac, .slice none 0 0, .slice none 0 0] 41)).alloc (Obj.cells #[.int .i64 m.K, .int .i64 m.F, .int .i64 m.T, .int .i64 m.B, .int .i64 m.A, .int .i64 m.C, .slice ba m.E.length bc, .slice none 0 0, .slice none 0 0] 41) := ⟨_, rfl⟩
      have HW2 : Hid (w2 = (wr.alloc (Obj.cells #[.int .i64 m.K, .int .i64 m.F, .int .i64 m.T, .int .i64 m.B, .int .i64 m.A, .int .i64 m.C, .slice aa m.E.length ac, .slice none 0 0, .slice none 0 0] 41)).alloc (Obj.cells #[.int .i64 m.K, .int .i64 m.F, .int .i64 m.T, .int .i64 m.B, .int .i64 m.A, .int .i64 m.C, .slice ba m.E.length bc, .slice none 0 0, .slice none 0 0] 41)) := hw2
      have HB2 : Hid (Below w.heap.size w w2) := by show Below _ _ _; rw [hw2]; exact hB.trans ((below_trans (below_alloc _ _) (below_alloc _ _)).mono hB.size)
      have hgal : ga < wr.heap.size := blk_lt ha
      have hgan : ¬ ga = wr.heap.size := by omega
      have hgbl : gb < wr.heap.size := blk_lt hb
      have hgbn : ¬ gb = wr.heap.size := by omega
      have h2a : w2.heap[wr.heap.size]? = some (.cells #[.int .i64 m.K, .int .i64 m.F, .int .i64 m.T, .int .i64 m.B, .int .i64 m.A, .int .i64 m.C, .slice aa m.E.length ac, .slice none 0 0, .slice none 0 0] 41 (0, 0)) := by rw [hw2]; exact alloc_old (alloc_at rfl)
      have h2b : w2.heap[wr.heap.size + 1]? = some (.cells #[.int .i64 m.K, .int .i64 m.F, .int .i64 m.T, .int .i64 m.B, .int .i64 m.A, .int .i64 m.C, .slice ba m.E.length bc, .slice none 0 0, .slice none 0 0] 41 (0, 0)) := by rw [hw2]; exact alloc_at (by simp)
      have ad0 : w2.cell? ⟨wr.heap.size, 0, none⟩ = some (.int .i64 m.K) := by rw [blk_cell h2a]; rfl
      have ad1 : w2.cell? ⟨wr.heap.size, 1, none⟩ = some (.int .i64 m.F) := by rw [blk_cell h2a]; rfl
      have ad2 : w2.cell? ⟨wr.heap.size, 2, none⟩ = some (.int .i64 m.T) := by rw [blk_cell h2a]; rfl
      have ad3 : w2.cell? ⟨wr.heap.size, 3, none⟩ = some (.int .i64 m.B) := by rw [blk_cell h2a]; rfl
      have ad4 : w2.cell? ⟨wr.heap.size, 4, none⟩ = some (.int .i64 m.A) := by rw [blk_cell h2a]; rfl
      have ad5 : w2.cell? ⟨wr.heap.size, 5, none⟩ = some (.int .i64 m.C) := by rw [blk_cell h2a]; rfl
      have ad6 : w2.cell? ⟨wr.heap.size, 6, none⟩ = some (.slice aa m.E.length ac) := by rw [blk_cell h2a]; rfl
      have ad7 : w2.cell? ⟨wr.heap.size, 7, none⟩ = some (.slice none 0 0) := by rw [blk_cell h2a]; rfl
      have ad8 : w2.cell? ⟨wr.heap.size, 8, none⟩ = some (.slice none 0 0) := by rw [blk_cell h2a]; rfl
      have bd0 : w2.cell? ⟨wr.heap.size + 1, 0, none⟩ = some (.int .i64 m.K) := by rw [blk_cell h2b]; rfl
      have bd1 : w2.cell? ⟨wr.heap.size + 1, 1, none⟩ = some (.int .i64 m.F) := by rw [blk_cell h2b]; rfl
      have bd2 : w2.cell? ⟨wr.heap.size + 1, 2, none⟩ = some (.int .i64 m.T) := by rw [blk_cell h2b]; rfl
      have bd3 : w2.cell? ⟨wr.heap.size + 1, 3, none⟩ = some (.int .i64 m.B) := by rw [blk_cell h2b]; rfl
      have bd4 : w2.cell? ⟨wr.heap.size + 1, 4, none⟩ = some (.int .i64 m.A) := by rw [blk_cell h2b]; rfl
      have bd5 : w2.cell? ⟨wr.heap.size + 1, 5, none⟩ = some (.int .i64 m.C) := by rw [blk_cell h2b]; rfl
      have bd6 : w2.cell? ⟨wr.heap.size + 1, 6, none⟩ = some (.slice ba m.E.length bc) := by rw [blk_cell h2b]; rfl
      have bd7 : w2.cell? ⟨wr.heap.size + 1, 7, none⟩ = some (.slice none 0 0) := by rw [blk_cell h2b]; rfl
      have bd8 : w2.cell? ⟨wr.heap.size + 1, 8, none⟩ = some (.slice none 0 0) := by rw [blk_cell h2b]; rfl
      have H2A : Hid (w2.heap[wr.heap.size]? = some (.cells #[.int .i64 m.K, .int .i64 m.F, .int .i64 m.T, .int .i64 m.B, .int .i64 m.A, .int .i64 m.C, .slice aa m.E.length ac, .slice none 0 0, .slice none 0 0] 41 (0, 0))) := h2a
      clear ha hb hB hw2 h2a h2b
      go_upto_region 8 with fail
      rw [← HW2.out]
      go_wp2_with fail
      refine (ints19_walk (HEA.out.below HB2.out) (HEB.out.below HB2.out)).mono ?_
      rw [decide_eq_true rfl]
      rintro e w3 ⟨rfl, hB3⟩
      have HB3 : Hid (Below w.heap.size w w3) := HB2.out.trans (hB3.mono HB2.out.size)
      have h3a := blk_below H2A.out hB3
      have g7 : w3.cell? ⟨wr.heap.size, 7, none⟩ = some (.slice none 0 0) := by rw [blk_cell h3a]; rfl
      have g8 : w3.cell? ⟨wr.heap.size, 8, none⟩ = some (.slice none 0 0) := by rw [blk_cell h3a]; rfl
      clear hB3 h3a
      go_wp2_with fail
      go_roundw
      case rel => exact ⟨1, Nat.le_refl _, rfl, HB3.out⟩
      case measure => simp [intOf]
    · have hk1 : k = 1 := by omega
      subst hk1
      go_wp2_with fail
      go_ret
      exact ⟨rfl, HW.out⟩
end

end Go.Proofs.Ytpndafieknddcaa
