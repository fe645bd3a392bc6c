/- An attempt of which nothing is heard: the mathematics; notes of the statements. -/
import Derived.Test.YtpndafieknddcaaM38
namespace Go.Proofs.Ytpndafieknddcaa

open Ieee Go.RowKit

def yN (p : Pn) (n : Nt) : Yt := ⟨n.b + 1, n.a + 1, (p0 p).worker (n.a + 1), 1, 0, n.c, []⟩
def yT (y : Yt) (t : Int) : Yt := { y with t := t }
section

variable {p : Pn} {J : Jn} {S : Dk} {y : Yt} {m : Ms}

theorem beg_at (hg : Gd p.P J S) (ha : J.n.a < 1099511627776) (hgn : J.g < 1099511627776) : ∃ J' S', begC ⟨p0 p, J, S, [], false⟩ = ⟨p0 p, J', S', [yN p J.n], false⟩ ∧ begM ⟨p0 p, J, S, [], false⟩ = some (abtM 1 (yN p J.n) J.n.c) ∧ begE ⟨p0 p, J, S, [], false⟩ = 0 ∧ Gd p.P J' S' ∧ J'.n = { J.n with a := J.n.a + 1 } ∧ J'.g = J.g + 1 ∧ S'.wr = S.wr + 1 := by
  obtain ⟨b1, b2, b3, b4, _⟩ := beg_gd (c := ⟨p0 p, J, S, [], false⟩) hg ha hgn
  have hy : newY ⟨p0 p, J, S, [], false⟩ = yN p J.n := by
    unfold newY yN
    show (⟨J.n.b + ((0 : Nat) : Int) + 1, _, _, _, _, _, _⟩ : Yt) = _
    congr 1
    omega
  refine ⟨_, _, ?_, ?_, ?_, b2, ?_, ?_, b4⟩
  · unfold begC; rw [if_pos b1, hy]; rfl
  · unfold begM; rw [if_pos b1, hy]; rfl
  · unfold begE; rw [if_pos b1]
  · rw [b3]; rfl
  · rw [b3]
theorem tick_new (hp : p.is = true) (hg : Gd p.P J S) (ha : J.n.a < 1099511627776) (hgn : J.g < 1099511627776) : ∃ J' S', tikC ⟨p0 p, J, S, [], false⟩ = ⟨p0 p, J', S', [yN p J.n], false⟩ ∧ tikM ⟨p0 p, J, S, [], false⟩ = some (abtM 1 (yN p J.n) J.n.c) ∧ tikE ⟨p0 p, J, S, [], false⟩ = 0 ∧ Gd p.P J' S' ∧ J'.n = { J.n with a := J.n.a + 1 } ∧ J'.g = J.g + 1 ∧ S'.wr = S.wr + 1 := by
  obtain ⟨J', S', h1, h2, h3, h4⟩ := beg_at (p := p) hg ha hgn
  obtain ⟨_, _, _, _, _, ⟨hN1, _⟩, _⟩ := Pn.is_num hp
  have he : ¬ (⟨p0 p, J, S, [], false⟩ : Cs).endB = true := by rw [gd_end (c := ⟨p0 p, J, S, [], false⟩) hg rfl]; simp
  have ht : tik1 ⟨p0 p, J, S, [], false⟩ = ⟨p0 p, J, S, [], false⟩ := rfl
  have hm : mayB ⟨p0 p, J, S, [], false⟩ = true := by
    unfold mayB
    rw [decide_eq_true (show (((⟨p0 p, J, S, [], false⟩ : Cs).L.length : Nat) : Int) < (p0 p).N by show ((0 : Nat) : Int) < p.N; omega)]; rfl
  refine ⟨J', S', ?_, ?_, ?_, h4⟩
  · unfold tikC; rw [if_neg he, ht, if_pos hm, h1]
  · unfold tikM; rw [if_neg he, ht, if_pos hm, h2]
  · unfold tikE; rw [if_neg he, ht, if_pos hm, h3]
theorem age_one (hh : y.h = 1) (n : Int) : [yT y n].map ageY = [yT y (n + 1)] := by
  have : inPh [1, 3] (yT y n) = true := by unfold inPh; rw [show (yT y n).h = 1 from hh]; rfl
  simp only [List.map_cons, List.map_nil]
  unfold ageY
  rw [if_pos this]; rfl
theorem tick_idle (hg : Gd p.P J S) (hh : y.h = 1) {n : Int} (hn : n + 1 < p.G) : tikC ⟨p0 p, J, S, [yT y n], false⟩ = ⟨p0 p, J, S, [yT y (n + 1)], false⟩ ∧ tikM ⟨p0 p, J, S, [yT y n], false⟩ = none ∧ tikE ⟨p0 p, J, S, [yT y n], false⟩ = 0 := by
  have he : ¬ (⟨p0 p, J, S, [yT y n], false⟩ : Cs).endB = true := by rw [gd_end (c := ⟨p0 p, J, S, [yT y n], false⟩) hg rfl]; simp
  have ht : tik1 ⟨p0 p, J, S, [yT y n], false⟩ = ⟨p0 p, J, S, [yT y (n + 1)], false⟩ := by
    have ho : overD p.G (yT y (n + 1)) = false := decide_eq_false (by show ¬ p.G ≤ n + 1; omega)
    have hc : cutO p.G [yT y (n + 1)] = [yT y (n + 1)] := by
      have hi : idxY (overD p.G) [yT y (n + 1)] 0 = -1 := by rw [idxY, if_neg (by rw [ho]; simp)]; rfl
      unfold cutO
      rw [hi, if_pos (by decide)]
    unfold tik1
    show (⟨p0 p, J, S, cutO p.G ([yT y n].map ageY), false⟩ : Cs) = _
    rw [age_one hh, hc]
  have hm : ¬ mayB ⟨p0 p, J, S, [yT y (n + 1)], false⟩ = true := by
    unfold mayB
    rw [show ((([yT y (n + 1)] : List Yt).getLast?.map Yt.h).getD 0) = 1 from hh]
    simp
  refine ⟨?_, ?_, ?_⟩
  · unfold tikC; rw [if_neg he, ht, if_neg hm]
  · unfold tikM; rw [if_neg he, ht, if_neg hm]
  · unfold tikE; rw [if_neg he, ht, if_neg hm]
theorem tick_last (hp : p.is = true) (hg : Gd p.P J S) (hh : y.h = 1) {n : Int} (hn : n + 1 = p.G) (ha : J.n.a < 1099511627776) (hgn : J.g < 1099511627776) : ∃ J' S', tikC ⟨p0 p, J, S, [yT y n], false⟩ = ⟨p0 p, J', S', [yN p J.n], false⟩ ∧ tikM ⟨p0 p, J, S, [yT y n], false⟩ = some (abtM 1 (yN p J.n) J.n.c) ∧ tikE ⟨p0 p, J, S, [yT y n], false⟩ = 0 ∧ Gd p.P J' S' ∧ J'.n = { J.n with a := J.n.a + 1 } ∧ J'.g = J.g + 1 ∧ S'.wr = S.wr + 1 := by
  obtain ⟨J', S', h1, h2, h3, h4⟩ := beg_at (p := p) hg ha hgn
  obtain ⟨_, _, _, _, _, ⟨hN1, _⟩, _⟩ := Pn.is_num hp
  have he : ¬ (⟨p0 p, J, S, [yT y n], false⟩ : Cs).endB = true := by rw [gd_end (c := ⟨p0 p, J, S, [yT y n], false⟩) hg rfl]; simp
  have ht : tik1 ⟨p0 p, J, S, [yT y n], false⟩ = ⟨p0 p, J, S, [], false⟩ := by
    have ho : overD p.G (yT y (n + 1)) = true := decide_eq_true (by show p.G ≤ n + 1; omega)
    have hc : cutO p.G [yT y (n + 1)] = [] := by
      unfold cutO
      rw [idxY_head ho, if_neg (by decide)]; rfl
    unfold tik1
    show (⟨p0 p, J, S, cutO p.G ([yT y n].map ageY), false⟩ : Cs) = _
    rw [age_one hh, hc]
  have hm : mayB ⟨p0 p, J, S, [], false⟩ = true := by
    unfold mayB
    rw [decide_eq_true (show (((⟨p0 p, J, S, [], false⟩ : Cs).L.length : Nat) : Int) < (p0 p).N by show ((0 : Nat) : Int) < p.N; omega)]; rfl
  refine ⟨J', S', ?_, ?_, ?_, h4⟩
  · unfold tikC; rw [if_neg he, ht, if_pos hm, h1]
  · unfold tikM; rw [if_neg he, ht, if_pos hm, h2]
  · unfold tikE; rw [if_neg he, ht, if_pos hm, h3]
theorem take_old (hg : Gd p.P J S) (hm : Mok m) (ha : y.a ≠ m.A) : taC ⟨p0 p, J, S, [y], false⟩ m = ⟨p0 p, J, S, [y], false⟩ ∧ taM ⟨p0 p, J, S, [y], false⟩ m = none ∧ taE ⟨p0 p, J, S, [y], false⟩ m = 0 := by
  have hs : saidB m.B m.A m.F y = false := by unfold saidB; simp [ha]
  rcases hm.k with k | k
  · obtain ⟨t1, t2, t3⟩ := ta_rd (c := ⟨p0 p, J, S, [y], false⟩) hg rfl hm.s hm.t k
    obtain ⟨r1, r2⟩ := rd_no (c := ⟨p0 p, J, S, [y], false⟩) (m := m) rfl (by rw [rdyF_eq, hs]; rfl)
    rw [t1, t2, t3, r1, r2]
    exact ⟨rfl, rfl, rfl⟩
  · obtain ⟨t1, t2, t3⟩ := ta_cm (c := ⟨p0 p, J, S, [y], false⟩) hg rfl hm.s hm.t k
    obtain ⟨r1, r2, r3⟩ := cm_no (c := ⟨p0 p, J, S, [y], false⟩) (m := m) rfl (by rw [cmtF_eq, hs]; rfl)
    rw [t1, t2, t3, r1, r2, r3]
    exact ⟨rfl, rfl, rfl⟩
end

/-- A try of before, in block TB, all of it in blocks of Q. -/
structure Ot (Q : Nat → Prop) (TB : Nat) (x : Ye) (w : World) : Prop where
  tb : w.heap[TB]? = some (.cells #[.int .i64 x.y.b, .int .i64 x.y.a, .int .i64 x.y.n, .int .i64 x.y.h, .int .i64 x.y.t, x.fv, x.ev] 43 (0, 0))
  q : Q TB
  f : OwN 0 w x.fv x.y.f
  e : OwN 0 w x.ev x.y.e
  kf : ∀ b, x.fv.ownBlock = some b → Q b
  ke : ∀ b, x.ev.ownBlock = some b → Q b
theorem Ot.keep {Q : Nat → Prop} {TB : Nat} {x : Ye} {w w' : World} (h : Ot Q TB x w) (hk : ∀ b, Q b → w'.heap[b]? = w.heap[b]?) : Ot Q TB x w' :=
  ⟨by rw [hk _ h.q]; exact h.tb, h.q, row_keep h.f fun b hb => hk b (h.kf b hb), row_keep h.e fun b hb => hk b (h.ke b hb), h.kf, h.ke⟩
theorem Ot.mono {Q Q' : Nat → Prop} {TB : Nat} {x : Ye} {w : World} (h : Ot Q TB x w) (hk : ∀ b, Q b → Q' b) : Ot Q' TB x w := ⟨h.tb, hk _ h.q, h.f, h.e, fun b hb => hk b (h.kf b hb), fun b hb => hk b (h.ke b hb)⟩
theorem Ot.yl {Q : Nat → Prop} {TB : Nat} {x : Ye} {w : World} (h : Ot Q TB x w) (hy : x.y.ok) : Yl w x := ⟨own_nv h.f (in64_of hy.fm), own_nv h.e (in64_of hy.em), fun _ hi => (nth_of hy.fm hi).1, fun _ hi => (nth_of hy.em hi).1⟩
/-- A row of one try, all of it in blocks of Q. -/
structure Rt (Q : Nat → Prop) (v : Value) (x : Ye) (w : World) : Prop where
  row : w.ownsRow 0 43 7 v 1 (flatY [x])
  kr : ∀ b, v.ownBlock = some b → Q b
  f : OwN 0 w x.fv x.y.f
  e : OwN 0 w x.ev x.y.e
  kf : ∀ b, x.fv.ownBlock = some b → Q b
  ke : ∀ b, x.ev.ownBlock = some b → Q b
theorem Rt.keep {Q : Nat → Prop} {v : Value} {x : Ye} {w w' : World} (h : Rt Q v x w) (hk : ∀ b, Q b → w'.heap[b]? = w.heap[b]?) : Rt Q v x w' :=
  ⟨row_keep h.row fun b hb => hk b (h.kr b hb), h.kr, row_keep h.f fun b hb => hk b (h.kf b hb), row_keep h.e fun b hb => hk b (h.ke b hb), h.kf, h.ke⟩
theorem Rt.yr {Q : Nat → Prop} {v : Value} {x : Ye} {w : World} (h : Rt Q v x w) (hy : x.y.ok) : Yr w v [x] := ⟨h.row, fun z hz => by rw [List.mem_singleton] at hz; rw [hz]; exact ⟨own_nv h.f (in64_of hy.fm), own_nv h.e (in64_of hy.em), fun _ hi => (nth_of hy.fm hi).1, fun _ hi => (nth_of hy.em hi).1⟩⟩
section

variable {w : World} {n : Nt} {p1 p2 c1 c2 : Value}

end

end Go.Proofs.Ytpndafieknddcaa
