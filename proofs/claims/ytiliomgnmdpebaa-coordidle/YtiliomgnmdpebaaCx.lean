/- CoordIdle. -/
import Derived.Test.YtiliomgnmdpebaaM28
namespace Go.Proofs.Ytiliomgnmdpebaa

open Ieee Go.RowKit

/-- What the statement keeps: its world, a try in a box, a row with that try. -/
structure Ids (A : Nat → Prop) (WB TB : Nat) (p : Pn) (ov : Value) (sb cb : Nat) (x : Ye) (vl : Value) (w : World) : Prop where
  wb : w.heap[WB]? = some (.cells (wC p ov sb cb (.slice none 0 0)) 31 (0, 0))
  aw : A WB
  tb : w.heap[TB]? = some (.cells #[.int .i64 x.y.b, .int .i64 x.y.a, .int .i64 x.y.n, .int .i64 x.y.h, .int .i64 x.y.t, x.fv, x.ev] 56 (0, 0))
  atb : A TB
  xf : OwN 0 w x.fv x.y.f
  xe : OwN 0 w x.ev x.y.e
  af : ∀ b, x.fv.ownBlock = some b → A b
  ae : ∀ b, x.ev.ownBlock = some b → A b
  row : w.ownsRow 0 56 7 vl 1 (flatY [x])
  ar : ∀ b, vl.ownBlock = some b → A b
/-- A list in blocks of A. -/
structure Lk (A : Nat → Prop) (v : Value) (l : List Int) (w : World) : Prop where
  o : OwN 0 w v l
  a : ∀ b, v.ownBlock = some b → A b
section

variable {A A' : Nat → Prop} {WB TB : Nat} {p : Pn} {ov : Value} {sb cb : Nat} {x : Ye} {vl v : Value} {l : List Int} {wz w w' : World} {c : Cs}

theorem Ids.keep (h : Ids A WB TB p ov sb cb x vl w) (hk : ∀ b, A b → w'.heap[b]? = w.heap[b]?) : Ids A WB TB p ov sb cb x vl w' :=
  ⟨by rw [hk _ h.aw]; exact h.wb, h.aw, by rw [hk _ h.atb]; exact h.tb, h.atb, row_keep h.xf fun b hb => hk b (h.af b hb), row_keep h.xe fun b hb => hk b (h.ae b hb), h.af, h.ae, row_keep h.row fun b hb => hk b (h.ar b hb), h.ar⟩
theorem Ids.mono (h : Ids A WB TB p ov sb cb x vl w) (hA : ∀ b, A b → A' b) : Ids A' WB TB p ov sb cb x vl w :=
  ⟨h.wb, hA _ h.aw, h.tb, hA _ h.atb, h.xf, h.xe, fun b hb => hA b (h.af b hb), fun b hb => hA b (h.ae b hb), h.row, fun b hb => hA b (h.ar b hb)⟩
theorem Lk.keep (h : Lk A v l w) (hk : ∀ b, A b → w'.heap[b]? = w.heap[b]?) : Lk A v l w' := ⟨row_keep h.o fun b hb => hk b (h.a b hb), h.a⟩
theorem Lk.mono (h : Lk A v l w) (hA : ∀ b, A b → A' b) : Lk A' v l w := ⟨h.o, fun b hb => hA b (h.a b hb)⟩
theorem kp_cha (hc : ChA wz A w w') (h : CW wz A sb cb c w) : ∀ b, A b → w'.heap[b]? = w.heap[b]? := fun b hb => hc.block b (h.al hb) (fun h => h.2 hb)
theorem kp_bel (hb : Below w.heap.size w w') (h : CW wz A sb cb c w) : ∀ b, A b → w'.heap[b]? = w.heap[b]? := fun b hA => hb.block b (h.al hA)
theorem Ids.yl (h : Ids A WB TB p ov sb cb x vl w) (hy : x.y.ok) : Yl w x := ⟨own_nv h.xf (in64_of hy.fm), own_nv h.xe (in64_of hy.em), fun _ hi => (nth_of hy.fm hi).1, fun _ hi => (nth_of hy.em hi).1⟩
theorem Ids.yr (h : Ids A WB TB p ov sb cb x vl w) (hy : x.y.ok) : Yr w vl [x] := ⟨h.row, fun z hz => by rw [List.mem_singleton] at hz; rw [hz]; exact h.yl hy⟩
theorem id_math {J1 : Jn} {S1 : Dk} {y : Yt} {rr nd : Int} (h : p.is = true) (hg : Gd p.P J1 S1) (hn : J1.n = ⟨0, zeros p.P.toNat, zeros p.P.toNat, 1⟩) (hj : J1.g = 2) (hy : y = yF p) (hr0 : 0 ≤ rr) (hr1 : 1 + rr ≤ p.B) (hnd : 0 ≤ nd ∧ nd < 9) :
    (taC (⟨p0 p, J1, S1, [y], false⟩ : Cs) (⟨2, y.n, 0, y.b, y.a, 0, zset p.P.toNat (p.B + 1), [], []⟩ : Ms) = (⟨p0 p, J1, S1, [y], false⟩ : Cs) ∧ taM (⟨p0 p, J1, S1, [y], false⟩ : Cs) (⟨2, y.n, 0, y.b, y.a, 0, zset p.P.toNat (p.B + 1), [], []⟩ : Ms) = none ∧ taE (⟨p0 p, J1, S1, [y], false⟩ : Cs) (⟨2, y.n, 0, y.b, y.a, 0, zset p.P.toNat (p.B + 1), [], []⟩ : Ms) = 0) ∧ (nd ≠ y.n → taC (⟨p0 p, J1, S1, [y], false⟩ : Cs) (⟨2, nd, 0, y.b, y.a, 0, zset p.P.toNat (1 + rr), [], []⟩ : Ms) = (⟨p0 p, J1, S1, [y], false⟩ : Cs) ∧ taM (⟨p0 p, J1, S1, [y], false⟩ : Cs) (⟨2, nd, 0, y.b, y.a, 0, zset p.P.toNat (1 + rr), [], []⟩ : Ms) = none ∧ taE (⟨p0 p, J1, S1, [y], false⟩ : Cs) (⟨2, nd, 0, y.b, y.a, 0, zset p.P.toNat (1 + rr), [], []⟩ : Ms) = 0) ∧ (taC (⟨p0 p, J1, S1, [y], false⟩ : Cs) (⟨8, y.n, 0, y.b, y.a, 0, zset p.P.toNat (1 + rr), [], []⟩ : Ms) = (⟨p0 p, J1, S1, [y], false⟩ : Cs) ∧ taM (⟨p0 p, J1, S1, [y], false⟩ : Cs) (⟨8, y.n, 0, y.b, y.a, 0, zset p.P.toNat (1 + rr), [], []⟩ : Ms) = none ∧ taE (⟨p0 p, J1, S1, [y], false⟩ : Cs) (⟨8, y.n, 0, y.b, y.a, 0, zset p.P.toNat (1 + rr), [], []⟩ : Ms) = 0) ∧ (taC (⟨p0 p, J1, S1, [y], false⟩ : Cs) (⟨2, y.n, 0, y.b, y.a, 0, zeros p.P.toNat, [], []⟩ : Ms) = (⟨p0 p, J1, S1, [], false⟩ : Cs) ∧ taM (⟨p0 p, J1, S1, [y], false⟩ : Cs) (⟨2, y.n, 0, y.b, y.a, 0, zeros p.P.toNat, [], []⟩ : Ms) = none ∧ taE (⟨p0 p, J1, S1, [y], false⟩ : Cs) (⟨2, y.n, 0, y.b, y.a, 0, zeros p.P.toNat, [], []⟩ : Ms) = 0) ∧ (taC (⟨p0 p, J1, S1, [y], false⟩ : Cs) (⟨2, y.n, 0, y.b, y.a, 0, zset p.P.toNat (1 + rr), [], []⟩ : Ms) = (⟨p0 p, J1, S1, [goY (rdyY y (zset p.P.toNat (1 + rr)))], false⟩ : Cs) ∧ taM (⟨p0 p, J1, S1, [y], false⟩ : Cs) (⟨2, y.n, 0, y.b, y.a, 0, zset p.P.toNat (1 + rr), [], []⟩ : Ms) = some (abtM 3 (goY (rdyY y (zset p.P.toNat (1 + rr)))) (zset p.P.toNat (1 + rr))) ∧ taE (⟨p0 p, J1, S1, [y], false⟩ : Cs) (⟨2, y.n, 0, y.b, y.a, 0, zset p.P.toNat (1 + rr), [], []⟩ : Ms) = 0) ∧ (taC (⟨p0 p, J1, S1, [goY (rdyY y (zset p.P.toNat (1 + rr)))], false⟩ : Cs) (⟨8, y.n, 0, y.b, y.a, 0, zeros p.P.toNat, [], []⟩ : Ms) = (⟨p0 p, J1, S1, [goY (rdyY y (zset p.P.toNat (1 + rr)))], false⟩ : Cs) ∧ taM (⟨p0 p, J1, S1, [goY (rdyY y (zset p.P.toNat (1 + rr)))], false⟩ : Cs) (⟨8, y.n, 0, y.b, y.a, 0, zeros p.P.toNat, [], []⟩ : Ms) = none ∧ taE (⟨p0 p, J1, S1, [goY (rdyY y (zset p.P.toNat (1 + rr)))], false⟩ : Cs) (⟨8, y.n, 0, y.b, y.a, 0, zeros p.P.toNat, [], []⟩ : Ms) = 0) ∧ ∃ J3 S3, taC (⟨p0 p, J1, S1, [goY (rdyY y (zset p.P.toNat (1 + rr)))], false⟩ : Cs) (⟨8, y.n, 0, y.b, y.a, 0, zset p.P.toNat (1 + rr), [], []⟩ : Ms) = (⟨p0 p, J3, S3, [], false⟩ : Cs) ∧ taM (⟨p0 p, J1, S1, [goY (rdyY y (zset p.P.toNat (1 + rr)))], false⟩ : Cs) (⟨8, y.n, 0, y.b, y.a, 0, zset p.P.toNat (1 + rr), [], []⟩ : Ms) = none ∧ taE (⟨p0 p, J1, S1, [goY (rdyY y (zset p.P.toNat (1 + rr)))], false⟩ : Cs) (⟨8, y.n, 0, y.b, y.a, 0, zset p.P.toNat (1 + rr), [], []⟩ : Ms) = 0 ∧ J3.n = ⟨1, zeros p.P.toNat, zset p.P.toNat (1 + rr), 1⟩ := by
  obtain ⟨kk, hk, hk1, hk4⟩ := is_P h
  obtain ⟨_, _, _, _, ⟨hB1, hB2⟩, _⟩ := Pn.is_num h
  have hq : p.P.toNat = kk := by rw [hk]; rfl
  have hq1 : 1 ≤ p.P.toNat := by omega
  obtain ⟨_, hw1, hw2⟩ := wk_of h
  have hyb : y.b = 1 := by rw [hy]; rfl
  have hya : y.a = 1 := by rw [hy]; rfl
  have hyn : y.n = (p0 p).worker 1 := by rw [hy]; rfl
  have hyf : y.f = zeros p.P.toNat := by rw [hy]; rfl
  have hyo : y.ok := by rw [hy]; exact yF_ok h
  have hy1 : inPh [1] y = true := by rw [hy]; rfl
  have hy3 : inPh [3] y = false := by rw [hy]; rfl
  have hsy : saidB y.b y.a y.n y = true := by unfold saidB; simp
  have snd : ∀ (k F : Int) (l : List Int), (k = 2 ∨ k = 8) → (0 ≤ F ∧ F < 9) → l.length = p.P.toNat → (∀ v ∈ l, 0 ≤ v ∧ v ≤ 256) → sndM ⟨k, F, 0, y.b, y.a, 0, l, [], []⟩ = true := fun k F l h1 h2 h3 h4 => snd_ok h1 h2 (by rw [hyb]; omega) (by rw [hya]; omega) (by omega) h4
  have hnn : 0 ≤ y.n ∧ y.n < 9 := by rw [hyn]; omega
  have mz : ∀ v ∈ zeros p.P.toNat, 0 ≤ v ∧ v ≤ 256 := fun v hv => by unfold zeros at hv; obtain ⟨_, rfl⟩ := List.mem_replicate.1 hv; omega
  have mf := zset_m (q := p.P.toNat) (v := 1 + rr) (by omega) (by omega)
  have mr := zset_m (q := p.P.toNat) (v := p.B + 1) (by omega) (by omega)
  have gg : Gd (⟨p0 p, J1, S1, [y], false⟩ : Cs).p.P (⟨p0 p, J1, S1, [y], false⟩ : Cs).J (⟨p0 p, J1, S1, [y], false⟩ : Cs).S := hg
  refine ⟨?_, fun hne => ?_, ?_, ?_, ?_, ?_, ?_⟩
  · obtain ⟨a1, a2, a3⟩ := ta_rd (m := (⟨2, y.n, 0, y.b, y.a, 0, zset p.P.toNat (p.B + 1), [], []⟩ : Ms)) gg rfl (snd 2 y.n _ (.inl rfl) hnn (zset_len _ _) mr) rfl rfl
    obtain ⟨b1, b2⟩ := rd_no (c := (⟨p0 p, J1, S1, [y], false⟩ : Cs)) (m := (⟨2, y.n, 0, y.b, y.a, 0, zset p.P.toNat (p.B + 1), [], []⟩ : Ms)) rfl (by rw [rdyF_eq]; show (_ && (_ && (rchB (zset p.P.toNat (p.B + 1)) p.B y && true))) = false; rw [rch_far hq1 hyf]; simp)
    exact ⟨by rw [a1, b1], by rw [a2, b2], a3⟩
  · obtain ⟨a1, a2, a3⟩ := ta_rd (m := (⟨2, nd, 0, y.b, y.a, 0, zset p.P.toNat (1 + rr), [], []⟩ : Ms)) gg rfl (snd 2 nd _ (.inl rfl) hnd (zset_len _ _) mf) rfl rfl
    obtain ⟨b1, b2⟩ := rd_no (c := (⟨p0 p, J1, S1, [y], false⟩ : Cs)) (m := (⟨2, nd, 0, y.b, y.a, 0, zset p.P.toNat (1 + rr), [], []⟩ : Ms)) rfl (by rw [rdyF_eq, show saidB (⟨2, nd, 0, y.b, y.a, 0, zset p.P.toNat (1 + rr), [], []⟩ : Ms).B (⟨2, nd, 0, y.b, y.a, 0, zset p.P.toNat (1 + rr), [], []⟩ : Ms).A (⟨2, nd, 0, y.b, y.a, 0, zset p.P.toNat (1 + rr), [], []⟩ : Ms).F y = false by unfold saidB; simp [Ne.symm hne]]; simp)
    exact ⟨by rw [a1, b1], by rw [a2, b2], a3⟩
  · obtain ⟨a1, a2, a3⟩ := ta_cm (m := (⟨8, y.n, 0, y.b, y.a, 0, zset p.P.toNat (1 + rr), [], []⟩ : Ms)) gg rfl (snd 8 y.n _ (.inr rfl) hnn (zset_len _ _) mf) rfl rfl
    obtain ⟨b1, b2, b3⟩ := cm_no (c := (⟨p0 p, J1, S1, [y], false⟩ : Cs)) (m := (⟨8, y.n, 0, y.b, y.a, 0, zset p.P.toNat (1 + rr), [], []⟩ : Ms)) rfl (by rw [cmtF_eq, hy3]; simp)
    exact ⟨by rw [a1, b1], by rw [a2, b2], by rw [a3, b3]⟩
  · obtain ⟨a1, a2, a3⟩ := ta_rd (m := (⟨2, y.n, 0, y.b, y.a, 0, zeros p.P.toNat, [], []⟩ : Ms)) gg rfl (snd 2 y.n _ (.inl rfl) hnn (zeros_len _) mz) rfl rfl
    obtain ⟨b1, b2⟩ := rd_same (c := (⟨p0 p, J1, S1, [y], false⟩ : Cs)) (m := (⟨2, y.n, 0, y.b, y.a, 0, zeros p.P.toNat, [], []⟩ : Ms)) rfl (by rw [rdyF_eq]; show (saidB y.b y.a y.n y && _) = true; rw [hsy, hy1, rch_zero (B := (⟨p0 p, J1, S1, [y], false⟩ : Cs).p.B) hyf (by show 0 ≤ p.B; omega)]; rfl) hyf
    exact ⟨by rw [a1, b1], by rw [a2, b2], a3⟩
  · obtain ⟨a1, a2, a3⟩ := ta_rd (m := (⟨2, y.n, 0, y.b, y.a, 0, zset p.P.toNat (1 + rr), [], []⟩ : Ms)) gg rfl (snd 2 y.n _ (.inl rfl) hnn (zset_len _ _) mf) rfl rfl
    obtain ⟨b1, b2⟩ := rd_go (c := (⟨p0 p, J1, S1, [y], false⟩ : Cs)) (m := (⟨2, y.n, 0, y.b, y.a, 0, zset p.P.toNat (1 + rr), [], []⟩ : Ms)) rfl (by rw [rdyF_eq]; show (saidB y.b y.a y.n y && _) = true; rw [hsy, hy1, rch_fine (B := (⟨p0 p, J1, S1, [y], false⟩ : Cs).p.B) hq1 hyf (by omega) hr1]; rfl) (by rw [hyf]; exact zset_ne hq1 (by omega))
    exact ⟨by rw [a1, b1], by rw [a2, b2], a3⟩
  · obtain ⟨a1, a2, a3⟩ := ta_cm (c := (⟨p0 p, J1, S1, [goY (rdyY y (zset p.P.toNat (1 + rr)))], false⟩ : Cs)) (m := (⟨8, y.n, 0, y.b, y.a, 0, zeros p.P.toNat, [], []⟩ : Ms)) gg rfl (snd 8 y.n _ (.inr rfl) hnn (zeros_len _) mz) rfl rfl
    obtain ⟨b1, b2, b3⟩ := cm_no (c := (⟨p0 p, J1, S1, [goY (rdyY y (zset p.P.toNat (1 + rr)))], false⟩ : Cs)) (m := (⟨8, y.n, 0, y.b, y.a, 0, zeros p.P.toNat, [], []⟩ : Ms)) rfl (by rw [cmtF_eq, show endAt (⟨8, y.n, 0, y.b, y.a, 0, zeros p.P.toNat, [], []⟩ : Ms).E (goY (rdyY y (zset p.P.toNat (1 + rr)))) = false from decide_eq_false (fun e => zset_ne (q := p.P.toNat) (v := 1 + rr) hq1 (by omega) e.symm)]; simp)
    exact ⟨by rw [a1, b1], by rw [a2, b2], by rw [a3, b3]⟩
  · obtain ⟨a1, a2, a3⟩ := ta_cm (c := (⟨p0 p, J1, S1, [goY (rdyY y (zset p.P.toNat (1 + rr)))], false⟩ : Cs)) (m := (⟨8, y.n, 0, y.b, y.a, 0, zset p.P.toNat (1 + rr), [], []⟩ : Ms)) gg rfl (snd 8 y.n _ (.inr rfl) hnn (zset_len _ _) mf) rfl rfl
    obtain ⟨J3, S3, b1, b2, b3, _, b5⟩ := cm_go (c := (⟨p0 p, J1, S1, [goY (rdyY y (zset p.P.toNat (1 + rr)))], false⟩ : Cs)) (m := (⟨8, y.n, 0, y.b, y.a, 0, zset p.P.toNat (1 + rr), [], []⟩ : Ms)) (y := goY (rdyY y (zset p.P.toNat (1 + rr)))) gg rfl (by rw [cmtF_eq]; show (saidB y.b y.a y.n (goY (rdyY y (zset p.P.toNat (1 + rr)))) && _) = true; rw [show saidB y.b y.a y.n (goY (rdyY y (zset p.P.toNat (1 + rr)))) = true by unfold saidB goY rdyY; simp, show inPh [3] (goY (rdyY y (zset p.P.toNat (1 + rr)))) = true from rfl, show endAt (⟨8, y.n, 0, y.b, y.a, 0, zset p.P.toNat (1 + rr), [], []⟩ : Ms).E (goY (rdyY y (zset p.P.toNat (1 + rr)))) = true from decide_eq_true rfl]; rfl) ⟨hyo.fm, mf, hyo.fl, by show (zset p.P.toNat (1 + rr)).length ≤ 4; rw [zset_len]; omega, by show (0 : Int) ≤ 0; omega, by show (0 : Int) < _; omega⟩ (by show Fwd J1.n.c (zset p.P.toNat (1 + rr)); rw [hn]; exact zset_fwd hq1 (by omega)) (by show J1.n.b < _; rw [hn]; show (0 : Int) < _; omega) (by show J1.g < _; rw [hj]; decide)
    refine ⟨J3, S3, by rw [a1, b1], by rw [a2, b2], by rw [a3, b3], ?_⟩
    rw [b5]
    show (⟨J1.n.b + 1, J1.n.c, zset p.P.toNat (1 + rr), J1.n.a⟩ : Nt) = _
    rw [hn]; rfl
end

end Go.Proofs.Ytiliomgnmdpebaa
