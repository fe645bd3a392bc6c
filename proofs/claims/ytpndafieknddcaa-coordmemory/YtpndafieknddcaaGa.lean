/- CoordMemory: the mathematics. -/
import Derived.Test.YtpndafieknddcaaM28
import Derived.Test.YtpndafieknddcaaM30
namespace Go.Proofs.Ytpndafieknddcaa

open Ieee Go.RowKit

section

variable {p : Pn}

/-- Ends that a first attempt may have read as far as: more than nothing, no more than a batch. -/
structure Enz (p : Pn) (l : List Int) : Prop where
  ln : l.length = p.P.toNat
  lo : ∀ i, i < l.length → 0 ≤ nth l i ∧ nth l i ≤ p.B
  ps : 0 < nth l 0
theorem memE_nth {l : List Int} {v : Int} (h : v ∈ l) : ∃ i, i < l.length ∧ nth l i = v := by
  obtain ⟨i, hi, he⟩ := List.getElem_of_mem h
  exact ⟨i, hi, by rw [nth_at hi, he]⟩
theorem Enz.m {l : List Int} (h : Enz p l) (hB : p.B ≤ 16) : ∀ v ∈ l, 0 ≤ v ∧ v ≤ 256 := fun v hv => by
  obtain ⟨i, hi, he⟩ := memE_nth hv
  have := h.lo i hi
  omega
theorem Enz.fwd {l : List Int} (h : Enz p l) : Fwd (zeros p.P.toNat) l := ⟨by rw [zeros_len, h.ln], fun i hi => by rw [zeros_nth]; exact (h.lo i (by first | exact hi | (rw [h.ln]; rw [zeros_len] at hi; exact hi))).1⟩
theorem Enz.ne {l : List Int} (h : Enz p l) : zeros p.P.toNat ≠ l := fun e => by
  have h1 := zeros_nth p.P.toNat 0
  rw [e] at h1
  have := h.ps
  omega
theorem Enz.rch {l : List Int} {y : Yt} (h : Enz p l) (hy : y.f = zeros p.P.toNat) : rchB l p.B y = true := by
  unfold rchB
  rw [hy, h.fwd.yes, decide_eq_true (fun i hi => by rw [zeros_nth]; have := h.lo i hi; omega)]; rfl
/-- What onward answers behind nothing, its first made 1 where it is 0. -/
theorem enz_on {on : List Int} (hB0 : 1 ≤ p.B) (hB1 : p.B ≤ 16) : ∀ i, i < p.P.toNat → 0 ≤ nth (onw p.B (zeros p.P.toNat) on) i ∧ nth (onw p.B (zeros p.P.toNat) on) i ≤ p.B := fun i hi => by
  rw [onw_nth _ _ _ _ (by rw [zeros_len]; exact hi), zeros_nth]
  have h1 := onR_le (B := p.B) (b := nth on i) (by omega)
  unfold onE
  split
  · split <;> omega
  · omega
theorem enz_pos {on : List Int} (hB0 : 1 ≤ p.B) (hB1 : p.B ≤ 16) (hq : 1 ≤ p.P.toNat) (h : nth (onw p.B (zeros p.P.toNat) on) 0 ≠ 0) : Enz p (onw p.B (zeros p.P.toNat) on) :=
  ⟨by rw [onw_len, zeros_len], fun i hi => enz_on hB0 hB1 i (by rw [onw_len, zeros_len] at hi; exact hi), by have := enz_on (on := on) hB0 hB1 0 (by omega); omega⟩
theorem enz_one {on : List Int} (hB0 : 1 ≤ p.B) (hB1 : p.B ≤ 16) (hq : 1 ≤ p.P.toNat) : Enz p ((onw p.B (zeros p.P.toNat) on).set 0 1) := by
  have hl : (onw p.B (zeros p.P.toNat) on).length = p.P.toNat := by rw [onw_len, zeros_len]
  have hk : 0 < (onw p.B (zeros p.P.toNat) on).length := by omega
  refine ⟨by rw [List.length_set, hl], fun i hi => ?_, by rw [nth_set hk, if_pos rfl]; omega⟩
  rw [List.length_set, hl] at hi
  rw [nth_set hk]
  split
  · omega
  · exact enz_on hB0 hB1 i hi
theorem mem_math {J1 : Jn} {S1 : Dk} {y : Yt} {l : List Int} (h : p.is = true) (hg : Gd p.P J1 S1) (hn : J1.n = ⟨0, zeros p.P.toNat, zeros p.P.toNat, 1⟩) (hj : J1.g = 2) (hy : y = yF p) (hl : Enz p l) :
    (taC (⟨p0 p, J1, S1, [y], false⟩ : Cs) (⟨2, y.n, 0, y.b, y.a, 0, l, [], []⟩ : Ms) = (⟨p0 p, J1, S1, [goY (rdyY y l)], false⟩ : Cs) ∧ taM (⟨p0 p, J1, S1, [y], false⟩ : Cs) (⟨2, y.n, 0, y.b, y.a, 0, l, [], []⟩ : Ms) = some (abtM 3 (goY (rdyY y l)) l) ∧ taE (⟨p0 p, J1, S1, [y], false⟩ : Cs) (⟨2, y.n, 0, y.b, y.a, 0, l, [], []⟩ : Ms) = 0) ∧ ∃ J3 S3, taC (⟨p0 p, J1, S1, [goY (rdyY y l)], false⟩ : Cs) (⟨8, y.n, 0, y.b, y.a, 0, l, [], []⟩ : Ms) = (⟨p0 p, J3, S3, [], false⟩ : Cs) ∧ taM (⟨p0 p, J1, S1, [goY (rdyY y l)], false⟩ : Cs) (⟨8, y.n, 0, y.b, y.a, 0, l, [], []⟩ : Ms) = none ∧ taE (⟨p0 p, J1, S1, [goY (rdyY y l)], false⟩ : Cs) (⟨8, y.n, 0, y.b, y.a, 0, l, [], []⟩ : Ms) = 0 ∧ J3.n = ⟨1, zeros p.P.toNat, l, 1⟩ := by
  obtain ⟨kk, hk, hk1, hk4⟩ := is_P h
  obtain ⟨_, _, _, _, ⟨hB1, hB2⟩, _⟩ := Pn.is_num h
  have hq : p.P.toNat = kk := by rw [hk]; rfl
  obtain ⟨_, hw1, hw2⟩ := wk_of h
  have hyb : y.b = 1 := by rw [hy]; rfl
  have hya : y.a = 1 := by rw [hy]; rfl
  have hyn : y.n = (p0 p).worker 1 := by rw [hy]; rfl
  have hyf : y.f = zeros p.P.toNat := by rw [hy]; rfl
  have hyo : y.ok := by rw [hy]; exact yF_ok h
  have hy1 : inPh [1] y = true := by rw [hy]; rfl
  have hsy : saidB y.b y.a y.n y = true := by unfold saidB; simp
  have mf : ∀ v ∈ l, 0 ≤ v ∧ v ≤ 256 := hl.m (by omega)
  have snd : ∀ (k : Int), (k = 2 ∨ k = 8) → sndM ⟨k, y.n, 0, y.b, y.a, 0, l, [], []⟩ = true := fun k h1 => snd_ok h1 (by rw [hyn]; omega) (by rw [hyb]; omega) (by rw [hya]; omega) (by have := hl.ln; omega) mf
  have gg : Gd (⟨p0 p, J1, S1, [y], false⟩ : Cs).p.P (⟨p0 p, J1, S1, [y], false⟩ : Cs).J (⟨p0 p, J1, S1, [y], false⟩ : Cs).S := hg
  refine ⟨?_, ?_⟩
  · obtain ⟨a1, a2, a3⟩ := ta_rd (m := (⟨2, y.n, 0, y.b, y.a, 0, l, [], []⟩ : Ms)) gg rfl (snd 2 (.inl rfl)) rfl rfl
    obtain ⟨b1, b2⟩ := rd_go (c := (⟨p0 p, J1, S1, [y], false⟩ : Cs)) (m := (⟨2, y.n, 0, y.b, y.a, 0, l, [], []⟩ : Ms)) rfl (by rw [rdyF_eq]; show (saidB y.b y.a y.n y && (_ && (rchB l p.B y && true))) = true; rw [hsy, hy1, hl.rch hyf]; rfl) (by rw [hyf]; exact hl.ne)
    exact ⟨by rw [a1, b1], by rw [a2, b2], a3⟩
  · obtain ⟨a1, a2, a3⟩ := ta_cm (c := (⟨p0 p, J1, S1, [goY (rdyY y l)], false⟩ : Cs)) (m := (⟨8, y.n, 0, y.b, y.a, 0, l, [], []⟩ : Ms)) gg rfl (snd 8 (.inr rfl)) rfl rfl
    obtain ⟨J3, S3, b1, b2, b3, _, b5⟩ := cm_go (c := (⟨p0 p, J1, S1, [goY (rdyY y l)], false⟩ : Cs)) (m := (⟨8, y.n, 0, y.b, y.a, 0, l, [], []⟩ : Ms)) (y := goY (rdyY y l)) gg rfl (by rw [cmtF_eq]; show (saidB y.b y.a y.n (goY (rdyY y l)) && _) = true; rw [show saidB y.b y.a y.n (goY (rdyY y l)) = true by unfold saidB goY rdyY; simp, show inPh [3] (goY (rdyY y l)) = true from rfl, show endAt (⟨8, y.n, 0, y.b, y.a, 0, l, [], []⟩ : Ms).E (goY (rdyY y l)) = true from decide_eq_true rfl]; rfl) ⟨hyo.fm, mf, hyo.fl, by show l.length ≤ 4; rw [hl.ln]; omega, by show (0 : Int) ≤ 0; omega, by show (0 : Int) < _; omega⟩ (by show Fwd J1.n.c l; rw [hn]; exact hl.fwd) (by show J1.n.b < _; rw [hn]; show (0 : Int) < _; omega) (by show J1.g < _; rw [hj]; decide)
    refine ⟨J3, S3, by rw [a1, b1], by rw [a2, b2], by rw [a3, b3], ?_⟩
    rw [b5]
    show (⟨J1.n.b + 1, J1.n.c, l, J1.n.a⟩ : Nt) = _
    rw [hn]; rfl
end

end Go.Proofs.Ytpndafieknddcaa
