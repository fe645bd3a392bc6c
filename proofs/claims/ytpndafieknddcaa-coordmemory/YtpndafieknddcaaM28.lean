/- Cv Cw Cx -/
import Derived.Test.YtpndafieknddcaaCu
namespace Go.Proofs.Ytpndafieknddcaa

open Ieee Go.RowKit

section

variable {wz w w' w2 : World} {A E C B : Nat → Prop} {sb cb jb : Nat} {c : Cs} {p : Pn} {v v1 v2 ev : Value} {W1 W2 : List Ye} {L : List Yt}

theorem trg_yr {W : List Ye} {base : Nat} (hr : w'.ownsRow base 43 7 v W.length (flatY W)) (hl : ∀ x ∈ W, OwN base w' x.fv x.y.f ∧ OwN base w' x.ev x.y.e) (hy : ∀ x ∈ W, x.y.ok) : Yr w' v W :=
  ⟨own_base hr (Nat.zero_le _), fun x hx => ⟨own_nv (hl x hx).1 (in64_of (hy x hx).fm), own_nv (hl x hx).2 (in64_of (hy x hx).em), fun _ hi => (nth_of (hy x hx).fm hi).1, fun _ hi => (nth_of (hy x hx).em hi).1⟩⟩
/-- The statements' world in a block: the plan, the disk, the coordinator, what was sent. -/
def wC (p : Pn) (ov : Value) (sb cb : Nat) (sv : Value) : Array Value := #[.int .i64 p.P, .int .i64 p.S, .int .i64 p.W, ov, .int .i64 p.A, .int .i64 p.B, .int .i64 p.N, .int .i64 p.G, Pt sb, Pt cb, sv]
end

end Go.Proofs.Ytpndafieknddcaa

namespace Go.Proofs.Ytpndafieknddcaa

open Ieee Go.RowKit

def p0 (p : Pn) : Pn := { p with l := [] }
def yF (p : Pn) : Yt := ⟨1, 1, (p0 p).worker 1, 1, 0, zeros p.P.toNat, []⟩
section

variable {c : Cs} {p : Pn} {J : Jn} {S : Dk} {y : Yt} {m : Ms} {l : List Int} {k F b a : Int}

theorem wk_of (h : p.is = true) : (p0 p).worker 1 = 1 + 1 % p.W ∧ 1 ≤ (p0 p).worker 1 ∧ (p0 p).worker 1 ≤ 4 := by
  obtain ⟨_, _, ⟨h1, h2⟩, _⟩ := Pn.is_num h
  have e : (p0 p).worker 1 = 1 + 1 % p.W := by
    unfold Pn.worker
    rw [if_pos (by rw [show (p0 p).is = true from is_less h]; rfl)]; rfl
  refine ⟨e, ?_, ?_⟩
  · rw [e]; have := Int.emod_nonneg 1 (show p.W ≠ 0 by omega); omega
  · rw [e]; have := Int.emod_lt_of_pos 1 (show 0 < p.W by omega); omega
theorem yF_ok (h : p.is = true) : (yF p).ok := by
  obtain ⟨kk, hk, h1, h4⟩ := is_P h
  refine ⟨fun v hv => ?_, by show ∀ v ∈ ([] : List Int), _; simp, by show (zeros p.P.toNat).length ≤ 4; rw [zeros_len]; omega, by show ([] : List Int).length ≤ 4; simp, by show (0 : Int) ≤ 0; omega, by show (0 : Int) < _; omega⟩
  have hv' : v ∈ zeros p.P.toNat := hv
  unfold zeros at hv'
  obtain ⟨_, rfl⟩ := List.mem_replicate.1 hv'
  omega
theorem tk_fr (h : p.is = true) : ∃ J S, tikC (frC p) = ⟨p0 p, J, S, [yF p], false⟩ ∧ tikM (frC p) = some (abtM 1 (yF p) (zeros p.P.toNat)) ∧ tikE (frC p) = 0 ∧ Gd p.P J S ∧ J.n = ⟨0, zeros p.P.toNat, zeros p.P.toNat, 1⟩ ∧ J.g = 2 ∧ S.wr = 3 := by
  obtain ⟨hg, hw, hr, hn, hj⟩ := fr_gd h
  obtain ⟨_, _, _, _, _, ⟨hN1, hN2⟩, _⟩ := Pn.is_num h
  have he : ¬ (frC p).endB = true := by rw [gd_end (c := frC p) hg rfl]; simp
  have ht : tik1 (frC p) = frC p := rfl
  have hm : mayB (frC p) = true := by
    unfold mayB
    rw [decide_eq_true (show ((frC p).L.length : Int) < (frC p).p.N by show (0 : Int) < p.N; omega)]; rfl
  obtain ⟨b1, b2, b3, b4, b5⟩ := beg_gd (c := frC p) hg (by rw [hn]; show (0 : Int) < _; omega) (by rw [hj]; decide)
  have hC : begC (frC p) = ⟨p0 p, savJ (frC p).J (frC p).S p.P (begN (frC p)), savS (frC p).J (frC p).S p.P (begN (frC p)), [yF p], false⟩ := by
    unfold begC; rw [if_pos b1]; rfl
  refine ⟨_, _, ?_, ?_, ?_, b2, ?_, ?_, ?_⟩
  · unfold tikC; rw [if_neg he, ht, if_pos hm, hC]; rfl
  · unfold tikM; rw [if_neg he, ht, if_pos hm]; unfold begM; rw [if_pos b1]; rfl
  · unfold tikE; rw [if_neg he, ht, if_pos hm]; unfold begE; rw [if_pos b1]
  · rw [b3]; rfl
  · rw [b3]; show (frC p).J.g + 1 = 2; rw [hj]
  · rw [b4, hw]
theorem snd_ok (hk : k = 2 ∨ k = 8) (hF : 0 ≤ F ∧ F < 9) (hb : 1 ≤ b ∧ b ≤ 1099511627776) (ha : 1 ≤ a ∧ a ≤ 1099511627776) (hl : 1 ≤ l.length ∧ l.length ≤ 4) (hm : ∀ v ∈ l, 0 ≤ v ∧ v ≤ 256) : sndM ⟨k, F, 0, b, a, 0, l, [], []⟩ = true := by
  have hf : fld k = 1 := by unfold fld; rw [if_pos (by rcases hk with e | e <;> simp [e])]
  unfold sndM
  simp only [Bool.and_eq_true]
  refine ⟨by unfold nodB; simp [hF.1, hF.2], by decide, by unfold ctB; simp [hb.1, hb.2], by unfold ctB; simp [ha.1, ha.2], ?_, ?_⟩
  · rw [hf]; unfold bareB; simp
  · rw [hf]; unfold askB; rw [if_pos rfl]; unfold endB
    simp only [Bool.and_eq_true, decide_eq_true_eq, List.all_eq_true]
    exact ⟨⟨hl.1, hl.2⟩, fun v hv => hm v hv⟩
theorem ta_rd (hg : Gd c.p.P c.J c.S) (ho : c.o = false) (hs : sndM m = true) (hT : m.T = 0) (hK : m.K = 2) : taC c m = { c with L := rdyL c m } ∧ taM c m = rdyM c m ∧ taE c m = 0 := by
  have he : ¬ c.endB = true := by rw [gd_end hg ho]; simp
  have hs' : ¬ sndM m = false := by rw [hs]; simp
  have hT' : ¬ m.T ≠ 0 := fun h => h hT
  have h0 : ta0 c = c := by unfold ta0; cases c; simp only at ho; subst ho; rfl
  refine ⟨?_, ?_, ?_⟩
  · unfold taC; rw [if_neg he, if_neg hs', if_neg hT', if_pos hK, h0]
  · unfold taM; rw [if_neg he, if_neg hs', if_neg hT', if_pos hK, h0]
  · unfold taE; rw [if_neg he, if_neg hs', if_neg hT', if_pos hK]
theorem ta_cm (hg : Gd c.p.P c.J c.S) (ho : c.o = false) (hs : sndM m = true) (hT : m.T = 0) (hK : m.K = 8) : taC c m = cmtC c m ∧ taM c m = cmtM c m ∧ taE c m = cmtR c m := by
  have he : ¬ c.endB = true := by rw [gd_end hg ho]; simp
  have hs' : ¬ sndM m = false := by rw [hs]; simp
  have hT' : ¬ m.T ≠ 0 := fun h => h hT
  have hK' : ¬ m.K = 2 := by rw [hK]; decide
  have h0 : ta0 c = c := by unfold ta0; cases c; simp only at ho; subst ho; rfl
  refine ⟨?_, ?_, ?_⟩
  · unfold taC; rw [if_neg he, if_neg hs', if_neg hT', if_neg hK', if_pos hK, h0]
  · unfold taM; rw [if_neg he, if_neg hs', if_neg hT', if_neg hK', if_pos hK, h0]
  · unfold taE; rw [if_neg he, if_neg hs', if_neg hT', if_neg hK', if_pos hK, h0]
theorem rd_no (hL : c.L = [y]) (h : rdyF c m y = false) : rdyL c m = [y] ∧ rdyM c m = none := by
  have hi : rdyI c m < 0 := by unfold rdyI; rw [hL, idxY, if_neg (by rw [h]; simp), idxY]; decide
  exact ⟨by unfold rdyL; rw [if_pos hi, hL], by unfold rdyM; rw [if_pos hi]⟩
theorem rd_0 (hL : c.L = [y]) (h : rdyF c m y = true) : rdyI c m = 0 := by unfold rdyI; rw [hL]; exact idxY_head h
theorem rd_same (hL : c.L = [y]) (h : rdyF c m y = true) (hf : y.f = m.E) : rdyL c m = [] ∧ rdyM c m = none := by
  have hi := rd_0 hL h
  have h0 : ¬ rdyI c m < 0 := by rw [hi]; decide
  have hg : (c.L.getD (rdyI c m).toNat yD).f = m.E := by rw [hi, hL]; exact hf
  exact ⟨by unfold rdyL; rw [if_neg h0, if_pos hg, hi]; rfl, by unfold rdyM; rw [if_neg h0, if_pos hg]⟩
theorem rd_go (hL : c.L = [y]) (h : rdyF c m y = true) (hf : y.f ≠ m.E) : rdyL c m = [goY (rdyY y m.E)] ∧ rdyM c m = some (abtM 3 (goY (rdyY y m.E)) m.E) := by
  have hi := rd_0 hL h
  have h0 : ¬ rdyI c m < 0 := by rw [hi]; decide
  have hg : ¬ (c.L.getD (rdyI c m).toNat yD).f = m.E := by rw [hi, hL]; exact hf
  have hs : rdyS c m = [rdyY y m.E] := by unfold rdyS; rw [hi, hL]; rfl
  exact ⟨by unfold rdyL; rw [if_neg h0, if_neg hg, hs]; rfl, by unfold rdyM; rw [if_neg h0, if_neg hg, hs]; rfl⟩
theorem cm_no (hL : c.L = [y]) (h : cmtF m y = false) : cmtC c m = c ∧ cmtM c m = none ∧ cmtR c m = 0 := by
  have hi : cmtI c m ≠ 0 := by unfold cmtI; rw [hL, idxY, if_neg (by rw [h]; simp), idxY]; decide
  exact ⟨if_pos hi, if_pos hi, if_pos hi⟩
theorem cm_go (hg : Gd c.p.P c.J c.S) (hL : c.L = [y]) (h : cmtF m y = true) (hy : y.ok) (hf : Fwd c.J.n.c y.e) (hb : c.J.n.b < 1099511627776) (hgn : c.J.g < 1099511627776) : ∃ J' S', cmtC c m = { c with J := J', S := S', L := [] } ∧ cmtM c m = none ∧ cmtR c m = 0 ∧ Gd c.p.P J' S' ∧ J'.n = ⟨c.J.n.b + 1, c.J.n.c, y.e, c.J.n.a⟩ := by
  have hi : ¬ cmtI c m ≠ 0 := fun h' => h' (by unfold cmtI; rw [hL]; exact idxY_head h)
  obtain ⟨b1, b2, b3, _, _⟩ := cmt_gd hg hL hy hf hb hgn
  have he : ¬ cmtE c ≠ 0 := fun h' => h' b1
  have hd : c.L.drop 1 = [] := by rw [hL]; rfl
  refine ⟨_, _, ?_, ?_, ?_, b2, by rw [b3]⟩
  · unfold cmtC; rw [if_neg hi, if_neg he, hd]; rfl
  · unfold cmtM; rw [if_neg hi, if_neg he, hd]; rfl
  · unfold cmtR; rw [if_neg hi, if_neg he]
theorem rdyF_eq : rdyF c m y = (saidB m.B m.A m.F y && (inPh [1] y && (rchB m.E c.p.B y && true))) := by unfold rdyF allB; simp
theorem cmtF_eq : cmtF m y = (saidB m.B m.A m.F y && (inPh [3] y && (endAt m.E y && true))) := by unfold cmtF allB; simp
/-- zeros with another first. -/
def zset (q : Nat) (v : Int) : List Int := (zeros q).set 0 v
theorem zset_len (q : Nat) (v : Int) : (zset q v).length = q := by unfold zset; rw [List.length_set, zeros_len]
theorem zset_m {q : Nat} {v : Int} (h0 : 0 ≤ v) (h1 : v ≤ 256) : ∀ x ∈ zset q v, 0 ≤ x ∧ x ≤ 256 := fun x hx => by
  rcases List.mem_or_eq_of_mem_set hx with h | h
  · unfold zeros at h
    obtain ⟨_, rfl⟩ := List.mem_replicate.1 h
    omega
  · omega
theorem zset_nth {q : Nat} {v : Int} (hq : 1 ≤ q) (i : Nat) : nth (zset q v) i = if i = 0 then v else 0 := by
  unfold zset nth
  rw [List.getD_eq_getElem?_getD, List.getElem?_set]
  split
  · rename_i h; subst h; rw [if_pos (by rw [zeros_len]; omega), if_pos rfl]; rfl
  · rename_i h
    have := zeros_nth q i
    unfold nth at this
    rw [List.getD_eq_getElem?_getD] at this
    rw [this, if_neg (fun e => h e.symm)]
theorem zset_fwd {q : Nat} {v : Int} (hq : 1 ≤ q) (h0 : 0 ≤ v) : Fwd (zeros q) (zset q v) := ⟨by rw [zset_len, zeros_len], fun i _ => by rw [zeros_nth, zset_nth hq]; split <;> omega⟩
theorem zset_ne {q : Nat} {v : Int} (hq : 1 ≤ q) (h0 : 0 < v) : zeros q ≠ zset q v := fun e => by
  have h1 := zeros_nth q 0
  rw [e, zset_nth hq, if_pos rfl] at h1
  omega
theorem rch_far {q : Nat} {B : Int} {y : Yt} (hq : 1 ≤ q) (hy : y.f = zeros q) : rchB (zset q (B + 1)) B y = false := by
  unfold rchB
  rw [decide_eq_false (fun h => by
    have := h 0 (by rw [zset_len]; omega)
    rw [hy, zeros_nth, zset_nth hq, if_pos rfl] at this
    omega)]
  simp
theorem rch_fine {q : Nat} {B v : Int} {y : Yt} (hq : 1 ≤ q) (hy : y.f = zeros q) (h0 : 0 ≤ v) (h1 : v ≤ B) : rchB (zset q v) B y = true := by
  unfold rchB
  rw [hy, (zset_fwd hq h0).yes, decide_eq_true (fun i _ => by rw [zeros_nth, zset_nth hq]; split <;> omega)]; rfl
theorem rch_zero {q : Nat} {B : Int} {y : Yt} (hy : y.f = zeros q) (hB : 0 ≤ B) : rchB (zeros q) B y = true := by
  unfold rchB
  rw [hy, Fwd.yes ⟨rfl, fun _ _ => Int.le_refl _⟩, decide_eq_true (fun i _ => by rw [zeros_nth]; omega)]; rfl
end

end Go.Proofs.Ytpndafieknddcaa

namespace Go.Proofs.Ytpndafieknddcaa

open Ieee Go.RowKit

/-- What the statement keeps: its world, a try in a box, a row with that try. -/
structure Ids (A : Nat → Prop) (WB TB : Nat) (p : Pn) (ov : Value) (sb cb : Nat) (x : Ye) (vl : Value) (w : World) : Prop where
  wb : w.heap[WB]? = some (.cells (wC p ov sb cb (.slice none 0 0)) 31 (0, 0))
  aw : A WB
  tb : w.heap[TB]? = some (.cells #[.int .i64 x.y.b, .int .i64 x.y.a, .int .i64 x.y.n, .int .i64 x.y.h, .int .i64 x.y.t, x.fv, x.ev] 43 (0, 0))
  atb : A TB
  xf : OwN 0 w x.fv x.y.f
  xe : OwN 0 w x.ev x.y.e
  af : ∀ b, x.fv.ownBlock = some b → A b
  ae : ∀ b, x.ev.ownBlock = some b → A b
  row : w.ownsRow 0 43 7 vl 1 (flatY [x])
  ar : ∀ b, vl.ownBlock = some b → A b
/-- A list in blocks of A. -/
structure Lk (A : Nat → Prop) (v : Value) (l : List Int) (w : World) : Prop where
  o : OwN 0 w v l
  a : ∀ b, v.ownBlock = some b → A b
section

variable {A A' : Nat → Prop} {WB TB : Nat} {p : Pn} {ov : Value} {sb cb : Nat} {x : Ye} {vl v : Value} {l : List Int} {wz w w' : World} {c : Cs}

theorem Ids.keep (h : Ids A WB TB p ov sb cb x vl w) (hk : ∀ b, A b → w'.heap[b]? = w.heap[b]?) : Ids A WB TB p ov sb cb x vl w' :=
  ⟨by rw [hk _ h.aw]; exact h.wb, h.aw, by rw [hk _ h.atb]; exact h.tb, h.atb, row_keep h.xf fun b hb => hk b (h.af b hb), row_keep h.xe fun b hb => hk b (h.ae b hb), h.af, h.ae, row_keep h.row fun b hb => hk b (h.ar b hb), h.ar⟩
theorem Ids.mono (h : Ids A WB TB p ov sb cb x vl w) (hA : ∀ b, A b → A' b) : Ids A' WB TB p ov sb cb x vl w :=
  ⟨h.wb, hA _ h.aw, h.tb, hA _ h.atb, h.xf, h.xe, fun b hb => hA b (h.af b hb), fun b hb => hA b (h.ae b hb), h.row, fun b hb => hA b (h.ar b hb)⟩
theorem Lk.keep (h : Lk A v l w) (hk : ∀ b, A b → w'.heap[b]? = w.heap[b]?) : Lk A v l w' := ⟨row_keep h.o fun b hb => hk b (h.a b hb), h.a⟩
theorem Lk.mono (h : Lk A v l w) (hA : ∀ b, A b → A' b) : Lk A' v l w := ⟨h.o, fun b hb => hA b (h.a b hb)⟩
theorem kp_cha (hc : ChA wz A w w') (h : CW wz A sb cb c w) : ∀ b, A b → w'.heap[b]? = w.heap[b]? := fun b hb => hc.block b (h.al hb) (fun h => h.2 hb)
theorem kp_bel (hb : Below w.heap.size w w') (h : CW wz A sb cb c w) : ∀ b, A b → w'.heap[b]? = w.heap[b]? := fun b hA => hb.block b (h.al hA)
theorem Ids.yl (h : Ids A WB TB p ov sb cb x vl w) (hy : x.y.ok) : Yl w x := ⟨own_nv h.xf (in64_of hy.fm), own_nv h.xe (in64_of hy.em), fun _ hi => (nth_of hy.fm hi).1, fun _ hi => (nth_of hy.em hi).1⟩
theorem Ids.yr (h : Ids A WB TB p ov sb cb x vl w) (hy : x.y.ok) : Yr w vl [x] := ⟨h.row, fun z hz => by rw [List.mem_singleton] at hz; rw [hz]; exact h.yl hy⟩
theorem id_math {J1 : Jn} {S1 : Dk} {y : Yt} {rr nd : Int} (h : p.is = true) (hg : Gd p.P J1 S1) (hn : J1.n = ⟨0, zeros p.P.toNat, zeros p.P.toNat, 1⟩) (hj : J1.g = 2) (hy : y = yF p) (hr0 : 0 ≤ rr) (hr1 : 1 + rr ≤ p.B) (hnd : 0 ≤ nd ∧ nd < 9) :
    (taC (⟨p0 p, J1, S1, [y], false⟩ : Cs) (⟨2, y.n, 0, y.b, y.a, 0, zset p.P.toNat (p.B + 1), [], []⟩ : Ms) = (⟨p0 p, J1, S1, [y], false⟩ : Cs) ∧ taM (⟨p0 p, J1, S1, [y], false⟩ : Cs) (⟨2, y.n, 0, y.b, y.a, 0, zset p.P.toNat (p.B + 1), [], []⟩ : Ms) = none ∧ taE (⟨p0 p, J1, S1, [y], false⟩ : Cs) (⟨2, y.n, 0, y.b, y.a, 0, zset p.P.toNat (p.B + 1), [], []⟩ : Ms) = 0) ∧ (nd ≠ y.n → taC (⟨p0 p, J1, S1, [y], false⟩ : Cs) (⟨2, nd, 0, y.b, y.a, 0, zset p.P.toNat (1 + rr), [], []⟩ : Ms) = (⟨p0 p, J1, S1, [y], false⟩ : Cs) ∧ taM (⟨p0 p, J1, S1, [y], false⟩ : Cs) (⟨2, nd, 0, y.b, y.a, 0, zset p.P.toNat (1 + rr), [], []⟩ : Ms) = none ∧ taE (⟨p0 p, J1, S1, [y], false⟩ : Cs) (⟨2, nd, 0, y.b, y.a, 0, zset p.P.toNat (1 + rr), [], []⟩ : Ms) = 0) ∧ (taC (⟨p0 p, J1, S1, [y], false⟩ : Cs) (⟨8, y.n, 0, y.b, y.a, 0, zset p.P.toNat (1 + rr), [], []⟩ : Ms) = (⟨p0 p, J1, S1, [y], false⟩ : Cs) ∧ taM (⟨p0 p, J1, S1, [y], false⟩ : Cs) (⟨8, y.n, 0, y.b, y.a, 0, zset p.P.toNat (1 + rr), [], []⟩ : Ms) = none ∧ taE (⟨p0 p, J1, S1, [y], false⟩ : Cs) (⟨8, y.n, 0, y.b, y.a, 0, zset p.P.toNat (1 + rr), [], []⟩ : Ms) = 0) ∧ (taC (⟨p0 p, J1, S1, [y], false⟩ : Cs) (⟨2, y.n, 0, y.b, y.a, 0, zeros p.P.toNat, [], []⟩ : Ms) = (⟨p0 p, J1, S1, [], false⟩ : Cs) ∧ taM (⟨p0 p, J1, S1, [y], false⟩ : Cs) (⟨2, y.n, 0, y.b, y.a, 0, zeros p.P.toNat, [], []⟩ : Ms) = none ∧ taE (⟨p0 p, J1, S1, [y], false⟩ : Cs) (⟨2, y.n, 0, y.b, y.a, 0, zeros p.P.toNat, [], []⟩ : Ms) = 0) ∧ (taC (⟨p0 p, J1, S1, [y], false⟩ : Cs) (⟨2, y.n, 0, y.b, y.a, 0, zset p.P.toNat (1 + rr), [], []⟩ : Ms) = (⟨p0 p, J1, S1, [goY (rdyY y (zset p.P.toNat (1 + rr)))], false⟩ : Cs) ∧ taM (⟨p0 p, J1, S1, [y], false⟩ : Cs) (⟨2, y.n, 0, y.b, y.a, 0, zset p.P.toNat (1 + rr), [], []⟩ : Ms) = some (abtM 3 (goY (rdyY y (zset p.P.toNat (1 + rr)))) (zset p.P.toNat (1 + rr))) ∧ taE (⟨p0 p, J1, S1, [y], false⟩ : Cs) (⟨2, y.n, 0, y.b, y.a, 0, zset p.P.toNat (1 + rr), [], []⟩ : Ms) = 0) ∧ (taC (⟨p0 p, J1, S1, [goY (rdyY y (zset p.P.toNat (1 + rr)))], false⟩ : Cs) (⟨8, y.n, 0, y.b, y.a, 0, zeros p.P.toNat, [], []⟩ : Ms) = (⟨p0 p, J1, S1, [goY (rdyY y (zset p.P.toNat (1 + rr)))], false⟩ : Cs) ∧ taM (⟨p0 p, J1, S1, [goY (rdyY y (zset p.P.toNat (1 + rr)))], false⟩ : Cs) (⟨8, y.n, 0, y.b, y.a, 0, zeros p.P.toNat, [], []⟩ : Ms) = none ∧ taE (⟨p0 p, J1, S1, [goY (rdyY y (zset p.P.toNat (1 + rr)))], false⟩ : Cs) (⟨8, y.n, 0, y.b, y.a, 0, zeros p.P.toNat, [], []⟩ : Ms) = 0) ∧ ∃ J3 S3, taC (⟨p0 p, J1, S1, [goY (rdyY y (zset p.P.toNat (1 + rr)))], false⟩ : Cs) (⟨8, y.n, 0, y.b, y.a, 0, zset p.P.toNat (1 + rr), [], []⟩ : Ms) = (⟨p0 p, J3, S3, [], false⟩ : Cs) ∧ taM (⟨p0 p, J1, S1, [goY (rdyY y (zset p.P.toNat (1 + rr)))], false⟩ : Cs) (⟨8, y.n, 0, y.b, y.a, 0, zset p.P.toNat (1 + rr), [], []⟩ : Ms) = none ∧ taE (⟨p0 p, J1, S1, [goY (rdyY y (zset p.P.toNat (1 + rr)))], false⟩ : Cs) (⟨8, y.n, 0, y.b, y.a, 0, zset p.P.toNat (1 + rr), [], []⟩ : Ms) = 0 ∧ J3.n = ⟨1, zeros p.P.toNat, zset p.P.toNat (1 + rr), 1⟩ := by
  obtain ⟨kk, hk, hk1, hk4⟩ := is_P h
  obtain ⟨_, _, _, _, ⟨hB1, hB2⟩, _⟩ := Pn.is_num h
  have hq : p.P.toNat = kk := by rw [hk]; rfl
  have hq1 : 1 ≤ p.P.toNat := by omega
  obtain ⟨_, hw1, hw2⟩ := wk_of h
  have hyb : y.b = 1 := by rw [hy]; rfl
  have hya : y.a = 1 := by rw [hy]; rfl
  have hyn : y.n = (p0 p).worker 1 := by rw [hy]; rfl
  have hyf : y.f = zeros p.P.toNat := by rw [hy]; rfl
  have hyo : y.ok := by rw [hy]; exact yF_ok h
  have hy1 : inPh [1] y = true := by rw [hy]; rfl
  have hy3 : inPh [3] y = false := by rw [hy]; rfl
  have hsy : saidB y.b y.a y.n y = true := by unfold saidB; simp
  have snd : ∀ (k F : Int) (l : List Int), (k = 2 ∨ k = 8) → (0 ≤ F ∧ F < 9) → l.length = p.P.toNat → (∀ v ∈ l, 0 ≤ v ∧ v ≤ 256) → sndM ⟨k, F, 0, y.b, y.a, 0, l, [], []⟩ = true := fun k F l h1 h2 h3 h4 => snd_ok h1 h2 (by rw [hyb]; omega) (by rw [hya]; omega) (by omega) h4
  have hnn : 0 ≤ y.n ∧ y.n < 9 := by rw [hyn]; omega
  have mz : ∀ v ∈ zeros p.P.toNat, 0 ≤ v ∧ v ≤ 256 := fun v hv => by unfold zeros at hv; obtain ⟨_, rfl⟩ := List.mem_replicate.1 hv; omega
  have mf := zset_m (q := p.P.toNat) (v := 1 + rr) (by omega) (by omega)
  have mr := zset_m (q := p.P.toNat) (v := p.B + 1) (by omega) (by omega)
  have gg : Gd (⟨p0 p, J1, S1, [y], false⟩ : Cs).p.P (⟨p0 p, J1, S1, [y], false⟩ : Cs).J (⟨p0 p, J1, S1, [y], false⟩ : Cs).S := hg
  refine ⟨?_, fun hne => ?_, ?_, ?_, ?_, ?_, ?_⟩
  · obtain ⟨a1, a2, a3⟩ := ta_rd (m := (⟨2, y.n, 0, y.b, y.a, 0, zset p.P.toNat (p.B + 1), [], []⟩ : Ms)) gg rfl (snd 2 y.n _ (.inl rfl) hnn (zset_len _ _) mr) rfl rfl
    obtain ⟨b1, b2⟩ := rd_no (c := (⟨p0 p, J1, S1, [y], false⟩ : Cs)) (m := (⟨2, y.n, 0, y.b, y.a, 0, zset p.P.toNat (p.B + 1), [], []⟩ : Ms)) rfl (by rw [rdyF_eq]; show (_ && (_ && (rchB (zset p.P.toNat (p.B + 1)) p.B y && true))) = false; rw [rch_far hq1 hyf]; simp)
    exact ⟨by rw [a1, b1], by rw [a2, b2], a3⟩
  · obtain ⟨a1, a2, a3⟩ := ta_rd (m := (⟨2, nd, 0, y.b, y.a, 0, zset p.P.toNat (1 + rr), [], []⟩ : Ms)) gg rfl (snd 2 nd _ (.inl rfl) hnd (zset_len _ _) mf) rfl rfl
    obtain ⟨b1, b2⟩ := rd_no (c := (⟨p0 p, J1, S1, [y], false⟩ : Cs)) (m := (⟨2, nd, 0, y.b, y.a, 0, zset p.P.toNat (1 + rr), [], []⟩ : Ms)) rfl (by rw [rdyF_eq, show saidB (⟨2, nd, 0, y.b, y.a, 0, zset p.P.toNat (1 + rr), [], []⟩ : Ms).B (⟨2, nd, 0, y.b, y.a, 0, zset p.P.toNat (1 + rr), [], []⟩ : Ms).A (⟨2, nd, 0, y.b, y.a, 0, zset p.P.toNat (1 + rr), [], []⟩ : Ms).F y = false by unfold saidB; simp [Ne.symm hne]]; simp)
    exact ⟨by rw [a1, b1], by rw [a2, b2], a3⟩
  · obtain ⟨a1, a2, a3⟩ := ta_cm (m := (⟨8, y.n, 0, y.b, y.a, 0, zset p.P.toNat (1 + rr), [], []⟩ : Ms)) gg rfl (snd 8 y.n _ (.inr rfl) hnn (zset_len _ _) mf) rfl rfl
    obtain ⟨b1, b2, b3⟩ := cm_no (c := (⟨p0 p, J1, S1, [y], false⟩ : Cs)) (m := (⟨8, y.n, 0, y.b, y.a, 0, zset p.P.toNat (1 + rr), [], []⟩ : Ms)) rfl (by rw [cmtF_eq, hy3]; simp)
    exact ⟨by rw [a1, b1], by rw [a2, b2], by rw [a3, b3]⟩
  · obtain ⟨a1, a2, a3⟩ := ta_rd (m := (⟨2, y.n, 0, y.b, y.a, 0, zeros p.P.toNat, [], []⟩ : Ms)) gg rfl (snd 2 y.n _ (.inl rfl) hnn (zeros_len _) mz) rfl rfl
    obtain ⟨b1, b2⟩ := rd_same (c := (⟨p0 p, J1, S1, [y], false⟩ : Cs)) (m := (⟨2, y.n, 0, y.b, y.a, 0, zeros p.P.toNat, [], []⟩ : Ms)) rfl (by rw [rdyF_eq]; show (saidB y.b y.a y.n y && _) = true; rw [hsy, hy1, rch_zero (B := (⟨p0 p, J1, S1, [y], false⟩ : Cs).p.B) hyf (by show 0 ≤ p.B; omega)]; rfl) hyf
    exact ⟨by rw [a1, b1], by rw [a2, b2], a3⟩
  · obtain ⟨a1, a2, a3⟩ := ta_rd (m := (⟨2, y.n, 0, y.b, y.a, 0, zset p.P.toNat (1 + rr), [], []⟩ : Ms)) gg rfl (snd 2 y.n _ (.inl rfl) hnn (zset_len _ _) mf) rfl rfl
    obtain ⟨b1, b2⟩ := rd_go (c := (⟨p0 p, J1, S1, [y], false⟩ : Cs)) (m := (⟨2, y.n, 0, y.b, y.a, 0, zset p.P.toNat (1 + rr), [], []⟩ : Ms)) rfl (by rw [rdyF_eq]; show (saidB y.b y.a y.n y && _) = true; rw [hsy, hy1, rch_fine (B := (⟨p0 p, J1, S1, [y], false⟩ : Cs).p.B) hq1 hyf (by omega) hr1]; rfl) (by rw [hyf]; exact zset_ne hq1 (by omega))
    exact ⟨by rw [a1, b1], by rw [a2, b2], a3⟩
  · obtain ⟨a1, a2, a3⟩ := ta_cm (c := (⟨p0 p, J1, S1, [goY (rdyY y (zset p.P.toNat (1 + rr)))], false⟩ : Cs)) (m := (⟨8, y.n, 0, y.b, y.a, 0, zeros p.P.toNat, [], []⟩ : Ms)) gg rfl (snd 8 y.n _ (.inr rfl) hnn (zeros_len _) mz) rfl rfl
    obtain ⟨b1, b2, b3⟩ := cm_no (c := (⟨p0 p, J1, S1, [goY (rdyY y (zset p.P.toNat (1 + rr)))], false⟩ : Cs)) (m := (⟨8, y.n, 0, y.b, y.a, 0, zeros p.P.toNat, [], []⟩ : Ms)) rfl (by rw [cmtF_eq, show endAt (⟨8, y.n, 0, y.b, y.a, 0, zeros p.P.toNat, [], []⟩ : Ms).E (goY (rdyY y (zset p.P.toNat (1 + rr)))) = false from decide_eq_false (fun e => zset_ne (q := p.P.toNat) (v := 1 + rr) hq1 (by omega) e.symm)]; simp)
    exact ⟨by rw [a1, b1], by rw [a2, b2], by rw [a3, b3]⟩
  · obtain ⟨a1, a2, a3⟩ := ta_cm (c := (⟨p0 p, J1, S1, [goY (rdyY y (zset p.P.toNat (1 + rr)))], false⟩ : Cs)) (m := (⟨8, y.n, 0, y.b, y.a, 0, zset p.P.toNat (1 + rr), [], []⟩ : Ms)) gg rfl (snd 8 y.n _ (.inr rfl) hnn (zset_len _ _) mf) rfl rfl
    obtain ⟨J3, S3, b1, b2, b3, _, b5⟩ := cm_go (c := (⟨p0 p, J1, S1, [goY (rdyY y (zset p.P.toNat (1 + rr)))], false⟩ : Cs)) (m := (⟨8, y.n, 0, y.b, y.a, 0, zset p.P.toNat (1 + rr), [], []⟩ : Ms)) (y := goY (rdyY y (zset p.P.toNat (1 + rr)))) gg rfl (by rw [cmtF_eq]; show (saidB y.b y.a y.n (goY (rdyY y (zset p.P.toNat (1 + rr)))) && _) = true; rw [show saidB y.b y.a y.n (goY (rdyY y (zset p.P.toNat (1 + rr)))) = true by unfold saidB goY rdyY; simp, show inPh [3] (goY (rdyY y (zset p.P.toNat (1 + rr)))) = true from rfl, show endAt (⟨8, y.n, 0, y.b, y.a, 0, zset p.P.toNat (1 + rr), [], []⟩ : Ms).E (goY (rdyY y (zset p.P.toNat (1 + rr)))) = true from decide_eq_true rfl]; rfl) ⟨hyo.fm, mf, hyo.fl, by show (zset p.P.toNat (1 + rr)).length ≤ 4; rw [zset_len]; omega, by show (0 : Int) ≤ 0; omega, by show (0 : Int) < _; omega⟩ (by show Fwd J1.n.c (zset p.P.toNat (1 + rr)); rw [hn]; exact zset_fwd hq1 (by omega)) (by show J1.n.b < _; rw [hn]; show (0 : Int) < _; omega) (by show J1.g < _; rw [hj]; decide)
    refine ⟨J3, S3, by rw [a1, b1], by rw [a2, b2], by rw [a3, b3], ?_⟩
    rw [b5]
    show (⟨J1.n.b + 1, J1.n.c, zset p.P.toNat (1 + rr), J1.n.a⟩ : Nt) = _
    rw [hn]; rfl
end

end Go.Proofs.Ytpndafieknddcaa
