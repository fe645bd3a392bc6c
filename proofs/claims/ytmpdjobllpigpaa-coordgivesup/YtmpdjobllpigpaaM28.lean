/- Cv Cw Cx -/
import Derived.Test.YtmpdjobllpigpaaCu
namespace Go.Proofs.Ytmpdjobllpigpaa

open Ieee Go.RowKit

section

variable {wz w w' w2 : World} {A E C B : Nat → Prop} {sb cb jb : Nat} {c : Cs} {p : Pn} {v v1 v2 ev : Value} {W1 W2 : List Ye} {L : List Yt}

theorem trg_yr {W : List Ye} {base : Nat} (hr : w'.ownsRow base 56 7 v W.length (flatY W)) (hl : ∀ x ∈ W, OwN base w' x.fv x.y.f ∧ OwN base w' x.ev x.y.e) (hy : ∀ x ∈ W, x.y.ok) : Yr w' v W :=
  ⟨own_base hr (Nat.zero_le _), fun x hx => ⟨own_nv (hl x hx).1 (in64_of (hy x hx).fm), own_nv (hl x hx).2 (in64_of (hy x hx).em), fun _ hi => (nth_of (hy x hx).fm hi).1, fun _ hi => (nth_of (hy x hx).em hi).1⟩⟩
set_option maxRecDepth 100000 in
set_option maxHeartbeats 2000000 in
theorem tries19_walk (h1 : Yr w v1 W1) (h2 : Yr w v2 W2) (hy : W1.map Ye.y = W2.map Ye.y) (hl : W1.length ≤ 4) : Calls Try.prog 23 #[v1, v2] w fun e w' => e = .returned (.bool true) ∧ Below w.heap.size w w' := by
  have H1 : Hid (Yr w v1 W1) := h1
  have H2 : Hid (Yr w v2 W2) := h2
  have hlen : W1.length = W2.length := by have := congrArg List.length hy; simpa using this
  have HY : Hid (W1.map Ye.y = W2.map Ye.y) := hy
  obtain ⟨a1, c1, rfl, _, _⟩ := own_formY h1.row
  obtain ⟨a2, c2, rfl, _, _⟩ := own_formY h2.row
  have HLEN : Hid (W1.length = W2.length) := hlen
  have hq : ((W1.length : Int) != (W2.length : Int)) = false := by simp [hlen]
  have hlm : (W1.length : Int) ≤ 9223372036854775807 := by omega
  clear h1 h2 hy hlen
  go_enter Try.func23, Try.ntmps23
  go_wp2_with fail
  go_loopw [5] (fun iv wr => ∃ k : Nat, k ≤ W1.length ∧ iv = .int .i64 k ∧ Below w.heap.size w wr) (fun iv _ => W1.length - (intOf iv).toNat)
  case atStart => exact ⟨0, Nat.zero_le _, rfl, below_same _⟩
  case round =>
    obtain ⟨k, hk, rfl, hB⟩ := hrel
    have HW : Hid (Below w.heap.size w wr) := hB
    by_cases hlt : k < W1.length
    · have hlt2 : k < W2.length := by have := HLEN.out; omega
      obtain ⟨g1, k1, e1, _, _, hg1, p7⟩ := (H1.out.below hB).at hlt
      obtain ⟨g2, k2, e2, _, _, hg2, q7⟩ := (H2.out.below hB).at hlt2
      cases e1
      cases e2
      have hyl1 := (H1.out.below hB).ls _ (List.getElem_mem hlt)
      have hyl2 := (H2.out.below hB).ls _ (List.getElem_mem hlt2)
      obtain ⟨x, hx⟩ : ∃ x, x = W1[k] := ⟨_, rfl⟩
      obtain ⟨z, hz⟩ : ∃ z, z = W2[k] := ⟨_, rfl⟩
      rw [← hx] at p7 hyl1
      rw [← hz] at q7 hyl2
      have hxz : z.y = x.y := by
        have h9 : (W1.map Ye.y)[k]? = (W2.map Ye.y)[k]? := by rw [HY.out]
        rw [List.getElem?_map, List.getElem?_map, List.getElem?_eq_getElem hlt, List.getElem?_eq_getElem hlt2] at h9
        rw [hx, hz]
        exact (Option.some.inj h9).symm
      obtain ⟨fa, fc, ea, ec, f5, f6⟩ := hyl1.form
      obtain ⟨fb, fd, eb, ed, t5, t6⟩ := hyl2.form
      obtain ⟨p0, p1, p2, p3, p4, p5, p6, _⟩ := p7
      obtain ⟨q0, q1, q2, q3, q4, q5, q6, _⟩ := q7
      rw [f5] at p5
      rw [f6] at p6
      rw [t5, hxz] at q5
      rw [t6, hxz] at q6
      rw [hxz] at q0 q1 q2 q3 q4
      have HF1 : Hid (Nv wr (.slice fa x.y.f.length fc) x.y.f) := by show Nv _ _ _; rw [← f5]; exact hyl1.f
      have HE1 : Hid (Nv wr (.slice ea x.y.e.length ec) x.y.e) := by show Nv _ _ _; rw [← f6]; exact hyl1.e
      have HF2 : Hid (Nv wr (.slice fb x.y.f.length fd) x.y.f) := by have := hyl2.f; rw [t5, hxz] at this; exact this
      have HE2 : Hid (Nv wr (.slice eb x.y.e.length ed) x.y.e) := by have := hyl2.e; rw [t6, hxz] at this; exact this
      have hlti : (k : Int) < (W1.length : Int) := by omega
      have hlti2 : (k : Int) < (W2.length : Int) := by omega
      have hg1n : ¬ g1 = wr.heap.size := by omega
      have hg2n : ¬ g2 = wr.heap.size := by omega
      obtain ⟨w3, hw3⟩ : ∃ w3, w3 = (wr.alloc (Obj.cells #[.int .i64 x.y.b, .int .i64 x.y.a, .int .i64 x.y.n, .int .i64 x.y.h, .int .i64 x.y.t, .slice fa x.y.f.length fc, .slice ea x.y.e.length ec] 56)).alloc (Obj.cells #[.int .i64 x.y.b, .int .i64 x.y.a, .int .i64 x.y.n, .int .i64 x.y.h, .int .i64 x.y.t, .slice fb x.y.f.length fd, .slice eb x.y.e.length ed] 56) := ⟨_, rfl⟩
      have HW3 : Hid (w3 = (wr.alloc (Obj.cells #[.int .i64 x.y.b, .int .i64 x.y.a, .int .i64 x.y.n, .int .i64 x.y.h, .int .i64 x.y.t, .slice fa x.y.f.length fc, .slice ea x.y.e.length ec] 56)).alloc (Obj.cells #[.int .i64 x.y.b, .int .i64 x.y.a, .int .i64 x.y.n, .int .i64 x.y.h, .int .i64 x.y.t, .slice fb x.y.f.length fd, .slice eb x.y.e.length ed] 56)) := hw3
      have HB3 : Hid (Below wr.heap.size wr w3) := by show Below _ _ _; rw [hw3]; exact below_trans (below_alloc _ _) (below_alloc _ _)
      have h3a : w3.heap[wr.heap.size]? = some (.cells #[.int .i64 x.y.b, .int .i64 x.y.a, .int .i64 x.y.n, .int .i64 x.y.h, .int .i64 x.y.t, .slice fa x.y.f.length fc, .slice ea x.y.e.length ec] 56 (0, 0)) := by rw [hw3]; exact alloc_old (alloc_at rfl)
      have h3b : w3.heap[wr.heap.size + 1]? = some (.cells #[.int .i64 x.y.b, .int .i64 x.y.a, .int .i64 x.y.n, .int .i64 x.y.h, .int .i64 x.y.t, .slice fb x.y.f.length fd, .slice eb x.y.e.length ed] 56 (0, 0)) := by rw [hw3]; exact alloc_at (by simp)
      have H3A : Hid (w3.heap[wr.heap.size]? = some (.cells #[.int .i64 x.y.b, .int .i64 x.y.a, .int .i64 x.y.n, .int .i64 x.y.h, .int .i64 x.y.t, .slice fa x.y.f.length fc, .slice ea x.y.e.length ec] 56 (0, 0))) := h3a
      have H3B : Hid (w3.heap[wr.heap.size + 1]? = some (.cells #[.int .i64 x.y.b, .int .i64 x.y.a, .int .i64 x.y.n, .int .i64 x.y.h, .int .i64 x.y.t, .slice fb x.y.f.length fd, .slice eb x.y.e.length ed] 56 (0, 0))) := h3b
      have ra0 : w3.cell? ⟨wr.heap.size, 0, none⟩ = some (.int .i64 x.y.b) := by rw [blk_cell h3a]; rfl
      have rb0 : w3.cell? ⟨wr.heap.size + 1, 0, none⟩ = some (.int .i64 x.y.b) := by rw [blk_cell h3b]; rfl
      have ra1 : w3.cell? ⟨wr.heap.size, 1, none⟩ = some (.int .i64 x.y.a) := by rw [blk_cell h3a]; rfl
      have rb1 : w3.cell? ⟨wr.heap.size + 1, 1, none⟩ = some (.int .i64 x.y.a) := by rw [blk_cell h3b]; rfl
      have ra2 : w3.cell? ⟨wr.heap.size, 2, none⟩ = some (.int .i64 x.y.n) := by rw [blk_cell h3a]; rfl
      have rb2 : w3.cell? ⟨wr.heap.size + 1, 2, none⟩ = some (.int .i64 x.y.n) := by rw [blk_cell h3b]; rfl
      have ra3 : w3.cell? ⟨wr.heap.size, 3, none⟩ = some (.int .i64 x.y.h) := by rw [blk_cell h3a]; rfl
      have rb3 : w3.cell? ⟨wr.heap.size + 1, 3, none⟩ = some (.int .i64 x.y.h) := by rw [blk_cell h3b]; rfl
      have ra4 : w3.cell? ⟨wr.heap.size, 4, none⟩ = some (.int .i64 x.y.t) := by rw [blk_cell h3a]; rfl
      have rb4 : w3.cell? ⟨wr.heap.size + 1, 4, none⟩ = some (.int .i64 x.y.t) := by rw [blk_cell h3b]; rfl
      have ra5 : w3.cell? ⟨wr.heap.size, 5, none⟩ = some (.slice fa x.y.f.length fc) := by rw [blk_cell h3a]; rfl
      have rb5 : w3.cell? ⟨wr.heap.size + 1, 5, none⟩ = some (.slice fb x.y.f.length fd) := by rw [blk_cell h3b]; rfl
      clear hyl1 hyl2 hx hz hxz f5 f6 t5 t6 hB hw3 h3a h3b
      go_upto_region 8 with fail
      rw [← HW3.out]
      go_wp2_with fail
      refine (ints19_walk (HF1.out.below HB3.out) (HF2.out.below HB3.out)).mono ?_
      rw [decide_eq_true rfl]
      rintro e w4 ⟨rfl, hB4⟩
      have hb4 : Below wr.heap.size wr w4 := HB3.out.trans (hB4.mono HB3.out.size)
      have HB4 : Hid (Below wr.heap.size wr w4) := hb4
      have h4a := blk_below H3A.out hB4
      have h4b := blk_below H3B.out hB4
      have ra6 : w4.cell? ⟨wr.heap.size, 6, none⟩ = some (.slice ea x.y.e.length ec) := by rw [blk_cell h4a]; rfl
      have rb6 : w4.cell? ⟨wr.heap.size + 1, 6, none⟩ = some (.slice eb x.y.e.length ed) := by rw [blk_cell h4b]; rfl
      clear hB4 hb4 h4a h4b
      go_wp2_with fail
      refine (ints19_walk (HE1.out.below HB4.out) (HE2.out.below HB4.out)).mono ?_
      rw [decide_eq_true rfl]
      rintro e w5 ⟨rfl, hB5⟩
      have HB5 : Hid (Below w.heap.size w w5) := (HW.out.trans (HB4.out.mono HW.out.size)).trans (hB5.mono (Nat.le_trans HW.out.size HB4.out.size))
      clear hB5
      go_wp2_with fail
      go_roundw
      case rel => exact ⟨k + 1, by omega, by go_num, HB5.out⟩
      case measure => simp [intOf]; omega
    · have hnl : ¬ ((k : Int) < (W1.length : Int)) := by omega
      go_wp2_with fail
      go_ret
      exact ⟨rfl, HW.out⟩
/-- The statements' world in a block: the plan, the disk, the coordinator, what was sent. -/
def wC (p : Pn) (ov : Value) (sb cb : Nat) (sv : Value) : Array Value := #[.int .i64 p.P, .int .i64 p.S, .int .i64 p.W, ov, .int .i64 p.A, .int .i64 p.B, .int .i64 p.N, .int .i64 p.G, Pt sb, Pt cb, sv]
set_option maxRecDepth 100000 in
set_option maxHeartbeats 2000000 in
theorem act1_walk {WB : Nat} {ov : Value} {mo : Option Ms} {c' : Cs} (h : CW wz A sb cb c w) (hW : w.heap[WB]? = some (.cells (wC p ov sb cb (.slice none 0 0)) 31 (0, 0))) (aW : A WB) (ht : ∀ y ∈ c.L, y.t < 4294967295) (hwr : c.S.wr < 9223372036854775800) (h1 : tikC c = c') (h2 : tikM c = mo) (h3 : tikE c = 0) :
    Calls Try.prog 11 #[Pt WB, .agg #[.int .i64 1, .int .i64 0, .slice none 0 0]] w fun e w' => ∃ a n k, e = .returned (.tuple #[.slice a n k, .bool true]) ∧ CW wz A sb cb c' w' ∧ ChA wz A w w' := by
  have HC : Hid (CW wz A sb cb c w) := h
  have HT : Hid (∀ y ∈ c.L, y.t < 4294967295) := ht
  have HWR : Hid (c.S.wr < 9223372036854775800) := hwr
  have HE : Hid (tikC c = c' ∧ tikM c = mo ∧ tikE c = 0) := ⟨h1, h2, h3⟩
  obtain ⟨w0, hw0⟩ : ∃ w0, w0 = w.alloc (Obj.cells #[.int .i64 1, .int .i64 0, .slice none 0 0] 45) := ⟨_, rfl⟩
  have hb0 : Below w.heap.size w w0 := by rw [hw0]; exact below_alloc _ _
  have HW0 : Hid (w0 = w.alloc (Obj.cells #[.int .i64 1, .int .i64 0, .slice none 0 0] 45)) := hw0
  have HB0 : Hid (Below w.heap.size w w0) := hb0
  have HWB : Hid (w0.heap[WB]? = some (.cells (wC p ov sb cb (.slice none 0 0)) 31 (0, 0))) := blk_below hW hb0
  have HX0 : Hid (w0.heap[w.heap.size]? = some (.cells #[.int .i64 1, .int .i64 0, .slice none 0 0] 45 (0, 0))) := by show _ = _; rw [hw0]; exact alloc_at rfl
  have i9 : w.cell? ⟨WB, 9, none⟩ = some (.pointer (some ⟨cb, 0, none⟩)) := by rw [blk_cell hW]; rfl
  have hWl : WB < w.heap.size := blk_lt hW
  have hWn : ¬ WB = w.heap.size := by omega
  have HAW : Hid (A WB) := aW
  clear h ht hwr h1 h2 h3 hw0 hb0 hW aW
  go_enter Try.func11, Try.ntmps11
  go_wp2_with fail
  rw [← HW0.out]
  refine (ctries_walk (HC.out.below HB0.out)).mono ?_
  rintro e w1 ⟨v1, W1, rfl, _, hr1, _, hB1⟩
  obtain ⟨a1, c1, rfl, _, _⟩ := own_formY hr1
  have HB01 : Hid (Below w.heap.size w w1) := HB0.out.trans (hB1.mono HB0.out.size)
  have hX1 := blk_below HX0.out hB1
  have hW1 := blk_below HWB.out hB1
  have x0 : w1.cell? ⟨w.heap.size, 0, none⟩ = some (.int .i64 1) := by rw [blk_cell hX1]; rfl
  have k9 : w1.cell? ⟨WB, 9, none⟩ = some (.pointer (some ⟨cb, 0, none⟩)) := by rw [blk_cell hW1]; rfl
  generalize W1.length = n1
  clear hr1 hB1 hX1 hW1
  go_wp2_with fail
  refine (tick_walk (HC.out.below HB01.out) HT.out HWR.out).mono ?_
  rw [HE.out.1, HE.out.2.1, HE.out.2.2]
  rintro e w2 ⟨v2, B2, rfl, hmg, _, hcw, hch⟩
  have HCW : Hid (CW wz A sb cb c' w2) := hcw.less (fun x hx => .inl hx)
  have HCH : Hid (ChA wz A w w2) := (Ch.of_below HB01.out).self hch
  obtain ⟨a2, n2, k2, rfl⟩ := hmg.nil_or
  clear hmg hcw hch
  go_wp2_with fail
  go_ret2
  exact ⟨a2, n2, k2, rfl, HCW.out, HCH.out⟩
end

end Go.Proofs.Ytmpdjobllpigpaa

namespace Go.Proofs.Ytmpdjobllpigpaa

open Ieee Go.RowKit

def p0 (p : Pn) : Pn := { p with l := [] }
def yF (p : Pn) : Yt := ⟨1, 1, (p0 p).worker 1, 1, 0, zeros p.P.toNat, []⟩
section

variable {c : Cs} {p : Pn} {J : Jn} {S : Dk} {y : Yt} {m : Ms} {l : List Int} {k F b a : Int}

theorem wk_of (h : p.is = true) : (p0 p).worker 1 = 1 + 1 % p.W ∧ 1 ≤ (p0 p).worker 1 ∧ (p0 p).worker 1 ≤ 4 := by
  obtain ⟨_, _, ⟨h1, h2⟩, _⟩ := Pn.is_num h
  have e : (p0 p).worker 1 = 1 + 1 % p.W := by
    unfold Pn.worker
    rw [if_pos (by rw [show (p0 p).is = true from is_less h]; rfl)]; rfl
  refine ⟨e, ?_, ?_⟩
  · rw [e]; have := Int.emod_nonneg 1 (show p.W ≠ 0 by omega); omega
  · rw [e]; have := Int.emod_lt_of_pos 1 (show 0 < p.W by omega); omega
theorem yF_ok (h : p.is = true) : (yF p).ok := by
  obtain ⟨kk, hk, h1, h4⟩ := is_P h
  refine ⟨fun v hv => ?_, by show ∀ v ∈ ([] : List Int), _; simp, by show (zeros p.P.toNat).length ≤ 4; rw [zeros_len]; omega, by show ([] : List Int).length ≤ 4; simp, by show (0 : Int) ≤ 0; omega, by show (0 : Int) < _; omega⟩
  have hv' : v ∈ zeros p.P.toNat := hv
  unfold zeros at hv'
  obtain ⟨_, rfl⟩ := List.mem_replicate.1 hv'
  omega
theorem tk_fr (h : p.is = true) : ∃ J S, tikC (frC p) = ⟨p0 p, J, S, [yF p], false⟩ ∧ tikM (frC p) = some (abtM 1 (yF p) (zeros p.P.toNat)) ∧ tikE (frC p) = 0 ∧ Gd p.P J S ∧ J.n = ⟨0, zeros p.P.toNat, zeros p.P.toNat, 1⟩ ∧ J.g = 2 ∧ S.wr = 3 := by
  obtain ⟨hg, hw, hr, hn, hj⟩ := fr_gd h
  obtain ⟨_, _, _, _, _, ⟨hN1, hN2⟩, _⟩ := Pn.is_num h
  have he : ¬ (frC p).endB = true := by rw [gd_end (c := frC p) hg rfl]; simp
  have ht : tik1 (frC p) = frC p := rfl
  have hm : mayB (frC p) = true := by
    unfold mayB
    rw [decide_eq_true (show ((frC p).L.length : Int) < (frC p).p.N by show (0 : Int) < p.N; omega)]; rfl
  obtain ⟨b1, b2, b3, b4, b5⟩ := beg_gd (c := frC p) hg (by rw [hn]; show (0 : Int) < _; omega) (by rw [hj]; decide)
  have hC : begC (frC p) = ⟨p0 p, savJ (frC p).J (frC p).S p.P (begN (frC p)), savS (frC p).J (frC p).S p.P (begN (frC p)), [yF p], false⟩ := by
    unfold begC; rw [if_pos b1]; rfl
  refine ⟨_, _, ?_, ?_, ?_, b2, ?_, ?_, ?_⟩
  · unfold tikC; rw [if_neg he, ht, if_pos hm, hC]; rfl
  · unfold tikM; rw [if_neg he, ht, if_pos hm]; unfold begM; rw [if_pos b1]; rfl
  · unfold tikE; rw [if_neg he, ht, if_pos hm]; unfold begE; rw [if_pos b1]
  · rw [b3]; rfl
  · rw [b3]; show (frC p).J.g + 1 = 2; rw [hj]
  · rw [b4, hw]
theorem snd_ok (hk : k = 2 ∨ k = 8) (hF : 0 ≤ F ∧ F < 9) (hb : 1 ≤ b ∧ b ≤ 1099511627776) (ha : 1 ≤ a ∧ a ≤ 1099511627776) (hl : 1 ≤ l.length ∧ l.length ≤ 4) (hm : ∀ v ∈ l, 0 ≤ v ∧ v ≤ 256) : sndM ⟨k, F, 0, b, a, 0, l, [], []⟩ = true := by
  have hf : fld k = 1 := by unfold fld; rw [if_pos (by rcases hk with e | e <;> simp [e])]
  unfold sndM
  simp only [Bool.and_eq_true]
  refine ⟨by unfold nodB; simp [hF.1, hF.2], by decide, by unfold ctB; simp [hb.1, hb.2], by unfold ctB; simp [ha.1, ha.2], ?_, ?_⟩
  · rw [hf]; unfold bareB; simp
  · rw [hf]; unfold askB; rw [if_pos rfl]; unfold endB
    simp only [Bool.and_eq_true, decide_eq_true_eq, List.all_eq_true]
    exact ⟨⟨hl.1, hl.2⟩, fun v hv => hm v hv⟩
theorem ta_rd (hg : Gd c.p.P c.J c.S) (ho : c.o = false) (hs : sndM m = true) (hT : m.T = 0) (hK : m.K = 2) : taC c m = { c with L := rdyL c m } ∧ taM c m = rdyM c m ∧ taE c m = 0 := by
  have he : ¬ c.endB = true := by rw [gd_end hg ho]; simp
  have hs' : ¬ sndM m = false := by rw [hs]; simp
  have hT' : ¬ m.T ≠ 0 := fun h => h hT
  have h0 : ta0 c = c := by unfold ta0; cases c; simp only at ho; subst ho; rfl
  refine ⟨?_, ?_, ?_⟩
  · unfold taC; rw [if_neg he, if_neg hs', if_neg hT', if_pos hK, h0]
  · unfold taM; rw [if_neg he, if_neg hs', if_neg hT', if_pos hK, h0]
  · unfold taE; rw [if_neg he, if_neg hs', if_neg hT', if_pos hK]
theorem ta_cm (hg : Gd c.p.P c.J c.S) (ho : c.o = false) (hs : sndM m = true) (hT : m.T = 0) (hK : m.K = 8) : taC c m = cmtC c m ∧ taM c m = cmtM c m ∧ taE c m = cmtR c m := by
  have he : ¬ c.endB = true := by rw [gd_end hg ho]; simp
  have hs' : ¬ sndM m = false := by rw [hs]; simp
  have hT' : ¬ m.T ≠ 0 := fun h => h hT
  have hK' : ¬ m.K = 2 := by rw [hK]; decide
  have h0 : ta0 c = c := by unfold ta0; cases c; simp only at ho; subst ho; rfl
  refine ⟨?_, ?_, ?_⟩
  · unfold taC; rw [if_neg he, if_neg hs', if_neg hT', if_neg hK', if_pos hK, h0]
  · unfold taM; rw [if_neg he, if_neg hs', if_neg hT', if_neg hK', if_pos hK, h0]
  · unfold taE; rw [if_neg he, if_neg hs', if_neg hT', if_neg hK', if_pos hK, h0]
theorem rd_no (hL : c.L = [y]) (h : rdyF c m y = false) : rdyL c m = [y] ∧ rdyM c m = none := by
  have hi : rdyI c m < 0 := by unfold rdyI; rw [hL, idxY, if_neg (by rw [h]; simp), idxY]; decide
  exact ⟨by unfold rdyL; rw [if_pos hi, hL], by unfold rdyM; rw [if_pos hi]⟩
theorem rd_0 (hL : c.L = [y]) (h : rdyF c m y = true) : rdyI c m = 0 := by unfold rdyI; rw [hL]; exact idxY_head h
theorem rd_same (hL : c.L = [y]) (h : rdyF c m y = true) (hf : y.f = m.E) : rdyL c m = [] ∧ rdyM c m = none := by
  have hi := rd_0 hL h
  have h0 : ¬ rdyI c m < 0 := by rw [hi]; decide
  have hg : (c.L.getD (rdyI c m).toNat yD).f = m.E := by rw [hi, hL]; exact hf
  exact ⟨by unfold rdyL; rw [if_neg h0, if_pos hg, hi]; rfl, by unfold rdyM; rw [if_neg h0, if_pos hg]⟩
theorem rd_go (hL : c.L = [y]) (h : rdyF c m y = true) (hf : y.f ≠ m.E) : rdyL c m = [goY (rdyY y m.E)] ∧ rdyM c m = some (abtM 3 (goY (rdyY y m.E)) m.E) := by
  have hi := rd_0 hL h
  have h0 : ¬ rdyI c m < 0 := by rw [hi]; decide
  have hg : ¬ (c.L.getD (rdyI c m).toNat yD).f = m.E := by rw [hi, hL]; exact hf
  have hs : rdyS c m = [rdyY y m.E] := by unfold rdyS; rw [hi, hL]; rfl
  exact ⟨by unfold rdyL; rw [if_neg h0, if_neg hg, hs]; rfl, by unfold rdyM; rw [if_neg h0, if_neg hg, hs]; rfl⟩
theorem cm_no (hL : c.L = [y]) (h : cmtF m y = false) : cmtC c m = c ∧ cmtM c m = none ∧ cmtR c m = 0 := by
  have hi : cmtI c m ≠ 0 := by unfold cmtI; rw [hL, idxY, if_neg (by rw [h]; simp), idxY]; decide
  exact ⟨if_pos hi, if_pos hi, if_pos hi⟩
theorem cm_go (hg : Gd c.p.P c.J c.S) (hL : c.L = [y]) (h : cmtF m y = true) (hy : y.ok) (hf : Fwd c.J.n.c y.e) (hb : c.J.n.b < 1099511627776) (hgn : c.J.g < 1099511627776) : ∃ J' S', cmtC c m = { c with J := J', S := S', L := [] } ∧ cmtM c m = none ∧ cmtR c m = 0 ∧ Gd c.p.P J' S' ∧ J'.n = ⟨c.J.n.b + 1, c.J.n.c, y.e, c.J.n.a⟩ := by
  have hi : ¬ cmtI c m ≠ 0 := fun h' => h' (by unfold cmtI; rw [hL]; exact idxY_head h)
  obtain ⟨b1, b2, b3, _, _⟩ := cmt_gd hg hL hy hf hb hgn
  have he : ¬ cmtE c ≠ 0 := fun h' => h' b1
  have hd : c.L.drop 1 = [] := by rw [hL]; rfl
  refine ⟨_, _, ?_, ?_, ?_, b2, by rw [b3]⟩
  · unfold cmtC; rw [if_neg hi, if_neg he, hd]; rfl
  · unfold cmtM; rw [if_neg hi, if_neg he, hd]; rfl
  · unfold cmtR; rw [if_neg hi, if_neg he]
theorem rdyF_eq : rdyF c m y = (saidB m.B m.A m.F y && (inPh [1] y && (rchB m.E c.p.B y && true))) := by unfold rdyF allB; simp
theorem cmtF_eq : cmtF m y = (saidB m.B m.A m.F y && (inPh [3] y && (endAt m.E y && true))) := by unfold cmtF allB; simp
/-- zeros with another first. -/
def zset (q : Nat) (v : Int) : List Int := (zeros q).set 0 v
theorem zset_len (q : Nat) (v : Int) : (zset q v).length = q := by unfold zset; rw [List.length_set, zeros_len]
theorem zset_m {q : Nat} {v : Int} (h0 : 0 ≤ v) (h1 : v ≤ 256) : ∀ x ∈ zset q v, 0 ≤ x ∧ x ≤ 256 := fun x hx => by
  rcases List.mem_or_eq_of_mem_set hx with h | h
  · unfold zeros at h
    obtain ⟨_, rfl⟩ := List.mem_replicate.1 h
    omega
  · omega
theorem zset_nth {q : Nat} {v : Int} (hq : 1 ≤ q) (i : Nat) : nth (zset q v) i = if i = 0 then v else 0 := by
  unfold zset nth
  rw [List.getD_eq_getElem?_getD, List.getElem?_set]
  split
  · rename_i h; subst h; rw [if_pos (by rw [zeros_len]; omega), if_pos rfl]; rfl
  · rename_i h
    have := zeros_nth q i
    unfold nth at this
    rw [List.getD_eq_getElem?_getD] at this
    rw [this, if_neg (fun e => h e.symm)]
theorem zset_fwd {q : Nat} {v : Int} (hq : 1 ≤ q) (h0 : 0 ≤ v) : Fwd (zeros q) (zset q v) := ⟨by rw [zset_len, zeros_len], fun i _ => by rw [zeros_nth, zset_nth hq]; split <;> omega⟩
theorem zset_ne {q : Nat} {v : Int} (hq : 1 ≤ q) (h0 : 0 < v) : zeros q ≠ zset q v := fun e => by
  have h1 := zeros_nth q 0
  rw [e, zset_nth hq, if_pos rfl] at h1
  omega
theorem rch_far {q : Nat} {B : Int} {y : Yt} (hq : 1 ≤ q) (hy : y.f = zeros q) : rchB (zset q (B + 1)) B y = false := by
  unfold rchB
  rw [decide_eq_false (fun h => by
    have := h 0 (by rw [zset_len]; omega)
    rw [hy, zeros_nth, zset_nth hq, if_pos rfl] at this
    omega)]
  simp
theorem rch_fine {q : Nat} {B v : Int} {y : Yt} (hq : 1 ≤ q) (hy : y.f = zeros q) (h0 : 0 ≤ v) (h1 : v ≤ B) : rchB (zset q v) B y = true := by
  unfold rchB
  rw [hy, (zset_fwd hq h0).yes, decide_eq_true (fun i _ => by rw [zeros_nth, zset_nth hq]; split <;> omega)]; rfl
theorem rch_zero {q : Nat} {B : Int} {y : Yt} (hy : y.f = zeros q) (hB : 0 ≤ B) : rchB (zeros q) B y = true := by
  unfold rchB
  rw [hy, Fwd.yes ⟨rfl, fun _ _ => Int.le_refl _⟩, decide_eq_true (fun i _ => by rw [zeros_nth]; omega)]; rfl
end

end Go.Proofs.Ytmpdjobllpigpaa

namespace Go.Proofs.Ytmpdjobllpigpaa

open Ieee Go.RowKit

/-- What the statement keeps: its world, a try in a box, a row with that try. -/
structure Ids (A : Nat → Prop) (WB TB : Nat) (p : Pn) (ov : Value) (sb cb : Nat) (x : Ye) (vl : Value) (w : World) : Prop where
  wb : w.heap[WB]? = some (.cells (wC p ov sb cb (.slice none 0 0)) 31 (0, 0))
  aw : A WB
  tb : w.heap[TB]? = some (.cells #[.int .i64 x.y.b, .int .i64 x.y.a, .int .i64 x.y.n, .int .i64 x.y.h, .int .i64 x.y.t, x.fv, x.ev] 56 (0, 0))
  atb : A TB
  xf : OwN 0 w x.fv x.y.f
  xe : OwN 0 w x.ev x.y.e
  af : ∀ b, x.fv.ownBlock = some b → A b
  ae : ∀ b, x.ev.ownBlock = some b → A b
  row : w.ownsRow 0 56 7 vl 1 (flatY [x])
  ar : ∀ b, vl.ownBlock = some b → A b
/-- A list in blocks of A. -/
structure Lk (A : Nat → Prop) (v : Value) (l : List Int) (w : World) : Prop where
  o : OwN 0 w v l
  a : ∀ b, v.ownBlock = some b → A b
section

variable {A A' : Nat → Prop} {WB TB : Nat} {p : Pn} {ov : Value} {sb cb : Nat} {x : Ye} {vl v : Value} {l : List Int} {wz w w' : World} {c : Cs}

theorem Ids.keep (h : Ids A WB TB p ov sb cb x vl w) (hk : ∀ b, A b → w'.heap[b]? = w.heap[b]?) : Ids A WB TB p ov sb cb x vl w' :=
  ⟨by rw [hk _ h.aw]; exact h.wb, h.aw, by rw [hk _ h.atb]; exact h.tb, h.atb, row_keep h.xf fun b hb => hk b (h.af b hb), row_keep h.xe fun b hb => hk b (h.ae b hb), h.af, h.ae, row_keep h.row fun b hb => hk b (h.ar b hb), h.ar⟩
theorem Ids.mono (h : Ids A WB TB p ov sb cb x vl w) (hA : ∀ b, A b → A' b) : Ids A' WB TB p ov sb cb x vl w :=
  ⟨h.wb, hA _ h.aw, h.tb, hA _ h.atb, h.xf, h.xe, fun b hb => hA b (h.af b hb), fun b hb => hA b (h.ae b hb), h.row, fun b hb => hA b (h.ar b hb)⟩
theorem Lk.keep (h : Lk A v l w) (hk : ∀ b, A b → w'.heap[b]? = w.heap[b]?) : Lk A v l w' := ⟨row_keep h.o fun b hb => hk b (h.a b hb), h.a⟩
theorem Lk.mono (h : Lk A v l w) (hA : ∀ b, A b → A' b) : Lk A' v l w := ⟨h.o, fun b hb => hA b (h.a b hb)⟩
theorem kp_cha (hc : ChA wz A w w') (h : CW wz A sb cb c w) : ∀ b, A b → w'.heap[b]? = w.heap[b]? := fun b hb => hc.block b (h.al hb) (fun h => h.2 hb)
theorem kp_bel (hb : Below w.heap.size w w') (h : CW wz A sb cb c w) : ∀ b, A b → w'.heap[b]? = w.heap[b]? := fun b hA => hb.block b (h.al hA)
theorem Ids.yl (h : Ids A WB TB p ov sb cb x vl w) (hy : x.y.ok) : Yl w x := ⟨own_nv h.xf (in64_of hy.fm), own_nv h.xe (in64_of hy.em), fun _ hi => (nth_of hy.fm hi).1, fun _ hi => (nth_of hy.em hi).1⟩
theorem Ids.yr (h : Ids A WB TB p ov sb cb x vl w) (hy : x.y.ok) : Yr w vl [x] := ⟨h.row, fun z hz => by rw [List.mem_singleton] at hz; rw [hz]; exact h.yl hy⟩
theorem id_math {J1 : Jn} {S1 : Dk} {y : Yt} {rr nd : Int} (h : p.is = true) (hg : Gd p.P J1 S1) (hn : J1.n = ⟨0, zeros p.P.toNat, zeros p.P.toNat, 1⟩) (hj : J1.g = 2) (hy : y = yF p) (hr0 : 0 ≤ rr) (hr1 : 1 + rr ≤ p.B) (hnd : 0 ≤ nd ∧ nd < 9) :
    (taC (⟨p0 p, J1, S1, [y], false⟩ : Cs) (⟨2, y.n, 0, y.b, y.a, 0, zset p.P.toNat (p.B + 1), [], []⟩ : Ms) = (⟨p0 p, J1, S1, [y], false⟩ : Cs) ∧ taM (⟨p0 p, J1, S1, [y], false⟩ : Cs) (⟨2, y.n, 0, y.b, y.a, 0, zset p.P.toNat (p.B + 1), [], []⟩ : Ms) = none ∧ taE (⟨p0 p, J1, S1, [y], false⟩ : Cs) (⟨2, y.n, 0, y.b, y.a, 0, zset p.P.toNat (p.B + 1), [], []⟩ : Ms) = 0) ∧ (nd ≠ y.n → taC (⟨p0 p, J1, S1, [y], false⟩ : Cs) (⟨2, nd, 0, y.b, y.a, 0, zset p.P.toNat (1 + rr), [], []⟩ : Ms) = (⟨p0 p, J1, S1, [y], false⟩ : Cs) ∧ taM (⟨p0 p, J1, S1, [y], false⟩ : Cs) (⟨2, nd, 0, y.b, y.a, 0, zset p.P.toNat (1 + rr), [], []⟩ : Ms) = none ∧ taE (⟨p0 p, J1, S1, [y], false⟩ : Cs) (⟨2, nd, 0, y.b, y.a, 0, zset p.P.toNat (1 + rr), [], []⟩ : Ms) = 0) ∧ (taC (⟨p0 p, J1, S1, [y], false⟩ : Cs) (⟨8, y.n, 0, y.b, y.a, 0, zset p.P.toNat (1 + rr), [], []⟩ : Ms) = (⟨p0 p, J1, S1, [y], false⟩ : Cs) ∧ taM (⟨p0 p, J1, S1, [y], false⟩ : Cs) (⟨8, y.n, 0, y.b, y.a, 0, zset p.P.toNat (1 + rr), [], []⟩ : Ms) = none ∧ taE (⟨p0 p, J1, S1, [y], false⟩ : Cs) (⟨8, y.n, 0, y.b, y.a, 0, zset p.P.toNat (1 + rr), [], []⟩ : Ms) = 0) ∧ (taC (⟨p0 p, J1, S1, [y], false⟩ : Cs) (⟨2, y.n, 0, y.b, y.a, 0, zeros p.P.toNat, [], []⟩ : Ms) = (⟨p0 p, J1, S1, [], false⟩ : Cs) ∧ taM (⟨p0 p, J1, S1, [y], false⟩ : Cs) (⟨2, y.n, 0, y.b, y.a, 0, zeros p.P.toNat, [], []⟩ : Ms) = none ∧ taE (⟨p0 p, J1, S1, [y], false⟩ : Cs) (⟨2, y.n, 0, y.b, y.a, 0, zeros p.P.toNat, [], []⟩ : Ms) = 0) ∧ (taC (⟨p0 p, J1, S1, [y], false⟩ : Cs) (⟨2, y.n, 0, y.b, y.a, 0, zset p.P.toNat (1 + rr), [], []⟩ : Ms) = (⟨p0 p, J1, S1, [goY (rdyY y (zset p.P.toNat (1 + rr)))], false⟩ : Cs) ∧ taM (⟨p0 p, J1, S1, [y], false⟩ : Cs) (⟨2, y.n, 0, y.b, y.a, 0, zset p.P.toNat (1 + rr), [], []⟩ : Ms) = some (abtM 3 (goY (rdyY y (zset p.P.toNat (1 + rr)))) (zset p.P.toNat (1 + rr))) ∧ taE (⟨p0 p, J1, S1, [y], false⟩ : Cs) (⟨2, y.n, 0, y.b, y.a, 0, zset p.P.toNat (1 + rr), [], []⟩ : Ms) = 0) ∧ (taC (⟨p0 p, J1, S1, [goY (rdyY y (zset p.P.toNat (1 + rr)))], false⟩ : Cs) (⟨8, y.n, 0, y.b, y.a, 0, zeros p.P.toNat, [], []⟩ : Ms) = (⟨p0 p, J1, S1, [goY (rdyY y (zset p.P.toNat (1 + rr)))], false⟩ : Cs) ∧ taM (⟨p0 p, J1, S1, [goY (rdyY y (zset p.P.toNat (1 + rr)))], false⟩ : Cs) (⟨8, y.n, 0, y.b, y.a, 0, zeros p.P.toNat, [], []⟩ : Ms) = none ∧ taE (⟨p0 p, J1, S1, [goY (rdyY y (zset p.P.toNat (1 + rr)))], false⟩ : Cs) (⟨8, y.n, 0, y.b, y.a, 0, zeros p.P.toNat, [], []⟩ : Ms) = 0) ∧ ∃ J3 S3, taC (⟨p0 p, J1, S1, [goY (rdyY y (zset p.P.toNat (1 + rr)))], false⟩ : Cs) (⟨8, y.n, 0, y.b, y.a, 0, zset p.P.toNat (1 + rr), [], []⟩ : Ms) = (⟨p0 p, J3, S3, [], false⟩ : Cs) ∧ taM (⟨p0 p, J1, S1, [goY (rdyY y (zset p.P.toNat (1 + rr)))], false⟩ : Cs) (⟨8, y.n, 0, y.b, y.a, 0, zset p.P.toNat (1 + rr), [], []⟩ : Ms) = none ∧ taE (⟨p0 p, J1, S1, [goY (rdyY y (zset p.P.toNat (1 + rr)))], false⟩ : Cs) (⟨8, y.n, 0, y.b, y.a, 0, zset p.P.toNat (1 + rr), [], []⟩ : Ms) = 0 ∧ J3.n = ⟨1, zeros p.P.toNat, zset p.P.toNat (1 + rr), 1⟩ := by
  obtain ⟨kk, hk, hk1, hk4⟩ := is_P h
  obtain ⟨_, _, _, _, ⟨hB1, hB2⟩, _⟩ := Pn.is_num h
  have hq : p.P.toNat = kk := by rw [hk]; rfl
  have hq1 : 1 ≤ p.P.toNat := by omega
  obtain ⟨_, hw1, hw2⟩ := wk_of h
  have hyb : y.b = 1 := by rw [hy]; rfl
  have hya : y.a = 1 := by rw [hy]; rfl
  have hyn : y.n = (p0 p).worker 1 := by rw [hy]; rfl
  have hyf : y.f = zeros p.P.toNat := by rw [hy]; rfl
  have hyo : y.ok := by rw [hy]; exact yF_ok h
  have hy1 : inPh [1] y = true := by rw [hy]; rfl
  have hy3 : inPh [3] y = false := by rw [hy]; rfl
  have hsy : saidB y.b y.a y.n y = true := by unfold saidB; simp
  have snd : ∀ (k F : Int) (l : List Int), (k = 2 ∨ k = 8) → (0 ≤ F ∧ F < 9) → l.length = p.P.toNat → (∀ v ∈ l, 0 ≤ v ∧ v ≤ 256) → sndM ⟨k, F, 0, y.b, y.a, 0, l, [], []⟩ = true := fun k F l h1 h2 h3 h4 => snd_ok h1 h2 (by rw [hyb]; omega) (by rw [hya]; omega) (by omega) h4
  have hnn : 0 ≤ y.n ∧ y.n < 9 := by rw [hyn]; omega
  have mz : ∀ v ∈ zeros p.P.toNat, 0 ≤ v ∧ v ≤ 256 := fun v hv => by unfold zeros at hv; obtain ⟨_, rfl⟩ := List.mem_replicate.1 hv; omega
  have mf := zset_m (q := p.P.toNat) (v := 1 + rr) (by omega) (by omega)
  have mr := zset_m (q := p.P.toNat) (v := p.B + 1) (by omega) (by omega)
  have gg : Gd (⟨p0 p, J1, S1, [y], false⟩ : Cs).p.P (⟨p0 p, J1, S1, [y], false⟩ : Cs).J (⟨p0 p, J1, S1, [y], false⟩ : Cs).S := hg
  refine ⟨?_, fun hne => ?_, ?_, ?_, ?_, ?_, ?_⟩
  · obtain ⟨a1, a2, a3⟩ := ta_rd (m := (⟨2, y.n, 0, y.b, y.a, 0, zset p.P.toNat (p.B + 1), [], []⟩ : Ms)) gg rfl (snd 2 y.n _ (.inl rfl) hnn (zset_len _ _) mr) rfl rfl
    obtain ⟨b1, b2⟩ := rd_no (c := (⟨p0 p, J1, S1, [y], false⟩ : Cs)) (m := (⟨2, y.n, 0, y.b, y.a, 0, zset p.P.toNat (p.B + 1), [], []⟩ : Ms)) rfl (by rw [rdyF_eq]; show (_ && (_ && (rchB (zset p.P.toNat (p.B + 1)) p.B y && true))) = false; rw [rch_far hq1 hyf]; simp)
    exact ⟨by rw [a1, b1], by rw [a2, b2], a3⟩
  · obtain ⟨a1, a2, a3⟩ := ta_rd (m := (⟨2, nd, 0, y.b, y.a, 0, zset p.P.toNat (1 + rr), [], []⟩ : Ms)) gg rfl (snd 2 nd _ (.inl rfl) hnd (zset_len _ _) mf) rfl rfl
    obtain ⟨b1, b2⟩ := rd_no (c := (⟨p0 p, J1, S1, [y], false⟩ : Cs)) (m := (⟨2, nd, 0, y.b, y.a, 0, zset p.P.toNat (1 + rr), [], []⟩ : Ms)) rfl (by rw [rdyF_eq, show saidB (⟨2, nd, 0, y.b, y.a, 0, zset p.P.toNat (1 + rr), [], []⟩ : Ms).B (⟨2, nd, 0, y.b, y.a, 0, zset p.P.toNat (1 + rr), [], []⟩ : Ms).A (⟨2, nd, 0, y.b, y.a, 0, zset p.P.toNat (1 + rr), [], []⟩ : Ms).F y = false by unfold saidB; simp [Ne.symm hne]]; simp)
    exact ⟨by rw [a1, b1], by rw [a2, b2], a3⟩
  · obtain ⟨a1, a2, a3⟩ := ta_cm (m := (⟨8, y.n, 0, y.b, y.a, 0, zset p.P.toNat (1 + rr), [], []⟩ : Ms)) gg rfl (snd 8 y.n _ (.inr rfl) hnn (zset_len _ _) mf) rfl rfl
    obtain ⟨b1, b2, b3⟩ := cm_no (c := (⟨p0 p, J1, S1, [y], false⟩ : Cs)) (m := (⟨8, y.n, 0, y.b, y.a, 0, zset p.P.toNat (1 + rr), [], []⟩ : Ms)) rfl (by rw [cmtF_eq, hy3]; simp)
    exact ⟨by rw [a1, b1], by rw [a2, b2], by rw [a3, b3]⟩
  · obtain ⟨a1, a2, a3⟩ := ta_rd (m := (⟨2, y.n, 0, y.b, y.a, 0, zeros p.P.toNat, [], []⟩ : Ms)) gg rfl (snd 2 y.n _ (.inl rfl) hnn (zeros_len _) mz) rfl rfl
    obtain ⟨b1, b2⟩ := rd_same (c := (⟨p0 p, J1, S1, [y], false⟩ : Cs)) (m := (⟨2, y.n, 0, y.b, y.a, 0, zeros p.P.toNat, [], []⟩ : Ms)) rfl (by rw [rdyF_eq]; show (saidB y.b y.a y.n y && _) = true; rw [hsy, hy1, rch_zero (B := (⟨p0 p, J1, S1, [y], false⟩ : Cs).p.B) hyf (by show 0 ≤ p.B; omega)]; rfl) hyf
    exact ⟨by rw [a1, b1], by rw [a2, b2], a3⟩
  · obtain ⟨a1, a2, a3⟩ := ta_rd (m := (⟨2, y.n, 0, y.b, y.a, 0, zset p.P.toNat (1 + rr), [], []⟩ : Ms)) gg rfl (snd 2 y.n _ (.inl rfl) hnn (zset_len _ _) mf) rfl rfl
    obtain ⟨b1, b2⟩ := rd_go (c := (⟨p0 p, J1, S1, [y], false⟩ : Cs)) (m := (⟨2, y.n, 0, y.b, y.a, 0, zset p.P.toNat (1 + rr), [], []⟩ : Ms)) rfl (by rw [rdyF_eq]; show (saidB y.b y.a y.n y && _) = true; rw [hsy, hy1, rch_fine (B := (⟨p0 p, J1, S1, [y], false⟩ : Cs).p.B) hq1 hyf (by omega) hr1]; rfl) (by rw [hyf]; exact zset_ne hq1 (by omega))
    exact ⟨by rw [a1, b1], by rw [a2, b2], a3⟩
  · obtain ⟨a1, a2, a3⟩ := ta_cm (c := (⟨p0 p, J1, S1, [goY (rdyY y (zset p.P.toNat (1 + rr)))], false⟩ : Cs)) (m := (⟨8, y.n, 0, y.b, y.a, 0, zeros p.P.toNat, [], []⟩ : Ms)) gg rfl (snd 8 y.n _ (.inr rfl) hnn (zeros_len _) mz) rfl rfl
    obtain ⟨b1, b2, b3⟩ := cm_no (c := (⟨p0 p, J1, S1, [goY (rdyY y (zset p.P.toNat (1 + rr)))], false⟩ : Cs)) (m := (⟨8, y.n, 0, y.b, y.a, 0, zeros p.P.toNat, [], []⟩ : Ms)) rfl (by rw [cmtF_eq, show endAt (⟨8, y.n, 0, y.b, y.a, 0, zeros p.P.toNat, [], []⟩ : Ms).E (goY (rdyY y (zset p.P.toNat (1 + rr)))) = false from decide_eq_false (fun e => zset_ne (q := p.P.toNat) (v := 1 + rr) hq1 (by omega) e.symm)]; simp)
    exact ⟨by rw [a1, b1], by rw [a2, b2], by rw [a3, b3]⟩
  · obtain ⟨a1, a2, a3⟩ := ta_cm (c := (⟨p0 p, J1, S1, [goY (rdyY y (zset p.P.toNat (1 + rr)))], false⟩ : Cs)) (m := (⟨8, y.n, 0, y.b, y.a, 0, zset p.P.toNat (1 + rr), [], []⟩ : Ms)) gg rfl (snd 8 y.n _ (.inr rfl) hnn (zset_len _ _) mf) rfl rfl
    obtain ⟨J3, S3, b1, b2, b3, _, b5⟩ := cm_go (c := (⟨p0 p, J1, S1, [goY (rdyY y (zset p.P.toNat (1 + rr)))], false⟩ : Cs)) (m := (⟨8, y.n, 0, y.b, y.a, 0, zset p.P.toNat (1 + rr), [], []⟩ : Ms)) (y := goY (rdyY y (zset p.P.toNat (1 + rr)))) gg rfl (by rw [cmtF_eq]; show (saidB y.b y.a y.n (goY (rdyY y (zset p.P.toNat (1 + rr)))) && _) = true; rw [show saidB y.b y.a y.n (goY (rdyY y (zset p.P.toNat (1 + rr)))) = true by unfold saidB goY rdyY; simp, show inPh [3] (goY (rdyY y (zset p.P.toNat (1 + rr)))) = true from rfl, show endAt (⟨8, y.n, 0, y.b, y.a, 0, zset p.P.toNat (1 + rr), [], []⟩ : Ms).E (goY (rdyY y (zset p.P.toNat (1 + rr)))) = true from decide_eq_true rfl]; rfl) ⟨hyo.fm, mf, hyo.fl, by show (zset p.P.toNat (1 + rr)).length ≤ 4; rw [zset_len]; omega, by show (0 : Int) ≤ 0; omega, by show (0 : Int) < _; omega⟩ (by show Fwd J1.n.c (zset p.P.toNat (1 + rr)); rw [hn]; exact zset_fwd hq1 (by omega)) (by show J1.n.b < _; rw [hn]; show (0 : Int) < _; omega) (by show J1.g < _; rw [hj]; decide)
    refine ⟨J3, S3, by rw [a1, b1], by rw [a2, b2], by rw [a3, b3], ?_⟩
    rw [b5]
    show (⟨J1.n.b + 1, J1.n.c, zset p.P.toNat (1 + rr), J1.n.a⟩ : Nt) = _
    rw [hn]; rfl
end

end Go.Proofs.Ytmpdjobllpigpaa
