/- A source filled, beside the reference's. -/
import Derived.Test.YtjkhegekojflhabNb
import Derived.Test.YtjkhegekojflhabBf
namespace Go.Proofs.Ytjkhegekojflhab
open Ieee Go.RowKit
attribute [local go_sem] run_store_float

/-- How a source is filled. -/
structure Fl where
  n : Int
  recs : List Rcd
  places : List Int
  off : List Int
def rcAt (l : List Rcd) (i : Nat) : Rcd := l.getD i ⟨0, 0⟩
theorem rcAt_at {l : List Rcd} {i : Nat} (h : i < l.length) : rcAt l i = l[i] := by unfold rcAt; rw [List.getD_eq_getElem?_getD, List.getElem?_eq_getElem h]; rfl
def parF (n : Int) (x : Int) : Nat := ((x % 18446744073709551616) % n).toNat
theorem parF_lt {n x : Int} (h : 1 ≤ n) : (parF n x : Int) < n := by unfold parF; have := Int.emod_lt_of_pos (x % 18446744073709551616) (show 0 < n by omega); have := Int.emod_nonneg (x % 18446744073709551616) (show n ≠ 0 by omega); omega
theorem parF_rem' {n x : Int} (h : 1 ≤ n) : (IntKind.u64.wrap x) % n = (parF n x : Int) := by
  rw [IntKind.wrap_u64]
  unfold parF
  have := Int.emod_nonneg (x % 18446744073709551616) (show n ≠ 0 by omega)
  omega
theorem parF_rem {n x : Int} (h : 1 ≤ n) : (IntKind.u64.wrap x).tmod n = (parF n x : Int) := by
  have h0 : 0 ≤ IntKind.u64.wrap x := by rw [IntKind.wrap_u64]; omega
  rw [Int.tmod_eq_emod_of_nonneg h0, parF_rem' h]
def plF (F : Fl) (i : Nat) : Nat := if i < F.places.length then parF F.n (nth F.places i) else 0
def fillF (F : Fl) (S : Sc) : Nat → Sc
  | 0 => S
  | i + 1 => (prodS (fillF F S i) (plF F i) (rcAt F.recs i)).2
def offF (S : Sc) (l : List Int) : Nat → Sc
  | 0 => S
  | i + 1 => switchS (offF S l i) (nth l i) false
def flL : List Stp := [⟨1, 0, 18318360957983683996⟩]
theorem flL_chk : checkB flL = true := by kernel_rfl
def filS (F : Fl) : Sc := offF (fillF F (newS F.n.toNat flL) (min F.recs.length 1024)) F.off F.off.length

theorem fl_ov (w : World) (t : TypeId) : Ov (w.alloc (Obj.cells #[.int .i64 1, .int .i64 0, .float .f64 18318360957983683996] t)) (.slice (some ⟨w.heap.size, 0, none⟩) 1 1) flL := by
  refine ⟨⟨_, 1, rfl, by simp [flL], by simp [maxLen], by simp, fun i hi => ?_⟩, ?_⟩
  · have : i = 0 := by have : i < 1 := hi; omega
    subst this
    refine ⟨_, _, rfl, ?_, ?_, ?_⟩ <;> simp [go_sem, flL]
  · intro o ho
    simp [flL] at ho
    subst ho
    exact ⟨⟨by simp, by simp⟩, ⟨by simp, by simp⟩, by simp⟩

/-- sv is the source S1, tv the reference's source S2; their memory lies from B on, and neither's is the other's; what lies below B is as in w0. -/
def Fh (B : Nat) (w0 wr : World) (sv tv : Value) (S1 S2 : Sc) : Prop :=
  ∃ Ds Dt, Src Ds wr sv S1 ∧ Rs Dt wr tv S2 ∧ (∀ x, Ds x → ¬ Dt x) ∧ (∀ x, Ds x → B ≤ x) ∧ (∀ x, Dt x → B ≤ x) ∧ Below B w0 wr ∧ B ≤ wr.heap.size

section
variable {B : Nat} {w0 wr w' : World} {sv tv : Value} {S S1 S2 : Sc}
theorem Fh.below (h : Fh B w0 wr sv tv S1 S2) (hb : Below wr.heap.size wr w') : Fh B w0 w' sv tv S1 S2 := by
  obtain ⟨Ds, Dt, h1, h2, h3, h4, h5, h6, h7⟩ := h
  exact ⟨Ds, Dt, h1.below hb, h2.below hb, h3, h4, h5, h6.trans (hb.mono h7), Nat.le_trans h7 hb.size⟩
theorem Fh.world (h : Fh B w0 wr sv tv S1 S2) : Below B w0 wr := by obtain ⟨Ds, Dt, h1, h2, h3, h4, h5, h6, h7⟩ := h; exact h6
theorem Fh.form (h : Fh B w0 wr sv tv S1 S2) : ∃ sb tb, sv = .pointer (some ⟨sb, 0, none⟩) ∧ tv = .pointer (some ⟨tb, 0, none⟩) := by
  obtain ⟨Ds, Dt, ⟨sb, _, _, _, _, e1, _⟩, ⟨tb, _, _, _, _, e2, _⟩, _⟩ := h
  exact ⟨sb, tb, e1, e2⟩
theorem Fh.src (h : Fh B w0 wr sv tv S1 S2) : ∃ Ds, Src Ds wr sv S1 ∧ ∀ x, Ds x → B ≤ x := by obtain ⟨Ds, Dt, h1, h2, h3, h4, h5, h6, h7⟩ := h; exact ⟨Ds, h1, h4⟩
theorem Fh.rs (h : Fh B w0 wr sv tv S1 S2) : ∃ Dt, Rs Dt wr tv S2 := by obtain ⟨Ds, Dt, h1, h2, h3, h4, h5, h6, h7⟩ := h; exact ⟨Dt, h2⟩
theorem Fh.chS {D' : Nat → Prop} {Ds Dt : Nat → Prop} (h2 : Rs Dt wr tv S2) (h3 : ∀ x, Ds x → ¬ Dt x) (h4 : ∀ x, Ds x → B ≤ x) (h5 : ∀ x, Dt x → B ≤ x) (h6 : Below B w0 wr) (h7 : B ≤ wr.heap.size)
    (k1 : Src D' w' sv S) (k2 : Ch Ds wr w') (k3 : ∀ b, D' b → Ds b ∨ wr.heap.size ≤ b) : Fh B w0 w' sv tv S S2 := by
  refine ⟨D', Dt, k1, h2.keep (fun x hx => k2.block x (h2.lt hx) (fun e => h3 x e hx)) k2.size, fun x hx hy => ?_, fun x hx => ?_, h5, h6.trans (k2.to_below h7 h4), Nat.le_trans h7 k2.size⟩
  · rcases k3 x hx with e | e
    · exact h3 x e hy
    · have := h2.lt hy; omega
  · rcases k3 x hx with e | e
    · exact h4 x e
    · omega
theorem Fh.chR {D' : Nat → Prop} {Ds Dt : Nat → Prop} (h1 : Src Ds wr sv S1) (h3 : ∀ x, Ds x → ¬ Dt x) (h4 : ∀ x, Ds x → B ≤ x) (h5 : ∀ x, Dt x → B ≤ x) (h6 : Below B w0 wr) (h7 : B ≤ wr.heap.size)
    (k1 : Rs D' w' tv S) (k2 : Ch Dt wr w') (k3 : ∀ b, D' b → Dt b ∨ wr.heap.size ≤ b) : Fh B w0 w' sv tv S1 S := by
  refine ⟨Ds, D', h1.keep (fun x hx => k2.block x (h1.lt hx) (fun e => h3 x hx e)) k2.size, k1, fun x hx hy => ?_, h4, fun x hx => ?_, h6.trans (k2.to_below h7 h5), Nat.le_trans h7 k2.size⟩
  · rcases k3 x hy with e | e
    · exact h3 x hx e
    · have := h1.lt hx; omega
  · rcases k3 x hx with e | e
    · exact h5 x e
    · omega
theorem Fh.prodP (h : Fh B w0 wr sv tv S1 S2) (p : Int) {r : Rcd} (hr : r.ok) : Calls Try.prog 16 #[sv, .int .i64 p, .agg #[.int .u64 r.k, .float .f64 r.x]] wr fun e w' => (∃ c, e = .returned (.int .i64 c)) ∧ Fh B w0 w' sv tv (prodS S1 p r).2 S2 := by
  obtain ⟨Ds, Dt, h1, h2, h3, h4, h5, h6, h7⟩ := h
  refine (produce_walk h1 p hr).mono ?_
  rintro e w' ⟨rfl, ⟨D', k1, k2, k3⟩, _⟩
  exact ⟨⟨_, rfl⟩, Fh.chS h2 h3 h4 h5 h6 h7 k1 k2 k3⟩
theorem Fh.prodR (h : Fh B w0 wr sv tv S1 S2) (p : Int) {r : Rcd} (hr : r.ok) : Calls Try.prog 17 #[tv, .int .i64 p, .agg #[.int .u64 r.k, .float .f64 r.x]] wr fun e w' => (∃ c, e = .returned (.int .i64 c)) ∧ Fh B w0 w' sv tv S1 (prodS S2 p r).2 := by
  obtain ⟨Ds, Dt, h1, h2, h3, h4, h5, h6, h7⟩ := h
  refine (rproduce_walk h2 p hr).mono ?_
  rintro e w' ⟨rfl, D', k1, k2, k3⟩
  exact ⟨⟨_, rfl⟩, Fh.chR h1 h3 h4 h5 h6 h7 k1 k2 k3⟩
theorem Fh.switchP (h : Fh B w0 wr sv tv S1 S2) (p : Int) (on : Bool) : Calls Try.prog 18 #[sv, .int .i64 p, .bool on] wr fun e w' => (∃ c, e = .returned (.int .i64 c)) ∧ Fh B w0 w' sv tv (switchS S1 p on) S2 := by
  obtain ⟨Ds, Dt, h1, h2, h3, h4, h5, h6, h7⟩ := h
  refine (switch_walk h1 p on).mono ?_
  rintro e w' ⟨rfl, k1, k2⟩
  exact ⟨⟨_, rfl⟩, Fh.chS h2 h3 h4 h5 h6 h7 k1 k2 (fun b hb => .inl hb)⟩
theorem Fh.switchR (h : Fh B w0 wr sv tv S1 S2) (p : Int) (on : Bool) : Calls Try.prog 19 #[tv, .int .i64 p, .bool on] wr fun e w' => (∃ c, e = .returned (.int .i64 c)) ∧ Fh B w0 w' sv tv S1 (switchS S2 p on) := by
  obtain ⟨Ds, Dt, h1, h2, h3, h4, h5, h6, h7⟩ := h
  refine (rswitch_walk h2 p on).mono ?_
  rintro e w' ⟨rfl, k1, k2⟩
  exact ⟨⟨_, rfl⟩, Fh.chR h1 h3 h4 h5 h6 h7 k1 k2 (fun b hb => .inl hb)⟩
theorem fh_new {Ds Dt : Nat → Prop} {w1 w2 : World} (h1 : Src Ds w1 sv S) (hd1 : ∀ b, Ds b → B ≤ b) (hb1 : Below B w0 w1) (hB : B ≤ w1.heap.size) (hb2 : Below w1.heap.size w1 w2) (h2 : Rs Dt w2 tv S) (hd2 : ∀ b, Dt b → w1.heap.size ≤ b) : Fh B w0 w2 sv tv S S :=
  ⟨Ds, Dt, h1.below hb2, h2, fun x hx hy => by have := h1.lt hx; have := hd2 x hy; omega, hd1, fun x hx => Nat.le_trans hB (hd2 x hx), hb1.trans (hb2.mono hB), Nat.le_trans hB hb2.size⟩
end

/-- A source and the reference's, as filled leaves them. -/
def Fd (w w' : World) (sv tv : Value) (S : Sc) : Prop := Fh w.heap.size w w' sv tv S S
theorem Fh.fd {w w0 w' : World} {sv tv : Value} {S : Sc} (h : Fh w0.heap.size w0 w' sv tv S S) (hb : Below w.heap.size w w0) : Fd w w' sv tv S := by
  obtain ⟨Ds, Dt, h1, h2, h3, h4, h5, h6, h7⟩ := h
  exact ⟨Ds, Dt, h1, h2, h3, fun x hx => Nat.le_trans hb.size (h4 x hx), fun x hx => Nat.le_trans hb.size (h5 x hx), below_trans hb h6, Nat.le_trans hb.size h7⟩

theorem fill_go {F : Fl} {S : Sc} {i q : Nat} {r : Rcd} (hq : q = plF F i) (hr : r = rcAt F.recs i) : (prodS (fillF F S i) q r).2 = fillF F S (i + 1) := by subst hq hr; rfl
theorem off_go {S : Sc} {l : List Int} {i : Nat} {x : Int} (hx : x = nth l i) : switchS (offF S l i) x false = offF S l (i + 1) := by subst hx; rfl

set_option maxRecDepth 100000 in
set_option maxHeartbeats 4000000 in
theorem filled_walk {rv av ov : Value} {F : Fl} {w : World} (h1 : 1 ≤ F.n) (h4 : F.n ≤ 4) (hr : Rv w rv F.recs) (ha : Nv w av F.places) (ho : Nv w ov F.off) :
    Calls Try.prog 5 #[.agg #[.int .i64 F.n, rv, av, ov]] w fun e w' => ∃ sv tv, e = .returned (.tuple #[sv, tv]) ∧ Fd w w' sv tv (filS F) := by
  obtain ⟨n, hn⟩ : ∃ n, n = F.n := ⟨_, rfl⟩
  have HN : Hid (n = F.n) := hn
  rw [← hn] at h1 h4 ⊢
  obtain ⟨w0, hw0⟩ : ∃ w0, w0 = w.alloc (Obj.cells #[.int .i64 n, rv, av, ov] 25) := ⟨_, rfl⟩
  have HB0 : Hid (Below w.heap.size w w0) := by show Below _ _ _; rw [hw0]; exact below_alloc _ _
  have HR : Hid (Rv w0 rv F.recs) := hr.below HB0.out
  have HA : Hid (Nv w0 av F.places) := ha.below HB0.out
  have HO : Hid (Nv w0 ov F.off) := ho.below HB0.out
  obtain ⟨⟨ro, rc, rfl, _, hrm, _, _⟩, _⟩ := hr
  obtain ⟨ao, ac, rfl, hla, _⟩ := ha.form
  obtain ⟨oo, oc, rfl, hlo, _⟩ := ho.form
  have hlr : (F.recs.length : Int) ≤ 9223372036854775807 := by have := HR.out.1; obtain ⟨_, _, _, _, _⟩ := this; simp only [maxLen] at hrm; omega
  have HZ : Hid (w.heap.size < w0.heap.size) := by show _ < _; rw [hw0]; simp
  have HW0 : Hid (w0 = w.alloc (Obj.cells #[.int .i64 n, .slice ro F.recs.length rc, .slice ao F.places.length ac, .slice oo F.off.length oc] 25)) := hw0
  have HK : Hid (∀ wx, Below w0.heap.size w0 wx → wx.cell? ⟨w.heap.size, 0, none⟩ = some (.int .i64 n) ∧ wx.cell? ⟨w.heap.size, 1, none⟩ = some (.slice ro F.recs.length rc) ∧ wx.cell? ⟨w.heap.size, 2, none⟩ = some (.slice ao F.places.length ac) ∧ wx.cell? ⟨w.heap.size, 3, none⟩ = some (.slice oo F.off.length oc)) := fun wx hb => by
    refine ⟨?_, ?_, ?_, ?_⟩ <;> (rw [hb.cell (p := ⟨w.heap.size, _, none⟩) HZ.out, hw0]; simp [go_sem])
  obtain ⟨N, hNn⟩ : ∃ N : Nat, n = N := ⟨n.toNat, by omega⟩
  have HNS : Hid (N = F.n.toNat) := by show _ = _; rw [← HN.out]; omega
  clear ha ho hw0 hn hrm
  subst hNn
  go_enter Try.func5, Try.ntmps5
  go_wp2_with fail
  rw [← HW0.out]
  have HE : Hid (w.heap.size + 1 = w0.heap.size) := by show _ = _; rw [HW0.out]; simp
  rw [HE.out]
  refine (new_ok (n := N) (l := flL) (by omega) (by omega) (fl_ov w0 _) flL_chk).mono ?_
  rintro e w1 ⟨sv, Ds, rfl, hS, hB1, hD1⟩
  have HS1 : Hid (Src Ds w1 sv (newS N flL)) := hS
  have HD1 : Hid (∀ b, Ds b → w0.heap.size ≤ b) := fun b hb => Nat.le_trans (below_alloc w0 _).size (hD1 b hb)
  have HB1 : Hid (Below w0.heap.size w0 w1) := below_trans (below_alloc _ _) hB1
  have y0 := (HK.out w1 HB1.out).1
  have hsv : ∃ sb, sv = .pointer (some ⟨sb, 0, none⟩) := by obtain ⟨sb, _, _, _, _, e, _⟩ := hS; exact ⟨sb, e⟩
  obtain ⟨sb, rfl⟩ := hsv
  clear hS hB1 hD1
  go_wp2_with fail
  refine (rnew_ok (n := N) (l := flL) (by omega) (by omega) (fl_ov w1 _) flL_chk).mono ?_
  rintro e w2 ⟨tv, Dt, rfl, hT, hB2, hD2⟩
  have HF2 : Hid (Fh w0.heap.size w0 w2 (.pointer (some ⟨sb, 0, none⟩)) tv (newS N flL) (newS N flL)) := fh_new HS1.out HD1.out HB1.out HB1.out.size (below_trans (below_alloc _ _) hB2) hT (fun b hb => Nat.le_trans (below_alloc w1 _).size (hD2 b hb))
  obtain ⟨_, tb, _, rfl⟩ := HF2.out.form
  clear hT hB2 hD2 y0
  go_wp2_with fail
  go_loopw [8] (fun iv wr => ∃ i : Nat, i ≤ F.recs.length ∧ i ≤ 1024 ∧ iv = .int .i64 i ∧ Fh w0.heap.size w0 wr (.pointer (some ⟨sb, 0, none⟩)) (.pointer (some ⟨tb, 0, none⟩)) (fillF F (newS N flL) i) (fillF F (newS N flL) i)) (fun iv _ => 1024 - (intOf iv).toNat)
  case atStart => exact ⟨0, Nat.zero_le _, by omega, rfl, HF2.out⟩
  case round =>
    obtain ⟨i, hi1, hi2, rfl, hF⟩ := hrel
    have HF : Hid (Fh w0.heap.size w0 wr (.pointer (some ⟨sb, 0, none⟩)) (.pointer (some ⟨tb, 0, none⟩)) (fillF F (newS N flL) i) (fillF F (newS N flL) i)) := hF
    have HW : Hid (Below w0.heap.size w0 wr) := hF.world
    clear hF
    obtain ⟨y0, y1, y2, y3⟩ := HK.out wr HW.out
    by_cases hlt : i < F.recs.length ∧ i < 1024
    · obtain ⟨hlt, h46⟩ := hlt
      have hlti : (i : Int) < (F.recs.length : Int) := by omega
      have h46i : (i : Int) < 1024 := by omega
      obtain ⟨⟨_, _, e1, _, _, _, hRl⟩, hrok⟩ := HR.out
      cases e1
      obtain ⟨b, off, rfl, c0, c1⟩ := hRl i hlt
      obtain ⟨r, hre⟩ : ∃ r, r = F.recs[i] := ⟨_, rfl⟩
      rw [← hre] at c0 c1
      have HRE : Hid (r = rcAt F.recs i) := by show _ = _; rw [rcAt_at hlt]; exact hre
      have HRK : Hid r.ok := by rw [hre]; exact hrok _ (List.getElem_mem hlt)
      have HC : Hid (∀ wx, Below w0.heap.size w0 wx → wx.cell? ⟨b, off + i * 2, none⟩ = some (.int .u64 r.k) ∧ wx.cell? ⟨b, off + i * 2 + 1, none⟩ = some (.float .f64 r.x)) := fun wx hb => ⟨by rw [hb.cell (p := ⟨b, off + i * 2, none⟩) (cell_lt c0)]; exact c0, by rw [hb.cell (p := ⟨b, off + i * 2 + 1, none⟩) (cell_lt c1)]; exact c1⟩
      clear hre c0 c1 hRl hrok
      obtain ⟨x0, x1⟩ := HC.out wr HW.out
      by_cases hat : i < F.places.length
      · have hati : (i : Int) < (F.places.length : Int) := by omega
        obtain ⟨g, goff, rfl, d0⟩ := (HA.out.below HW.out).at hat
        obtain ⟨x, hx⟩ : ∃ x, x = nth F.places i := ⟨_, rfl⟩
        rw [← hx] at d0
        have rm : (IntKind.u64.wrap x).tmod (N : Int) = (parF N x : Int) := parF_rem h1
        have rm' : (IntKind.u64.wrap x) % (N : Int) = (parF N x : Int) := parF_rem' h1
        have hq2 : (parF N x : Int) < N := parF_lt h1
        obtain ⟨q, hq⟩ : ∃ q, q = parF N x := ⟨_, rfl⟩
        rw [← hq] at rm rm' hq2
        have HQ : Hid (q = plF F i) := by show _ = _; unfold plF; rw [if_pos hat, ← HN.out, ← hx]; exact hq
        have hwN : IntKind.u64.wrap (N : Int) = (N : Int) := by rw [IntKind.wrap_u64]; omega
        have hN0 : ((N : Int) == 0) = false := by simp; omega
        have hN1 : ¬ (N : Int) = 0 := by omega
        have hwq : IntKind.i64.wrap (q : Int) = (q : Int) := wrapU (by omega) (by omega)
        clear hq hx
        go_wp2_with fail
        go_quiet (fail)
        go_wp2_with fail
        refine (Fh.prodP (B := w0.heap.size) (w0 := w0) (HF.out.below (below_drewN _ _)) (q) (r := r) HRK.out).mono ?_
        rintro e w5 ⟨⟨c5, rfl⟩, hF5⟩
        have HF5 : Hid (Fh w0.heap.size w0 w5 (.pointer (some ⟨sb, 0, none⟩)) (.pointer (some ⟨tb, 0, none⟩)) (prodS (fillF F (newS N flL) i) q r).2 (fillF F (newS N flL) i)) := hF5
        clear y0 y1 y2 y3 x0 x1 d0 hF5
        obtain ⟨y0, y1, y2, y3⟩ := HK.out w5 HF5.out.world
        obtain ⟨x0, x1⟩ := HC.out w5 HF5.out.world
        go_wp2_with fail
        refine (Fh.prodR HF5.out (q) (r := r) HRK.out).mono ?_
        rintro e w6 ⟨⟨c6, rfl⟩, hF6⟩
        have HF6 : Hid (Fh w0.heap.size w0 w6 (.pointer (some ⟨sb, 0, none⟩)) (.pointer (some ⟨tb, 0, none⟩)) (fillF F (newS N flL) (i + 1)) (fillF F (newS N flL) (i + 1))) := by have h := hF6; rw [fill_go HQ.out HRE.out] at h; exact h
        clear y0 y1 y2 y3 x0 x1 hF6
        go_wp2_with fail
        go_roundw
        case rel => exact ⟨i + 1, hlt, by omega, by go_num, HF6.out⟩
        case measure => simp [intOf]; omega
      · have hati : ¬ (i : Int) < (F.places.length : Int) := by omega
        have HQ : Hid ((0 : Nat) = plF F i) := by show _ = _; unfold plF; rw [if_neg hat]
        clear hat
        go_wp2_with fail
        refine (Fh.prodP (B := w0.heap.size) (w0 := w0) HF.out ((0 : Nat)) (r := r) HRK.out).mono ?_
        rintro e w5 ⟨⟨c5, rfl⟩, hF5⟩
        have HF5 : Hid (Fh w0.heap.size w0 w5 (.pointer (some ⟨sb, 0, none⟩)) (.pointer (some ⟨tb, 0, none⟩)) (prodS (fillF F (newS N flL) i) (0 : Nat) r).2 (fillF F (newS N flL) i)) := hF5
        clear y0 y1 y2 y3 x0 x1 hF5
        obtain ⟨y0, y1, y2, y3⟩ := HK.out w5 HF5.out.world
        obtain ⟨x0, x1⟩ := HC.out w5 HF5.out.world
        go_wp2_with fail
        refine (Fh.prodR HF5.out ((0 : Nat)) (r := r) HRK.out).mono ?_
        rintro e w6 ⟨⟨c6, rfl⟩, hF6⟩
        have HF6 : Hid (Fh w0.heap.size w0 w6 (.pointer (some ⟨sb, 0, none⟩)) (.pointer (some ⟨tb, 0, none⟩)) (fillF F (newS N flL) (i + 1)) (fillF F (newS N flL) (i + 1))) := by have h := hF6; rw [fill_go HQ.out HRE.out] at h; exact h
        clear y0 y1 y2 y3 x0 x1 hF6
        go_wp2_with fail
        go_roundw
        case rel => exact ⟨i + 1, hlt, by omega, by go_num, HF6.out⟩
        case measure => simp [intOf]; omega
    · have HI : Hid (i = min F.recs.length 1024) := by show _ = _; omega
      by_cases hl2 : i < F.recs.length
      · have hl2i : (i : Int) < (F.recs.length : Int) := by omega
        have h46 : ¬ ((i : Int) < 1024) := by omega
        go_wp2_with fail
        go_loopw [10] (fun iv wx => ∃ k : Nat, k ≤ F.off.length ∧ iv = .int .i64 k ∧ Fh w0.heap.size w0 wx (.pointer (some ⟨sb, 0, none⟩)) (.pointer (some ⟨tb, 0, none⟩)) (offF (fillF F (newS N flL) i) F.off k) (offF (fillF F (newS N flL) i) F.off k)) (fun iv _ => F.off.length - (intOf iv).toNat)
        case atStart => exact ⟨0, Nat.zero_le _, rfl, HF.out⟩
        case round =>
          clear y0 y1 y2 y3 HF HW
          obtain ⟨k, hk, hiv, hF⟩ := hrel
          subst hiv
          have HF : Hid (Fh w0.heap.size w0 wr (.pointer (some ⟨sb, 0, none⟩)) (.pointer (some ⟨tb, 0, none⟩)) (offF (fillF F (newS N flL) i) F.off k) (offF (fillF F (newS N flL) i) F.off k)) := hF
          have HW : Hid (Below w0.heap.size w0 wr) := hF.world
          clear hF
          obtain ⟨y0, y1, y2, y3⟩ := HK.out wr HW.out
          by_cases hko : k < F.off.length
          · have hkoi : (k : Int) < (F.off.length : Int) := by omega
            obtain ⟨g, goff, rfl, d0⟩ := HO.out.at hko
            obtain ⟨x, hx⟩ : ∃ x, x = nth F.off k := ⟨_, rfl⟩
            rw [← hx] at d0
            have HX : Hid (x = nth F.off k) := hx
            have HD : Hid (∀ wx, Below w0.heap.size w0 wx → wx.cell? ⟨g, goff + k, none⟩ = some (.int .i64 x)) := fun wx hb => by rw [hb.cell (p := ⟨g, goff + k, none⟩) (cell_lt d0)]; exact d0
            clear d0 hx
            have d0 := HD.out wr HW.out
            go_wp2_with fail
            refine (Fh.switchP HF.out x false).mono ?_
            rintro e w5 ⟨⟨c5, rfl⟩, hF5⟩
            have HF5 : Hid (Fh w0.heap.size w0 w5 (.pointer (some ⟨sb, 0, none⟩)) (.pointer (some ⟨tb, 0, none⟩)) (switchS (offF (fillF F (newS N flL) i) F.off k) x false) (offF (fillF F (newS N flL) i) F.off k)) := hF5
            clear y0 y1 y2 y3 d0 hF5
            obtain ⟨y0, y1, y2, y3⟩ := HK.out w5 HF5.out.world
            have d0 := HD.out w5 HF5.out.world
            go_wp2_with fail
            refine (Fh.switchR HF5.out x false).mono ?_
            rintro e w6 ⟨⟨c6, rfl⟩, hF6⟩
            have HF6 : Hid (Fh w0.heap.size w0 w6 (.pointer (some ⟨sb, 0, none⟩)) (.pointer (some ⟨tb, 0, none⟩)) (offF (fillF F (newS N flL) i) F.off (k + 1)) (offF (fillF F (newS N flL) i) F.off (k + 1))) := by have h := hF6; rw [off_go HX.out] at h; exact h
            clear y0 y1 y2 y3 d0 hF6
            go_wp2_with fail
            go_roundw
            case rel => exact ⟨k + 1, by omega, by go_num, HF6.out⟩
            case measure => simp [intOf]; omega
          · have hkoi : ¬ (k : Int) < (F.off.length : Int) := by omega
            have HKE : Hid (offF (fillF F (newS N flL) i) F.off k = filS F) := by
              show _ = _
              unfold filS
              rw [← HNS.out, ← HI.out, show k = F.off.length by omega]
            go_wp2_with fail
            go_ret2
            exact ⟨_, _, rfl, Fh.fd (HKE.out ▸ HF.out) HB0.out⟩
      · have hl2i : ¬ ((i : Int) < (F.recs.length : Int)) := by omega
        go_wp2_with fail
        go_loopw [10] (fun iv wx => ∃ k : Nat, k ≤ F.off.length ∧ iv = .int .i64 k ∧ Fh w0.heap.size w0 wx (.pointer (some ⟨sb, 0, none⟩)) (.pointer (some ⟨tb, 0, none⟩)) (offF (fillF F (newS N flL) i) F.off k) (offF (fillF F (newS N flL) i) F.off k)) (fun iv _ => F.off.length - (intOf iv).toNat)
        case atStart => exact ⟨0, Nat.zero_le _, rfl, HF.out⟩
        case round =>
          clear y0 y1 y2 y3 HF HW
          obtain ⟨k, hk, hiv, hF⟩ := hrel
          subst hiv
          have HF : Hid (Fh w0.heap.size w0 wr (.pointer (some ⟨sb, 0, none⟩)) (.pointer (some ⟨tb, 0, none⟩)) (offF (fillF F (newS N flL) i) F.off k) (offF (fillF F (newS N flL) i) F.off k)) := hF
          have HW : Hid (Below w0.heap.size w0 wr) := hF.world
          clear hF
          obtain ⟨y0, y1, y2, y3⟩ := HK.out wr HW.out
          by_cases hko : k < F.off.length
          · have hkoi : (k : Int) < (F.off.length : Int) := by omega
            obtain ⟨g, goff, rfl, d0⟩ := HO.out.at hko
            obtain ⟨x, hx⟩ : ∃ x, x = nth F.off k := ⟨_, rfl⟩
            rw [← hx] at d0
            have HX : Hid (x = nth F.off k) := hx
            have HD : Hid (∀ wx, Below w0.heap.size w0 wx → wx.cell? ⟨g, goff + k, none⟩ = some (.int .i64 x)) := fun wx hb => by rw [hb.cell (p := ⟨g, goff + k, none⟩) (cell_lt d0)]; exact d0
            clear d0 hx
            have d0 := HD.out wr HW.out
            go_wp2_with fail
            refine (Fh.switchP HF.out x false).mono ?_
            rintro e w5 ⟨⟨c5, rfl⟩, hF5⟩
            have HF5 : Hid (Fh w0.heap.size w0 w5 (.pointer (some ⟨sb, 0, none⟩)) (.pointer (some ⟨tb, 0, none⟩)) (switchS (offF (fillF F (newS N flL) i) F.off k) x false) (offF (fillF F (newS N flL) i) F.off k)) := hF5
            clear y0 y1 y2 y3 d0 hF5
            obtain ⟨y0, y1, y2, y3⟩ := HK.out w5 HF5.out.world
            have d0 := HD.out w5 HF5.out.world
            go_wp2_with fail
            refine (Fh.switchR HF5.out x false).mono ?_
            rintro e w6 ⟨⟨c6, rfl⟩, hF6⟩
            have HF6 : Hid (Fh w0.heap.size w0 w6 (.pointer (some ⟨sb, 0, none⟩)) (.pointer (some ⟨tb, 0, none⟩)) (offF (fillF F (newS N flL) i) F.off (k + 1)) (offF (fillF F (newS N flL) i) F.off (k + 1))) := by have h := hF6; rw [off_go HX.out] at h; exact h
            clear y0 y1 y2 y3 d0 hF6
            go_wp2_with fail
            go_roundw
            case rel => exact ⟨k + 1, by omega, by go_num, HF6.out⟩
            case measure => simp [intOf]; omega
          · have hkoi : ¬ (k : Int) < (F.off.length : Int) := by omega
            have HKE : Hid (offF (fillF F (newS N flL) i) F.off k = filS F) := by
              show _ = _
              unfold filS
              rw [← HNS.out, ← HI.out, show k = F.off.length by omega]
            go_wp2_with fail
            go_ret2
            exact ⟨_, _, rfl, Fh.fd (HKE.out ▸ HF.out) HB0.out⟩

set_option maxRecDepth 100000 in
theorem filled_none {rv av ov : Value} {n : Int} {w : World} (hn : n < 1 ∨ 4 < n) (hr : ∃ a k c, rv = .slice a k c) (ha : ∃ a k c, av = .slice a k c) (ho : ∃ a k c, ov = .slice a k c) :
    Calls Try.prog 5 #[.agg #[.int .i64 n, rv, av, ov]] w fun e w' => e = .returned (.tuple #[.pointer none, .pointer none]) ∧ Below w.heap.size w w' := by
  obtain ⟨_, _, _, rfl⟩ := hr
  obtain ⟨_, _, _, rfl⟩ := ha
  obtain ⟨_, _, _, rfl⟩ := ho
  have HN : Hid (n < 1 ∨ 4 < n) := hn
  clear hn
  go_enter Try.func5, Try.ntmps5
  go_wp2_with (first
    | (go_at_call 14; refine (new_arg HN.out).mono ?_; rintro e w9 ⟨rfl, h9⟩; have h9 := h9.symm; subst h9)
    | (go_at_call 15; refine (rnew_arg HN.out).mono ?_; rintro e w9 ⟨rfl, h9⟩; have h9 := h9.symm; subst h9))
  go_ret2
  exact ⟨rfl, below_trans (below_trans (below_alloc _ _) (below_alloc _ _)) (below_alloc _ _)⟩
end Go.Proofs.Ytjkhegekojflhab
