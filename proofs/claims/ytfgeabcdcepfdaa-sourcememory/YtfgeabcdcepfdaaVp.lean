/- SourceMemory, walked. -/
import Derived.Test.YtfgeabcdcepfdaaVo
namespace Go.Proofs.Ytfgeabcdcepfdaa
open Ieee Go.RowKit
attribute [local go_sem] run_store_float

theorem rw_cell3 {n i : Nat} {v : Value} {w : World} (h : Rw 0 56 3 v n w) (hi : i < n) : ∃ g cap x y z, v = .slice (some ⟨g, 0, none⟩) n cap ∧ v.ownBlock = some g ∧ w.cell? ⟨g, i * 3, none⟩ = some x ∧ w.cell? ⟨g, i * 3 + 1, none⟩ = some y ∧ w.cell? ⟨g, i * 3 + 2, none⟩ = some z ∧
    w.frozen? ⟨g, i * 3, none⟩ = false ∧ w.frozen? ⟨g, i * 3 + 1, none⟩ = false ∧ w.frozen? ⟨g, i * 3 + 2, none⟩ = false := by
  rcases h.form with ⟨_, h0⟩ | ⟨g, cap, cur, hv, hb, hnc, hg, hcs⟩
  · omega
  · obtain ⟨⟨x, hx⟩, fx⟩ := row_cell (o := i * 3) hg (by omega)
    obtain ⟨⟨y, hy⟩, fy⟩ := row_cell (o := i * 3 + 1) hg (by omega)
    obtain ⟨⟨z, hz⟩, fz⟩ := row_cell (o := i * 3 + 2) hg (by omega)
    exact ⟨g, cap, x, y, z, hv, hb, hx, hy, hz, fx, fy, fz⟩

set_option maxRecDepth 100000 in
theorem memory_bad {lv iv : Value} {l : List Stp} {w : World} (ho : Ov w lv l) (hc : checkB l = false) (hsz : l.length * 24 ≤ 140737488355328) :
    Calls Try.prog 6 #[lv, iv] w fun e w' => e = .returned (.bool true) ∧ Below w.heap.size w w' := by
  have HO : Hid (Ov w lv l) := ho
  have HC : Hid (chkI l = 30) := by show _ = _; unfold chkI; rw [hc]; rfl
  have HSZ : Hid (l.length * 24 ≤ 140737488355328) := hsz
  have HML : Hid (l.length ≤ maxLen) := by show _ ≤ _; simp only [maxLen]; omega
  have HOK : Hid (∀ o ∈ l, o.ok) := ho.2
  clear ho hsz
  go_enter Try.func6, Try.ntmps6
  go_wp2_with fail
  refine (awake_walk _).mono ?_
  rintro e w0 ⟨rfl, hB0⟩
  have HB0 : Hid (Below w.heap.size w w0) := hB0
  clear hB0
  go_wp2_with (at_builtin; refine wpList_append_sp (by rfl) _ _ 22 (by rfl) w0.heap.size 56 Try.underlying22 info_op _ 0 [] (by rfl) (World.ownsRow_made w0 #[] 0 (Nat.le_refl _) (by simp [maxLen]) (by simp)) _ l (by rfl) ((HO.out.below HB0.out).below (below_alloc _ _)) (by have := HML.out; simpa using this) (by have := HSZ.out; simpa using this) (by simp) ?_; intro mv w1 hown hgrow; go_frame)
  have HV1 : Hid (Ov w1 mv l) := own_ovS (by simpa using hown) HOK.out
  have HB1 : Hid (Below w.heap.size w w1) := (below_trans HB0.out (below_alloc w0 (Obj.cells #[] 56))).grown hgrow (Nat.le_trans HB0.out.size (below_alloc w0 (Obj.cells #[] 56)).size) (by simp [Value.ownBlock]; exact HB0.out.size)
  clear hown hgrow
  go_wp2_with fail
  refine (filled_bad HV1.out hc).mono ?_
  rintro e w2 ⟨rfl, hB2⟩
  have HB2 : Hid (Below w.heap.size w w2) := below_trans HB1.out hB2
  clear hB2
  go_wp2_with fail
  refine (filled_bad (HO.out.below HB2.out) hc).mono ?_
  rintro e w3 ⟨rfl, hB3⟩
  have HB3 : Hid (Below w.heap.size w w3) := below_trans HB2.out hB3
  clear hB3
  go_wp2_with fail
  obtain ⟨⟨ao, cap, hv, g1, g2, g3, g4⟩, g5⟩ := HO.out.below HB3.out
  subst hv
  refine (check_walk (Nat.le_trans g1 g2) g4).mono ?_
  rw [HC.out]
  rintro e w4 ⟨rfl, hB4⟩
  have HB4 : Hid (Below w.heap.size w w4) := below_trans HB3.out hB4
  clear hB4 g1 g2 g3 g4 g5
  go_wp2_with fail
  go_ret
  exact ⟨rfl, HB4.out⟩

/-- Two sources beside one another behind what was before them. -/
def Bo (B : Nat) (w : World) (sv tv : Value) (S : Sc) : Prop := ∃ Ds Dt, Src Ds w sv S ∧ Src Dt w tv S ∧ (∀ x, Ds x → B ≤ x) ∧ (∀ x, Dt x → B ≤ x)
theorem Bo.ch {B : Nat} {D : Nat → Prop} {w w' : World} {sv tv : Value} {S : Sc} (h : Bo B w sv tv S) (hc : Ch D w w') (hd : ∀ x, D x → x < B ∨ w.heap.size ≤ x) : Bo B w' sv tv S := by
  obtain ⟨Ds, Dt, h1, h2, h3, h4⟩ := h
  refine ⟨Ds, Dt, h1.ch hc (fun x hx hD => ?_), h2.ch hc (fun x hx hD => ?_), h3, h4⟩
  · have := h3 x hx; have := h1.lt hx; rcases hd x hD with h | h <;> omega
  · have := h4 x hx; have := h2.lt hx; rcases hd x hD with h | h <;> omega
theorem Bo.below {B : Nat} {w w' : World} {sv tv : Value} {S : Sc} (h : Bo B w sv tv S) (hb : Below w.heap.size w w') : Bo B w' sv tv S := h.ch (Ch.of_below (D := fun _ => False) hb) (fun _ hx => hx.elim)
theorem Bo.s {B : Nat} {w : World} {sv tv : Value} {S : Sc} (h : Bo B w sv tv S) : Sb B w sv S := by obtain ⟨Ds, Dt, h1, h2, h3, h4⟩ := h; exact ⟨Ds, h1, h3⟩
theorem Bo.t {B : Nat} {w : World} {sv tv : Value} {S : Sc} (h : Bo B w sv tv S) : Sb B w tv S := by obtain ⟨Ds, Dt, h1, h2, h3, h4⟩ := h; exact ⟨Dt, h2, h4⟩
end Go.Proofs.Ytfgeabcdcepfdaa
