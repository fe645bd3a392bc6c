/- act: rows of messages sent. -/
import Derived.Test.YtpndafieknddcaaHc
namespace Go.Proofs.Ytpndafieknddcaa

open Ieee Go.RowKit

section

variable {wz w w' w2 : World} {A A' E B Z : Nat → Prop} {sb cb WB : Nat} {c c' : Cs} {p : Pn} {ov sv v onv : Value} {V : List Tq} {M : List Ms} {mo : Option Ms} {k : Int} {on : List Int}

theorem CW.grow (h : CW wz A sb cb c w) (hc : Ch E w w') (hE : ∀ x, E x → A x) (hz : ∀ x, E x → wz.heap.size ≤ x) : CW wz (fun x => A x ∨ (w.heap.size ≤ x ∧ x < w'.heap.size)) sb cb c w' := by
  obtain ⟨C, jb, tv, V, h1, h2, h3, h4⟩ := h.ex
  refine ⟨⟨C, jb, tv, V, fun x hx => ⟨(h1 x hx).1, ?_⟩, (h2.grow hc (fun x hx => .inl (hE x hx)) hz).less ?_, h3.keep (fun x hx => hc.block x (h3.kl x hx) (fun he => (h1 x hx).2 (hE x he))) hc.size, h4⟩, h.ok⟩
  · rintro (h9 | h9)
    · exact (h1 x hx).2 h9
    · have := h3.kl x hx; omega
  · rintro x ((h9 | h9) | h9)
    · exact .inl (.inl h9)
    · exact .inr h9
    · exact .inl (.inr h9)
theorem acg_lift {e : Ending} (hs : w.heap.size ≤ w2.heap.size) (hc : ChA wz Z w w2) (h : AcG wz Z WB p ov c M mo w2 e w') : AcG wz Z WB p ov c M mo w e w' := by
  obtain ⟨u, B, h1, h2, h3, h4, h5⟩ := h
  exact ⟨u, B, h1, h2, fun x hx => Nat.le_trans hs (h3 x hx), h4, hc.self h5⟩
/-- The statements' message in a block of its own. -/
def MbR (w1 : World) (m : Ms) (ev mv : Value) (wx : World) : Prop := ∃ MB, mv = .pointer (some ⟨MB, 0, none⟩) ∧ wx.heap[MB]? = some (.cells #[.int .i64 m.K, .int .i64 m.F, .int .i64 m.T, .int .i64 m.B, .int .i64 m.A, .int .i64 m.C, ev, .slice none 0 0, .slice none 0 0] 41 (0, 0)) ∧ w1.heap.size ≤ MB ∧ Below w1.heap.size w1 wx
theorem mb_new {w1 w9 : World} {m : Ms} {ev : Value} (hS : Below w1.heap.size w1 w9) : MbR w1 m ev (.pointer (some ⟨w9.heap.size, 0, none⟩)) (w9.alloc (Obj.cells #[.int .i64 m.K, .int .i64 m.F, .int .i64 m.T, .int .i64 m.B, .int .i64 m.A, .int .i64 m.C, ev, .slice none 0 0, .slice none 0 0] 41)) := ⟨_, rfl, alloc_at rfl, hS.size, hS.alloc hS.size _⟩
theorem setM_row {w9 : World} {N : Nat} {m m0 : Ms} {ev e0 qv pv : Value} (h : w9.heap[N]? = some (.cells #[.int .i64 m0.K, .int .i64 m0.F, .int .i64 m0.T, .int .i64 m0.B, .int .i64 m0.A, .int .i64 m0.C, e0, qv, pv] 41 (0, 0))) : (setM w9 N m ev (.slice none 0 0) (.slice none 0 0)).heap[N]? = some (.cells #[.int .i64 m.K, .int .i64 m.F, .int .i64 m.T, .int .i64 m.B, .int .i64 m.A, .int .i64 m.C, ev, .slice none 0 0, .slice none 0 0] 41 (0, 0)) := by
  unfold setM
  refine (set_row (set_row (set_row (set_row (set_row (set_row (set_row (set_row (set_row h 0 _) 1 _) 2 _) 3 _) 4 _) 5 _) 6 _) 7 _) 8 _).trans ?_
  simp only [List.setIfInBounds_toArray, List.set_cons_zero, List.set_cons_succ]
theorem mb_old {w1 w9 : World} {m : Ms} {ev : Value} (hS : Below w1.heap.size w1 w9) (hz : w9.heap[w1.heap.size]? = some (.cells #[.int .i64 ((⟨0, 0, 0, 0, 0, 0, [], [], []⟩ : Ms)).K, .int .i64 ((⟨0, 0, 0, 0, 0, 0, [], [], []⟩ : Ms)).F, .int .i64 ((⟨0, 0, 0, 0, 0, 0, [], [], []⟩ : Ms)).T, .int .i64 ((⟨0, 0, 0, 0, 0, 0, [], [], []⟩ : Ms)).B, .int .i64 ((⟨0, 0, 0, 0, 0, 0, [], [], []⟩ : Ms)).A, .int .i64 ((⟨0, 0, 0, 0, 0, 0, [], [], []⟩ : Ms)).C, .slice none 0 0, .slice none 0 0, .slice none 0 0] 41 (0, 0))) : MbR w1 m ev (.pointer (some ⟨w1.heap.size, 0, none⟩)) (setM w9 w1.heap.size m ev (.slice none 0 0) (.slice none 0 0)) :=
  ⟨_, rfl, setM_row hz, Nat.le_refl _, hS.trans ((ch_setM _ _ _ _ _ _).to_below hS.size (fun x hx => by rw [hx]; exact Nat.le_refl _))⟩
/-- What was sent has grown by a message. -/
theorem sent_more {w4 w5 w6 : World} {va a5 : Option Addr} {vc cp5 : Nat} {m : Ms} {ev : Value} (hAw : A WB) (hA : ∀ x, A x → wz.heap.size ≤ x ∧ ¬ Z x) (hcw : CW wz (fun x => Z x ∨ A x) sb cb c w) (hS : Sn A w (.slice va V.length vc) V) (hW : w.heap[WB]? = some (.cells (wC p ov sb cb (.slice va V.length vc)) 31 (0, 0))) (hb : Below w.heap.size w w4) (hg : w4.grownBy w5 (Value.slice va V.length vc).ownBlock) (hat : (Value.slice a5 (V.length + 1) cp5).ownBlock = (Value.slice va V.length vc).ownBlock ∨ (Value.slice a5 (V.length + 1) cp5).ownBlock = some w4.heap.size) (hr : w5.ownsRow 0 41 9 (.slice a5 (V.length + 1) cp5) (V.length + 1) (flatT V ++ cellsT ⟨m, ev, .slice none 0 0, .slice none 0 0⟩)) (he : OwN w.heap.size w4 ev m.E) (hm : Mok m) (h6 : w6 = w5.setCell ⟨WB, 10, none⟩ (.slice a5 (V.length + 1) cp5)) :
    ChA wz Z w w6 ∧ CW wz (fun x => Z x ∨ (A x ∨ (w.heap.size ≤ x ∧ x < w6.heap.size))) sb cb c w6 ∧ Sn (fun x => A x ∨ (w.heap.size ≤ x ∧ x < w6.heap.size)) w6 (.slice a5 (V.length + 1) cp5) (V ++ [⟨m, ev, .slice none 0 0, .slice none 0 0⟩]) ∧ w6.heap[WB]? = some (.cells (wC p ov sb cb (.slice a5 (V.length + 1) cp5)) 31 (0, 0)) := by
  have hsz : w6.heap.size = w5.heap.size := by rw [h6]; simp [go_sem]
  have h45 := hg.size
  have hs4 := hb.size
  have hWw : WB < w.heap.size := blk_lt hW
  have hWs : (Value.slice va V.length vc).ownBlock ≠ some WB := fun e => row_not hS.row hW (by decide) WB e rfl
  have hW5 : w5.heap[WB]? = some (.cells (wC p ov sb cb (.slice va V.length vc)) 31 (0, 0)) := by rw [hg.block WB (by omega) (fun e => hWs e.symm)]; exact blk_below hW hb
  have hc1 : Ch (fun x => x = WB ∨ (Value.slice va V.length vc).ownBlock = some x) w w5 := (Ch.of_below hb).trans (Ch.of_grown (D := fun x => (Value.slice va V.length vc).ownBlock = some x) hg (fun x hx => hx)) (fun x hx => .inl (.inr hx))
  have hc2 : Ch (fun x => x = WB) w5 w6 := by rw [h6]; exact ch_set _ _ _ _
  have hc : Ch (fun x => x = WB ∨ (Value.slice va V.length vc).ownBlock = some x) w w6 := hc1.trans hc2 (fun x hx => .inl (.inl hx))
  have hE : ∀ x, (x = WB ∨ (Value.slice va V.length vc).ownBlock = some x) → A x := fun x hx => by
    rcases hx with rfl | hx
    · exact hAw
    · exact hS.kr x hx
  have hlk : ∀ {b0 : Nat} {u : Value} {l : List Int}, OwN b0 w u l → OwN b0 w5 u l := fun ho => row_keep ho fun b hb2 => hc1.block b (ho.lt b hb2).2 (fun h => by
    rcases h with h | h
    · exact row_not ho hW (by decide) b hb2 h
    · exact row_ne hS.row ho (by decide) h hb2 rfl)
  have he5 : OwN w.heap.size w5 ev m.E := row_keep he fun b hb2 => hg.block b (he.lt b hb2).2 (fun e => by
    have h1 := (he.lt b hb2).1
    have h2 := (hS.row.lt b e.symm).2
    omega)
  refine ⟨ch_le hc (fun x hx => hA x (hE x hx)), (hcw.grow hc (fun x hx => .inr (hE x hx)) (fun x hx => (hA x (hE x hx)).1)).less ?_, ?_, by rw [h6, set_row hW5]; rfl⟩
  · rintro x (h9 | h9 | h9)
    · exact .inl (.inl h9)
    · exact .inl (.inr h9)
    · exact .inr h9
  · have h5 : Sn (fun x => A x ∨ (w.heap.size ≤ x ∧ x < w6.heap.size)) w5 (.slice a5 (V.length + 1) cp5) (V ++ [⟨m, ev, .slice none 0 0, .slice none 0 0⟩]) := by
      refine ⟨by rw [flatT_app, List.length_append]; exact hr, fun x hx => ?_, fun x hx => ?_, fun x hx b hb' => ?_, fun x hx => ?_, fun x hx => ?_⟩
      · rcases hat with h | h
        · exact .inl (hS.kr x (by rw [← h]; exact hx))
        · have hx2 := (hr.lt x hx).2
          rw [hx] at h
          have e : x = w4.heap.size := Option.some.inj h
          exact .inr ⟨by omega, by omega⟩
      · rcases List.mem_append.1 hx with hx | hx
        · exact hlk (hS.ls x hx)
        · rw [List.mem_singleton] at hx
          rw [hx]; exact own_base he5 (Nat.zero_le _)
      · rcases List.mem_append.1 hx with hx | hx
        · exact .inl (hS.kl x hx b hb')
        · rw [List.mem_singleton] at hx
          rw [hx] at hb'
          have := he5.lt b hb'
          exact .inr ⟨this.1, by omega⟩
      · rcases List.mem_append.1 hx with hx | hx
        · exact hS.nl x hx
        · rw [List.mem_singleton] at hx
          rw [hx]; exact ⟨rfl, rfl⟩
      · rcases List.mem_append.1 hx with hx | hx
        · exact hS.good x hx
        · rw [List.mem_singleton] at hx
          rw [hx]; exact hm
    rw [h6]
    rw [h6] at h5
    exact h5.setW hW5
theorem cells_litT {w : World} {x : Tq} {t : TypeId} : ∀ j u, (cellsT x)[j]? = some u → (w.alloc (Obj.cells #[.int .i64 x.m.K, .int .i64 x.m.F, .int .i64 x.m.T, .int .i64 x.m.B, .int .i64 x.m.A, .int .i64 x.m.C, x.e, x.q, x.p] t)).cell? ⟨w.heap.size, j, none⟩ = some u := by
  intro j u hj
  unfold cellsT at hj
  have hj9 : j < 9 := by
    rcases Nat.lt_or_ge j 9 with q | q
    · exact q
    · rw [List.getElem?_eq_none (by simpa using q)] at hj; cases hj
  have hc : j = 0 ∨ j = 1 ∨ j = 2 ∨ j = 3 ∨ j = 4 ∨ j = 5 ∨ j = 6 ∨ j = 7 ∨ j = 8 := by omega
  rcases hc with rfl | rfl | rfl | rfl | rfl | rfl | rfl | rfl | rfl <;> simp at hj <;> subst hj <;> simp [go_sem]
theorem cell_bel {g i : Nat} {u : Value} (hb : Below w.heap.size w w') (hg : g < w.heap.size) (h : w.cell? ⟨g, i, none⟩ = some u) : w'.cell? ⟨g, i, none⟩ = some u := by
  rw [← h]; simp only [World.cell?, hb.block g hg]
theorem cell_chg {D : Nat → Prop} {g i : Nat} {u : Value} (hc : Ch D w w') (hg : g < w.heap.size) (hd : ¬ D g) (h : w.cell? ⟨g, i, none⟩ = some u) : w'.cell? ⟨g, i, none⟩ = some u := by
  rw [← h]; simp only [World.cell?, hc.block g hg hd]
theorem setM_bel {w1 w9 : World} {N : Nat} (m : Ms) (ev qv pv : Value) (hS : Below w1.heap.size w1 w9) (hN : w1.heap.size ≤ N) : Below w1.heap.size w1 (setM w9 N m ev qv pv) := hS.trans ((ch_setM _ _ _ _ _ _).to_below hS.size (fun x hx => by rw [hx]; exact hN))
theorem nth_memF {l : List Int} {v : Int} (h : v ∈ l) : ∃ i, i < l.length ∧ nth l i = v := by
  obtain ⟨i, hi, e⟩ := List.getElem_of_mem h
  refine ⟨i, hi, ?_⟩
  unfold nth
  rw [List.getD_eq_getElem?_getD, List.getElem?_eq_getElem hi]
  exact e
theorem onw_m {B : Int} {f l : List Int} (hB : 0 ≤ B) (hf : ∀ v ∈ f, 0 ≤ v ∧ v ≤ 256) : ∀ v ∈ onw B f l, 0 ≤ v ∧ v ≤ 256 := fun v hv => by
  obtain ⟨i, hi, rfl⟩ := nth_memF hv
  rw [onw_len] at hi
  have h1 := nth_of hf hi
  rw [onw_nth B f l i hi]
  split
  · have := onR_le (B := B) (b := nth l i) hB
    unfold onE
    split <;> omega
  · exact h1
end

end Go.Proofs.Ytpndafieknddcaa
