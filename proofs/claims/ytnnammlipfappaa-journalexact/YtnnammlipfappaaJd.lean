/- copied; numbers and lists of an entry. -/
import Derived.Test.YtnnammlipfappaaJc

import Derived.Laws.ResultCell

namespace Go.Proofs.Ytnnammlipfappaa

open Ieee Go.RowKit



theorem results_cell1 {fn : Func} {p : Tmp} {ty : TypeId} (h : fn.results = #[.cell p ty]) (tmps : Array Value) (P : Program) (w : World) :
    (results fn tmps).run P w = ((asAddr (tmps.getD p undef)).run P w).andThen fun a w₁ => (loadVar ty a).run P w₁ := by
  simp only [results, h]
  simp [Sem.run_bind, Result.andThen]
theorem alloc_at {w : World} {o : Obj} {k : Nat} (hk : k = w.heap.size) : (w.alloc o).heap[k]? = some o := by subst hk; show (w.heap.push o)[w.heap.size]? = _; simp
theorem alloc_old {w : World} {o p : Obj} {x : Nat} (h : w.heap[x]? = some p) : (w.alloc o).heap[x]? = some p := by rw [(below_alloc w o).block x (Array.getElem?_eq_some_iff.1 h).1]; exact h
theorem alloc_size (w : World) (o : Obj) : (w.alloc o).heap.size = w.heap.size + 1 := by simp
theorem blk_cell {w : World} {g : Nat} {cur : Array Value} {t : TypeId} (h : w.heap[g]? = some (.cells cur t (0, 0))) (i : Nat) : w.cell? ⟨g, i, none⟩ = cur[i]? := cell_of_row w g i cur t (0, 0) h
theorem blk_soft {w : World} {g : Nat} {cur : Array Value} {t : TypeId} (h : w.heap[g]? = some (.cells cur t (0, 0))) (i : Nat) : w.frozen? ⟨g, i, none⟩ = false := by simp [World.frozen?, h]
theorem blk_lt {w : World} {g : Nat} {o : Obj} (h : w.heap[g]? = some o) : g < w.heap.size := (Array.getElem?_eq_some_iff.1 h).1
theorem blk_below {w w' : World} {g : Nat} {o : Obj} (h : w.heap[g]? = some o) (hb : Below w.heap.size w w') : w'.heap[g]? = some o := by rw [hb.block g (blk_lt h)]; exact h


/-- copied's blocks. -/
structure Cp (w wr : World) (b a : Int) (pv cv : Value) : Prop where
  bel : Below w.heap.size w wr
  blk : wr.heap[w.heap.size]? = some (.cells #[.int .i64 b, pv, cv, .int .i64 a] 41 (0, 0))
  res : wr.heap[w.heap.size + 1]? = some (.cells #[.int .i64 0, .slice none 0 0, .slice none 0 0, .int .i64 0] 41 (0, 0))
  ptr : wr.heap[w.heap.size + 2]? = some (.cells #[.pointer (some ⟨w.heap.size, 1, none⟩), .pointer (some ⟨w.heap.size, 2, none⟩)] 93 (0, 0))
section

variable {w wr w' : World} {b a : Int} {pv cv : Value} {n : Nt}

theorem Cp.go (h : Cp w wr b a pv cv) (hb : Below wr.heap.size wr w') : Cp w w' b a pv cv :=
  ⟨h.bel.trans (hb.mono h.bel.size), blk_below h.blk hb, blk_below h.res hb, blk_below h.ptr hb⟩
theorem Cp.set1 (h : Cp w wr b a pv cv) (u : Value) : Cp w (wr.setCell ⟨w.heap.size, 1, none⟩ u) b a u cv :=
  ⟨h.bel.setCell (p := ⟨w.heap.size, 1, none⟩) (Nat.le_refl _) _, by rw [set_row h.blk]; rfl, by rw [set_other _ _ (by omega)]; exact h.res, by rw [set_other _ _ (by omega)]; exact h.ptr⟩
theorem Cp.set2 (h : Cp w wr b a pv cv) (u : Value) : Cp w (wr.setCell ⟨w.heap.size, 2, none⟩ u) b a pv u :=
  ⟨h.bel.setCell (p := ⟨w.heap.size, 2, none⟩) (Nat.le_refl _) _, by rw [set_row h.blk]; rfl, by rw [set_other _ _ (by omega)]; exact h.res, by rw [set_other _ _ (by omega)]; exact h.ptr⟩
abbrev OwN (base : Nat) (w : World) (v : Value) (l : List Int) : Prop := w.ownsRow base 3 1 v l.length (cellsN l)
def NcRel (w : World) (n : Nt) (pv cv : Value) (iv : Value) (wr : World) : Prop := ∃ pv1 cv1, Cp w wr n.b n.a pv1 cv1 ∧
  ((iv = .int .i64 0 ∧ pv1 = pv ∧ cv1 = cv) ∨ (iv = .int .i64 1 ∧ OwN (w.heap.size + 3) wr pv1 n.p ∧ cv1 = cv) ∨ (iv = .int .i64 2 ∧ OwN (w.heap.size + 3) wr pv1 n.p ∧ OwN (w.heap.size + 3) wr cv1 n.c))
/-- What copied answers. -/
def CpGot (w : World) (n : Nt) (e : Ending) (w' : World) : Prop := ∃ pa pc ca cc, e = .returned (.agg #[.int .i64 n.b, .slice pa n.p.length pc, .slice ca n.c.length cc, .int .i64 n.a]) ∧ OwN w.heap.size w' (.slice pa n.p.length pc) n.p ∧ OwN w.heap.size w' (.slice ca n.c.length cc) n.c ∧ Below w.heap.size w w'
theorem grown_set4 (w : World) (g : Nat) (a b c d : Value) : w.grownBy ((((w.setCell ⟨g, 0, none⟩ a).setCell ⟨g, 1, none⟩ b).setCell ⟨g, 2, none⟩ c).setCell ⟨g, 3, none⟩ d) (some g) := grown_trans (grown_trans (grown_trans (grown_set _ _ _ _) (grown_set _ _ _ _)) (grown_set _ _ _ _)) (grown_set _ _ _ _)
theorem cp_end {pv1 cv1 : Value} (h : Cp w wr n.b n.a pv1 cv1) (hp : OwN (w.heap.size + 3) wr pv1 n.p) (hc : OwN (w.heap.size + 3) wr cv1 n.c) (hg : wr.grownBy w' (some (w.heap.size + 1))) : CpGot w n (.returned (.agg #[.int .i64 n.b, pv1, cv1, .int .i64 n.a])) w' := by
  obtain ⟨_, pa, pc, rfl, _⟩ := own_nl hp
  obtain ⟨_, ca, cc, rfl, _⟩ := own_nl hc
  have hk : ∀ x, x < wr.heap.size → x ≠ w.heap.size + 1 → w'.heap[x]? = wr.heap[x]? := fun x hx hn => hg.block x hx (fun e => hn (by simpa using e))
  refine ⟨pa, pc, ca, cc, rfl, ?_, ?_, h.bel.grown hg h.bel.size (fun x hx => by cases hx; omega)⟩
  · refine own_base (row_keep hp fun x hx => hk x (hp.lt x hx).2 ?_) (by omega)
    have := (hp.lt x hx).1; omega
  · refine own_base (row_keep hc fun x hx => hk x (hc.lt x hx).2 ?_) (by omega)
    have := (hc.lt x hx).1; omega


set_option maxRecDepth 100000 in
set_option maxHeartbeats 2000000 in
theorem jcopied_walk (hp : Nv w pv n.p) (hc : Nv w cv n.c) (hpl : n.p.length * 8 ≤ 140737488355328) (hcl : n.c.length * 8 ≤ 140737488355328) :
    Calls Try.prog 45 #[.agg #[.int .i64 n.b, pv, cv, .int .i64 n.a]] w (CpGot w n) := by
  have HP : Hid (Nv w pv n.p) := hp
  have HC : Hid (Nv w cv n.c) := hc
  have HPL : Hid (n.p.length * 8 ≤ 140737488355328) := hpl
  have HCL : Hid (n.c.length * 8 ≤ 140737488355328) := hcl
  obtain ⟨po, pc, rfl, hlp, _⟩ := hp.form
  obtain ⟨co, cc, rfl, hlc, _⟩ := hc.form
  obtain ⟨w0, hw0⟩ : ∃ w0, w0 = ((w.alloc (Obj.cells #[.int .i64 n.b, .slice po n.p.length pc, .slice co n.c.length cc, .int .i64 n.a] 41)).alloc (Obj.cells #[.int .i64 0, .slice none 0 0, .slice none 0 0, .int .i64 0] 41)).alloc (Obj.cells #[.pointer (some ⟨w.heap.size, 1, none⟩), .pointer (some ⟨w.heap.size, 2, none⟩)] 93) := ⟨_, rfl⟩
  have HW0 : Hid (w0 = ((w.alloc (Obj.cells #[.int .i64 n.b, .slice po n.p.length pc, .slice co n.c.length cc, .int .i64 n.a] 41)).alloc (Obj.cells #[.int .i64 0, .slice none 0 0, .slice none 0 0, .int .i64 0] 41)).alloc (Obj.cells #[.pointer (some ⟨w.heap.size, 1, none⟩), .pointer (some ⟨w.heap.size, 2, none⟩)] 93)) := hw0
  have HCP : Hid (Cp w w0 n.b n.a (.slice po n.p.length pc) (.slice co n.c.length cc)) := by
    refine ⟨?_, ?_, ?_, ?_⟩
    · rw [hw0]; exact below_trans (below_trans (below_alloc _ _) (below_alloc _ _)) (below_alloc _ _)
    · rw [hw0]; exact alloc_old (alloc_old (alloc_at rfl))
    · rw [hw0]; exact alloc_old (alloc_at (by simp))
    · rw [hw0]; exact alloc_at (by simp)
  clear hp hc hpl hcl hw0
  go_enter Try.func45, Try.ntmps45
  go_wp2_with fail
  rw [← HW0.out]
  go_loopw [11] (NcRel w n (.slice po n.p.length pc) (.slice co n.c.length cc)) (fun iv _ => 2 - (intOf iv).toNat)
  case atStart => exact ⟨_, _, HCP.out, .inl ⟨rfl, rfl, rfl⟩⟩
  case round =>
    obtain ⟨pv1, cv1, hCP, ⟨rfl, rfl, rfl⟩ | ⟨rfl, hop, rfl⟩ | ⟨rfl, hop, hoc⟩⟩ := hrel
    · have HR : Hid (Cp w wr n.b n.a (.slice po n.p.length pc) (.slice co n.c.length cc)) := hCP
      have k1 : wr.cell? ⟨w.heap.size, 1, none⟩ = some (.slice po n.p.length pc) := by rw [blk_cell hCP.blk]; rfl
      have z0 : wr.cell? ⟨w.heap.size + 2, 0, none⟩ = some (.pointer (some ⟨w.heap.size, 1, none⟩)) := by rw [blk_cell hCP.ptr]; rfl
      clear hCP
      go_wp2_with fail
      refine (cloneN_walk (HP.out.below HR.out.bel) HPL.out).mono ?_
      rintro e w1 ⟨v', rfl, ho, hB1⟩
      have HO : Hid (OwN wr.heap.size w1 v' n.p) := ho
      have HR1 : Hid (Cp w w1 n.b n.a (.slice po n.p.length pc) (.slice co n.c.length cc)) := HR.out.go hB1
      have HSZ : Hid (w.heap.size + 2 < wr.heap.size) := blk_lt HR.out.ptr
      obtain ⟨_, va, vc, rfl, _⟩ := own_nl ho
      have j1 : w1.cell? ⟨w.heap.size, 1, none⟩ = some (.slice po n.p.length pc) := by rw [blk_cell HR1.out.blk]; rfl
      have f1 : w1.frozen? ⟨w.heap.size, 1, none⟩ = false := blk_soft HR1.out.blk 1
      clear ho hB1
      go_wp2_with fail
      go_roundw
      case rel => 
        refine ⟨_, _, HR1.out.set1 _, .inr (.inl ⟨rfl, ?_, rfl⟩)⟩
        refine own_base (row_keep HO.out fun x hx => set_other _ _ ?_) HSZ.out
        have := (HO.out.lt x hx).1; have := HSZ.out; omega
      case measure => simp [intOf]
    · have HR : Hid (Cp w wr n.b n.a pv1 (.slice co n.c.length cc)) := hCP
      have HOP : Hid (OwN (w.heap.size + 3) wr pv1 n.p) := hop
      have k1 : wr.cell? ⟨w.heap.size, 2, none⟩ = some (.slice co n.c.length cc) := by rw [blk_cell hCP.blk]; rfl
      have z0 : wr.cell? ⟨w.heap.size + 2, 1, none⟩ = some (.pointer (some ⟨w.heap.size, 2, none⟩)) := by rw [blk_cell hCP.ptr]; rfl
      clear hCP hop
      go_wp2_with fail
      refine (cloneN_walk (HC.out.below HR.out.bel) HCL.out).mono ?_
      rintro e w1 ⟨v', rfl, ho, hB1⟩
      have HO : Hid (OwN wr.heap.size w1 v' n.c) := ho
      have HOP1 : Hid (OwN (w.heap.size + 3) w1 pv1 n.p) := own_below HOP.out hB1
      have HR1 : Hid (Cp w w1 n.b n.a pv1 (.slice co n.c.length cc)) := HR.out.go hB1
      have HSZ : Hid (w.heap.size + 2 < wr.heap.size) := blk_lt HR.out.ptr
      obtain ⟨_, va, vc, rfl, _⟩ := own_nl ho
      have j1 : w1.cell? ⟨w.heap.size, 2, none⟩ = some (.slice co n.c.length cc) := by rw [blk_cell HR1.out.blk]; rfl
      have f1 : w1.frozen? ⟨w.heap.size, 2, none⟩ = false := blk_soft HR1.out.blk 2
      clear ho hB1
      go_wp2_with fail
      go_roundw
      case rel => 
        refine ⟨_, _, HR1.out.set2 _, .inr (.inr ⟨rfl, ?_, ?_⟩)⟩
        · refine row_keep HOP1.out fun x hx => set_other _ _ ?_
          have := (HOP1.out.lt x hx).1; omega
        · refine own_base (row_keep HO.out fun x hx => set_other _ _ ?_) HSZ.out
          have := (HO.out.lt x hx).1; have := HSZ.out; omega
      case measure => simp [intOf]
    · have HR : Hid (Cp w wr n.b n.a pv1 cv1) := hCP
      have HOP : Hid (OwN (w.heap.size + 3) wr pv1 n.p) := hop
      have HOC : Hid (OwN (w.heap.size + 3) wr cv1 n.c) := hoc
      obtain ⟨_, pa, pc1, rfl, _⟩ := own_nl hop
      obtain ⟨_, ca, cc1, rfl, _⟩ := own_nl hoc
      have k0 : wr.cell? ⟨w.heap.size, 0, none⟩ = some (.int .i64 n.b) := by rw [blk_cell hCP.blk]; rfl
      have k1 : wr.cell? ⟨w.heap.size, 1, none⟩ = some (.slice pa n.p.length pc1) := by rw [blk_cell hCP.blk]; rfl
      have k2 : wr.cell? ⟨w.heap.size, 2, none⟩ = some (.slice ca n.c.length cc1) := by rw [blk_cell hCP.blk]; rfl
      have k3 : wr.cell? ⟨w.heap.size, 3, none⟩ = some (.int .i64 n.a) := by rw [blk_cell hCP.blk]; rfl
      have r0 : wr.cell? ⟨w.heap.size + 1, 0, none⟩ = some (.int .i64 0) := by rw [blk_cell hCP.res]; rfl
      have r1 : wr.cell? ⟨w.heap.size + 1, 1, none⟩ = some (.slice none 0 0) := by rw [blk_cell hCP.res]; rfl
      have r2 : wr.cell? ⟨w.heap.size + 1, 2, none⟩ = some (.slice none 0 0) := by rw [blk_cell hCP.res]; rfl
      have r3 : wr.cell? ⟨w.heap.size + 1, 3, none⟩ = some (.int .i64 0) := by rw [blk_cell hCP.res]; rfl
      have f0 : wr.frozen? ⟨w.heap.size + 1, 0, none⟩ = false := blk_soft hCP.res 0
      have f1 : wr.frozen? ⟨w.heap.size + 1, 1, none⟩ = false := blk_soft hCP.res 1
      have f2 : wr.frozen? ⟨w.heap.size + 1, 2, none⟩ = false := blk_soft hCP.res 2
      have f3 : wr.frozen? ⟨w.heap.size + 1, 3, none⟩ = false := blk_soft hCP.res 3
      clear hCP hop hoc
      go_wp2_with fail
      (try simp only [Exit.inBlock, Exit.then])
      refine bodyPost_ret (v := .agg #[.int .i64 n.b, .slice pa n.p.length pc1, .slice ca n.c.length cc1, .int .i64 n.a]) (by rw [results_cell1 rfl]; go_simp) rfl ?_
      exact cp_end HR.out HOP.out HOC.out (grown_set4 _ _ _ _ _ _)


/-- The pointers to an entry's numbers and lists. -/
def PtN (R : Nat) (w : World) (e : Ending) (w' : World) : Prop := ∃ g, e = .returned (.slice (some ⟨g, 0, none⟩) 3 3) ∧ w.heap.size ≤ g ∧ w'.heap[g]? = some (.cells #[.pointer (some ⟨R, 0, none⟩), .pointer (some ⟨R, 1, none⟩), .pointer (some ⟨R, 4, none⟩)] 88 (0, 0)) ∧ Below w.heap.size w w'
def PtL (R : Nat) (w : World) (e : Ending) (w' : World) : Prop := ∃ g, e = .returned (.slice (some ⟨g, 0, none⟩) 2 2) ∧ w.heap.size ≤ g ∧ w'.heap[g]? = some (.cells #[.pointer (some ⟨R, 2, none⟩), .pointer (some ⟨R, 3, none⟩)] 93 (0, 0)) ∧ Below w.heap.size w w'
set_option maxRecDepth 100000 in
theorem numbers_walk (R : Nat) : Calls Try.prog 57 #[.pointer (some ⟨R, 0, none⟩)] w (PtN R w) := by
  go_enter Try.func57, Try.ntmps57
  go_wp2_with fail
  go_region_with (fail)
  go_wp2_with fail
  go_ret
  exact ⟨_, rfl, Nat.le_refl _, alloc_at rfl, below_trans (below_alloc _ _) (below_drewN _ _)⟩
set_option maxRecDepth 100000 in
theorem lists_walk (R : Nat) : Calls Try.prog 59 #[.pointer (some ⟨R, 0, none⟩)] w (PtL R w) := by
  go_enter Try.func59, Try.ntmps59
  go_wp2_with fail
  go_region_with (fail)
  go_wp2_with fail
  go_ret
  exact ⟨_, rfl, Nat.le_refl _, alloc_at rfl, below_trans (below_alloc _ _) (below_drewN _ _)⟩
end

end Go.Proofs.Ytnnammlipfappaa


