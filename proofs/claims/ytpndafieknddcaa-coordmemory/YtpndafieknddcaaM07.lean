/- QJd MaKa Ja -/
import Derived.Test.YtpndafieknddcaaQJc
import Derived.Laws.ResultCell
import Derived.Test.YtpndafieknddcaaM04
import Derived.Test.YtpndafieknddcaaM00
namespace Go.Proofs.Ytpndafieknddcaa

open Ieee Go.RowKit



theorem results_cell1 {fn : Func} {p : Tmp} {ty : TypeId} (h : fn.results = #[.cell p ty]) (tmps : Array Value) (P : Program) (w : World) :
    (results fn tmps).run P w = ((asAddr (tmps.getD p undef)).run P w).andThen fun a w₁ => (loadVar ty a).run P w₁ := by
  simp only [results, h]
  simp [Sem.run_bind, Result.andThen]
theorem alloc_at {w : World} {o : Obj} {k : Nat} (hk : k = w.heap.size) : (w.alloc o).heap[k]? = some o := by subst hk; show (w.heap.push o)[w.heap.size]? = _; simp
theorem alloc_old {w : World} {o p : Obj} {x : Nat} (h : w.heap[x]? = some p) : (w.alloc o).heap[x]? = some p := by rw [(below_alloc w o).block x (Array.getElem?_eq_some_iff.1 h).1]; exact h
theorem alloc_size (w : World) (o : Obj) : (w.alloc o).heap.size = w.heap.size + 1 := by simp
theorem blk_cell {w : World} {g : Nat} {cur : Array Value} {t : TypeId} (h : w.heap[g]? = some (.cells cur t (0, 0))) (i : Nat) : w.cell? ⟨g, i, none⟩ = cur[i]? := cell_of_row w g i cur t (0, 0) h
theorem blk_soft {w : World} {g : Nat} {cur : Array Value} {t : TypeId} (h : w.heap[g]? = some (.cells cur t (0, 0))) (i : Nat) : w.frozen? ⟨g, i, none⟩ = false := by simp [World.frozen?, h]
theorem blk_lt {w : World} {g : Nat} {o : Obj} (h : w.heap[g]? = some o) : g < w.heap.size := (Array.getElem?_eq_some_iff.1 h).1
theorem blk_below {w w' : World} {g : Nat} {o : Obj} (h : w.heap[g]? = some o) (hb : Below w.heap.size w w') : w'.heap[g]? = some o := by rw [hb.block g (blk_lt h)]; exact h


/-- copied's blocks. -/
structure Cp (w wr : World) (b a : Int) (pv cv : Value) : Prop where
  bel : Below w.heap.size w wr
  blk : wr.heap[w.heap.size]? = some (.cells #[.int .i64 b, pv, cv, .int .i64 a] 53 (0, 0))
  res : wr.heap[w.heap.size + 1]? = some (.cells #[.int .i64 0, .slice none 0 0, .slice none 0 0, .int .i64 0] 53 (0, 0))
  ptr : wr.heap[w.heap.size + 2]? = some (.cells #[.pointer (some ⟨w.heap.size, 1, none⟩), .pointer (some ⟨w.heap.size, 2, none⟩)] 133 (0, 0))
section

variable {w wr w' : World} {b a : Int} {pv cv : Value} {n : Nt}

theorem Cp.go (h : Cp w wr b a pv cv) (hb : Below wr.heap.size wr w') : Cp w w' b a pv cv :=
  ⟨h.bel.trans (hb.mono h.bel.size), blk_below h.blk hb, blk_below h.res hb, blk_below h.ptr hb⟩
theorem Cp.set1 (h : Cp w wr b a pv cv) (u : Value) : Cp w (wr.setCell ⟨w.heap.size, 1, none⟩ u) b a u cv :=
  ⟨h.bel.setCell (p := ⟨w.heap.size, 1, none⟩) (Nat.le_refl _) _, by rw [set_row h.blk]; rfl, by rw [set_other _ _ (by omega)]; exact h.res, by rw [set_other _ _ (by omega)]; exact h.ptr⟩
theorem Cp.set2 (h : Cp w wr b a pv cv) (u : Value) : Cp w (wr.setCell ⟨w.heap.size, 2, none⟩ u) b a pv u :=
  ⟨h.bel.setCell (p := ⟨w.heap.size, 2, none⟩) (Nat.le_refl _) _, by rw [set_row h.blk]; rfl, by rw [set_other _ _ (by omega)]; exact h.res, by rw [set_other _ _ (by omega)]; exact h.ptr⟩
abbrev OwN (base : Nat) (w : World) (v : Value) (l : List Int) : Prop := w.ownsRow base 3 1 v l.length (cellsN l)
def NcRel (w : World) (n : Nt) (pv cv : Value) (iv : Value) (wr : World) : Prop := ∃ pv1 cv1, Cp w wr n.b n.a pv1 cv1 ∧
  ((iv = .int .i64 0 ∧ pv1 = pv ∧ cv1 = cv) ∨ (iv = .int .i64 1 ∧ OwN (w.heap.size + 3) wr pv1 n.p ∧ cv1 = cv) ∨ (iv = .int .i64 2 ∧ OwN (w.heap.size + 3) wr pv1 n.p ∧ OwN (w.heap.size + 3) wr cv1 n.c))
/-- What copied answers. -/
def CpGot (w : World) (n : Nt) (e : Ending) (w' : World) : Prop := ∃ pa pc ca cc, e = .returned (.agg #[.int .i64 n.b, .slice pa n.p.length pc, .slice ca n.c.length cc, .int .i64 n.a]) ∧ OwN w.heap.size w' (.slice pa n.p.length pc) n.p ∧ OwN w.heap.size w' (.slice ca n.c.length cc) n.c ∧ Below w.heap.size w w'
theorem grown_set4 (w : World) (g : Nat) (a b c d : Value) : w.grownBy ((((w.setCell ⟨g, 0, none⟩ a).setCell ⟨g, 1, none⟩ b).setCell ⟨g, 2, none⟩ c).setCell ⟨g, 3, none⟩ d) (some g) := grown_trans (grown_trans (grown_trans (grown_set _ _ _ _) (grown_set _ _ _ _)) (grown_set _ _ _ _)) (grown_set _ _ _ _)
theorem cp_end {pv1 cv1 : Value} (h : Cp w wr n.b n.a pv1 cv1) (hp : OwN (w.heap.size + 3) wr pv1 n.p) (hc : OwN (w.heap.size + 3) wr cv1 n.c) (hg : wr.grownBy w' (some (w.heap.size + 1))) : CpGot w n (.returned (.agg #[.int .i64 n.b, pv1, cv1, .int .i64 n.a])) w' := by
  obtain ⟨_, pa, pc, rfl, _⟩ := own_nl hp
  obtain ⟨_, ca, cc, rfl, _⟩ := own_nl hc
  have hk : ∀ x, x < wr.heap.size → x ≠ w.heap.size + 1 → w'.heap[x]? = wr.heap[x]? := fun x hx hn => hg.block x hx (fun e => hn (by simpa using e))
  refine ⟨pa, pc, ca, cc, rfl, ?_, ?_, h.bel.grown hg h.bel.size (fun x hx => by cases hx; omega)⟩
  · refine own_base (row_keep hp fun x hx => hk x (hp.lt x hx).2 ?_) (by omega)
    have := (hp.lt x hx).1; omega
  · refine own_base (row_keep hc fun x hx => hk x (hc.lt x hx).2 ?_) (by omega)
    have := (hc.lt x hx).1; omega


set_option maxRecDepth 100000 in
set_option maxHeartbeats 2000000 in
theorem jcopied_walk (hp : Nv w pv n.p) (hc : Nv w cv n.c) (hpl : n.p.length * 8 ≤ 140737488355328) (hcl : n.c.length * 8 ≤ 140737488355328) :
    Calls Try.prog 66 #[.agg #[.int .i64 n.b, pv, cv, .int .i64 n.a]] w (CpGot w n) := by
  have HP : Hid (Nv w pv n.p) := hp
  have HC : Hid (Nv w cv n.c) := hc
  have HPL : Hid (n.p.length * 8 ≤ 140737488355328) := hpl
  have HCL : Hid (n.c.length * 8 ≤ 140737488355328) := hcl
  obtain ⟨po, pc, rfl, hlp, _⟩ := hp.form
  obtain ⟨co, cc, rfl, hlc, _⟩ := hc.form
  obtain ⟨w0, hw0⟩ : ∃ w0, w0 = ((w.alloc (Obj.cells #[.int .i64 n.b, .slice po n.p.length pc, .slice co n.c.length cc, .int .i64 n.a] 53)).alloc (Obj.cells #[.int .i64 0, .slice none 0 0, .slice none 0 0, .int .i64 0] 53)).alloc (Obj.cells #[.pointer (some ⟨w.heap.size, 1, none⟩), .pointer (some ⟨w.heap.size, 2, none⟩)] 133) := ⟨_, rfl⟩
  have HW0 : Hid (w0 = ((w.alloc (Obj.cells #[.int .i64 n.b, .slice po n.p.length pc, .slice co n.c.length cc, .int .i64 n.a] 53)).alloc (Obj.cells #[.int .i64 0, .slice none 0 0, .slice none 0 0, .int .i64 0] 53)).alloc (Obj.cells #[.pointer (some ⟨w.heap.size, 1, none⟩), .pointer (some ⟨w.heap.size, 2, none⟩)] 133)) := hw0
  have HCP : Hid (Cp w w0 n.b n.a (.slice po n.p.length pc) (.slice co n.c.length cc)) := by
    refine ⟨?_, ?_, ?_, ?_⟩
    · rw [hw0]; exact below_trans (below_trans (below_alloc _ _) (below_alloc _ _)) (below_alloc _ _)
    · rw [hw0]; exact alloc_old (alloc_old (alloc_at rfl))
    · rw [hw0]; exact alloc_old (alloc_at (by simp))
    · rw [hw0]; exact alloc_at (by simp)
  clear hp hc hpl hcl hw0
  go_enter Try.func66, Try.ntmps66
  go_wp2_with fail
  rw [← HW0.out]
  go_loopw [11] (NcRel w n (.slice po n.p.length pc) (.slice co n.c.length cc)) (fun iv _ => 2 - (intOf iv).toNat)
  case atStart => exact ⟨_, _, HCP.out, .inl ⟨rfl, rfl, rfl⟩⟩
  case round =>
    obtain ⟨pv1, cv1, hCP, ⟨rfl, rfl, rfl⟩ | ⟨rfl, hop, rfl⟩ | ⟨rfl, hop, hoc⟩⟩ := hrel
    · have HR : Hid (Cp w wr n.b n.a (.slice po n.p.length pc) (.slice co n.c.length cc)) := hCP
      have k1 : wr.cell? ⟨w.heap.size, 1, none⟩ = some (.slice po n.p.length pc) := by rw [blk_cell hCP.blk]; rfl
      have z0 : wr.cell? ⟨w.heap.size + 2, 0, none⟩ = some (.pointer (some ⟨w.heap.size, 1, none⟩)) := by rw [blk_cell hCP.ptr]; rfl
      clear hCP
      go_wp2_with fail
      refine (cloneN_walk (HP.out.below HR.out.bel) HPL.out).mono ?_
      rintro e w1 ⟨v', rfl, ho, hB1⟩
      have HO : Hid (OwN wr.heap.size w1 v' n.p) := ho
      have HR1 : Hid (Cp w w1 n.b n.a (.slice po n.p.length pc) (.slice co n.c.length cc)) := HR.out.go hB1
      have HSZ : Hid (w.heap.size + 2 < wr.heap.size) := blk_lt HR.out.ptr
      obtain ⟨_, va, vc, rfl, _⟩ := own_nl ho
      have j1 : w1.cell? ⟨w.heap.size, 1, none⟩ = some (.slice po n.p.length pc) := by rw [blk_cell HR1.out.blk]; rfl
      have f1 : w1.frozen? ⟨w.heap.size, 1, none⟩ = false := blk_soft HR1.out.blk 1
      clear ho hB1
      go_wp2_with fail
      go_roundw
      case rel => 
        refine ⟨_, _, HR1.out.set1 _, .inr (.inl ⟨rfl, ?_, rfl⟩)⟩
        refine own_base (row_keep HO.out fun x hx => set_other _ _ ?_) HSZ.out
        have := (HO.out.lt x hx).1; have := HSZ.out; omega
      case measure => simp [intOf]
    · have HR : Hid (Cp w wr n.b n.a pv1 (.slice co n.c.length cc)) := hCP
      have HOP : Hid (OwN (w.heap.size + 3) wr pv1 n.p) := hop
      have k1 : wr.cell? ⟨w.heap.size, 2, none⟩ = some (.slice co n.c.length cc) := by rw [blk_cell hCP.blk]; rfl
      have z0 : wr.cell? ⟨w.heap.size + 2, 1, none⟩ = some (.pointer (some ⟨w.heap.size, 2, none⟩)) := by rw [blk_cell hCP.ptr]; rfl
      clear hCP hop
      go_wp2_with fail
      refine (cloneN_walk (HC.out.below HR.out.bel) HCL.out).mono ?_
      rintro e w1 ⟨v', rfl, ho, hB1⟩
      have HO : Hid (OwN wr.heap.size w1 v' n.c) := ho
      have HOP1 : Hid (OwN (w.heap.size + 3) w1 pv1 n.p) := own_below HOP.out hB1
      have HR1 : Hid (Cp w w1 n.b n.a pv1 (.slice co n.c.length cc)) := HR.out.go hB1
      have HSZ : Hid (w.heap.size + 2 < wr.heap.size) := blk_lt HR.out.ptr
      obtain ⟨_, va, vc, rfl, _⟩ := own_nl ho
      have j1 : w1.cell? ⟨w.heap.size, 2, none⟩ = some (.slice co n.c.length cc) := by rw [blk_cell HR1.out.blk]; rfl
      have f1 : w1.frozen? ⟨w.heap.size, 2, none⟩ = false := blk_soft HR1.out.blk 2
      clear ho hB1
      go_wp2_with fail
      go_roundw
      case rel => 
        refine ⟨_, _, HR1.out.set2 _, .inr (.inr ⟨rfl, ?_, ?_⟩)⟩
        · refine row_keep HOP1.out fun x hx => set_other _ _ ?_
          have := (HOP1.out.lt x hx).1; omega
        · refine own_base (row_keep HO.out fun x hx => set_other _ _ ?_) HSZ.out
          have := (HO.out.lt x hx).1; have := HSZ.out; omega
      case measure => simp [intOf]
    · have HR : Hid (Cp w wr n.b n.a pv1 cv1) := hCP
      have HOP : Hid (OwN (w.heap.size + 3) wr pv1 n.p) := hop
      have HOC : Hid (OwN (w.heap.size + 3) wr cv1 n.c) := hoc
      obtain ⟨_, pa, pc1, rfl, _⟩ := own_nl hop
      obtain ⟨_, ca, cc1, rfl, _⟩ := own_nl hoc
      have k0 : wr.cell? ⟨w.heap.size, 0, none⟩ = some (.int .i64 n.b) := by rw [blk_cell hCP.blk]; rfl
      have k1 : wr.cell? ⟨w.heap.size, 1, none⟩ = some (.slice pa n.p.length pc1) := by rw [blk_cell hCP.blk]; rfl
      have k2 : wr.cell? ⟨w.heap.size, 2, none⟩ = some (.slice ca n.c.length cc1) := by rw [blk_cell hCP.blk]; rfl
      have k3 : wr.cell? ⟨w.heap.size, 3, none⟩ = some (.int .i64 n.a) := by rw [blk_cell hCP.blk]; rfl
      have r0 : wr.cell? ⟨w.heap.size + 1, 0, none⟩ = some (.int .i64 0) := by rw [blk_cell hCP.res]; rfl
      have r1 : wr.cell? ⟨w.heap.size + 1, 1, none⟩ = some (.slice none 0 0) := by rw [blk_cell hCP.res]; rfl
      have r2 : wr.cell? ⟨w.heap.size + 1, 2, none⟩ = some (.slice none 0 0) := by rw [blk_cell hCP.res]; rfl
      have r3 : wr.cell? ⟨w.heap.size + 1, 3, none⟩ = some (.int .i64 0) := by rw [blk_cell hCP.res]; rfl
      have f0 : wr.frozen? ⟨w.heap.size + 1, 0, none⟩ = false := blk_soft hCP.res 0
      have f1 : wr.frozen? ⟨w.heap.size + 1, 1, none⟩ = false := blk_soft hCP.res 1
      have f2 : wr.frozen? ⟨w.heap.size + 1, 2, none⟩ = false := blk_soft hCP.res 2
      have f3 : wr.frozen? ⟨w.heap.size + 1, 3, none⟩ = false := blk_soft hCP.res 3
      clear hCP hop hoc
      go_wp2_with fail
      (try simp only [Exit.inBlock, Exit.then])
      refine bodyPost_ret (v := .agg #[.int .i64 n.b, .slice pa n.p.length pc1, .slice ca n.c.length cc1, .int .i64 n.a]) (by rw [results_cell1 rfl]; go_simp) rfl ?_
      exact cp_end HR.out HOP.out HOC.out (grown_set4 _ _ _ _ _ _)


/-- The pointers to an entry's numbers and lists. -/
def PtN (R : Nat) (w : World) (e : Ending) (w' : World) : Prop := ∃ g, e = .returned (.slice (some ⟨g, 0, none⟩) 3 3) ∧ w.heap.size ≤ g ∧ w'.heap[g]? = some (.cells #[.pointer (some ⟨R, 0, none⟩), .pointer (some ⟨R, 1, none⟩), .pointer (some ⟨R, 4, none⟩)] 140 (0, 0)) ∧ Below w.heap.size w w'
def PtL (R : Nat) (w : World) (e : Ending) (w' : World) : Prop := ∃ g, e = .returned (.slice (some ⟨g, 0, none⟩) 2 2) ∧ w.heap.size ≤ g ∧ w'.heap[g]? = some (.cells #[.pointer (some ⟨R, 2, none⟩), .pointer (some ⟨R, 3, none⟩)] 133 (0, 0)) ∧ Below w.heap.size w w'
set_option maxRecDepth 100000 in
theorem numbers_walk (R : Nat) : Calls Try.prog 85 #[.pointer (some ⟨R, 0, none⟩)] w (PtN R w) := by
  go_enter Try.func85, Try.ntmps85
  go_wp2_with fail
  go_region_with (fail)
  go_wp2_with fail
  go_ret
  exact ⟨_, rfl, Nat.le_refl _, alloc_at rfl, below_trans (below_alloc _ _) (below_drewN _ _)⟩
set_option maxRecDepth 100000 in
theorem lists_walk (R : Nat) : Calls Try.prog 87 #[.pointer (some ⟨R, 0, none⟩)] w (PtL R w) := by
  go_enter Try.func87, Try.ntmps87
  go_wp2_with fail
  go_region_with (fail)
  go_wp2_with fail
  go_ret
  exact ⟨_, rfl, Nat.le_refl _, alloc_at rfl, below_trans (below_alloc _ _) (below_drewN _ _)⟩
end

end Go.Proofs.Ytpndafieknddcaa

namespace Go.Proofs.Ytpndafieknddcaa



/-- A mark: its batch, its attempt, its keys. -/
structure Mk where
  b : Int
  a : Int
  k : List Nat


def zeroM : Mk := ⟨0, 0, []⟩
def keysOk (l : List Nat) : Prop := ∀ x ∈ l, x < 18446744073709551616
def folN (o : Option Nat) (k : Nat) : Bool := match o with
  | none => true
  | some j => decide (j < k)
def risE : Option Nat → List Nat → Bool
  | _, [] => true
  | o, c :: r => folN o c && risE (some c) r
def risB (l : List Nat) : Bool := risE none l
def cntB (x : Int) : Bool := decide (0 ≤ x) && decide (x ≤ 1099511627776)
def soundB (m : Mk) : Bool := cntB m.b && (cntB m.a && (if m.b = 0 ∨ m.a = 0 then decide (m.b = m.a) && decide (m.k.length = 0) else decide (m.k.length ≤ 64) && risB m.k))


def bytesM (m : Mk) : List Nat := Wm.enc m.b.toNat ++ (Wm.enc m.a.toNat ++ (Wm.enc m.k.length ++ Wm.encAll m.k))
def encM (m : Mk) : List Nat × Nat := if soundB m = true then (bytesM m, 0) else ([], 1)


/-- A batch or an attempt: the error, the number, the bytes behind. -/
def cntL (l : List Nat) : Nat × Nat × List Nat :=
  if (Wm.take l).2.2 ≠ 0 then ((Wm.take l).2.2, 0, []) else if 1099511627776 < (Wm.take l).1 then (4, 0, []) else (0, (Wm.take l).1, l.drop (Wm.take l).2.1)
/-- n keys: the error, the keys, the bytes behind. -/
def keyS : Nat → List Nat → Nat × List Nat × List Nat
  | 0, l => (0, [], l)
  | n + 1, l => if (Wm.take l).2.2 ≠ 0 then ((Wm.take l).2.2, [], []) else
      if (keyS n (l.drop (Wm.take l).2.1)).1 ≠ 0 then ((keyS n (l.drop (Wm.take l).2.1)).1, [], []) else
      (0, (Wm.take l).1 :: (keyS n (l.drop (Wm.take l).2.1)).2.1, (keyS n (l.drop (Wm.take l).2.1)).2.2)
def decE (b a : Nat) (r : Nat × List Nat × List Nat) : Mk × Nat :=
  if r.1 ≠ 0 then (zeroM, r.1) else if r.2.2.length ≠ 0 then (zeroM, 5) else if soundB ⟨b, a, r.2.1⟩ = false then (zeroM, 1) else (⟨b, a, r.2.1⟩, 0)
def decK (b a : Nat) (l : List Nat) : Mk × Nat :=
  if (Wm.take l).2.2 ≠ 0 then (zeroM, (Wm.take l).2.2) else if 64 < (Wm.take l).1 then (zeroM, 6) else decE b a (keyS (Wm.take l).1 (l.drop (Wm.take l).2.1))
def decA (b : Nat) (l : List Nat) : Mk × Nat := if (cntL l).1 ≠ 0 then (zeroM, (cntL l).1) else decK b (cntL l).2.1 (cntL l).2.2
def decM (l : List Nat) : Mk × Nat := if (cntL l).1 ≠ 0 then (zeroM, (cntL l).1) else decA (cntL l).2.1 (cntL l).2.2


theorem take_cut {l : List Nat} {x n : Nat} (hl : ∀ c ∈ l, c < 256) (h : Wm.take l = (x, n, 0)) : l = Wm.enc x ++ l.drop n ∧ x < 18446744073709551616 ∧ n = (Wm.enc x).length := by
  rcases Wm.take_form l hl with ⟨e, h1, h2⟩ | ⟨y, m, h1, h2, h3, h4, h5⟩
  · rw [h] at h1; simp at h1; omega
  · rw [h] at h1
    simp at h1
    obtain ⟨rfl, rfl⟩ := h1
    refine ⟨by rw [h5, List.take_append_drop], h2, by rw [h5]; simp; omega⟩
theorem take_app {α : Type} (a b : List α) (n : Nat) : (a ++ b).take n = if n < a.length then a.take n else a ++ b.take (n - a.length) := by
  split
  · rename_i h; rw [List.take_append_of_le_length (by omega)]
  · rename_i h
    have : n = a.length + (n - a.length) := by omega
    rw [this, List.take_length_add_append]
    simp
theorem drop_enc (x : Nat) (r : List Nat) : (Wm.enc x ++ r).drop (Wm.enc x).length = r := by simp


theorem cnt_parts {x : Int} (h : cntB x = true) : 0 ≤ x ∧ x ≤ 1099511627776 := by
  simpa [cntB] using h
theorem sound_parts {m : Mk} (h : soundB m = true) : 0 ≤ m.b ∧ m.b ≤ 1099511627776 ∧ 0 ≤ m.a ∧ m.a ≤ 1099511627776 ∧ m.k.length ≤ 64 := by
  simp only [soundB, Bool.and_eq_true] at h
  obtain ⟨h1, h2, h3⟩ := h
  have c1 := cnt_parts h1
  have c2 := cnt_parts h2
  refine ⟨c1.1, c1.2, c2.1, c2.2, ?_⟩
  split at h3
  · simp at h3; rw [h3.2]; simp
  · simp at h3; exact h3.1
theorem encAll_ltM (l : List Nat) (h : keysOk l) : ∀ c ∈ Wm.encAll l, c < 256 := by
  induction l with
  | nil => simp [Wm.encAll]
  | cons x l ih =>
    intro c hc
    simp only [Wm.encAll, List.mem_append] at hc
    rcases hc with hc | hc
    · exact Wm.enc_lt x (h x (by simp)) c hc
    · exact ih (fun y hy => h y (by simp [hy])) c hc
theorem bytesM_len {m : Mk} (h : soundB m = true) : (bytesM m).length ≤ 670 := by
  have := (sound_parts h).2.2.2.2
  have h1 := Wm.enc_len m.b.toNat
  have h2 := Wm.enc_len m.a.toNat
  have h3 := Wm.enc_len m.k.length
  have h4 := encAll_len m.k
  simp only [bytesM, List.length_append]; omega
theorem bytesM_lt {m : Mk} (h : soundB m = true) (hk : keysOk m.k) : ∀ c ∈ bytesM m, c < 256 := by
  have hp := sound_parts h
  intro c hc
  simp only [bytesM, List.mem_append] at hc
  rcases hc with hc | hc | hc | hc
  · exact Wm.enc_lt _ (by omega) c hc
  · exact Wm.enc_lt _ (by omega) c hc
  · exact Wm.enc_lt _ (by omega) c hc
  · exact encAll_ltM _ hk c hc


theorem cnt_of {x : Nat} (h : x ≤ 1099511627776) (r : List Nat) : cntL (Wm.enc x ++ r) = (0, x, r) := by
  simp only [cntL, Wm.take_enc x r (by omega)]
  rw [if_neg (by simp), if_neg (by omega), drop_enc]
theorem cnt_short {x n : Nat} (h : x ≤ 1099511627776) (hn : n < (Wm.enc x).length) : (cntL ((Wm.enc x).take n)).1 = 3 := by
  simp [cntL, Wm.take_enc_short x n (by omega) hn]
theorem key_of {ks : List Nat} : ∀ {r : List Nat}, keysOk ks → keyS ks.length (Wm.encAll ks ++ r) = (0, ks, r) := by
  induction ks with
  | nil => intro r _; rfl
  | cons x ks ih =>
    intro r hk
    have hx := hk x (by simp)
    have e : Wm.encAll (x :: ks) ++ r = Wm.enc x ++ (Wm.encAll ks ++ r) := by simp [Wm.encAll]
    have i1 := ih (r := r) (fun y hy => hk y (by simp [hy]))
    rw [e]
    simp only [List.length_cons, keyS, Wm.take_enc x _ hx, drop_enc, i1]
    simp
theorem key_short {ks : List Nat} : ∀ {n : Nat}, keysOk ks → n < (Wm.encAll ks).length → (keyS ks.length ((Wm.encAll ks).take n)).1 = 3 := by
  induction ks with
  | nil => intro n _ hn; simp [Wm.encAll] at hn
  | cons x ks ih =>
    intro n hk hn
    have hx := hk x (by simp)
    simp only [Wm.encAll, List.length_append] at hn
    simp only [Wm.encAll, List.length_cons]
    rw [take_app]
    split
    · rename_i h
      simp [keyS, Wm.take_enc_short x n hx h]
    · rename_i h
      have i1 := ih (n := n - (Wm.enc x).length) (fun y hy => hk y (by simp [hy])) (by omega)
      simp only [keyS, Wm.take_enc x _ hx, drop_enc, i1]
      simp
theorem cntL_err {l : List Nat} (h : (cntL l).1 = 3) : decM l = (zeroM, 3) := by simp [decM, h]


theorem formM_there {m : Mk} (h : soundB m = true) (hk : keysOk m.k) (r : List Nat) : decM (bytesM m ++ r) = if r.length ≠ 0 then (zeroM, 5) else (m, 0) := by
  have hp := sound_parts h
  have e : bytesM m ++ r = Wm.enc m.b.toNat ++ (Wm.enc m.a.toNat ++ (Wm.enc m.k.length ++ (Wm.encAll m.k ++ r))) := by simp [bytesM]
  rw [e]
  simp only [decM, cnt_of (show m.b.toNat ≤ 1099511627776 by omega), decA, cnt_of (show m.a.toNat ≤ 1099511627776 by omega), decK, Wm.take_enc m.k.length _ (show m.k.length < 18446744073709551616 by omega), drop_enc, key_of hk, decE]
  have e1 : ((m.b.toNat : Nat) : Int) = m.b := by omega
  have e2 : ((m.a.toNat : Nat) : Int) = m.a := by omega
  rw [e1, e2, if_neg (by simp), if_neg (by simp), if_neg (by simp), if_neg (by omega), if_neg (by simp)]
  split
  · rfl
  · rw [if_neg (by have : soundB ⟨m.b, m.a, m.k⟩ = true := h; simp [this])]
theorem formM_cut {m : Mk} {n : Nat} (h : soundB m = true) (hk : keysOk m.k) (hn : n < (bytesM m).length) : decM ((bytesM m).take n) = (zeroM, 3) := by
  have hp := sound_parts h
  have b1 : m.b.toNat ≤ 1099511627776 := by omega
  have b2 : m.a.toNat ≤ 1099511627776 := by omega
  have b3 : m.k.length < 18446744073709551616 := by omega
  unfold bytesM at hn ⊢
  rw [take_app]
  split
  · rename_i q; exact cntL_err (cnt_short b1 q)
  · rename_i q1
    simp only [decM, cnt_of b1]
    rw [if_neg (by simp), take_app]
    split
    · rename_i q; simp [decA, cnt_short b2 q]
    · rename_i q2
      simp only [decA, cnt_of b2]
      rw [if_neg (by simp), take_app]
      split
      · rename_i q; simp [decK, Wm.take_enc_short _ _ b3 q]
      · rename_i q3
        simp only [decK, Wm.take_enc _ _ b3, drop_enc]
        rw [if_neg (by simp), if_neg (by omega)]
        simp only [decE, key_short hk (show n - (Wm.enc m.b.toNat).length - (Wm.enc m.a.toNat).length - (Wm.enc m.k.length).length < (Wm.encAll m.k).length by simp only [List.length_append] at hn; omega)]
        simp


theorem cnt_back {l : List Nat} (hl : ∀ c ∈ l, c < 256) (h : (cntL l).1 = 0) : l = Wm.enc (cntL l).2.1 ++ (cntL l).2.2 ∧ (cntL l).2.1 ≤ 1099511627776 := by
  obtain ⟨x, n, e, ht⟩ : ∃ x n e, Wm.take l = (x, n, e) := ⟨_, _, _, rfl⟩
  simp only [cntL, ht] at h ⊢
  by_cases h0 : e = 0
  · subst h0
    rw [if_neg (by simp)] at h ⊢
    by_cases h1 : 1099511627776 < x
    · rw [if_pos h1] at h; simp at h
    · rw [if_neg h1] at h ⊢
      exact ⟨(take_cut hl ht).1, by show x ≤ _; omega⟩
  · rw [if_pos h0] at h; simp at h; omega
theorem key_back {n : Nat} : ∀ {l : List Nat}, (∀ c ∈ l, c < 256) → (keyS n l).1 = 0 → l = Wm.encAll (keyS n l).2.1 ++ (keyS n l).2.2 ∧ (keyS n l).2.1.length = n ∧ keysOk (keyS n l).2.1 := by
  induction n with
  | zero => intro l hl _; simp [keyS, Wm.encAll, keysOk]
  | succ n ih =>
    intro l hl h
    obtain ⟨x, q, e, ht⟩ : ∃ x n e, Wm.take l = (x, n, e) := ⟨_, _, _, rfl⟩
    simp only [keyS, ht] at h ⊢
    by_cases h0 : e = 0
    · subst h0
      rw [if_neg (by simp)] at h ⊢
      by_cases h1 : (keyS n (l.drop q)).1 = 0
      · rw [if_neg (by simpa using h1)] at h ⊢
        obtain ⟨i1, i2, i3⟩ := ih (l := l.drop q) (fun c hc => hl c (List.mem_of_mem_drop hc)) h1
        obtain ⟨t1, t2, _⟩ := take_cut hl ht
        refine ⟨?_, by simp [i2], ?_⟩
        · show l = Wm.enc x ++ Wm.encAll (keyS n (l.drop q)).2.1 ++ (keyS n (l.drop q)).2.2
          rw [List.append_assoc, ← i1]; exact t1
        · intro y hy
          rcases List.mem_cons.1 hy with rfl | hy
          · exact t2
          · exact i3 y hy
      · rw [if_pos h1] at h; exact absurd h h1
    · rw [if_pos h0] at h; exact absurd h h0
theorem formM_back {l : List Nat} (hl : ∀ c ∈ l, c < 256) (h : (decM l).2 = 0) : soundB (decM l).1 = true ∧ encM (decM l).1 = (l, 0) ∧ keysOk (decM l).1.k := by
  unfold decM at h ⊢
  by_cases h1 : (cntL l).1 = 0
  · rw [if_neg (by simpa using h1)] at h ⊢
    obtain ⟨c1, c2⟩ := cnt_back hl h1
    generalize (cntL l).2.1 = B at h c1 c2 ⊢
    generalize (cntL l).2.2 = l1 at h c1 ⊢
    have hl1 : ∀ c ∈ l1, c < 256 := fun c hc => hl c (by rw [c1]; simp [hc])
    unfold decA at h ⊢
    by_cases h2 : (cntL l1).1 = 0
    · rw [if_neg (by simpa using h2)] at h ⊢
      obtain ⟨d1, d2⟩ := cnt_back hl1 h2
      generalize (cntL l1).2.1 = A at h d1 d2 ⊢
      generalize (cntL l1).2.2 = l2 at h d1 ⊢
      have hl2 : ∀ c ∈ l2, c < 256 := fun c hc => hl1 c (by rw [d1]; simp [hc])
      obtain ⟨x, q, e, ht⟩ : ∃ x n e, Wm.take l2 = (x, n, e) := ⟨_, _, _, rfl⟩
      simp only [decK, ht] at h ⊢
      by_cases h3 : e = 0
      · subst h3
        rw [if_neg (by simp)] at h ⊢
        obtain ⟨t1, t2, _⟩ := take_cut hl2 ht
        by_cases h4 : 64 < x
        · rw [if_pos h4] at h; simp at h
        · rw [if_neg h4] at h ⊢
          unfold decE at h ⊢
          by_cases h5 : (keyS x (l2.drop q)).1 = 0
          · rw [if_neg (by simpa using h5)] at h ⊢
            obtain ⟨k1, k2, k3⟩ := key_back (l := l2.drop q) (fun c hc => hl2 c (List.mem_of_mem_drop hc)) h5
            generalize (keyS x (l2.drop q)).2.1 = ks at h k1 k2 k3 ⊢
            generalize (keyS x (l2.drop q)).2.2 = rest at h k1 ⊢
            by_cases h6 : rest.length = 0
            · rw [if_neg (by simpa using h6)] at h ⊢
              have hr : rest = [] := List.eq_nil_of_length_eq_zero h6
              cases h7 : soundB ⟨B, A, ks⟩
              · rw [if_pos h7] at h; simp at h
              · rw [if_neg (by simp)]
                refine ⟨h7, ?_, k3⟩
                unfold encM
                rw [if_pos h7]
                have e1 : bytesM ⟨B, A, ks⟩ = Wm.enc B ++ (Wm.enc A ++ (Wm.enc ks.length ++ Wm.encAll ks)) := by simp [bytesM]
                rw [e1, k2]
                have e2 : l2.drop q = Wm.encAll ks := by rw [k1, hr]; simp
                rw [← e2, ← t1, ← d1, ← c1]
            · rw [if_pos h6] at h; simp at h
          · rw [if_pos h5] at h; exact absurd h h5
      · rw [if_pos h3] at h; exact absurd h h3
    · rw [if_pos h2] at h; exact absurd h h2
  · rw [if_pos h1] at h; exact absurd h h1
theorem decM_bad {l : List Nat} (h : (decM l).2 ≠ 0) : (decM l).1 = zeroM := by
  unfold decM decA decK decE at *
  repeat' split
  all_goals first | rfl | skip
  all_goals simp_all
end Go.Proofs.Ytpndafieknddcaa

namespace Go.Proofs.Ytpndafieknddcaa



/-- A value: whether there is one, and its bits. -/
structure Vl where
  h : Bool
  b : Nat
def Vl.ok (v : Vl) : Prop := v.b < 18446744073709551616
/-- A pair: a key and its value. -/
structure Pr where
  k : Nat
  v : Vl
def Pr.ok (p : Pr) : Prop := p.k < 18446744073709551616 ∧ p.v.ok
def okT (t : List Pr) : Prop := ∀ p ∈ t, p.ok


/-- Is the list a table? -/
def tabB : List Pr → Bool
  | [] => true
  | p :: t => p.v.h && (t.all fun q => decide (p.k < q.k)) && tabB t
theorem tab_has {t : List Pr} (h : tabB t = true) : ∀ p ∈ t, p.v.h = true := by
  induction t with
  | nil => simp
  | cons q t ih =>
    simp only [tabB, Bool.and_eq_true] at h
    intro p hp
    rcases List.mem_cons.1 hp with rfl | hp
    · exact h.1.1
    · exact ih h.2 p hp


/-- A message. -/
structure Ms where
  K : Int
  F : Int
  T : Int
  B : Int
  A : Int
  C : Int
  E : List Int
  Q : List Nat
  P : List Pr


def zeroMs : Ms := ⟨0, 0, 0, 0, 0, 0, [], [], []⟩
def in64 (x : Int) : Prop := -9223372036854775808 ≤ x ∧ x < 9223372036854775808
structure Ms.ok (m : Ms) : Prop where
  K : in64 m.K
  F : in64 m.F
  T : in64 m.T
  B : in64 m.B
  A : in64 m.A
  C : in64 m.C
  E : ∀ x ∈ m.E, in64 x
  Q : keysOk m.Q
  P : okT m.P


/-- What a kind asks for. -/
def fld (k : Int) : Nat := if k = 1 ∨ k = 2 ∨ k = 3 ∨ k = 8 then 1 else if k = 4 then 2 else if k = 6 then 3 else if k = 5 ∨ k = 7 then 4 else 0
def nodB (x : Int) : Bool := decide (0 ≤ x) && decide (x < 9)
def ctB (x : Int) : Bool := decide (1 ≤ x) && decide (x ≤ 1099511627776)
def endB (l : List Int) : Bool := decide (1 ≤ l.length) && decide (l.length ≤ 4) && l.all fun x => decide (0 ≤ x) && decide (x ≤ 256)
def bareB (f : Nat) (m : Ms) : Bool := (decide (f = 1) || decide (m.E.length = 0)) && ((decide (f = 2) || decide (m.Q.length = 0)) && ((decide (f = 3) || decide (m.P.length = 0)) && (decide (f = 4) || decide (m.C = 0))))
def askB (f : Nat) (m : Ms) : Bool :=
  if f = 1 then endB m.E else if f = 2 then decide (m.Q.length ≤ 64) && risB m.Q else if f = 3 then decide (m.P.length ≤ 64) && tabB m.P else if f = 4 then decide (0 ≤ m.C) && decide (m.C ≤ 1000) else false
def sndM (m : Ms) : Bool := nodB m.F && (nodB m.T && (ctB m.B && (ctB m.A && (bareB (fld m.K) m && askB (fld m.K) m))))


def pairL : List Pr → List Nat
  | [] => []
  | p :: t => Wm.enc p.k ++ (Wm.wd p.v.b ++ pairL t)
def headL (m : Ms) : List Nat := Wm.enc m.K.toNat ++ (Wm.enc m.F.toNat ++ (Wm.enc m.T.toNat ++ (Wm.enc m.B.toNat ++ Wm.enc m.A.toNat)))
def nats (l : List Int) : List Nat := l.map Int.toNat
def restL (m : Ms) : List Nat :=
  if fld m.K = 1 then Wm.enc m.E.length ++ Wm.encAll (nats m.E) else if fld m.K = 2 then Wm.enc m.Q.length ++ Wm.encAll m.Q else if fld m.K = 3 then Wm.enc m.P.length ++ pairL m.P else Wm.enc m.C.toNat
def bytS (m : Ms) : List Nat := headL m ++ restL m
def encS (m : Ms) : List Nat × Nat := if sndM m = true then (bytS m, 0) else ([], 150)


/-- The kind: the error, the number, the bytes behind. -/
def kndL (l : List Nat) : Nat × Nat × List Nat :=
  if (Wm.take l).2.2 ≠ 0 then ((Wm.take l).2.2, 0, []) else if (Wm.take l).1 < 1 ∨ 8 < (Wm.take l).1 then (150, 0, []) else (0, (Wm.take l).1, l.drop (Wm.take l).2.1)
/-- How many keys or pairs. -/
def manL (l : List Nat) : Nat × Nat × List Nat :=
  if (Wm.take l).2.2 ≠ 0 then ((Wm.take l).2.2, 0, []) else if 64 < (Wm.take l).1 then (6, 0, []) else (0, (Wm.take l).1, l.drop (Wm.take l).2.1)
/-- The ends. -/
def endL (l : List Nat) : Nat × List Nat × List Nat :=
  if (Wm.takeNums l 4).2.2 ≠ 0 then ((Wm.takeNums l 4).2.2, [], []) else (0, (Wm.takeNums l 4).1, l.drop (Wm.takeNums l 4).2.1)
/-- n pairs. -/
def pairS : Nat → List Nat → Nat × List Pr × List Nat
  | 0, l => (0, [], l)
  | n + 1, l => if (Wm.take l).2.2 ≠ 0 then ((Wm.take l).2.2, [], []) else
      if (Wm.takeW (l.drop (Wm.take l).2.1)).2 ≠ 0 then ((Wm.takeW (l.drop (Wm.take l).2.1)).2, [], []) else
      if (pairS n ((l.drop (Wm.take l).2.1).drop 8)).1 ≠ 0 then ((pairS n ((l.drop (Wm.take l).2.1).drop 8)).1, [], []) else
      (0, ⟨(Wm.take l).1, ⟨true, (Wm.takeW (l.drop (Wm.take l).2.1)).1⟩⟩ :: (pairS n ((l.drop (Wm.take l).2.1).drop 8)).2.1, (pairS n ((l.drop (Wm.take l).2.1).drop 8)).2.2)


/-- A head that has been read. -/
structure Hd where
  K : Nat
  F : Nat
  T : Nat
  B : Nat
  A : Nat
def Hd.ms (h : Hd) (c : Int) (e : List Int) (q : List Nat) (p : List Pr) : Ms := ⟨h.K, h.F, h.T, h.B, h.A, c, e, q, p⟩
/-- What the kind asks for: the error, the message, the bytes behind. -/
def bodL (h : Hd) (l : List Nat) : Nat × Ms × List Nat :=
  if fld h.K = 1 then (if (endL l).1 ≠ 0 then ((endL l).1, zeroMs, []) else (0, h.ms 0 ((endL l).2.1.map fun x : Nat => (x : Int)) [] [], (endL l).2.2)) else
  if fld h.K = 2 then (if (manL l).1 ≠ 0 then ((manL l).1, zeroMs, []) else if (keyS (manL l).2.1 (manL l).2.2).1 ≠ 0 then ((keyS (manL l).2.1 (manL l).2.2).1, zeroMs, []) else (0, h.ms 0 [] (keyS (manL l).2.1 (manL l).2.2).2.1 [], (keyS (manL l).2.1 (manL l).2.2).2.2)) else
  if fld h.K = 3 then (if (manL l).1 ≠ 0 then ((manL l).1, zeroMs, []) else if (pairS (manL l).2.1 (manL l).2.2).1 ≠ 0 then ((pairS (manL l).2.1 (manL l).2.2).1, zeroMs, []) else (0, h.ms 0 [] [] (pairS (manL l).2.1 (manL l).2.2).2.1, (pairS (manL l).2.1 (manL l).2.2).2.2)) else
  (if (cntL l).1 ≠ 0 then ((cntL l).1, zeroMs, []) else (0, h.ms (cntL l).2.1 [] [] [], (cntL l).2.2))
def decT (r : Nat × Ms × List Nat) : Ms × Nat :=
  if r.1 ≠ 0 then (zeroMs, r.1) else if r.2.2.length ≠ 0 then (zeroMs, 5) else if sndM r.2.1 = false then (zeroMs, 150) else (r.2.1, 0)
def dec5 (K F T B : Nat) (l : List Nat) : Ms × Nat := if (cntL l).1 ≠ 0 then (zeroMs, (cntL l).1) else decT (bodL ⟨K, F, T, B, (cntL l).2.1⟩ (cntL l).2.2)
def dec4 (K F T : Nat) (l : List Nat) : Ms × Nat := if (cntL l).1 ≠ 0 then (zeroMs, (cntL l).1) else dec5 K F T (cntL l).2.1 (cntL l).2.2
def dec3 (K F : Nat) (l : List Nat) : Ms × Nat := if (cntL l).1 ≠ 0 then (zeroMs, (cntL l).1) else dec4 K F (cntL l).2.1 (cntL l).2.2
def dec2 (K : Nat) (l : List Nat) : Ms × Nat := if (cntL l).1 ≠ 0 then (zeroMs, (cntL l).1) else dec3 K (cntL l).2.1 (cntL l).2.2
def decS (l : List Nat) : Ms × Nat := if (kndL l).1 ≠ 0 then (zeroMs, (kndL l).1) else dec2 (kndL l).2.1 (kndL l).2.2

/-! What a message that is sound has. -/
theorem fld_cases (k : Int) : fld k = 0 ∨ fld k = 1 ∨ fld k = 2 ∨ fld k = 3 ∨ fld k = 4 := by
  unfold fld
  repeat' split
  all_goals simp
theorem fld_range {k : Int} (h : fld k ≠ 0) : 1 ≤ k ∧ k ≤ 8 := by
  unfold fld at h
  repeat' split at h
  all_goals omega
theorem nod_parts {x : Int} (h : nodB x = true) : 0 ≤ x ∧ x < 9 := by simpa [nodB] using h
theorem ct_parts {x : Int} (h : ctB x = true) : 1 ≤ x ∧ x ≤ 1099511627776 := by simpa [ctB] using h
theorem ask_zero {m : Ms} : askB 0 m = false := by simp [askB]
structure SndP (m : Ms) : Prop where
  k : 1 ≤ m.K ∧ m.K ≤ 8
  f : 0 ≤ m.F ∧ m.F < 9
  t : 0 ≤ m.T ∧ m.T < 9
  b : 1 ≤ m.B ∧ m.B ≤ 1099511627776
  a : 1 ≤ m.A ∧ m.A ≤ 1099511627776
  bare : bareB (fld m.K) m = true
  ask : askB (fld m.K) m = true
  g : fld m.K ≠ 0
theorem snd_parts {m : Ms} (h : sndM m = true) : SndP m := by
  simp only [sndM, Bool.and_eq_true] at h
  obtain ⟨h1, h2, h3, h4, h5, h6⟩ := h
  have hg : fld m.K ≠ 0 := fun e => by rw [e, ask_zero] at h6; cases h6
  exact ⟨fld_range hg, nod_parts h1, nod_parts h2, ct_parts h3, ct_parts h4, h5, h6, hg⟩
theorem ends_parts {m : Ms} (h : askB (fld m.K) m = true) (hf : fld m.K = 1) : 1 ≤ m.E.length ∧ m.E.length ≤ 4 ∧ ∀ x ∈ m.E, 0 ≤ x ∧ x ≤ 256 := by
  rw [hf] at h
  simp [askB, endB] at h
  exact ⟨h.1.1, h.1.2, h.2⟩
theorem keys_parts {m : Ms} (h : askB (fld m.K) m = true) (hf : fld m.K = 2) : m.Q.length ≤ 64 ∧ risB m.Q = true := by
  rw [hf] at h; simpa [askB] using h
theorem pairs_parts {m : Ms} (h : askB (fld m.K) m = true) (hf : fld m.K = 3) : m.P.length ≤ 64 ∧ tabB m.P = true := by
  rw [hf] at h; simpa [askB] using h
theorem code_parts {m : Ms} (h : askB (fld m.K) m = true) (hf : fld m.K = 4) : 0 ≤ m.C ∧ m.C ≤ 1000 := by
  rw [hf] at h; simpa [askB] using h
theorem bare_parts {f : Nat} {m : Ms} (h : bareB f m = true) : (f = 1 ∨ m.E = []) ∧ (f = 2 ∨ m.Q = []) ∧ (f = 3 ∨ m.P = []) ∧ (f = 4 ∨ m.C = 0) := by
  simpa [bareB] using h

/-! Lengths. -/
theorem pairL_len (t : List Pr) : (pairL t).length ≤ 18 * t.length := by
  induction t with
  | nil => simp [pairL]
  | cons p t ih => have := Wm.enc_len p.k; have := Wm.wd_len p.v.b; simp only [pairL, List.length_append, List.length_cons]; omega
theorem pairL_lt {t : List Pr} (h : okT t) : ∀ c ∈ pairL t, c < 256 := by
  induction t with
  | nil => simp [pairL]
  | cons p t ih =>
    intro c hc
    simp only [pairL, List.mem_append] at hc
    rcases hc with hc | hc | hc
    · exact Wm.enc_lt p.k (h p (by simp)).1 c hc
    · exact Wm.wdF_lt 8 p.v.b c hc
    · exact ih (fun q hq => h q (by simp [hq])) c hc
theorem pairL_append (t r : List Pr) : pairL (t ++ r) = pairL t ++ pairL r := by
  induction t with
  | nil => rfl
  | cons p t ih => simp [pairL, ih]
theorem headL_len (m : Ms) : (headL m).length ≤ 50 := by
  have h1 := Wm.enc_len m.K.toNat; have h2 := Wm.enc_len m.F.toNat; have h3 := Wm.enc_len m.T.toNat; have h4 := Wm.enc_len m.B.toNat; have h5 := Wm.enc_len m.A.toNat
  simp only [headL, List.length_append]; omega
theorem restL_len {m : Ms} (h : sndM m = true) : (restL m).length ≤ 1200 := by
  have hp := snd_parts h
  unfold restL
  split
  · rename_i hf
    have := (ends_parts hp.ask hf).2.1
    have h1 := Wm.enc_len m.E.length; have h2 := encAll_len (nats m.E)
    simp only [List.length_append, nats, List.length_map] at *; omega
  · split
    · rename_i hf
      have := (keys_parts hp.ask hf).1
      have h1 := Wm.enc_len m.Q.length; have h2 := encAll_len m.Q
      simp only [List.length_append]; omega
    · split
      · rename_i hf
        have := (pairs_parts hp.ask hf).1
        have h1 := Wm.enc_len m.P.length; have h2 := pairL_len m.P
        simp only [List.length_append]; omega
      · have := Wm.enc_len m.C.toNat; omega
theorem bytS_len {m : Ms} (h : sndM m = true) : (bytS m).length ≤ 1250 := by
  have h1 := headL_len m; have h2 := restL_len h
  simp only [bytS, List.length_append]; omega
theorem nats_ok {l : List Int} (h : ∀ x ∈ l, 0 ≤ x ∧ x ≤ 256) : keysOk (nats l) := by
  intro y hy
  obtain ⟨x, hx, rfl⟩ := List.mem_map.1 hy
  have := h x hx
  omega
theorem headL_lt {m : Ms} (h : sndM m = true) : ∀ c ∈ headL m, c < 256 := by
  have hp := snd_parts h
  have := hp.k; have := hp.f; have := hp.t; have := hp.b; have := hp.a
  intro c hc
  simp only [headL, List.mem_append] at hc
  rcases hc with hc | hc | hc | hc | hc <;> exact Wm.enc_lt _ (by omega) c hc
theorem restL_lt {m : Ms} (h : sndM m = true) (hk : m.ok) : ∀ c ∈ restL m, c < 256 := by
  have hp := snd_parts h
  intro c hc
  unfold restL at hc
  split at hc
  · rename_i hf
    have hh := ends_parts hp.ask hf
    rcases List.mem_append.1 hc with hc | hc
    · exact Wm.enc_lt _ (by omega) c hc
    · exact encAll_ltM _ (nats_ok hh.2.2) c hc
  · split at hc
    · rename_i hf
      have hh := keys_parts hp.ask hf
      rcases List.mem_append.1 hc with hc | hc
      · exact Wm.enc_lt _ (by omega) c hc
      · exact encAll_ltM _ hk.Q c hc
    · split at hc
      · rename_i hf
        have hh := pairs_parts hp.ask hf
        rcases List.mem_append.1 hc with hc | hc
        · exact Wm.enc_lt _ (by omega) c hc
        · exact pairL_lt hk.P c hc
      · rename_i h1 h2 h3
        have hf : fld m.K = 4 := by rcases fld_cases m.K with h | h | h | h | h <;> first | exact h | exact absurd h hp.g | exact absurd h h1 | exact absurd h h2 | exact absurd h h3
        have hh := code_parts hp.ask hf
        exact Wm.enc_lt _ (by omega) c hc
theorem bytS_lt {m : Ms} (h : sndM m = true) (hk : m.ok) : ∀ c ∈ bytS m, c < 256 := by
  intro c hc
  rcases List.mem_append.1 hc with hc | hc
  · exact headL_lt h c hc
  · exact restL_lt h hk c hc

/-! Read again. -/
theorem knd_of {x : Nat} (h : 1 ≤ x ∧ x ≤ 8) (r : List Nat) : kndL (Wm.enc x ++ r) = (0, x, r) := by
  simp only [kndL, Wm.take_enc x r (by omega)]
  rw [if_neg (by simp), if_neg (by omega), drop_enc]
theorem knd_short {x n : Nat} (h : x ≤ 8) (hn : n < (Wm.enc x).length) : (kndL ((Wm.enc x).take n)).1 = 3 := by
  simp [kndL, Wm.take_enc_short x n (by omega) hn]
theorem man_of {x : Nat} (h : x ≤ 64) (r : List Nat) : manL (Wm.enc x ++ r) = (0, x, r) := by
  simp only [manL, Wm.take_enc x r (by omega)]
  rw [if_neg (by simp), if_neg (by omega), drop_enc]
theorem man_short {x n : Nat} (h : x ≤ 64) (hn : n < (Wm.enc x).length) : (manL ((Wm.enc x).take n)).1 = 3 := by
  simp [manL, Wm.take_enc_short x n (by omega) hn]
theorem takeW_wd (x : Nat) (h : x < 18446744073709551616) (r : List Nat) : Wm.takeW (Wm.wd x ++ r) = (x, 0) := by
  have hl := Wm.wd_len x
  unfold Wm.takeW
  rw [if_neg (by rw [List.length_append]; omega), List.take_append_of_le_length (by omega), List.take_of_length_le (by omega), Wm.unw_wd x h]
theorem drop_wd (x : Nat) (r : List Nat) : (Wm.wd x ++ r).drop 8 = r := by
  rw [List.drop_append_of_le_length (by rw [Wm.wd_len]; omega), List.drop_of_length_le (by rw [Wm.wd_len]; omega), List.nil_append]
theorem takeW_short {l : List Nat} (h : l.length < 8) : Wm.takeW l = (0, 3) := by unfold Wm.takeW; rw [if_pos h]
theorem takeW_ok {l : List Nat} (h : ¬ l.length < 8) : Wm.takeW l = (Wm.unw (l.take 8), 0) := by unfold Wm.takeW; rw [if_neg h]
theorem pair_of {t : List Pr} : ∀ {r : List Nat}, okT t → (∀ p ∈ t, p.v.h = true) → pairS t.length (pairL t ++ r) = (0, t, r) := by
  induction t with
  | nil => intro r _ _; rfl
  | cons p t ih =>
    intro r hk hh
    have hx := hk p (by simp)
    have e : pairL (p :: t) ++ r = Wm.enc p.k ++ (Wm.wd p.v.b ++ (pairL t ++ r)) := by simp [pairL]
    have i1 := ih (r := r) (fun y hy => hk y (by simp [hy])) (fun y hy => hh y (by simp [hy]))
    have hb : p = ⟨p.k, ⟨true, p.v.b⟩⟩ := by have := hh p (by simp); rcases p with ⟨k, ⟨h, b⟩⟩; simp at this; subst this; rfl
    rw [e]
    simp only [List.length_cons, pairS, Wm.take_enc p.k _ hx.1, drop_enc, takeW_wd p.v.b hx.2, drop_wd, i1]
    simp
    exact hb.symm
theorem pair_short {t : List Pr} : ∀ {n : Nat}, okT t → n < (pairL t).length → (pairS t.length ((pairL t).take n)).1 = 3 := by
  induction t with
  | nil => intro n _ hn; simp [pairL] at hn
  | cons p t ih =>
    intro n hk hn
    have hx := hk p (by simp)
    have hw := Wm.wd_len p.v.b
    simp only [pairL, List.length_append] at hn
    simp only [pairL, List.length_cons]
    rw [take_app]
    split
    · rename_i h
      simp [pairS, Wm.take_enc_short p.k n hx.1 h]
    · rename_i h
      rw [take_app]
      split
      · rename_i h2
        have e : Wm.takeW ((Wm.wd p.v.b).take (n - (Wm.enc p.k).length)) = (0, 3) := takeW_short (by simp; omega)
        simp only [pairS, Wm.take_enc p.k _ hx.1, drop_enc, e]
        simp
      · rename_i h2
        have i1 := ih (n := n - (Wm.enc p.k).length - (Wm.wd p.v.b).length) (fun y hy => hk y (by simp [hy])) (by omega)
        simp only [pairS, Wm.take_enc p.k _ hx.1, drop_enc, takeW_wd p.v.b hx.2, drop_wd, i1]
        simp

/-! The ends: a list of numbers. -/
theorem tn_stop {l : List Nat} {p e : Nat} (k : Nat) (acc : List Nat) (h : (Wm.take (l.drop p)).2.2 = e) (h0 : e ≠ 0) : Wm.tnums (k + 1) l p acc = ([], 0, e) := by
  rw [Wm.tnums]
  obtain ⟨x, n, e', ht⟩ : ∃ x n e, Wm.take (l.drop p) = (x, n, e) := ⟨_, _, _, rfl⟩
  rw [ht] at h ⊢
  simp only at h
  subst h
  cases e' with
  | zero => exact absurd rfl h0
  | succ e => rfl
theorem tn_short (xs : List Nat) : ∀ (pre acc : List Nat) (n : Nat), (∀ x ∈ xs, x ≤ 4611686018427387904) → n < (Wm.encAll xs).length →
    Wm.tnums xs.length (pre ++ (Wm.encAll xs).take n) pre.length acc = ([], 0, 3) := by
  induction xs with
  | nil => intro pre acc n _ hn; simp [Wm.encAll] at hn
  | cons x xs ih =>
    intro pre acc n hx hn
    have hx0 := hx x (by simp)
    simp only [Wm.encAll, List.length_append] at hn
    simp only [Wm.encAll, List.length_cons]
    rw [take_app]
    split
    · rename_i h
      exact tn_stop _ _ (by simp [Wm.take_enc_short x n (by omega) h]) (by decide)
    · rename_i h
      have ht := Wm.take_enc x ((Wm.encAll xs).take (n - (Wm.enc x).length)) (by omega)
      have h := ih (pre ++ Wm.enc x) (acc ++ [x]) (n - (Wm.enc x).length) (fun y hy => hx y (by simp [hy])) (by omega)
      rw [List.length_append, List.append_assoc] at h
      rw [tn_go _ _ (by simpa using ht), if_neg (by omega), h]
theorem tn_back (k : Nat) : ∀ (l : List Nat) (p : Nat) (acc q : List Nat) (z : Nat), (∀ c ∈ l, c < 256) → p ≤ l.length → Wm.tnums k l p acc = (q, z, 0) →
    ∃ xs, q = acc ++ xs ∧ xs.length = k ∧ (∀ x ∈ xs, x ≤ 4611686018427387904) ∧ z ≤ l.length ∧ l.drop p = Wm.encAll xs ++ l.drop z := by
  induction k with
  | zero =>
    intro l p acc q z hl hp h
    simp only [Wm.tnums, Prod.mk.injEq] at h
    obtain ⟨rfl, rfl, _⟩ := h
    exact ⟨[], by simp, rfl, by simp, hp, by simp [Wm.encAll]⟩
  | succ k ih =>
    intro l p acc q z hl hp h
    obtain ⟨x, n, e, ht⟩ : ∃ x n e, Wm.take (l.drop p) = (x, n, e) := ⟨_, _, _, rfl⟩
    by_cases h0 : e = 0
    · subst h0
      rw [tn_go _ _ ht] at h
      by_cases hb : 4611686018427387904 < x
      · rw [if_pos hb] at h; simp at h
      · rw [if_neg hb] at h
        have hc := take_cut (l := l.drop p) (fun c hc => hl c (List.mem_of_mem_drop hc)) ht
        have hle : p + n ≤ l.length := by
          have h1 := congrArg List.length hc.1
          rw [List.length_append, List.length_drop, List.length_drop, List.length_drop, ← hc.2.2] at h1
          have h2 := Wm.enc_len x
          rw [← hc.2.2] at h2
          omega
        obtain ⟨xs, i1, i2, i3, i4, i5⟩ := ih l (p + n) (acc ++ [x]) q z hl hle h
        refine ⟨x :: xs, by rw [i1]; simp, by simp [i2], ?_, i4, ?_⟩
        · intro y hy
          rcases List.mem_cons.1 hy with rfl | hy
          · omega
          · exact i3 y hy
        · rw [Wm.encAll, List.append_assoc, ← i5, ← List.drop_drop]
          exact hc.1
    · rw [tn_stop k acc (by rw [ht]) h0] at h
      simp at h
      exact absurd h.2.2 h0
theorem tn_go4 {l : List Nat} {c p : Nat} (h : Wm.take l = (c, p, 0)) : Wm.takeNums l 4 = if 4 < c then ([], 0, 6) else Wm.tnums c l p [] := by
  unfold Wm.takeNums
  rw [h]
  simp only
  by_cases hc : 4 < c
  · rw [if_pos (by omega), if_pos hc]
  · rw [if_neg (by omega), if_neg hc]
theorem tn_err4 {l : List Nat} (h : (Wm.take l).2.2 ≠ 0) : Wm.takeNums l 4 = ([], 0, (Wm.take l).2.2) := by
  unfold Wm.takeNums
  obtain ⟨x, n, e, ht⟩ : ∃ x n e, Wm.take l = (x, n, e) := ⟨_, _, _, rfl⟩
  rw [ht] at h ⊢
  cases e with
  | zero => exact absurd rfl h
  | succ e => rfl
theorem end_of {xs : List Nat} (hl : xs.length ≤ 4) (h : ∀ x ∈ xs, x ≤ 4611686018427387904) (r : List Nat) : endL (Wm.enc xs.length ++ (Wm.encAll xs ++ r)) = (0, xs, r) := by
  have e : Wm.takeNums (Wm.enc xs.length ++ (Wm.encAll xs ++ r)) 4 = (xs, (Wm.enc xs.length).length + (Wm.encAll xs).length, 0) := by
    rw [tn_go4 (Wm.take_enc xs.length _ (by omega)), if_neg (by omega), tn_of xs _ [] r h]
    simp
  unfold endL
  rw [e]
  simp only
  rw [if_neg (by simp)]
  simp
theorem end_short {xs : List Nat} {n : Nat} (hl : xs.length ≤ 4) (h : ∀ x ∈ xs, x ≤ 4611686018427387904) (hn : n < (Wm.enc xs.length ++ Wm.encAll xs).length) : (endL ((Wm.enc xs.length ++ Wm.encAll xs).take n)).1 = 3 := by
  have e : (Wm.takeNums ((Wm.enc xs.length ++ Wm.encAll xs).take n) 4).2.2 = 3 := by
    rw [take_app]
    split
    · rename_i q
      rw [tn_err4 (by rw [Wm.take_enc_short _ _ (by omega) q]; simp), Wm.take_enc_short _ _ (by omega) q]
    · rename_i q
      rw [List.length_append] at hn
      rw [tn_go4 (Wm.take_enc xs.length _ (by omega)), if_neg (by omega), tn_short xs _ [] _ h (by omega)]
  unfold endL
  rw [e]
  simp
theorem end_back {l : List Nat} (hl : ∀ c ∈ l, c < 256) (h : (endL l).1 = 0) : l = Wm.enc (endL l).2.1.length ++ (Wm.encAll (endL l).2.1 ++ (endL l).2.2) ∧ (endL l).2.1.length ≤ 4 ∧ ∀ x ∈ (endL l).2.1, x ≤ 4611686018427387904 := by
  unfold endL at h ⊢
  obtain ⟨q, z, e, hq⟩ : ∃ q z e, Wm.takeNums l 4 = (q, z, e) := ⟨_, _, _, rfl⟩
  rw [hq] at h ⊢
  simp only at h ⊢
  by_cases h0 : e = 0
  · subst h0
    rw [if_neg (by simp)]
    obtain ⟨x, n, e, ht⟩ : ∃ x n e, Wm.take l = (x, n, e) := ⟨_, _, _, rfl⟩
    by_cases h1 : e = 0
    · subst h1
      rw [tn_go4 ht] at hq
      by_cases h4 : 4 < x
      · rw [if_pos h4] at hq; simp at hq
      · rw [if_neg h4] at hq
        have hc := take_cut hl ht
        have hn : n ≤ l.length := by have h1 := congrArg List.length hc.1; rw [List.length_append, ← hc.2.2] at h1; omega
        obtain ⟨xs, i1, i2, i3, _, i5⟩ := tn_back x l n [] q z hl hn hq
        simp only [List.nil_append] at i1
        subst i1
        exact ⟨by rw [i2, ← i5]; exact hc.1, by simp only; omega, i3⟩
    · rw [tn_err4 (by rw [ht]; exact h1), ht] at hq
      simp at hq
      exact absurd hq.2.2 h1
  · rw [if_pos h0] at h; exact absurd h h0
theorem knd_back {l : List Nat} (hl : ∀ c ∈ l, c < 256) (h : (kndL l).1 = 0) : l = Wm.enc (kndL l).2.1 ++ (kndL l).2.2 ∧ 1 ≤ (kndL l).2.1 ∧ (kndL l).2.1 ≤ 8 := by
  obtain ⟨x, n, e, ht⟩ : ∃ x n e, Wm.take l = (x, n, e) := ⟨_, _, _, rfl⟩
  simp only [kndL, ht] at h ⊢
  by_cases h0 : e = 0
  · subst h0
    rw [if_neg (by simp)] at h ⊢
    by_cases h1 : x < 1 ∨ 8 < x
    · rw [if_pos h1] at h; simp at h
    · rw [if_neg h1] at h ⊢
      exact ⟨(take_cut hl ht).1, by simp only; omega, by simp only; omega⟩
  · rw [if_pos h0] at h; simp at h; omega
theorem man_back {l : List Nat} (hl : ∀ c ∈ l, c < 256) (h : (manL l).1 = 0) : l = Wm.enc (manL l).2.1 ++ (manL l).2.2 ∧ (manL l).2.1 ≤ 64 := by
  obtain ⟨x, n, e, ht⟩ : ∃ x n e, Wm.take l = (x, n, e) := ⟨_, _, _, rfl⟩
  simp only [manL, ht] at h ⊢
  by_cases h0 : e = 0
  · subst h0
    rw [if_neg (by simp)] at h ⊢
    by_cases h1 : 64 < x
    · rw [if_pos h1] at h; simp at h
    · rw [if_neg h1] at h ⊢
      exact ⟨(take_cut hl ht).1, by simp only; omega⟩
  · rw [if_pos h0] at h; simp at h; omega
theorem wd_unw {l : List Nat} (h8 : l.length = 8) (hl : ∀ c ∈ l, c < 256) : Wm.wd (Wm.unw l) = l := by
  have key : ∀ (n : Nat) (l : List Nat), l.length = n → (∀ c ∈ l, c < 256) → Wm.wdF n (Wm.unw l) = l := by
    intro n
    induction n with
    | zero => intro l h _; rw [List.eq_nil_of_length_eq_zero h]; rfl
    | succ n ih =>
      intro l h hl
      cases l with
      | nil => simp at h
      | cons c l =>
        have hc := hl c (by simp)
        have i1 := ih l (by simpa using h) (fun d hd => hl d (by simp [hd]))
        simp only [Wm.unw, Wm.wdF]
        rw [show (c + 256 * Wm.unw l) % 256 = c by omega, show (c + 256 * Wm.unw l) / 256 = Wm.unw l by omega, i1]
  exact key 8 l h8 hl
theorem pair_back {n : Nat} : ∀ {l : List Nat}, (∀ c ∈ l, c < 256) → (pairS n l).1 = 0 → l = pairL (pairS n l).2.1 ++ (pairS n l).2.2 ∧ (pairS n l).2.1.length = n ∧ okT (pairS n l).2.1 := by
  induction n with
  | zero => intro l hl _; simp [pairS, pairL, okT]
  | succ n ih =>
    intro l hl h
    obtain ⟨x, q, e, ht⟩ : ∃ x n e, Wm.take l = (x, n, e) := ⟨_, _, _, rfl⟩
    simp only [pairS, ht] at h ⊢
    by_cases h0 : e = 0
    · subst h0
      rw [if_neg (by simp)] at h ⊢
      have hl1 : ∀ c ∈ l.drop q, c < 256 := fun c hc => hl c (List.mem_of_mem_drop hc)
      by_cases h2 : (l.drop q).length < 8
      · rw [takeW_short h2] at h; simp at h
      · rw [takeW_ok h2] at h ⊢
        simp only at h ⊢
        rw [if_neg (by simp)] at h ⊢
        by_cases h1 : (pairS n ((l.drop q).drop 8)).1 = 0
        · rw [if_neg (by simpa using h1)] at h ⊢
          obtain ⟨i1, i2, i3⟩ := ih (l := (l.drop q).drop 8) (fun c hc => hl1 c (List.mem_of_mem_drop hc)) h1
          obtain ⟨t1, t2, _⟩ := take_cut hl ht
          have h8 : ((l.drop q).take 8).length = 8 := by rw [List.length_take]; omega
          have hl8 : ∀ c ∈ (l.drop q).take 8, c < 256 := fun c hc => hl1 c (List.mem_of_mem_take hc)
          refine ⟨?_, by rw [List.length_cons, i2], ?_⟩
          · show l = (Wm.enc x ++ (Wm.wd (Wm.unw ((l.drop q).take 8)) ++ pairL (pairS n ((l.drop q).drop 8)).2.1)) ++ (pairS n ((l.drop q).drop 8)).2.2
            rw [wd_unw h8 hl8, List.append_assoc, List.append_assoc, ← i1, List.take_append_drop]; exact t1
          · intro y hy
            rcases List.mem_cons.1 hy with rfl | hy
            · refine ⟨t2, ?_⟩
              have := Wm.unw_lt _ hl8
              rw [h8] at this
              exact this
            · exact i3 y hy
        · rw [if_pos h1] at h; exact absurd h h1
    · rw [if_pos h0] at h; exact absurd h h0
theorem decS_bad {l : List Nat} (h : (decS l).2 ≠ 0) : (decS l).1 = zeroMs := by
  have key : ∀ r, (decT r).2 ≠ 0 → (decT r).1 = zeroMs := by
    intro r h
    unfold decT at h ⊢
    repeat' split
    all_goals first | rfl | skip
    all_goals simp_all
  unfold decS dec2 dec3 dec4 dec5 at h ⊢
  repeat' split
  all_goals first | rfl | skip
  all_goals simp_all
end Go.Proofs.Ytpndafieknddcaa
