/- A journal in memory; Note, Ended, Format. -/
import Derived.Test.YtnnammlipfappaaJf

import Derived.Deep.DeepCutAuto

namespace Go.Proofs.Ytnnammlipfappaa

open Ieee Go.RowKit



def zeros (q : Nat) : List Int := List.replicate q 0
theorem zeros_len (q : Nat) : (zeros q).length = q := by simp [zeros]
theorem zeros_nth (q i : Nat) : nth (zeros q) i = 0 := by
  unfold nth zeros
  rw [List.getD_eq_getElem?_getD]
  by_cases h : i < q
  · simp [h]
  · simp [h]
theorem zeros_in64 (q : Nat) : In64 (zeros q) := fun x hx => by
  unfold zeros at hx
  obtain ⟨_, rfl⟩ := List.mem_replicate.1 hx
  omega
theorem made_zeros (q : Nat) : (madeCells #[.int .i64 0] (q * 1)) = (cellsN (zeros q)).toArray := by
  apply Array.ext_getElem?
  intro i
  by_cases hi : i < q
  · simp [madeCells, hi, zeros, Nat.mod_one]
  · rw [Array.getElem?_eq_none (by rw [size_madeCells]; omega), Array.getElem?_eq_none (by simp [zeros]; omega)]
theorem own_made (w : World) {q : Nat} (hq : q ≤ 4) {Z : Array Value} (hZ : Z = madeCells #[.int .i64 0] (q * 1)) : (w.alloc (.cells Z 3)).ownsRow w.heap.size 3 1 (.slice (some ⟨w.heap.size, 0, none⟩) q q) q (cellsN (zeros q)) := by
  rw [hZ, made_zeros]
  have := World.ownsRow_lit (base := w.heap.size) (e := 3) (size := 1) w (cellsN (zeros q)).toArray q (Nat.le_refl _) (by simp [maxLen]; omega) (by simp [zeros])
  simpa using this
theorem right_zero (q : Nat) : rightT ⟨0, zeros q, zeros q⟩ := ⟨by simp, ⟨rfl, fun _ _ => Int.le_refl _⟩, fun i _ => ⟨by rw [zeros_nth]; omega, fun _ => zeros_nth q i⟩⟩
theorem make_ints {q : Nat} (hq : q ≤ 4) : ∀ wx : World, (Instr.makeSlice 37 (.int .i64 q) (.int .i64 q)).run Try.prog wx = .ok (.slice (some ⟨wx.heap.size, 0, none⟩) q q) (wx.alloc (.cells (madeCells #[.int .i64 0] (q * 1)) 3)) := fun wx => by
  obtain ⟨i0, hi0, hz0, hz1, hz2⟩ := info_partsV info_int
  have := run_make (P := Try.prog) wx 37 3 i0 (.int .i64 0) Try.underlying37 hi0 hz0 .i64 .i64 q q (by omega) (Int.le_refl _) (by rw [hz2]; omega) (by omega)
  rw [hz1] at this
  simp only [Int.toNat_natCast] at this
  exact this


theorem heap3 (w1 : World) (a b c : Obj) : (((w1.alloc a).alloc b).alloc c).drew.heap[w1.heap.size]? = some a ∧ (((w1.alloc a).alloc b).alloc c).drew.heap[w1.heap.size + 1]? = some b ∧ (((w1.alloc a).alloc b).alloc c).drew.heap[w1.heap.size + 1 + 1]? = some c :=
  ⟨alloc_old (alloc_old (alloc_at rfl)), alloc_old (alloc_at (by simp)), alloc_at (by simp)⟩
theorem below3 (w1 : World) (a b c : Obj) : Below w1.heap.size w1 (((w1.alloc a).alloc b).alloc c).drew := (below_trans (below_trans (below_alloc _ _) (below_alloc _ _)) (below_alloc _ _)).drew


/-- A journal: the generation, the note, its block, whether it is ended. -/
structure Jn where
  g : Nat
  n : Nt
  h : Nat
  o : Bool
def jC (J : Jn) (pv cv dv : Value) : Array Value := #[.int .i64 J.g, .int .i64 J.n.b, pv, cv, .int .i64 J.n.a, dv, .int .i64 J.h, .bool J.o]
structure Jn.ok (q : Int) (J : Jn) : Prop where
  g1 : 1 ≤ J.g
  g2 : J.g ≤ 1099511627776
  r : Rgt J.n q
  q4 : q ≤ 4
  h1 : J.h ≤ 1
/-- The journal J lies in block jb, its lists in blocks of their own; all of them are of K. -/
structure JM (K : Nat → Prop) (w : World) (jb : Nat) (pv cv dv : Value) (q : Int) (J : Jn) : Prop where
  head : w.heap[jb]? = some (.cells (jC J pv cv dv) 64 (0, 0))
  lp : OwN 0 w pv J.n.p
  lc : OwN 0 w cv J.n.c
  kj : K jb
  kp : ∀ x, pv.ownBlock = some x → K x ∧ x ≠ jb
  kc : ∀ x, cv.ownBlock = some x → K x ∧ x ≠ jb
  kl : ∀ x, K x → x < w.heap.size
  ok : J.ok q
def Jr (K : Nat → Prop) (w : World) (v dv : Value) (q : Int) (J : Jn) : Prop := ∃ jb pv cv, v = .pointer (some ⟨jb, 0, none⟩) ∧ JM K w jb pv cv dv q J
abbrev DD : TypeId := 70
/-- A journal and its disk, apart. -/
structure JS (D K : Nat → Prop) (w : World) (v dv : Value) (q : Int) (J : Jn) (S : Dk) : Prop where
  d : Dsk 70 D w dv S
  j : Jr K w v dv q J
  ap : ∀ x, K x → ¬ D x
section

variable {D K : Nat → Prop} {w w' : World} {v dv pv cv : Value} {q : Int} {J : Jn} {S : Dk} {jb : Nat}

theorem rgt_p64 {n : Nt} (h : Rgt n q) : In64 n.p := fun x hx => by have := h.pm x hx; omega
theorem rgt_c64 {n : Nt} (h : Rgt n q) : In64 n.c := fun x hx => by have := h.cm x hx; omega
theorem rgt_p8 {n : Nt} (h : Rgt n q) (hq : q ≤ 4) : n.p.length * 8 ≤ 140737488355328 := by have := h.lp; omega
theorem rgt_c8 {n : Nt} (h : Rgt n q) (hq : q ≤ 4) : n.c.length * 8 ≤ 140737488355328 := by have := h.lc; omega
theorem JM.np (h : JM K w jb pv cv dv q J) : Nv w pv J.n.p := own_nv h.lp (rgt_p64 h.ok.r)
theorem JM.nc (h : JM K w jb pv cv dv q J) : Nv w cv J.n.c := own_nv h.lc (rgt_c64 h.ok.r)
theorem JM.keep (h : JM K w jb pv cv dv q J) (hk : ∀ x, K x → w'.heap[x]? = w.heap[x]?) (hs : w.heap.size ≤ w'.heap.size) : JM K w' jb pv cv dv q J :=
  ⟨by rw [hk _ h.kj]; exact h.head, row_keep h.lp fun x hx => hk x (h.kp x hx).1, row_keep h.lc fun x hx => hk x (h.kc x hx).1, h.kj, h.kp, h.kc, fun x hx => Nat.lt_of_lt_of_le (h.kl x hx) hs, h.ok⟩
theorem Jr.keep (h : Jr K w v dv q J) (hk : ∀ x, K x → w'.heap[x]? = w.heap[x]?) (hs : w.heap.size ≤ w'.heap.size) : Jr K w' v dv q J := by
  obtain ⟨jb, pv, cv, e, h⟩ := h
  exact ⟨jb, pv, cv, e, h.keep hk hs⟩
theorem Jr.lt (h : Jr K w v dv q J) {x : Nat} (hx : K x) : x < w.heap.size := by
  obtain ⟨jb, pv, cv, e, h⟩ := h
  exact h.kl x hx
theorem Jr.ok (h : Jr K w v dv q J) : J.ok q := by
  obtain ⟨jb, pv, cv, e, h⟩ := h
  exact h.ok
theorem Jr.below (h : Jr K w v dv q J) (hb : Below w.heap.size w w') : Jr K w' v dv q J := h.keep (fun x hx => hb.block x (h.lt hx)) hb.size
theorem JS.below (h : JS D K w v dv q J S) (hb : Below w.heap.size w w') : JS D K w' v dv q J S := ⟨h.d.below hb, h.j.below hb, h.ap⟩
/-- Another's turn leaves both. -/
theorem JS.ch {E : Nat → Prop} (h : JS D K w v dv q J S) (hc : Ch E w w') (hE : ∀ x, D x ∨ K x → ¬ E x) : JS D K w' v dv q J S :=
  ⟨h.d.ch hc (fun x hx => hE x (.inl hx)), h.j.keep (fun x hx => hc.block x (h.j.lt hx) (hE x (.inr hx))) hc.size, h.ap⟩
theorem JM.cell (h : JM K w jb pv cv dv q J) (i : Nat) : w.cell? ⟨jb, i, none⟩ = (jC J pv cv dv)[i]? := blk_cell h.head i
theorem JM.soft (h : JM K w jb pv cv dv q J) (i : Nat) : w.frozen? ⟨jb, i, none⟩ = false := blk_soft h.head i
theorem Jr.ptr (h : Jr K w v dv q J) : ∃ jb, v = .pointer (some ⟨jb, 0, none⟩) ∧ jb < w.heap.size := by
  obtain ⟨jb, pv, cv, e, h⟩ := h
  exact ⟨jb, e, h.kl _ h.kj⟩


theorem jended_nil : Calls Try.prog 23 #[.pointer none] w fun e w' => e = .returned (.bool false) ∧ w' = w := by
  go_enter Try.func23, Try.ntmps23
  go_wp2_with fail
  go_ret
  exact ⟨rfl, rfl⟩
theorem jended_walk (h : Jr K w v dv q J) : Calls Try.prog 23 #[v] w fun e w' => e = .returned (.bool J.o) ∧ w' = w := by
  obtain ⟨jb, pv, cv, rfl, h⟩ := h
  have c7 : w.cell? ⟨jb, 7, none⟩ = some (.bool J.o) := by rw [h.cell]; rfl
  clear h
  go_enter Try.func23, Try.ntmps23
  go_wp2_with fail
  go_ret
  exact ⟨rfl, rfl⟩
set_option maxRecDepth 100000 in
theorem jnote_nil : Calls Try.prog 21 #[.pointer none] w fun e w' => e = .returned (.agg #[.int .i64 0, .slice none 0 0, .slice none 0 0, .int .i64 0]) ∧ Below w.heap.size w w' := by
  go_enter Try.func21, Try.ntmps21
  go_wp2_with fail
  (try simp only [Exit.inBlock, Exit.then])
  refine bodyPost_ret (v := .agg #[.int .i64 0, .slice none 0 0, .slice none 0 0, .int .i64 0]) (by rw [results_cell1 rfl]; go_simp) rfl ?_
  exact ⟨rfl, by first | exact below_alloc _ _ | exact (below_alloc _ _).grown (grown_set4 _ _ _ _ _ _) (by simp) (fun x hx => by cases hx; omega)⟩
theorem note_end {n : Nt} {w2 w3 : World} {p' c' : Value} {o : Obj} (h1 : OwN (w.alloc o).heap.size w2 p' n.p) (h2 : OwN (w.alloc o).heap.size w2 c' n.c) (hb : Below (w.alloc o).heap.size (w.alloc o) w2) (hg : w2.grownBy w3 (some w.heap.size)) : CpGot w n (.returned (.agg #[.int .i64 n.b, p', c', .int .i64 n.a])) w3 := by
  obtain ⟨_, pa, pc, rfl, _⟩ := own_nl h1
  obtain ⟨_, ca, cc, rfl, _⟩ := own_nl h2
  have hk : ∀ x, x < w2.heap.size → x ≠ w.heap.size → w3.heap[x]? = w2.heap[x]? := fun x hx hn => hg.block x hx (fun e => hn (by simpa using e))
  have hs := alloc_size w o
  have hbw : Below w.heap.size w w2 := below_trans (below_alloc w o) hb
  refine ⟨pa, pc, ca, cc, rfl, ?_, ?_, hbw.grown hg hbw.size (fun x hx => by cases hx; omega)⟩
  · refine own_base (row_keep h1 fun x hx => hk x (h1.lt x hx).2 ?_) (by omega)
    have := (h1.lt x hx).1; omega
  · refine own_base (row_keep h2 fun x hx => hk x (h2.lt x hx).2 ?_) (by omega)
    have := (h2.lt x hx).1; omega
set_option maxRecDepth 100000 in
set_option maxHeartbeats 2000000 in
theorem jnote_walk (h : Jr K w v dv q J) : Calls Try.prog 21 #[v] w (CpGot w J.n) := by
  obtain ⟨jb, pv, cv, rfl, h⟩ := h
  obtain ⟨w0, hw0⟩ : ∃ w0, w0 = w.alloc (Obj.cells #[.int .i64 0, .slice none 0 0, .slice none 0 0, .int .i64 0] 41) := ⟨_, rfl⟩
  have HW0 : Hid (w0 = w.alloc (Obj.cells #[.int .i64 0, .slice none 0 0, .slice none 0 0, .int .i64 0] 41)) := hw0
  have hB0 : Below w.heap.size w w0 := by rw [hw0]; exact below_alloc _ _
  have h0 : JM K w0 jb pv cv dv q J := h.keep (fun x hx => hB0.block x (h.kl x hx)) hB0.size
  have HM : Hid (JM K w0 jb pv cv dv q J) := h0
  have hz : w0.heap[w.heap.size]? = some (.cells #[.int .i64 0, .slice none 0 0, .slice none 0 0, .int .i64 0] 41 (0, 0)) := by rw [hw0]; exact alloc_at rfl
  have HZ : Hid (w0.heap[w.heap.size]? = some (.cells #[.int .i64 0, .slice none 0 0, .slice none 0 0, .int .i64 0] 41 (0, 0))) := hz
  obtain ⟨⟨po, pc, rfl, _⟩, _⟩ := h0.np
  obtain ⟨⟨co, cc, rfl, _⟩, _⟩ := h0.nc
  have c1 : w.cell? ⟨jb, 1, none⟩ = some (.int .i64 J.n.b) := by rw [h.cell]; rfl
  have c2 : w.cell? ⟨jb, 2, none⟩ = some (.slice po J.n.p.length pc) := by rw [h.cell]; rfl
  have c3 : w.cell? ⟨jb, 3, none⟩ = some (.slice co J.n.c.length cc) := by rw [h.cell]; rfl
  have c4 : w.cell? ⟨jb, 4, none⟩ = some (.int .i64 J.n.a) := by rw [h.cell]; rfl
  have hjl : jb < w.heap.size := h.kl _ h.kj
  have hjn : ¬ jb = w.heap.size := by omega
  clear h h0 hw0 hB0 hz
  go_enter Try.func21, Try.ntmps21
  go_wp2_with fail
  rw [← HW0.out]
  refine (jcopied_walk HM.out.np HM.out.nc (rgt_p8 HM.out.ok.r HM.out.ok.q4) (rgt_c8 HM.out.ok.r HM.out.ok.q4)).mono ?_
  rintro e w2 ⟨pa, pc2, ca, cc2, rfl, ho1, ho2, hB2⟩
  have HO1 : Hid (OwN w0.heap.size w2 (.slice pa J.n.p.length pc2) J.n.p) := ho1
  have HO2 : Hid (OwN w0.heap.size w2 (.slice ca J.n.c.length cc2) J.n.c) := ho2
  have HB2 : Hid (Below w0.heap.size w0 w2) := hB2
  have hz := blk_below HZ.out hB2
  have r0 : w2.cell? ⟨w.heap.size, 0, none⟩ = some (.int .i64 0) := by rw [blk_cell hz]; rfl
  have r1 : w2.cell? ⟨w.heap.size, 1, none⟩ = some (.slice none 0 0) := by rw [blk_cell hz]; rfl
  have r2 : w2.cell? ⟨w.heap.size, 2, none⟩ = some (.slice none 0 0) := by rw [blk_cell hz]; rfl
  have r3 : w2.cell? ⟨w.heap.size, 3, none⟩ = some (.int .i64 0) := by rw [blk_cell hz]; rfl
  have f0 : w2.frozen? ⟨w.heap.size, 0, none⟩ = false := blk_soft hz 0
  have f1 : w2.frozen? ⟨w.heap.size, 1, none⟩ = false := blk_soft hz 1
  have f2 : w2.frozen? ⟨w.heap.size, 2, none⟩ = false := blk_soft hz 2
  have f3 : w2.frozen? ⟨w.heap.size, 3, none⟩ = false := blk_soft hz 3
  clear hz ho1 ho2 hB2
  go_wp2_with fail
  (try simp only [Exit.inBlock, Exit.then])
  refine bodyPost_ret (v := .agg #[.int .i64 J.n.b, .slice pa J.n.p.length pc2, .slice ca J.n.c.length cc2, .int .i64 J.n.a]) (by rw [results_cell1 rfl]; go_simp) rfl ?_
  exact note_end (by rw [← HW0.out]; exact HO1.out) (by rw [← HW0.out]; exact HO2.out) (by rw [← HW0.out]; exact HB2.out) (grown_set4 _ _ _ _ _ _)
end

end Go.Proofs.Ytnnammlipfappaa


