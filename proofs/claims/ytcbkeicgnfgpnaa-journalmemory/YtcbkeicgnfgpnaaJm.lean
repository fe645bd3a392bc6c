/- spoilt. -/
import Derived.Test.YtcbkeicgnfgpnaaJl

namespace Go.Proofs.Ytcbkeicgnfgpnaa

open Ieee Go.RowKit

theorem wrapS {x : Int} (h0 : -9223372036854775808 ≤ x) (h1 : x < 9223372036854775808) : IntKind.i64.wrap x = x := by
  simp only [IntKind.wrap, IntKind.signed, IntKind.bits]
  simp
  omega
/-- spoilt's blocks: what is handed in, the answer's, the note's. -/
structure Sb (w wr : World) (n0 m0 : Array Value) : Prop where
  bel : Below w.heap.size w wr
  b0 : wr.heap[w.heap.size]? = some (.cells n0 41 (0, 0))
  b1 : wr.heap[w.heap.size + 1]? = some (.cells #[.int .i64 0, .slice none 0 0, .slice none 0 0, .int .i64 0] 41 (0, 0))
  b2 : wr.heap[w.heap.size + 1 + 1]? = some (.cells m0 41 (0, 0))
section

variable {w wr w' : World} {c0 m0 : Array Value} {pv cv : Value} {n : Nt} {q : Int}

theorem Sb.go (h : Sb w wr c0 m0) (hb : Below wr.heap.size wr w') : Sb w w' c0 m0 := ⟨h.bel.trans (hb.mono h.bel.size), blk_below h.b0 hb, blk_below h.b1 hb, blk_below h.b2 hb⟩
theorem Sb.set (h : Sb w wr c0 m0) (i : Nat) (u : Value) : Sb w (wr.setCell ⟨w.heap.size + 1 + 1, i, none⟩ u) c0 (m0.setIfInBounds i u) :=
  ⟨h.bel.setCell (p := ⟨w.heap.size + 1 + 1, i, none⟩) (by show w.heap.size ≤ w.heap.size + 1 + 1; omega) _, by rw [set_other _ _ (by omega)]; exact h.b0, by rw [set_other _ _ (by omega)]; exact h.b1, by rw [set_row h.b2]⟩
theorem Sb.other (h : Sb w wr c0 m0) {g : Nat} (hg : w.heap.size + 3 ≤ g) (i : Nat) (u : Value) : Sb w (wr.setCell ⟨g, i, none⟩ u) c0 m0 :=
  ⟨h.bel.setCell (p := ⟨g, i, none⟩) (by show w.heap.size ≤ g; omega) _, by rw [set_other _ _ (by omega)]; exact h.b0, by rw [set_other _ _ (by omega)]; exact h.b1, by rw [set_other _ _ (by omega)]; exact h.b2⟩
theorem Sb.end4 (h : Sb w wr c0 m0) (hg : wr.grownBy w' (some (w.heap.size + 1))) : Below w.heap.size w w' := h.bel.grown hg h.bel.size (fun x hx => by cases hx; omega)


theorem sp_end {w3 : World} {g gc m : Nat} {nb na : Int} {P C : List Int} {C2 : List Int} {p1 c1 : Value} (hp : Nv w p1 P) (hz : Zw w3 g gc C) (hg : w.heap.size + 3 ≤ g) (he : C = C2) (hl : C.length = m) (h64 : In64 C) (hB : Below w.heap.size w w') (hk : w'.heap[g]? = w3.heap[g]?) :
    NxGot w p1 c1 ⟨nb, P, C2, na⟩ (.returned (.agg #[.int .i64 nb, p1, .slice (some ⟨g, 0, none⟩) m gc, .int .i64 na])) w' := by
  subst he hl
  have hz' := hz.keep hk
  refine ⟨_, _, rfl, hp.below hB, hz'.nv h64, hB, fun A h1 _ h3 => ⟨h1, fun a n c e => ?_⟩⟩
  cases e
  exact h3 g (by omega) hz'.lt
set_option maxRecDepth 100000 in
set_option maxHeartbeats 4000000 in
theorem spoilt_walk {how : Int} (hp : Nv w pv n.p) (hc : Nv w cv n.c) (hr : Rgt n q) (hq : q ≤ 4) (hq1 : 1 ≤ q) (h1 : 1 ≤ how) (h4 : how ≤ 4) :
    Calls Try.prog 36 #[.agg #[.int .i64 n.b, pv, cv, .int .i64 n.a], .int .i64 how] w (NxGot w pv cv (sptN n how)) := by
  have HR : Hid (Rgt n q) := hr
  have HPW : Hid (Nv w pv n.p) := hp
  have HCW : Hid (Nv w cv n.c) := hc
  have HL : Hid (n.c.length ≤ 4 ∧ 0 < n.c.length) := by have := hr.lc; exact ⟨by omega, by omega⟩
  obtain ⟨⟨po, pc, rfl, _⟩, _⟩ := (show Nv w pv n.p from hp)
  obtain ⟨⟨co, cc, rfl, _⟩, _⟩ := (show Nv w cv n.c from hc)
  obtain ⟨w0, hw0⟩ : ∃ w0, w0 = ((w.alloc (Obj.cells #[.int .i64 n.b, .slice po n.p.length pc, .slice co n.c.length cc, .int .i64 n.a] 41)).alloc (Obj.cells #[.int .i64 0, .slice none 0 0, .slice none 0 0, .int .i64 0] 41)).alloc (Obj.cells #[.int .i64 n.b, .slice po n.p.length pc, .slice co n.c.length cc, .int .i64 n.a] 41) := ⟨_, rfl⟩
  have HW0 : Hid (w0 = ((w.alloc (Obj.cells #[.int .i64 n.b, .slice po n.p.length pc, .slice co n.c.length cc, .int .i64 n.a] 41)).alloc (Obj.cells #[.int .i64 0, .slice none 0 0, .slice none 0 0, .int .i64 0] 41)).alloc (Obj.cells #[.int .i64 n.b, .slice po n.p.length pc, .slice co n.c.length cc, .int .i64 n.a] 41)) := hw0
  have HS0 : Hid (Sb w w0 #[.int .i64 n.b, .slice po n.p.length pc, .slice co n.c.length cc, .int .i64 n.a] #[.int .i64 n.b, .slice po n.p.length pc, .slice co n.c.length cc, .int .i64 n.a]) := by
    refine ⟨?_, ?_, ?_, ?_⟩
    · rw [hw0]; exact below_trans (below_trans (below_alloc _ _) (below_alloc _ _)) (below_alloc _ _)
    · rw [hw0]; exact alloc_old (alloc_old (alloc_at rfl))
    · rw [hw0]; exact alloc_old (alloc_at (by simp))
    · rw [hw0]; exact alloc_at (by simp)
  have ra : IntKind.i64.wrap (n.a - 1) = n.a - 1 := wrapS (by have := hr.a0; omega) (by have := hr.a1; omega)
  have rb : IntKind.i64.wrap (n.b - 1) = n.b - 1 := wrapS (by have := hr.b0; omega) (by have := hr.b1; omega)
  have rc : IntKind.i64.wrap (n.b + 2) = n.b + 2 := wrapS (by have := hr.b0; omega) (by have := hr.b1; omega)
  clear hp hc hr hq hq1 hw0
  have h4c : how = 1 ∨ how = 2 ∨ how = 3 ∨ how = 4 := by omega
  clear h1 h4
  rcases h4c with rfl | rfl | rfl | rfl
  · go_enter Try.func36, Try.ntmps36
    go_upto_region 2 with fail
    rw [← HW0.out]
    have k0 : w0.cell? ⟨w.heap.size, 0, none⟩ = some (.int .i64 n.b) := by rw [blk_cell HS0.out.b0]; rfl
    have k1 : w0.cell? ⟨w.heap.size, 1, none⟩ = some (.slice po n.p.length pc) := by rw [blk_cell HS0.out.b0]; rfl
    have k2 : w0.cell? ⟨w.heap.size, 2, none⟩ = some (.slice co n.c.length cc) := by rw [blk_cell HS0.out.b0]; rfl
    have k3 : w0.cell? ⟨w.heap.size, 3, none⟩ = some (.int .i64 n.a) := by rw [blk_cell HS0.out.b0]; rfl
    have m0 : w0.cell? ⟨w.heap.size + 1 + 1, 0, none⟩ = some (.int .i64 n.b) := by rw [blk_cell HS0.out.b2]; rfl
    have m1 : w0.cell? ⟨w.heap.size + 1 + 1, 1, none⟩ = some (.slice po n.p.length pc) := by rw [blk_cell HS0.out.b2]; rfl
    have m2 : w0.cell? ⟨w.heap.size + 1 + 1, 2, none⟩ = some (.slice co n.c.length cc) := by rw [blk_cell HS0.out.b2]; rfl
    have m3 : w0.cell? ⟨w.heap.size + 1 + 1, 3, none⟩ = some (.int .i64 n.a) := by rw [blk_cell HS0.out.b2]; rfl
    have f0 : w0.frozen? ⟨w.heap.size + 1 + 1, 0, none⟩ = false := blk_soft HS0.out.b2 0
    have f1 : w0.frozen? ⟨w.heap.size + 1 + 1, 1, none⟩ = false := blk_soft HS0.out.b2 1
    have f2 : w0.frozen? ⟨w.heap.size + 1 + 1, 2, none⟩ = false := blk_soft HS0.out.b2 2
    have f3 : w0.frozen? ⟨w.heap.size + 1 + 1, 3, none⟩ = false := blk_soft HS0.out.b2 3
    have z0 : w0.cell? ⟨w.heap.size + 1, 0, none⟩ = some (.int .i64 0) := by rw [blk_cell HS0.out.b1]; rfl
    have z1 : w0.cell? ⟨w.heap.size + 1, 1, none⟩ = some (.slice none 0 0) := by rw [blk_cell HS0.out.b1]; rfl
    have z2 : w0.cell? ⟨w.heap.size + 1, 2, none⟩ = some (.slice none 0 0) := by rw [blk_cell HS0.out.b1]; rfl
    have z3 : w0.cell? ⟨w.heap.size + 1, 3, none⟩ = some (.int .i64 0) := by rw [blk_cell HS0.out.b1]; rfl
    have y0 : w0.frozen? ⟨w.heap.size + 1, 0, none⟩ = false := blk_soft HS0.out.b1 0
    have y1 : w0.frozen? ⟨w.heap.size + 1, 1, none⟩ = false := blk_soft HS0.out.b1 1
    have y2 : w0.frozen? ⟨w.heap.size + 1, 2, none⟩ = false := blk_soft HS0.out.b1 2
    have y3 : w0.frozen? ⟨w.heap.size + 1, 3, none⟩ = false := blk_soft HS0.out.b1 3
    go_wp2_with fail
    (try simp only [Exit.inBlock, Exit.then])
    refine bodyPost_ret (v := .agg #[.int .i64 n.b, .slice po n.p.length pc, .slice co n.c.length cc, .int .i64 (n.a - 1)]) (by rw [results_cell1 rfl]; go_simp) rfl ?_
    rw [show sptN n 1 = ⟨n.b, n.p, n.c, n.a - 1⟩ from if_pos rfl]
    have hB := (HS0.out.set 3 (.int .i64 (n.a - 1))).end4 (grown_set4 _ (w.heap.size + 1) (.int .i64 n.b) (.slice po n.p.length pc) (.slice co n.c.length cc) (.int .i64 (n.a - 1)))
    exact ⟨_, _, rfl, HPW.out.below hB, HCW.out.below hB, hB, fun A h1 h2 _ => ⟨h1, h2⟩⟩
  · go_enter Try.func36, Try.ntmps36
    go_upto_region 2 with fail
    rw [← HW0.out]
    have k0 : w0.cell? ⟨w.heap.size, 0, none⟩ = some (.int .i64 n.b) := by rw [blk_cell HS0.out.b0]; rfl
    have k1 : w0.cell? ⟨w.heap.size, 1, none⟩ = some (.slice po n.p.length pc) := by rw [blk_cell HS0.out.b0]; rfl
    have k2 : w0.cell? ⟨w.heap.size, 2, none⟩ = some (.slice co n.c.length cc) := by rw [blk_cell HS0.out.b0]; rfl
    have k3 : w0.cell? ⟨w.heap.size, 3, none⟩ = some (.int .i64 n.a) := by rw [blk_cell HS0.out.b0]; rfl
    have m0 : w0.cell? ⟨w.heap.size + 1 + 1, 0, none⟩ = some (.int .i64 n.b) := by rw [blk_cell HS0.out.b2]; rfl
    have m1 : w0.cell? ⟨w.heap.size + 1 + 1, 1, none⟩ = some (.slice po n.p.length pc) := by rw [blk_cell HS0.out.b2]; rfl
    have m2 : w0.cell? ⟨w.heap.size + 1 + 1, 2, none⟩ = some (.slice co n.c.length cc) := by rw [blk_cell HS0.out.b2]; rfl
    have m3 : w0.cell? ⟨w.heap.size + 1 + 1, 3, none⟩ = some (.int .i64 n.a) := by rw [blk_cell HS0.out.b2]; rfl
    have f0 : w0.frozen? ⟨w.heap.size + 1 + 1, 0, none⟩ = false := blk_soft HS0.out.b2 0
    have f1 : w0.frozen? ⟨w.heap.size + 1 + 1, 1, none⟩ = false := blk_soft HS0.out.b2 1
    have f2 : w0.frozen? ⟨w.heap.size + 1 + 1, 2, none⟩ = false := blk_soft HS0.out.b2 2
    have f3 : w0.frozen? ⟨w.heap.size + 1 + 1, 3, none⟩ = false := blk_soft HS0.out.b2 3
    have z0 : w0.cell? ⟨w.heap.size + 1, 0, none⟩ = some (.int .i64 0) := by rw [blk_cell HS0.out.b1]; rfl
    have z1 : w0.cell? ⟨w.heap.size + 1, 1, none⟩ = some (.slice none 0 0) := by rw [blk_cell HS0.out.b1]; rfl
    have z2 : w0.cell? ⟨w.heap.size + 1, 2, none⟩ = some (.slice none 0 0) := by rw [blk_cell HS0.out.b1]; rfl
    have z3 : w0.cell? ⟨w.heap.size + 1, 3, none⟩ = some (.int .i64 0) := by rw [blk_cell HS0.out.b1]; rfl
    have y0 : w0.frozen? ⟨w.heap.size + 1, 0, none⟩ = false := blk_soft HS0.out.b1 0
    have y1 : w0.frozen? ⟨w.heap.size + 1, 1, none⟩ = false := blk_soft HS0.out.b1 1
    have y2 : w0.frozen? ⟨w.heap.size + 1, 2, none⟩ = false := blk_soft HS0.out.b1 2
    have y3 : w0.frozen? ⟨w.heap.size + 1, 3, none⟩ = false := blk_soft HS0.out.b1 3
    go_wp2_with fail
    (try simp only [Exit.inBlock, Exit.then])
    refine bodyPost_ret (v := .agg #[.int .i64 (n.b + 2), .slice co n.c.length cc, .slice co n.c.length cc, .int .i64 n.a]) (by rw [results_cell1 rfl]; go_simp) rfl ?_
    rw [show sptN n 2 = ⟨n.b + 2, n.c, n.c, n.a⟩ from (if_neg (by decide)).trans (if_pos rfl)]
    have hB := (((HS0.out.set 0 (.int .i64 (n.b + 2))).set 1 (.slice co n.c.length cc)).set 2 (.slice co n.c.length cc)).end4 (grown_set4 _ (w.heap.size + 1) (.int .i64 (n.b + 2)) (.slice co n.c.length cc) (.slice co n.c.length cc) (.int .i64 n.a))
    exact ⟨_, _, rfl, HCW.out.below hB, HCW.out.below hB, hB, fun A _ h2 _ => ⟨h2, h2⟩⟩
  · go_enter Try.func36, Try.ntmps36
    go_upto_region 2 with fail
    rw [← HW0.out]
    have k0 : w0.cell? ⟨w.heap.size, 0, none⟩ = some (.int .i64 n.b) := by rw [blk_cell HS0.out.b0]; rfl
    have k1 : w0.cell? ⟨w.heap.size, 1, none⟩ = some (.slice po n.p.length pc) := by rw [blk_cell HS0.out.b0]; rfl
    have k2 : w0.cell? ⟨w.heap.size, 2, none⟩ = some (.slice co n.c.length cc) := by rw [blk_cell HS0.out.b0]; rfl
    have k3 : w0.cell? ⟨w.heap.size, 3, none⟩ = some (.int .i64 n.a) := by rw [blk_cell HS0.out.b0]; rfl
    have m0 : w0.cell? ⟨w.heap.size + 1 + 1, 0, none⟩ = some (.int .i64 n.b) := by rw [blk_cell HS0.out.b2]; rfl
    have m1 : w0.cell? ⟨w.heap.size + 1 + 1, 1, none⟩ = some (.slice po n.p.length pc) := by rw [blk_cell HS0.out.b2]; rfl
    have m2 : w0.cell? ⟨w.heap.size + 1 + 1, 2, none⟩ = some (.slice co n.c.length cc) := by rw [blk_cell HS0.out.b2]; rfl
    have m3 : w0.cell? ⟨w.heap.size + 1 + 1, 3, none⟩ = some (.int .i64 n.a) := by rw [blk_cell HS0.out.b2]; rfl
    have f0 : w0.frozen? ⟨w.heap.size + 1 + 1, 0, none⟩ = false := blk_soft HS0.out.b2 0
    have f1 : w0.frozen? ⟨w.heap.size + 1 + 1, 1, none⟩ = false := blk_soft HS0.out.b2 1
    have f2 : w0.frozen? ⟨w.heap.size + 1 + 1, 2, none⟩ = false := blk_soft HS0.out.b2 2
    have f3 : w0.frozen? ⟨w.heap.size + 1 + 1, 3, none⟩ = false := blk_soft HS0.out.b2 3
    have z0 : w0.cell? ⟨w.heap.size + 1, 0, none⟩ = some (.int .i64 0) := by rw [blk_cell HS0.out.b1]; rfl
    have z1 : w0.cell? ⟨w.heap.size + 1, 1, none⟩ = some (.slice none 0 0) := by rw [blk_cell HS0.out.b1]; rfl
    have z2 : w0.cell? ⟨w.heap.size + 1, 2, none⟩ = some (.slice none 0 0) := by rw [blk_cell HS0.out.b1]; rfl
    have z3 : w0.cell? ⟨w.heap.size + 1, 3, none⟩ = some (.int .i64 0) := by rw [blk_cell HS0.out.b1]; rfl
    have y0 : w0.frozen? ⟨w.heap.size + 1, 0, none⟩ = false := blk_soft HS0.out.b1 0
    have y1 : w0.frozen? ⟨w.heap.size + 1, 1, none⟩ = false := blk_soft HS0.out.b1 1
    have y2 : w0.frozen? ⟨w.heap.size + 1, 2, none⟩ = false := blk_soft HS0.out.b1 2
    have y3 : w0.frozen? ⟨w.heap.size + 1, 3, none⟩ = false := blk_soft HS0.out.b1 3
    go_wp2_with fail
    (try simp only [Exit.inBlock, Exit.then])
    refine bodyPost_ret (v := .agg #[.int .i64 (n.b - 1), .slice po n.p.length pc, .slice co n.c.length cc, .int .i64 n.a]) (by rw [results_cell1 rfl]; go_simp) rfl ?_
    rw [show sptN n 3 = ⟨n.b - 1, n.p, n.c, n.a⟩ from (if_neg (by decide)).trans ((if_neg (by decide)).trans (if_pos rfl))]
    have hB := (HS0.out.set 0 (.int .i64 (n.b - 1))).end4 (grown_set4 _ (w.heap.size + 1) (.int .i64 (n.b - 1)) (.slice po n.p.length pc) (.slice co n.c.length cc) (.int .i64 n.a))
    exact ⟨_, _, rfl, HPW.out.below hB, HCW.out.below hB, hB, fun A h1 h2 _ => ⟨h1, h2⟩⟩
  · go_enter Try.func36, Try.ntmps36
    go_upto_region 2 with fail
    rw [← HW0.out]
    have HC0 : Hid (Nv w0 (.slice co n.c.length cc) n.c) := HCW.out.below HS0.out.bel
    have k2 : w0.cell? ⟨w.heap.size, 2, none⟩ = some (.slice co n.c.length cc) := by rw [blk_cell HS0.out.b0]; rfl
    have hz1 : w.heap.size < w0.heap.size := blk_lt HS0.out.b0
    have hz2 : ¬ w.heap.size = w0.heap.size := by omega
    go_upto_region 4 with (at_builtin; refine wpList_append_nv (by rfl) (.tmp 9) (.tmp 12) 37 (by rfl) w0.heap.size 3 Try.underlying37 info_int _ 0 [] (by rfl) (World.ownsRow_made w0 #[] 0 (Nat.le_refl _) (by simp [maxLen]) (by simp)) _ n.c (by rfl) (HC0.out.below (below_alloc _ _)) (by have := HL.out; simp only [maxLen]; omega) (by have := HL.out; omega) (by simp) ?_; intro v' w2 hown hgrow)
    have hB12 : Below w0.heap.size w0 w2 := (below_alloc w0 (Obj.cells #[] 3)).grown hgrow (by simp) (by simp [Value.ownBlock])
    have HS2 : Hid (Sb w w2 #[.int .i64 n.b, .slice po n.p.length pc, .slice co n.c.length cc, .int .i64 n.a] #[.int .i64 n.b, .slice po n.p.length pc, .slice co n.c.length cc, .int .i64 n.a]) := HS0.out.go hB12
    rw [Nat.zero_add, List.nil_append] at hown
    obtain ⟨g, gc, rfl, hgb⟩ : ∃ g gc, v' = .slice (some ⟨g, 0, none⟩) n.c.length gc ∧ w0.heap.size ≤ g := by
      rcases hown.2 with ⟨_, h0⟩ | ⟨g, cap, cur, e, hb, _⟩
      · have := HL.out; omega
      · exact ⟨g, cap, e, hb⟩
    have HZ2 : Hid (Zw w2 g gc n.c) := (own_zw hown).1
    have HG : Hid (w.heap.size + 3 ≤ g) := by have := blk_lt HS0.out.b2; show _ ≤ _; omega
    obtain ⟨x, hx⟩ : ∃ x, x = nth n.c 0 := ⟨_, rfl⟩
    have HX : Hid (x = nth n.c 0) := hx
    have hx0 : 0 ≤ x := by rw [hx]; exact HR.out.c0 HL.out.2
    have hx1 : x ≤ 256 := by rw [hx]; exact HR.out.f 0 HL.out.2
    have c0 : w2.cell? ⟨g, 0, none⟩ = some (.int .i64 x) := by rw [HZ2.out.cell HL.out.2, hx]
    have f0 : w2.frozen? ⟨g, 0, none⟩ = false := HZ2.out.soft 0
    have r1 : IntKind.i64.wrap (x + 1) = x + 1 := wrapU (by omega) (by omega)
    have h0i : 0 < n.c.length := HL.out.2
    have hix : ∀ wx : World, (Instr.indexAt 37 (.slice (some ⟨g, 0, none⟩) n.c.length gc) (.int .i64 0)).run Try.prog wx = .ok (.pointer (some ⟨g, 0, none⟩)) wx := fun wx => by
      rw [run_indexAt_slice wx 37 ⟨g, 0, none⟩ n.c.length gc .i64 0 Try.underlying37, if_pos ⟨by omega, by omega⟩]
      rfl
    have HZ3 : Hid (Zw (w2.setCell ⟨g, 0, none⟩ (.int .i64 (x + 1))) g gc (n.c.set 0 (x + 1))) := HZ2.out.set HL.out.2 _
    have HS3 : Hid (Sb w (w2.setCell ⟨g, 0, none⟩ (.int .i64 (x + 1))) #[.int .i64 n.b, .slice po n.p.length pc, .slice co n.c.length cc, .int .i64 n.a] #[.int .i64 n.b, .slice po n.p.length pc, .slice co n.c.length cc, .int .i64 n.a]) := HS2.out.other HG.out 0 _
    clear hown hgrow hB12 k2 hgb hz1 hz2 hx
    go_upto_region 5 with fail
    generalize w2.setCell ⟨g, 0, none⟩ (.int .i64 (x + 1)) = w3 at HZ3 HS3 ⊢
    clear c0 f0 r1
    have k0 : w3.cell? ⟨w.heap.size, 0, none⟩ = some (.int .i64 n.b) := by rw [blk_cell HS3.out.b0]; rfl
    have k1 : w3.cell? ⟨w.heap.size, 1, none⟩ = some (.slice po n.p.length pc) := by rw [blk_cell HS3.out.b0]; rfl
    have k2 : w3.cell? ⟨w.heap.size, 2, none⟩ = some (.slice co n.c.length cc) := by rw [blk_cell HS3.out.b0]; rfl
    have k3 : w3.cell? ⟨w.heap.size, 3, none⟩ = some (.int .i64 n.a) := by rw [blk_cell HS3.out.b0]; rfl
    have m0 : w3.cell? ⟨w.heap.size + 1 + 1, 0, none⟩ = some (.int .i64 n.b) := by rw [blk_cell HS3.out.b2]; rfl
    have m1 : w3.cell? ⟨w.heap.size + 1 + 1, 1, none⟩ = some (.slice po n.p.length pc) := by rw [blk_cell HS3.out.b2]; rfl
    have m2 : w3.cell? ⟨w.heap.size + 1 + 1, 2, none⟩ = some (.slice co n.c.length cc) := by rw [blk_cell HS3.out.b2]; rfl
    have m3 : w3.cell? ⟨w.heap.size + 1 + 1, 3, none⟩ = some (.int .i64 n.a) := by rw [blk_cell HS3.out.b2]; rfl
    have f0 : w3.frozen? ⟨w.heap.size + 1 + 1, 0, none⟩ = false := blk_soft HS3.out.b2 0
    have f1 : w3.frozen? ⟨w.heap.size + 1 + 1, 1, none⟩ = false := blk_soft HS3.out.b2 1
    have f2 : w3.frozen? ⟨w.heap.size + 1 + 1, 2, none⟩ = false := blk_soft HS3.out.b2 2
    have f3 : w3.frozen? ⟨w.heap.size + 1 + 1, 3, none⟩ = false := blk_soft HS3.out.b2 3
    have z0 : w3.cell? ⟨w.heap.size + 1, 0, none⟩ = some (.int .i64 0) := by rw [blk_cell HS3.out.b1]; rfl
    have z1 : w3.cell? ⟨w.heap.size + 1, 1, none⟩ = some (.slice none 0 0) := by rw [blk_cell HS3.out.b1]; rfl
    have z2 : w3.cell? ⟨w.heap.size + 1, 2, none⟩ = some (.slice none 0 0) := by rw [blk_cell HS3.out.b1]; rfl
    have z3 : w3.cell? ⟨w.heap.size + 1, 3, none⟩ = some (.int .i64 0) := by rw [blk_cell HS3.out.b1]; rfl
    have y0 : w3.frozen? ⟨w.heap.size + 1, 0, none⟩ = false := blk_soft HS3.out.b1 0
    have y1 : w3.frozen? ⟨w.heap.size + 1, 1, none⟩ = false := blk_soft HS3.out.b1 1
    have y2 : w3.frozen? ⟨w.heap.size + 1, 2, none⟩ = false := blk_soft HS3.out.b1 2
    have y3 : w3.frozen? ⟨w.heap.size + 1, 3, none⟩ = false := blk_soft HS3.out.b1 3
    go_wp2_with fail
    (try simp only [Exit.inBlock, Exit.then])
    refine bodyPost_ret (v := .agg #[.int .i64 n.b, .slice po n.p.length pc, .slice (some ⟨g, 0, none⟩) n.c.length gc, .int .i64 n.a]) (by rw [results_cell1 rfl]; go_simp) rfl ?_
    rw [show sptN n 4 = ⟨n.b, n.p, n.c.set 0 (nth n.c 0 + 1), n.a⟩ from (if_neg (by decide)).trans ((if_neg (by decide)).trans (if_neg (by decide)))]
    have h3 := ((HS3.out.set 0 (.int .i64 n.b)).set 1 (.slice po n.p.length pc)).set 2 (.slice (some ⟨g, 0, none⟩) n.c.length gc)
    have hB := h3.end4 (grown_set4 _ (w.heap.size + 1) (.int .i64 n.b) (.slice po n.p.length pc) (.slice (some ⟨g, 0, none⟩) n.c.length gc) (.int .i64 n.a))
    refine sp_end HPW.out HZ3.out HG.out (by rw [← HX.out]) (by simp) (fun y hy => ?_) hB ?_
    · rcases List.mem_or_eq_of_mem_set hy with h | rfl
      · have := HR.out.cm y h; omega
      · omega
    · rw [set_other _ _ (by have := HG.out; omega), set_other _ _ (by have := HG.out; omega), set_other _ _ (by have := HG.out; omega), set_other _ _ (by have := HG.out; omega), set_other _ _ (by have := HG.out; omega), set_other _ _ (by have := HG.out; omega), set_other _ _ (by have := HG.out; omega)]
end

end Go.Proofs.Ytcbkeicgnfgpnaa


