/- next and spoilt. -/
import Derived.Test.YtcbkeicgnfgpnaaJk

namespace Go.Proofs.Ytcbkeicgnfgpnaa

open Ieee Go.RowKit



/-- A slice lies in a block of A. -/
def InA (A : Nat → Prop) (v : Value) : Prop := ∀ a n c, v = .slice (some a) n c → A a.block
theorem own_inA {A : Nat → Prop} {w : World} {base : Nat} {v : Value} {l : List Int} (h : OwN base w v l) (hA : ∀ x, base ≤ x → x < w.heap.size → A x) : InA A v := by
  intro a n c e
  subst e
  obtain ⟨_, h2⟩ := id h
  rcases h2 with ⟨h, _⟩ | ⟨g, cap, cur, e, hb, hg, _⟩
  · cases h
  · cases e
    exact hA g hb (blk_lt hg)
def NxGot (w : World) (pv cv : Value) (m : Nt) (e : Ending) (w' : World) : Prop := ∃ pv' cv', e = .returned (.agg #[.int .i64 m.b, pv', cv', .int .i64 m.a]) ∧ Nv w' pv' m.p ∧ Nv w' cv' m.c ∧ Below w.heap.size w w' ∧ ∀ A : Nat → Prop, InA A pv → InA A cv → (∀ x, w.heap.size ≤ x → x < w'.heap.size → A x) → InA A pv' ∧ InA A cv'
/-- next's blocks. -/
structure Nb (w wr : World) (c0 tc : Array Value) : Prop where
  bel : Below w.heap.size w wr
  b0 : wr.heap[w.heap.size]? = some (.cells c0 41 (0, 0))
  b1 : wr.heap[w.heap.size + 1]? = some (.cells tc 59 (0, 0))
  b2 : wr.heap[w.heap.size + 1 + 1]? = some (.cells #[.int .i64 0, .slice none 0 0, .slice none 0 0, .int .i64 0] 41 (0, 0))
section

variable {w wr w' : World} {c0 tc : Array Value} {pv cv ov : Value} {n : Nt} {t : Tr} {q : Int}

theorem Nb.go (h : Nb w wr c0 tc) (hb : Below wr.heap.size wr w') : Nb w w' c0 tc := ⟨h.bel.trans (hb.mono h.bel.size), blk_below h.b0 hb, blk_below h.b1 hb, blk_below h.b2 hb⟩
theorem Nb.set (h : Nb w wr c0 tc) (i : Nat) (u : Value) : Nb w (wr.setCell ⟨w.heap.size, i, none⟩ u) (c0.setIfInBounds i u) tc :=
  ⟨h.bel.setCell (p := ⟨w.heap.size, i, none⟩) (Nat.le_refl _) _, by rw [set_row h.b0], by rw [set_other _ _ (by omega)]; exact h.b1, by rw [set_other _ _ (by omega)]; exact h.b2⟩
/-- Another block is written. -/
theorem Nb.other (h : Nb w wr c0 tc) {g : Nat} (hg : w.heap.size + 3 ≤ g) (i : Nat) (u : Value) : Nb w (wr.setCell ⟨g, i, none⟩ u) c0 tc :=
  ⟨h.bel.setCell (p := ⟨g, i, none⟩) (by show w.heap.size ≤ g; omega) _, by rw [set_other _ _ (by omega)]; exact h.b0, by rw [set_other _ _ (by omega)]; exact h.b1, by rw [set_other _ _ (by omega)]; exact h.b2⟩
theorem Nb.end4 (h : Nb w wr c0 tc) (hg : wr.grownBy w' (some (w.heap.size + 1 + 1))) : Below w.heap.size w w' := h.bel.grown hg h.bel.size (fun x hx => by cases hx; omega)
theorem nv_below {v : Value} {l : List Int} (h : Nv w v l) (hb : Below w.heap.size w w') : Nv w' v l := h.below hb


theorem curK_64 {c on : List Int} {k : Nat} {q : Int} {n : Nt} (hr : Rgt n q) (hc : c = n.c := by rfl) : In64 (curK c on k) := by
  subst hc
  intro x hx
  obtain ⟨i, hi, rfl⟩ := mem_nth hx
  rw [curK_len] at hi
  have h := curK_bnd (on := on) hi (hr.c0 hi) (hr.f i hi) k
  have := hr.c0 hi
  constructor <;> omega
theorem nx_end {w wr : World} {tc : Array Value} {nb na : Int} {g gc : Nat} {C N : List Int} {p1 : Value} {cv : Value} {m : Nat} (h : Nb w wr #[.int .i64 nb, p1, cv, .int .i64 na] tc) (hc : Nv w cv C) (hz : Zw wr g gc N) (hg : w.heap.size + 3 ≤ g) (hl : N.length = m) (h64 : In64 N) :
    NxGot w p1 cv ⟨nb + 1, C, N, na⟩ (.returned (.agg #[.int .i64 (nb + 1), cv, .slice (some ⟨g, 0, none⟩) m gc, .int .i64 na])) (((((((wr.setCell ⟨w.heap.size, 0, none⟩ (.int .i64 (nb + 1))).setCell ⟨w.heap.size, 1, none⟩ cv).setCell ⟨w.heap.size, 2, none⟩ (.slice (some ⟨g, 0, none⟩) m gc)).setCell ⟨w.heap.size + 1 + 1, 0, none⟩ (.int .i64 (nb + 1))).setCell ⟨w.heap.size + 1 + 1, 1, none⟩ cv).setCell ⟨w.heap.size + 1 + 1, 2, none⟩ (.slice (some ⟨g, 0, none⟩) m gc)).setCell ⟨w.heap.size + 1 + 1, 3, none⟩ (.int .i64 na)) := by
  subst hl
  have h3 := ((h.set 0 (.int .i64 (nb + 1))).set 1 cv).set 2 (.slice (some ⟨g, 0, none⟩) N.length gc)
  have hB := h3.end4 (grown_set4 _ (w.heap.size + 1 + 1) (.int .i64 (nb + 1)) cv (.slice (some ⟨g, 0, none⟩) N.length gc) (.int .i64 na))
  have hz' := hz.keep (w' := (((((((wr.setCell ⟨w.heap.size, 0, none⟩ (.int .i64 (nb + 1))).setCell ⟨w.heap.size, 1, none⟩ cv).setCell ⟨w.heap.size, 2, none⟩ (.slice (some ⟨g, 0, none⟩) N.length gc)).setCell ⟨w.heap.size + 1 + 1, 0, none⟩ (.int .i64 (nb + 1))).setCell ⟨w.heap.size + 1 + 1, 1, none⟩ cv).setCell ⟨w.heap.size + 1 + 1, 2, none⟩ (.slice (some ⟨g, 0, none⟩) N.length gc)).setCell ⟨w.heap.size + 1 + 1, 3, none⟩ (.int .i64 na))) (by rw [set_other _ _ (by omega), set_other _ _ (by omega), set_other _ _ (by omega), set_other _ _ (by omega), set_other _ _ (by omega), set_other _ _ (by omega), set_other _ _ (by omega)])
  refine ⟨_, _, rfl, hc.below hB, hz'.nv h64, hB, fun A _ h2 h3 => ⟨h2, fun a n c e => ?_⟩⟩
  cases e
  exact h3 g (by omega) hz'.lt
set_option maxRecDepth 100000 in
set_option maxHeartbeats 4000000 in
theorem next_walk (hp : Nv w pv n.p) (hc : Nv w cv n.c) (ho : Nv w ov t.on) (hr : Rgt n q) (hq : q ≤ 4) (hq1 : 1 ≤ q) (hb : n.b < 1099511627776) (ha : n.a + 3 ≤ 1099511627776) :
    Calls Try.prog 37 #[.agg #[.int .i64 n.b, pv, cv, .int .i64 n.a], .agg #[ov, .int .i64 t.m, .bool t.s, .bool t.k, .int .i64 t.b]] w (NxGot w pv cv (nxtN n t)) := by
  have HR : Hid (Rgt n q) := hr
  have HPW : Hid (Nv w pv n.p) := hp
  have HCW : Hid (Nv w cv n.c) := hc
  have HOW : Hid (Nv w ov t.on) := ho
  have HL : Hid (n.c.length ≤ 4 ∧ 0 < n.c.length) := by have := hr.lc; exact ⟨by omega, by omega⟩
  obtain ⟨⟨po, pc, rfl, _⟩, _⟩ := (show Nv w pv n.p from hp)
  obtain ⟨⟨co, cc, rfl, _⟩, _⟩ := (show Nv w cv n.c from hc)
  obtain ⟨oo, oc, rfl, hol, _⟩ := ho.form
  obtain ⟨w0, hw0⟩ : ∃ w0, w0 = ((w.alloc (Obj.cells #[.int .i64 n.b, .slice po n.p.length pc, .slice co n.c.length cc, .int .i64 n.a] 41)).alloc (Obj.cells #[.slice oo t.on.length oc, .int .i64 t.m, .bool t.s, .bool t.k, .int .i64 t.b] 59)).alloc (Obj.cells #[.int .i64 0, .slice none 0 0, .slice none 0 0, .int .i64 0] 41) := ⟨_, rfl⟩
  have HW0 : Hid (w0 = ((w.alloc (Obj.cells #[.int .i64 n.b, .slice po n.p.length pc, .slice co n.c.length cc, .int .i64 n.a] 41)).alloc (Obj.cells #[.slice oo t.on.length oc, .int .i64 t.m, .bool t.s, .bool t.k, .int .i64 t.b] 59)).alloc (Obj.cells #[.int .i64 0, .slice none 0 0, .slice none 0 0, .int .i64 0] 41)) := hw0
  have HN0 : Hid (Nb w w0 #[.int .i64 n.b, .slice po n.p.length pc, .slice co n.c.length cc, .int .i64 n.a] #[.slice oo t.on.length oc, .int .i64 t.m, .bool t.s, .bool t.k, .int .i64 t.b]) := by
    refine ⟨?_, ?_, ?_, ?_⟩
    · rw [hw0]; exact below_trans (below_trans (below_alloc _ _) (below_alloc _ _)) (below_alloc _ _)
    · rw [hw0]; exact alloc_old (alloc_old (alloc_at rfl))
    · rw [hw0]; exact alloc_old (alloc_at (by simp))
    · rw [hw0]; exact alloc_at (by simp)
  obtain ⟨h40, h43⟩ := d4_le t.m
  have rm : (IntKind.u64.wrap t.m).tmod 4 = d4 t.m := rfl
  have rm' : (IntKind.u64.wrap t.m) % 4 = d4 t.m := d4_mod t.m
  obtain ⟨m4, hm4⟩ : ∃ m4, m4 = d4 t.m := ⟨_, rfl⟩
  rw [← hm4] at rm rm' h40 h43
  have HM4 : Hid (m4 = d4 t.m) := hm4
  have ha0 := hr.a0
  have r1 : IntKind.i64.wrap m4 = m4 := wrapU h40 (by omega)
  have r2 : IntKind.i64.wrap (n.a + m4) = n.a + m4 := wrapU (by omega) (by omega)
  have r3 : IntKind.i64.wrap (n.b + 1) = n.b + 1 := wrapU (by have := hr.b0; omega) (by omega)
  clear hp hc ho hr hq hq1 hw0 hm4 h40 h43 ha0 ha hb
  go_enter Try.func37, Try.ntmps37
  go_upto_region 1 with fail
  rw [← HW0.out]
  have k0 : w0.cell? ⟨w.heap.size, 0, none⟩ = some (.int .i64 n.b) := by rw [blk_cell HN0.out.b0]; rfl
  have k1 : w0.cell? ⟨w.heap.size, 1, none⟩ = some (.slice po n.p.length pc) := by rw [blk_cell HN0.out.b0]; rfl
  have k2 : w0.cell? ⟨w.heap.size, 2, none⟩ = some (.slice co n.c.length cc) := by rw [blk_cell HN0.out.b0]; rfl
  have k3 : w0.cell? ⟨w.heap.size, 3, none⟩ = some (.int .i64 n.a) := by rw [blk_cell HN0.out.b0]; rfl
  have t0 : w0.cell? ⟨w.heap.size + 1, 0, none⟩ = some (.slice oo t.on.length oc) := by rw [blk_cell HN0.out.b1]; rfl
  have t1 : w0.cell? ⟨w.heap.size + 1, 1, none⟩ = some (.int .i64 t.m) := by rw [blk_cell HN0.out.b1]; rfl
  have t2 : w0.cell? ⟨w.heap.size + 1, 2, none⟩ = some (.bool t.s) := by rw [blk_cell HN0.out.b1]; rfl
  have t3 : w0.cell? ⟨w.heap.size + 1, 3, none⟩ = some (.bool t.k) := by rw [blk_cell HN0.out.b1]; rfl
  have t4 : w0.cell? ⟨w.heap.size + 1, 4, none⟩ = some (.int .i64 t.b) := by rw [blk_cell HN0.out.b1]; rfl
  have f3 : w0.frozen? ⟨w.heap.size, 3, none⟩ = false := blk_soft HN0.out.b0 3
  go_upto_region 2 with fail
  have HN1 : Hid (Nb w (w0.setCell ⟨w.heap.size, 3, none⟩ (.int .i64 (n.a + m4))) #[.int .i64 n.b, .slice po n.p.length pc, .slice co n.c.length cc, .int .i64 (n.a + m4)] #[.slice oo t.on.length oc, .int .i64 t.m, .bool t.s, .bool t.k, .int .i64 t.b]) := HN0.out.set 3 _
  generalize w0.setCell ⟨w.heap.size, 3, none⟩ (.int .i64 (n.a + m4)) = w1 at HN1 ⊢
  clear k0 k1 k2 k3 t0 t1 t2 t3 t4 f3 rm rm' r1 r2
  have k0 : w1.cell? ⟨w.heap.size, 0, none⟩ = some (.int .i64 n.b) := by rw [blk_cell HN1.out.b0]; rfl
  have k1 : w1.cell? ⟨w.heap.size, 1, none⟩ = some (.slice po n.p.length pc) := by rw [blk_cell HN1.out.b0]; rfl
  have k2 : w1.cell? ⟨w.heap.size, 2, none⟩ = some (.slice co n.c.length cc) := by rw [blk_cell HN1.out.b0]; rfl
  have k3 : w1.cell? ⟨w.heap.size, 3, none⟩ = some (.int .i64 (n.a + m4)) := by rw [blk_cell HN1.out.b0]; rfl
  have t2 : w1.cell? ⟨w.heap.size + 1, 2, none⟩ = some (.bool t.s) := by rw [blk_cell HN1.out.b1]; rfl
  cases hs : t.s
  rotate_left
  · have HM : Hid (nxtN n t = ⟨n.b, n.p, n.c, n.a + m4⟩) := by show _ = _; rw [HM4.out]; unfold nxtN; rw [if_pos hs]
    rw [hs] at t2
    clear hs
    have z0 : w1.cell? ⟨w.heap.size + 1 + 1, 0, none⟩ = some (.int .i64 0) := by rw [blk_cell HN1.out.b2]; rfl
    have z1 : w1.cell? ⟨w.heap.size + 1 + 1, 1, none⟩ = some (.slice none 0 0) := by rw [blk_cell HN1.out.b2]; rfl
    have z2 : w1.cell? ⟨w.heap.size + 1 + 1, 2, none⟩ = some (.slice none 0 0) := by rw [blk_cell HN1.out.b2]; rfl
    have z3 : w1.cell? ⟨w.heap.size + 1 + 1, 3, none⟩ = some (.int .i64 0) := by rw [blk_cell HN1.out.b2]; rfl
    have y0 : w1.frozen? ⟨w.heap.size + 1 + 1, 0, none⟩ = false := blk_soft HN1.out.b2 0
    have y1 : w1.frozen? ⟨w.heap.size + 1 + 1, 1, none⟩ = false := blk_soft HN1.out.b2 1
    have y2 : w1.frozen? ⟨w.heap.size + 1 + 1, 2, none⟩ = false := blk_soft HN1.out.b2 2
    have y3 : w1.frozen? ⟨w.heap.size + 1 + 1, 3, none⟩ = false := blk_soft HN1.out.b2 3
    go_wp2_with fail
    (try simp only [Exit.inBlock, Exit.then])
    refine bodyPost_ret (v := .agg #[.int .i64 n.b, .slice po n.p.length pc, .slice co n.c.length cc, .int .i64 (n.a + m4)]) (by rw [results_cell1 rfl]; go_simp) rfl ?_
    rw [HM.out]
    have hB := HN1.out.end4 (grown_set4 w1 (w.heap.size + 1 + 1) (.int .i64 n.b) (.slice po n.p.length pc) (.slice co n.c.length cc) (.int .i64 (n.a + m4)))
    exact ⟨_, _, rfl, HPW.out.below hB, HCW.out.below hB, hB, fun A h1 h2 _ => ⟨h1, h2⟩⟩
  have HM : Hid (nxtN n t = ⟨n.b + 1, n.c, curK n.c t.on n.c.length, n.a + m4⟩) := by show _ = _; rw [HM4.out]; unfold nxtN; rw [if_neg (by rw [hs]; simp)]
  rw [hs] at t2
  clear hs
  have HC1 : Hid (Nv w1 (.slice co n.c.length cc) n.c) := HCW.out.below HN1.out.bel
  have hz1 : w.heap.size < w1.heap.size := blk_lt HN1.out.b0
  have hz2 : ¬ w.heap.size = w1.heap.size := by omega
  go_wp2_with (at_builtin; refine wpList_append_nv (by rfl) (.tmp 19) (.tmp 22) 37 (by rfl) w1.heap.size 3 Try.underlying37 info_int _ 0 [] (by rfl) (World.ownsRow_made w1 #[] 0 (Nat.le_refl _) (by simp [maxLen]) (by simp)) _ n.c (by rfl) (HC1.out.below (below_alloc _ _)) (by have := HL.out; simp only [maxLen]; omega) (by have := HL.out; omega) (by simp) ?_; intro v' w2 hown hgrow)
  have hB12 : Below w1.heap.size w1 w2 := (below_alloc w1 (Obj.cells #[] 3)).grown hgrow (by simp) (by simp [Value.ownBlock])
  have HN2 : Hid (Nb w w2 #[.int .i64 n.b, .slice po n.p.length pc, .slice co n.c.length cc, .int .i64 (n.a + m4)] #[.slice oo t.on.length oc, .int .i64 t.m, .bool t.s, .bool t.k, .int .i64 t.b]) := HN1.out.go hB12
  rw [Nat.zero_add, List.nil_append] at hown
  obtain ⟨g, gc, rfl, hgb⟩ : ∃ g gc, v' = .slice (some ⟨g, 0, none⟩) n.c.length gc ∧ w1.heap.size ≤ g := by
    rcases hown.2 with ⟨_, h0⟩ | ⟨g, cap, cur, e, hb, _⟩
    · have := HL.out; omega
    · exact ⟨g, cap, e, hb⟩
  have HZ2 : Hid (Zw w2 g gc (curK n.c t.on 0)) := by show Zw _ _ _ _; rw [curK_zero]; exact (own_zw hown).1
  have HG : Hid (w.heap.size + 3 ≤ g) := by have := blk_lt HN1.out.b2; show _ ≤ _; omega
  clear hown hgrow hB12 k0 k1 k2 k3 t2 hgb hz1 hz2
  go_wp2_with fail
  go_loopw [6] (fun iv wr => ∃ k : Nat, k ≤ n.c.length ∧ iv = .int .i64 k ∧ Nb w wr #[.int .i64 n.b, .slice po n.p.length pc, .slice co n.c.length cc, .int .i64 (n.a + m4)] #[.slice oo t.on.length oc, .int .i64 t.m, .bool t.s, .bool t.k, .int .i64 t.b] ∧ Zw wr g gc (curK n.c t.on k)) (fun iv _ => n.c.length - (intOf iv).toNat)
  case atStart => exact ⟨0, Nat.zero_le _, rfl, HN2.out, HZ2.out⟩
  case round =>
    clear HN2 HZ2
    obtain ⟨k, hk, rfl, hN, hZ⟩ := hrel
    have HN : Hid (Nb w wr #[.int .i64 n.b, .slice po n.p.length pc, .slice co n.c.length cc, .int .i64 (n.a + m4)] #[.slice oo t.on.length oc, .int .i64 t.m, .bool t.s, .bool t.k, .int .i64 t.b]) := hN
    have HZ : Hid (Zw wr g gc (curK n.c t.on k)) := hZ
    clear hZ hN
    have t0 : wr.cell? ⟨w.heap.size + 1, 0, none⟩ = some (.slice oo t.on.length oc) := by rw [blk_cell HN.out.b1]; rfl
    have hcl : (n.c.length : Int) ≤ 9223372036854775807 := by have := HL.out; omega
    by_cases hlt : k < n.c.length ∧ k < t.on.length
    · obtain ⟨h1, h2⟩ := hlt
      have h1i : (k : Int) < (n.c.length : Int) := by omega
      have h2i : (k : Int) < (t.on.length : Int) := by omega
      obtain ⟨ob, oof, rfl, o0⟩ := (HOW.out.below HN.out.bel).at h2
      obtain ⟨y, hy⟩ : ∃ y, y = nth t.on k := ⟨_, rfl⟩
      rw [← hy] at o0
      obtain ⟨h50, h54⟩ := d5_le y
      have rm : (IntKind.u64.wrap y).tmod 5 = d5 y := rfl
      have rm' : (IntKind.u64.wrap y) % 5 = d5 y := d5_mod y
      have HY : Hid (y = nth t.on k) := hy
      obtain ⟨x, hx⟩ : ∃ x, x = nth n.c k := ⟨_, rfl⟩
      have HX : Hid (x = nth n.c k) := hx
      have hx0 : 0 ≤ x := by rw [hx]; exact HR.out.c0 h1
      have hx1 : x ≤ 256 := by rw [hx]; exact HR.out.f k h1
      have c0 : wr.cell? ⟨g, k, none⟩ = some (.int .i64 x) := by rw [HZ.out.cell (by rw [curK_len]; exact h1), curK_nth h1, if_neg (by omega), hx]
      have f0 : wr.frozen? ⟨g, k, none⟩ = false := HZ.out.soft k
      obtain ⟨d, hd⟩ : ∃ d, d = d5 y := ⟨_, rfl⟩
      rw [← hd] at rm rm' h50 h54
      have HD : Hid (d = d5 y) := hd
      have r1 : IntKind.i64.wrap d = d := wrapU h50 (by omega)
      have r2 : IntKind.i64.wrap (x + d) = x + d := wrapU (by omega) (by omega)
      clear hy hx hd
      go_wp2_with fail
      go_cut [49] (fun _ wx => wx = (wr.setCell ⟨g, k, none⟩ (.int .i64 (x + d))).drew)
      case first =>
        go_region_with (fail)
        all_goals go_wp2_with fail
        all_goals go_meet
        all_goals rfl
      case rest =>
        replace hcut := hcut.symm
        subst hcut
        have HN3 : Hid (Nb w (wr.setCell ⟨g, k, none⟩ (.int .i64 (x + d))).drew #[.int .i64 n.b, .slice po n.p.length pc, .slice co n.c.length cc, .int .i64 (n.a + m4)] #[.slice (some ⟨ob, oof, none⟩) t.on.length oc, .int .i64 t.m, .bool t.s, .bool t.k, .int .i64 t.b]) := (HN.out.other HG.out k _).go (below_drew _)
        have HZ3 : Hid (Zw (wr.setCell ⟨g, k, none⟩ (.int .i64 (x + d))).drew g gc ((curK n.c t.on k).set k (x + d))) := (HZ.out.set (by rw [curK_len]; exact h1) _).below (below_drew _)
        generalize hw3 : (wr.setCell ⟨g, k, none⟩ (.int .i64 (x + d))).drew = w3 at HN3 HZ3 ⊢
        have c3 : w3.cell? ⟨g, k, none⟩ = some (.int .i64 (x + d)) := by rw [HZ3.out.cell (by rw [List.length_set, curK_len]; exact h1), nth_set (by rw [curK_len]; exact h1), if_pos rfl]
        have f3 : w3.frozen? ⟨g, k, none⟩ = false := HZ3.out.soft k
        clear hw3 c0 f0 o0 t0 rm rm' r1 r2
        by_cases hbig : 256 < x + d
        · have HZ4 : Hid (Zw (w3.setCell ⟨g, k, none⟩ (.int .i64 256)) g gc (curK n.c t.on (k + 1))) := by
            show Zw _ _ _ _
            have := HZ3.out.set (j := k) (by rw [List.length_set, curK_len]; exact h1) 256
            rw [List.set_set] at this
            rw [← curK_step h1 h2, ← HX.out, ← HY.out, ← HD.out, show stp x d = 256 from if_pos hbig]
            exact this
          have HN4 : Hid (Nb w (w3.setCell ⟨g, k, none⟩ (.int .i64 256)) #[.int .i64 n.b, .slice po n.p.length pc, .slice co n.c.length cc, .int .i64 (n.a + m4)] #[.slice (some ⟨ob, oof, none⟩) t.on.length oc, .int .i64 t.m, .bool t.s, .bool t.k, .int .i64 t.b]) := HN3.out.other HG.out k _
          go_wp2_with fail
          go_roundw
          case rel => exact ⟨k + 1, h1, by go_num, HN4.out, HZ4.out⟩
          case measure => simp [intOf]; omega
        · have HZ4 : Hid (Zw w3 g gc (curK n.c t.on (k + 1))) := by
            show Zw _ _ _ _
            rw [← curK_step h1 h2, ← HX.out, ← HY.out, ← HD.out, show stp x d = x + d from if_neg hbig]
            exact HZ3.out
          go_wp2_with fail
          go_roundw
          case rel => exact ⟨k + 1, h1, by go_num, HN3.out, HZ4.out⟩
          case measure => simp [intOf]; omega
    · have HE : Hid (Zw wr g gc (curK n.c t.on n.c.length)) := by
        show Zw _ _ _ _
        rw [← curK_end (k := k) (by omega)]
        exact HZ.out
      by_cases h1 : k < n.c.length
      · have h1i : (k : Int) < (n.c.length : Int) := by omega
        have h2i : ¬ (k : Int) < (t.on.length : Int) := by omega
        have k0 : wr.cell? ⟨w.heap.size, 0, none⟩ = some (.int .i64 n.b) := by rw [blk_cell HN.out.b0]; rfl
        have k1 : wr.cell? ⟨w.heap.size, 1, none⟩ = some (.slice po n.p.length pc) := by rw [blk_cell HN.out.b0]; rfl
        have k2 : wr.cell? ⟨w.heap.size, 2, none⟩ = some (.slice co n.c.length cc) := by rw [blk_cell HN.out.b0]; rfl
        have k3 : wr.cell? ⟨w.heap.size, 3, none⟩ = some (.int .i64 (n.a + m4)) := by rw [blk_cell HN.out.b0]; rfl
        have f0 : wr.frozen? ⟨w.heap.size, 0, none⟩ = false := blk_soft HN.out.b0 0
        have f1 : wr.frozen? ⟨w.heap.size, 1, none⟩ = false := blk_soft HN.out.b0 1
        have f2 : wr.frozen? ⟨w.heap.size, 2, none⟩ = false := blk_soft HN.out.b0 2
        have f3 : wr.frozen? ⟨w.heap.size, 3, none⟩ = false := blk_soft HN.out.b0 3
        have z0 : wr.cell? ⟨w.heap.size + 1 + 1, 0, none⟩ = some (.int .i64 0) := by rw [blk_cell HN.out.b2]; rfl
        have z1 : wr.cell? ⟨w.heap.size + 1 + 1, 1, none⟩ = some (.slice none 0 0) := by rw [blk_cell HN.out.b2]; rfl
        have z2 : wr.cell? ⟨w.heap.size + 1 + 1, 2, none⟩ = some (.slice none 0 0) := by rw [blk_cell HN.out.b2]; rfl
        have z3 : wr.cell? ⟨w.heap.size + 1 + 1, 3, none⟩ = some (.int .i64 0) := by rw [blk_cell HN.out.b2]; rfl
        have y0 : wr.frozen? ⟨w.heap.size + 1 + 1, 0, none⟩ = false := blk_soft HN.out.b2 0
        have y1 : wr.frozen? ⟨w.heap.size + 1 + 1, 1, none⟩ = false := blk_soft HN.out.b2 1
        have y2 : wr.frozen? ⟨w.heap.size + 1 + 1, 2, none⟩ = false := blk_soft HN.out.b2 2
        have y3 : wr.frozen? ⟨w.heap.size + 1 + 1, 3, none⟩ = false := blk_soft HN.out.b2 3
        go_wp2_with fail
        (try simp only [Exit.inBlock, Exit.then])
        refine bodyPost_ret (v := .agg #[.int .i64 (n.b + 1), .slice co n.c.length cc, .slice (some ⟨g, 0, none⟩) n.c.length gc, .int .i64 (n.a + m4)]) (by rw [results_cell1 rfl]; go_simp) rfl ?_
        rw [HM.out]
        exact nx_end HN.out HCW.out HE.out HG.out (curK_len _ _ _) (curK_64 HR.out)
      · have h1i : ¬ (k : Int) < (n.c.length : Int) := by omega
        have k0 : wr.cell? ⟨w.heap.size, 0, none⟩ = some (.int .i64 n.b) := by rw [blk_cell HN.out.b0]; rfl
        have k1 : wr.cell? ⟨w.heap.size, 1, none⟩ = some (.slice po n.p.length pc) := by rw [blk_cell HN.out.b0]; rfl
        have k2 : wr.cell? ⟨w.heap.size, 2, none⟩ = some (.slice co n.c.length cc) := by rw [blk_cell HN.out.b0]; rfl
        have k3 : wr.cell? ⟨w.heap.size, 3, none⟩ = some (.int .i64 (n.a + m4)) := by rw [blk_cell HN.out.b0]; rfl
        have f0 : wr.frozen? ⟨w.heap.size, 0, none⟩ = false := blk_soft HN.out.b0 0
        have f1 : wr.frozen? ⟨w.heap.size, 1, none⟩ = false := blk_soft HN.out.b0 1
        have f2 : wr.frozen? ⟨w.heap.size, 2, none⟩ = false := blk_soft HN.out.b0 2
        have f3 : wr.frozen? ⟨w.heap.size, 3, none⟩ = false := blk_soft HN.out.b0 3
        have z0 : wr.cell? ⟨w.heap.size + 1 + 1, 0, none⟩ = some (.int .i64 0) := by rw [blk_cell HN.out.b2]; rfl
        have z1 : wr.cell? ⟨w.heap.size + 1 + 1, 1, none⟩ = some (.slice none 0 0) := by rw [blk_cell HN.out.b2]; rfl
        have z2 : wr.cell? ⟨w.heap.size + 1 + 1, 2, none⟩ = some (.slice none 0 0) := by rw [blk_cell HN.out.b2]; rfl
        have z3 : wr.cell? ⟨w.heap.size + 1 + 1, 3, none⟩ = some (.int .i64 0) := by rw [blk_cell HN.out.b2]; rfl
        have y0 : wr.frozen? ⟨w.heap.size + 1 + 1, 0, none⟩ = false := blk_soft HN.out.b2 0
        have y1 : wr.frozen? ⟨w.heap.size + 1 + 1, 1, none⟩ = false := blk_soft HN.out.b2 1
        have y2 : wr.frozen? ⟨w.heap.size + 1 + 1, 2, none⟩ = false := blk_soft HN.out.b2 2
        have y3 : wr.frozen? ⟨w.heap.size + 1 + 1, 3, none⟩ = false := blk_soft HN.out.b2 3
        go_wp2_with fail
        (try simp only [Exit.inBlock, Exit.then])
        refine bodyPost_ret (v := .agg #[.int .i64 (n.b + 1), .slice co n.c.length cc, .slice (some ⟨g, 0, none⟩) n.c.length gc, .int .i64 (n.a + m4)]) (by rw [results_cell1 rfl]; go_simp) rfl ?_
        rw [HM.out]
        exact nx_end HN.out HCW.out HE.out HG.out (curK_len _ _ _) (curK_64 HR.out)
end

end Go.Proofs.Ytcbkeicgnfgpnaa


