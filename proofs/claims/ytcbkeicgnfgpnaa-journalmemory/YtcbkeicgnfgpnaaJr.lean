/- JournalFits, walked. -/
import Derived.Test.YtcbkeicgnfgpnaaJq

namespace Go.Proofs.Ytcbkeicgnfgpnaa

open Ieee Go.RowKit

theorem p4_of (x : Int) : ∃ k : Nat, 1 ≤ k ∧ k ≤ 4 ∧ 1 + d4 x = k := by
  obtain ⟨h0, h1⟩ := d4_le x
  exact ⟨(1 + d4 x).toNat, by omega, by omega, by omega⟩
def M0 (w : World) (q : Nat) (b a : Int) (M : Nat) (W : World) : Prop := ∃ P C, W.heap[M]? = some (.cells #[.int .i64 b, .slice (some ⟨P, 0, none⟩) q q, .slice (some ⟨C, 0, none⟩) q q, .int .i64 a] 41 (0, 0)) ∧ OwN w.heap.size W (.slice (some ⟨P, 0, none⟩) q q) (zeros q) ∧ OwN w.heap.size W (.slice (some ⟨C, 0, none⟩) q q) (zeros q) ∧ w.heap.size ≤ M ∧ Below w.heap.size w W
theorem m0_of {w W : World} {E P C q : Nat} {b a : Int} {Z : Array Value} (hZ : Z = madeCells #[Value.int .i64 0] (q * 1)) (hq : q ≤ 4) (hW : Below w.heap.size w W)
    (hT : W.heap[E]? = some (.cells #[.int .i64 b, .slice (some ⟨P, 0, none⟩) q q, .slice (some ⟨C, 0, none⟩) q q, .int .i64 a] 41 (0, 0))) (hP : W.heap[P]? = some (.cells Z 3 (0, 0))) (hC : W.heap[C]? = some (.cells Z 3 (0, 0))) (h1 : w.heap.size ≤ E) (h2 : w.heap.size ≤ P) (h3 : w.heap.size ≤ C) : M0 w q b a E W :=
  ⟨P, C, hT, own_at hZ hq hP h2, own_at hZ hq hC h3, h1, hW⟩
set_option maxRecDepth 100000 in
set_option maxHeartbeats 16000000 in
theorem journalfits_walk {w : World} {tv : Value} {ts : List Tr} (a0 a1 : Int) (ht : Tus w tv ts) :
    Calls Try.prog 6 #[.int .i64 a0, .int .i64 a1, tv] w fun e w' => e = .returned (.bool true) ∧ Below w.heap.size w w' := by
  have HT : Hid (Tus w tv ts) := ht
  obtain ⟨ta, tc, rfl, htl, htm, _⟩ := ht
  have htl : (ts.length : Int) ≤ 9223372036854775807 := by unfold maxLen at htm; omega
  obtain ⟨p, hp1, hp4, hp⟩ := p4_of a0
  obtain ⟨q, hq1, hq4, hq⟩ := p4_of a1
  obtain ⟨h00, h03⟩ := d4_le a0
  obtain ⟨h10, h13⟩ := d4_le a1
  have s0 : (IntKind.u64.wrap a0).tmod 4 = d4 a0 := rfl
  have s0' : (IntKind.u64.wrap a0) % 4 = d4 a0 := d4_mod a0
  have s1 : (IntKind.u64.wrap a1).tmod 4 = d4 a1 := rfl
  have s1' : (IntKind.u64.wrap a1) % 4 = d4 a1 := d4_mod a1
  generalize d4 a0 = x0 at hp h00 h03 s0 s0'
  generalize d4 a1 = x1 at hq h10 h13 s1 s1'
  have s2 : IntKind.i64.wrap x0 = x0 := wrapU h00 (by omega)
  have s3 : IntKind.i64.wrap x1 = x1 := wrapU h10 (by omega)
  have s4 : IntKind.i64.wrap (1 + x0) = (p : Int) := by rw [hp]; exact wrapU (by omega) (by omega)
  have s5 : IntKind.i64.wrap (1 + x1) = (q : Int) := by rw [hq]; exact wrapU (by omega) (by omega)
  clear hp hq h00 h03 h10 h13 htm
  go_enter Try.func6, Try.ntmps6
  go_wp2_with fail
  refine (awake18_walk w).mono ?_
  rintro e wz ⟨rfl, hBz⟩
  have HBZ : Hid (Below w.heap.size w wz) := hBz
  have HTZ : Hid (Tus wz (.slice ta ts.length tc) ts) := HT.out.below hBz
  clear hBz
  go_wp2_with fail
  refine (new_walk (n := 2) (by omega) (by omega)).mono ?_
  rintro e w1 ⟨v, D1, rfl, hD1, hB1, hx1⟩
  obtain ⟨sb, hv⟩ : ∃ sb, v = .pointer (some ⟨sb, 0, none⟩) := by obtain ⟨sb, _, _, e, _⟩ := hD1; exact ⟨sb, e⟩
  subst hv
  have HD1 : Hid (Dsk 79 D1 w1 (.pointer (some ⟨sb, 0, none⟩)) (loadS (List.replicate 2 []))) := hD1
  have HB1 : Hid (Below wz.heap.size wz w1 ∧ ∀ x, D1 x → wz.heap.size ≤ x) := ⟨hB1, hx1⟩
  clear hD1 hB1 hx1 s0 s0' s1 s1' s2 s3 s4 s5
  go_wp2_with fail
  refine (lw_format HD1.out HB1.out.1 HB1.out.2 (by show (0 : Nat) < _; omega) p).mono ?_
  obtain ⟨g0, g1, g2, g3⟩ := gd_new hp1 hp4
  rintro e w2 ⟨hb2, ⟨hne, _⟩ | ⟨_, jb, rfl, hL2⟩⟩
  · exact absurd g0 hne
  rw [Int.toNat_natCast] at hL2
  have HL2 : Hid (Lw wz (fun _ => False) sb jb p ⟨1, n0 p, 0, false⟩ (fmtS (loadS (List.replicate 2 [])) p) w2) := hL2
  have HG2 : Hid (Gd p ⟨1, n0 p, 0, false⟩ (fmtS (loadS (List.replicate 2 [])) p)) := g3
  have HWR2 : Hid ((fmtS (loadS (List.replicate 2 [])) p).wr = 2 ∧ (fmtS (loadS (List.replicate 2 [])) p).rd = 0) := ⟨g1, g2⟩
  clear hL2 hb2 g0 g1 g2 g3 HD1 HB1
  go_wp2_with fail
  refine (lw_note HL2.out).mono ?_
  rintro e w3 ⟨pa, pc, ca, cc, rfl, ho1, ho2, hB3⟩
  have HST : Hid (∃ A J S pv cv, Fit wz A sb jb w3.heap.size p 0 J S pv cv (w3.alloc (Obj.cells #[.int .i64 (n0 p).b, .slice pa (n0 p).p.length pc, .slice ca (n0 p).c.length cc, .int .i64 (n0 p).a] 41))) := by
    have hs := alloc_size w3 (Obj.cells #[.int .i64 (n0 p).b, .slice pa (n0 p).p.length pc, .slice ca (n0 p).c.length cc, .int .i64 (n0 p).a] 41)
    have hb := below_trans hB3 (below_alloc w3 (Obj.cells #[.int .i64 (n0 p).b, .slice pa (n0 p).p.length pc, .slice ca (n0 p).c.length cc, .int .i64 (n0 p).a] 41))
    have hz := HL2.out.bel.size
    refine ⟨_, _, _, _, _, ⟨HL2.out.more hb, HG2.out, ⟨.inr ⟨hB3.size, by rw [hs]; omega⟩, alloc_at rfl, ⟨(own_nv ho1 (zeros_in64 p)).below (below_alloc _ _), own_inA ho1 fun x h1 h2 => ⟨.inr ⟨h1, by rw [hs]; omega⟩, by omega⟩⟩, ⟨(own_nv ho2 (zeros_in64 p)).below (below_alloc _ _), own_inA ho2 fun x h1 h2 => ⟨.inr ⟨h1, by rw [hs]; omega⟩, by omega⟩⟩⟩, by show 1 ≤ _; omega, by show (0 : Int) ≤ _; omega, by show (0 : Int) ≤ _; omega, by rw [HWR2.out.1]; omega, by rw [HWR2.out.2]; omega, fun x hx => ?_⟩⟩
    rcases hx with hx | hx
    · exact hx.elim
    · omega
  clear ho1 ho2 hB3
  go_wp2_with fail
  generalize w3.alloc (Obj.cells #[.int .i64 (n0 p).b, .slice pa (n0 p).p.length pc, .slice ca (n0 p).c.length cc, .int .i64 (n0 p).a] 41) = w4 at HST ⊢
  go_loopw [14] (fun iv wr => ∃ k : Nat, k ≤ ts.length ∧ k ≤ 60 ∧ iv = .int .i64 k ∧ ∃ A J S pv cv, Fit wz A sb jb w3.heap.size p k J S pv cv wr) (fun iv _ => ts.length - (intOf iv).toNat)
  case atStart => exact ⟨0, Nat.zero_le _, by omega, rfl, HST.out⟩
  case round =>
    clear HST
    obtain ⟨k, hk, hk60, rfl, A, J, S, pv, cv, hF⟩ := hrel
    generalize w3.heap.size = N at hF ⊢
    have HF : Hid (Fit wz A sb jb N p k J S pv cv wr) := hF
    obtain ⟨po, pc, co, cc, rfl, rfl⟩ := hF.vn.forms
    clear hF
    by_cases hlt : k < ts.length ∧ k < 60
    · obtain ⟨hk1, hk2⟩ := hlt
      have hk1i : (k : Int) < (ts.length : Int) := by omega
      have hk2i : (k : Int) < 60 := by omega
      obtain ⟨ao, cap, e0, _, _, hcell⟩ := HTZ.out.below HF.out.lw.bel
      simp only [Value.slice.injEq] at e0
      obtain ⟨tb, toff, ov, e1, t0, t1, t2, t3, t4, hov⟩ := hcell k hk1
      obtain rfl : ta = some ⟨tb, toff, none⟩ := e0.1.trans e1
      clear e0 hcell
      obtain ⟨oo, oc, rfl, _⟩ := hov.form
      have HOV : Hid (Nv wr (.slice oo (tth ts k).on.length oc) (tth ts k).on) := hov
      generalize tth ts k = t at t0 t1 t2 t3 t4 HOV
      have HRG : Hid (Rgt J.n p) := HF.out.gd.ok.r
      have c0 : wr.drew.cell? ⟨N, 0, none⟩ = some (.int .i64 J.n.b) := by rw [blk_cell (blk_below HF.out.vn.blk (below_drew wr))]; rfl
      have c1 : wr.drew.cell? ⟨N, 1, none⟩ = some (.slice po J.n.p.length pc) := by rw [blk_cell (blk_below HF.out.vn.blk (below_drew wr))]; rfl
      have c2 : wr.drew.cell? ⟨N, 2, none⟩ = some (.slice co J.n.c.length cc) := by rw [blk_cell (blk_below HF.out.vn.blk (below_drew wr))]; rfl
      have c3 : wr.drew.cell? ⟨N, 3, none⟩ = some (.int .i64 J.n.a) := by rw [blk_cell (blk_below HF.out.vn.blk (below_drew wr))]; rfl
      have y0 := ((below_drew wr).cell (p := ⟨tb, toff + k * 5, none⟩) (cell_lt t0)).trans t0
      have y1 := ((below_drew wr).cell (p := ⟨tb, toff + k * 5 + 1, none⟩) (cell_lt t1)).trans t1
      have y2 := ((below_drew wr).cell (p := ⟨tb, toff + k * 5 + 2, none⟩) (cell_lt t2)).trans t2
      have y3 := ((below_drew wr).cell (p := ⟨tb, toff + k * 5 + 3, none⟩) (cell_lt t3)).trans t3
      have y4 := ((below_drew wr).cell (p := ⟨tb, toff + k * 5 + 4, none⟩) (cell_lt t4)).trans t4
      clear t0 t1 t2 t3 t4 hov e1
      go_wp2_with fail
      go_cut [62] (fun _ wx => ∃ (E : Nat → Prop) (p' c' : Value), Lw wz E sb jb p J S wx ∧ Vn E N p' c' (nxtN J.n t) wx ∧ ∀ x, E x → wz.heap.size ≤ x)
      case first =>
        refine wp_region_noPanic ?_
        refine wp_region_held_drew (S := fun _ => True) (by kernel_rfl) ?_ (fun hHeld => ?_)
        · exact trivial
        refine wpAnyH_take (i := 1) (oi := ⟨some 58, _, _, _, _, _⟩) (v := ?_) rfl (by kernel_rfl) (by kernel_rfl) (by kernel_rfl) (fun _ _ _ h => h) (Or.inl ⟨by rfl, ?_⟩) hHeld ?_
        rotate_left
        · intro w hSw; (try dsimp only at hSw); go_simp; all_goals (with_reducible rfl)
        try simp only [Act.put, List.setIfInBounds_toArray, List.set_cons_zero, List.set_cons_succ]
        refine wpAnyH_take (i := 2) (oi := ⟨some 59, _, _, _, _, _⟩) (v := ?_) rfl (by kernel_rfl) (by kernel_rfl) (by kernel_rfl) (fun _ _ _ h => h) (Or.inl ⟨by rfl, ?_⟩) hHeld ?_
        rotate_left
        · intro w hSw; (try dsimp only at hSw); go_simp; all_goals (with_reducible rfl)
        try simp only [Act.put, List.setIfInBounds_toArray, List.set_cons_zero, List.set_cons_succ]
        refine wpAnyH_take (i := 3) (oi := ⟨some 60, _, _, _, _, _⟩) (v := ?_) rfl (by kernel_rfl) (by kernel_rfl) (by kernel_rfl) (fun _ _ _ h => h) (Or.inl ⟨by rfl, ?_⟩) hHeld ?_
        rotate_left
        · intro w hSw; (try dsimp only at hSw); go_simp; all_goals (with_reducible rfl)
        try simp only [Act.put, List.setIfInBounds_toArray, List.set_cons_zero, List.set_cons_succ]
        refine wpAnyH_ready (rs := [0, 4]) (by kernel_rfl) (by simp) ?_
        refine AllReadyH.cons (o := ⟨some 57, _, _, _, _, _⟩) rfl (fun K hK => ?_) (AllReadyH.cons (o := ⟨some 61, _, _, _, _, _⟩) rfl (fun K hK => ?_) AllReadyH.nil)
        · go_simp
          refine hK.out _ _ ?_ (fun hHeld => ?_)
          · exact trivial
          clear hK K
          try simp only [Act.put, List.setIfInBounds_toArray, List.set_cons_zero, List.set_cons_succ]
          refine wpAnyH_ready (rs := [4]) (by kernel_rfl) (by simp) ?_
          refine AllReadyH.cons (o := ⟨some 61, _, _, _, _, _⟩) rfl (fun K hK => ?_) AllReadyH.nil
          go_simp
          refine hK.out _ _ ?_ (fun hHeld => ?_)
          · exact trivial
          clear hK K
          try simp only [Act.put, List.setIfInBounds_toArray, List.set_cons_zero, List.set_cons_succ]
          refine wpAnyH_ready (rs := [5]) (by kernel_rfl) (by simp) ?_
          refine AllReadyH.cons (o := ⟨some 62, _, _, _, _, _⟩) rfl (fun K hK => ?_) AllReadyH.nil
          go_simp
          refine (next_walk (n := J.n) (t := t) (q := p) ((HF.out.vn.p.nv).below (below_drew wr)) ((HF.out.vn.c.nv).below (below_drew wr)) (HOV.out.below (below_drew wr)) HRG.out (by omega) (by omega) (by have := HF.out.b; omega) (by have := HF.out.a; omega)).mono ?_
          rintro e w5 ⟨p', c', rfl, hp5, hc5, hB5, hA5⟩
          obtain ⟨hl5, hv5, hb5⟩ := HF.out.step (t := t) (below_trans (below_drew wr) hB5) hp5 hc5 hA5
          obtain ⟨po5, pc5, co5, cc5, rfl, rfl⟩ := hv5.forms
          have z0 : w5.cell? ⟨N, 0, none⟩ = some (.int .i64 J.n.b) := by rw [blk_cell (blk_below HF.out.vn.blk (below_trans (below_drew wr) hB5))]; rfl
          have z1 : w5.cell? ⟨N, 1, none⟩ = some (.slice po J.n.p.length pc) := by rw [blk_cell (blk_below HF.out.vn.blk (below_trans (below_drew wr) hB5))]; rfl
          have z2 : w5.cell? ⟨N, 2, none⟩ = some (.slice co J.n.c.length cc) := by rw [blk_cell (blk_below HF.out.vn.blk (below_trans (below_drew wr) hB5))]; rfl
          have z3 : w5.cell? ⟨N, 3, none⟩ = some (.int .i64 J.n.a) := by rw [blk_cell (blk_below HF.out.vn.blk (below_trans (below_drew wr) hB5))]; rfl
          have zf0 : w5.frozen? ⟨N, 0, none⟩ = false := blk_soft (blk_below HF.out.vn.blk (below_trans (below_drew wr) hB5)) 0
          have zf1 : w5.frozen? ⟨N, 1, none⟩ = false := blk_soft (blk_below HF.out.vn.blk (below_trans (below_drew wr) hB5)) 1
          have zf2 : w5.frozen? ⟨N, 2, none⟩ = false := blk_soft (blk_below HF.out.vn.blk (below_trans (below_drew wr) hB5)) 2
          have zf3 : w5.frozen? ⟨N, 3, none⟩ = false := blk_soft (blk_below HF.out.vn.blk (below_trans (below_drew wr) hB5)) 3
          clear hp5 hc5 hB5 hA5
          go_simp
          refine hK.out _ _ ?_ (fun hHeld => ?_)
          · exact trivial
          clear hK K
          try simp only [Act.put, List.setIfInBounds_toArray, List.set_cons_zero, List.set_cons_succ]
          refine wpAnyH_ready (rs := [6]) (by kernel_rfl) (by simp) ?_
          refine AllReadyH.cons (o := ⟨none, _, _, _, _, _⟩) rfl (fun K hK => ?_) AllReadyH.nil
          go_simp
          refine hK.out _ _ ?_ (fun hHeld => ?_)
          · exact trivial
          clear hK K
          try simp only [Act.put, List.setIfInBounds_toArray, List.set_cons_zero, List.set_cons_succ]
          refine wpAnyH_done (by kernel_rfl) ?_ _
          refine NoPanic.normal ?_
          go_wp2_with fail
          go_meet
          exact ⟨_, _, _, hl5, hv5, hb5⟩
        · go_simp
          refine hK.out _ _ ?_ (fun hHeld => ?_)
          · exact trivial
          clear hK K
          try simp only [Act.put, List.setIfInBounds_toArray, List.set_cons_zero, List.set_cons_succ]
          refine wpAnyH_ready (rs := [0]) (by kernel_rfl) (by simp) ?_
          refine AllReadyH.cons (o := ⟨some 57, _, _, _, _, _⟩) rfl (fun K hK => ?_) AllReadyH.nil
          go_simp
          refine hK.out _ _ ?_ (fun hHeld => ?_)
          · exact trivial
          clear hK K
          try simp only [Act.put, List.setIfInBounds_toArray, List.set_cons_zero, List.set_cons_succ]
          refine wpAnyH_ready (rs := [5]) (by kernel_rfl) (by simp) ?_
          refine AllReadyH.cons (o := ⟨some 62, _, _, _, _, _⟩) rfl (fun K hK => ?_) AllReadyH.nil
          go_simp
          refine (next_walk (n := J.n) (t := t) (q := p) ((HF.out.vn.p.nv).below (below_drew wr)) ((HF.out.vn.c.nv).below (below_drew wr)) (HOV.out.below (below_drew wr)) HRG.out (by omega) (by omega) (by have := HF.out.b; omega) (by have := HF.out.a; omega)).mono ?_
          rintro e w5 ⟨p', c', rfl, hp5, hc5, hB5, hA5⟩
          obtain ⟨hl5, hv5, hb5⟩ := HF.out.step (t := t) (below_trans (below_drew wr) hB5) hp5 hc5 hA5
          obtain ⟨po5, pc5, co5, cc5, rfl, rfl⟩ := hv5.forms
          have z0 : w5.cell? ⟨N, 0, none⟩ = some (.int .i64 J.n.b) := by rw [blk_cell (blk_below HF.out.vn.blk (below_trans (below_drew wr) hB5))]; rfl
          have z1 : w5.cell? ⟨N, 1, none⟩ = some (.slice po J.n.p.length pc) := by rw [blk_cell (blk_below HF.out.vn.blk (below_trans (below_drew wr) hB5))]; rfl
          have z2 : w5.cell? ⟨N, 2, none⟩ = some (.slice co J.n.c.length cc) := by rw [blk_cell (blk_below HF.out.vn.blk (below_trans (below_drew wr) hB5))]; rfl
          have z3 : w5.cell? ⟨N, 3, none⟩ = some (.int .i64 J.n.a) := by rw [blk_cell (blk_below HF.out.vn.blk (below_trans (below_drew wr) hB5))]; rfl
          have zf0 : w5.frozen? ⟨N, 0, none⟩ = false := blk_soft (blk_below HF.out.vn.blk (below_trans (below_drew wr) hB5)) 0
          have zf1 : w5.frozen? ⟨N, 1, none⟩ = false := blk_soft (blk_below HF.out.vn.blk (below_trans (below_drew wr) hB5)) 1
          have zf2 : w5.frozen? ⟨N, 2, none⟩ = false := blk_soft (blk_below HF.out.vn.blk (below_trans (below_drew wr) hB5)) 2
          have zf3 : w5.frozen? ⟨N, 3, none⟩ = false := blk_soft (blk_below HF.out.vn.blk (below_trans (below_drew wr) hB5)) 3
          clear hp5 hc5 hB5 hA5
          go_simp
          refine hK.out _ _ ?_ (fun hHeld => ?_)
          · exact trivial
          clear hK K
          try simp only [Act.put, List.setIfInBounds_toArray, List.set_cons_zero, List.set_cons_succ]
          refine wpAnyH_ready (rs := [6]) (by kernel_rfl) (by simp) ?_
          refine AllReadyH.cons (o := ⟨none, _, _, _, _, _⟩) rfl (fun K hK => ?_) AllReadyH.nil
          go_simp
          refine hK.out _ _ ?_ (fun hHeld => ?_)
          · exact trivial
          clear hK K
          try simp only [Act.put, List.setIfInBounds_toArray, List.set_cons_zero, List.set_cons_succ]
          refine wpAnyH_done (by kernel_rfl) ?_ _
          refine NoPanic.normal ?_
          go_wp2_with fail
          go_meet
          exact ⟨_, _, _, hl5, hv5, hb5⟩
      case rest =>
        obtain ⟨E, p', c', hL, hV, hE⟩ := hcut
        obtain ⟨po5, pc5, co5, cc5, rfl, rfl⟩ := hV.forms
        obtain ⟨w5, hw5⟩ : ∃ w5, w5 = wc := ⟨_, rfl⟩
        subst hw5
        have HL : Hid (Lw wz E sb jb p J S w5) := hL
        have HV : Hid (Vn E N (.slice po5 (nxtN J.n t).p.length pc5) (.slice co5 (nxtN J.n t).c.length cc5) (nxtN J.n t) w5) := hV
        have HE : Hid (∀ x, E x → wz.heap.size ≤ x) := hE
        have HNB : Hid (-9223372036854775808 ≤ (nxtN J.n t).b ∧ (nxtN J.n t).b < 9223372036854775808) := HF.out.b64 (by omega)
        have HFS : Hid (∀ w4, Lw wz E sb jb p (savJ J S p (nxtN J.n t)) (savS J S p (nxtN J.n t)) w4 → Vn E N (.slice po5 (nxtN J.n t).p.length pc5) (.slice co5 (nxtN J.n t).c.length cc5) (nxtN J.n t) w4 → savI J S p (nxtN J.n t) = 0 ∧ Fit wz E sb jb N p (k + 1) ⟨J.g + 1, nxtN J.n t, 1 - J.h, false⟩ (putS S (1 - J.h) (bytN (J.g + 1) (nxtN J.n t))) (.slice po5 (nxtN J.n t).p.length pc5) (.slice co5 (nxtN J.n t).c.length cc5) w4) := fun w4 h1 h2 => HF.out.saved (by omega) h1 h2 HE.out
        have HW5 : Hid (S.wr < 9223372036854775800) := by have := HF.out.wr; show _ < _; omega
        clear c0 c1 c2 c3 y0 y1 y2 y3 y4
        have c0 : w5.cell? ⟨N, 0, none⟩ = some (.int .i64 (nxtN J.n t).b) := by rw [blk_cell hV.blk]; rfl
        have c1 : w5.cell? ⟨N, 1, none⟩ = some (.slice po5 (nxtN J.n t).p.length pc5) := by rw [blk_cell hV.blk]; rfl
        have c2 : w5.cell? ⟨N, 2, none⟩ = some (.slice co5 (nxtN J.n t).c.length cc5) := by rw [blk_cell hV.blk]; rfl
        have c3 : w5.cell? ⟨N, 3, none⟩ = some (.int .i64 (nxtN J.n t).a) := by rw [blk_cell hV.blk]; rfl
        clear hL hV hE
        go_wp2_with fail
        refine (lw_save (n := nxtN J.n t) HL.out HV.out.p.nv HV.out.c.nv HNB.out HW5.out).mono ?_
        rintro e w6 ⟨he, hL6, hC6⟩
        obtain ⟨h0, hF6⟩ := HFS.out w6 hL6 (HV.out.chA hC6)
        rw [h0] at he
        subst he
        have HF6 := hidH hF6
        clear hL6 hC6 h0 hF6 c0 c1 c2 c3
        go_wp2_with fail
        go_roundw
        case rel => exact ⟨k + 1, by omega, by omega, by go_num, _, _, _, _, _, HF6.out⟩
        case measure => simp [intOf]; omega
    · obtain ⟨Z, hZ⟩ : ∃ Z, Z = madeCells #[Value.int .i64 0] (q * 1) := ⟨_, rfl⟩
      have hmk := make_ints hq4
      rw [← hZ] at hmk
      have HZ : Hid (Z = madeCells #[Value.int .i64 0] (q * 1)) := hZ
      clear hZ
      have r1 : IntKind.i64.wrap (J.n.b + 1) = J.n.b + 1 := wrapU (by have := HF.out.gd.ok.r.b0; omega) (by have := HF.out.gd.ok.r.b1; omega)
      have HNL : Hid (N < wr.heap.size) := blk_lt HF.out.vn.blk
      have m0 : ∀ wx, Below wr.heap.size wr wx → wx.cell? ⟨N, 0, none⟩ = some (.int .i64 J.n.b) := fun wx hb => by rw [hb.cell (p := ⟨N, 0, none⟩) HNL.out, blk_cell HF.out.vn.blk]; rfl
      have m3 : ∀ wx, Below wr.heap.size wr wx → wx.cell? ⟨N, 3, none⟩ = some (.int .i64 J.n.a) := fun wx hb => by rw [hb.cell (p := ⟨N, 3, none⟩) HNL.out, blk_cell HF.out.vn.blk]; rfl
      by_cases hk1 : k < ts.length
      · have hk1i : (k : Int) < (ts.length : Int) := by omega
        have hk2i : ¬ (k : Int) < 60 := by omega
        go_wp2_with fail
        go_cut [15] (fun mv wx => ∃ M, mv = .pointer (some ⟨M, 0, none⟩) ∧ M0 wr q (J.n.b + 1) J.n.a M wx)
        case first =>
          refine wp_region_noPanic ?_
          refine wp_region_held_drew (S := fun wx => Below wr.heap.size wr wx) (by kernel_rfl) ?_ (fun hHeld => ?_)
          · exact (below_drew wr)
          refine wpAnyH_take (i := 0) (oi := ⟨some 67, _, _, _, _, _⟩) (v := ?_) rfl (by kernel_rfl) (by kernel_rfl) (by kernel_rfl) (fun _ _ _ h => h) (Or.inl ⟨by rfl, ?_⟩) hHeld ?_
          rotate_left
          · intro w hSw; (try dsimp only at hSw); go_simp; all_goals (with_reducible rfl)
          try simp only [Act.put, List.setIfInBounds_toArray, List.set_cons_zero, List.set_cons_succ]
          refine wpAnyH_take (i := 1) (oi := ⟨some 68, _, _, _, _, _⟩) (v := ?_) rfl (by kernel_rfl) (by kernel_rfl) (by kernel_rfl) (fun _ _ _ h => h) (Or.inl ⟨by rfl, ?_⟩) hHeld ?_
          rotate_left
          · intro w hSw; (try dsimp only at hSw); go_simp; all_goals (with_reducible rfl)
          try simp only [Act.put, List.setIfInBounds_toArray, List.set_cons_zero, List.set_cons_succ]
          refine wpAnyH_take (i := 2) (oi := ⟨some 69, _, _, _, _, _⟩) (v := ?_) rfl (by kernel_rfl) (by kernel_rfl) (by kernel_rfl) (fun _ _ _ h => h) (Or.inl ⟨by rfl, ?_⟩) hHeld ?_
          rotate_left
          · intro w hSw; (try dsimp only at hSw); go_simp; all_goals (with_reducible rfl)
          try simp only [Act.put, List.setIfInBounds_toArray, List.set_cons_zero, List.set_cons_succ]
          refine wpAnyH_take (i := 3) (oi := ⟨some 70, _, _, _, _, _⟩) (v := ?_) rfl (by kernel_rfl) (by kernel_rfl) (by kernel_rfl) (fun _ _ _ h => h) (Or.inl ⟨by rfl, ?_⟩) hHeld ?_
          rotate_left
          · intro w hSw; (try dsimp only at hSw); go_simp; all_goals (with_reducible rfl)
          try simp only [Act.put, List.setIfInBounds_toArray, List.set_cons_zero, List.set_cons_succ]
          refine wpAnyH_take (i := 4) (oi := ⟨some 71, _, _, _, _, _⟩) (v := ?_) rfl (by kernel_rfl) (by kernel_rfl) (by kernel_rfl) (fun _ _ _ h => h) (Or.inl ⟨by rfl, ?_⟩) hHeld ?_
          rotate_left
          · intro w hSw; (try dsimp only at hSw); go_simp; all_goals (with_reducible rfl)
          try simp only [Act.put, List.setIfInBounds_toArray, List.set_cons_zero, List.set_cons_succ]
          refine wpAnyH_take (i := 6) (oi := ⟨some 73, _, _, _, _, _⟩) (v := ?_) rfl (by kernel_rfl) (by kernel_rfl) (by kernel_rfl) (fun _ _ _ h => h) (Or.inl ⟨by rfl, ?_⟩) hHeld ?_
          rotate_left
          · intro w hSw; (try dsimp only at hSw); go_simp; all_goals (with_reducible rfl)
          try simp only [Act.put, List.setIfInBounds_toArray, List.set_cons_zero, List.set_cons_succ]
          refine wpAnyH_take (i := 9) (oi := ⟨some 76, _, _, _, _, _⟩) (v := ?_) rfl (by kernel_rfl) (by kernel_rfl) (by kernel_rfl) (fun _ _ _ h => h) (Or.inl ⟨by rfl, ?_⟩) hHeld ?_
          rotate_left
          · intro w hSw; (try dsimp only at hSw); go_simp; all_goals (with_reducible rfl)
          try simp only [Act.put, List.setIfInBounds_toArray, List.set_cons_zero, List.set_cons_succ]
          refine wpAnyH_take (i := 10) (oi := ⟨some 77, _, _, _, _, _⟩) (v := ?_) rfl (by kernel_rfl) (by kernel_rfl) (by kernel_rfl) (fun _ _ _ h => h) (Or.inl ⟨by rfl, ?_⟩) hHeld ?_
          rotate_left
          · intro w hSw; (try dsimp only at hSw); go_simp; all_goals (with_reducible rfl)
          try simp only [Act.put, List.setIfInBounds_toArray, List.set_cons_zero, List.set_cons_succ]
          refine wpAnyH_ready (rs := [5, 7, 12]) (by kernel_rfl) (by simp) ?_
          refine AllReadyH.cons (o := ⟨some 72, _, _, _, _, _⟩) rfl (fun K hK => ?_) (AllReadyH.cons (o := ⟨some 74, _, _, _, _, _⟩) rfl (fun K hK => ?_) (AllReadyH.cons (o := ⟨some 15, _, _, _, _, _⟩) rfl (fun K hK => ?_) AllReadyH.nil))
          · go_simp
            refine hK.out _ _ ?_ (fun hHeld => ?_)
            · exact (by first | exact hHeld.alloc hHeld.size _ | exact (below_alloc _ _).drew)
            clear hK K
            try simp only [Act.put, List.setIfInBounds_toArray, List.set_cons_zero, List.set_cons_succ]
            refine wpAnyH_ready (rs := [7, 12]) (by kernel_rfl) (by simp) ?_
            refine AllReadyH.cons (o := ⟨some 74, _, _, _, _, _⟩) rfl (fun K hK => ?_) (AllReadyH.cons (o := ⟨some 15, _, _, _, _, _⟩) rfl (fun K hK => ?_) AllReadyH.nil)
            · go_simp
              refine hK.out _ _ ?_ (fun hHeld => ?_)
              · exact (by first | exact hHeld.alloc hHeld.size _ | exact (below_alloc _ _).drew)
              clear hK K
              try simp only [Act.put, List.setIfInBounds_toArray, List.set_cons_zero, List.set_cons_succ]
              refine wpAnyH_take (i := 8) (oi := ⟨some 75, _, _, _, _, _⟩) (v := ?_) rfl (by kernel_rfl) (by kernel_rfl) (by kernel_rfl) (fun _ _ _ h => h) (Or.inl ⟨by rfl, ?_⟩) hHeld ?_
              rotate_left
              · intro w hSw; (try dsimp only at hSw); go_simp; all_goals (with_reducible rfl)
              try simp only [Act.put, List.setIfInBounds_toArray, List.set_cons_zero, List.set_cons_succ]
              refine wpAnyH_take (i := 11) (oi := ⟨some 78, _, _, _, _, _⟩) (v := ?_) rfl (by kernel_rfl) (by kernel_rfl) (by kernel_rfl) (fun _ _ _ h => h) (Or.inl ⟨by rfl, ?_⟩) hHeld ?_
              rotate_left
              · intro w hSw; (try dsimp only at hSw); go_simp; all_goals (with_reducible rfl)
              try simp only [Act.put, List.setIfInBounds_toArray, List.set_cons_zero, List.set_cons_succ]
              refine wpAnyH_ready (rs := [12]) (by kernel_rfl) (by simp) ?_
              refine AllReadyH.cons (o := ⟨some 15, _, _, _, _, _⟩) rfl (fun K hK => ?_) AllReadyH.nil
              go_simp
              refine hK.out _ _ ?_ (fun hHeld => ?_)
              · exact (by first | exact hHeld.alloc hHeld.size _ | exact (below_alloc _ _).drew)
              clear hK K
              try simp only [Act.put, List.setIfInBounds_toArray, List.set_cons_zero, List.set_cons_succ]
              refine wpAnyH_ready (rs := [13]) (by kernel_rfl) (by simp) ?_
              refine AllReadyH.cons (o := ⟨none, _, _, _, _, _⟩) rfl (fun K hK => ?_) AllReadyH.nil
              go_simp
              refine hK.out _ _ ?_ (fun hHeld => ?_)
              · exact (by first | exact below3 _ _ _ _)
              clear hK K
              try simp only [Act.put, List.setIfInBounds_toArray, List.set_cons_zero, List.set_cons_succ]
              refine wpAnyH_done (by kernel_rfl) ?_ _
              refine NoPanic.normal ?_
              go_wp2_with fail
              go_meet
              refine ⟨_, rfl, ?_⟩
              first
                | exact m0_of HZ.out hq4 (below3 _ _ _ _) (heap3 wr _ _ _).2.2 (heap3 wr _ _ _).1 (heap3 wr _ _ _).2.1 (by omega) (by omega) (by omega)
                | exact m0_of HZ.out hq4 (below3 _ _ _ _) (heap3 wr _ _ _).2.1 (heap3 wr _ _ _).1 (heap3 wr _ _ _).2.2 (by omega) (by omega) (by omega)
                | exact m0_of HZ.out hq4 (below3 _ _ _ _) (heap3 wr _ _ _).2.2 (heap3 wr _ _ _).2.1 (heap3 wr _ _ _).1 (by omega) (by omega) (by omega)
                | exact m0_of HZ.out hq4 (below3 _ _ _ _) (heap3 wr _ _ _).2.1 (heap3 wr _ _ _).2.2 (heap3 wr _ _ _).1 (by omega) (by omega) (by omega)
                | exact m0_of HZ.out hq4 (below3 _ _ _ _) (heap3 wr _ _ _).1 (heap3 wr _ _ _).2.1 (heap3 wr _ _ _).2.2 (by omega) (by omega) (by omega)
                | exact m0_of HZ.out hq4 (below3 _ _ _ _) (heap3 wr _ _ _).1 (heap3 wr _ _ _).2.2 (heap3 wr _ _ _).2.1 (by omega) (by omega) (by omega)
            · go_simp
              refine hK.out _ _ ?_ (fun hHeld => ?_)
              · exact (by first | exact hHeld.alloc hHeld.size _ | exact (below_alloc _ _).drew)
              clear hK K
              try simp only [Act.put, List.setIfInBounds_toArray, List.set_cons_zero, List.set_cons_succ]
              refine wpAnyH_ready (rs := [7]) (by kernel_rfl) (by simp) ?_
              refine AllReadyH.cons (o := ⟨some 74, _, _, _, _, _⟩) rfl (fun K hK => ?_) AllReadyH.nil
              go_simp
              refine hK.out _ _ ?_ (fun hHeld => ?_)
              · exact (by first | exact hHeld.alloc hHeld.size _ | exact (below_alloc _ _).drew)
              clear hK K
              try simp only [Act.put, List.setIfInBounds_toArray, List.set_cons_zero, List.set_cons_succ]
              refine wpAnyH_take (i := 8) (oi := ⟨some 75, _, _, _, _, _⟩) (v := ?_) rfl (by kernel_rfl) (by kernel_rfl) (by kernel_rfl) (fun _ _ _ h => h) (Or.inl ⟨by rfl, ?_⟩) hHeld ?_
              rotate_left
              · intro w hSw; (try dsimp only at hSw); go_simp; all_goals (with_reducible rfl)
              try simp only [Act.put, List.setIfInBounds_toArray, List.set_cons_zero, List.set_cons_succ]
              refine wpAnyH_take (i := 11) (oi := ⟨some 78, _, _, _, _, _⟩) (v := ?_) rfl (by kernel_rfl) (by kernel_rfl) (by kernel_rfl) (fun _ _ _ h => h) (Or.inl ⟨by rfl, ?_⟩) hHeld ?_
              rotate_left
              · intro w hSw; (try dsimp only at hSw); go_simp; all_goals (with_reducible rfl)
              try simp only [Act.put, List.setIfInBounds_toArray, List.set_cons_zero, List.set_cons_succ]
              refine wpAnyH_ready (rs := [13]) (by kernel_rfl) (by simp) ?_
              refine AllReadyH.cons (o := ⟨none, _, _, _, _, _⟩) rfl (fun K hK => ?_) AllReadyH.nil
              go_simp
              refine hK.out _ _ ?_ (fun hHeld => ?_)
              · exact (by first | exact below3 _ _ _ _)
              clear hK K
              try simp only [Act.put, List.setIfInBounds_toArray, List.set_cons_zero, List.set_cons_succ]
              refine wpAnyH_done (by kernel_rfl) ?_ _
              refine NoPanic.normal ?_
              go_wp2_with fail
              go_meet
              refine ⟨_, rfl, ?_⟩
              first
                | exact m0_of HZ.out hq4 (below3 _ _ _ _) (heap3 wr _ _ _).2.2 (heap3 wr _ _ _).1 (heap3 wr _ _ _).2.1 (by omega) (by omega) (by omega)
                | exact m0_of HZ.out hq4 (below3 _ _ _ _) (heap3 wr _ _ _).2.1 (heap3 wr _ _ _).1 (heap3 wr _ _ _).2.2 (by omega) (by omega) (by omega)
                | exact m0_of HZ.out hq4 (below3 _ _ _ _) (heap3 wr _ _ _).2.2 (heap3 wr _ _ _).2.1 (heap3 wr _ _ _).1 (by omega) (by omega) (by omega)
                | exact m0_of HZ.out hq4 (below3 _ _ _ _) (heap3 wr _ _ _).2.1 (heap3 wr _ _ _).2.2 (heap3 wr _ _ _).1 (by omega) (by omega) (by omega)
                | exact m0_of HZ.out hq4 (below3 _ _ _ _) (heap3 wr _ _ _).1 (heap3 wr _ _ _).2.1 (heap3 wr _ _ _).2.2 (by omega) (by omega) (by omega)
                | exact m0_of HZ.out hq4 (below3 _ _ _ _) (heap3 wr _ _ _).1 (heap3 wr _ _ _).2.2 (heap3 wr _ _ _).2.1 (by omega) (by omega) (by omega)
          · go_simp
            refine hK.out _ _ ?_ (fun hHeld => ?_)
            · exact (by first | exact hHeld.alloc hHeld.size _ | exact (below_alloc _ _).drew)
            clear hK K
            try simp only [Act.put, List.setIfInBounds_toArray, List.set_cons_zero, List.set_cons_succ]
            refine wpAnyH_ready (rs := [5, 12]) (by kernel_rfl) (by simp) ?_
            refine AllReadyH.cons (o := ⟨some 72, _, _, _, _, _⟩) rfl (fun K hK => ?_) (AllReadyH.cons (o := ⟨some 15, _, _, _, _, _⟩) rfl (fun K hK => ?_) AllReadyH.nil)
            · go_simp
              refine hK.out _ _ ?_ (fun hHeld => ?_)
              · exact (by first | exact hHeld.alloc hHeld.size _ | exact (below_alloc _ _).drew)
              clear hK K
              try simp only [Act.put, List.setIfInBounds_toArray, List.set_cons_zero, List.set_cons_succ]
              refine wpAnyH_take (i := 8) (oi := ⟨some 75, _, _, _, _, _⟩) (v := ?_) rfl (by kernel_rfl) (by kernel_rfl) (by kernel_rfl) (fun _ _ _ h => h) (Or.inl ⟨by rfl, ?_⟩) hHeld ?_
              rotate_left
              · intro w hSw; (try dsimp only at hSw); go_simp; all_goals (with_reducible rfl)
              try simp only [Act.put, List.setIfInBounds_toArray, List.set_cons_zero, List.set_cons_succ]
              refine wpAnyH_take (i := 11) (oi := ⟨some 78, _, _, _, _, _⟩) (v := ?_) rfl (by kernel_rfl) (by kernel_rfl) (by kernel_rfl) (fun _ _ _ h => h) (Or.inl ⟨by rfl, ?_⟩) hHeld ?_
              rotate_left
              · intro w hSw; (try dsimp only at hSw); go_simp; all_goals (with_reducible rfl)
              try simp only [Act.put, List.setIfInBounds_toArray, List.set_cons_zero, List.set_cons_succ]
              refine wpAnyH_ready (rs := [12]) (by kernel_rfl) (by simp) ?_
              refine AllReadyH.cons (o := ⟨some 15, _, _, _, _, _⟩) rfl (fun K hK => ?_) AllReadyH.nil
              go_simp
              refine hK.out _ _ ?_ (fun hHeld => ?_)
              · exact (by first | exact hHeld.alloc hHeld.size _ | exact (below_alloc _ _).drew)
              clear hK K
              try simp only [Act.put, List.setIfInBounds_toArray, List.set_cons_zero, List.set_cons_succ]
              refine wpAnyH_ready (rs := [13]) (by kernel_rfl) (by simp) ?_
              refine AllReadyH.cons (o := ⟨none, _, _, _, _, _⟩) rfl (fun K hK => ?_) AllReadyH.nil
              go_simp
              refine hK.out _ _ ?_ (fun hHeld => ?_)
              · exact (by first | exact below3 _ _ _ _)
              clear hK K
              try simp only [Act.put, List.setIfInBounds_toArray, List.set_cons_zero, List.set_cons_succ]
              refine wpAnyH_done (by kernel_rfl) ?_ _
              refine NoPanic.normal ?_
              go_wp2_with fail
              go_meet
              refine ⟨_, rfl, ?_⟩
              first
                | exact m0_of HZ.out hq4 (below3 _ _ _ _) (heap3 wr _ _ _).2.2 (heap3 wr _ _ _).1 (heap3 wr _ _ _).2.1 (by omega) (by omega) (by omega)
                | exact m0_of HZ.out hq4 (below3 _ _ _ _) (heap3 wr _ _ _).2.1 (heap3 wr _ _ _).1 (heap3 wr _ _ _).2.2 (by omega) (by omega) (by omega)
                | exact m0_of HZ.out hq4 (below3 _ _ _ _) (heap3 wr _ _ _).2.2 (heap3 wr _ _ _).2.1 (heap3 wr _ _ _).1 (by omega) (by omega) (by omega)
                | exact m0_of HZ.out hq4 (below3 _ _ _ _) (heap3 wr _ _ _).2.1 (heap3 wr _ _ _).2.2 (heap3 wr _ _ _).1 (by omega) (by omega) (by omega)
                | exact m0_of HZ.out hq4 (below3 _ _ _ _) (heap3 wr _ _ _).1 (heap3 wr _ _ _).2.1 (heap3 wr _ _ _).2.2 (by omega) (by omega) (by omega)
                | exact m0_of HZ.out hq4 (below3 _ _ _ _) (heap3 wr _ _ _).1 (heap3 wr _ _ _).2.2 (heap3 wr _ _ _).2.1 (by omega) (by omega) (by omega)
            · go_simp
              refine hK.out _ _ ?_ (fun hHeld => ?_)
              · exact (by first | exact hHeld.alloc hHeld.size _ | exact (below_alloc _ _).drew)
              clear hK K
              try simp only [Act.put, List.setIfInBounds_toArray, List.set_cons_zero, List.set_cons_succ]
              refine wpAnyH_ready (rs := [5]) (by kernel_rfl) (by simp) ?_
              refine AllReadyH.cons (o := ⟨some 72, _, _, _, _, _⟩) rfl (fun K hK => ?_) AllReadyH.nil
              go_simp
              refine hK.out _ _ ?_ (fun hHeld => ?_)
              · exact (by first | exact hHeld.alloc hHeld.size _ | exact (below_alloc _ _).drew)
              clear hK K
              try simp only [Act.put, List.setIfInBounds_toArray, List.set_cons_zero, List.set_cons_succ]
              refine wpAnyH_take (i := 8) (oi := ⟨some 75, _, _, _, _, _⟩) (v := ?_) rfl (by kernel_rfl) (by kernel_rfl) (by kernel_rfl) (fun _ _ _ h => h) (Or.inl ⟨by rfl, ?_⟩) hHeld ?_
              rotate_left
              · intro w hSw; (try dsimp only at hSw); go_simp; all_goals (with_reducible rfl)
              try simp only [Act.put, List.setIfInBounds_toArray, List.set_cons_zero, List.set_cons_succ]
              refine wpAnyH_take (i := 11) (oi := ⟨some 78, _, _, _, _, _⟩) (v := ?_) rfl (by kernel_rfl) (by kernel_rfl) (by kernel_rfl) (fun _ _ _ h => h) (Or.inl ⟨by rfl, ?_⟩) hHeld ?_
              rotate_left
              · intro w hSw; (try dsimp only at hSw); go_simp; all_goals (with_reducible rfl)
              try simp only [Act.put, List.setIfInBounds_toArray, List.set_cons_zero, List.set_cons_succ]
              refine wpAnyH_ready (rs := [13]) (by kernel_rfl) (by simp) ?_
              refine AllReadyH.cons (o := ⟨none, _, _, _, _, _⟩) rfl (fun K hK => ?_) AllReadyH.nil
              go_simp
              refine hK.out _ _ ?_ (fun hHeld => ?_)
              · exact (by first | exact below3 _ _ _ _)
              clear hK K
              try simp only [Act.put, List.setIfInBounds_toArray, List.set_cons_zero, List.set_cons_succ]
              refine wpAnyH_done (by kernel_rfl) ?_ _
              refine NoPanic.normal ?_
              go_wp2_with fail
              go_meet
              refine ⟨_, rfl, ?_⟩
              first
                | exact m0_of HZ.out hq4 (below3 _ _ _ _) (heap3 wr _ _ _).2.2 (heap3 wr _ _ _).1 (heap3 wr _ _ _).2.1 (by omega) (by omega) (by omega)
                | exact m0_of HZ.out hq4 (below3 _ _ _ _) (heap3 wr _ _ _).2.1 (heap3 wr _ _ _).1 (heap3 wr _ _ _).2.2 (by omega) (by omega) (by omega)
                | exact m0_of HZ.out hq4 (below3 _ _ _ _) (heap3 wr _ _ _).2.2 (heap3 wr _ _ _).2.1 (heap3 wr _ _ _).1 (by omega) (by omega) (by omega)
                | exact m0_of HZ.out hq4 (below3 _ _ _ _) (heap3 wr _ _ _).2.1 (heap3 wr _ _ _).2.2 (heap3 wr _ _ _).1 (by omega) (by omega) (by omega)
                | exact m0_of HZ.out hq4 (below3 _ _ _ _) (heap3 wr _ _ _).1 (heap3 wr _ _ _).2.1 (heap3 wr _ _ _).2.2 (by omega) (by omega) (by omega)
                | exact m0_of HZ.out hq4 (below3 _ _ _ _) (heap3 wr _ _ _).1 (heap3 wr _ _ _).2.2 (heap3 wr _ _ _).2.1 (by omega) (by omega) (by omega)
          · go_simp
            refine hK.out _ _ ?_ (fun hHeld => ?_)
            · exact (by first | exact hHeld.alloc hHeld.size _ | exact (below_alloc _ _).drew)
            clear hK K
            try simp only [Act.put, List.setIfInBounds_toArray, List.set_cons_zero, List.set_cons_succ]
            refine wpAnyH_ready (rs := [5, 7]) (by kernel_rfl) (by simp) ?_
            refine AllReadyH.cons (o := ⟨some 72, _, _, _, _, _⟩) rfl (fun K hK => ?_) (AllReadyH.cons (o := ⟨some 74, _, _, _, _, _⟩) rfl (fun K hK => ?_) AllReadyH.nil)
            · go_simp
              refine hK.out _ _ ?_ (fun hHeld => ?_)
              · exact (by first | exact hHeld.alloc hHeld.size _ | exact (below_alloc _ _).drew)
              clear hK K
              try simp only [Act.put, List.setIfInBounds_toArray, List.set_cons_zero, List.set_cons_succ]
              refine wpAnyH_ready (rs := [7]) (by kernel_rfl) (by simp) ?_
              refine AllReadyH.cons (o := ⟨some 74, _, _, _, _, _⟩) rfl (fun K hK => ?_) AllReadyH.nil
              go_simp
              refine hK.out _ _ ?_ (fun hHeld => ?_)
              · exact (by first | exact hHeld.alloc hHeld.size _ | exact (below_alloc _ _).drew)
              clear hK K
              try simp only [Act.put, List.setIfInBounds_toArray, List.set_cons_zero, List.set_cons_succ]
              refine wpAnyH_take (i := 8) (oi := ⟨some 75, _, _, _, _, _⟩) (v := ?_) rfl (by kernel_rfl) (by kernel_rfl) (by kernel_rfl) (fun _ _ _ h => h) (Or.inl ⟨by rfl, ?_⟩) hHeld ?_
              rotate_left
              · intro w hSw; (try dsimp only at hSw); go_simp; all_goals (with_reducible rfl)
              try simp only [Act.put, List.setIfInBounds_toArray, List.set_cons_zero, List.set_cons_succ]
              refine wpAnyH_take (i := 11) (oi := ⟨some 78, _, _, _, _, _⟩) (v := ?_) rfl (by kernel_rfl) (by kernel_rfl) (by kernel_rfl) (fun _ _ _ h => h) (Or.inl ⟨by rfl, ?_⟩) hHeld ?_
              rotate_left
              · intro w hSw; (try dsimp only at hSw); go_simp; all_goals (with_reducible rfl)
              try simp only [Act.put, List.setIfInBounds_toArray, List.set_cons_zero, List.set_cons_succ]
              refine wpAnyH_ready (rs := [13]) (by kernel_rfl) (by simp) ?_
              refine AllReadyH.cons (o := ⟨none, _, _, _, _, _⟩) rfl (fun K hK => ?_) AllReadyH.nil
              go_simp
              refine hK.out _ _ ?_ (fun hHeld => ?_)
              · exact (by first | exact below3 _ _ _ _)
              clear hK K
              try simp only [Act.put, List.setIfInBounds_toArray, List.set_cons_zero, List.set_cons_succ]
              refine wpAnyH_done (by kernel_rfl) ?_ _
              refine NoPanic.normal ?_
              go_wp2_with fail
              go_meet
              refine ⟨_, rfl, ?_⟩
              first
                | exact m0_of HZ.out hq4 (below3 _ _ _ _) (heap3 wr _ _ _).2.2 (heap3 wr _ _ _).1 (heap3 wr _ _ _).2.1 (by omega) (by omega) (by omega)
                | exact m0_of HZ.out hq4 (below3 _ _ _ _) (heap3 wr _ _ _).2.1 (heap3 wr _ _ _).1 (heap3 wr _ _ _).2.2 (by omega) (by omega) (by omega)
                | exact m0_of HZ.out hq4 (below3 _ _ _ _) (heap3 wr _ _ _).2.2 (heap3 wr _ _ _).2.1 (heap3 wr _ _ _).1 (by omega) (by omega) (by omega)
                | exact m0_of HZ.out hq4 (below3 _ _ _ _) (heap3 wr _ _ _).2.1 (heap3 wr _ _ _).2.2 (heap3 wr _ _ _).1 (by omega) (by omega) (by omega)
                | exact m0_of HZ.out hq4 (below3 _ _ _ _) (heap3 wr _ _ _).1 (heap3 wr _ _ _).2.1 (heap3 wr _ _ _).2.2 (by omega) (by omega) (by omega)
                | exact m0_of HZ.out hq4 (below3 _ _ _ _) (heap3 wr _ _ _).1 (heap3 wr _ _ _).2.2 (heap3 wr _ _ _).2.1 (by omega) (by omega) (by omega)
            · go_simp
              refine hK.out _ _ ?_ (fun hHeld => ?_)
              · exact (by first | exact hHeld.alloc hHeld.size _ | exact (below_alloc _ _).drew)
              clear hK K
              try simp only [Act.put, List.setIfInBounds_toArray, List.set_cons_zero, List.set_cons_succ]
              refine wpAnyH_ready (rs := [5]) (by kernel_rfl) (by simp) ?_
              refine AllReadyH.cons (o := ⟨some 72, _, _, _, _, _⟩) rfl (fun K hK => ?_) AllReadyH.nil
              go_simp
              refine hK.out _ _ ?_ (fun hHeld => ?_)
              · exact (by first | exact hHeld.alloc hHeld.size _ | exact (below_alloc _ _).drew)
              clear hK K
              try simp only [Act.put, List.setIfInBounds_toArray, List.set_cons_zero, List.set_cons_succ]
              refine wpAnyH_take (i := 8) (oi := ⟨some 75, _, _, _, _, _⟩) (v := ?_) rfl (by kernel_rfl) (by kernel_rfl) (by kernel_rfl) (fun _ _ _ h => h) (Or.inl ⟨by rfl, ?_⟩) hHeld ?_
              rotate_left
              · intro w hSw; (try dsimp only at hSw); go_simp; all_goals (with_reducible rfl)
              try simp only [Act.put, List.setIfInBounds_toArray, List.set_cons_zero, List.set_cons_succ]
              refine wpAnyH_take (i := 11) (oi := ⟨some 78, _, _, _, _, _⟩) (v := ?_) rfl (by kernel_rfl) (by kernel_rfl) (by kernel_rfl) (fun _ _ _ h => h) (Or.inl ⟨by rfl, ?_⟩) hHeld ?_
              rotate_left
              · intro w hSw; (try dsimp only at hSw); go_simp; all_goals (with_reducible rfl)
              try simp only [Act.put, List.setIfInBounds_toArray, List.set_cons_zero, List.set_cons_succ]
              refine wpAnyH_ready (rs := [13]) (by kernel_rfl) (by simp) ?_
              refine AllReadyH.cons (o := ⟨none, _, _, _, _, _⟩) rfl (fun K hK => ?_) AllReadyH.nil
              go_simp
              refine hK.out _ _ ?_ (fun hHeld => ?_)
              · exact (by first | exact below3 _ _ _ _)
              clear hK K
              try simp only [Act.put, List.setIfInBounds_toArray, List.set_cons_zero, List.set_cons_succ]
              refine wpAnyH_done (by kernel_rfl) ?_ _
              refine NoPanic.normal ?_
              go_wp2_with fail
              go_meet
              refine ⟨_, rfl, ?_⟩
              first
                | exact m0_of HZ.out hq4 (below3 _ _ _ _) (heap3 wr _ _ _).2.2 (heap3 wr _ _ _).1 (heap3 wr _ _ _).2.1 (by omega) (by omega) (by omega)
                | exact m0_of HZ.out hq4 (below3 _ _ _ _) (heap3 wr _ _ _).2.1 (heap3 wr _ _ _).1 (heap3 wr _ _ _).2.2 (by omega) (by omega) (by omega)
                | exact m0_of HZ.out hq4 (below3 _ _ _ _) (heap3 wr _ _ _).2.2 (heap3 wr _ _ _).2.1 (heap3 wr _ _ _).1 (by omega) (by omega) (by omega)
                | exact m0_of HZ.out hq4 (below3 _ _ _ _) (heap3 wr _ _ _).2.1 (heap3 wr _ _ _).2.2 (heap3 wr _ _ _).1 (by omega) (by omega) (by omega)
                | exact m0_of HZ.out hq4 (below3 _ _ _ _) (heap3 wr _ _ _).1 (heap3 wr _ _ _).2.1 (heap3 wr _ _ _).2.2 (by omega) (by omega) (by omega)
                | exact m0_of HZ.out hq4 (below3 _ _ _ _) (heap3 wr _ _ _).1 (heap3 wr _ _ _).2.2 (heap3 wr _ _ _).2.1 (by omega) (by omega) (by omega)
        case rest =>
          obtain ⟨M, rfl, P, C, hM, hoP, hoC, hMb, hB7⟩ := hcut
          obtain ⟨w7, hw7⟩ : ∃ w7, w7 = wc := ⟨_, rfl⟩
          subst hw7
          have HL7 : Hid (Lw wz (fun x => A x ∨ (wr.heap.size ≤ x ∧ x < w7.heap.size)) sb jb p J S w7) := HF.out.lw.more hB7
          have HV7 : Hid (Vn (fun x => A x ∨ (wr.heap.size ≤ x ∧ x < w7.heap.size)) N (.slice po J.n.p.length pc) (.slice co J.n.c.length cc) J.n w7) := (HF.out.vn.below hB7).mono (fun x hx => .inl hx)
          have HM : Hid (w7.heap[M]? = some (.cells #[.int .i64 (J.n.b + 1), .slice (some ⟨P, 0, none⟩) q q, .slice (some ⟨C, 0, none⟩) q q, .int .i64 J.n.a] 41 (0, 0))) := hM
          have HKP : Hid (Kl (fun x => A x ∨ (wr.heap.size ≤ x ∧ x < w7.heap.size)) w7 (.slice (some ⟨P, 0, none⟩) q q) (zeros q)) := ⟨own_nv hoP (zeros_in64 q), own_inA hoP fun x h1 h2 => .inr ⟨h1, h2⟩⟩
          have HKC : Hid (Kl (fun x => A x ∨ (wr.heap.size ≤ x ∧ x < w7.heap.size)) w7 (.slice (some ⟨C, 0, none⟩) q q) (zeros q)) := ⟨own_nv hoC (zeros_in64 q), own_inA hoC fun x h1 h2 => .inr ⟨h1, h2⟩⟩
          have HMA : Hid (wr.heap.size ≤ M ∧ M < w7.heap.size) := ⟨hMb, blk_lt hM⟩
          have HB7 : Hid (Below wr.heap.size wr w7) := hB7
          clear hM hoP hoC hMb hB7 m0 m3 hmk r1
          go_wp2_with fail
          refine (lw_open HL7.out q (by have := HF.out.rd; omega)).mono ?_
          rintro e w8 ⟨hC8, hOp⟩
          have HV8 : Hid (Vn (fun x => A x ∨ (wr.heap.size ≤ x ∧ x < w7.heap.size)) N (.slice po J.n.p.length pc) (.slice co J.n.c.length cc) J.n w8) := HV7.out.chA hC8
          have HC8 : Hid (ChA wz (fun x => A x ∨ (wr.heap.size ≤ x ∧ x < w7.heap.size)) w7 w8) := hC8
          have HNC : Hid (∀ wx, ChA wz (fun x => A x ∨ (wr.heap.size ≤ x ∧ x < w7.heap.size)) w8 wx → wx.cell? ⟨N, 0, none⟩ = some (.int .i64 J.n.b) ∧ wx.cell? ⟨N, 1, none⟩ = some (.slice po J.n.p.length pc) ∧ wx.cell? ⟨N, 2, none⟩ = some (.slice co J.n.c.length cc) ∧ wx.cell? ⟨N, 3, none⟩ = some (.int .i64 J.n.a)) := fun wx hc => by
            have hb := (HV8.out.chA hc).blk
            exact ⟨by rw [blk_cell hb]; rfl, by rw [blk_cell hb]; rfl, by rw [blk_cell hb]; rfl, by rw [blk_cell hb]; rfl⟩
          by_cases hpq : p = q
          · subst hpq
            obtain ⟨o1, o2⟩ := HF.out.gd.opn (by omega)
            rcases hOp with ⟨hne, _⟩ | ⟨h', g', n', jb', _, hop, rfl, hL8⟩
            · exact absurd o1 hne
            rw [HF.out.gd.found] at hop
            simp only [Option.some.injEq, Prod.mk.injEq] at hop
            obtain ⟨rfl, rfl, rfl⟩ := hop
            have HL8 := hidH hL8
            have hpp : ((p : Int) == (p : Int)) = true := by simp
            clear hL8 hC8 o1 o2
            go_wp2_with fail
            refine wp_region_noPanic ?_
            refine wp_region_held_drew (S := fun wx => wx.cell? ⟨N, 0, none⟩ = some (.int .i64 J.n.b) ∧ wx.cell? ⟨N, 1, none⟩ = some (.slice po J.n.p.length pc) ∧ wx.cell? ⟨N, 2, none⟩ = some (.slice co J.n.c.length cc) ∧ wx.cell? ⟨N, 3, none⟩ = some (.int .i64 J.n.a)) (by kernel_rfl) ?_ (fun hHeld => ?_)
            · exact (HNC.out _ (Ch.of_below (below_drewN w8 1)))
            refine wpAnyH_take (i := 0) (oi := ⟨some 88, _, _, _, _, _⟩) (v := ?_) rfl (by kernel_rfl) (by kernel_rfl) (by kernel_rfl) (fun _ _ _ h => h) (Or.inl ⟨by rfl, ?_⟩) hHeld ?_
            rotate_left
            · intro w hSw; (try dsimp only at hSw); go_simp; all_goals (with_reducible rfl)
            try simp only [Act.put, List.setIfInBounds_toArray, List.set_cons_zero, List.set_cons_succ]
            refine wpAnyH_take (i := 1) (oi := ⟨some 89, _, _, _, _, _⟩) (v := ?_) rfl (by kernel_rfl) (by kernel_rfl) (by kernel_rfl) (fun _ _ _ h => h) (Or.inl ⟨by rfl, ?_⟩) hHeld ?_
            rotate_left
            · intro w hSw; (try dsimp only at hSw); go_simp; all_goals (with_reducible rfl)
            try simp only [Act.put, List.setIfInBounds_toArray, List.set_cons_zero, List.set_cons_succ]
            refine wpAnyH_take (i := 2) (oi := ⟨some 90, _, _, _, _, _⟩) (v := ?_) rfl (by kernel_rfl) (by kernel_rfl) (by kernel_rfl) (fun _ _ _ h => h) (Or.inl ⟨by rfl, ?_⟩) hHeld ?_
            rotate_left
            · intro w hSw; (try dsimp only at hSw); go_simp; all_goals (with_reducible rfl)
            try simp only [Act.put, List.setIfInBounds_toArray, List.set_cons_zero, List.set_cons_succ]
            refine wpAnyH_take (i := 3) (oi := ⟨some 91, _, _, _, _, _⟩) (v := ?_) rfl (by kernel_rfl) (by kernel_rfl) (by kernel_rfl) (fun _ _ _ h => h) (Or.inl ⟨by rfl, ?_⟩) hHeld ?_
            rotate_left
            · intro w hSw; (try dsimp only at hSw); go_simp; all_goals (with_reducible rfl)
            try simp only [Act.put, List.setIfInBounds_toArray, List.set_cons_zero, List.set_cons_succ]
            refine wpAnyH_take (i := 5) (oi := ⟨some 93, _, _, _, _, _⟩) (v := ?_) rfl (by kernel_rfl) (by kernel_rfl) (by kernel_rfl) (fun _ _ _ h => h) (Or.inl ⟨by rfl, ?_⟩) hHeld ?_
            rotate_left
            · intro w hSw; (try dsimp only at hSw); go_simp; all_goals (with_reducible rfl)
            try simp only [Act.put, List.setIfInBounds_toArray, List.set_cons_zero, List.set_cons_succ]
            refine wpAnyH_ready (rs := [4]) (by kernel_rfl) (by simp) ?_
            refine AllReadyH.cons (o := ⟨some 92, _, _, _, _, _⟩) rfl (fun K hK => ?_) AllReadyH.nil
            go_simp
            refine (lw_note (HL8.out.below (below_drewN w8 1))).mono ?_
            rintro e w9 ⟨pa9, pc9, ca9, cc9, rfl, ho1, ho2, hB9⟩
            have HB9 : Hid (Below w8.heap.size w8 w9) := below_trans (below_drewN w8 1) hB9
            have HP9 : Hid (Nv w9 (.slice pa9 J.n.p.length pc9) J.n.p) := own_nv ho1 (rgt_p64 HF.out.gd.ok.r)
            have HQ9 : Hid (Nv w9 (.slice ca9 J.n.c.length cc9) J.n.c) := own_nv ho2 (rgt_c64 HF.out.gd.ok.r)
            clear ho1 ho2 hB9
            go_simp
            refine hK.out _ _ ?_ (fun hHeld => ?_)
            · exact (HNC.out _ (Ch.of_below HB9.out))
            clear hK K
            try simp only [Act.put, List.setIfInBounds_toArray, List.set_cons_zero, List.set_cons_succ]
            refine wpAnyH_ready (rs := [6]) (by kernel_rfl) (by simp) ?_
            refine AllReadyH.cons (o := ⟨some 94, _, _, _, _, _⟩) rfl (fun K hK => ?_) AllReadyH.nil
            go_simp
            refine (notes_walk (n := J.n) HP9.out HQ9.out ((HV8.out.below HB9.out).p.nv) ((HV8.out.below HB9.out).c.nv)).mono ?_
            rintro e w10 ⟨rfl, hB10⟩
            have HB10 : Hid (Below w8.heap.size w8 w10) := below_trans HB9.out hB10
            clear hB10
            go_simp
            refine hK.out _ _ ?_ (fun hHeld => ?_)
            · exact (HNC.out _ (Ch.of_below HB10.out))
            clear hK K
            try simp only [Act.put, List.setIfInBounds_toArray, List.set_cons_zero, List.set_cons_succ]
            refine wpAnyH_take (i := 7) (oi := ⟨some 95, _, _, _, _, _⟩) (v := ?_) rfl (by kernel_rfl) (by kernel_rfl) (by kernel_rfl) (fun _ _ _ h => h) (Or.inl ⟨by rfl, ?_⟩) hHeld ?_
            rotate_left
            · intro w hSw; (try dsimp only at hSw); go_simp; all_goals (with_reducible rfl)
            try simp only [Act.put, List.setIfInBounds_toArray, List.set_cons_zero, List.set_cons_succ]
            refine wpAnyH_take (i := 8) (oi := ⟨some 6, _, _, _, _, _⟩) (v := ?_) rfl (by kernel_rfl) (by kernel_rfl) (by kernel_rfl) (fun _ _ _ h => h) (Or.inl ⟨by rfl, ?_⟩) hHeld ?_
            rotate_left
            · intro w hSw; (try dsimp only at hSw); go_simp; all_goals (with_reducible rfl)
            try simp only [Act.put, List.setIfInBounds_toArray, List.set_cons_zero, List.set_cons_succ]
            refine wpAnyH_done (by kernel_rfl) ?_ _
            refine NoPanic.normal ?_
            go_wp2_with fail
            go_ret
            exact ⟨rfl, below_trans HBZ.out (HL8.out.bel.trans (HB10.out.mono HL8.out.bel.size))⟩
          · obtain ⟨o1, o2⟩ := HF.out.gd.other (k := q) (by omega) (by omega) (by omega)
            rcases hOp with ⟨_, rfl, hL8⟩ | ⟨h', g', n', jb', hz, _⟩
            rotate_left
            · rw [o1] at hz; exact absurd hz (by decide)
            rw [o1]
            rw [o2] at hL8
            have HL8 := hidH hL8
            have HG8 : Hid (Gd p J (rdK S 2)) := HF.out.gd.rd 2
            have hpp : ((p : Int) == (q : Int)) = false := by simp; omega
            have HM8 : Hid (∀ wx, ChA wz (fun x => A x ∨ (wr.heap.size ≤ x ∧ x < w7.heap.size)) w8 wx → wx.cell? ⟨M, 0, none⟩ = some (.int .i64 (J.n.b + 1)) ∧ wx.cell? ⟨M, 1, none⟩ = some (.slice (some ⟨P, 0, none⟩) q q) ∧ wx.cell? ⟨M, 2, none⟩ = some (.slice (some ⟨C, 0, none⟩) q q) ∧ wx.cell? ⟨M, 3, none⟩ = some (.int .i64 J.n.a)) := fun wx hc => by
              have hb := blk_ch (blk_ch HM.out HC8.out (fun h => h.2 (.inr HMA.out))) hc (fun h => h.2 (.inr HMA.out))
              exact ⟨by rw [blk_cell hb]; rfl, by rw [blk_cell hb]; rfl, by rw [blk_cell hb]; rfl, by rw [blk_cell hb]; rfl⟩
            have HKP8 : Hid (Kl (fun x => A x ∨ (wr.heap.size ≤ x ∧ x < w7.heap.size)) w8 (.slice (some ⟨P, 0, none⟩) q q) (zeros q)) := HKP.out.ch hC8
            have HKC8 : Hid (Kl (fun x => A x ∨ (wr.heap.size ≤ x ∧ x < w7.heap.size)) w8 (.slice (some ⟨C, 0, none⟩) q q) (zeros q)) := HKC.out.ch hC8
            have HNB8 : Hid (-9223372036854775808 ≤ J.n.b + 1 ∧ J.n.b + 1 < 9223372036854775808) := ⟨by have := HF.out.gd.ok.r.b0; omega, by have := HF.out.gd.ok.r.b1; omega⟩
            have HW8 : Hid ((rdK S 2).wr < 9223372036854775800) := by show _ < _; rw [(rdK_same S 2).2.2.2.1]; have := HF.out.wr; omega
            have HSV : Hid (savI J (rdK S 2) p ⟨J.n.b + 1, zeros q, zeros q, J.n.a⟩ = 1 ∧ savJ J (rdK S 2) p ⟨J.n.b + 1, zeros q, zeros q, J.n.a⟩ = J ∧ savS J (rdK S 2) p ⟨J.n.b + 1, zeros q, zeros q, J.n.a⟩ = rdK S 2) := by
              have hn : ¬ (J.o = true ∨ (rdK S 2).down = true) := by rw [HG8.out.no, HG8.out.dn]; simp
              have h1 : rgtB ⟨J.n.b + 1, zeros q, zeros q, J.n.a⟩ p = false := Rgt.no fun h => by have := h.lp; simp only [zeros_len] at this; omega
              exact ⟨(if_neg hn).trans (if_pos h1), (if_neg hn).trans (if_pos h1), (if_neg hn).trans (if_pos h1)⟩
            clear hL8 hC8 o1 o2 hpq
            go_wp2_with fail
            refine wp_region_noPanic ?_
            refine wp_region_held_drew (S := fun wx => (wx.cell? ⟨N, 0, none⟩ = some (.int .i64 J.n.b) ∧ wx.cell? ⟨N, 1, none⟩ = some (.slice po J.n.p.length pc) ∧ wx.cell? ⟨N, 2, none⟩ = some (.slice co J.n.c.length cc) ∧ wx.cell? ⟨N, 3, none⟩ = some (.int .i64 J.n.a)) ∧ (wx.cell? ⟨M, 0, none⟩ = some (.int .i64 (J.n.b + 1)) ∧ wx.cell? ⟨M, 1, none⟩ = some (.slice (some ⟨P, 0, none⟩) q q) ∧ wx.cell? ⟨M, 2, none⟩ = some (.slice (some ⟨C, 0, none⟩) q q) ∧ wx.cell? ⟨M, 3, none⟩ = some (.int .i64 J.n.a))) (by kernel_rfl) ?_ (fun hHeld => ?_)
            · exact ⟨HNC.out _ (Ch.of_below (below_drewN w8 1)), HM8.out _ (Ch.of_below (below_drewN w8 1))⟩
            refine wpAnyH_take (i := 0) (oi := ⟨some 96, _, _, _, _, _⟩) (v := ?_) rfl (by kernel_rfl) (by kernel_rfl) (by kernel_rfl) (fun _ _ _ h => h) (Or.inl ⟨by rfl, ?_⟩) hHeld ?_
            rotate_left
            · intro w hSw; (try dsimp only at hSw); go_simp; all_goals (with_reducible rfl)
            try simp only [Act.put, List.setIfInBounds_toArray, List.set_cons_zero, List.set_cons_succ]
            refine wpAnyH_take (i := 1) (oi := ⟨some 97, _, _, _, _, _⟩) (v := ?_) rfl (by kernel_rfl) (by kernel_rfl) (by kernel_rfl) (fun _ _ _ h => h) (Or.inl ⟨by rfl, ?_⟩) hHeld ?_
            rotate_left
            · intro w hSw; (try dsimp only at hSw); go_simp; all_goals (with_reducible rfl)
            try simp only [Act.put, List.setIfInBounds_toArray, List.set_cons_zero, List.set_cons_succ]
            refine wpAnyH_take (i := 2) (oi := ⟨some 98, _, _, _, _, _⟩) (v := ?_) rfl (by kernel_rfl) (by kernel_rfl) (by kernel_rfl) (fun _ _ _ h => h) (Or.inl ⟨by rfl, ?_⟩) hHeld ?_
            rotate_left
            · intro w hSw; (try dsimp only at hSw); go_simp; all_goals (with_reducible rfl)
            try simp only [Act.put, List.setIfInBounds_toArray, List.set_cons_zero, List.set_cons_succ]
            refine wpAnyH_take (i := 3) (oi := ⟨some 99, _, _, _, _, _⟩) (v := ?_) rfl (by kernel_rfl) (by kernel_rfl) (by kernel_rfl) (fun _ _ _ h => h) (Or.inl ⟨by rfl, ?_⟩) hHeld ?_
            rotate_left
            · intro w hSw; (try dsimp only at hSw); go_simp; all_goals (with_reducible rfl)
            try simp only [Act.put, List.setIfInBounds_toArray, List.set_cons_zero, List.set_cons_succ]
            refine wpAnyH_take (i := 4) (oi := ⟨some 100, _, _, _, _, _⟩) (v := ?_) rfl (by kernel_rfl) (by kernel_rfl) (by kernel_rfl) (fun _ _ _ h => h) (Or.inl ⟨by rfl, ?_⟩) hHeld ?_
            rotate_left
            · intro w hSw; (try dsimp only at hSw); go_simp; all_goals (with_reducible rfl)
            try simp only [Act.put, List.setIfInBounds_toArray, List.set_cons_zero, List.set_cons_succ]
            refine wpAnyH_take (i := 5) (oi := ⟨some 101, _, _, _, _, _⟩) (v := ?_) rfl (by kernel_rfl) (by kernel_rfl) (by kernel_rfl) (fun _ _ _ h => h) (Or.inl ⟨by rfl, ?_⟩) hHeld ?_
            rotate_left
            · intro w hSw; (try dsimp only at hSw); go_simp; all_goals (with_reducible rfl)
            try simp only [Act.put, List.setIfInBounds_toArray, List.set_cons_zero, List.set_cons_succ]
            refine wpAnyH_take (i := 6) (oi := ⟨some 102, _, _, _, _, _⟩) (v := ?_) rfl (by kernel_rfl) (by kernel_rfl) (by kernel_rfl) (fun _ _ _ h => h) (Or.inl ⟨by rfl, ?_⟩) hHeld ?_
            rotate_left
            · intro w hSw; (try dsimp only at hSw); go_simp; all_goals (with_reducible rfl)
            try simp only [Act.put, List.setIfInBounds_toArray, List.set_cons_zero, List.set_cons_succ]
            refine wpAnyH_take (i := 7) (oi := ⟨some 103, _, _, _, _, _⟩) (v := ?_) rfl (by kernel_rfl) (by kernel_rfl) (by kernel_rfl) (fun _ _ _ h => h) (Or.inl ⟨by rfl, ?_⟩) hHeld ?_
            rotate_left
            · intro w hSw; (try dsimp only at hSw); go_simp; all_goals (with_reducible rfl)
            try simp only [Act.put, List.setIfInBounds_toArray, List.set_cons_zero, List.set_cons_succ]
            refine wpAnyH_take (i := 8) (oi := ⟨some 104, _, _, _, _, _⟩) (v := ?_) rfl (by kernel_rfl) (by kernel_rfl) (by kernel_rfl) (fun _ _ _ h => h) (Or.inl ⟨by rfl, ?_⟩) hHeld ?_
            rotate_left
            · intro w hSw; (try dsimp only at hSw); go_simp; all_goals (with_reducible rfl)
            try simp only [Act.put, List.setIfInBounds_toArray, List.set_cons_zero, List.set_cons_succ]
            refine wpAnyH_ready (rs := [9]) (by kernel_rfl) (by simp) ?_
            refine AllReadyH.cons (o := ⟨some 105, _, _, _, _, _⟩) rfl (fun K hK => ?_) AllReadyH.nil
            go_simp
            refine (lw_save (n := ⟨J.n.b + 1, zeros q, zeros q, J.n.a⟩) (HL8.out.below (below_drewN w8 1)) (HKP8.out.nv.below (below_drewN w8 1)) (HKC8.out.nv.below (below_drewN w8 1)) HNB8.out HW8.out).mono ?_
            rintro e w9 ⟨he, hL9, hC9⟩
            rw [HSV.out.1] at he
            rw [HSV.out.2.1, HSV.out.2.2] at hL9
            subst he
            have HL9 := hidH hL9
            have HC9 : Hid (ChA wz (fun x => A x ∨ (wr.heap.size ≤ x ∧ x < w7.heap.size)) w8 w9) := (Ch.of_below (D := fun x => wz.heap.size ≤ x ∧ ¬ (fun x => A x ∨ (wr.heap.size ≤ x ∧ x < w7.heap.size)) x) (below_drewN w8 1)).self hC9
            clear hL9 hC9
            go_simp
            refine hK.out _ _ ?_ (fun hHeld => ?_)
            · exact ⟨HNC.out _ HC9.out, HM8.out _ HC9.out⟩
            clear hK K
            try simp only [Act.put, List.setIfInBounds_toArray, List.set_cons_zero, List.set_cons_succ]
            refine wpAnyH_take (i := 10) (oi := ⟨some 106, _, _, _, _, _⟩) (v := ?_) rfl (by kernel_rfl) (by kernel_rfl) (by kernel_rfl) (fun _ _ _ h => h) (Or.inl ⟨by rfl, ?_⟩) hHeld ?_
            rotate_left
            · intro w hSw; (try dsimp only at hSw); go_simp; all_goals (with_reducible rfl)
            try simp only [Act.put, List.setIfInBounds_toArray, List.set_cons_zero, List.set_cons_succ]
            refine wpAnyH_take (i := 11) (oi := ⟨some 107, _, _, _, _, _⟩) (v := ?_) rfl (by kernel_rfl) (by kernel_rfl) (by kernel_rfl) (fun _ _ _ h => h) (Or.inl ⟨by rfl, ?_⟩) hHeld ?_
            rotate_left
            · intro w hSw; (try dsimp only at hSw); go_simp; all_goals (with_reducible rfl)
            try simp only [Act.put, List.setIfInBounds_toArray, List.set_cons_zero, List.set_cons_succ]
            refine wpAnyH_take (i := 12) (oi := ⟨some 108, _, _, _, _, _⟩) (v := ?_) rfl (by kernel_rfl) (by kernel_rfl) (by kernel_rfl) (fun _ _ _ h => h) (Or.inl ⟨by rfl, ?_⟩) hHeld ?_
            rotate_left
            · intro w hSw; (try dsimp only at hSw); go_simp; all_goals (with_reducible rfl)
            try simp only [Act.put, List.setIfInBounds_toArray, List.set_cons_zero, List.set_cons_succ]
            refine wpAnyH_take (i := 13) (oi := ⟨some 109, _, _, _, _, _⟩) (v := ?_) rfl (by kernel_rfl) (by kernel_rfl) (by kernel_rfl) (fun _ _ _ h => h) (Or.inl ⟨by rfl, ?_⟩) hHeld ?_
            rotate_left
            · intro w hSw; (try dsimp only at hSw); go_simp; all_goals (with_reducible rfl)
            try simp only [Act.put, List.setIfInBounds_toArray, List.set_cons_zero, List.set_cons_succ]
            refine wpAnyH_take (i := 15) (oi := ⟨some 111, _, _, _, _, _⟩) (v := ?_) rfl (by kernel_rfl) (by kernel_rfl) (by kernel_rfl) (fun _ _ _ h => h) (Or.inl ⟨by rfl, ?_⟩) hHeld ?_
            rotate_left
            · intro w hSw; (try dsimp only at hSw); go_simp; all_goals (with_reducible rfl)
            try simp only [Act.put, List.setIfInBounds_toArray, List.set_cons_zero, List.set_cons_succ]
            refine wpAnyH_ready (rs := [14]) (by kernel_rfl) (by simp) ?_
            refine AllReadyH.cons (o := ⟨some 110, _, _, _, _, _⟩) rfl (fun K hK => ?_) AllReadyH.nil
            go_simp
            refine (lw_note HL9.out).mono ?_
            rintro e w10 ⟨pa9, pc9, ca9, cc9, rfl, ho1, ho2, hB10⟩
            have HB10 : Hid (Below w9.heap.size w9 w10) := hB10
            have HP9 : Hid (Nv w10 (.slice pa9 J.n.p.length pc9) J.n.p) := own_nv ho1 (rgt_p64 HF.out.gd.ok.r)
            have HQ9 : Hid (Nv w10 (.slice ca9 J.n.c.length cc9) J.n.c) := own_nv ho2 (rgt_c64 HF.out.gd.ok.r)
            have HC10 : Hid (ChA wz (fun x => A x ∨ (wr.heap.size ≤ x ∧ x < w7.heap.size)) w8 w10) := HC9.out.self (Ch.of_below hB10)
            clear ho1 ho2 hB10
            go_simp
            refine hK.out _ _ ?_ (fun hHeld => ?_)
            · exact ⟨HNC.out _ HC10.out, HM8.out _ HC10.out⟩
            clear hK K
            try simp only [Act.put, List.setIfInBounds_toArray, List.set_cons_zero, List.set_cons_succ]
            refine wpAnyH_ready (rs := [16]) (by kernel_rfl) (by simp) ?_
            refine AllReadyH.cons (o := ⟨some 112, _, _, _, _, _⟩) rfl (fun K hK => ?_) AllReadyH.nil
            go_simp
            refine (notes_walk (n := J.n) HP9.out HQ9.out ((HV8.out.chA HC10.out).p.nv) ((HV8.out.chA HC10.out).c.nv)).mono ?_
            rintro e w11 ⟨rfl, hB11⟩
            have HB11 : Hid (Below w9.heap.size w9 w11) := below_trans HB10.out hB11
            have HC11 : Hid (ChA wz (fun x => A x ∨ (wr.heap.size ≤ x ∧ x < w7.heap.size)) w8 w11) := HC9.out.self (Ch.of_below HB11.out)
            clear hB11
            go_simp
            refine hK.out _ _ ?_ (fun hHeld => ?_)
            · exact ⟨HNC.out _ HC11.out, HM8.out _ HC11.out⟩
            clear hK K
            try simp only [Act.put, List.setIfInBounds_toArray, List.set_cons_zero, List.set_cons_succ]
            refine wpAnyH_take (i := 17) (oi := ⟨some 113, _, _, _, _, _⟩) (v := ?_) rfl (by kernel_rfl) (by kernel_rfl) (by kernel_rfl) (fun _ _ _ h => h) (Or.inl ⟨by rfl, ?_⟩) hHeld ?_
            rotate_left
            · intro w hSw; (try dsimp only at hSw); go_simp; all_goals (with_reducible rfl)
            try simp only [Act.put, List.setIfInBounds_toArray, List.set_cons_zero, List.set_cons_succ]
            refine wpAnyH_take (i := 18) (oi := ⟨some 6, _, _, _, _, _⟩) (v := ?_) rfl (by kernel_rfl) (by kernel_rfl) (by kernel_rfl) (fun _ _ _ h => h) (Or.inl ⟨by rfl, ?_⟩) hHeld ?_
            rotate_left
            · intro w hSw; (try dsimp only at hSw); go_simp; all_goals (with_reducible rfl)
            try simp only [Act.put, List.setIfInBounds_toArray, List.set_cons_zero, List.set_cons_succ]
            refine wpAnyH_done (by kernel_rfl) ?_ _
            refine NoPanic.normal ?_
            go_wp2_with fail
            go_ret
            exact ⟨rfl, below_trans HBZ.out (HL9.out.bel.trans (HB11.out.mono HL9.out.bel.size))⟩
      · have hk1i : ¬ (k : Int) < (ts.length : Int) := by omega
        go_wp2_with fail
        go_cut [15] (fun mv wx => ∃ M, mv = .pointer (some ⟨M, 0, none⟩) ∧ M0 wr q (J.n.b + 1) J.n.a M wx)
        case first =>
          refine wp_region_noPanic ?_
          refine wp_region_held_drew (S := fun wx => Below wr.heap.size wr wx) (by kernel_rfl) ?_ (fun hHeld => ?_)
          · exact (below_drew wr)
          refine wpAnyH_take (i := 0) (oi := ⟨some 67, _, _, _, _, _⟩) (v := ?_) rfl (by kernel_rfl) (by kernel_rfl) (by kernel_rfl) (fun _ _ _ h => h) (Or.inl ⟨by rfl, ?_⟩) hHeld ?_
          rotate_left
          · intro w hSw; (try dsimp only at hSw); go_simp; all_goals (with_reducible rfl)
          try simp only [Act.put, List.setIfInBounds_toArray, List.set_cons_zero, List.set_cons_succ]
          refine wpAnyH_take (i := 1) (oi := ⟨some 68, _, _, _, _, _⟩) (v := ?_) rfl (by kernel_rfl) (by kernel_rfl) (by kernel_rfl) (fun _ _ _ h => h) (Or.inl ⟨by rfl, ?_⟩) hHeld ?_
          rotate_left
          · intro w hSw; (try dsimp only at hSw); go_simp; all_goals (with_reducible rfl)
          try simp only [Act.put, List.setIfInBounds_toArray, List.set_cons_zero, List.set_cons_succ]
          refine wpAnyH_take (i := 2) (oi := ⟨some 69, _, _, _, _, _⟩) (v := ?_) rfl (by kernel_rfl) (by kernel_rfl) (by kernel_rfl) (fun _ _ _ h => h) (Or.inl ⟨by rfl, ?_⟩) hHeld ?_
          rotate_left
          · intro w hSw; (try dsimp only at hSw); go_simp; all_goals (with_reducible rfl)
          try simp only [Act.put, List.setIfInBounds_toArray, List.set_cons_zero, List.set_cons_succ]
          refine wpAnyH_take (i := 3) (oi := ⟨some 70, _, _, _, _, _⟩) (v := ?_) rfl (by kernel_rfl) (by kernel_rfl) (by kernel_rfl) (fun _ _ _ h => h) (Or.inl ⟨by rfl, ?_⟩) hHeld ?_
          rotate_left
          · intro w hSw; (try dsimp only at hSw); go_simp; all_goals (with_reducible rfl)
          try simp only [Act.put, List.setIfInBounds_toArray, List.set_cons_zero, List.set_cons_succ]
          refine wpAnyH_take (i := 4) (oi := ⟨some 71, _, _, _, _, _⟩) (v := ?_) rfl (by kernel_rfl) (by kernel_rfl) (by kernel_rfl) (fun _ _ _ h => h) (Or.inl ⟨by rfl, ?_⟩) hHeld ?_
          rotate_left
          · intro w hSw; (try dsimp only at hSw); go_simp; all_goals (with_reducible rfl)
          try simp only [Act.put, List.setIfInBounds_toArray, List.set_cons_zero, List.set_cons_succ]
          refine wpAnyH_take (i := 6) (oi := ⟨some 73, _, _, _, _, _⟩) (v := ?_) rfl (by kernel_rfl) (by kernel_rfl) (by kernel_rfl) (fun _ _ _ h => h) (Or.inl ⟨by rfl, ?_⟩) hHeld ?_
          rotate_left
          · intro w hSw; (try dsimp only at hSw); go_simp; all_goals (with_reducible rfl)
          try simp only [Act.put, List.setIfInBounds_toArray, List.set_cons_zero, List.set_cons_succ]
          refine wpAnyH_take (i := 9) (oi := ⟨some 76, _, _, _, _, _⟩) (v := ?_) rfl (by kernel_rfl) (by kernel_rfl) (by kernel_rfl) (fun _ _ _ h => h) (Or.inl ⟨by rfl, ?_⟩) hHeld ?_
          rotate_left
          · intro w hSw; (try dsimp only at hSw); go_simp; all_goals (with_reducible rfl)
          try simp only [Act.put, List.setIfInBounds_toArray, List.set_cons_zero, List.set_cons_succ]
          refine wpAnyH_take (i := 10) (oi := ⟨some 77, _, _, _, _, _⟩) (v := ?_) rfl (by kernel_rfl) (by kernel_rfl) (by kernel_rfl) (fun _ _ _ h => h) (Or.inl ⟨by rfl, ?_⟩) hHeld ?_
          rotate_left
          · intro w hSw; (try dsimp only at hSw); go_simp; all_goals (with_reducible rfl)
          try simp only [Act.put, List.setIfInBounds_toArray, List.set_cons_zero, List.set_cons_succ]
          refine wpAnyH_ready (rs := [5, 7, 12]) (by kernel_rfl) (by simp) ?_
          refine AllReadyH.cons (o := ⟨some 72, _, _, _, _, _⟩) rfl (fun K hK => ?_) (AllReadyH.cons (o := ⟨some 74, _, _, _, _, _⟩) rfl (fun K hK => ?_) (AllReadyH.cons (o := ⟨some 15, _, _, _, _, _⟩) rfl (fun K hK => ?_) AllReadyH.nil))
          · go_simp
            refine hK.out _ _ ?_ (fun hHeld => ?_)
            · exact (by first | exact hHeld.alloc hHeld.size _ | exact (below_alloc _ _).drew)
            clear hK K
            try simp only [Act.put, List.setIfInBounds_toArray, List.set_cons_zero, List.set_cons_succ]
            refine wpAnyH_ready (rs := [7, 12]) (by kernel_rfl) (by simp) ?_
            refine AllReadyH.cons (o := ⟨some 74, _, _, _, _, _⟩) rfl (fun K hK => ?_) (AllReadyH.cons (o := ⟨some 15, _, _, _, _, _⟩) rfl (fun K hK => ?_) AllReadyH.nil)
            · go_simp
              refine hK.out _ _ ?_ (fun hHeld => ?_)
              · exact (by first | exact hHeld.alloc hHeld.size _ | exact (below_alloc _ _).drew)
              clear hK K
              try simp only [Act.put, List.setIfInBounds_toArray, List.set_cons_zero, List.set_cons_succ]
              refine wpAnyH_take (i := 8) (oi := ⟨some 75, _, _, _, _, _⟩) (v := ?_) rfl (by kernel_rfl) (by kernel_rfl) (by kernel_rfl) (fun _ _ _ h => h) (Or.inl ⟨by rfl, ?_⟩) hHeld ?_
              rotate_left
              · intro w hSw; (try dsimp only at hSw); go_simp; all_goals (with_reducible rfl)
              try simp only [Act.put, List.setIfInBounds_toArray, List.set_cons_zero, List.set_cons_succ]
              refine wpAnyH_take (i := 11) (oi := ⟨some 78, _, _, _, _, _⟩) (v := ?_) rfl (by kernel_rfl) (by kernel_rfl) (by kernel_rfl) (fun _ _ _ h => h) (Or.inl ⟨by rfl, ?_⟩) hHeld ?_
              rotate_left
              · intro w hSw; (try dsimp only at hSw); go_simp; all_goals (with_reducible rfl)
              try simp only [Act.put, List.setIfInBounds_toArray, List.set_cons_zero, List.set_cons_succ]
              refine wpAnyH_ready (rs := [12]) (by kernel_rfl) (by simp) ?_
              refine AllReadyH.cons (o := ⟨some 15, _, _, _, _, _⟩) rfl (fun K hK => ?_) AllReadyH.nil
              go_simp
              refine hK.out _ _ ?_ (fun hHeld => ?_)
              · exact (by first | exact hHeld.alloc hHeld.size _ | exact (below_alloc _ _).drew)
              clear hK K
              try simp only [Act.put, List.setIfInBounds_toArray, List.set_cons_zero, List.set_cons_succ]
              refine wpAnyH_ready (rs := [13]) (by kernel_rfl) (by simp) ?_
              refine AllReadyH.cons (o := ⟨none, _, _, _, _, _⟩) rfl (fun K hK => ?_) AllReadyH.nil
              go_simp
              refine hK.out _ _ ?_ (fun hHeld => ?_)
              · exact (by first | exact below3 _ _ _ _)
              clear hK K
              try simp only [Act.put, List.setIfInBounds_toArray, List.set_cons_zero, List.set_cons_succ]
              refine wpAnyH_done (by kernel_rfl) ?_ _
              refine NoPanic.normal ?_
              go_wp2_with fail
              go_meet
              refine ⟨_, rfl, ?_⟩
              first
                | exact m0_of HZ.out hq4 (below3 _ _ _ _) (heap3 wr _ _ _).2.2 (heap3 wr _ _ _).1 (heap3 wr _ _ _).2.1 (by omega) (by omega) (by omega)
                | exact m0_of HZ.out hq4 (below3 _ _ _ _) (heap3 wr _ _ _).2.1 (heap3 wr _ _ _).1 (heap3 wr _ _ _).2.2 (by omega) (by omega) (by omega)
                | exact m0_of HZ.out hq4 (below3 _ _ _ _) (heap3 wr _ _ _).2.2 (heap3 wr _ _ _).2.1 (heap3 wr _ _ _).1 (by omega) (by omega) (by omega)
                | exact m0_of HZ.out hq4 (below3 _ _ _ _) (heap3 wr _ _ _).2.1 (heap3 wr _ _ _).2.2 (heap3 wr _ _ _).1 (by omega) (by omega) (by omega)
                | exact m0_of HZ.out hq4 (below3 _ _ _ _) (heap3 wr _ _ _).1 (heap3 wr _ _ _).2.1 (heap3 wr _ _ _).2.2 (by omega) (by omega) (by omega)
                | exact m0_of HZ.out hq4 (below3 _ _ _ _) (heap3 wr _ _ _).1 (heap3 wr _ _ _).2.2 (heap3 wr _ _ _).2.1 (by omega) (by omega) (by omega)
            · go_simp
              refine hK.out _ _ ?_ (fun hHeld => ?_)
              · exact (by first | exact hHeld.alloc hHeld.size _ | exact (below_alloc _ _).drew)
              clear hK K
              try simp only [Act.put, List.setIfInBounds_toArray, List.set_cons_zero, List.set_cons_succ]
              refine wpAnyH_ready (rs := [7]) (by kernel_rfl) (by simp) ?_
              refine AllReadyH.cons (o := ⟨some 74, _, _, _, _, _⟩) rfl (fun K hK => ?_) AllReadyH.nil
              go_simp
              refine hK.out _ _ ?_ (fun hHeld => ?_)
              · exact (by first | exact hHeld.alloc hHeld.size _ | exact (below_alloc _ _).drew)
              clear hK K
              try simp only [Act.put, List.setIfInBounds_toArray, List.set_cons_zero, List.set_cons_succ]
              refine wpAnyH_take (i := 8) (oi := ⟨some 75, _, _, _, _, _⟩) (v := ?_) rfl (by kernel_rfl) (by kernel_rfl) (by kernel_rfl) (fun _ _ _ h => h) (Or.inl ⟨by rfl, ?_⟩) hHeld ?_
              rotate_left
              · intro w hSw; (try dsimp only at hSw); go_simp; all_goals (with_reducible rfl)
              try simp only [Act.put, List.setIfInBounds_toArray, List.set_cons_zero, List.set_cons_succ]
              refine wpAnyH_take (i := 11) (oi := ⟨some 78, _, _, _, _, _⟩) (v := ?_) rfl (by kernel_rfl) (by kernel_rfl) (by kernel_rfl) (fun _ _ _ h => h) (Or.inl ⟨by rfl, ?_⟩) hHeld ?_
              rotate_left
              · intro w hSw; (try dsimp only at hSw); go_simp; all_goals (with_reducible rfl)
              try simp only [Act.put, List.setIfInBounds_toArray, List.set_cons_zero, List.set_cons_succ]
              refine wpAnyH_ready (rs := [13]) (by kernel_rfl) (by simp) ?_
              refine AllReadyH.cons (o := ⟨none, _, _, _, _, _⟩) rfl (fun K hK => ?_) AllReadyH.nil
              go_simp
              refine hK.out _ _ ?_ (fun hHeld => ?_)
              · exact (by first | exact below3 _ _ _ _)
              clear hK K
              try simp only [Act.put, List.setIfInBounds_toArray, List.set_cons_zero, List.set_cons_succ]
              refine wpAnyH_done (by kernel_rfl) ?_ _
              refine NoPanic.normal ?_
              go_wp2_with fail
              go_meet
              refine ⟨_, rfl, ?_⟩
              first
                | exact m0_of HZ.out hq4 (below3 _ _ _ _) (heap3 wr _ _ _).2.2 (heap3 wr _ _ _).1 (heap3 wr _ _ _).2.1 (by omega) (by omega) (by omega)
                | exact m0_of HZ.out hq4 (below3 _ _ _ _) (heap3 wr _ _ _).2.1 (heap3 wr _ _ _).1 (heap3 wr _ _ _).2.2 (by omega) (by omega) (by omega)
                | exact m0_of HZ.out hq4 (below3 _ _ _ _) (heap3 wr _ _ _).2.2 (heap3 wr _ _ _).2.1 (heap3 wr _ _ _).1 (by omega) (by omega) (by omega)
                | exact m0_of HZ.out hq4 (below3 _ _ _ _) (heap3 wr _ _ _).2.1 (heap3 wr _ _ _).2.2 (heap3 wr _ _ _).1 (by omega) (by omega) (by omega)
                | exact m0_of HZ.out hq4 (below3 _ _ _ _) (heap3 wr _ _ _).1 (heap3 wr _ _ _).2.1 (heap3 wr _ _ _).2.2 (by omega) (by omega) (by omega)
                | exact m0_of HZ.out hq4 (below3 _ _ _ _) (heap3 wr _ _ _).1 (heap3 wr _ _ _).2.2 (heap3 wr _ _ _).2.1 (by omega) (by omega) (by omega)
          · go_simp
            refine hK.out _ _ ?_ (fun hHeld => ?_)
            · exact (by first | exact hHeld.alloc hHeld.size _ | exact (below_alloc _ _).drew)
            clear hK K
            try simp only [Act.put, List.setIfInBounds_toArray, List.set_cons_zero, List.set_cons_succ]
            refine wpAnyH_ready (rs := [5, 12]) (by kernel_rfl) (by simp) ?_
            refine AllReadyH.cons (o := ⟨some 72, _, _, _, _, _⟩) rfl (fun K hK => ?_) (AllReadyH.cons (o := ⟨some 15, _, _, _, _, _⟩) rfl (fun K hK => ?_) AllReadyH.nil)
            · go_simp
              refine hK.out _ _ ?_ (fun hHeld => ?_)
              · exact (by first | exact hHeld.alloc hHeld.size _ | exact (below_alloc _ _).drew)
              clear hK K
              try simp only [Act.put, List.setIfInBounds_toArray, List.set_cons_zero, List.set_cons_succ]
              refine wpAnyH_take (i := 8) (oi := ⟨some 75, _, _, _, _, _⟩) (v := ?_) rfl (by kernel_rfl) (by kernel_rfl) (by kernel_rfl) (fun _ _ _ h => h) (Or.inl ⟨by rfl, ?_⟩) hHeld ?_
              rotate_left
              · intro w hSw; (try dsimp only at hSw); go_simp; all_goals (with_reducible rfl)
              try simp only [Act.put, List.setIfInBounds_toArray, List.set_cons_zero, List.set_cons_succ]
              refine wpAnyH_take (i := 11) (oi := ⟨some 78, _, _, _, _, _⟩) (v := ?_) rfl (by kernel_rfl) (by kernel_rfl) (by kernel_rfl) (fun _ _ _ h => h) (Or.inl ⟨by rfl, ?_⟩) hHeld ?_
              rotate_left
              · intro w hSw; (try dsimp only at hSw); go_simp; all_goals (with_reducible rfl)
              try simp only [Act.put, List.setIfInBounds_toArray, List.set_cons_zero, List.set_cons_succ]
              refine wpAnyH_ready (rs := [12]) (by kernel_rfl) (by simp) ?_
              refine AllReadyH.cons (o := ⟨some 15, _, _, _, _, _⟩) rfl (fun K hK => ?_) AllReadyH.nil
              go_simp
              refine hK.out _ _ ?_ (fun hHeld => ?_)
              · exact (by first | exact hHeld.alloc hHeld.size _ | exact (below_alloc _ _).drew)
              clear hK K
              try simp only [Act.put, List.setIfInBounds_toArray, List.set_cons_zero, List.set_cons_succ]
              refine wpAnyH_ready (rs := [13]) (by kernel_rfl) (by simp) ?_
              refine AllReadyH.cons (o := ⟨none, _, _, _, _, _⟩) rfl (fun K hK => ?_) AllReadyH.nil
              go_simp
              refine hK.out _ _ ?_ (fun hHeld => ?_)
              · exact (by first | exact below3 _ _ _ _)
              clear hK K
              try simp only [Act.put, List.setIfInBounds_toArray, List.set_cons_zero, List.set_cons_succ]
              refine wpAnyH_done (by kernel_rfl) ?_ _
              refine NoPanic.normal ?_
              go_wp2_with fail
              go_meet
              refine ⟨_, rfl, ?_⟩
              first
                | exact m0_of HZ.out hq4 (below3 _ _ _ _) (heap3 wr _ _ _).2.2 (heap3 wr _ _ _).1 (heap3 wr _ _ _).2.1 (by omega) (by omega) (by omega)
                | exact m0_of HZ.out hq4 (below3 _ _ _ _) (heap3 wr _ _ _).2.1 (heap3 wr _ _ _).1 (heap3 wr _ _ _).2.2 (by omega) (by omega) (by omega)
                | exact m0_of HZ.out hq4 (below3 _ _ _ _) (heap3 wr _ _ _).2.2 (heap3 wr _ _ _).2.1 (heap3 wr _ _ _).1 (by omega) (by omega) (by omega)
                | exact m0_of HZ.out hq4 (below3 _ _ _ _) (heap3 wr _ _ _).2.1 (heap3 wr _ _ _).2.2 (heap3 wr _ _ _).1 (by omega) (by omega) (by omega)
                | exact m0_of HZ.out hq4 (below3 _ _ _ _) (heap3 wr _ _ _).1 (heap3 wr _ _ _).2.1 (heap3 wr _ _ _).2.2 (by omega) (by omega) (by omega)
                | exact m0_of HZ.out hq4 (below3 _ _ _ _) (heap3 wr _ _ _).1 (heap3 wr _ _ _).2.2 (heap3 wr _ _ _).2.1 (by omega) (by omega) (by omega)
            · go_simp
              refine hK.out _ _ ?_ (fun hHeld => ?_)
              · exact (by first | exact hHeld.alloc hHeld.size _ | exact (below_alloc _ _).drew)
              clear hK K
              try simp only [Act.put, List.setIfInBounds_toArray, List.set_cons_zero, List.set_cons_succ]
              refine wpAnyH_ready (rs := [5]) (by kernel_rfl) (by simp) ?_
              refine AllReadyH.cons (o := ⟨some 72, _, _, _, _, _⟩) rfl (fun K hK => ?_) AllReadyH.nil
              go_simp
              refine hK.out _ _ ?_ (fun hHeld => ?_)
              · exact (by first | exact hHeld.alloc hHeld.size _ | exact (below_alloc _ _).drew)
              clear hK K
              try simp only [Act.put, List.setIfInBounds_toArray, List.set_cons_zero, List.set_cons_succ]
              refine wpAnyH_take (i := 8) (oi := ⟨some 75, _, _, _, _, _⟩) (v := ?_) rfl (by kernel_rfl) (by kernel_rfl) (by kernel_rfl) (fun _ _ _ h => h) (Or.inl ⟨by rfl, ?_⟩) hHeld ?_
              rotate_left
              · intro w hSw; (try dsimp only at hSw); go_simp; all_goals (with_reducible rfl)
              try simp only [Act.put, List.setIfInBounds_toArray, List.set_cons_zero, List.set_cons_succ]
              refine wpAnyH_take (i := 11) (oi := ⟨some 78, _, _, _, _, _⟩) (v := ?_) rfl (by kernel_rfl) (by kernel_rfl) (by kernel_rfl) (fun _ _ _ h => h) (Or.inl ⟨by rfl, ?_⟩) hHeld ?_
              rotate_left
              · intro w hSw; (try dsimp only at hSw); go_simp; all_goals (with_reducible rfl)
              try simp only [Act.put, List.setIfInBounds_toArray, List.set_cons_zero, List.set_cons_succ]
              refine wpAnyH_ready (rs := [13]) (by kernel_rfl) (by simp) ?_
              refine AllReadyH.cons (o := ⟨none, _, _, _, _, _⟩) rfl (fun K hK => ?_) AllReadyH.nil
              go_simp
              refine hK.out _ _ ?_ (fun hHeld => ?_)
              · exact (by first | exact below3 _ _ _ _)
              clear hK K
              try simp only [Act.put, List.setIfInBounds_toArray, List.set_cons_zero, List.set_cons_succ]
              refine wpAnyH_done (by kernel_rfl) ?_ _
              refine NoPanic.normal ?_
              go_wp2_with fail
              go_meet
              refine ⟨_, rfl, ?_⟩
              first
                | exact m0_of HZ.out hq4 (below3 _ _ _ _) (heap3 wr _ _ _).2.2 (heap3 wr _ _ _).1 (heap3 wr _ _ _).2.1 (by omega) (by omega) (by omega)
                | exact m0_of HZ.out hq4 (below3 _ _ _ _) (heap3 wr _ _ _).2.1 (heap3 wr _ _ _).1 (heap3 wr _ _ _).2.2 (by omega) (by omega) (by omega)
                | exact m0_of HZ.out hq4 (below3 _ _ _ _) (heap3 wr _ _ _).2.2 (heap3 wr _ _ _).2.1 (heap3 wr _ _ _).1 (by omega) (by omega) (by omega)
                | exact m0_of HZ.out hq4 (below3 _ _ _ _) (heap3 wr _ _ _).2.1 (heap3 wr _ _ _).2.2 (heap3 wr _ _ _).1 (by omega) (by omega) (by omega)
                | exact m0_of HZ.out hq4 (below3 _ _ _ _) (heap3 wr _ _ _).1 (heap3 wr _ _ _).2.1 (heap3 wr _ _ _).2.2 (by omega) (by omega) (by omega)
                | exact m0_of HZ.out hq4 (below3 _ _ _ _) (heap3 wr _ _ _).1 (heap3 wr _ _ _).2.2 (heap3 wr _ _ _).2.1 (by omega) (by omega) (by omega)
          · go_simp
            refine hK.out _ _ ?_ (fun hHeld => ?_)
            · exact (by first | exact hHeld.alloc hHeld.size _ | exact (below_alloc _ _).drew)
            clear hK K
            try simp only [Act.put, List.setIfInBounds_toArray, List.set_cons_zero, List.set_cons_succ]
            refine wpAnyH_ready (rs := [5, 7]) (by kernel_rfl) (by simp) ?_
            refine AllReadyH.cons (o := ⟨some 72, _, _, _, _, _⟩) rfl (fun K hK => ?_) (AllReadyH.cons (o := ⟨some 74, _, _, _, _, _⟩) rfl (fun K hK => ?_) AllReadyH.nil)
            · go_simp
              refine hK.out _ _ ?_ (fun hHeld => ?_)
              · exact (by first | exact hHeld.alloc hHeld.size _ | exact (below_alloc _ _).drew)
              clear hK K
              try simp only [Act.put, List.setIfInBounds_toArray, List.set_cons_zero, List.set_cons_succ]
              refine wpAnyH_ready (rs := [7]) (by kernel_rfl) (by simp) ?_
              refine AllReadyH.cons (o := ⟨some 74, _, _, _, _, _⟩) rfl (fun K hK => ?_) AllReadyH.nil
              go_simp
              refine hK.out _ _ ?_ (fun hHeld => ?_)
              · exact (by first | exact hHeld.alloc hHeld.size _ | exact (below_alloc _ _).drew)
              clear hK K
              try simp only [Act.put, List.setIfInBounds_toArray, List.set_cons_zero, List.set_cons_succ]
              refine wpAnyH_take (i := 8) (oi := ⟨some 75, _, _, _, _, _⟩) (v := ?_) rfl (by kernel_rfl) (by kernel_rfl) (by kernel_rfl) (fun _ _ _ h => h) (Or.inl ⟨by rfl, ?_⟩) hHeld ?_
              rotate_left
              · intro w hSw; (try dsimp only at hSw); go_simp; all_goals (with_reducible rfl)
              try simp only [Act.put, List.setIfInBounds_toArray, List.set_cons_zero, List.set_cons_succ]
              refine wpAnyH_take (i := 11) (oi := ⟨some 78, _, _, _, _, _⟩) (v := ?_) rfl (by kernel_rfl) (by kernel_rfl) (by kernel_rfl) (fun _ _ _ h => h) (Or.inl ⟨by rfl, ?_⟩) hHeld ?_
              rotate_left
              · intro w hSw; (try dsimp only at hSw); go_simp; all_goals (with_reducible rfl)
              try simp only [Act.put, List.setIfInBounds_toArray, List.set_cons_zero, List.set_cons_succ]
              refine wpAnyH_ready (rs := [13]) (by kernel_rfl) (by simp) ?_
              refine AllReadyH.cons (o := ⟨none, _, _, _, _, _⟩) rfl (fun K hK => ?_) AllReadyH.nil
              go_simp
              refine hK.out _ _ ?_ (fun hHeld => ?_)
              · exact (by first | exact below3 _ _ _ _)
              clear hK K
              try simp only [Act.put, List.setIfInBounds_toArray, List.set_cons_zero, List.set_cons_succ]
              refine wpAnyH_done (by kernel_rfl) ?_ _
              refine NoPanic.normal ?_
              go_wp2_with fail
              go_meet
              refine ⟨_, rfl, ?_⟩
              first
                | exact m0_of HZ.out hq4 (below3 _ _ _ _) (heap3 wr _ _ _).2.2 (heap3 wr _ _ _).1 (heap3 wr _ _ _).2.1 (by omega) (by omega) (by omega)
                | exact m0_of HZ.out hq4 (below3 _ _ _ _) (heap3 wr _ _ _).2.1 (heap3 wr _ _ _).1 (heap3 wr _ _ _).2.2 (by omega) (by omega) (by omega)
                | exact m0_of HZ.out hq4 (below3 _ _ _ _) (heap3 wr _ _ _).2.2 (heap3 wr _ _ _).2.1 (heap3 wr _ _ _).1 (by omega) (by omega) (by omega)
                | exact m0_of HZ.out hq4 (below3 _ _ _ _) (heap3 wr _ _ _).2.1 (heap3 wr _ _ _).2.2 (heap3 wr _ _ _).1 (by omega) (by omega) (by omega)
                | exact m0_of HZ.out hq4 (below3 _ _ _ _) (heap3 wr _ _ _).1 (heap3 wr _ _ _).2.1 (heap3 wr _ _ _).2.2 (by omega) (by omega) (by omega)
                | exact m0_of HZ.out hq4 (below3 _ _ _ _) (heap3 wr _ _ _).1 (heap3 wr _ _ _).2.2 (heap3 wr _ _ _).2.1 (by omega) (by omega) (by omega)
            · go_simp
              refine hK.out _ _ ?_ (fun hHeld => ?_)
              · exact (by first | exact hHeld.alloc hHeld.size _ | exact (below_alloc _ _).drew)
              clear hK K
              try simp only [Act.put, List.setIfInBounds_toArray, List.set_cons_zero, List.set_cons_succ]
              refine wpAnyH_ready (rs := [5]) (by kernel_rfl) (by simp) ?_
              refine AllReadyH.cons (o := ⟨some 72, _, _, _, _, _⟩) rfl (fun K hK => ?_) AllReadyH.nil
              go_simp
              refine hK.out _ _ ?_ (fun hHeld => ?_)
              · exact (by first | exact hHeld.alloc hHeld.size _ | exact (below_alloc _ _).drew)
              clear hK K
              try simp only [Act.put, List.setIfInBounds_toArray, List.set_cons_zero, List.set_cons_succ]
              refine wpAnyH_take (i := 8) (oi := ⟨some 75, _, _, _, _, _⟩) (v := ?_) rfl (by kernel_rfl) (by kernel_rfl) (by kernel_rfl) (fun _ _ _ h => h) (Or.inl ⟨by rfl, ?_⟩) hHeld ?_
              rotate_left
              · intro w hSw; (try dsimp only at hSw); go_simp; all_goals (with_reducible rfl)
              try simp only [Act.put, List.setIfInBounds_toArray, List.set_cons_zero, List.set_cons_succ]
              refine wpAnyH_take (i := 11) (oi := ⟨some 78, _, _, _, _, _⟩) (v := ?_) rfl (by kernel_rfl) (by kernel_rfl) (by kernel_rfl) (fun _ _ _ h => h) (Or.inl ⟨by rfl, ?_⟩) hHeld ?_
              rotate_left
              · intro w hSw; (try dsimp only at hSw); go_simp; all_goals (with_reducible rfl)
              try simp only [Act.put, List.setIfInBounds_toArray, List.set_cons_zero, List.set_cons_succ]
              refine wpAnyH_ready (rs := [13]) (by kernel_rfl) (by simp) ?_
              refine AllReadyH.cons (o := ⟨none, _, _, _, _, _⟩) rfl (fun K hK => ?_) AllReadyH.nil
              go_simp
              refine hK.out _ _ ?_ (fun hHeld => ?_)
              · exact (by first | exact below3 _ _ _ _)
              clear hK K
              try simp only [Act.put, List.setIfInBounds_toArray, List.set_cons_zero, List.set_cons_succ]
              refine wpAnyH_done (by kernel_rfl) ?_ _
              refine NoPanic.normal ?_
              go_wp2_with fail
              go_meet
              refine ⟨_, rfl, ?_⟩
              first
                | exact m0_of HZ.out hq4 (below3 _ _ _ _) (heap3 wr _ _ _).2.2 (heap3 wr _ _ _).1 (heap3 wr _ _ _).2.1 (by omega) (by omega) (by omega)
                | exact m0_of HZ.out hq4 (below3 _ _ _ _) (heap3 wr _ _ _).2.1 (heap3 wr _ _ _).1 (heap3 wr _ _ _).2.2 (by omega) (by omega) (by omega)
                | exact m0_of HZ.out hq4 (below3 _ _ _ _) (heap3 wr _ _ _).2.2 (heap3 wr _ _ _).2.1 (heap3 wr _ _ _).1 (by omega) (by omega) (by omega)
                | exact m0_of HZ.out hq4 (below3 _ _ _ _) (heap3 wr _ _ _).2.1 (heap3 wr _ _ _).2.2 (heap3 wr _ _ _).1 (by omega) (by omega) (by omega)
                | exact m0_of HZ.out hq4 (below3 _ _ _ _) (heap3 wr _ _ _).1 (heap3 wr _ _ _).2.1 (heap3 wr _ _ _).2.2 (by omega) (by omega) (by omega)
                | exact m0_of HZ.out hq4 (below3 _ _ _ _) (heap3 wr _ _ _).1 (heap3 wr _ _ _).2.2 (heap3 wr _ _ _).2.1 (by omega) (by omega) (by omega)
        case rest =>
          obtain ⟨M, rfl, P, C, hM, hoP, hoC, hMb, hB7⟩ := hcut
          obtain ⟨w7, hw7⟩ : ∃ w7, w7 = wc := ⟨_, rfl⟩
          subst hw7
          have HL7 : Hid (Lw wz (fun x => A x ∨ (wr.heap.size ≤ x ∧ x < w7.heap.size)) sb jb p J S w7) := HF.out.lw.more hB7
          have HV7 : Hid (Vn (fun x => A x ∨ (wr.heap.size ≤ x ∧ x < w7.heap.size)) N (.slice po J.n.p.length pc) (.slice co J.n.c.length cc) J.n w7) := (HF.out.vn.below hB7).mono (fun x hx => .inl hx)
          have HM : Hid (w7.heap[M]? = some (.cells #[.int .i64 (J.n.b + 1), .slice (some ⟨P, 0, none⟩) q q, .slice (some ⟨C, 0, none⟩) q q, .int .i64 J.n.a] 41 (0, 0))) := hM
          have HKP : Hid (Kl (fun x => A x ∨ (wr.heap.size ≤ x ∧ x < w7.heap.size)) w7 (.slice (some ⟨P, 0, none⟩) q q) (zeros q)) := ⟨own_nv hoP (zeros_in64 q), own_inA hoP fun x h1 h2 => .inr ⟨h1, h2⟩⟩
          have HKC : Hid (Kl (fun x => A x ∨ (wr.heap.size ≤ x ∧ x < w7.heap.size)) w7 (.slice (some ⟨C, 0, none⟩) q q) (zeros q)) := ⟨own_nv hoC (zeros_in64 q), own_inA hoC fun x h1 h2 => .inr ⟨h1, h2⟩⟩
          have HMA : Hid (wr.heap.size ≤ M ∧ M < w7.heap.size) := ⟨hMb, blk_lt hM⟩
          have HB7 : Hid (Below wr.heap.size wr w7) := hB7
          clear hM hoP hoC hMb hB7 m0 m3 hmk r1
          go_wp2_with fail
          refine (lw_open HL7.out q (by have := HF.out.rd; omega)).mono ?_
          rintro e w8 ⟨hC8, hOp⟩
          have HV8 : Hid (Vn (fun x => A x ∨ (wr.heap.size ≤ x ∧ x < w7.heap.size)) N (.slice po J.n.p.length pc) (.slice co J.n.c.length cc) J.n w8) := HV7.out.chA hC8
          have HC8 : Hid (ChA wz (fun x => A x ∨ (wr.heap.size ≤ x ∧ x < w7.heap.size)) w7 w8) := hC8
          have HNC : Hid (∀ wx, ChA wz (fun x => A x ∨ (wr.heap.size ≤ x ∧ x < w7.heap.size)) w8 wx → wx.cell? ⟨N, 0, none⟩ = some (.int .i64 J.n.b) ∧ wx.cell? ⟨N, 1, none⟩ = some (.slice po J.n.p.length pc) ∧ wx.cell? ⟨N, 2, none⟩ = some (.slice co J.n.c.length cc) ∧ wx.cell? ⟨N, 3, none⟩ = some (.int .i64 J.n.a)) := fun wx hc => by
            have hb := (HV8.out.chA hc).blk
            exact ⟨by rw [blk_cell hb]; rfl, by rw [blk_cell hb]; rfl, by rw [blk_cell hb]; rfl, by rw [blk_cell hb]; rfl⟩
          by_cases hpq : p = q
          · subst hpq
            obtain ⟨o1, o2⟩ := HF.out.gd.opn (by omega)
            rcases hOp with ⟨hne, _⟩ | ⟨h', g', n', jb', _, hop, rfl, hL8⟩
            · exact absurd o1 hne
            rw [HF.out.gd.found] at hop
            simp only [Option.some.injEq, Prod.mk.injEq] at hop
            obtain ⟨rfl, rfl, rfl⟩ := hop
            have HL8 := hidH hL8
            have hpp : ((p : Int) == (p : Int)) = true := by simp
            clear hL8 hC8 o1 o2
            go_wp2_with fail
            refine wp_region_noPanic ?_
            refine wp_region_held_drew (S := fun wx => wx.cell? ⟨N, 0, none⟩ = some (.int .i64 J.n.b) ∧ wx.cell? ⟨N, 1, none⟩ = some (.slice po J.n.p.length pc) ∧ wx.cell? ⟨N, 2, none⟩ = some (.slice co J.n.c.length cc) ∧ wx.cell? ⟨N, 3, none⟩ = some (.int .i64 J.n.a)) (by kernel_rfl) ?_ (fun hHeld => ?_)
            · exact (HNC.out _ (Ch.of_below (below_drewN w8 1)))
            refine wpAnyH_take (i := 0) (oi := ⟨some 88, _, _, _, _, _⟩) (v := ?_) rfl (by kernel_rfl) (by kernel_rfl) (by kernel_rfl) (fun _ _ _ h => h) (Or.inl ⟨by rfl, ?_⟩) hHeld ?_
            rotate_left
            · intro w hSw; (try dsimp only at hSw); go_simp; all_goals (with_reducible rfl)
            try simp only [Act.put, List.setIfInBounds_toArray, List.set_cons_zero, List.set_cons_succ]
            refine wpAnyH_take (i := 1) (oi := ⟨some 89, _, _, _, _, _⟩) (v := ?_) rfl (by kernel_rfl) (by kernel_rfl) (by kernel_rfl) (fun _ _ _ h => h) (Or.inl ⟨by rfl, ?_⟩) hHeld ?_
            rotate_left
            · intro w hSw; (try dsimp only at hSw); go_simp; all_goals (with_reducible rfl)
            try simp only [Act.put, List.setIfInBounds_toArray, List.set_cons_zero, List.set_cons_succ]
            refine wpAnyH_take (i := 2) (oi := ⟨some 90, _, _, _, _, _⟩) (v := ?_) rfl (by kernel_rfl) (by kernel_rfl) (by kernel_rfl) (fun _ _ _ h => h) (Or.inl ⟨by rfl, ?_⟩) hHeld ?_
            rotate_left
            · intro w hSw; (try dsimp only at hSw); go_simp; all_goals (with_reducible rfl)
            try simp only [Act.put, List.setIfInBounds_toArray, List.set_cons_zero, List.set_cons_succ]
            refine wpAnyH_take (i := 3) (oi := ⟨some 91, _, _, _, _, _⟩) (v := ?_) rfl (by kernel_rfl) (by kernel_rfl) (by kernel_rfl) (fun _ _ _ h => h) (Or.inl ⟨by rfl, ?_⟩) hHeld ?_
            rotate_left
            · intro w hSw; (try dsimp only at hSw); go_simp; all_goals (with_reducible rfl)
            try simp only [Act.put, List.setIfInBounds_toArray, List.set_cons_zero, List.set_cons_succ]
            refine wpAnyH_take (i := 5) (oi := ⟨some 93, _, _, _, _, _⟩) (v := ?_) rfl (by kernel_rfl) (by kernel_rfl) (by kernel_rfl) (fun _ _ _ h => h) (Or.inl ⟨by rfl, ?_⟩) hHeld ?_
            rotate_left
            · intro w hSw; (try dsimp only at hSw); go_simp; all_goals (with_reducible rfl)
            try simp only [Act.put, List.setIfInBounds_toArray, List.set_cons_zero, List.set_cons_succ]
            refine wpAnyH_ready (rs := [4]) (by kernel_rfl) (by simp) ?_
            refine AllReadyH.cons (o := ⟨some 92, _, _, _, _, _⟩) rfl (fun K hK => ?_) AllReadyH.nil
            go_simp
            refine (lw_note (HL8.out.below (below_drewN w8 1))).mono ?_
            rintro e w9 ⟨pa9, pc9, ca9, cc9, rfl, ho1, ho2, hB9⟩
            have HB9 : Hid (Below w8.heap.size w8 w9) := below_trans (below_drewN w8 1) hB9
            have HP9 : Hid (Nv w9 (.slice pa9 J.n.p.length pc9) J.n.p) := own_nv ho1 (rgt_p64 HF.out.gd.ok.r)
            have HQ9 : Hid (Nv w9 (.slice ca9 J.n.c.length cc9) J.n.c) := own_nv ho2 (rgt_c64 HF.out.gd.ok.r)
            clear ho1 ho2 hB9
            go_simp
            refine hK.out _ _ ?_ (fun hHeld => ?_)
            · exact (HNC.out _ (Ch.of_below HB9.out))
            clear hK K
            try simp only [Act.put, List.setIfInBounds_toArray, List.set_cons_zero, List.set_cons_succ]
            refine wpAnyH_ready (rs := [6]) (by kernel_rfl) (by simp) ?_
            refine AllReadyH.cons (o := ⟨some 94, _, _, _, _, _⟩) rfl (fun K hK => ?_) AllReadyH.nil
            go_simp
            refine (notes_walk (n := J.n) HP9.out HQ9.out ((HV8.out.below HB9.out).p.nv) ((HV8.out.below HB9.out).c.nv)).mono ?_
            rintro e w10 ⟨rfl, hB10⟩
            have HB10 : Hid (Below w8.heap.size w8 w10) := below_trans HB9.out hB10
            clear hB10
            go_simp
            refine hK.out _ _ ?_ (fun hHeld => ?_)
            · exact (HNC.out _ (Ch.of_below HB10.out))
            clear hK K
            try simp only [Act.put, List.setIfInBounds_toArray, List.set_cons_zero, List.set_cons_succ]
            refine wpAnyH_take (i := 7) (oi := ⟨some 95, _, _, _, _, _⟩) (v := ?_) rfl (by kernel_rfl) (by kernel_rfl) (by kernel_rfl) (fun _ _ _ h => h) (Or.inl ⟨by rfl, ?_⟩) hHeld ?_
            rotate_left
            · intro w hSw; (try dsimp only at hSw); go_simp; all_goals (with_reducible rfl)
            try simp only [Act.put, List.setIfInBounds_toArray, List.set_cons_zero, List.set_cons_succ]
            refine wpAnyH_take (i := 8) (oi := ⟨some 6, _, _, _, _, _⟩) (v := ?_) rfl (by kernel_rfl) (by kernel_rfl) (by kernel_rfl) (fun _ _ _ h => h) (Or.inl ⟨by rfl, ?_⟩) hHeld ?_
            rotate_left
            · intro w hSw; (try dsimp only at hSw); go_simp; all_goals (with_reducible rfl)
            try simp only [Act.put, List.setIfInBounds_toArray, List.set_cons_zero, List.set_cons_succ]
            refine wpAnyH_done (by kernel_rfl) ?_ _
            refine NoPanic.normal ?_
            go_wp2_with fail
            go_ret
            exact ⟨rfl, below_trans HBZ.out (HL8.out.bel.trans (HB10.out.mono HL8.out.bel.size))⟩
          · obtain ⟨o1, o2⟩ := HF.out.gd.other (k := q) (by omega) (by omega) (by omega)
            rcases hOp with ⟨_, rfl, hL8⟩ | ⟨h', g', n', jb', hz, _⟩
            rotate_left
            · rw [o1] at hz; exact absurd hz (by decide)
            rw [o1]
            rw [o2] at hL8
            have HL8 := hidH hL8
            have HG8 : Hid (Gd p J (rdK S 2)) := HF.out.gd.rd 2
            have hpp : ((p : Int) == (q : Int)) = false := by simp; omega
            have HM8 : Hid (∀ wx, ChA wz (fun x => A x ∨ (wr.heap.size ≤ x ∧ x < w7.heap.size)) w8 wx → wx.cell? ⟨M, 0, none⟩ = some (.int .i64 (J.n.b + 1)) ∧ wx.cell? ⟨M, 1, none⟩ = some (.slice (some ⟨P, 0, none⟩) q q) ∧ wx.cell? ⟨M, 2, none⟩ = some (.slice (some ⟨C, 0, none⟩) q q) ∧ wx.cell? ⟨M, 3, none⟩ = some (.int .i64 J.n.a)) := fun wx hc => by
              have hb := blk_ch (blk_ch HM.out HC8.out (fun h => h.2 (.inr HMA.out))) hc (fun h => h.2 (.inr HMA.out))
              exact ⟨by rw [blk_cell hb]; rfl, by rw [blk_cell hb]; rfl, by rw [blk_cell hb]; rfl, by rw [blk_cell hb]; rfl⟩
            have HKP8 : Hid (Kl (fun x => A x ∨ (wr.heap.size ≤ x ∧ x < w7.heap.size)) w8 (.slice (some ⟨P, 0, none⟩) q q) (zeros q)) := HKP.out.ch hC8
            have HKC8 : Hid (Kl (fun x => A x ∨ (wr.heap.size ≤ x ∧ x < w7.heap.size)) w8 (.slice (some ⟨C, 0, none⟩) q q) (zeros q)) := HKC.out.ch hC8
            have HNB8 : Hid (-9223372036854775808 ≤ J.n.b + 1 ∧ J.n.b + 1 < 9223372036854775808) := ⟨by have := HF.out.gd.ok.r.b0; omega, by have := HF.out.gd.ok.r.b1; omega⟩
            have HW8 : Hid ((rdK S 2).wr < 9223372036854775800) := by show _ < _; rw [(rdK_same S 2).2.2.2.1]; have := HF.out.wr; omega
            have HSV : Hid (savI J (rdK S 2) p ⟨J.n.b + 1, zeros q, zeros q, J.n.a⟩ = 1 ∧ savJ J (rdK S 2) p ⟨J.n.b + 1, zeros q, zeros q, J.n.a⟩ = J ∧ savS J (rdK S 2) p ⟨J.n.b + 1, zeros q, zeros q, J.n.a⟩ = rdK S 2) := by
              have hn : ¬ (J.o = true ∨ (rdK S 2).down = true) := by rw [HG8.out.no, HG8.out.dn]; simp
              have h1 : rgtB ⟨J.n.b + 1, zeros q, zeros q, J.n.a⟩ p = false := Rgt.no fun h => by have := h.lp; simp only [zeros_len] at this; omega
              exact ⟨(if_neg hn).trans (if_pos h1), (if_neg hn).trans (if_pos h1), (if_neg hn).trans (if_pos h1)⟩
            clear hL8 hC8 o1 o2 hpq
            go_wp2_with fail
            refine wp_region_noPanic ?_
            refine wp_region_held_drew (S := fun wx => (wx.cell? ⟨N, 0, none⟩ = some (.int .i64 J.n.b) ∧ wx.cell? ⟨N, 1, none⟩ = some (.slice po J.n.p.length pc) ∧ wx.cell? ⟨N, 2, none⟩ = some (.slice co J.n.c.length cc) ∧ wx.cell? ⟨N, 3, none⟩ = some (.int .i64 J.n.a)) ∧ (wx.cell? ⟨M, 0, none⟩ = some (.int .i64 (J.n.b + 1)) ∧ wx.cell? ⟨M, 1, none⟩ = some (.slice (some ⟨P, 0, none⟩) q q) ∧ wx.cell? ⟨M, 2, none⟩ = some (.slice (some ⟨C, 0, none⟩) q q) ∧ wx.cell? ⟨M, 3, none⟩ = some (.int .i64 J.n.a))) (by kernel_rfl) ?_ (fun hHeld => ?_)
            · exact ⟨HNC.out _ (Ch.of_below (below_drewN w8 1)), HM8.out _ (Ch.of_below (below_drewN w8 1))⟩
            refine wpAnyH_take (i := 0) (oi := ⟨some 96, _, _, _, _, _⟩) (v := ?_) rfl (by kernel_rfl) (by kernel_rfl) (by kernel_rfl) (fun _ _ _ h => h) (Or.inl ⟨by rfl, ?_⟩) hHeld ?_
            rotate_left
            · intro w hSw; (try dsimp only at hSw); go_simp; all_goals (with_reducible rfl)
            try simp only [Act.put, List.setIfInBounds_toArray, List.set_cons_zero, List.set_cons_succ]
            refine wpAnyH_take (i := 1) (oi := ⟨some 97, _, _, _, _, _⟩) (v := ?_) rfl (by kernel_rfl) (by kernel_rfl) (by kernel_rfl) (fun _ _ _ h => h) (Or.inl ⟨by rfl, ?_⟩) hHeld ?_
            rotate_left
            · intro w hSw; (try dsimp only at hSw); go_simp; all_goals (with_reducible rfl)
            try simp only [Act.put, List.setIfInBounds_toArray, List.set_cons_zero, List.set_cons_succ]
            refine wpAnyH_take (i := 2) (oi := ⟨some 98, _, _, _, _, _⟩) (v := ?_) rfl (by kernel_rfl) (by kernel_rfl) (by kernel_rfl) (fun _ _ _ h => h) (Or.inl ⟨by rfl, ?_⟩) hHeld ?_
            rotate_left
            · intro w hSw; (try dsimp only at hSw); go_simp; all_goals (with_reducible rfl)
            try simp only [Act.put, List.setIfInBounds_toArray, List.set_cons_zero, List.set_cons_succ]
            refine wpAnyH_take (i := 3) (oi := ⟨some 99, _, _, _, _, _⟩) (v := ?_) rfl (by kernel_rfl) (by kernel_rfl) (by kernel_rfl) (fun _ _ _ h => h) (Or.inl ⟨by rfl, ?_⟩) hHeld ?_
            rotate_left
            · intro w hSw; (try dsimp only at hSw); go_simp; all_goals (with_reducible rfl)
            try simp only [Act.put, List.setIfInBounds_toArray, List.set_cons_zero, List.set_cons_succ]
            refine wpAnyH_take (i := 4) (oi := ⟨some 100, _, _, _, _, _⟩) (v := ?_) rfl (by kernel_rfl) (by kernel_rfl) (by kernel_rfl) (fun _ _ _ h => h) (Or.inl ⟨by rfl, ?_⟩) hHeld ?_
            rotate_left
            · intro w hSw; (try dsimp only at hSw); go_simp; all_goals (with_reducible rfl)
            try simp only [Act.put, List.setIfInBounds_toArray, List.set_cons_zero, List.set_cons_succ]
            refine wpAnyH_take (i := 5) (oi := ⟨some 101, _, _, _, _, _⟩) (v := ?_) rfl (by kernel_rfl) (by kernel_rfl) (by kernel_rfl) (fun _ _ _ h => h) (Or.inl ⟨by rfl, ?_⟩) hHeld ?_
            rotate_left
            · intro w hSw; (try dsimp only at hSw); go_simp; all_goals (with_reducible rfl)
            try simp only [Act.put, List.setIfInBounds_toArray, List.set_cons_zero, List.set_cons_succ]
            refine wpAnyH_take (i := 6) (oi := ⟨some 102, _, _, _, _, _⟩) (v := ?_) rfl (by kernel_rfl) (by kernel_rfl) (by kernel_rfl) (fun _ _ _ h => h) (Or.inl ⟨by rfl, ?_⟩) hHeld ?_
            rotate_left
            · intro w hSw; (try dsimp only at hSw); go_simp; all_goals (with_reducible rfl)
            try simp only [Act.put, List.setIfInBounds_toArray, List.set_cons_zero, List.set_cons_succ]
            refine wpAnyH_take (i := 7) (oi := ⟨some 103, _, _, _, _, _⟩) (v := ?_) rfl (by kernel_rfl) (by kernel_rfl) (by kernel_rfl) (fun _ _ _ h => h) (Or.inl ⟨by rfl, ?_⟩) hHeld ?_
            rotate_left
            · intro w hSw; (try dsimp only at hSw); go_simp; all_goals (with_reducible rfl)
            try simp only [Act.put, List.setIfInBounds_toArray, List.set_cons_zero, List.set_cons_succ]
            refine wpAnyH_take (i := 8) (oi := ⟨some 104, _, _, _, _, _⟩) (v := ?_) rfl (by kernel_rfl) (by kernel_rfl) (by kernel_rfl) (fun _ _ _ h => h) (Or.inl ⟨by rfl, ?_⟩) hHeld ?_
            rotate_left
            · intro w hSw; (try dsimp only at hSw); go_simp; all_goals (with_reducible rfl)
            try simp only [Act.put, List.setIfInBounds_toArray, List.set_cons_zero, List.set_cons_succ]
            refine wpAnyH_ready (rs := [9]) (by kernel_rfl) (by simp) ?_
            refine AllReadyH.cons (o := ⟨some 105, _, _, _, _, _⟩) rfl (fun K hK => ?_) AllReadyH.nil
            go_simp
            refine (lw_save (n := ⟨J.n.b + 1, zeros q, zeros q, J.n.a⟩) (HL8.out.below (below_drewN w8 1)) (HKP8.out.nv.below (below_drewN w8 1)) (HKC8.out.nv.below (below_drewN w8 1)) HNB8.out HW8.out).mono ?_
            rintro e w9 ⟨he, hL9, hC9⟩
            rw [HSV.out.1] at he
            rw [HSV.out.2.1, HSV.out.2.2] at hL9
            subst he
            have HL9 := hidH hL9
            have HC9 : Hid (ChA wz (fun x => A x ∨ (wr.heap.size ≤ x ∧ x < w7.heap.size)) w8 w9) := (Ch.of_below (D := fun x => wz.heap.size ≤ x ∧ ¬ (fun x => A x ∨ (wr.heap.size ≤ x ∧ x < w7.heap.size)) x) (below_drewN w8 1)).self hC9
            clear hL9 hC9
            go_simp
            refine hK.out _ _ ?_ (fun hHeld => ?_)
            · exact ⟨HNC.out _ HC9.out, HM8.out _ HC9.out⟩
            clear hK K
            try simp only [Act.put, List.setIfInBounds_toArray, List.set_cons_zero, List.set_cons_succ]
            refine wpAnyH_take (i := 10) (oi := ⟨some 106, _, _, _, _, _⟩) (v := ?_) rfl (by kernel_rfl) (by kernel_rfl) (by kernel_rfl) (fun _ _ _ h => h) (Or.inl ⟨by rfl, ?_⟩) hHeld ?_
            rotate_left
            · intro w hSw; (try dsimp only at hSw); go_simp; all_goals (with_reducible rfl)
            try simp only [Act.put, List.setIfInBounds_toArray, List.set_cons_zero, List.set_cons_succ]
            refine wpAnyH_take (i := 11) (oi := ⟨some 107, _, _, _, _, _⟩) (v := ?_) rfl (by kernel_rfl) (by kernel_rfl) (by kernel_rfl) (fun _ _ _ h => h) (Or.inl ⟨by rfl, ?_⟩) hHeld ?_
            rotate_left
            · intro w hSw; (try dsimp only at hSw); go_simp; all_goals (with_reducible rfl)
            try simp only [Act.put, List.setIfInBounds_toArray, List.set_cons_zero, List.set_cons_succ]
            refine wpAnyH_take (i := 12) (oi := ⟨some 108, _, _, _, _, _⟩) (v := ?_) rfl (by kernel_rfl) (by kernel_rfl) (by kernel_rfl) (fun _ _ _ h => h) (Or.inl ⟨by rfl, ?_⟩) hHeld ?_
            rotate_left
            · intro w hSw; (try dsimp only at hSw); go_simp; all_goals (with_reducible rfl)
            try simp only [Act.put, List.setIfInBounds_toArray, List.set_cons_zero, List.set_cons_succ]
            refine wpAnyH_take (i := 13) (oi := ⟨some 109, _, _, _, _, _⟩) (v := ?_) rfl (by kernel_rfl) (by kernel_rfl) (by kernel_rfl) (fun _ _ _ h => h) (Or.inl ⟨by rfl, ?_⟩) hHeld ?_
            rotate_left
            · intro w hSw; (try dsimp only at hSw); go_simp; all_goals (with_reducible rfl)
            try simp only [Act.put, List.setIfInBounds_toArray, List.set_cons_zero, List.set_cons_succ]
            refine wpAnyH_take (i := 15) (oi := ⟨some 111, _, _, _, _, _⟩) (v := ?_) rfl (by kernel_rfl) (by kernel_rfl) (by kernel_rfl) (fun _ _ _ h => h) (Or.inl ⟨by rfl, ?_⟩) hHeld ?_
            rotate_left
            · intro w hSw; (try dsimp only at hSw); go_simp; all_goals (with_reducible rfl)
            try simp only [Act.put, List.setIfInBounds_toArray, List.set_cons_zero, List.set_cons_succ]
            refine wpAnyH_ready (rs := [14]) (by kernel_rfl) (by simp) ?_
            refine AllReadyH.cons (o := ⟨some 110, _, _, _, _, _⟩) rfl (fun K hK => ?_) AllReadyH.nil
            go_simp
            refine (lw_note HL9.out).mono ?_
            rintro e w10 ⟨pa9, pc9, ca9, cc9, rfl, ho1, ho2, hB10⟩
            have HB10 : Hid (Below w9.heap.size w9 w10) := hB10
            have HP9 : Hid (Nv w10 (.slice pa9 J.n.p.length pc9) J.n.p) := own_nv ho1 (rgt_p64 HF.out.gd.ok.r)
            have HQ9 : Hid (Nv w10 (.slice ca9 J.n.c.length cc9) J.n.c) := own_nv ho2 (rgt_c64 HF.out.gd.ok.r)
            have HC10 : Hid (ChA wz (fun x => A x ∨ (wr.heap.size ≤ x ∧ x < w7.heap.size)) w8 w10) := HC9.out.self (Ch.of_below hB10)
            clear ho1 ho2 hB10
            go_simp
            refine hK.out _ _ ?_ (fun hHeld => ?_)
            · exact ⟨HNC.out _ HC10.out, HM8.out _ HC10.out⟩
            clear hK K
            try simp only [Act.put, List.setIfInBounds_toArray, List.set_cons_zero, List.set_cons_succ]
            refine wpAnyH_ready (rs := [16]) (by kernel_rfl) (by simp) ?_
            refine AllReadyH.cons (o := ⟨some 112, _, _, _, _, _⟩) rfl (fun K hK => ?_) AllReadyH.nil
            go_simp
            refine (notes_walk (n := J.n) HP9.out HQ9.out ((HV8.out.chA HC10.out).p.nv) ((HV8.out.chA HC10.out).c.nv)).mono ?_
            rintro e w11 ⟨rfl, hB11⟩
            have HB11 : Hid (Below w9.heap.size w9 w11) := below_trans HB10.out hB11
            have HC11 : Hid (ChA wz (fun x => A x ∨ (wr.heap.size ≤ x ∧ x < w7.heap.size)) w8 w11) := HC9.out.self (Ch.of_below HB11.out)
            clear hB11
            go_simp
            refine hK.out _ _ ?_ (fun hHeld => ?_)
            · exact ⟨HNC.out _ HC11.out, HM8.out _ HC11.out⟩
            clear hK K
            try simp only [Act.put, List.setIfInBounds_toArray, List.set_cons_zero, List.set_cons_succ]
            refine wpAnyH_take (i := 17) (oi := ⟨some 113, _, _, _, _, _⟩) (v := ?_) rfl (by kernel_rfl) (by kernel_rfl) (by kernel_rfl) (fun _ _ _ h => h) (Or.inl ⟨by rfl, ?_⟩) hHeld ?_
            rotate_left
            · intro w hSw; (try dsimp only at hSw); go_simp; all_goals (with_reducible rfl)
            try simp only [Act.put, List.setIfInBounds_toArray, List.set_cons_zero, List.set_cons_succ]
            refine wpAnyH_take (i := 18) (oi := ⟨some 6, _, _, _, _, _⟩) (v := ?_) rfl (by kernel_rfl) (by kernel_rfl) (by kernel_rfl) (fun _ _ _ h => h) (Or.inl ⟨by rfl, ?_⟩) hHeld ?_
            rotate_left
            · intro w hSw; (try dsimp only at hSw); go_simp; all_goals (with_reducible rfl)
            try simp only [Act.put, List.setIfInBounds_toArray, List.set_cons_zero, List.set_cons_succ]
            refine wpAnyH_done (by kernel_rfl) ?_ _
            refine NoPanic.normal ?_
            go_wp2_with fail
            go_ret
            exact ⟨rfl, below_trans HBZ.out (HL9.out.bel.trans (HB11.out.mono HL9.out.bel.size))⟩
end Go.Proofs.Ytcbkeicgnfgpnaa


