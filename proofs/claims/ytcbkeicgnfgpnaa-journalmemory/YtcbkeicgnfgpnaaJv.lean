/- JournalMemory, walked. -/
import Derived.Test.YtcbkeicgnfgpnaaJu

namespace Go.Proofs.Ytcbkeicgnfgpnaa

open Ieee Go.RowKit

set_option maxRecDepth 100000 in
set_option maxHeartbeats 32000000 in
theorem journalmemory_walk {w : World} {tv : Value} {ts : List Tr} (a0 : Int) (ht : Tus w tv ts) :
    Calls Try.prog 7 #[.int .i64 a0, tv] w fun e w' => e = .returned (.bool true) ∧ Below w.heap.size w w' := by
  have HT : Hid (Tus w tv ts) := ht
  obtain ⟨ta, tc, rfl, htl, htm, _⟩ := ht
  have htl : (ts.length : Int) ≤ 9223372036854775807 := by unfold maxLen at htm; omega
  obtain ⟨p, hp1, hp4, hp⟩ := p4_of a0
  obtain ⟨h00, h03⟩ := d4_le a0
  have s0 : (IntKind.u64.wrap a0).tmod 4 = d4 a0 := rfl
  have s0' : (IntKind.u64.wrap a0) % 4 = d4 a0 := d4_mod a0
  generalize d4 a0 = x0 at hp h00 h03 s0 s0'
  have s2 : IntKind.i64.wrap x0 = x0 := wrapU h00 (by omega)
  have s4 : IntKind.i64.wrap (1 + x0) = (p : Int) := by rw [hp]; exact wrapU (by omega) (by omega)
  clear hp h00 h03 htm
  go_enter Try.func7, Try.ntmps7
  go_wp2_with fail
  refine (awake18_walk w).mono ?_
  rintro e wz ⟨rfl, hBz⟩
  have HBZ : Hid (Below w.heap.size w wz) := hBz
  have HTZ : Hid (Tus wz (.slice ta ts.length tc) ts) := HT.out.below hBz
  clear hBz
  go_wp2_with fail
  refine (new_walk (n := 2) (by omega) (by omega)).mono ?_
  rintro e w1 ⟨v, D1, rfl, hD1, hB1, hx1⟩
  obtain ⟨sb, hv⟩ : ∃ sb, v = .pointer (some ⟨sb, 0, none⟩) := by obtain ⟨sb, _, _, e, _⟩ := hD1; exact ⟨sb, e⟩
  subst hv
  have HD1 : Hid (Dsk 79 D1 w1 (.pointer (some ⟨sb, 0, none⟩)) (loadS (List.replicate 2 []))) := hD1
  have HB1 : Hid (Below wz.heap.size wz w1 ∧ ∀ x, D1 x → wz.heap.size ≤ x) := ⟨hB1, hx1⟩
  clear hD1 hB1 hx1 s0 s0' s2 s4
  go_wp2_with fail
  refine (lw_format HD1.out HB1.out.1 HB1.out.2 (by show (0 : Nat) < _; omega) p).mono ?_
  obtain ⟨g0, g1, g2, g3⟩ := gd_new hp1 hp4
  rintro e w2 ⟨hb2, ⟨hne, _⟩ | ⟨_, jb, rfl, hL2⟩⟩
  · exact absurd g0 hne
  rw [Int.toNat_natCast] at hL2
  have HL2 : Hid (Lw wz (fun _ => False) sb jb p ⟨1, n0 p, 0, false⟩ (fmtS (loadS (List.replicate 2 [])) p) w2) := hL2
  have HG2 : Hid (Gd p ⟨1, n0 p, 0, false⟩ (fmtS (loadS (List.replicate 2 [])) p)) := g3
  have HWR2 : Hid ((fmtS (loadS (List.replicate 2 [])) p).wr = 2 ∧ (fmtS (loadS (List.replicate 2 [])) p).rd = 0) := ⟨g1, g2⟩
  clear hL2 hb2 g0 g1 g2 g3 HD1 HB1
  go_wp2_with fail
  refine (lw_note HL2.out).mono ?_
  rintro e w3 ⟨pa, pc, ca, cc, rfl, ho1, ho2, hB3⟩
  have HST : Hid (∃ A J S pv cv, Fit wz A sb jb w3.heap.size p 0 J S pv cv (w3.alloc (Obj.cells #[.int .i64 (n0 p).b, .slice pa (n0 p).p.length pc, .slice ca (n0 p).c.length cc, .int .i64 (n0 p).a] 41))) := by
    have hs := alloc_size w3 (Obj.cells #[.int .i64 (n0 p).b, .slice pa (n0 p).p.length pc, .slice ca (n0 p).c.length cc, .int .i64 (n0 p).a] 41)
    have hb := below_trans hB3 (below_alloc w3 (Obj.cells #[.int .i64 (n0 p).b, .slice pa (n0 p).p.length pc, .slice ca (n0 p).c.length cc, .int .i64 (n0 p).a] 41))
    have hz := HL2.out.bel.size
    refine ⟨_, _, _, _, _, ⟨HL2.out.more hb, HG2.out, ⟨.inr ⟨hB3.size, by rw [hs]; omega⟩, alloc_at rfl, ⟨(own_nv ho1 (zeros_in64 p)).below (below_alloc _ _), own_inA ho1 fun x h1 h2 => ⟨.inr ⟨h1, by rw [hs]; omega⟩, by omega⟩⟩, ⟨(own_nv ho2 (zeros_in64 p)).below (below_alloc _ _), own_inA ho2 fun x h1 h2 => ⟨.inr ⟨h1, by rw [hs]; omega⟩, by omega⟩⟩⟩, by show 1 ≤ _; omega, by show (0 : Int) ≤ _; omega, by show (0 : Int) ≤ _; omega, by rw [HWR2.out.1]; omega, by rw [HWR2.out.2]; omega, fun x hx => ?_⟩⟩
    rcases hx with hx | hx
    · exact hx.elim
    · omega
  clear ho1 ho2 hB3
  go_wp2_with fail
  generalize w3.alloc (Obj.cells #[.int .i64 (n0 p).b, .slice pa (n0 p).p.length pc, .slice ca (n0 p).c.length cc, .int .i64 (n0 p).a] 41) = w4 at HST ⊢
  go_loopw [11] (fun iv wr => ∃ k : Nat, k ≤ ts.length ∧ k ≤ 60 ∧ iv = .int .i64 k ∧ ∃ A J S pv cv, Fit wz A sb jb w3.heap.size p k J S pv cv wr) (fun iv _ => ts.length - (intOf iv).toNat)
  case atStart => exact ⟨0, Nat.zero_le _, by omega, rfl, HST.out⟩
  case round =>
    clear HST
    obtain ⟨k, hk, hk60, rfl, A, J, S, pv, cv, hF⟩ := hrel
    generalize w3.heap.size = N at hF ⊢
    have HF : Hid (Fit wz A sb jb N p k J S pv cv wr) := hF
    obtain ⟨po, pc, co, cc, rfl, rfl⟩ := hF.vn.forms
    clear hF
    by_cases hlt : k < ts.length ∧ k < 60
    · obtain ⟨hk1, hk2⟩ := hlt
      have hk1i : (k : Int) < (ts.length : Int) := by omega
      have hk2i : (k : Int) < 60 := by omega
      obtain ⟨ao, cap, e0, _, _, hcell⟩ := HTZ.out.below HF.out.lw.bel
      simp only [Value.slice.injEq] at e0
      obtain ⟨tb, toff, ov, e1, t0, t1, t2, t3, t4, hov⟩ := hcell k hk1
      obtain rfl : ta = some ⟨tb, toff, none⟩ := e0.1.trans e1
      clear e0 hcell
      obtain ⟨oo, oc, rfl, _⟩ := hov.form
      have HOV : Hid (Nv wr (.slice oo (tth ts k).on.length oc) (tth ts k).on) := hov
      generalize tth ts k = t at t0 t1 t2 t3 t4 HOV
      have HRG : Hid (Rgt J.n p) := HF.out.gd.ok.r
      have c0 : wr.drew.cell? ⟨N, 0, none⟩ = some (.int .i64 J.n.b) := by rw [blk_cell (blk_below HF.out.vn.blk (below_drew wr))]; rfl
      have c1 : wr.drew.cell? ⟨N, 1, none⟩ = some (.slice po J.n.p.length pc) := by rw [blk_cell (blk_below HF.out.vn.blk (below_drew wr))]; rfl
      have c2 : wr.drew.cell? ⟨N, 2, none⟩ = some (.slice co J.n.c.length cc) := by rw [blk_cell (blk_below HF.out.vn.blk (below_drew wr))]; rfl
      have c3 : wr.drew.cell? ⟨N, 3, none⟩ = some (.int .i64 J.n.a) := by rw [blk_cell (blk_below HF.out.vn.blk (below_drew wr))]; rfl
      have y0 := ((below_drew wr).cell (p := ⟨tb, toff + k * 5, none⟩) (cell_lt t0)).trans t0
      have y1 := ((below_drew wr).cell (p := ⟨tb, toff + k * 5 + 1, none⟩) (cell_lt t1)).trans t1
      have y2 := ((below_drew wr).cell (p := ⟨tb, toff + k * 5 + 2, none⟩) (cell_lt t2)).trans t2
      have y3 := ((below_drew wr).cell (p := ⟨tb, toff + k * 5 + 3, none⟩) (cell_lt t3)).trans t3
      have y4 := ((below_drew wr).cell (p := ⟨tb, toff + k * 5 + 4, none⟩) (cell_lt t4)).trans t4
      clear t0 t1 t2 t3 t4 hov e1
      go_wp2_with fail
      go_cut [57] (fun _ wx => ∃ (E : Nat → Prop) (p' c' : Value), Lw wz E sb jb p J S wx ∧ Vn E N p' c' (nxtN J.n t) wx ∧ ∀ x, E x → wz.heap.size ≤ x)
      case first =>
        refine wp_region_noPanic ?_
        refine wp_region_held_drew (S := fun _ => True) (by kernel_rfl) ?_ (fun hHeld => ?_)
        · exact trivial
        refine wpAnyH_take (i := 1) (oi := ⟨some 53, _, _, _, _, _⟩) (v := ?_) rfl (by kernel_rfl) (by kernel_rfl) (by kernel_rfl) (fun _ _ _ h => h) (Or.inl ⟨by rfl, ?_⟩) hHeld ?_
        rotate_left
        · intro w hSw; (try dsimp only at hSw); go_simp; all_goals (with_reducible rfl)
        try simp only [Act.put, List.setIfInBounds_toArray, List.set_cons_zero, List.set_cons_succ]
        refine wpAnyH_take (i := 2) (oi := ⟨some 54, _, _, _, _, _⟩) (v := ?_) rfl (by kernel_rfl) (by kernel_rfl) (by kernel_rfl) (fun _ _ _ h => h) (Or.inl ⟨by rfl, ?_⟩) hHeld ?_
        rotate_left
        · intro w hSw; (try dsimp only at hSw); go_simp; all_goals (with_reducible rfl)
        try simp only [Act.put, List.setIfInBounds_toArray, List.set_cons_zero, List.set_cons_succ]
        refine wpAnyH_take (i := 3) (oi := ⟨some 55, _, _, _, _, _⟩) (v := ?_) rfl (by kernel_rfl) (by kernel_rfl) (by kernel_rfl) (fun _ _ _ h => h) (Or.inl ⟨by rfl, ?_⟩) hHeld ?_
        rotate_left
        · intro w hSw; (try dsimp only at hSw); go_simp; all_goals (with_reducible rfl)
        try simp only [Act.put, List.setIfInBounds_toArray, List.set_cons_zero, List.set_cons_succ]
        refine wpAnyH_ready (rs := [0, 4]) (by kernel_rfl) (by simp) ?_
        refine AllReadyH.cons (o := ⟨some 52, _, _, _, _, _⟩) rfl (fun K hK => ?_) (AllReadyH.cons (o := ⟨some 56, _, _, _, _, _⟩) rfl (fun K hK => ?_) AllReadyH.nil)
        · go_simp
          refine hK.out _ _ ?_ (fun hHeld => ?_)
          · exact trivial
          clear hK K
          try simp only [Act.put, List.setIfInBounds_toArray, List.set_cons_zero, List.set_cons_succ]
          refine wpAnyH_ready (rs := [4]) (by kernel_rfl) (by simp) ?_
          refine AllReadyH.cons (o := ⟨some 56, _, _, _, _, _⟩) rfl (fun K hK => ?_) AllReadyH.nil
          go_simp
          refine hK.out _ _ ?_ (fun hHeld => ?_)
          · exact trivial
          clear hK K
          try simp only [Act.put, List.setIfInBounds_toArray, List.set_cons_zero, List.set_cons_succ]
          refine wpAnyH_ready (rs := [5]) (by kernel_rfl) (by simp) ?_
          refine AllReadyH.cons (o := ⟨some 57, _, _, _, _, _⟩) rfl (fun K hK => ?_) AllReadyH.nil
          go_simp
          refine (next_walk (n := J.n) (t := t) (q := p) ((HF.out.vn.p.nv).below (below_drew wr)) ((HF.out.vn.c.nv).below (below_drew wr)) (HOV.out.below (below_drew wr)) HRG.out (by omega) (by omega) (by have := HF.out.b; omega) (by have := HF.out.a; omega)).mono ?_
          rintro e w5 ⟨p', c', rfl, hp5, hc5, hB5, hA5⟩
          obtain ⟨hl5, hv5, hb5⟩ := HF.out.step (t := t) (below_trans (below_drew wr) hB5) hp5 hc5 hA5
          obtain ⟨po5, pc5, co5, cc5, rfl, rfl⟩ := hv5.forms
          have z0 : w5.cell? ⟨N, 0, none⟩ = some (.int .i64 J.n.b) := by rw [blk_cell (blk_below HF.out.vn.blk (below_trans (below_drew wr) hB5))]; rfl
          have z1 : w5.cell? ⟨N, 1, none⟩ = some (.slice po J.n.p.length pc) := by rw [blk_cell (blk_below HF.out.vn.blk (below_trans (below_drew wr) hB5))]; rfl
          have z2 : w5.cell? ⟨N, 2, none⟩ = some (.slice co J.n.c.length cc) := by rw [blk_cell (blk_below HF.out.vn.blk (below_trans (below_drew wr) hB5))]; rfl
          have z3 : w5.cell? ⟨N, 3, none⟩ = some (.int .i64 J.n.a) := by rw [blk_cell (blk_below HF.out.vn.blk (below_trans (below_drew wr) hB5))]; rfl
          have zf0 : w5.frozen? ⟨N, 0, none⟩ = false := blk_soft (blk_below HF.out.vn.blk (below_trans (below_drew wr) hB5)) 0
          have zf1 : w5.frozen? ⟨N, 1, none⟩ = false := blk_soft (blk_below HF.out.vn.blk (below_trans (below_drew wr) hB5)) 1
          have zf2 : w5.frozen? ⟨N, 2, none⟩ = false := blk_soft (blk_below HF.out.vn.blk (below_trans (below_drew wr) hB5)) 2
          have zf3 : w5.frozen? ⟨N, 3, none⟩ = false := blk_soft (blk_below HF.out.vn.blk (below_trans (below_drew wr) hB5)) 3
          clear hp5 hc5 hB5 hA5
          go_simp
          refine hK.out _ _ ?_ (fun hHeld => ?_)
          · exact trivial
          clear hK K
          try simp only [Act.put, List.setIfInBounds_toArray, List.set_cons_zero, List.set_cons_succ]
          refine wpAnyH_ready (rs := [6]) (by kernel_rfl) (by simp) ?_
          refine AllReadyH.cons (o := ⟨none, _, _, _, _, _⟩) rfl (fun K hK => ?_) AllReadyH.nil
          go_simp
          refine hK.out _ _ ?_ (fun hHeld => ?_)
          · exact trivial
          clear hK K
          try simp only [Act.put, List.setIfInBounds_toArray, List.set_cons_zero, List.set_cons_succ]
          refine wpAnyH_done (by kernel_rfl) ?_ _
          refine NoPanic.normal ?_
          go_wp2_with fail
          go_meet
          exact ⟨_, _, _, hl5, hv5, hb5⟩
        · go_simp
          refine hK.out _ _ ?_ (fun hHeld => ?_)
          · exact trivial
          clear hK K
          try simp only [Act.put, List.setIfInBounds_toArray, List.set_cons_zero, List.set_cons_succ]
          refine wpAnyH_ready (rs := [0]) (by kernel_rfl) (by simp) ?_
          refine AllReadyH.cons (o := ⟨some 52, _, _, _, _, _⟩) rfl (fun K hK => ?_) AllReadyH.nil
          go_simp
          refine hK.out _ _ ?_ (fun hHeld => ?_)
          · exact trivial
          clear hK K
          try simp only [Act.put, List.setIfInBounds_toArray, List.set_cons_zero, List.set_cons_succ]
          refine wpAnyH_ready (rs := [5]) (by kernel_rfl) (by simp) ?_
          refine AllReadyH.cons (o := ⟨some 57, _, _, _, _, _⟩) rfl (fun K hK => ?_) AllReadyH.nil
          go_simp
          refine (next_walk (n := J.n) (t := t) (q := p) ((HF.out.vn.p.nv).below (below_drew wr)) ((HF.out.vn.c.nv).below (below_drew wr)) (HOV.out.below (below_drew wr)) HRG.out (by omega) (by omega) (by have := HF.out.b; omega) (by have := HF.out.a; omega)).mono ?_
          rintro e w5 ⟨p', c', rfl, hp5, hc5, hB5, hA5⟩
          obtain ⟨hl5, hv5, hb5⟩ := HF.out.step (t := t) (below_trans (below_drew wr) hB5) hp5 hc5 hA5
          obtain ⟨po5, pc5, co5, cc5, rfl, rfl⟩ := hv5.forms
          have z0 : w5.cell? ⟨N, 0, none⟩ = some (.int .i64 J.n.b) := by rw [blk_cell (blk_below HF.out.vn.blk (below_trans (below_drew wr) hB5))]; rfl
          have z1 : w5.cell? ⟨N, 1, none⟩ = some (.slice po J.n.p.length pc) := by rw [blk_cell (blk_below HF.out.vn.blk (below_trans (below_drew wr) hB5))]; rfl
          have z2 : w5.cell? ⟨N, 2, none⟩ = some (.slice co J.n.c.length cc) := by rw [blk_cell (blk_below HF.out.vn.blk (below_trans (below_drew wr) hB5))]; rfl
          have z3 : w5.cell? ⟨N, 3, none⟩ = some (.int .i64 J.n.a) := by rw [blk_cell (blk_below HF.out.vn.blk (below_trans (below_drew wr) hB5))]; rfl
          have zf0 : w5.frozen? ⟨N, 0, none⟩ = false := blk_soft (blk_below HF.out.vn.blk (below_trans (below_drew wr) hB5)) 0
          have zf1 : w5.frozen? ⟨N, 1, none⟩ = false := blk_soft (blk_below HF.out.vn.blk (below_trans (below_drew wr) hB5)) 1
          have zf2 : w5.frozen? ⟨N, 2, none⟩ = false := blk_soft (blk_below HF.out.vn.blk (below_trans (below_drew wr) hB5)) 2
          have zf3 : w5.frozen? ⟨N, 3, none⟩ = false := blk_soft (blk_below HF.out.vn.blk (below_trans (below_drew wr) hB5)) 3
          clear hp5 hc5 hB5 hA5
          go_simp
          refine hK.out _ _ ?_ (fun hHeld => ?_)
          · exact trivial
          clear hK K
          try simp only [Act.put, List.setIfInBounds_toArray, List.set_cons_zero, List.set_cons_succ]
          refine wpAnyH_ready (rs := [6]) (by kernel_rfl) (by simp) ?_
          refine AllReadyH.cons (o := ⟨none, _, _, _, _, _⟩) rfl (fun K hK => ?_) AllReadyH.nil
          go_simp
          refine hK.out _ _ ?_ (fun hHeld => ?_)
          · exact trivial
          clear hK K
          try simp only [Act.put, List.setIfInBounds_toArray, List.set_cons_zero, List.set_cons_succ]
          refine wpAnyH_done (by kernel_rfl) ?_ _
          refine NoPanic.normal ?_
          go_wp2_with fail
          go_meet
          exact ⟨_, _, _, hl5, hv5, hb5⟩
      case rest =>
        obtain ⟨E, p', c', hL, hV, hE⟩ := hcut
        obtain ⟨po5, pc5, co5, cc5, rfl, rfl⟩ := hV.forms
        obtain ⟨w5, hw5⟩ : ∃ w5, w5 = wc := ⟨_, rfl⟩
        subst hw5
        obtain ⟨m, hm⟩ : ∃ m, m = nxtN J.n t := ⟨_, rfl⟩
        have HRM : Hid (Rgt m p) := by show Rgt _ _; rw [hm]; exact HF.out.rn (by omega)
        have hlp : m.p.length = p := by have := HRM.out.lp; omega
        have hlc : m.c.length = p := by have := HRM.out.lc; omega
        have HNB : Hid (-9223372036854775808 ≤ m.b ∧ m.b < 9223372036854775808) := by have h1 := HRM.out.b0; have h2 := HRM.out.b1; exact ⟨by omega, by omega⟩
        have HFS : Hid (∀ (p' c' : Value) (w4 : World), Lw wz E sb jb p (savJ J S p m) (savS J S p m) w4 → Vn E N p' c' m w4 → savI J S p m = 0 ∧ savJ J S p m = ⟨J.g + 1, m, 1 - J.h, false⟩ ∧ savS J S p m = putS S (1 - J.h) (bytN (J.g + 1) m) ∧ Fit wz E sb jb N p (k + 1) ⟨J.g + 1, m, 1 - J.h, false⟩ (putS S (1 - J.h) (bytN (J.g + 1) m)) p' c' w4) := fun p' c' w4 h1 h2 => by
          rw [hm] at h1 h2 ⊢
          obtain ⟨e1, e2⟩ := HF.out.saved (by omega) h1 h2 hE
          obtain ⟨_, e3, e4⟩ := HF.out.gd.save (n := nxtN J.n t) (HF.out.rn (by omega)) nxt_fol (by have := HF.out.g; omega)
          exact ⟨e1, e3, e4, e2⟩
        rw [← hm] at hV
        rw [hlp, hlc] at hV
        have HL : Hid (Lw wz E sb jb p J S w5) := hL
        have HV : Hid (Vn E N (.slice po5 p pc5) (.slice co5 p cc5) m w5) := hV
        have HE : Hid (∀ x, E x → wz.heap.size ≤ x) := hE
        have HW5 : Hid (S.wr < 9223372036854775800) := by have := HF.out.wr; show _ < _; omega
        have HEL : Hid (∀ x, E x → x < w5.heap.size) := hL.al
        have HLP : Hid (m.p.length = p) := hlp
        have HLC : Hid (m.c.length = p) := hlc
        have HPP : Hid (p ≤ 4 ∧ 1 ≤ p) := ⟨hp4, hp1⟩
        clear hm hlp hlc c0 c1 c2 c3 y0 y1 y2 y3 y4
        generalize nxtN J.n t = m0
        have c0 : w5.cell? ⟨N, 0, none⟩ = some (.int .i64 m.b) := by rw [blk_cell hV.blk]; rfl
        have c1 : w5.cell? ⟨N, 1, none⟩ = some (.slice po5 p pc5) := by rw [blk_cell hV.blk]; rfl
        have c2 : w5.cell? ⟨N, 2, none⟩ = some (.slice co5 p cc5) := by rw [blk_cell hV.blk]; rfl
        have c3 : w5.cell? ⟨N, 3, none⟩ = some (.int .i64 m.a) := by rw [blk_cell hV.blk]; rfl
        clear hL hV hE
        go_upto_region 14 with fail
        have HB6 : Hid (Below w5.heap.size w5 (w5.alloc (Obj.cells #[.int .i64 m.b, .slice po5 p pc5, .slice co5 p cc5, .int .i64 m.a] 41))) := below_alloc _ _
        have HM6 : Hid ((w5.alloc (Obj.cells #[.int .i64 m.b, .slice po5 p pc5, .slice co5 p cc5, .int .i64 m.a] 41)).heap[w5.heap.size]? = some (.cells #[.int .i64 m.b, .slice po5 p pc5, .slice co5 p cc5, .int .i64 m.a] 41 (0, 0))) := alloc_at rfl
        generalize hw6 : w5.alloc (Obj.cells #[.int .i64 m.b, .slice po5 p pc5, .slice co5 p cc5, .int .i64 m.a] 41) = w6 at HB6 HM6 ⊢
        have HS6 : Hid (w6.heap.size = w5.heap.size + 1) := by show _ = _; rw [← hw6, alloc_size]
        clear hw6 c0 c1 c2 c3
        generalize hM : w5.heap.size = M at HM6 HS6 HEL ⊢
        have HMM : Hid (w5.heap.size = M) := hM
        clear hM
        have HV6 : Hid (Vn E N (.slice po5 p pc5) (.slice co5 p cc5) m w6) := HV.out.below HB6.out
        have HBW6 := hidH HB6.out
        have SZ0 : Hid (M < w6.heap.size) := by have := HS6.out; show _ < _; omega
        have n1 : w6.cell? ⟨N, 1, none⟩ = some (.slice po5 p pc5) := by rw [blk_cell HV6.out.blk]; rfl
        have hnz : N < w6.heap.size := blk_lt HV6.out.blk
        have hnn : ¬ N = w6.heap.size := by omega
        have HX0 : Hid (Nv w6 (.slice po5 p pc5) m.p) := by have := HV6.out.p.nv; exact this
        go_upto_region 15 with (first
          | (have hmm := HM1; at_builtin; refine wpList_append_nv (by rfl) (.tmp 63) (.tmp 64) 37 (by rfl) w6.heap.size 3 Try.underlying37 info_int _ _ _ (by rfl) (own_below HO1.out (below_alloc _ _)) _ [71] (by rfl) (lit_one _ 71 (by decide) (by decide)) (ap1 HPP.out.1 HLP.out) (ap2 HPP.out.1 HLP.out) (ap3 HSZ1.out) ?_; intro v2 w7b ho2 hg2; have HBB := hidH (app_two HO1.out HG1.out hg2); obtain ⟨gP, cP, rfl, hgb, hgc, hzz⟩ := app_row ho2 HLP.out; have HGB := hidH hgb; have HZZ := hidH hzz; have HMB := hidH (blk_below HM6.out HBB.out); have hm1 : w7b.cell? ⟨M, 1, none⟩ = some (.slice po5 p pc5) := (blk_cell HMB.out 1).trans rfl; have hf1 : w7b.frozen? ⟨M, 1, none⟩ = false := blk_soft HMB.out 1; have hpg : (p : Int) ≤ (cP : Int) := (by omega); have hpg2 : p ≤ cP := (by omega); clear ho2 hg2 hgb hzz)
          | (at_builtin; refine wpList_append_nv (by rfl) (.tmp 59) (.tmp 62) 37 (by rfl) w6.heap.size 3 Try.underlying37 info_int _ 0 [] (by rfl) (World.ownsRow_made w6 #[] 0 (Nat.le_refl _) (by simp [maxLen]) (by simp)) _ m.p (by rfl) (HX0.out.below (below_alloc _ _)) (by have := HPP.out; have := HLP.out; simp only [maxLen]; omega) (by have := HPP.out; have := HLP.out; omega) (by simp) ?_; intro v1 w7 ho1 hg1; have HO1 := hidH ho1; have HG1 := hidH hg1; have HSZ1 : Hid (w6.heap.size ≤ w7.heap.size) := (by have := hg1.size; rw [alloc_size] at this; show _ ≤ _; omega); have HM1 : Hid True := trivial; clear ho1 hg1))
        have hMg : M ≠ gP := by have := HS6.out; have := SZ0.out; have := HGB.out; omega
        have HM8 : Hid ((w7b.setCell ⟨M, 1, none⟩ (.slice (some ⟨gP, 0, none⟩) p cP)).heap[M]? = some (.cells #[.int .i64 m.b, .slice (some ⟨gP, 0, none⟩) p cP, .slice co5 p cc5, .int .i64 m.a] 41 (0, 0))) := by show _ = _; rw [set_row HMB.out]; rfl
        have HZgP : Hid (Zw (w7b.setCell ⟨M, 1, none⟩ (.slice (some ⟨gP, 0, none⟩) p cP)) gP cP (m.p ++ [71]))   := HZZ.out.keep (set_other _ _ (fun e => hMg e.symm))
        have HB8 : Hid (Below w6.heap.size w6 w7b) := HBB.out
        have HV8 : Hid (Vn E N (.slice po5 p pc5) (.slice co5 p cc5) m (w7b.setCell ⟨M, 1, none⟩ (.slice (some ⟨gP, 0, none⟩) p cP)))   := (HV6.out.below HBB.out).ch (Ch.of_grown (D := fun x => x = M) (grown_set _ M 1 _) (fun x hx => by cases hx; rfl)) (fun x hx e => by have := HEL.out x hx; omega)
        have HBW8 : Hid (Below w5.heap.size w5 (w7b.setCell ⟨M, 1, none⟩ (.slice (some ⟨gP, 0, none⟩) p cP))) := (HBW6.out.trans (HBB.out.mono HBW6.out.size)).setCell (p := ⟨M, 1, none⟩) (by rw [HMM.out]; exact Nat.le_refl M) _
        have HGEgP : Hid (M ≤ gP) := by have h1 := HGB.out; have h2 := SZ0.out; show _ ≤ _; omega
        have HGgP : Hid (w6.heap.size ≤ gP ∧ gP < w7b.heap.size)  := ⟨HGB.out, HZZ.out.lt⟩
        have SZ8a : Hid (M < (w7b.setCell ⟨M, 1, none⟩ (.slice (some ⟨gP, 0, none⟩) p cP)).heap.size ∧ (w7b.setCell ⟨M, 1, none⟩ (.slice (some ⟨gP, 0, none⟩) p cP)).heap.size = w7b.heap.size) := ⟨blk_lt HM8.out, by simp [go_sem]⟩
        generalize w7b.setCell ⟨M, 1, none⟩ (.slice (some ⟨gP, 0, none⟩) p cP) = w8 at HM8 HZgP HV8 SZ8a HBW8 ⊢
        have HMP : Hid (M ≠ gP) := hMg
        have HZgP8 : Hid (Zw w8 gP cP (m.p ++ [71])) := HZgP.out
        have HGP : Hid (gP < w8.heap.size ∧ gP < w8.heap.size) := ⟨HZgP.out.lt, HZgP.out.lt⟩
        have SZ1 : Hid (M < w8.heap.size) := SZ8a.out.1
        clear HZgP HGgP SZ8a
        clear hMg hgc HBB HGB HZZ HMB HO1 HG1 HSZ1 HM1 hm1 hf1 hpg hpg2 n1 hnz hnn HX0
        have n2 : w8.cell? ⟨N, 2, none⟩ = some (.slice co5 p cc5) := by rw [blk_cell HV8.out.blk]; rfl
        have hnz : N < w8.heap.size := blk_lt HV8.out.blk
        have hnn : ¬ N = w8.heap.size := by omega
        have HX1 : Hid (Nv w8 (.slice co5 p cc5) m.c) := by have := HV8.out.c.nv; exact this
        go_upto_region 16 with (first
          | (have hmm := HM1; at_builtin; refine wpList_append_nv (by rfl) (.tmp 74) (.tmp 75) 37 (by rfl) w8.heap.size 3 Try.underlying37 info_int _ _ _ (by rfl) (own_below HO1.out (below_alloc _ _)) _ [72] (by rfl) (lit_one _ 72 (by decide) (by decide)) (ap1 HPP.out.1 HLC.out) (ap2 HPP.out.1 HLC.out) (ap3 HSZ1.out) ?_; intro v2 w7b ho2 hg2; have HBB := hidH (app_two HO1.out HG1.out hg2); obtain ⟨gC, cC, rfl, hgb, hgc, hzz⟩ := app_row ho2 HLC.out; have HGB := hidH hgb; have HZZ := hidH hzz; have HMB := hidH (blk_below HM8.out HBB.out); have hm2 : w7b.cell? ⟨M, 2, none⟩ = some (.slice co5 p cc5) := (blk_cell HMB.out 2).trans rfl; have hf2 : w7b.frozen? ⟨M, 2, none⟩ = false := blk_soft HMB.out 2; have hpg : (p : Int) ≤ (cC : Int) := (by omega); have hpg2 : p ≤ cC := (by omega); clear ho2 hg2 hgb hzz)
          | (at_builtin; refine wpList_append_nv (by rfl) (.tmp 70) (.tmp 73) 37 (by rfl) w8.heap.size 3 Try.underlying37 info_int _ 0 [] (by rfl) (World.ownsRow_made w8 #[] 0 (Nat.le_refl _) (by simp [maxLen]) (by simp)) _ m.c (by rfl) (HX1.out.below (below_alloc _ _)) (by have := HPP.out; have := HLC.out; simp only [maxLen]; omega) (by have := HPP.out; have := HLC.out; omega) (by simp) ?_; intro v1 w7 ho1 hg1; have HO1 := hidH ho1; have HG1 := hidH hg1; have HSZ1 : Hid (w8.heap.size ≤ w7.heap.size) := (by have := hg1.size; rw [alloc_size] at this; show _ ≤ _; omega); have HM1 : Hid True := trivial; clear ho1 hg1))
        have hMg : M ≠ gC := by have := HS6.out; have := SZ1.out; have := HGB.out; omega
        have HM9 : Hid ((w7b.setCell ⟨M, 2, none⟩ (.slice (some ⟨gC, 0, none⟩) p cC)).heap[M]? = some (.cells #[.int .i64 m.b, .slice (some ⟨gP, 0, none⟩) p cP, .slice (some ⟨gC, 0, none⟩) p cC, .int .i64 m.a] 41 (0, 0))) := by show _ = _; rw [set_row HMB.out]; rfl
        have HZgC : Hid (Zw (w7b.setCell ⟨M, 2, none⟩ (.slice (some ⟨gC, 0, none⟩) p cC)) gC cC (m.c ++ [72]))   := HZZ.out.keep (set_other _ _ (fun e => hMg e.symm))
        have HB9 : Hid (Below w8.heap.size w8 w7b) := HBB.out
        have HV9 : Hid (Vn E N (.slice po5 p pc5) (.slice co5 p cc5) m (w7b.setCell ⟨M, 2, none⟩ (.slice (some ⟨gC, 0, none⟩) p cC)))   := (HV8.out.below HBB.out).ch (Ch.of_grown (D := fun x => x = M) (grown_set _ M 2 _) (fun x hx => by cases hx; rfl)) (fun x hx e => by have := HEL.out x hx; omega)
        have HBW9 : Hid (Below w5.heap.size w5 (w7b.setCell ⟨M, 2, none⟩ (.slice (some ⟨gC, 0, none⟩) p cC))) := (HBW8.out.trans (HBB.out.mono HBW8.out.size)).setCell (p := ⟨M, 2, none⟩) (by rw [HMM.out]; exact Nat.le_refl M) _
        have HGEgC : Hid (M ≤ gC) := by have h1 := HGB.out; have h2 := SZ1.out; show _ ≤ _; omega
        have HGgC : Hid (w8.heap.size ≤ gC ∧ gC < w7b.heap.size)  := ⟨HGB.out, HZZ.out.lt⟩
        have SZ9a : Hid (M < (w7b.setCell ⟨M, 2, none⟩ (.slice (some ⟨gC, 0, none⟩) p cC)).heap.size ∧ (w7b.setCell ⟨M, 2, none⟩ (.slice (some ⟨gC, 0, none⟩) p cC)).heap.size = w7b.heap.size) := ⟨blk_lt HM9.out, by simp [go_sem]⟩
        have HZgP : Hid (Zw (w7b.setCell ⟨M, 2, none⟩ (.slice (some ⟨gC, 0, none⟩) p cC)) gP cP (m.p ++ [71])) := (HZgP8.out.below HBB.out).keep (set_other _ _ (fun e => HMP.out e.symm))
        have HPC : Hid (gP ≠ gC) := by have h1 := HGP.out.2; have h2 := HGB.out; show _ ≠ _; omega
        generalize w7b.setCell ⟨M, 2, none⟩ (.slice (some ⟨gC, 0, none⟩) p cC) = w9 at HM9 HZgC HV9 SZ9a HBW9 HZgP ⊢
        have HMC : Hid (M ≠ gC) := hMg
        clear hMg hgc HBB HGB HZZ HMB HO1 HG1 HSZ1 HM1 hm2 hf2 hpg hpg2 n2 hnz hnn HX1
        have HL9 := hidH (HL.out.more HBW9.out)
        have HA2 : Hid (∀ x, M ≤ x → x < w9.heap.size → (fun x => E x ∨ (w5.heap.size ≤ x ∧ x < w9.heap.size)) x) := fun x h1 h2 => .inr ⟨by rw [HMM.out]; exact h1, h2⟩
        have HPN : Hid (Nv w9 (.slice (some ⟨gP, 0, none⟩) p cP) m.p) := by
          have := zw_take HZgP.out (m := m.p) (fun i hi => nth_left hi) (by simp) (rgt_p64 HRM.out)
          rw [HLP.out] at this; exact this
        have HCN : Hid (Nv w9 (.slice (some ⟨gC, 0, none⟩) p cC) m.c) := by
          have := zw_take HZgC.out (m := m.c) (fun i hi => nth_left hi) (by simp) (rgt_c64 HRM.out)
          rw [HLC.out] at this; exact this
        have c0 : w9.cell? ⟨M, 0, none⟩ = some (.int .i64 m.b) := by rw [blk_cell HM9.out]; rfl
        have c1 : w9.cell? ⟨M, 1, none⟩ = some (.slice (some ⟨gP, 0, none⟩) p cP) := by rw [blk_cell HM9.out]; rfl
        have c2 : w9.cell? ⟨M, 2, none⟩ = some (.slice (some ⟨gC, 0, none⟩) p cC) := by rw [blk_cell HM9.out]; rfl
        have c3 : w9.cell? ⟨M, 3, none⟩ = some (.int .i64 m.a) := by rw [blk_cell HM9.out]; rfl
        go_wp2_with fail
        refine (lw_save (n := m) HL9.out HPN.out HCN.out HNB.out HW5.out).mono ?_
        rintro e w10 ⟨he, hL10, hC10⟩
        have HC10 : Hid (ChA wz (fun x => E x ∨ (w5.heap.size ≤ x ∧ x < w9.heap.size)) w9 w10) := hC10
        have HV10 : Hid (Vn E N (.slice po5 p pc5) (.slice co5 p cc5) m w10) := HV9.out.ch hC10 (fun x hx hd => hd.2 (.inl hx))
        obtain ⟨e1, e2, e3, _⟩ := HFS.out _ _ w10 (hL10.less (fun x hx => .inl hx)) HV10.out
        have HE23 : Hid (savJ J S p m = ⟨J.g + 1, m, 1 - J.h, false⟩ ∧ savS J S p m = (putS S (1 - J.h) (bytN (J.g + 1) m))) := ⟨e2, e3⟩
        rw [e1] at he
        subst he
        rw [e2, e3] at hL10
        have HL10 : Hid (Lw wz (fun x => E x ∨ (w5.heap.size ≤ x ∧ x < w9.heap.size)) sb jb p ⟨J.g + 1, m, 1 - J.h, false⟩ (putS S (1 - J.h) (bytN (J.g + 1) m)) w10) := hL10
        have HM10 : Hid (w10.heap[M]? = some (.cells #[.int .i64 m.b, .slice (some ⟨gP, 0, none⟩) p cP, .slice (some ⟨gC, 0, none⟩) p cC, .int .i64 m.a] 41 (0, 0))) := blk_ch HM9.out hC10 (fun hd => hd.2 (HA2.out M (Nat.le_refl M) (blk_lt HM9.out)))
        have HP10 : Hid (Zw w10 gP cP (m.p ++ [71])) := HZgP.out.keep (hC10.block gP HZgP.out.lt (fun hd => hd.2 (HA2.out gP HGEgP.out HZgP.out.lt)))
        have HQ10 : Hid (Zw w10 gC cC (m.c ++ [72])) := HZgC.out.keep (hC10.block gC HZgC.out.lt (fun hd => hd.2 (HA2.out gC HGEgC.out HZgC.out.lt)))
        clear e1 e2 e3 hL10 hC10 c0 c1 c2 c3
        have c0 : w10.cell? ⟨M, 0, none⟩ = some (.int .i64 m.b) := by rw [blk_cell HM10.out]; rfl
        have c1 : w10.cell? ⟨M, 1, none⟩ = some (.slice (some ⟨gP, 0, none⟩) p cP) := by rw [blk_cell HM10.out]; rfl
        have c2 : w10.cell? ⟨M, 2, none⟩ = some (.slice (some ⟨gC, 0, none⟩) p cC) := by rw [blk_cell HM10.out]; rfl
        have c3 : w10.cell? ⟨M, 3, none⟩ = some (.int .i64 m.a) := by rw [blk_cell HM10.out]; rfl
        have d0 : w10.cell? ⟨N, 0, none⟩ = some (.int .i64 m.b) := by rw [blk_cell HV10.out.blk]; rfl
        have d1 : w10.cell? ⟨N, 1, none⟩ = some (.slice po5 p pc5) := by rw [blk_cell HV10.out.blk]; rfl
        have d2 : w10.cell? ⟨N, 2, none⟩ = some (.slice co5 p cc5) := by rw [blk_cell HV10.out.blk]; rfl
        have d3 : w10.cell? ⟨N, 3, none⟩ = some (.int .i64 m.a) := by rw [blk_cell HV10.out.blk]; rfl
        have HPN2 : Hid (Nv w10 (.slice (some ⟨gP, 0, none⟩) p cP) m.p) := by
          have := zw_take HP10.out (m := m.p) (fun i hi => nth_left hi) (by simp) (rgt_p64 HRM.out)
          rw [HLP.out] at this; exact this
        have HCN2 : Hid (Nv w10 (.slice (some ⟨gC, 0, none⟩) p cC) m.c) := by
          have := zw_take HQ10.out (m := m.c) (fun i hi => nth_left hi) (by simp) (rgt_c64 HRM.out)
          rw [HLC.out] at this; exact this
        go_wp2_with fail
        refine (notes_walk (n := m) HPN2.out HCN2.out HV10.out.p.nv HV10.out.c.nv).mono ?_
        rintro e w11 ⟨rfl, hB11⟩
        have HL11 := hidH (HL10.out.below hB11)
        have HV11 := hidH (HV10.out.below hB11)
        have HM11 := hidH (blk_below HM10.out hB11)
        have HP11 := hidH (HP10.out.below hB11)
        have HQ11 := hidH (HQ10.out.below hB11)
        have g1 : w11.cell? ⟨gP, p, none⟩ = some (.int .i64 71) := by rw [HP11.out.cell (by simp [HLP.out]), nth_end HLP.out]
        have g2 : w11.cell? ⟨gC, p, none⟩ = some (.int .i64 72) := by rw [HQ11.out.cell (by simp [HLC.out]), nth_end HLC.out]
        have gp1 : p + 1 ≤ cP := by have := HP11.out.2.1; simp [HLP.out] at this; exact this
        have gp2 : p + 1 ≤ cC := by have := HQ11.out.2.1; simp [HLC.out] at this; exact this
        have gi1 : (p : Int) + 1 ≤ (cP : Int) := by omega
        have gi2 : (p : Int) + 1 ≤ (cC : Int) := by omega
        have gw : IntKind.i64.wrap ((p : Int) + 1) = (p : Int) + 1 := wrapU (by omega) (by have := HPP.out; omega)
        clear c0 c1 c2 c3 d0 d1 d2 d3 hB11
        have c0 : w11.cell? ⟨M, 0, none⟩ = some (.int .i64 m.b) := by rw [blk_cell HM11.out]; rfl
        have c1 : w11.cell? ⟨M, 1, none⟩ = some (.slice (some ⟨gP, 0, none⟩) p cP) := by rw [blk_cell HM11.out]; rfl
        have c2 : w11.cell? ⟨M, 2, none⟩ = some (.slice (some ⟨gC, 0, none⟩) p cC) := by rw [blk_cell HM11.out]; rfl
        have c3 : w11.cell? ⟨M, 3, none⟩ = some (.int .i64 m.a) := by rw [blk_cell HM11.out]; rfl
        go_upto_region 18 with fail
        have HNR11 : Hid (Nr (p + 1) p M gP cP gC cC m.b m.a w11) := ⟨HM11.out, ⟨_, HP11.out, by simp [HLP.out]⟩, ⟨_, HQ11.out, by simp [HLC.out]⟩, HMP.out, HMC.out, by omega⟩
        have BASE : Hid (∀ x, (fun x => E x ∨ (w5.heap.size ≤ x ∧ x < w9.heap.size)) x → wz.heap.size ≤ x) := fun x hx => by
          rcases hx with hx | hx
          · exact HE.out x hx
          · exact Nat.le_trans HL.out.bel.size hx.1
        have IA_gP : Hid ((fun x => E x ∨ (w5.heap.size ≤ x ∧ x < w9.heap.size)) gP) := HA2.out gP HGEgP.out HZgP.out.lt
        have IA_gC : Hid ((fun x => E x ∨ (w5.heap.size ≤ x ∧ x < w9.heap.size)) gC) := HA2.out gC HGEgC.out HZgC.out.lt
        have NE_gP : Hid (∀ x, E x → x < gP) := fun x hx => Nat.lt_of_lt_of_le (HEL.out x hx) HGEgP.out
        have NE_gC : Hid (∀ x, E x → x < gC) := fun x hx => Nat.lt_of_lt_of_le (HEL.out x hx) HGEgC.out
        clear c0 c1 c2 c3 g1 g2 gp1 gp2 gi1 gi2 gw
        go_wp2_with fail
        go_loopw [13] (fun iv wr => ∃ j : Nat, j ≤ p ∧ iv = .int .i64 j ∧ Nr (p + 1) p M gP cP gC cC m.b m.a wr ∧ Vn E N (.slice po5 p pc5) (.slice co5 p cc5) m wr ∧ Lw wz (fun x => E x ∨ (w5.heap.size ≤ x ∧ x < w9.heap.size)) sb jb p ⟨J.g + 1, m, 1 - J.h, false⟩ (putS S (1 - J.h) (bytN (J.g + 1) m)) wr) (fun iv _ => p - (intOf iv).toNat)
        case atStart => exact ⟨0, Nat.zero_le _, rfl, HNR11.out, HV11.out, HL11.out⟩
        case round =>
          obtain ⟨j, hj, rfl, hN, hV, hL⟩ := hrel
          have IN : Hid (Nr (p + 1) p M gP cP gC cC m.b m.a wr) := hN
          have IV : Hid (Vn E N (.slice po5 p pc5) (.slice co5 p cc5) m wr) := hV
          have IL : Hid (Lw wz (fun x => E x ∨ (w5.heap.size ≤ x ∧ x < w9.heap.size)) sb jb p ⟨J.g + 1, m, 1 - J.h, false⟩ (putS S (1 - J.h) (bytN (J.g + 1) m)) wr) := hL
          clear hN hV hL
          by_cases hjp : j < p
          · have hji : (j : Int) < (p : Int) := by omega
            have k1 : wr.cell? ⟨M, 1, none⟩ = some (.slice (some ⟨gP, 0, none⟩) p cP) := by rw [blk_cell IN.out.blk]; rfl
            obtain ⟨z1, h1⟩ := IN.out.zp.cell (j := j) (by have := IN.out.np; omega)
            have f1 := IN.out.zp.soft j
            go_upto_region 22 with fail
            have KN := hidH (IN.out.setP hjp 200)
            have KV : Hid (Vn E N (.slice po5 p pc5) (.slice co5 p cc5) m _) := IV.out.ch (ch_one wr gP j (.int .i64 200)) (fun x hx e => by have := NE_gP.out x hx; omega)
            have KL : Hid (Lw wz (fun x => E x ∨ (w5.heap.size ≤ x ∧ x < w9.heap.size)) sb jb p ⟨J.g + 1, m, 1 - J.h, false⟩ (putS S (1 - J.h) (bytN (J.g + 1) m)) _) := IL.out.write (ch_le (ch_one wr gP j (.int .i64 200)) (fun x hx => by rw [hx]; exact IA_gP.out)) BASE.out
            generalize wr.setCell ⟨gP, j, none⟩ (.int .i64 200) = wy at KN KV KL ⊢
            clear k1 h1 f1
            have k2 : wy.cell? ⟨M, 2, none⟩ = some (.slice (some ⟨gC, 0, none⟩) p cC) := by rw [blk_cell KN.out.blk]; rfl
            obtain ⟨z2, h2⟩ := KN.out.zc.cell (j := j) (by have := KN.out.np; omega)
            have f2 := KN.out.zc.soft j
            have GN := hidH (KN.out.setC hjp 201)
            have GV : Hid (Vn E N (.slice po5 p pc5) (.slice co5 p cc5) m _) := KV.out.ch (ch_one wy gC j (.int .i64 201)) (fun x hx e => by have := NE_gC.out x hx; omega)
            have GL : Hid (Lw wz (fun x => E x ∨ (w5.heap.size ≤ x ∧ x < w9.heap.size)) sb jb p ⟨J.g + 1, m, 1 - J.h, false⟩ (putS S (1 - J.h) (bytN (J.g + 1) m)) _) := KL.out.write (ch_le (ch_one wy gC j (.int .i64 201)) (fun x hx => by rw [hx]; exact IA_gC.out)) BASE.out
            go_wp2_with fail
            go_roundw
            case rel => exact ⟨j + 1, hjp, by go_num, GN.out, GV.out, GL.out⟩
            case measure => simp [intOf]; omega
          · have hpj : p = j := by omega
            subst hpj
            have hji : ¬ (p : Int) < (p : Int) := by omega
            clear HNR11 HV11 HL11 BASE NE_gP NE_gC IA_gP IA_gC
            obtain ⟨y0, hy0⟩ : ∃ y0, y0 = wr := ⟨_, rfl⟩
            subst hy0
            have HMY : Hid (M < y0.heap.size) := blk_lt IN.out.blk
            go_wp2_with fail
            refine (lw_note IL.out).mono ?_
            rintro e y1 ⟨pa, pc1, ca, cc1, he, ho1, ho2, hB1⟩
            replace he : e = .returned (.agg #[.int .i64 m.b, .slice pa m.p.length pc1, .slice ca m.c.length cc1, .int .i64 m.a]) := he
            obtain ⟨gA, cA, eA, hA0, hA1, hzA⟩ := own_row ho1 HLP.out HPP.out.2
            obtain ⟨gB, cB, eB, hB0, hBb, hzB⟩ := own_row ho2 HLC.out HPP.out.2
            have HAN : Hid (Nv y1 (.slice pa m.p.length pc1) m.p) := own_nv ho1 (rgt_p64 HRM.out)
            have HBN : Hid (Nv y1 (.slice ca m.c.length cc1) m.c) := own_nv ho2 (rgt_c64 HRM.out)
            rw [eA] at he HAN
            rw [eB] at he HBN
            subst he
            have HGA : Hid (y0.heap.size ≤ gA ∧ gA < y1.heap.size) := ⟨hA0, hA1⟩
            have HGB : Hid (y0.heap.size ≤ gB ∧ gB < y1.heap.size) := ⟨hB0, hBb⟩
            have HZA := hidH hzA
            have HZB := hidH hzB
            have HY1 : Hid (Below y0.heap.size y0 y1) := hB1
            clear eA eB hA0 hA1 hzA hB0 hBb hzB ho1 ho2 hB1 pa pc1 ca cc1
            go_upto_region 24 with fail
            obtain ⟨y2, hy2⟩ : ∃ y2, y2 = y1.alloc (Obj.cells #[.int .i64 m.b, .slice (some ⟨gA, 0, none⟩) p cA, .slice (some ⟨gB, 0, none⟩) p cB, .int .i64 m.a] 41) := ⟨_, rfl⟩
            have HY12 : Hid (Below y1.heap.size y1 y2) := by show Below _ _ _; rw [hy2]; exact below_alloc _ _
            have HKA : Hid (y2.heap[y1.heap.size]? = some (.cells #[.int .i64 m.b, .slice (some ⟨gA, 0, none⟩) p cA, .slice (some ⟨gB, 0, none⟩) p cB, .int .i64 m.a] 41 (0, 0))) := by show _ = _; rw [hy2]; exact alloc_at rfl
            have HS2 : Hid (y2.heap.size = y1.heap.size + 1) := by show _ = _; rw [hy2, alloc_size]
            rw [← hy2]
            clear hy2
            generalize hBa : y1.heap.size = Ba at HKA HS2 HGA HGB ⊢
            have HBA : Hid (y1.heap.size = Ba) := hBa
            clear hBa
            have HY02 : Hid (Below y0.heap.size y0 y2) := below_trans HY1.out HY12.out
            go_wp2_with fail
            refine (lw_note (IL.out.below HY02.out)).mono ?_
            rintro e y3 ⟨pb, pcb, cb, ccb, he, ho1, ho2, hB3⟩
            replace he : e = .returned (.agg #[.int .i64 m.b, .slice pb m.p.length pcb, .slice cb m.c.length ccb, .int .i64 m.a]) := he
            rw [HLP.out, HLC.out] at he
            subst he
            have HPB : Hid (OwN y2.heap.size y3 (.slice pb p pcb) m.p) := by have h := (show OwN y2.heap.size y3 (.slice pb m.p.length pcb) m.p from ho1); rw [HLP.out] at h; exact h
            have HCB : Hid (OwN y2.heap.size y3 (.slice cb p ccb) m.c) := by have h := (show OwN y2.heap.size y3 (.slice cb m.c.length ccb) m.c from ho2); rw [HLC.out] at h; exact h
            have HY3 : Hid (Below y2.heap.size y2 y3) := hB3
            clear ho1 ho2 hB3
            go_upto_region 25 with fail
            obtain ⟨y4, hy4⟩ : ∃ y4, y4 = y3.alloc (Obj.cells #[.int .i64 m.b, .slice pb p pcb, .slice cb p ccb, .int .i64 m.a] 41) := ⟨_, rfl⟩
            have HY34 : Hid (Below y3.heap.size y3 y4) := by show Below _ _ _; rw [hy4]; exact below_alloc _ _
            have HKB : Hid (y4.heap[y3.heap.size]? = some (.cells #[.int .i64 m.b, .slice pb p pcb, .slice cb p ccb, .int .i64 m.a] 41 (0, 0))) := by show _ = _; rw [hy4]; exact alloc_at rfl
            have HS4 : Hid (y4.heap.size = y3.heap.size + 1) := by show _ = _; rw [hy4, alloc_size]
            rw [← hy4]
            clear hy4
            have HY24 : Hid (Below y2.heap.size y2 y4) := below_trans HY3.out HY34.out
            have HY04 : Hid (Below y0.heap.size y0 y4) := below_trans HY02.out HY24.out
            have HVB : Hid (Vn (fun x => y2.heap.size ≤ x ∧ x < y4.heap.size) y3.heap.size (.slice pb p pcb) (.slice cb p ccb) m y4) := ⟨⟨HY3.out.size, by have := HS4.out; omega⟩, HKB.out, ⟨(own_nv HPB.out (rgt_p64 HRM.out)).below HY34.out, own_inA HPB.out fun x h1 h2 => ⟨⟨h1, by have := HS4.out; omega⟩, by omega⟩⟩, ⟨(own_nv HCB.out (rgt_c64 HRM.out)).below HY34.out, own_inA HCB.out fun x h1 h2 => ⟨⟨h1, by have := HS4.out; omega⟩, by omega⟩⟩⟩
            generalize hBb2 : y3.heap.size = Bb at HVB HKB HS4 ⊢
            have HBB2 : Hid (y3.heap.size = Bb) := hBb2
            clear hBb2
            have HL4 : Hid (Lw wz (fun x => (fun x => E x ∨ (w5.heap.size ≤ x ∧ x < w9.heap.size)) x ∨ (y0.heap.size ≤ x ∧ x < y4.heap.size)) sb jb p ⟨J.g + 1, m, 1 - J.h, false⟩ (putS S (1 - J.h) (bytN (J.g + 1) m)) y4) := IL.out.more HY04.out
            have HV4 : Hid (Vn E N (.slice po5 p pc5) (.slice co5 p cc5) m y4) := IV.out.below HY04.out
            have HNA : Hid (Nr p p Ba gA cA gB cB m.b m.a y4) := ⟨blk_below HKA.out HY24.out, (HZA.out.keep (HY12.out.block gA HZA.out.lt)).keep (HY24.out.block gA (Nat.lt_of_lt_of_le HZA.out.lt HY12.out.size)), (HZB.out.keep (HY12.out.block gB HZB.out.lt)).keep (HY24.out.block gB (Nat.lt_of_lt_of_le HZB.out.lt HY12.out.size)), by have := HGA.out; omega, by have := HGB.out; omega, Nat.le_refl _⟩
            have HAN4 : Hid (Nv y4 (.slice (some ⟨gA, 0, none⟩) p cA) m.p) := (HAN.out.below HY12.out).below HY24.out
            have HBN4 : Hid (Nv y4 (.slice (some ⟨gB, 0, none⟩) p cB) m.c) := (HBN.out.below HY12.out).below HY24.out
            have aa0 : y4.cell? ⟨Ba, 0, none⟩ = some (.int .i64 m.b) := by rw [blk_cell HNA.out.blk]; rfl
            have aa1 : y4.cell? ⟨Ba, 1, none⟩ = some (.slice (some ⟨gA, 0, none⟩) p cA) := by rw [blk_cell HNA.out.blk]; rfl
            have aa2 : y4.cell? ⟨Ba, 2, none⟩ = some (.slice (some ⟨gB, 0, none⟩) p cB) := by rw [blk_cell HNA.out.blk]; rfl
            have aa3 : y4.cell? ⟨Ba, 3, none⟩ = some (.int .i64 m.a) := by rw [blk_cell HNA.out.blk]; rfl
            have d0 : y4.cell? ⟨N, 0, none⟩ = some (.int .i64 m.b) := by rw [blk_cell HV4.out.blk]; rfl
            have d1 : y4.cell? ⟨N, 1, none⟩ = some (.slice po5 p pc5) := by rw [blk_cell HV4.out.blk]; rfl
            have d2 : y4.cell? ⟨N, 2, none⟩ = some (.slice co5 p cc5) := by rw [blk_cell HV4.out.blk]; rfl
            have d3 : y4.cell? ⟨N, 3, none⟩ = some (.int .i64 m.a) := by rw [blk_cell HV4.out.blk]; rfl
            go_wp2_with fail
            refine (notes_walk (n := m) HAN4.out HBN4.out HV4.out.p.nv HV4.out.c.nv).mono ?_
            rintro e y5 ⟨rfl, hB5⟩
            have HY45 : Hid (Below y4.heap.size y4 y5) := hB5
            clear aa0 aa1 aa2 aa3 d0 d1 d2 d3 hB5
            have bb0 : y5.cell? ⟨Bb, 0, none⟩ = some (.int .i64 m.b) := by rw [blk_cell (HVB.out.below HY45.out).blk]; rfl
            have bb1 : y5.cell? ⟨Bb, 1, none⟩ = some (.slice pb p pcb) := by rw [blk_cell (HVB.out.below HY45.out).blk]; rfl
            have bb2 : y5.cell? ⟨Bb, 2, none⟩ = some (.slice cb p ccb) := by rw [blk_cell (HVB.out.below HY45.out).blk]; rfl
            have bb3 : y5.cell? ⟨Bb, 3, none⟩ = some (.int .i64 m.a) := by rw [blk_cell (HVB.out.below HY45.out).blk]; rfl
            have d0 : y5.cell? ⟨N, 0, none⟩ = some (.int .i64 m.b) := by rw [blk_cell (HV4.out.below HY45.out).blk]; rfl
            have d1 : y5.cell? ⟨N, 1, none⟩ = some (.slice po5 p pc5) := by rw [blk_cell (HV4.out.below HY45.out).blk]; rfl
            have d2 : y5.cell? ⟨N, 2, none⟩ = some (.slice co5 p cc5) := by rw [blk_cell (HV4.out.below HY45.out).blk]; rfl
            have d3 : y5.cell? ⟨N, 3, none⟩ = some (.int .i64 m.a) := by rw [blk_cell (HV4.out.below HY45.out).blk]; rfl
            go_wp2_with fail
            refine (notes_walk (n := m) ((HVB.out.below HY45.out).p.nv) ((HVB.out.below HY45.out).c.nv) ((HV4.out.below HY45.out).p.nv) ((HV4.out.below HY45.out).c.nv)).mono ?_
            rintro e y6 ⟨rfl, hB6⟩
            have HY46 : Hid (Below y4.heap.size y4 y6) := below_trans HY45.out hB6
            have HN6 : Hid (Nr p p Ba gA cA gB cB m.b m.a y6) := HNA.out.keep fun x hx _ => HY46.out.block x hx
            have HV6b := hidH (HV4.out.below HY46.out)
            have HVB6 := hidH (HVB.out.below HY46.out)
            have HL6b := hidH (HL4.out.below HY46.out)
            have BASE : Hid (∀ x, (fun x => (fun x => E x ∨ (w5.heap.size ≤ x ∧ x < w9.heap.size)) x ∨ (y0.heap.size ≤ x ∧ x < y4.heap.size)) x → wz.heap.size ≤ x) := fun x hx => by
              have hz : wz.heap.size ≤ y0.heap.size := IL.out.bel.size
              rcases hx with (hx | hx) | hx
              · exact HE.out x hx
              · exact Nat.le_trans HL.out.bel.size hx.1
              · exact Nat.le_trans hz hx.1
            have IA_gA : Hid ((fun x => (fun x => E x ∨ (w5.heap.size ≤ x ∧ x < w9.heap.size)) x ∨ (y0.heap.size ≤ x ∧ x < y4.heap.size)) gA) := .inr ⟨HGA.out.1, by have h1 := HGA.out.2; have h2 := HS2.out; have h3 := HY24.out.size; omega⟩
            have IA_gB : Hid ((fun x => (fun x => E x ∨ (w5.heap.size ≤ x ∧ x < w9.heap.size)) x ∨ (y0.heap.size ≤ x ∧ x < y4.heap.size)) gB) := .inr ⟨HGB.out.1, by have h1 := HGB.out.2; have h2 := HS2.out; have h3 := HY24.out.size; omega⟩
            have NE_gA : Hid (∀ x, E x → x < gA) := fun x hx => by have h1 := HEL.out x hx; have h2 := HMY.out; have h3 := HGA.out.1; omega
            have NE_gB : Hid (∀ x, E x → x < gB) := fun x hx => by have h1 := HEL.out x hx; have h2 := HMY.out; have h3 := HGB.out.1; omega
            have NX_gA : Hid (∀ x, (fun x => y2.heap.size ≤ x ∧ x < y4.heap.size) x → gA < x) := fun x hx => by have h1 := hx.1; have h2 := HS2.out; have h3 := HGA.out.2; omega
            have NX_gB : Hid (∀ x, (fun x => y2.heap.size ≤ x ∧ x < y4.heap.size) x → gB < x) := fun x hx => by have h1 := hx.1; have h2 := HS2.out; have h3 := HGB.out.2; omega
            clear bb0 bb1 bb2 bb3 d0 d1 d2 d3 hB6
            clear IN IV
            go_wp2_with fail
            go_loopw [16] (fun iv wr => ∃ j : Nat, j ≤ p ∧ iv = .int .i64 j ∧ Nr p p Ba gA cA gB cB m.b m.a wr ∧ Vn E N (.slice po5 p pc5) (.slice co5 p cc5) m wr ∧ Lw wz (fun x => (fun x => E x ∨ (w5.heap.size ≤ x ∧ x < w9.heap.size)) x ∨ (y0.heap.size ≤ x ∧ x < y4.heap.size)) sb jb p ⟨J.g + 1, m, 1 - J.h, false⟩ (putS S (1 - J.h) (bytN (J.g + 1) m)) wr ∧ Vn (fun x => y2.heap.size ≤ x ∧ x < y4.heap.size) Bb (.slice pb p pcb) (.slice cb p ccb) m wr) (fun iv _ => p - (intOf iv).toNat)
            case atStart => exact ⟨0, Nat.zero_le _, rfl, HN6.out, HV6b.out, HL6b.out, HVB6.out⟩
            case round =>
              obtain ⟨j, hj, rfl, hN, hV, hL, hX0⟩ := hrel
              have IN : Hid (Nr p p Ba gA cA gB cB m.b m.a wr) := hN
              have IV : Hid (Vn E N (.slice po5 p pc5) (.slice co5 p cc5) m wr) := hV
              have IL2 : Hid (Lw wz (fun x => (fun x => E x ∨ (w5.heap.size ≤ x ∧ x < w9.heap.size)) x ∨ (y0.heap.size ≤ x ∧ x < y4.heap.size)) sb jb p ⟨J.g + 1, m, 1 - J.h, false⟩ (putS S (1 - J.h) (bytN (J.g + 1) m)) wr) := hL
              have IX0 : Hid (Vn (fun x => y2.heap.size ≤ x ∧ x < y4.heap.size) Bb (.slice pb p pcb) (.slice cb p ccb) m wr) := hX0
              clear hN hV hL hX0
              by_cases hjp : j < p
              · have hji : (j : Int) < (p : Int) := by omega
                have k1 : wr.cell? ⟨Ba, 1, none⟩ = some (.slice (some ⟨gA, 0, none⟩) p cA) := by rw [blk_cell IN.out.blk]; rfl
                obtain ⟨z1, h1⟩ := IN.out.zp.cell (j := j) (by have := IN.out.np; omega)
                have f1 := IN.out.zp.soft j
                go_upto_region 31 with fail
                have KN := hidH (IN.out.setP hjp 202)
                have KV : Hid (Vn E N (.slice po5 p pc5) (.slice co5 p cc5) m _) := IV.out.ch (ch_one wr gA j (.int .i64 202)) (fun x hx e => by have := NE_gA.out x hx; omega)
                have KL : Hid (Lw wz (fun x => (fun x => E x ∨ (w5.heap.size ≤ x ∧ x < w9.heap.size)) x ∨ (y0.heap.size ≤ x ∧ x < y4.heap.size)) sb jb p ⟨J.g + 1, m, 1 - J.h, false⟩ (putS S (1 - J.h) (bytN (J.g + 1) m)) _) := IL2.out.write (ch_le (ch_one wr gA j (.int .i64 202)) (fun x hx => by rw [hx]; exact IA_gA.out)) BASE.out
                have KX0 : Hid (Vn (fun x => y2.heap.size ≤ x ∧ x < y4.heap.size) Bb (.slice pb p pcb) (.slice cb p ccb) m _) := IX0.out.ch (ch_one wr gA j (.int .i64 202)) (fun x hx e => by have := NX_gA.out x hx; omega)
                generalize wr.setCell ⟨gA, j, none⟩ (.int .i64 202) = wy at KN KV KL KX0 ⊢
                clear k1 h1 f1
                have k2 : wy.cell? ⟨Ba, 2, none⟩ = some (.slice (some ⟨gB, 0, none⟩) p cB) := by rw [blk_cell KN.out.blk]; rfl
                obtain ⟨z2, h2⟩ := KN.out.zc.cell (j := j) (by have := KN.out.np; omega)
                have f2 := KN.out.zc.soft j
                have GN := hidH (KN.out.setC hjp 203)
                have GV : Hid (Vn E N (.slice po5 p pc5) (.slice co5 p cc5) m _) := KV.out.ch (ch_one wy gB j (.int .i64 203)) (fun x hx e => by have := NE_gB.out x hx; omega)
                have GL : Hid (Lw wz (fun x => (fun x => E x ∨ (w5.heap.size ≤ x ∧ x < w9.heap.size)) x ∨ (y0.heap.size ≤ x ∧ x < y4.heap.size)) sb jb p ⟨J.g + 1, m, 1 - J.h, false⟩ (putS S (1 - J.h) (bytN (J.g + 1) m)) _) := KL.out.write (ch_le (ch_one wy gB j (.int .i64 203)) (fun x hx => by rw [hx]; exact IA_gB.out)) BASE.out
                have GX0 : Hid (Vn (fun x => y2.heap.size ≤ x ∧ x < y4.heap.size) Bb (.slice pb p pcb) (.slice cb p ccb) m _) := KX0.out.ch (ch_one wy gB j (.int .i64 203)) (fun x hx e => by have := NX_gB.out x hx; omega)
                go_wp2_with fail
                go_roundw
                case rel => exact ⟨j + 1, hjp, by go_num, GN.out, GV.out, GL.out, GX0.out⟩
                case measure => simp [intOf]; omega
              · have hpj : p = j := by omega
                subst hpj
                have hji : ¬ (p : Int) < (p : Int) := by omega
                clear HN6 HV6b HVB6 HL6b
                obtain ⟨z0, hz0⟩ : ∃ z0, z0 = wr := ⟨_, rfl⟩
                subst hz0
                have HNB0 : Hid (∀ wx, Below z0.heap.size z0 wx → (wx.cell? ⟨N, 0, none⟩ = some (.int .i64 m.b) ∧ wx.cell? ⟨N, 1, none⟩ = some (.slice po5 p pc5) ∧ wx.cell? ⟨N, 2, none⟩ = some (.slice co5 p cc5) ∧ wx.cell? ⟨N, 3, none⟩ = some (.int .i64 m.a)) ∧ (wx.cell? ⟨Bb, 0, none⟩ = some (.int .i64 m.b) ∧ wx.cell? ⟨Bb, 1, none⟩ = some (.slice pb p pcb) ∧ wx.cell? ⟨Bb, 2, none⟩ = some (.slice cb p ccb) ∧ wx.cell? ⟨Bb, 3, none⟩ = some (.int .i64 m.a))) := fun wx hx => by
                  refine ⟨?_, ?_⟩
                  · have hb := (IV.out.below hx).blk
                    exact ⟨by rw [blk_cell hb]; rfl, by rw [blk_cell hb]; rfl, by rw [blk_cell hb]; rfl, by rw [blk_cell hb]; rfl⟩
                  · have hb := (IX0.out.below hx).blk
                    exact ⟨by rw [blk_cell hb]; rfl, by rw [blk_cell hb]; rfl, by rw [blk_cell hb]; rfl, by rw [blk_cell hb]; rfl⟩
                go_wp2_with fail
                refine wp_region_noPanic ?_
                refine wp_region_held_drew (S := fun wx => (wx.cell? ⟨N, 0, none⟩ = some (.int .i64 m.b) ∧ wx.cell? ⟨N, 1, none⟩ = some (.slice po5 p pc5) ∧ wx.cell? ⟨N, 2, none⟩ = some (.slice co5 p cc5) ∧ wx.cell? ⟨N, 3, none⟩ = some (.int .i64 m.a)) ∧ (wx.cell? ⟨Bb, 0, none⟩ = some (.int .i64 m.b) ∧ wx.cell? ⟨Bb, 1, none⟩ = some (.slice pb p pcb) ∧ wx.cell? ⟨Bb, 2, none⟩ = some (.slice cb p ccb) ∧ wx.cell? ⟨Bb, 3, none⟩ = some (.int .i64 m.a))) (by kernel_rfl) ?_ (fun hHeld => ?_)
                · exact (HNB0.out _ (below_drewN z0 1))
                refine wpAnyH_take (i := 0) (oi := ⟨some 159, _, _, _, _, _⟩) (v := ?_) rfl (by kernel_rfl) (by kernel_rfl) (by kernel_rfl) (fun _ _ _ h => h) (Or.inl ⟨by rfl, ?_⟩) hHeld ?_
                rotate_left
                · intro w hSw; (try dsimp only at hSw); go_simp; all_goals (with_reducible rfl)
                try simp only [Act.put, List.setIfInBounds_toArray, List.set_cons_zero, List.set_cons_succ]
                refine wpAnyH_take (i := 2) (oi := ⟨some 161, _, _, _, _, _⟩) (v := ?_) rfl (by kernel_rfl) (by kernel_rfl) (by kernel_rfl) (fun _ _ _ h => h) (Or.inl ⟨by rfl, ?_⟩) hHeld ?_
                rotate_left
                · intro w hSw; (try dsimp only at hSw); go_simp; all_goals (with_reducible rfl)
                try simp only [Act.put, List.setIfInBounds_toArray, List.set_cons_zero, List.set_cons_succ]
                refine wpAnyH_ready (rs := [1]) (by kernel_rfl) (by simp) ?_
                refine AllReadyH.cons (o := ⟨some 160, _, _, _, _, _⟩) rfl (fun K hK => ?_) AllReadyH.nil
                go_simp
                refine (lw_note (IL2.out.below (below_drewN z0 1))).mono ?_
                rintro e z1 ⟨pa9, pc9, ca9, cc9, he, ho1, ho2, hB9⟩
                replace he : e = .returned (.agg #[.int .i64 m.b, .slice pa9 m.p.length pc9, .slice ca9 m.c.length cc9, .int .i64 m.a]) := he
                subst he
                have HZ1 : Hid (Below z0.heap.size z0 z1) := below_trans (below_drewN z0 1) hB9
                have HP9 : Hid (Nv z1 (.slice pa9 m.p.length pc9) m.p) := own_nv ho1 (rgt_p64 HRM.out)
                have HQ9 : Hid (Nv z1 (.slice ca9 m.c.length cc9) m.c) := own_nv ho2 (rgt_c64 HRM.out)
                clear ho1 ho2 hB9
                go_simp
                refine hK.out _ _ ?_ (fun hHeld => ?_)
                · exact (HNB0.out _ HZ1.out)
                clear hK K
                try simp only [Act.put, List.setIfInBounds_toArray, List.set_cons_zero, List.set_cons_succ]
                refine wpAnyH_ready (rs := [3]) (by kernel_rfl) (by simp) ?_
                refine AllReadyH.cons (o := ⟨some 162, _, _, _, _, _⟩) rfl (fun K hK => ?_) AllReadyH.nil
                go_simp
                refine (notes_walk (n := m) HP9.out HQ9.out ((IV.out.below HZ1.out).p.nv) ((IV.out.below HZ1.out).c.nv)).mono ?_
                rintro e z2 ⟨rfl, hBz⟩
                have HZ2 : Hid (Below z0.heap.size z0 z2) := below_trans HZ1.out hBz
                clear hBz
                go_simp
                refine hK.out _ _ ?_ (fun hHeld => ?_)
                · exact (HNB0.out _ HZ2.out)
                clear hK K
                try simp only [Act.put, List.setIfInBounds_toArray, List.set_cons_zero, List.set_cons_succ]
                refine wpAnyH_take (i := 4) (oi := ⟨some 163, _, _, _, _, _⟩) (v := ?_) rfl (by kernel_rfl) (by kernel_rfl) (by kernel_rfl) (fun _ _ _ h => h) (Or.inl ⟨by rfl, ?_⟩) hHeld ?_
                rotate_left
                · intro w hSw; (try dsimp only at hSw); go_simp; all_goals (with_reducible rfl)
                try simp only [Act.put, List.setIfInBounds_toArray, List.set_cons_zero, List.set_cons_succ]
                refine wpAnyH_take (i := 5) (oi := ⟨some 164, _, _, _, _, _⟩) (v := ?_) rfl (by kernel_rfl) (by kernel_rfl) (by kernel_rfl) (fun _ _ _ h => h) (Or.inl ⟨by rfl, ?_⟩) hHeld ?_
                rotate_left
                · intro w hSw; (try dsimp only at hSw); go_simp; all_goals (with_reducible rfl)
                try simp only [Act.put, List.setIfInBounds_toArray, List.set_cons_zero, List.set_cons_succ]
                refine wpAnyH_take (i := 6) (oi := ⟨some 165, _, _, _, _, _⟩) (v := ?_) rfl (by kernel_rfl) (by kernel_rfl) (by kernel_rfl) (fun _ _ _ h => h) (Or.inl ⟨by rfl, ?_⟩) hHeld ?_
                rotate_left
                · intro w hSw; (try dsimp only at hSw); go_simp; all_goals (with_reducible rfl)
                try simp only [Act.put, List.setIfInBounds_toArray, List.set_cons_zero, List.set_cons_succ]
                refine wpAnyH_take (i := 7) (oi := ⟨some 166, _, _, _, _, _⟩) (v := ?_) rfl (by kernel_rfl) (by kernel_rfl) (by kernel_rfl) (fun _ _ _ h => h) (Or.inl ⟨by rfl, ?_⟩) hHeld ?_
                rotate_left
                · intro w hSw; (try dsimp only at hSw); go_simp; all_goals (with_reducible rfl)
                try simp only [Act.put, List.setIfInBounds_toArray, List.set_cons_zero, List.set_cons_succ]
                refine wpAnyH_ready (rs := [8]) (by kernel_rfl) (by simp) ?_
                refine AllReadyH.cons (o := ⟨some 167, _, _, _, _, _⟩) rfl (fun K hK => ?_) AllReadyH.nil
                go_simp
                refine (notes_walk (n := m) ((IX0.out.below HZ2.out).p.nv) ((IX0.out.below HZ2.out).c.nv) ((IV.out.below HZ2.out).p.nv) ((IV.out.below HZ2.out).c.nv)).mono ?_
                rintro e z3 ⟨rfl, hBz⟩
                have HZ3 : Hid (Below z0.heap.size z0 z3) := below_trans HZ2.out hBz
                clear hBz
                go_simp
                refine hK.out _ _ ?_ (fun hHeld => ?_)
                · exact (HNB0.out _ HZ3.out)
                clear hK K
                try simp only [Act.put, List.setIfInBounds_toArray, List.set_cons_zero, List.set_cons_succ]
                refine wpAnyH_take (i := 9) (oi := ⟨some 168, _, _, _, _, _⟩) (v := ?_) rfl (by kernel_rfl) (by kernel_rfl) (by kernel_rfl) (fun _ _ _ h => h) (Or.inl ⟨by rfl, ?_⟩) hHeld ?_
                rotate_left
                · intro w hSw; (try dsimp only at hSw); go_simp; all_goals (with_reducible rfl)
                try simp only [Act.put, List.setIfInBounds_toArray, List.set_cons_zero, List.set_cons_succ]
                refine wpAnyH_take (i := 10) (oi := ⟨some 169, _, _, _, _, _⟩) (v := ?_) rfl (by kernel_rfl) (by kernel_rfl) (by kernel_rfl) (fun _ _ _ h => h) (Or.inl ⟨by rfl, ?_⟩) hHeld ?_
                rotate_left
                · intro w hSw; (try dsimp only at hSw); go_simp; all_goals (with_reducible rfl)
                try simp only [Act.put, List.setIfInBounds_toArray, List.set_cons_zero, List.set_cons_succ]
                refine wpAnyH_done (by kernel_rfl) ?_ _
                refine NoPanic.normal ?_
                have HEND : Hid (Fit wz E sb jb N p (k + 1) ⟨J.g + 1, m, 1 - J.h, false⟩ (putS S (1 - J.h) (bytN (J.g + 1) m)) (.slice po5 p pc5) (.slice co5 p cc5) z3) := by
                  have hl := (IL2.out.below HZ3.out).less (E := E) (fun x hx => .inl (.inl hx))
                  rw [← HE23.out.1, ← HE23.out.2] at hl
                  exact (HFS.out _ _ z3 hl (IV.out.below HZ3.out)).2.2.2
                go_wp2_with fail
                go_roundw
                case rel => exact ⟨k + 1, by omega, by omega, by go_num, _, _, _, _, _, HEND.out⟩
                case measure => simp [intOf]; omega
    · by_cases hk1 : k < ts.length
      · have hk1i : (k : Int) < (ts.length : Int) := by omega
        have hk2i : ¬ (k : Int) < 60 := by omega
        go_wp2_with fail
        go_ret
        exact ⟨rfl, below_trans HBZ.out HF.out.lw.bel⟩
      · have hk1i : ¬ (k : Int) < (ts.length : Int) := by omega
        go_wp2_with fail
        go_ret
        exact ⟨rfl, below_trans HBZ.out HF.out.lw.bel⟩
end Go.Proofs.Ytcbkeicgnfgpnaa


