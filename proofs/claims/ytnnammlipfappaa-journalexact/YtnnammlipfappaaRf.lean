/- The reference's read. -/
import Derived.Test.YtnnammlipfappaaRe

import Derived.Test.YtnnammlipfappaaJj

namespace Go.Proofs.Ytnnammlipfappaa

open Ieee Go.RowKit



theorem results_tmp_cell {fn : Func} {p u : Tmp} {ty : TypeId} (h : fn.results = #[.tmp u, .cell p ty]) (tmps : Array Value) (P : Program) (w : World) :
    (results fn tmps).run P w =
      ((asAddr (tmps.getD p undef)).run P w).andThen fun a w₁ => ((loadVar ty a).run P w₁).andThen fun v w₂ => .ok (.tuple #[tmps.getD u undef, v]) w₂ := by
  simp only [results, h]
  simp [Sem.run_bind, Result.andThen]
def hC (F : List Nat) : Array Value := #[.int .i64 (F.getD 0 0 : Nat), .int .i64 (F.getD 1 0 : Nat), .int .i64 (F.getD 2 0 : Nat)]
structure Th (w wr : World) (F : List Nat) : Prop where
  bel : Below w.heap.size w wr
  res : wr.heap[w.heap.size]? = some (.cells #[.int .i64 0, .slice none 0 0, .slice none 0 0, .int .i64 0] 41 (0, 0))
  blk : wr.heap[w.heap.size + 1]? = some (.cells (hC F) 105 (0, 0))
section

variable {w wr w' : World} {F : List Nat} {q : Int} {l : List Nat} {bv : Value}

theorem Th.go (h : Th w wr F) (hb : Below wr.heap.size wr w') : Th w w' F := ⟨h.bel.trans (hb.mono h.bel.size), blk_below h.res hb, blk_below h.blk hb⟩
theorem Th.end4 (h : Th w wr F) (hg : wr.grownBy w' (some w.heap.size)) : Below w.heap.size w w' := h.bel.grown hg h.bel.size (fun x hx => by cases hx; omega)
theorem hC_set {k x : Nat} (hk : F.length = k) (h3 : k < 3) : (hC F).setIfInBounds k (.int .i64 x) = hC (F ++ [x]) := by
  subst hk
  match F, h3 with
  | [], _ => rfl
  | [a], _ => rfl
  | [a, b], _ => rfl
theorem Th.set {k x : Nat} (h : Th w wr F) (hk : F.length = k) (h3 : k < 3) : Th w (wr.setCell ⟨w.heap.size + 1, k, none⟩ (.int .i64 x)) (F ++ [x]) := by
  refine ⟨h.bel.setCell (p := ⟨w.heap.size + 1, k, none⟩) (by simp) _, by rw [set_other _ _ (by omega)]; exact h.res, ?_⟩
  rw [set_row h.blk, hC_set hk h3]
/-- What read leaves. -/
def RdGot (q : Int) (l : List Nat) (w : World) (e : Ending) (w' : World) : Prop := Below w.heap.size w w' ∧
  ((takE q l = none ∧ ∃ (nb na : Int) (pa : Option Addr) (pn pc : Nat) (ca : Option Addr) (cn cc : Nat), e = .returned (.tuple #[.int .i64 0, .agg #[.int .i64 nb, .slice pa pn pc, .slice ca cn cc, .int .i64 na]])) ∨
   ∃ (g : Nat) (n : Nt) (pa ca : Option Addr) (pc cc : Nat), takE q l = some (g, n) ∧ e = .returned (.tuple #[.int .i64 g, .agg #[.int .i64 n.b, .slice pa n.p.length pc, .slice ca n.c.length cc, .int .i64 n.a]]) ∧ OwN w.heap.size w' (.slice pa n.p.length pc) n.p ∧ OwN w.heap.size w' (.slice ca n.c.length cc) n.c)
theorem rd_no (h : takE q l = none) (hb : Below w.heap.size w w') : RdGot q l w (.returned (.tuple #[.int .i64 0, .agg #[.int .i64 0, .slice none 0 0, .slice none 0 0, .int .i64 0]])) w' := ⟨hb, .inl ⟨h, _, _, _, _, _, _, _, _, rfl⟩⟩
theorem rd_own {v : Value} {xs : List Int} (h : OwN (w.heap.size + 2) wr v xs) (hg : wr.grownBy w' (some w.heap.size)) : OwN w.heap.size w' v xs := by
  refine own_base (row_keep h fun x hx => hg.block x (h.lt x hx).2 (fun e => ?_)) (by omega)
  have h1 := (h.lt x hx).1
  have h2 := Option.some.inj e
  omega
theorem rd_yes {r : List Nat} {n : Nt} {a0 : Nat} {a1 a2 : Int} {P C : List Int} {ta tb : Option Addr} {tc td : Nat} (h : takE q l = if r = [] ∧ 1 ≤ a0 ∧ rgtB n q = true then some (a0, n) else none) (hr : r = []) (hg : rgtB n q = true) (hn : n.b = a1 ∧ n.p = P ∧ n.c = C ∧ n.a = a2) (hT : Th w wr F) (hP : OwN (w.heap.size + 2) wr (.slice ta P.length tc) P) (hC : OwN (w.heap.size + 2) wr (.slice tb C.length td) C) (hw : wr.grownBy w' (some w.heap.size)) :
    RdGot q l w (.returned (.tuple #[.int .i64 a0, .agg #[.int .i64 a1, .slice ta P.length tc, .slice tb C.length td, .int .i64 a2]])) w'.drew := by
  refine ⟨(hT.end4 hw).drew, ?_⟩
  obtain ⟨h1, h2, h3, h4⟩ := hn
  subst h1 h2 h3 h4
  by_cases h0 : 1 ≤ a0
  · rw [if_pos ⟨hr, h0, hg⟩] at h
    exact .inr ⟨a0, n, ta, tb, tc, td, h, rfl, own_below (rd_own hP hw) (below_drewN _ 1), own_below (rd_own hC hw) (below_drewN _ 1)⟩
  · rw [if_neg (fun e => h0 e.2.1)] at h
    have : a0 = 0 := by omega
    subst this
    exact .inl ⟨h, _, _, _, _, _, _, _, _, rfl⟩
set_option maxRecDepth 100000 in
set_option maxHeartbeats 4000000 in
theorem rread18_walk (hb : Bv w bv l) (hq : q ≤ 4) : Calls Try.prog 51 #[bv, .int .i64 q] w (RdGot q l w) := by
  have HB : Hid (Bv w bv l) := hb
  have HQ : Hid (q ≤ 4) := hq
  have HL : Hid (∀ c ∈ l, c < 256) := hb.2
  obtain ⟨w0, hw0⟩ : ∃ w0, w0 = (w.alloc (Obj.cells #[.int .i64 0, .slice none 0 0, .slice none 0 0, .int .i64 0] 41)).alloc (Obj.cells #[.int .i64 0, .int .i64 0, .int .i64 0] 105) := ⟨_, rfl⟩
  have HW0 := hidH hw0
  have HT0 : Hid (Th w w0 []) := by
    refine ⟨?_, ?_, ?_⟩
    · rw [hw0]; exact below_trans (below_alloc _ _) (below_alloc _ _)
    · rw [hw0]; exact alloc_old (alloc_at rfl)
    · rw [hw0]; exact alloc_at (by simp)
  clear hb hq hw0
  go_enter Try.func51, Try.ntmps51
  go_upto_region 2 with fail
  rw [← HW0.out]
  go_wp2_with fail
  go_loopw [0, 7] (fun bv iv wr => ∃ k : Nat, k ≤ 3 ∧ iv = .int .i64 k ∧ ∃ F r, tkN k l = some (F, r) ∧ Bv w bv r ∧ Th w wr F) (fun _ iv _ => 3 - (intOf iv).toNat)
  case atStart => exact ⟨0, by omega, rfl, [], l, rfl, HB.out, HT0.out⟩
  case round =>
    obtain ⟨k, hk, rfl, F, r, hF, hr, hT⟩ := hrel
    have HF : Hid (tkN k l = some (F, r)) := hF
    have HR : Hid (Bv w u0 r) := hr
    have HT : Hid (Th w wr F) := hT
    obtain ⟨ra, rc, rfl⟩ := bv_form hr
    have hrl : r.length ≤ rc := (show Bv w (.slice ra r.length rc) r from hr).le_cap
    by_cases hlt : k < 3
    · have hli : (k : Int) < 3 := by omega
      have HFL : Hid (F.length = k) := (tkN_len k hF).1
      obtain ⟨cu, hcu⟩ : ∃ cu, wr.cell? ⟨w.heap.size + 1, k, none⟩ = some (.int .i64 cu) := by
        rw [blk_cell hT.blk]
        have : k = 0 ∨ k = 1 ∨ k = 2 := by omega
        rcases this with rfl | rfl | rfl <;> exact ⟨_, rfl⟩
      have fz : wr.frozen? ⟨w.heap.size + 1, k, none⟩ = false := blk_soft hT.blk _
      have q0 : wr.cell? ⟨w.heap.size, 0, none⟩ = some (.int .i64 0) := by rw [blk_cell HT.out.res]; rfl
      have q1 : wr.cell? ⟨w.heap.size, 1, none⟩ = some (.slice none 0 0) := by rw [blk_cell HT.out.res]; rfl
      have q2 : wr.cell? ⟨w.heap.size, 2, none⟩ = some (.slice none 0 0) := by rw [blk_cell HT.out.res]; rfl
      have q3 : wr.cell? ⟨w.heap.size, 3, none⟩ = some (.int .i64 0) := by rw [blk_cell HT.out.res]; rfl
      have y0 : wr.frozen? ⟨w.heap.size, 0, none⟩ = false := blk_soft HT.out.res 0
      have y1 : wr.frozen? ⟨w.heap.size, 1, none⟩ = false := blk_soft HT.out.res 1
      have y2 : wr.frozen? ⟨w.heap.size, 2, none⟩ = false := blk_soft HT.out.res 2
      have y3 : wr.frozen? ⟨w.heap.size, 3, none⟩ = false := blk_soft HT.out.res 3
      clear hF hr hT
      go_wp2_with fail
      refine (rtake_walk (HR.out.below HT.out.bel)).mono ?_
      rintro e w2 ⟨he, hw2⟩
      replace hw2 := hw2.symm
      subst hw2
      rcases Wm.take_form r HR.out.2 with ⟨er, her, h34⟩ | ⟨x, n, htx, hx, hn1, hn2, henc⟩
      · rw [t3_lit her] at he
        subst he
        have HN : Hid (takE q l = none) := takE_n1 (k := k + 1) (by omega) (tkN_stop HF.out (by unfold tk1; rw [her, if_neg]; simp only; omega))
        have hne : ((er : Int) != 0) = true := by rw [bne_iff_ne]; omega
        clear her h34
        go_wp2_with fail
        (try simp only [Exit.inBlock, Exit.then])
        refine bodyPost_ret (v := .tuple #[.int .i64 0, .agg #[.int .i64 0, .slice none 0 0, .slice none 0 0, .int .i64 0]]) (by rw [results_tmp_cell rfl]; go_simp) rfl ?_
        exact rd_no HN.out (HT.out.end4 (grown_set4 _ _ _ _ _ _))
      · rw [t3_lit htx] at he
        subst he
        by_cases hbig : x ≤ 1099511627776
        · have HK : Hid (tk1 r = some (x, r.drop n)) := by show _ = _; unfold tk1; rw [htx, if_pos ⟨rfl, hbig⟩]
          have hnb : decide ((1099511627776 : Int) < (x : Int)) = false := by rw [decide_eq_false_iff_not]; omega
          have u1 : IntKind.i64.wrap (x : Int) = (x : Int) := wrapU (by omega) (by omega)
          have hnl : (n : Int) ≤ (r.length : Int) := by omega
          obtain ⟨A, hA⟩ : ∃ A, (if rc = n then ra else ra.map fun a => a.add n) = A := ⟨_, rfl⟩
          have HC : Hid (Bv w (.slice A (r.length - n) (rc - n)) (r.drop n)) := by
            show Bv _ _ _
            have := HR.out.cut n r.length hn2 (Nat.le_refl _) (rc = n) Iff.rfl
            rw [hA, List.take_of_length_le (by rw [List.length_drop]; exact Nat.le_refl _)] at this
            exact this
          have HTN : Hid (Th w (wr.setCell ⟨w.heap.size + 1, k, none⟩ (.int .i64 x)) (F ++ [x])) := HT.out.set HFL.out hlt
          have HLT : Hid (k < 3) := hlt
          clear htx henc hbig hx
          go_wp2_with fail
          clear hA
          go_roundw
          case rel => exact ⟨k + 1, by omega, by go_num, _, _, tkN_succ HF.out HK.out, HC.out, HTN.out⟩
          case measure => simp [intOf]; omega
        · have HN : Hid (takE q l = none) := takE_n1 (k := k + 1) (by omega) (tkN_stop HF.out (by unfold tk1; rw [htx, if_neg]; simp only; omega))
          have hnb : decide ((1099511627776 : Int) < (x : Int)) = true := by rw [decide_eq_true_iff]; omega
          clear htx henc hbig hx
          go_wp2_with fail
          (try simp only [Exit.inBlock, Exit.then])
          refine bodyPost_ret (v := .tuple #[.int .i64 0, .agg #[.int .i64 0, .slice none 0 0, .slice none 0 0, .int .i64 0]]) (by rw [results_tmp_cell rfl]; go_simp) rfl ?_
          exact rd_no HN.out (HT.out.end4 (grown_set4 _ _ _ _ _ _))
    obtain rfl : k = 3 := by omega
    have HRL : Hid (∀ c ∈ r, c < 256) := HR.out.2
    clear hr hT hF hlt
    go_wp2_with fail
    refine (rtakenums_walk 4 (HR.out.below HT.out.bel) (by omega)).mono ?_
    rintro e w2 ⟨ta, tc, rfl, ht, hB2⟩
    obtain ⟨x0, m, er, htn⟩ : ∃ xs m er, Wm.takeNums r 4 = (xs, m, er) := ⟨_, _, _, rfl⟩
    rw [htn] at ht ⊢
    simp only at ht ⊢
    have HT2 : Hid (Th w w2 F) := HT.out.go hB2
    have HSZ : Hid (w.heap.size + 2 ≤ wr.heap.size) := blk_lt HT.out.blk
    have HB2 : Hid (Below wr.heap.size wr w2) := hB2
    have q0 : w2.cell? ⟨w.heap.size, 0, none⟩ = some (.int .i64 0) := by rw [blk_cell HT2.out.res]; rfl
    have q1 : w2.cell? ⟨w.heap.size, 1, none⟩ = some (.slice none 0 0) := by rw [blk_cell HT2.out.res]; rfl
    have q2 : w2.cell? ⟨w.heap.size, 2, none⟩ = some (.slice none 0 0) := by rw [blk_cell HT2.out.res]; rfl
    have q3 : w2.cell? ⟨w.heap.size, 3, none⟩ = some (.int .i64 0) := by rw [blk_cell HT2.out.res]; rfl
    have y0 : w2.frozen? ⟨w.heap.size, 0, none⟩ = false := blk_soft HT2.out.res 0
    have y1 : w2.frozen? ⟨w.heap.size, 1, none⟩ = false := blk_soft HT2.out.res 1
    have y2 : w2.frozen? ⟨w.heap.size, 2, none⟩ = false := blk_soft HT2.out.res 2
    have y3 : w2.frozen? ⟨w.heap.size, 3, none⟩ = false := blk_soft HT2.out.res 3
    by_cases her : er = 0
    · subst her
      have HK : Hid (tl1 4 r = some (x0, r.drop m)) := by show _ = _; unfold tl1; rw [htn, if_pos rfl]
      obtain ⟨hml, hx62⟩ := takeNums_le HR.out.2 htn
      have HX : Hid (In64 (ib x0)) := in64_ib hx62
      have HO : Hid (OwN (w.heap.size + 2) w2 (.slice ta (ib x0).length tc) (ib x0)) := by
        refine own_base (show OwN wr.heap.size w2 (.slice ta (ib x0).length tc) (ib x0) from ?_) HSZ.out
        show World.ownsRow _ _ _ _ _ _ _
        rw [ib_len] at ht ⊢; exact ht
      have hnl : (m : Int) ≤ (r.length : Int) := by omega
      obtain ⟨A, hA⟩ : ∃ A, (if rc = m then ra else ra.map fun a => a.add m) = A := ⟨_, rfl⟩
      obtain ⟨s, hs⟩ : ∃ s, s = r.drop m := ⟨_, rfl⟩
      have hsn : r.length - m = s.length := by rw [hs, List.length_drop]
      have HC : Hid (Bv w (.slice A s.length (rc - m)) s) := by
        show Bv _ _ _
        have := HR.out.cut m r.length hml (Nat.le_refl _) (rc = m) Iff.rfl
        rw [hA, List.take_of_length_le (by rw [List.length_drop]; exact Nat.le_refl _), hsn, ← hs] at this
        exact this
      rw [← hs] at HK
      have HSL : Hid (∀ c ∈ s, c < 256) := fun c hc => HRL.out c (List.mem_of_mem_drop (by rw [← hs]; exact hc))
      clear htn ht hB2 hml hx62 hs q0 q1 q2 q3 y0 y1 y2 y3
      go_upto_region 14 with fail
      clear hA hsn
      go_wp2_with fail
      refine (rtakenums_walk 4 (HC.out.below HT2.out.bel) (by omega)).mono ?_
      rintro e w3 ⟨tb, td, rfl, ht, hB3⟩
      obtain ⟨x1, m2, er, htn⟩ : ∃ xs m er, Wm.takeNums s 4 = (xs, m, er) := ⟨_, _, _, rfl⟩
      rw [htn] at ht ⊢
      simp only at ht ⊢
      have HT3 : Hid (Th w w3 F) := HT2.out.go hB3
      have HO3 : Hid (OwN (w.heap.size + 2) w3 (.slice ta (ib x0).length tc) (ib x0)) := own_below HO.out hB3
      have q0 : w3.cell? ⟨w.heap.size, 0, none⟩ = some (.int .i64 0) := by rw [blk_cell HT3.out.res]; rfl
      have q1 : w3.cell? ⟨w.heap.size, 1, none⟩ = some (.slice none 0 0) := by rw [blk_cell HT3.out.res]; rfl
      have q2 : w3.cell? ⟨w.heap.size, 2, none⟩ = some (.slice none 0 0) := by rw [blk_cell HT3.out.res]; rfl
      have q3 : w3.cell? ⟨w.heap.size, 3, none⟩ = some (.int .i64 0) := by rw [blk_cell HT3.out.res]; rfl
      have y0 : w3.frozen? ⟨w.heap.size, 0, none⟩ = false := blk_soft HT3.out.res 0
      have y1 : w3.frozen? ⟨w.heap.size, 1, none⟩ = false := blk_soft HT3.out.res 1
      have y2 : w3.frozen? ⟨w.heap.size, 2, none⟩ = false := blk_soft HT3.out.res 2
      have y3 : w3.frozen? ⟨w.heap.size, 3, none⟩ = false := blk_soft HT3.out.res 3
      by_cases her : er = 0
      · subst her
        obtain ⟨hml, hx62⟩ := takeNums_le HC.out.2 htn
        have HK2 : Hid (tl1 4 s = some (x1, s.drop m2)) := by show _ = _; unfold tl1; rw [htn, if_pos rfl]
        have HRD := hidH (takE_read HQ.out HL.out HF.out HK.out HK2.out)
        have HX2 : Hid (In64 (ib x1)) := in64_ib hx62
        have HO2 : Hid (OwN (w.heap.size + 2) w3 (.slice tb (ib x1).length td) (ib x1)) := by
          refine own_base (show OwN w2.heap.size w3 (.slice tb (ib x1).length td) (ib x1) from ?_) (Nat.le_trans HSZ.out HB2.out.size)
          show World.ownsRow _ _ _ _ _ _ _
          rw [ib_len] at ht ⊢; exact ht
        by_cases hm : m2 = s.length
        · have hmf : ((m2 : Int) != (s.length : Int)) = false := by rw [hm]; simp
          have HM : Hid (s.drop m2 = []) := by show _ = _; rw [hm]; simp
          have h1 : w3.cell? ⟨w.heap.size + 1, 1, none⟩ = some (.int .i64 (F.getD 1 0 : Nat)) := by rw [blk_cell HT3.out.blk]; rfl
          have h2 : w3.cell? ⟨w.heap.size + 1, 2, none⟩ = some (.int .i64 (F.getD 2 0 : Nat)) := by rw [blk_cell HT3.out.blk]; rfl
          obtain ⟨n, hn⟩ : ∃ n, n = mkN F [x0, x1] := ⟨_, rfl⟩
          have HNN : Hid (n = mkN F [x0, x1]) := hn
          obtain ⟨a1, ha1⟩ : ∃ a1 : Nat, a1 = F.getD 1 0 := ⟨_, rfl⟩
          obtain ⟨a2, ha2⟩ : ∃ a2 : Nat, a2 = F.getD 2 0 := ⟨_, rfl⟩
          rw [← ha1] at h1
          rw [← ha2] at h2
          have HNF : Hid (n.b = (a1 : Int) ∧ n.p = ib x0 ∧ n.c = ib x1 ∧ n.a = (a2 : Int)) := by show _ ∧ _; rw [hn, ha1, ha2]; exact ⟨rfl, rfl, rfl, rfl⟩
          obtain ⟨w4, hw4⟩ : ∃ w4, w4 = w3.alloc (Obj.cells #[.int .i64 a1, .slice ta (ib x0).length tc, .slice tb (ib x1).length td, .int .i64 a2] 41) := ⟨_, rfl⟩
          have HW4 := hidH hw4
          obtain ⟨NB, hNB⟩ : ∃ NB, NB = w3.heap.size := ⟨_, rfl⟩
          have HNB := hidH hNB
          have hblk : w4.heap[NB]? = some (.cells #[.int .i64 a1, .slice ta (ib x0).length tc, .slice tb (ib x1).length td, .int .i64 a2] 41 (0, 0)) := by rw [hw4, hNB]; exact alloc_at rfl
          have HBK := hidH hblk
          have hb34 : Below w3.heap.size w3 w4 := by rw [hw4]; exact below_alloc _ _
          have HT4 : Hid (Th w w4 F) := HT3.out.go hb34
          have HP4 : Hid (OwN (w.heap.size + 2) w4 (.slice ta (ib x0).length tc) (ib x0)) := own_below HO3.out hb34
          have HC4 : Hid (OwN (w.heap.size + 2) w4 (.slice tb (ib x1).length td) (ib x1)) := own_below HO2.out hb34
          have n0 : w4.cell? ⟨NB, 0, none⟩ = some (.int .i64 a1) := by rw [blk_cell hblk]; rfl
          have n1 : w4.cell? ⟨NB, 1, none⟩ = some (.slice ta (ib x0).length tc) := by rw [blk_cell hblk]; rfl
          have n2 : w4.cell? ⟨NB, 2, none⟩ = some (.slice tb (ib x1).length td) := by rw [blk_cell hblk]; rfl
          have n3 : w4.cell? ⟨NB, 3, none⟩ = some (.int .i64 a2) := by rw [blk_cell hblk]; rfl
          clear htn ht hB3 hml hx62 hm hn ha1 ha2 hw4 hNB hblk hb34 q0 q1 q2 q3 y0 y1 y2 y3
          go_upto_region 18 with fail
          rw [← HW4.out, ← HNB.out]
          clear h1 h2
          go_wp2_with fail
          refine (show Calls Try.prog 47 #[.agg #[.int .i64 a1, .slice ta (ib x0).length tc, .slice tb (ib x1).length td, .int .i64 a2], .int .i64 q] w4 _ from rgt_walk (n := ⟨a1, ib x0, ib x1, a2⟩) (own_nv HP4.out HX.out) (own_nv HC4.out HX2.out)).mono ?_
          rw [show (⟨(a1 : Int), ib x0, ib x1, (a2 : Int)⟩ : Nt) = n from by rw [← HNF.out.1, ← HNF.out.2.1, ← HNF.out.2.2.1, ← HNF.out.2.2.2]]
          rintro e w5 ⟨rfl, hB5⟩
          have HT5 : Hid (Th w w5 F) := HT4.out.go hB5
          have HP5 : Hid (OwN (w.heap.size + 2) w5 (.slice ta (ib x0).length tc) (ib x0)) := own_below HP4.out hB5
          have HC5 : Hid (OwN (w.heap.size + 2) w5 (.slice tb (ib x1).length td) (ib x1)) := own_below HC4.out hB5
          have hblk := blk_below HBK.out hB5
          clear n0 n1 n2 n3
          have n0 : ∀ wx, Below w5.heap.size w5 wx → wx.cell? ⟨NB, 0, none⟩ = some (.int .i64 a1) := fun wx h => by rw [blk_cell (blk_below hblk h)]; rfl
          have n1 : ∀ wx, Below w5.heap.size w5 wx → wx.cell? ⟨NB, 1, none⟩ = some (.slice ta (ib x0).length tc) := fun wx h => by rw [blk_cell (blk_below hblk h)]; rfl
          have n2 : ∀ wx, Below w5.heap.size w5 wx → wx.cell? ⟨NB, 2, none⟩ = some (.slice tb (ib x1).length td) := fun wx h => by rw [blk_cell (blk_below hblk h)]; rfl
          have n3 : ∀ wx, Below w5.heap.size w5 wx → wx.cell? ⟨NB, 3, none⟩ = some (.int .i64 a2) := fun wx h => by rw [blk_cell (blk_below hblk h)]; rfl
          have q0 : w5.cell? ⟨w.heap.size, 0, none⟩ = some (.int .i64 0) := by rw [blk_cell HT5.out.res]; rfl
          have q1 : w5.cell? ⟨w.heap.size, 1, none⟩ = some (.slice none 0 0) := by rw [blk_cell HT5.out.res]; rfl
          have q2 : w5.cell? ⟨w.heap.size, 2, none⟩ = some (.slice none 0 0) := by rw [blk_cell HT5.out.res]; rfl
          have q3 : w5.cell? ⟨w.heap.size, 3, none⟩ = some (.int .i64 0) := by rw [blk_cell HT5.out.res]; rfl
          have y0 : w5.frozen? ⟨w.heap.size, 0, none⟩ = false := blk_soft HT5.out.res 0
          have y1 : w5.frozen? ⟨w.heap.size, 1, none⟩ = false := blk_soft HT5.out.res 1
          have y2 : w5.frozen? ⟨w.heap.size, 2, none⟩ = false := blk_soft HT5.out.res 2
          have y3 : w5.frozen? ⟨w.heap.size, 3, none⟩ = false := blk_soft HT5.out.res 3
          obtain ⟨a0, ha0⟩ : ∃ a0 : Nat, a0 = F.getD 0 0 := ⟨_, rfl⟩
          have HA0 := hidH ha0
          have h0 : ∀ wx, Below w5.heap.size w5 wx → wx.cell? ⟨w.heap.size + 1, 0, none⟩ = some (.int .i64 a0) := fun wx h => by rw [ha0, blk_cell (blk_below HT5.out.blk h)]; rfl
          cases hrg : rgtB n q with
          | false =>
            have HN : Hid (takE q l = none) := by
              show _ = _
              rw [HRD.out, if_neg]
              rintro ⟨_, _, h3⟩
              rw [← HNN.out, hrg] at h3
              cases h3
            clear hB5 hblk hrg n0 n1 n2 n3 h0 ha0
            go_wp2_with fail
            (try simp only [Exit.inBlock, Exit.then])
            refine bodyPost_ret (v := .tuple #[.int .i64 0, .agg #[.int .i64 0, .slice none 0 0, .slice none 0 0, .int .i64 0]]) (by rw [results_tmp_cell rfl]; go_simp) rfl ?_
            exact rd_no HN.out (HT5.out.end4 (grown_set4 _ _ _ _ _ _))
          | true =>
            have HRG : Hid (rgtB n q = true) := hrg
            clear hB5 hblk hrg ha0
            have m0 := n0 _ (below_same w5)
            have m1 := n1 _ (below_same w5)
            have m2' := n2 _ (below_same w5)
            have m3 := n3 _ (below_same w5)
            have g0 := h0 _ (below_same w5)
            clear n0 n1 n2 n3 h0
            go_upto_region 20 with fail
            go_region_with (fail)
            all_goals go_wp2_with fail
            all_goals (try simp only [Exit.inBlock, Exit.then])
            all_goals
              refine bodyPost_ret (v := .tuple #[.int .i64 a0, .agg #[.int .i64 a1, .slice ta (ib x0).length tc, .slice tb (ib x1).length td, .int .i64 a2]]) (by rw [results_tmp_cell rfl]; go_simp) rfl ?_
              exact rd_yes (r := s.drop m2) (n := n) (by rw [HNN.out, HA0.out]; exact HRD.out) HM.out HRG.out HNF.out HT5.out HP5.out HC5.out (grown_set4 _ _ _ _ _ _)
        · have hmf : ((m2 : Int) != (s.length : Int)) = true := by rw [bne_iff_ne]; omega
          have HN : Hid (takE q l = none) := by
            show _ = _
            rw [HRD.out, if_neg]
            rintro ⟨h1, _⟩
            have := congrArg List.length h1
            rw [List.length_drop] at this
            simp at this
            omega
          clear htn ht hB3 hml hx62 hm
          go_wp2_with fail
          (try simp only [Exit.inBlock, Exit.then])
          refine bodyPost_ret (v := .tuple #[.int .i64 0, .agg #[.int .i64 0, .slice none 0 0, .slice none 0 0, .int .i64 0]]) (by rw [results_tmp_cell rfl]; go_simp) rfl ?_
          exact rd_no HN.out (HT3.out.end4 (grown_set4 _ _ _ _ _ _))
      · have HN : Hid (takE q l = none) := takE_rn1 HQ.out HL.out HF.out HK.out (by unfold tl1; rw [htn, if_neg]; exact her)
        have hne : ((er : Int) != 0) = true := by rw [bne_iff_ne]; omega
        clear htn ht hB3
        go_wp2_with fail
        (try simp only [Exit.inBlock, Exit.then])
        refine bodyPost_ret (v := .tuple #[.int .i64 0, .agg #[.int .i64 0, .slice none 0 0, .slice none 0 0, .int .i64 0]]) (by rw [results_tmp_cell rfl]; go_simp) rfl ?_
        exact rd_no HN.out (HT3.out.end4 (grown_set4 _ _ _ _ _ _))
    · have HN : Hid (takE q l = none) := takE_rn0 HQ.out HL.out HF.out (by unfold tl1; rw [htn, if_neg]; exact her)
      have hne : ((er : Int) != 0) = true := by rw [bne_iff_ne]; omega
      clear htn ht hB2
      go_wp2_with fail
      (try simp only [Exit.inBlock, Exit.then])
      refine bodyPost_ret (v := .tuple #[.int .i64 0, .agg #[.int .i64 0, .slice none 0 0, .slice none 0 0, .int .i64 0]]) (by rw [results_tmp_cell rfl]; go_simp) rfl ?_
      exact rd_no HN.out (HT2.out.end4 (grown_set4 _ _ _ _ _ _))
end

end Go.Proofs.Ytnnammlipfappaa


