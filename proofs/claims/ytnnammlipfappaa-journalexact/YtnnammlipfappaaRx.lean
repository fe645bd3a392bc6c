/- The reference's Save. -/
import Derived.Test.YtnnammlipfappaaRg

import Derived.Test.YtnnammlipfappaaJh

import Derived.Test.YtnnammlipfappaaJn

import Derived.Test.YtnnammlipfappaaJo

import Derived.Test.YtnnammlipfappaaEb

namespace Go.Proofs.Ytnnammlipfappaa

open Ieee Go.RowKit



/-- The reference's journal and its disk, apart. -/
structure RJS (D K : Nat → Prop) (w : World) (v dv : Value) (q : Int) (J : Jn) (S : Dk) : Prop where
  d : Dsk DR D w dv S
  j : Rj K w v dv q J
  ap : ∀ x, K x → ¬ D x
def rsvJ (J : Jn) (S : Dk) (q : Int) (n : Nt) : Jn := if J.o = true ∨ S.down = true then { J with o := true } else if rgtB n q = false then J else if folB n J.n = false then J else if J.g = 1099511627776 then J else if savW J S n = 0 then ⟨J.g + 1, n, 1 - J.h, false⟩ else { J with o := true }
def RvGot (D K : Nat → Prop) (v dv : Value) (q : Int) (J : Jn) (S : Dk) (n : Nt) (w : World) (e : Ending) (w' : World) : Prop := e = .returned (.int .i64 (savI J S q n)) ∧ (∃ D' K' : Nat → Prop, RJS D' K' w' v dv q (rsvJ J S q n) (savS J S q n) ∧ (∀ x, D' x → D x ∨ w.heap.size ≤ x) ∧ ∀ x, K' x → K x ∨ w.heap.size ≤ x) ∧ Ch (fun x => D x ∨ K x) w w'
section

variable {D K : Nat → Prop} {w w' w1 : World} {v dv pv cv : Value} {q : Int} {J : Jn} {S : Dk} {n : Nt} {jb : Nat}

theorem RJS.below (h : RJS D K w v dv q J S) (hb : Below w.heap.size w w') : RJS D K w' v dv q J S := ⟨h.d.below hb, h.j.below hb, h.ap⟩
theorem RJS.ch {E : Nat → Prop} (h : RJS D K w v dv q J S) (hc : Ch E w w') (hE : ∀ x, D x ∨ K x → ¬ E x) : RJS D K w' v dv q J S :=
  ⟨h.d.ch hc (fun x hx => hE x (.inl hx)), h.j.keep (fun x hx => hc.block x (h.j.lt hx) (hE x (.inr hx))) hc.size, h.ap⟩
theorem rsave_nil {w : World} {nb na : Int} {pv cv : Value} : Calls Try.prog 12 #[.pointer none, .agg #[.int .i64 nb, pv, cv, .int .i64 na]] w fun e w' => e = .returned (.int .i64 2) ∧ Below w.heap.size w w' := by
  go_enter Try.func12, Try.ntmps12
  go_wp2_with fail
  go_ret
  exact ⟨rfl, below_alloc _ _⟩
theorem rv_same {c : Int} (h : RJS D K w v dv q J S) (hI : savI J S q n = c) (hJ : rsvJ J S q n = J) (hS : savS J S q n = S) (hb : Below w.heap.size w w') : RvGot D K v dv q J S n w (.returned (.int .i64 c)) w' :=
  ⟨by rw [hI], ⟨D, K, by rw [hJ, hS]; exact h.below hb, fun x hx => .inl hx, fun x hx => .inl hx⟩, Ch.of_below hb⟩
theorem RM.setO {pv' cv' : Value} (h : RM K w jb pv' cv' dv q J) (o : Bool) : RM K (w.setCell ⟨jb, 8, none⟩ (.bool o)) jb pv' cv' dv q { J with o := o } := by
  have hk : ∀ x, x ≠ jb → (w.setCell ⟨jb, 8, none⟩ (.bool o)).heap[x]? = w.heap[x]? := fun x hx => set_other _ _ hx
  refine ⟨by rw [set_row h.head]; rfl, row_keep h.lp fun x hx => hk x (h.kp x hx).2, row_keep h.lc fun x hx => hk x (h.kc x hx).2, h.kj, h.kp, h.kc, fun x hx => ?_, Jn.ok_o h.ok o⟩
  have := h.kl x hx
  simpa [go_sem] using this
theorem RM.turn {p' c' pv' cv' : Value} {J' : Jn} (h : RM K w jb pv' cv' dv q J) (hw : w'.heap[jb]? = some (.cells (rC J' q p' c' dv) 75 (0, 0))) (hk : ∀ x, x ≠ jb → w'.heap[x]? = w.heap[x]?) (hs : w'.heap.size = w.heap.size) (hp : OwN 0 w p' J'.n.p) (hc : OwN 0 w c' J'.n.c) (np : ∀ x, p'.ownBlock = some x → x ≠ jb) (nc : ∀ x, c'.ownBlock = some x → x ≠ jb) (hok : J'.ok q) :
    RM (fun x => K x ∨ p'.ownBlock = some x ∨ c'.ownBlock = some x) w' jb p' c' dv q J' :=
  ⟨hw, row_keep hp fun x hx => hk x (np x hx), row_keep hc fun x hx => hk x (nc x hx), .inl h.kj, fun x hx => ⟨.inr (.inl hx), np x hx⟩, fun x hx => ⟨.inr (.inr hx), nc x hx⟩, fun x hx => by
    rw [hs]
    rcases hx with hx | hx | hx
    · exact h.kl x hx
    · exact (hp.lt x hx).2
    · exact (hc.lt x hx).2, hok⟩
theorem rv_over {pv' cv' : Value} {D' : Nat → Prop} {S' : Dk} {c : Int} (hj : RM K w1 jb pv' cv' dv q J) (hd : Dsk DR D' w1 dv S') (hap : ∀ x, K x → ¬ D' x) (hD : ∀ x, D' x → D x ∨ w.heap.size ≤ x) (hC : Ch (fun x => D x ∨ K x) w w1) (hI : savI J S q n = c) (hJ : rsvJ J S q n = { J with o := true }) (hS : savS J S q n = S') :
    RvGot D K (.pointer (some ⟨jb, 0, none⟩)) dv q J S n w (.returned (.int .i64 c)) (w1.setCell ⟨jb, 8, none⟩ (.bool true)) := by
  have hch : Ch (fun x => x = jb) w1 (w1.setCell ⟨jb, 8, none⟩ (.bool true)) := Ch.of_grown (grown_set w1 jb 8 _) (fun x hx => by cases hx; rfl)
  refine ⟨by rw [hI], ⟨D', K, ?_, hD, fun x hx => .inl hx⟩, hC.trans hch (fun x hx => .inl (.inr (hx ▸ hj.kj)))⟩
  rw [hJ, hS]
  exact ⟨hd.ch hch (fun x hx e => hap jb hj.kj (e ▸ hx)), ⟨jb, pv', cv', rfl, hj.setO true⟩, hap⟩
theorem grown_set4' (w : World) (g i j k m : Nat) (a b c d : Value) : w.grownBy ((((w.setCell ⟨g, i, none⟩ a).setCell ⟨g, j, none⟩ b).setCell ⟨g, k, none⟩ c).setCell ⟨g, m, none⟩ d) (some g) := grown_trans (grown_trans (grown_trans (grown_set _ _ _ _) (grown_set _ _ _ _)) (grown_set _ _ _ _)) (grown_set _ _ _ _)
theorem nv_chD {w w' : World} {D : Nat → Prop} {v : Value} {l : List Int} (h : Nv w v l) (hc : Ch D w w') (hd : ∀ (a : Addr) (m o : Nat), v = .slice (some a) m o → l ≠ [] → ¬ D a.block) : Nv w' v l := by
  obtain ⟨⟨ao, cap, e, h1, h2, h3, h4⟩, h5⟩ := h
  refine ⟨⟨ao, cap, e, h1, h2, h3, fun i hi => ?_⟩, h5⟩
  obtain ⟨b, off, e1, e2⟩ := h4 i hi
  subst e1
  have hb := hc.block b (cell_lt e2) (hd _ _ _ e (fun h => by rw [h] at hi; simp at hi))
  exact ⟨b, off, rfl, by rw [World.cell?_of_block (w := w) (a := ⟨b, off + i, none⟩) hb]; exact e2⟩
theorem rv_yes {pv' cv' : Value} {D' : Nat → Prop} {S' : Dk} {pa ca : Option Addr} {pc cc : Nat} (hj : RM K w1 jb pv' cv' dv q J) (hd : Dsk DR D' w1 dv S') (hap : ∀ x, K x → ¬ D' x) (hD : ∀ x, D' x → D x ∨ w.heap.size ≤ x) (hC : Ch (fun x => D x ∨ K x) w w1) (hI : savI J S q n = 0) (hJ : rsvJ J S q n = ⟨J.g + 1, n, 1 - J.h, false⟩) (hS : savS J S q n = S') (ho : J.o = false) (hok : (⟨J.g + 1, n, 1 - J.h, false⟩ : Jn).ok q)
    (h1 : OwN w.heap.size w1 (.slice pa n.p.length pc) n.p) (h2 : OwN w.heap.size w1 (.slice ca n.c.length cc) n.c) (n1 : ∀ x, (Value.slice pa n.p.length pc).ownBlock = some x → ¬ D' x) (n2 : ∀ x, (Value.slice ca n.c.length cc).ownBlock = some x → ¬ D' x) (hjb : jb < w.heap.size) :
    RvGot D K (.pointer (some ⟨jb, 0, none⟩)) dv q J S n w (.returned (.int .i64 0)) ((((((w1.setCell ⟨jb, 2, none⟩ (.int .i64 n.b)).setCell ⟨jb, 3, none⟩ (.slice pa n.p.length pc)).setCell ⟨jb, 4, none⟩ (.slice ca n.c.length cc)).setCell ⟨jb, 5, none⟩ (.int .i64 n.a)).setCell ⟨jb, 6, none⟩ (.int .i64 ((J.g : Int) + 1))).setCell ⟨jb, 7, none⟩ (.int .i64 (1 - (J.h : Int)))) := by
  have hg := grown_trans (grown_trans (grown_set4' w1 jb 2 3 4 5 (.int .i64 n.b) (.slice pa n.p.length pc) (.slice ca n.c.length cc) (.int .i64 n.a)) (grown_set _ jb 6 (.int .i64 ((J.g : Int) + 1)))) (grown_set _ jb 7 (.int .i64 (1 - (J.h : Int))))
  have hch := Ch.of_grown (D := fun x => x = jb) hg (fun x hx => by cases hx; rfl)
  have hh1 := hj.ok.h1
  refine ⟨by rw [hI], ⟨D', fun x => K x ∨ (Value.slice pa n.p.length pc).ownBlock = some x ∨ (Value.slice ca n.c.length cc).ownBlock = some x, ?_, hD, fun x hx => ?_⟩, hC.trans hch (fun x hx => .inl (.inr (hx ▸ hj.kj)))⟩
  · rw [hJ, hS]
    refine ⟨hd.ch hch (fun x hx e => hap jb hj.kj (e ▸ hx)), ⟨jb, _, _, rfl, hj.turn ?_ (fun x hx => ?_) (by simp [go_sem]) (own_base h1 (Nat.zero_le _)) (own_base h2 (Nat.zero_le _)) (fun x hx e => ?_) (fun x hx e => ?_) hok⟩, fun x hx => ?_⟩
    · rw [set_row (set_row (set_row (set_row (set_row (set_row hj.head _ _) _ _) _ _) _ _) _ _)]
      have e1 : ((J.g : Int) + 1) = ((J.g + 1 : Nat) : Int) := by omega
      have e2 : (1 - (J.h : Int)) = ((1 - J.h : Nat) : Int) := by omega
      rw [e1, e2]
      show some (Obj.cells #[dv, _, _, _, _, _, _, _, Value.bool J.o] _ _) = _
      rw [ho]
      rfl
    · rw [set_other _ _ hx, set_other _ _ hx, set_other _ _ hx, set_other _ _ hx, set_other _ _ hx, set_other _ _ hx]
    · have := (h1.lt x hx).1; omega
    · have := (h2.lt x hx).1; omega
    · rcases hx with hx | hx | hx
      · exact hap x hx
      · exact n1 x hx
      · exact n2 x hx
  · rcases hx with hx | hx | hx
    · exact .inl hx
    · exact .inr (h1.lt x hx).1
    · exact .inr (h2.lt x hx).1
set_option maxRecDepth 100000 in
set_option maxHeartbeats 8000000 in
theorem rsave_walk (h : RJS D K w v dv q J S) (hp : Nv w pv n.p) (hc : Nv w cv n.c) (hpd : ∀ (a : Addr) (m o : Nat), pv = .slice (some a) m o → n.p ≠ [] → ¬ D a.block) (hcd : ∀ (a : Addr) (m o : Nat), cv = .slice (some a) m o → n.c ≠ [] → ¬ D a.block) (hwr : S.wr < 9223372036854775800) :
    Calls Try.prog 12 #[v, .agg #[.int .i64 n.b, pv, cv, .int .i64 n.a]] w (RvGot D K v dv q J S n w) := by
  have HJS : Hid (RJS D K w v dv q J S) := h
  have HWR : Hid (S.wr < 9223372036854775800) := hwr
  obtain ⟨hd, ⟨jb, jp, jc, rfl, hj⟩, hap⟩ := h
  have hd2 := hd
  obtain ⟨sb, gp, cap, rfl, _, _⟩ := hd2
  have HAP : Hid (∀ x, K x → ¬ D x) := hap
  obtain ⟨po, pc, rfl, _⟩ := hj.np.form
  obtain ⟨co, cc, rfl, _⟩ := hj.nc.form
  obtain ⟨np, npc, rfl, _⟩ := (show Nv w pv n.p from hp).form
  obtain ⟨nc, ncc, rfl, _⟩ := (show Nv w cv n.c from hc).form
  have HPD : Hid (∀ (a : Addr) (m o : Nat), Value.slice np n.p.length npc = .slice (some a) m o → n.p ≠ [] → ¬ D a.block) := hpd
  have HCD : Hid (∀ (a : Addr) (m o : Nat), Value.slice nc n.c.length ncc = .slice (some a) m o → n.c ≠ [] → ¬ D a.block) := hcd
  have HJD : Hid (¬ D jb) := hap _ hj.kj
  clear hpd hcd
  obtain ⟨w0, hw0⟩ : ∃ w0, w0 = w.alloc (Obj.cells #[.int .i64 n.b, .slice np n.p.length npc, .slice nc n.c.length ncc, .int .i64 n.a] 41) := ⟨_, rfl⟩
  have HW0 : Hid (w0 = w.alloc (Obj.cells #[.int .i64 n.b, .slice np n.p.length npc, .slice nc n.c.length ncc, .int .i64 n.a] 41)) := hw0
  have hB0 : Below w.heap.size w w0 := by rw [hw0]; exact below_alloc _ _
  have HB0 : Hid (Below w.heap.size w w0) := hB0
  obtain ⟨N0, hN0⟩ : ∃ N0, N0 = w.heap.size := ⟨_, rfl⟩
  have HN0 := hidH hN0
  have HBK : Hid (w0.heap[N0]? = some (.cells #[.int .i64 n.b, .slice np n.p.length npc, .slice nc n.c.length ncc, .int .i64 n.a] 41 (0, 0))) := by show _ = _; rw [hw0, hN0]; exact alloc_at rfl
  have HM : Hid (RM K w0 jb (.slice po J.n.p.length pc) (.slice co J.n.c.length cc) (.pointer (some ⟨sb, 0, none⟩)) q J) := hj.below hB0
  have HD : Hid (Dsk DR D w0 (.pointer (some ⟨sb, 0, none⟩)) S) := hd.below hB0
  have HR : Hid (RJS D K w0 (.pointer (some ⟨jb, 0, none⟩)) (.pointer (some ⟨sb, 0, none⟩)) q J S) := HJS.out.below hB0
  have HP : Hid (Nv w0 (.slice np n.p.length npc) n.p) := hp.below hB0
  have HC : Hid (Nv w0 (.slice nc n.c.length ncc) n.c) := hc.below hB0
  have HJB : Hid (jb < w.heap.size) := blk_lt hj.head
  have HNJ : Hid (¬ N0 = jb) := by have := blk_lt hj.head; show ¬ _; omega
  have c0 : w0.cell? ⟨jb, 0, none⟩ = some (.pointer (some ⟨sb, 0, none⟩)) := by rw [HM.out.cell]; rfl
  have c8 : w0.cell? ⟨jb, 8, none⟩ = some (.bool J.o) := by rw [HM.out.cell]; rfl
  have z8 : w0.frozen? ⟨jb, 8, none⟩ = false := HM.out.soft 8
  have HNB : Hid (∀ x, D x → x < w.heap.size) := fun x hx => hd.lt hx
  clear hd hj hap hp hc hwr hw0 hB0 hN0
  by_cases hdo : J.o = true ∨ S.down = true
  · have hI : savI J S q n = 80 := by unfold savI; rw [if_pos hdo]
    have hJ : rsvJ J S q n = { J with o := true } := by unfold rsvJ; rw [if_pos hdo]
    have hS : savS J S q n = S := by unfold savS; rw [if_pos hdo]
    cases hdn : S.down with
    | true =>
      have HA : Hid (RvGot D K (.pointer (some ⟨jb, 0, none⟩)) (.pointer (some ⟨sb, 0, none⟩)) q J S n w (.returned (.int .i64 80)) (w0.setCell ⟨jb, 8, none⟩ (.bool true))) := rv_over HM.out HD.out HAP.out (fun x hx => .inl hx) (Ch.of_below HB0.out) hI hJ hS
      have HDN : Hid (S.down = true) := hdn
      clear hI hJ hS hdn hdo
      go_enter Try.func12, Try.ntmps12
      go_upto_region 3 with fail
      rw [← HW0.out, ← HN0.out]
      go_wp2_with fail
      refine (rdown_walk HD.out).mono ?_
      rintro e w9 ⟨rfl, h9⟩
      replace h9 := h9.symm
      subst h9
      rw [HDN.out]
      go_wp2_with fail
      go_ret
      exact HA.out
    | false =>
      have hjo : J.o = true := by rcases hdo with h | h; exact h; rw [hdn] at h; cases h
      have HA : Hid (RvGot D K (.pointer (some ⟨jb, 0, none⟩)) (.pointer (some ⟨sb, 0, none⟩)) q J S n w (.returned (.int .i64 80)) w0) := rv_same HJS.out hI (by rw [hJ]; obtain ⟨g, n', h', o'⟩ := J; simp only at hjo; subst hjo; rfl) hS HB0.out
      have HDN : Hid (S.down = false) := hdn
      rw [hjo] at c8
      clear hI hJ hS hdn hdo hjo
      go_enter Try.func12, Try.ntmps12
      go_upto_region 3 with fail
      rw [← HW0.out, ← HN0.out]
      go_wp2_with fail
      refine (rdown_walk HD.out).mono ?_
      rintro e w9 ⟨rfl, h9⟩
      replace h9 := h9.symm
      subst h9
      rw [HDN.out]
      go_wp2_with fail
      go_ret
      exact HA.out
  have hjo : J.o = false := by cases h : J.o; rfl; exact absurd (.inl h) hdo
  have HJO : Hid (J.o = false) := hjo
  have HDN : Hid (S.down = false) := by show _ = _; cases h : S.down; rfl; exact absurd (.inr h) hdo
  have HNO : Hid (¬ (J.o = true ∨ S.down = true)) := hdo
  rw [hjo] at c8
  clear hdo hjo
  have b0 : ∀ wx, Below w0.heap.size w0 wx → wx.cell? ⟨N0, 0, none⟩ = some (.int .i64 n.b) := fun wx h => by rw [blk_cell (blk_below HBK.out h)]; rfl
  have b1 : ∀ wx, Below w0.heap.size w0 wx → wx.cell? ⟨N0, 1, none⟩ = some (.slice np n.p.length npc) := fun wx h => by rw [blk_cell (blk_below HBK.out h)]; rfl
  have b2 : ∀ wx, Below w0.heap.size w0 wx → wx.cell? ⟨N0, 2, none⟩ = some (.slice nc n.c.length ncc) := fun wx h => by rw [blk_cell (blk_below HBK.out h)]; rfl
  have b3 : ∀ wx, Below w0.heap.size w0 wx → wx.cell? ⟨N0, 3, none⟩ = some (.int .i64 n.a) := fun wx h => by rw [blk_cell (blk_below HBK.out h)]; rfl
  have d1 : ∀ wx, Below w0.heap.size w0 wx → wx.cell? ⟨jb, 1, none⟩ = some (.int .i64 q) := fun wx h => by rw [(HM.out.below h).cell]; rfl
  cases hrg : rgtB n q with
  | false =>
    have HRG : Hid (rgtB n q = false) := hrg
    have HA : Hid (∀ wx, Below w.heap.size w wx → RvGot D K (.pointer (some ⟨jb, 0, none⟩)) (.pointer (some ⟨sb, 0, none⟩)) q J S n w (.returned (.int .i64 1)) wx) := fun wx hb => rv_same HJS.out (by unfold savI; rw [if_neg HNO.out, if_pos hrg]) (by unfold rsvJ; rw [if_neg HNO.out, if_pos hrg]) (by unfold savS; rw [if_neg HNO.out, if_pos hrg]) hb
    clear hrg
    go_enter Try.func12, Try.ntmps12
    go_upto_region 3 with fail
    rw [← HW0.out, ← HN0.out]
    go_wp2_with fail
    refine (rdown_walk HD.out).mono ?_
    rintro e w9 ⟨rfl, h9⟩
    replace h9 := h9.symm
    subst h9
    rw [HDN.out]
    go_upto_region 7 with fail
    refine wp_region_noPanic ?_
    refine wp_region_held_drew (S := (fun wx => Below w0.heap.size w0 wx)) (by kernel_rfl) ?_ (fun hHeld => ?_)
    · exact (below_drewN w0 1)
    refine wpAnyH_take (i := 0) (oi := ⟨some 20, _, _, _, _, _⟩) (v := ?_) rfl (by kernel_rfl) (by kernel_rfl) (by kernel_rfl) (fun _ _ _ h => h) (Or.inl ⟨by rfl, ?_⟩) hHeld ?_
    rotate_left
    · intro w hSw; (try dsimp only at hSw); go_simp; all_goals (with_reducible rfl)
    try simp only [Act.put, List.setIfInBounds_toArray, List.set_cons_zero, List.set_cons_succ]
    refine wpAnyH_take (i := 1) (oi := ⟨some 21, _, _, _, _, _⟩) (v := ?_) rfl (by kernel_rfl) (by kernel_rfl) (by kernel_rfl) (fun _ _ _ h => h) (Or.inl ⟨by rfl, ?_⟩) hHeld ?_
    rotate_left
    · intro w hSw; (try dsimp only at hSw); go_simp; all_goals (with_reducible rfl)
    try simp only [Act.put, List.setIfInBounds_toArray, List.set_cons_zero, List.set_cons_succ]
    refine wpAnyH_take (i := 2) (oi := ⟨some 22, _, _, _, _, _⟩) (v := ?_) rfl (by kernel_rfl) (by kernel_rfl) (by kernel_rfl) (fun _ _ _ h => h) (Or.inl ⟨by rfl, ?_⟩) hHeld ?_
    rotate_left
    · intro w hSw; (try dsimp only at hSw); go_simp; all_goals (with_reducible rfl)
    try simp only [Act.put, List.setIfInBounds_toArray, List.set_cons_zero, List.set_cons_succ]
    refine wpAnyH_take (i := 3) (oi := ⟨some 23, _, _, _, _, _⟩) (v := ?_) rfl (by kernel_rfl) (by kernel_rfl) (by kernel_rfl) (fun _ _ _ h => h) (Or.inl ⟨by rfl, ?_⟩) hHeld ?_
    rotate_left
    · intro w hSw; (try dsimp only at hSw); go_simp; all_goals (with_reducible rfl)
    try simp only [Act.put, List.setIfInBounds_toArray, List.set_cons_zero, List.set_cons_succ]
    refine wpAnyH_take (i := 4) (oi := ⟨some 24, _, _, _, _, _⟩) (v := ?_) rfl (by kernel_rfl) (by kernel_rfl) (by kernel_rfl) (fun _ _ _ h => h) (Or.inl ⟨by rfl, ?_⟩) hHeld ?_
    rotate_left
    · intro w hSw; (try dsimp only at hSw); go_simp; all_goals (with_reducible rfl)
    try simp only [Act.put, List.setIfInBounds_toArray, List.set_cons_zero, List.set_cons_succ]
    refine wpAnyH_ready (rs := [5]) (by kernel_rfl) (by simp) ?_
    refine AllReadyH.cons (o := ⟨some 25, _, _, _, _, _⟩) rfl (fun K hK => ?_) AllReadyH.nil
    go_simp
    refine (rgt_walk (n := n) (HP.out.below hHeld) (HC.out.below hHeld)).mono ?_
    rw [HRG.out]
    rintro e w1 ⟨rfl, hB1⟩
    have HB1 : Hid (Below w0.heap.size w0 w1) := below_trans hHeld hB1
    clear hB1
    refine hK.out _ _ ?_ (fun hHeld => ?_)
    · exact HB1.out
    clear hK K
    try simp only [Act.put, List.setIfInBounds_toArray, List.set_cons_zero, List.set_cons_succ]
    refine wpAnyH_take (i := 6) (oi := ⟨some 26, _, _, _, _, _⟩) (v := ?_) rfl (by kernel_rfl) (by kernel_rfl) (by kernel_rfl) (fun _ _ _ h => h) (Or.inl ⟨by rfl, ?_⟩) hHeld ?_
    rotate_left
    · intro w hSw; (try dsimp only at hSw); go_simp; all_goals (with_reducible rfl)
    try simp only [Act.put, List.setIfInBounds_toArray, List.set_cons_zero, List.set_cons_succ]
    refine wpAnyH_done (by kernel_rfl) ?_ _
    refine NoPanic.normal ?_
    go_wp2_with fail
    go_ret
    exact HA.out _ (below_trans HB0.out HB1.out)
  | true =>
    have HRG : Hid (rgtB n q = true) := hrg
    clear hrg
    go_enter Try.func12, Try.ntmps12
    go_upto_region 3 with fail
    rw [← HW0.out, ← HN0.out]
    go_wp2_with fail
    refine (rdown_walk HD.out).mono ?_
    rintro e w9 ⟨rfl, h9⟩
    replace h9 := h9.symm
    subst h9
    rw [HDN.out]
    go_upto_region 7 with fail
    refine wp_region_noPanic ?_
    refine wp_region_held_drew (S := (fun wx => Below w0.heap.size w0 wx)) (by kernel_rfl) ?_ (fun hHeld => ?_)
    · exact (below_drewN w0 1)
    refine wpAnyH_take (i := 0) (oi := ⟨some 20, _, _, _, _, _⟩) (v := ?_) rfl (by kernel_rfl) (by kernel_rfl) (by kernel_rfl) (fun _ _ _ h => h) (Or.inl ⟨by rfl, ?_⟩) hHeld ?_
    rotate_left
    · intro w hSw; (try dsimp only at hSw); go_simp; all_goals (with_reducible rfl)
    try simp only [Act.put, List.setIfInBounds_toArray, List.set_cons_zero, List.set_cons_succ]
    refine wpAnyH_take (i := 1) (oi := ⟨some 21, _, _, _, _, _⟩) (v := ?_) rfl (by kernel_rfl) (by kernel_rfl) (by kernel_rfl) (fun _ _ _ h => h) (Or.inl ⟨by rfl, ?_⟩) hHeld ?_
    rotate_left
    · intro w hSw; (try dsimp only at hSw); go_simp; all_goals (with_reducible rfl)
    try simp only [Act.put, List.setIfInBounds_toArray, List.set_cons_zero, List.set_cons_succ]
    refine wpAnyH_take (i := 2) (oi := ⟨some 22, _, _, _, _, _⟩) (v := ?_) rfl (by kernel_rfl) (by kernel_rfl) (by kernel_rfl) (fun _ _ _ h => h) (Or.inl ⟨by rfl, ?_⟩) hHeld ?_
    rotate_left
    · intro w hSw; (try dsimp only at hSw); go_simp; all_goals (with_reducible rfl)
    try simp only [Act.put, List.setIfInBounds_toArray, List.set_cons_zero, List.set_cons_succ]
    refine wpAnyH_take (i := 3) (oi := ⟨some 23, _, _, _, _, _⟩) (v := ?_) rfl (by kernel_rfl) (by kernel_rfl) (by kernel_rfl) (fun _ _ _ h => h) (Or.inl ⟨by rfl, ?_⟩) hHeld ?_
    rotate_left
    · intro w hSw; (try dsimp only at hSw); go_simp; all_goals (with_reducible rfl)
    try simp only [Act.put, List.setIfInBounds_toArray, List.set_cons_zero, List.set_cons_succ]
    refine wpAnyH_take (i := 4) (oi := ⟨some 24, _, _, _, _, _⟩) (v := ?_) rfl (by kernel_rfl) (by kernel_rfl) (by kernel_rfl) (fun _ _ _ h => h) (Or.inl ⟨by rfl, ?_⟩) hHeld ?_
    rotate_left
    · intro w hSw; (try dsimp only at hSw); go_simp; all_goals (with_reducible rfl)
    try simp only [Act.put, List.setIfInBounds_toArray, List.set_cons_zero, List.set_cons_succ]
    refine wpAnyH_ready (rs := [5]) (by kernel_rfl) (by simp) ?_
    refine AllReadyH.cons (o := ⟨some 25, _, _, _, _, _⟩) rfl (fun K hK => ?_) AllReadyH.nil
    go_simp
    refine (rgt_walk (n := n) (HP.out.below hHeld) (HC.out.below hHeld)).mono ?_
    rw [HRG.out]
    rintro e w1 ⟨rfl, hB1⟩
    have HB1 : Hid (Below w0.heap.size w0 w1) := below_trans hHeld hB1
    clear hB1
    refine hK.out _ _ ?_ (fun hHeld => ?_)
    · exact HB1.out
    clear hK K
    try simp only [Act.put, List.setIfInBounds_toArray, List.set_cons_zero, List.set_cons_succ]
    refine wpAnyH_take (i := 6) (oi := ⟨some 26, _, _, _, _, _⟩) (v := ?_) rfl (by kernel_rfl) (by kernel_rfl) (by kernel_rfl) (fun _ _ _ h => h) (Or.inl ⟨by rfl, ?_⟩) hHeld ?_
    rotate_left
    · intro w hSw; (try dsimp only at hSw); go_simp; all_goals (with_reducible rfl)
    try simp only [Act.put, List.setIfInBounds_toArray, List.set_cons_zero, List.set_cons_succ]
    refine wpAnyH_done (by kernel_rfl) ?_ _
    refine NoPanic.normal ?_
    have HRT : Hid (Rgt n q) := Rgt.of HRG.out
    have e0 := b0 _ HB1.out
    have e1 := b1 _ HB1.out
    have e2 := b2 _ HB1.out
    have e3 := b3 _ HB1.out
    clear b0 b1 b2 b3 d1 c0 c8 z8
    have HR1 : Hid (RJS D K w1 (.pointer (some ⟨jb, 0, none⟩)) (.pointer (some ⟨sb, 0, none⟩)) q J S) := HR.out.below HB1.out
    go_wp2_with fail
    refine (rfol_walk (n := n) HR1.out.j (HP.out.below HB1.out) (HC.out.below HB1.out)).mono ?_
    rintro e w2 ⟨rfl, hB2⟩
    have HB2 : Hid (Below w0.heap.size w0 w2) := below_trans HB1.out hB2
    have HM2 : Hid (RM K w2 jb (.slice po J.n.p.length pc) (.slice co J.n.c.length cc) (.pointer (some ⟨sb, 0, none⟩)) q J) := HM.out.below HB2.out
    have hNR : ¬ rgtB n q = false := by rw [HRG.out]; simp
    cases hfl : folB n J.n with
    | false =>
      have HA : Hid (RvGot D K (.pointer (some ⟨jb, 0, none⟩)) (.pointer (some ⟨sb, 0, none⟩)) q J S n w (.returned (.int .i64 7)) w2) := rv_same HJS.out (by unfold savI; rw [if_neg HNO.out, if_neg hNR, if_pos hfl]) (by unfold rsvJ; rw [if_neg HNO.out, if_neg hNR, if_pos hfl]) (by unfold savS; rw [if_neg HNO.out, if_neg hNR, if_pos hfl]) (below_trans HB0.out HB2.out)
      clear hB2 hfl hNR e0 e1 e2 e3
      go_wp2_with fail
      go_ret
      exact HA.out
    | true =>
      have hNF : ¬ folB n J.n = false := by rw [hfl]; simp
      have HNN : Hid (¬ rgtB n q = false ∧ ¬ folB n J.n = false) := ⟨hNR, hNF⟩
      have g6 : w2.cell? ⟨jb, 6, none⟩ = some (.int .i64 J.g) := by rw [HM2.out.cell]; rfl
      clear e0 e1 e2 e3 hfl hNR hNF
      by_cases hg : J.g = 1099511627776
      · have HA : Hid (RvGot D K (.pointer (some ⟨jb, 0, none⟩)) (.pointer (some ⟨sb, 0, none⟩)) q J S n w (.returned (.int .i64 92)) w2) := rv_same HJS.out (by unfold savI; rw [if_neg HNO.out, if_neg HNN.out.1, if_neg HNN.out.2, if_pos hg]) (by unfold rsvJ; rw [if_neg HNO.out, if_neg HNN.out.1, if_neg HNN.out.2, if_pos hg]) (by unfold savS; rw [if_neg HNO.out, if_neg HNN.out.1, if_neg HNN.out.2, if_pos hg]) (below_trans HB0.out HB2.out)
        have hgd : decide ((1099511627776 : Int) ≤ (J.g : Int)) = true := by rw [decide_eq_true_iff]; omega
        clear hB2 hg
        go_wp2_with fail
        go_ret
        exact HA.out
      · have HNG : Hid (¬ J.g = 1099511627776) := hg
        have HGL : Hid (J.g < 1099511627776) := by have := HM2.out.ok.g2; show _ < _; omega
        have hgd : decide ((1099511627776 : Int) ≤ (J.g : Int)) = false := by rw [decide_eq_false_iff_not]; have := HGL.out; omega
        clear hg
        go_upto_region 13 with fail
        clear g6 hgd
        have HBK2 : Hid (w2.heap[N0]? = some (.cells #[.int .i64 n.b, .slice np n.p.length npc, .slice nc n.c.length ncc, .int .i64 n.a] 41 (0, 0))) := blk_below HBK.out HB2.out
        have hw1 : IntKind.i64.wrap ((1 : Int) - (J.h : Int)) = (1 : Int) - (J.h : Int) := by have := HM2.out.ok.h1; rw [IntKind.wrap_i64]; omega
        have hw2 : IntKind.i64.wrap ((J.g : Int) + 1) = (J.g : Int) + 1 := by have := HGL.out; rw [IntKind.wrap_i64]; omega
        have k0 : ∀ wx : World, (wx.heap[jb]? = some (.cells (rC J q (.slice po J.n.p.length pc) (.slice co J.n.c.length cc) (.pointer (some ⟨sb, 0, none⟩))) 75 (0, 0)) ∧ wx.heap[N0]? = some (.cells #[.int .i64 n.b, .slice np n.p.length npc, .slice nc n.c.length ncc, .int .i64 n.a] 41 (0, 0))) → wx.cell? ⟨jb, 0, none⟩ = some (.pointer (some ⟨sb, 0, none⟩)) := fun wx h => by rw [blk_cell h.1]; rfl
        have k6 : ∀ wx : World, (wx.heap[jb]? = some (.cells (rC J q (.slice po J.n.p.length pc) (.slice co J.n.c.length cc) (.pointer (some ⟨sb, 0, none⟩))) 75 (0, 0)) ∧ wx.heap[N0]? = some (.cells #[.int .i64 n.b, .slice np n.p.length npc, .slice nc n.c.length ncc, .int .i64 n.a] 41 (0, 0))) → wx.cell? ⟨jb, 6, none⟩ = some (.int .i64 J.g) := fun wx h => by rw [blk_cell h.1]; rfl
        have k7 : ∀ wx : World, (wx.heap[jb]? = some (.cells (rC J q (.slice po J.n.p.length pc) (.slice co J.n.c.length cc) (.pointer (some ⟨sb, 0, none⟩))) 75 (0, 0)) ∧ wx.heap[N0]? = some (.cells #[.int .i64 n.b, .slice np n.p.length npc, .slice nc n.c.length ncc, .int .i64 n.a] 41 (0, 0))) → wx.cell? ⟨jb, 7, none⟩ = some (.int .i64 J.h) := fun wx h => by rw [blk_cell h.1]; rfl
        have m0 : ∀ wx : World, (wx.heap[jb]? = some (.cells (rC J q (.slice po J.n.p.length pc) (.slice co J.n.c.length cc) (.pointer (some ⟨sb, 0, none⟩))) 75 (0, 0)) ∧ wx.heap[N0]? = some (.cells #[.int .i64 n.b, .slice np n.p.length npc, .slice nc n.c.length ncc, .int .i64 n.a] 41 (0, 0))) → wx.cell? ⟨N0, 0, none⟩ = some (.int .i64 n.b) := fun wx h => by rw [blk_cell h.2]; rfl
        have m1 : ∀ wx : World, (wx.heap[jb]? = some (.cells (rC J q (.slice po J.n.p.length pc) (.slice co J.n.c.length cc) (.pointer (some ⟨sb, 0, none⟩))) 75 (0, 0)) ∧ wx.heap[N0]? = some (.cells #[.int .i64 n.b, .slice np n.p.length npc, .slice nc n.c.length ncc, .int .i64 n.a] 41 (0, 0))) → wx.cell? ⟨N0, 1, none⟩ = some (.slice np n.p.length npc) := fun wx h => by rw [blk_cell h.2]; rfl
        have m2 : ∀ wx : World, (wx.heap[jb]? = some (.cells (rC J q (.slice po J.n.p.length pc) (.slice co J.n.c.length cc) (.pointer (some ⟨sb, 0, none⟩))) 75 (0, 0)) ∧ wx.heap[N0]? = some (.cells #[.int .i64 n.b, .slice np n.p.length npc, .slice nc n.c.length ncc, .int .i64 n.a] 41 (0, 0))) → wx.cell? ⟨N0, 2, none⟩ = some (.slice nc n.c.length ncc) := fun wx h => by rw [blk_cell h.2]; rfl
        have m3 : ∀ wx : World, (wx.heap[jb]? = some (.cells (rC J q (.slice po J.n.p.length pc) (.slice co J.n.c.length cc) (.pointer (some ⟨sb, 0, none⟩))) 75 (0, 0)) ∧ wx.heap[N0]? = some (.cells #[.int .i64 n.b, .slice np n.p.length npc, .slice nc n.c.length ncc, .int .i64 n.a] 41 (0, 0))) → wx.cell? ⟨N0, 3, none⟩ = some (.int .i64 n.a) := fun wx h => by rw [blk_cell h.2]; rfl
        refine wp_region_noPanic ?_
        refine wp_region_held_drew (S := (fun wx : World => wx.heap[jb]? = some (.cells (rC J q (.slice po J.n.p.length pc) (.slice co J.n.c.length cc) (.pointer (some ⟨sb, 0, none⟩))) 75 (0, 0)) ∧ wx.heap[N0]? = some (.cells #[.int .i64 n.b, .slice np n.p.length npc, .slice nc n.c.length ncc, .int .i64 n.a] 41 (0, 0)))) (by kernel_rfl) ?_ (fun hHeld => ?_)
        · exact ⟨(HM2.out.below (below_drewN w2 1)).head, blk_below HBK2.out (below_drewN w2 1)⟩
        refine wpAnyH_take (i := 0) (oi := ⟨some 36, _, _, _, _, _⟩) (v := ?_) rfl (by kernel_rfl) (by kernel_rfl) (by kernel_rfl) (fun _ _ _ h => h) (Or.inl ⟨by rfl, ?_⟩) hHeld ?_
        rotate_left
        · intro w hSw; (try dsimp only at hSw); go_simp; all_goals (with_reducible rfl)
        try simp only [Act.put, List.setIfInBounds_toArray, List.set_cons_zero, List.set_cons_succ]
        refine wpAnyH_take (i := 1) (oi := ⟨some 37, _, _, _, _, _⟩) (v := ?_) rfl (by kernel_rfl) (by kernel_rfl) (by kernel_rfl) (fun _ _ _ h => h) (Or.inl ⟨by rfl, ?_⟩) hHeld ?_
        rotate_left
        · intro w hSw; (try dsimp only at hSw); go_simp; all_goals (with_reducible rfl)
        try simp only [Act.put, List.setIfInBounds_toArray, List.set_cons_zero, List.set_cons_succ]
        refine wpAnyH_take (i := 2) (oi := ⟨some 38, _, _, _, _, _⟩) (v := ?_) rfl (by kernel_rfl) (by kernel_rfl) (by kernel_rfl) (fun _ _ _ h => h) (Or.inl ⟨by rfl, ?_⟩) hHeld ?_
        rotate_left
        · intro w hSw; (try dsimp only at hSw); go_simp; all_goals (with_reducible rfl)
        try simp only [Act.put, List.setIfInBounds_toArray, List.set_cons_zero, List.set_cons_succ]
        refine wpAnyH_take (i := 3) (oi := ⟨some 39, _, _, _, _, _⟩) (v := ?_) rfl (by kernel_rfl) (by kernel_rfl) (by kernel_rfl) (fun _ _ _ h => h) (Or.inl ⟨by rfl, ?_⟩) hHeld ?_
        rotate_left
        · intro w hSw; (try dsimp only at hSw); go_simp; all_goals (with_reducible rfl)
        try simp only [Act.put, List.setIfInBounds_toArray, List.set_cons_zero, List.set_cons_succ]
        refine wpAnyH_take (i := 4) (oi := ⟨some 40, _, _, _, _, _⟩) (v := ?_) rfl (by kernel_rfl) (by kernel_rfl) (by kernel_rfl) (fun _ _ _ h => h) (Or.inl ⟨by rfl, ?_⟩) hHeld ?_
        rotate_left
        · intro w hSw; (try dsimp only at hSw); go_simp; all_goals (with_reducible rfl)
        try simp only [Act.put, List.setIfInBounds_toArray, List.set_cons_zero, List.set_cons_succ]
        refine wpAnyH_take (i := 5) (oi := ⟨some 41, _, _, _, _, _⟩) (v := ?_) rfl (by kernel_rfl) (by kernel_rfl) (by kernel_rfl) (fun _ _ _ h => h) (Or.inl ⟨by rfl, ?_⟩) hHeld ?_
        rotate_left
        · intro w hSw; (try dsimp only at hSw); go_simp; all_goals (with_reducible rfl)
        try simp only [Act.put, List.setIfInBounds_toArray, List.set_cons_zero, List.set_cons_succ]
        refine wpAnyH_take (i := 6) (oi := ⟨some 42, _, _, _, _, _⟩) (v := ?_) rfl (by kernel_rfl) (by kernel_rfl) (by kernel_rfl) (fun _ _ _ h => h) (Or.inl ⟨by rfl, ?_⟩) hHeld ?_
        rotate_left
        · intro w hSw; (try dsimp only at hSw); go_simp; all_goals (with_reducible rfl)
        try simp only [Act.put, List.setIfInBounds_toArray, List.set_cons_zero, List.set_cons_succ]
        refine wpAnyH_take (i := 7) (oi := ⟨some 43, _, _, _, _, _⟩) (v := ?_) rfl (by kernel_rfl) (by kernel_rfl) (by kernel_rfl) (fun _ _ _ h => h) (Or.inl ⟨by rfl, ?_⟩) hHeld ?_
        rotate_left
        · intro w hSw; (try dsimp only at hSw); go_simp; all_goals (with_reducible rfl)
        try simp only [Act.put, List.setIfInBounds_toArray, List.set_cons_zero, List.set_cons_succ]
        refine wpAnyH_take (i := 8) (oi := ⟨some 44, _, _, _, _, _⟩) (v := ?_) rfl (by kernel_rfl) (by kernel_rfl) (by kernel_rfl) (fun _ _ _ h => h) (Or.inl ⟨by rfl, ?_⟩) hHeld ?_
        rotate_left
        · intro w hSw; (try dsimp only at hSw); go_simp; all_goals (with_reducible rfl)
        try simp only [Act.put, List.setIfInBounds_toArray, List.set_cons_zero, List.set_cons_succ]
        refine wpAnyH_take (i := 9) (oi := ⟨some 45, _, _, _, _, _⟩) (v := ?_) rfl (by kernel_rfl) (by kernel_rfl) (by kernel_rfl) (fun _ _ _ h => h) (Or.inl ⟨by rfl, ?_⟩) hHeld ?_
        rotate_left
        · intro w hSw; (try dsimp only at hSw); go_simp; all_goals (with_reducible rfl)
        try simp only [Act.put, List.setIfInBounds_toArray, List.set_cons_zero, List.set_cons_succ]
        refine wpAnyH_take (i := 10) (oi := ⟨some 46, _, _, _, _, _⟩) (v := ?_) rfl (by kernel_rfl) (by kernel_rfl) (by kernel_rfl) (fun _ _ _ h => h) (Or.inl ⟨by rfl, ?_⟩) hHeld ?_
        rotate_left
        · intro w hSw; (try dsimp only at hSw); go_simp; all_goals (with_reducible rfl)
        try simp only [Act.put, List.setIfInBounds_toArray, List.set_cons_zero, List.set_cons_succ]
        refine wpAnyH_take (i := 11) (oi := ⟨some 47, _, _, _, _, _⟩) (v := ?_) rfl (by kernel_rfl) (by kernel_rfl) (by kernel_rfl) (fun _ _ _ h => h) (Or.inl ⟨by rfl, ?_⟩) hHeld ?_
        rotate_left
        · intro w hSw; (try dsimp only at hSw); go_simp; all_goals (with_reducible rfl)
        try simp only [Act.put, List.setIfInBounds_toArray, List.set_cons_zero, List.set_cons_succ]
        refine wpAnyH_take (i := 12) (oi := ⟨some 48, _, _, _, _, _⟩) (v := ?_) rfl (by kernel_rfl) (by kernel_rfl) (by kernel_rfl) (fun _ _ _ h => h) (Or.inl ⟨by rfl, ?_⟩) hHeld ?_
        rotate_left
        · intro w hSw; (try dsimp only at hSw); go_simp; all_goals (with_reducible rfl)
        try simp only [Act.put, List.setIfInBounds_toArray, List.set_cons_zero, List.set_cons_succ]
        refine wpAnyH_take (i := 13) (oi := ⟨some 49, _, _, _, _, _⟩) (v := ?_) rfl (by kernel_rfl) (by kernel_rfl) (by kernel_rfl) (fun _ _ _ h => h) (Or.inl ⟨by rfl, ?_⟩) hHeld ?_
        rotate_left
        · intro w hSw; (try dsimp only at hSw); go_simp; all_goals (with_reducible rfl)
        try simp only [Act.put, List.setIfInBounds_toArray, List.set_cons_zero, List.set_cons_succ]
        refine wpAnyH_take (i := 14) (oi := ⟨some 50, _, _, _, _, _⟩) (v := ?_) rfl (by kernel_rfl) (by kernel_rfl) (by kernel_rfl) (fun _ _ _ h => h) (Or.inl ⟨by rfl, ?_⟩) hHeld ?_
        rotate_left
        · intro w hSw; (try dsimp only at hSw); go_simp; all_goals (with_reducible rfl)
        try simp only [Act.put, List.setIfInBounds_toArray, List.set_cons_zero, List.set_cons_succ]
        refine wpAnyH_ready (rs := [15]) (by kernel_rfl) (by simp) ?_
        refine AllReadyH.cons (o := ⟨some 51, _, _, _, _, _⟩) rfl (fun K hK => ?_) AllReadyH.nil
        go_simp
        refine (show Calls Try.prog 42 #[.int .i64 ((J.g : Int) + 1), .agg #[.int .i64 n.b, .slice np n.p.length npc, .slice nc n.c.length ncc, .int .i64 n.a]] w2.drew (ByGot (J.g + 1) n w2.drew) from by have h := rbytes_walk (g := J.g + 1) (q := q) (n := n) (w := w2.drew) ((HP.out.below HB2.out).below (below_drewN w2 1)) ((HC.out.below HB2.out).below (below_drewN w2 1)) (by have := HGL.out; omega) HRT.out HM2.out.ok.q4; simpa using h).mono ?_
        rintro e w3 ⟨by3, rfl, hby, hB3⟩
        have HB3 : Hid (Below w0.heap.size w0 w3) := below_trans HB2.out (below_trans (below_drewN w2 1) hB3)
        have HBV : Hid (Bv w3 by3 (bytN (J.g + 1) n)) := own_bv hby (bytN_lt (by have := HGL.out; omega) HRT.out HM2.out.ok.q4)
        clear hby hB3
        refine hK.out _ _ ?_ (fun hHeld => ?_)
        · exact ⟨(HM.out.below HB3.out).head, blk_below HBK.out HB3.out⟩
        clear hK K
        try simp only [Act.put, List.setIfInBounds_toArray, List.set_cons_zero, List.set_cons_succ]
        refine wpAnyH_ready (rs := [16]) (by kernel_rfl) (by simp) ?_
        refine AllReadyH.cons (o := ⟨some 52, _, _, _, _, _⟩) rfl (fun K hK => ?_) AllReadyH.nil
        go_simp
        refine (show Calls Try.prog 41 #[.pointer (some ⟨sb, 0, none⟩), .int .i64 ((1 : Int) - (J.h : Int)), by3] w3 _ from rwrite_walk (HD.out.below HB3.out) ((1 : Int) - (J.h : Int)) HBV.out (by have := HWR.out; omega)).mono ?_
        rintro e w4 ⟨rfl, ⟨D4, hd4, hdd⟩, hC4⟩
        obtain ⟨sw, hsw⟩ : ∃ sw, sw = savW J S n := ⟨_, rfl⟩
        have HSW := hidH hsw
        rw [show writeI S ((1 : Int) - (J.h : Int)) (bytN (J.g + 1) n) = sw from hsw.symm]
        have HD4 : Hid (Dsk DR D4 w4 (.pointer (some ⟨sb, 0, none⟩)) (writeS S ((1 : Int) - (J.h : Int)) (savB J n))) := hd4
        have HD4D : Hid (∀ x, D4 x → D x ∨ w3.heap.size ≤ x) := hdd
        have HC34 : Hid (Ch D w3 w4) := hC4
        have hj3 := (HM.out.below HB3.out).head
        have hj4 := (hC4.block jb (blk_lt hj3) HJD.out).trans hj3
        have hn3 := blk_below HBK.out HB3.out
        have hn4 := (hC4.block N0 (blk_lt hn3) (fun e => by have h1 := HNB.out _ e; have h2 := HN0.out; omega)).trans hn3
        have HJ4 := hidH hj4
        have HN4 := hidH hn4
        clear hd4 hdd hC4 hj3 hj4 hn3 hn4 hsw
        refine hK.out _ _ ?_ (fun hHeld => ?_)
        · exact ⟨HJ4.out, HN4.out⟩
        clear hK K
        try simp only [Act.put, List.setIfInBounds_toArray, List.set_cons_zero, List.set_cons_succ]
        refine wpAnyH_take (i := 17) (oi := ⟨some 5, _, _, _, _, _⟩) (v := ?_) rfl (by kernel_rfl) (by kernel_rfl) (by kernel_rfl) (fun _ _ _ h => h) (Or.inl ⟨by rfl, ?_⟩) hHeld ?_
        rotate_left
        · intro w hSw; (try dsimp only at hSw); go_simp; all_goals (with_reducible rfl)
        try simp only [Act.put, List.setIfInBounds_toArray, List.set_cons_zero, List.set_cons_succ]
        refine wpAnyH_done (by kernel_rfl) ?_ _
        refine NoPanic.normal ?_
        have HDD : Hid (∀ x, D4 x → D x ∨ w.heap.size ≤ x) := fun x hx => (HD4D.out x hx).imp id (fun h => Nat.le_trans HB0.out.size (Nat.le_trans HB3.out.size h))
        have HAP4 : Hid (∀ x, K x → ¬ D4 x) := fun x hx e => by
          rcases HD4D.out x e with h | h
          · exact HAP.out x hx h
          · have h1 := HM.out.kl x hx; have h2 := HB3.out.size; omega
        have HC4w : Hid (Ch (fun x => D x ∨ K x) w w4) := (Ch.of_below (below_trans HB0.out HB3.out)).trans HC34.out (fun x hx => .inl (.inl hx))
        have HM3 := hidH (HM.out.below HB3.out)
        have HS4 : Hid (RM K w4 jb (.slice po J.n.p.length pc) (.slice co J.n.c.length cc) (.pointer (some ⟨sb, 0, none⟩)) q J ∧ w4.heap[N0]? = some (.cells #[.int .i64 n.b, .slice np n.p.length npc, .slice nc n.c.length ncc, .int .i64 n.a] 41 (0, 0))) := ⟨HM3.out.keep (fun x hx => HC34.out.block x (HM3.out.kl x hx) (HAP.out x hx)) HC34.out.size, HN4.out⟩
        have HP4 : Hid (Nv w4 (.slice np n.p.length npc) n.p) := nv_chD (HP.out.below HB3.out) HC34.out HPD.out
        have HC4 : Hid (Nv w4 (.slice nc n.c.length ncc) n.c) := nv_chD (HC.out.below HB3.out) HC34.out HCD.out
        clear k0 k6 k7 m0 m1 m2 m3 hw1 hw2
        have HM4 : Hid (RM K w4 jb (.slice po J.n.p.length pc) (.slice co J.n.c.length cc) (.pointer (some ⟨sb, 0, none⟩)) q J) := HS4.out.1
        have hblk := HS4.out.2
        by_cases hs0 : sw = 0
        · have hne : (sw != 0) = false := by rw [hs0]; rfl
          have n0 : w4.cell? ⟨N0, 0, none⟩ = some (.int .i64 n.b) := by rw [blk_cell hblk]; rfl
          have n1 : w4.cell? ⟨N0, 1, none⟩ = some (.slice np n.p.length npc) := by rw [blk_cell hblk]; rfl
          have n2 : w4.cell? ⟨N0, 2, none⟩ = some (.slice nc n.c.length ncc) := by rw [blk_cell hblk]; rfl
          have n3 : w4.cell? ⟨N0, 3, none⟩ = some (.int .i64 n.a) := by rw [blk_cell hblk]; rfl
          have HSW0 : Hid (savW J S n = 0) := HSW.out.symm.trans hs0
          clear hblk hs0
          go_wp2_with fail
          refine (rcopied_walk (n := n) HP4.out HC4.out (by have := HRT.out.lp; have := HM4.out.ok.q4; omega) (by have := HRT.out.lc; have := HM4.out.ok.q4; omega)).mono ?_
          rintro e w5 ⟨qa, qc, ra, rc, rfl, ho1, ho2, hB5⟩
          have HM5 : Hid (RM K w5 jb (.slice po J.n.p.length pc) (.slice co J.n.c.length cc) (.pointer (some ⟨sb, 0, none⟩)) q J) := HM4.out.below hB5
          have c2 : w5.cell? ⟨jb, 2, none⟩ = some (.int .i64 J.n.b) := by rw [HM5.out.cell]; rfl
          have z2 : w5.frozen? ⟨jb, 2, none⟩ = false := HM5.out.soft 2
          have c3 : w5.cell? ⟨jb, 3, none⟩ = some (.slice po J.n.p.length pc) := by rw [HM5.out.cell]; rfl
          have z3 : w5.frozen? ⟨jb, 3, none⟩ = false := HM5.out.soft 3
          have c4 : w5.cell? ⟨jb, 4, none⟩ = some (.slice co J.n.c.length cc) := by rw [HM5.out.cell]; rfl
          have z4 : w5.frozen? ⟨jb, 4, none⟩ = false := HM5.out.soft 4
          have c5 : w5.cell? ⟨jb, 5, none⟩ = some (.int .i64 J.n.a) := by rw [HM5.out.cell]; rfl
          have z5 : w5.frozen? ⟨jb, 5, none⟩ = false := HM5.out.soft 5
          have c6 : w5.cell? ⟨jb, 6, none⟩ = some (.int .i64 J.g) := by rw [HM5.out.cell]; rfl
          have z6 : w5.frozen? ⟨jb, 6, none⟩ = false := HM5.out.soft 6
          have c7 : w5.cell? ⟨jb, 7, none⟩ = some (.int .i64 J.h) := by rw [HM5.out.cell]; rfl
          have z7 : w5.frozen? ⟨jb, 7, none⟩ = false := HM5.out.soft 7
          have HZ : Hid (w.heap.size ≤ w4.heap.size) := HC4w.out.size
          have HA : Hid (RvGot D K (.pointer (some ⟨jb, 0, none⟩)) (.pointer (some ⟨sb, 0, none⟩)) q J S n w (.returned (.int .i64 0)) ((((((w5.setCell ⟨jb, 2, none⟩ (.int .i64 n.b)).setCell ⟨jb, 3, none⟩ (.slice qa n.p.length qc)).setCell ⟨jb, 4, none⟩ (.slice ra n.c.length rc)).setCell ⟨jb, 5, none⟩ (.int .i64 n.a)).setCell ⟨jb, 6, none⟩ (.int .i64 ((J.g : Int) + 1))).setCell ⟨jb, 7, none⟩ (.int .i64 (1 - (J.h : Int))))) := by
            refine rv_yes (D' := D4) HM5.out (HD4.out.below hB5) HAP4.out HDD.out (HC4w.out.trans (Ch.of_below (D := fun x => D x ∨ K x) hB5) (fun x hx => .inl hx)) ?_ ?_ ?_ HJO.out ?_ (own_base ho1 HZ.out) (own_base ho2 HZ.out) (fun x hx e => ?_) (fun x hx e => ?_) HJB.out
            · unfold savI; rw [if_neg HNO.out, if_neg HNN.out.1, if_neg HNN.out.2, if_neg HNG.out]; exact HSW0.out
            · unfold rsvJ; rw [if_neg HNO.out, if_neg HNN.out.1, if_neg HNN.out.2, if_neg HNG.out, if_pos HSW0.out]
            · unfold savS; rw [if_neg HNO.out, if_neg HNN.out.1, if_neg HNN.out.2, if_neg HNG.out]
            · exact ⟨by show 1 ≤ J.g + 1; omega, by show J.g + 1 ≤ _; have := HGL.out; omega, HRT.out, HM5.out.ok.q4, by show 1 - J.h ≤ 1; omega⟩
            · have h1 := (ho1.lt x hx).1; have h2 := HD4.out.lt e; omega
            · have h1 := (ho2.lt x hx).1; have h2 := HD4.out.lt e; omega
          have hw1 : IntKind.i64.wrap ((1 : Int) - (J.h : Int)) = (1 : Int) - (J.h : Int) := by have := HM5.out.ok.h1; rw [IntKind.wrap_i64]; omega
          have hw2 : IntKind.i64.wrap ((J.g : Int) + 1) = (J.g : Int) + 1 := by have := HGL.out; rw [IntKind.wrap_i64]; omega
          have hgl : (J.g : Int) < 1099511627776 := by have := HGL.out; omega
          have hhl : (J.h : Int) ≤ 1 := by have := HM5.out.ok.h1; omega
          clear n0 n1 n2 n3 ho1 ho2 hB5
          go_wp2_with fail
          go_ret
          exact HA.out
        · have hne : (sw != 0) = true := by rw [bne_iff_ne]; exact hs0
          have HSWN : Hid (¬ savW J S n = 0) := by show ¬ _; rw [← HSW.out]; exact hs0
          have HA : Hid (RvGot D K (.pointer (some ⟨jb, 0, none⟩)) (.pointer (some ⟨sb, 0, none⟩)) q J S n w (.returned (.int .i64 sw)) (w4.setCell ⟨jb, 8, none⟩ (.bool true))) := by
            refine rv_over (D' := D4) HM4.out HD4.out HAP4.out HDD.out HC4w.out ?_ ?_ ?_
            · unfold savI; rw [if_neg HNO.out, if_neg HNN.out.1, if_neg HNN.out.2, if_neg HNG.out]; exact HSW.out.symm
            · unfold rsvJ; rw [if_neg HNO.out, if_neg HNN.out.1, if_neg HNN.out.2, if_neg HNG.out, if_neg HSWN.out]
            · unfold savS; rw [if_neg HNO.out, if_neg HNN.out.1, if_neg HNN.out.2, if_neg HNG.out]
          have c8 : w4.cell? ⟨jb, 8, none⟩ = some (.bool J.o) := by rw [HM4.out.cell]; rfl
          have z8 : w4.frozen? ⟨jb, 8, none⟩ = false := HM4.out.soft 8
          clear hblk hs0
          go_wp2_with fail
          go_ret
          exact HA.out
end

end Go.Proofs.Ytnnammlipfappaa


/- The reference's Format. -/
namespace Go.Proofs.Ytnnammlipfappaa

open Ieee Go.RowKit



/-- What the making of the first entry leaves. -/
def F0R (w : World) (q : Nat) (e0 : Nat) (pv cv : Value) (W : World) : Prop := W.heap[e0]? = some (.cells #[.int .i64 0, pv, cv, .int .i64 0] 41 (0, 0)) ∧ OwN w.heap.size W pv (zeros q) ∧ OwN w.heap.size W cv (zeros q) ∧ w.heap.size ≤ e0 ∧ Below w.heap.size w W ∧ (∃ a n c, pv = .slice a n c) ∧ (∃ a n c, cv = .slice a n c)
theorem f0_ofR {w W : World} {E P C q : Nat} {Z : Array Value} (hZ : Z = madeCells #[Value.int .i64 0] (q * 1)) (hq : q ≤ 4) (hW : Below w.heap.size w W)
    (hT : W.heap[E]? = some (.cells #[.int .i64 0, .slice (some ⟨P, 0, none⟩) q q, .slice (some ⟨C, 0, none⟩) q q, .int .i64 0] 41 (0, 0))) (hP : W.heap[P]? = some (.cells Z 3 (0, 0))) (hC : W.heap[C]? = some (.cells Z 3 (0, 0))) (_n1 : P ≠ E) (_n2 : C ≠ E) (h1 : w.heap.size ≤ E) (h2 : w.heap.size ≤ P) (h3 : w.heap.size ≤ C) : ∃ pv cv, F0R w q E pv cv W :=
  ⟨_, _, hT, own_at hZ hq hP h2, own_at hZ hq hC h3, h1, hW, ⟨_, _, _, rfl⟩, ⟨_, _, _, rfl⟩⟩
/-- What Format answers. -/
def RmGot (D : Nat → Prop) (dv : Value) (S : Dk) (q : Int) (w : World) (e : Ending) (w' : World) : Prop := ∃ (v : Value) (D' : Nat → Prop), e = .returned (.tuple #[v, .int .i64 (fmtI S q)]) ∧ (∀ x, D' x → D x ∨ w.heap.size ≤ x) ∧ Ch D w w' ∧ Dsk DR D' w' dv (fmtS S q) ∧ (fmtI S q ≠ 0 → v = .pointer none) ∧ (fmtI S q = 0 → ∃ K : Nat → Prop, Rj K w' v dv q ⟨1, n0 q.toNat, 0, false⟩ ∧ ∀ x, K x → w.heap.size ≤ x ∧ ¬ D' x)
theorem rformat_nil {w : World} (q : Int) : Calls Try.prog 10 #[.pointer none, .int .i64 q] w fun e w' => e = .returned (.tuple #[.pointer none, .int .i64 2]) ∧ w' = w := by
  go_enter Try.func10, Try.ntmps10
  go_wp2_with fail
  go_ret2
  exact ⟨rfl, rfl⟩
section

variable {D : Nat → Prop} {w : World} {dv : Value} {S : Dk} {q : Int}

theorem rm_yes {D2 : Nat → Prop} {w4 : World} {sv pv cv : Value} {k : Nat} {S2 : Dk} (hd : Dsk DR D2 w4 sv S2) (hD : ∀ x, D2 x → D x ∨ w.heap.size ≤ x) (hC : Ch D w w4) (hS : fmtS S k = S2) (hI : fmtI S k = 0) (_h1 : 1 ≤ k) (h4 : k ≤ 4) (hop : OwN w.heap.size w4 pv (zeros k)) (hoc : OwN w.heap.size w4 cv (zeros k)) (np : ∀ x, pv.ownBlock = some x → ¬ D2 x) (nc : ∀ x, cv.ownBlock = some x → ¬ D2 x) :
    RmGot D sv S k w (.returned (.tuple #[.pointer (some ⟨w4.heap.size, 0, none⟩), .int .i64 0])) (w4.alloc (Obj.cells #[sv, .int .i64 k, .int .i64 0, pv, cv, .int .i64 0, .int .i64 1, .int .i64 0, .bool false] 75)) := by
  have hb := below_alloc w4 (Obj.cells #[sv, .int .i64 k, .int .i64 0, pv, cv, .int .i64 0, .int .i64 1, .int .i64 0, .bool false] 75)
  have hs := alloc_size w4 (Obj.cells #[sv, .int .i64 k, .int .i64 0, pv, cv, .int .i64 0, .int .i64 1, .int .i64 0, .bool false] 75)
  have hcs := hC.size
  refine ⟨_, D2, by rw [hI], hD, hC.trans (Ch.of_below (D := D) hb) (fun x hx => .inl hx), by rw [hS]; exact hd.below hb, fun h => absurd hI h, fun _ => ⟨fun x => x = w4.heap.size ∨ pv.ownBlock = some x ∨ cv.ownBlock = some x, ⟨w4.heap.size, pv, cv, rfl, ⟨alloc_at rfl, ?_, ?_, .inl rfl, fun x hx => ⟨.inr (.inl hx), ?_⟩, fun x hx => ⟨.inr (.inr hx), ?_⟩, ?_, ⟨Nat.le_refl _, by show (1 : Nat) ≤ _; omega, n0_rgt, by omega, by show (0 : Nat) ≤ _; omega⟩⟩⟩, ?_⟩⟩
  · exact own_base (own_below hop hb) (Nat.zero_le _)
  · exact own_base (own_below hoc hb) (Nat.zero_le _)
  · have := (hop.lt x hx).2; omega
  · have := (hoc.lt x hx).2; omega
  · rintro x (rfl | hx | hx)
    · omega
    · have := (hop.lt x hx).2; omega
    · have := (hoc.lt x hx).2; omega
  · rintro x (rfl | hx | hx)
    · exact ⟨hcs, fun h => by have := hd.lt h; omega⟩
    · exact ⟨(hop.lt x hx).1, np x hx⟩
    · exact ⟨(hoc.lt x hx).1, nc x hx⟩
theorem rm_no {D' : Nat → Prop} {w' : World} {c : Int} (hD : ∀ x, D' x → D x ∨ w.heap.size ≤ x) (hC : Ch D w w') (hd : Dsk DR D' w' dv (fmtS S q)) (hI : fmtI S q = c) (h0 : c ≠ 0) : RmGot D dv S q w (.returned (.tuple #[.pointer none, .int .i64 c])) w' :=
  ⟨_, D', by rw [hI], hD, hC, hd, fun _ => rfl, fun h => absurd (hI.symm.trans h) h0⟩
set_option maxRecDepth 100000 in
set_option maxHeartbeats 4000000 in
theorem rformat_walk (h : Dsk DR D w dv S) (hwr : S.wr < 9223372036854775800) : Calls Try.prog 10 #[dv, .int .i64 q] w (RmGot D dv S q w) := by
  have HD : Hid (Dsk DR D w dv S) := h
  have HWR : Hid (S.wr < 9223372036854775800) := hwr
  obtain ⟨sb, gp, cap, rfl, _, _⟩ := h
  clear hwr
  by_cases hr : refJ q = 0
  rotate_left
  · have HR : Hid (refJ q = 1) := refJ_no hr
    have HA : Hid (RmGot D (.pointer (some ⟨sb, 0, none⟩)) S q w (.returned (.tuple #[.pointer none, .int .i64 1])) w) := rm_no (fun x hx => .inl hx) (Ch.refl _ _) (by unfold fmtS; rw [if_pos hr]; exact HD.out) (by unfold fmtI; rw [if_pos hr]) (by decide)
    have hq : q < 1 ∨ 4 < q := by unfold refJ at hr; split at hr; assumption; exact absurd rfl hr
    clear hr
    by_cases h1 : q < 1
    · clear hq
      go_enter Try.func10, Try.ntmps10
      go_wp2_with fail
      go_ret2
      exact HA.out
    · have h4 : 4 < q := by omega
      clear hq
      go_enter Try.func10, Try.ntmps10
      go_wp2_with fail
      go_ret2
      exact HA.out
  obtain ⟨k, rfl, hk1, hk4⟩ := refJ_ok hr
  have HR : Hid (refJ k = 0) := hr
  have HK1 : Hid (1 ≤ k) := hk1
  have hq4 : k ≤ 4 := hk4
  have hk4i : ¬ (4 : Int) < (k : Int) := by omega
  have hk1i : ¬ (k : Int) < 1 := by omega
  clear hr hk1 hk4
  by_cases h2 : S.bl.length < 2
  · have HA : Hid (RmGot D (.pointer (some ⟨sb, 0, none⟩)) S k w (.returned (.tuple #[.pointer none, .int .i64 92])) w) := rm_no (fun x hx => .inl hx) (Ch.refl _ _) (by unfold fmtS; rw [if_neg (by simp [HR.out]), if_pos h2]; exact HD.out) (by unfold fmtI; rw [if_neg (by simp [HR.out]), if_pos h2]) (by decide)
    go_enter Try.func10, Try.ntmps10
    go_wp2_with fail
    refine (rblocks_walk HD.out).mono ?_
    rintro e w9 ⟨rfl, h9⟩
    replace h9 := h9.symm
    subst h9
    go_wp2_with fail
    go_ret2
    exact HA.out
  have HFI : Hid (fmtI S k = if writeI S 1 [] ≠ 0 then writeI S 1 [] else writeI (writeS S 1 []) 0 (bytN 1 (n0 k))) := by show _ = _; unfold fmtI; rw [if_neg (by simp [HR.out]), if_neg h2]; rfl
  have HFS : Hid (fmtS S k = if writeI S 1 [] ≠ 0 then writeS S 1 [] else writeS (writeS S 1 []) 0 (bytN 1 (n0 k))) := by show _ = _; unfold fmtS; rw [if_neg (by simp [HR.out]), if_neg h2]; rfl
  obtain ⟨Z, hZ⟩ : ∃ Z, Z = madeCells #[Value.int .i64 0] (k * 1) := ⟨_, rfl⟩
  have hmk := make_ints hq4
  rw [← hZ] at hmk
  have HZ : Hid (Z = madeCells #[Value.int .i64 0] (k * 1)) := hZ
  clear hZ
  go_enter Try.func10, Try.ntmps10
  go_wp2_with fail
  refine (rblocks_walk HD.out).mono ?_
  rintro e w9 ⟨rfl, h9⟩
  replace h9 := h9.symm
  subst h9
  go_wp2_with fail
  go_cut [6] (fun tv wx => ∃ E, tv = .pointer (some ⟨E, 0, none⟩) ∧ ∃ pv cv, F0R w k E pv cv wx)
  case first =>
    go_region_with (fail)
    all_goals go_wp2_with fail
    all_goals go_meet
    all_goals refine ⟨_, rfl, ?_⟩
    all_goals first
        | exact f0_ofR HZ.out hq4 (below3 _ _ _ _) (heap3 w _ _ _).2.2 (heap3 w _ _ _).1 (heap3 w _ _ _).2.1 (by omega) (by omega) (by omega) (by omega) (by omega)
        | exact f0_ofR HZ.out hq4 (below3 _ _ _ _) (heap3 w _ _ _).2.1 (heap3 w _ _ _).1 (heap3 w _ _ _).2.2 (by omega) (by omega) (by omega) (by omega) (by omega)
        | exact f0_ofR HZ.out hq4 (below3 _ _ _ _) (heap3 w _ _ _).2.2 (heap3 w _ _ _).2.1 (heap3 w _ _ _).1 (by omega) (by omega) (by omega) (by omega) (by omega)
        | exact f0_ofR HZ.out hq4 (below3 _ _ _ _) (heap3 w _ _ _).2.1 (heap3 w _ _ _).2.2 (heap3 w _ _ _).1 (by omega) (by omega) (by omega) (by omega) (by omega)
        | exact f0_ofR HZ.out hq4 (below3 _ _ _ _) (heap3 w _ _ _).1 (heap3 w _ _ _).2.1 (heap3 w _ _ _).2.2 (by omega) (by omega) (by omega) (by omega) (by omega)
        | exact f0_ofR HZ.out hq4 (below3 _ _ _ _) (heap3 w _ _ _).1 (heap3 w _ _ _).2.2 (heap3 w _ _ _).2.1 (by omega) (by omega) (by omega) (by omega) (by omega)
  case rest =>
    obtain ⟨E, rfl, pv, cv, hE, hop, hoc, hEb, hB1, ⟨pa, pn, pc, rfl⟩, ⟨ca, cn, cc, rfl⟩⟩ := hcut
    obtain ⟨w1, hw1⟩ : ∃ w1, w1 = wc := ⟨_, rfl⟩
    subst hw1
    have HE : Hid (w1.heap[E]? = some (.cells #[.int .i64 0, .slice pa pn pc, .slice ca cn cc, .int .i64 0] 41 (0, 0))) := hE
    have HOP : Hid (OwN w.heap.size w1 (.slice pa pn pc) (zeros k)) := hop
    have HOC : Hid (OwN w.heap.size w1 (.slice ca cn cc) (zeros k)) := hoc
    have HEB : Hid (w.heap.size ≤ E) := hEb
    have HB1 : Hid (Below w.heap.size w w1) := hB1
    clear hE hop hoc hEb hB1 hmk
    go_wp2_with fail
    refine (rwrite_walk (HD.out.below HB1.out) 1 (Bv.nil _) (by have := HWR.out; omega)).mono ?_
    rintro e w2 ⟨rfl, ⟨D1, hD1, hDD⟩, hC2⟩
    have HD1 : Hid (Dsk DR D1 w2 (.pointer (some ⟨sb, 0, none⟩)) (writeS S 1 [])) := hD1
    have HDD : Hid (∀ x, D1 x → D x ∨ w1.heap.size ≤ x) := hDD
    have HC2 : Hid (Ch D w1 w2) := hC2
    have HCW : Hid (Ch D w w2) := (Ch.of_below (D := D) HB1.out).trans hC2 (fun x hx => .inl hx)
    have HNW : Hid (∀ x, w.heap.size ≤ x → x < w1.heap.size → ¬ D1 x ∧ w2.heap[x]? = w1.heap[x]?) := fun x h1 h2 => ⟨fun h => by
      rcases HDD.out x h with h | h
      · have := HD.out.lt h; omega
      · omega, hC2.block x h2 (fun h => by have := HD.out.lt h; omega)⟩
    clear hD1 hDD hC2
    by_cases hi : writeI S 1 [] = 0
    rotate_left
    · have HA : Hid (RmGot D (.pointer (some ⟨sb, 0, none⟩)) S k w (.returned (.tuple #[.pointer none, .int .i64 (writeI S 1 [])])) w2) := rm_no (fun x hx => (HDD.out x hx).imp id fun h => Nat.le_trans HB1.out.size h) HCW.out (by rw [HFS.out, if_pos hi]; exact HD1.out) (by rw [HFI.out, if_pos hi]) hi
      obtain ⟨c, hc⟩ : ∃ c, c = writeI S 1 [] := ⟨_, rfl⟩
      rw [← hc] at HA hi ⊢
      have hne : (c != 0) = true := by simp [hi]
      clear hc hi
      go_wp2_with fail
      go_ret2
      exact HA.out
    have HFI2 : Hid (fmtI S k = writeI (writeS S 1 []) 0 (bytN 1 (n0 k))) := by show _ = _; rw [HFI.out, if_neg (by simp [hi])]
    have HFS2 : Hid (fmtS S k = writeS (writeS S 1 []) 0 (bytN 1 (n0 k))) := by show _ = _; rw [HFS.out, if_neg (by simp [hi])]
    have HWR2 : Hid ((writeS S 1 []).wr ≤ S.wr + 1) := wr_le _ _ _
    rw [hi]
    clear hi
    have HEL : Hid (E < w1.heap.size) := blk_lt HE.out
    have HE2 : Hid (w2.heap[E]? = some (.cells #[.int .i64 0, .slice pa pn pc, .slice ca cn cc, .int .i64 0] 41 (0, 0))) := by show _ = _; rw [(HNW.out E HEB.out HEL.out).2]; exact HE.out
    have HOP2 : Hid (OwN w.heap.size w2 (.slice pa pn pc) (zeros k)) := row_keep HOP.out fun x hx => (HNW.out x (HOP.out.lt x hx).1 (HOP.out.lt x hx).2).2
    have HOC2 : Hid (OwN w.heap.size w2 (.slice ca cn cc) (zeros k)) := row_keep HOC.out fun x hx => (HNW.out x (HOC.out.lt x hx).1 (HOC.out.lt x hx).2).2
    have k0 : w2.cell? ⟨E, 0, none⟩ = some (.int .i64 0) := by rw [blk_cell HE2.out]; rfl
    have k1 : w2.cell? ⟨E, 1, none⟩ = some (.slice pa pn pc) := by rw [blk_cell HE2.out]; rfl
    have k2 : w2.cell? ⟨E, 2, none⟩ = some (.slice ca cn cc) := by rw [blk_cell HE2.out]; rfl
    have k3 : w2.cell? ⟨E, 3, none⟩ = some (.int .i64 0) := by rw [blk_cell HE2.out]; rfl
    go_wp2_with fail
    refine (show Calls Try.prog 42 #[.int .i64 1, .agg #[.int .i64 0, .slice pa pn pc, .slice ca cn cc, .int .i64 0]] w2 _ from rbytes_walk (g := 1) (n := n0 k) (q := k) (own_nv HOP2.out (zeros_in64 k)) (own_nv HOC2.out (zeros_in64 k)) (by decide) n0_rgt (by omega)).mono ?_
    rintro e w3 ⟨bv, rfl, hbo, hB3⟩
    have HBV : Hid (Bv w3 bv (bytN 1 (n0 k))) := own_bv hbo (bytN_lt (by decide) n0_rgt (by omega))
    have HB3 : Hid (Below w2.heap.size w2 w3) := hB3
    clear hbo hB3 k0 k1 k2 k3
    go_wp2_with fail
    refine (rwrite_walk (HD1.out.below HB3.out) 0 HBV.out (by have := HWR.out; have := HWR2.out; omega)).mono ?_
    rintro e w4 ⟨rfl, ⟨D2, hD2, hDD2⟩, hC4⟩
    have HD2 : Hid (Dsk DR D2 w4 (.pointer (some ⟨sb, 0, none⟩)) (writeS (writeS S 1 []) 0 (bytN 1 (n0 k)))) := hD2
    have HDD2 : Hid (∀ x, D2 x → D1 x ∨ w3.heap.size ≤ x) := hDD2
    have HC34 : Hid (Ch D1 w3 w4) := hC4
    have HDF : Hid (∀ x, D2 x → D x ∨ w.heap.size ≤ x) := fun x hx => by
      have h1 := HB1.out.size; have h2 := HCW.out.size; have h3 := HB3.out.size
      rcases hDD2 x hx with h | h
      · exact (HDD.out x h).imp id fun h => by omega
      · exact .inr (by omega)
    have HCF : Hid (Ch D w w4) := ((HCW.out.trans (Ch.of_below (D := D) HB3.out) (fun x hx => .inl hx)).trans hC4 (fun x hx => (HDD.out x hx).imp id fun h => Nat.le_trans HB1.out.size h))
    have HNW4 : Hid (∀ x, w.heap.size ≤ x → x < w1.heap.size → ¬ D2 x ∧ w4.heap[x]? = w2.heap[x]?) := fun x h1 h2 => by
      have h3 := HB3.out.size
      have h4 := HC2.out.size
      have hn := (HNW.out x h1 h2).1
      refine ⟨fun h => ?_, ?_⟩
      · rcases hDD2 x h with h | h
        · exact hn h
        · omega
      · rw [hC4.block x (by omega) hn, HB3.out.block x (by omega)]
    clear hD2 hDD2 hC4
    by_cases hi : writeI (writeS S 1 []) 0 (bytN 1 (n0 k)) = 0
    rotate_left
    · have HA : Hid (RmGot D (.pointer (some ⟨sb, 0, none⟩)) S k w (.returned (.tuple #[.pointer none, .int .i64 (writeI (writeS S 1 []) 0 (bytN 1 (n0 k)))])) w4) := rm_no HDF.out HCF.out (by rw [HFS2.out]; exact HD2.out) HFI2.out hi
      obtain ⟨c, hc⟩ : ∃ c, c = writeI (writeS S 1 []) 0 (bytN 1 (n0 k)) := ⟨_, rfl⟩
      rw [← hc] at HA hi ⊢
      have hne : (c != 0) = true := by simp [hi]
      clear hc hi
      go_wp2_with fail
      go_ret2
      exact HA.out
    have HFI3 : Hid (fmtI S k = 0) := HFI2.out.trans hi
    rw [hi]
    clear hi
    have hE4 : w4.heap[E]? = some (.cells #[.int .i64 0, .slice pa pn pc, .slice ca cn cc, .int .i64 0] 41 (0, 0)) := by rw [(HNW4.out E HEB.out HEL.out).2]; exact HE2.out
    have HOP4 : Hid (OwN w.heap.size w4 (.slice pa pn pc) (zeros k)) := row_keep HOP2.out fun x hx => (HNW4.out x (HOP.out.lt x hx).1 (HOP.out.lt x hx).2).2
    have HOC4 : Hid (OwN w.heap.size w4 (.slice ca cn cc) (zeros k)) := row_keep HOC2.out fun x hx => (HNW4.out x (HOC.out.lt x hx).1 (HOC.out.lt x hx).2).2
    have e0 : w4.cell? ⟨E, 0, none⟩ = some (.int .i64 0) := by rw [blk_cell hE4]; rfl
    have e1 : w4.cell? ⟨E, 1, none⟩ = some (.slice pa pn pc) := by rw [blk_cell hE4]; rfl
    have e2 : w4.cell? ⟨E, 2, none⟩ = some (.slice ca cn cc) := by rw [blk_cell hE4]; rfl
    have e3 : w4.cell? ⟨E, 3, none⟩ = some (.int .i64 0) := by rw [blk_cell hE4]; rfl
    clear hE4
    go_wp2_with fail
    go_ret2
    exact rm_yes HD2.out HDF.out HCF.out HFS2.out HFI3.out HK1.out hq4 HOP4.out HOC4.out (fun x hx => (HNW4.out x (HOP.out.lt x hx).1 (HOP.out.lt x hx).2).1) (fun x hx => (HNW4.out x (HOC.out.lt x hx).1 (HOC.out.lt x hx).2).1)
end

end Go.Proofs.Ytnnammlipfappaa


/- Both journals, each on its disk: all calls. -/
namespace Go.Proofs.Ytnnammlipfappaa

open Ieee Go.RowKit



abbrev On : Type := Option (Int × Jn)
abbrev JpT : Type := (Nat → Prop) → World → Value → Value → Int → Jn → Prop
structure JpK (Jp : JpT) : Prop where
  keep : ∀ {K : Nat → Prop} {w w' : World} {v dv : Value} {q : Int} {J : Jn}, Jp K w v dv q J → (∀ x, K x → w'.heap[x]? = w.heap[x]?) → w.heap.size ≤ w'.heap.size → Jp K w' v dv q J
  lt : ∀ {K : Nat → Prop} {w : World} {v dv : Value} {q : Int} {J : Jn} {x : Nat}, Jp K w v dv q J → K x → x < w.heap.size
  ptr : ∀ {K : Nat → Prop} {w : World} {v dv : Value} {q : Int} {J : Jn}, Jp K w v dv q J → ∃ jb, v = Pt jb
  ok : ∀ {K : Nat → Prop} {w : World} {v dv : Value} {q : Int} {J : Jn}, Jp K w v dv q J → J.ok q
theorem jpk_p : JpK Jr := ⟨fun h => h.keep, fun h hx => h.lt hx, fun h => by obtain ⟨jb, e, _⟩ := h.ptr; exact ⟨jb, e⟩, fun h => h.ok⟩
theorem jpk_r : JpK Rj := ⟨fun h => h.keep, fun h hx => h.lt hx, fun h => by obtain ⟨jb, _, _, e, _⟩ := h; exact ⟨jb, e⟩, fun h => h.ok⟩
def JO (Jp : JpT) (K : Nat → Prop) (w : World) (v dv : Value) : On → Prop
  | none => v = .pointer none ∧ ∀ x, ¬ K x
  | some (q, J) => Jp K w v dv q J
/-- A disk and perhaps a journal on it, in blocks X. -/
structure Sd (T : TypeId) (Jp : JpT) (X : Nat → Prop) (w : World) (sb : Nat) (v : Value) (o : On) (S : Dk) : Prop where
  ex : ∃ D K : Nat → Prop, Dsk T D w (Pt sb) S ∧ JO Jp K w v (Pt sb) o ∧ (∀ x, K x → ¬ D x) ∧ ∀ x, X x ↔ D x ∨ K x
def SdGo (T : TypeId) (Jp : JpT) (X : Nat → Prop) (w : World) (sb : Nat) (v' : Value) (o' : On) (S' : Dk) (w' : World) : Prop := ∃ X' : Nat → Prop, Sd T Jp X' w' sb v' o' S' ∧ Ch X w w' ∧ ∀ x, X' x → X x ∨ w.heap.size ≤ x
section

variable {T : TypeId} {Jp : JpT} {X : Nat → Prop} {w w' : World} {sb : Nat} {v v' : Value} {o o' : On} {S S' : Dk}

theorem JO.keep {K : Nat → Prop} {dv : Value} (hk : JpK Jp) (h : JO Jp K w v dv o) (hx : ∀ x, K x → w'.heap[x]? = w.heap[x]?) (hs : w.heap.size ≤ w'.heap.size) : JO Jp K w' v dv o := by
  cases o with
  | none => exact h
  | some a => exact hk.keep h hx hs
theorem JO.lt {K : Nat → Prop} {dv : Value} (hk : JpK Jp) (h : JO Jp K w v dv o) {x : Nat} (hx : K x) : x < w.heap.size := by
  cases o with
  | none => exact absurd hx (h.2 x)
  | some a => exact hk.lt h hx
theorem Sd.lt (hk : JpK Jp) (h : Sd T Jp X w sb v o S) {x : Nat} (hx : X x) : x < w.heap.size := by
  obtain ⟨D, K, h1, h2, _, h4⟩ := h.ex
  rcases (h4 x).1 hx with h | h
  · exact h1.lt h
  · exact h2.lt hk h
theorem Sd.keep (hk : JpK Jp) (h : Sd T Jp X w sb v o S) (hx : ∀ x, X x → w'.heap[x]? = w.heap[x]?) (hs : w.heap.size ≤ w'.heap.size) : Sd T Jp X w' sb v o S := by
  obtain ⟨D, K, h1, h2, h3, h4⟩ := h.ex
  exact ⟨D, K, h1.keep (fun x hd => hx x ((h4 x).2 (.inl hd))) hs, h2.keep hk (fun x hd => hx x ((h4 x).2 (.inr hd))) hs, h3, h4⟩
theorem Sd.below (hk : JpK Jp) (h : Sd T Jp X w sb v o S) (hb : Below w.heap.size w w') : Sd T Jp X w' sb v o S := h.keep hk (fun x hx => hb.block x (h.lt hk hx)) hb.size
theorem Sd.same (hk : JpK Jp) (h : Sd T Jp X w sb v o S) (hb : Below w.heap.size w w') : SdGo T Jp X w sb v o S w' := ⟨X, h.below hk hb, Ch.of_below hb, fun _ hx => .inl hx⟩
theorem Sd.disk (hk : JpK Jp) (h : Sd T Jp X w sb v o S) : ∃ D : Nat → Prop, Dsk T D w (Pt sb) S ∧ (∀ x, D x → X x) ∧ ∀ {S' : Dk} {w' : World}, Dsk T D w' (Pt sb) S' → Ch D w w' → SdGo T Jp X w sb v o S' w' := by
  obtain ⟨D, K, h1, h2, h3, h4⟩ := h.ex
  refine ⟨D, h1, fun x hx => (h4 x).2 (.inl hx), fun {S' w'} hd hc => ⟨X, ⟨D, K, hd, h2.keep hk (fun x hx => hc.block x (h2.lt hk hx) (h3 x hx)) hc.size, h3, h4⟩, ch_le hc (fun x hx => (h4 x).2 (.inl hx)), fun _ hx => .inl hx⟩⟩
theorem Sd.new (h : Sd T Jp X w sb v o S) : ∃ D : Nat → Prop, Dsk T D w (Pt sb) S ∧ ∀ {D' K' : Nat → Prop} {S' : Dk} {w' : World} {v' : Value} {o' : On}, Dsk T D' w' (Pt sb) S' → Ch D w w' → (∀ x, D' x → D x ∨ w.heap.size ≤ x) → JO Jp K' w' v' (Pt sb) o' → (∀ x, K' x → w.heap.size ≤ x ∧ ¬ D' x) → SdGo T Jp X w sb v' o' S' w' := by
  obtain ⟨D, K, h1, h2, h3, h4⟩ := h.ex
  refine ⟨D, h1, fun {D' K' S' w' v' o'} hd hc hD hj hK => ⟨fun x => D' x ∨ K' x, ⟨D', K', hd, hj, fun x hx => (hK x hx).2, fun x => Iff.rfl⟩, ch_le hc (fun x hx => (h4 x).2 (.inl hx)), fun x hx => ?_⟩⟩
  rcases hx with hx | hx
  · rcases hD x hx with h | h
    · exact .inl ((h4 x).2 (.inl h))
    · exact .inr h
  · exact .inr (hK x hx).1
end

/-- The program's and the reference's, apart from each other and from the blocks A, all above wz. -/
structure Tw (wz : World) (A : Nat → Prop) (sb rb : Nat) (v v2 : Value) (o o2 : On) (S S2 : Dk) (w : World) : Prop where
  ex : ∃ X Y : Nat → Prop, Sd DD Jr X w sb v o S ∧ Sd DR Rj Y w rb v2 o2 S2 ∧ (∀ x, X x → wz.heap.size ≤ x ∧ ¬ A x ∧ ¬ Y x) ∧ ∀ x, Y x → wz.heap.size ≤ x ∧ ¬ A x
  bel : Below wz.heap.size wz w
  al : ∀ x, A x → x < w.heap.size
def Kpt (A : Nat → Prop) (w w' : World) : Prop := ∀ x, A x → w'.heap[x]? = w.heap[x]?
section

variable {wz w w' : World} {A : Nat → Prop} {sb rb : Nat} {v v2 : Value} {o o2 : On} {S S2 : Dk}

theorem Tw.left (h : Tw wz A sb rb v v2 o o2 S S2 w) : ∃ X : Nat → Prop, Sd DD Jr X w sb v o S ∧ (∀ x, X x → wz.heap.size ≤ x) ∧ ∀ {v' : Value} {o' : On} {S' : Dk} {w' : World}, SdGo DD Jr X w sb v' o' S' w' → Tw wz A sb rb v' v2 o' o2 S' S2 w' ∧ Kpt A w w' := by
  obtain ⟨X, Y, hx, hy, a1, a2⟩ := h.ex
  refine ⟨X, hx, fun x h => (a1 x h).1, fun {v' o' S' w'} ⟨X', h1, h2, h3⟩ => ?_⟩
  refine ⟨⟨⟨X', Y, h1, hy.keep jpk_r (fun x hY => h2.block x (hy.lt jpk_r hY) (fun hX => (a1 x hX).2.2 hY)) h2.size, fun x hx' => ?_, a2⟩, h.bel.trans (h2.to_below h.bel.size (fun x h => (a1 x h).1)), fun x hA => Nat.lt_of_lt_of_le (h.al x hA) h2.size⟩, fun x hA => h2.block x (h.al x hA) (fun hX => (a1 x hX).2.1 hA)⟩
  rcases h3 x hx' with h4 | h4
  · exact a1 x h4
  · exact ⟨Nat.le_trans h.bel.size h4, fun hA => by have := h.al x hA; omega, fun hY => by have := hy.lt jpk_r hY; omega⟩
theorem Tw.right (h : Tw wz A sb rb v v2 o o2 S S2 w) : ∃ Y : Nat → Prop, Sd DR Rj Y w rb v2 o2 S2 ∧ (∀ x, Y x → wz.heap.size ≤ x) ∧ ∀ {v' : Value} {o' : On} {S' : Dk} {w' : World}, SdGo DR Rj Y w rb v' o' S' w' → Tw wz A sb rb v v' o o' S S' w' ∧ Kpt A w w' := by
  obtain ⟨X, Y, hx, hy, a1, a2⟩ := h.ex
  refine ⟨Y, hy, fun x h => (a2 x h).1, fun {v' o' S' w'} ⟨Y', h1, h2, h3⟩ => ?_⟩
  have hnY : ∀ x, X x → ¬ Y' x := fun x hX hY => by
    rcases h3 x hY with h4 | h4
    · exact (a1 x hX).2.2 h4
    · have := hx.lt jpk_p hX; omega
  refine ⟨⟨⟨X, Y', hx.keep jpk_p (fun x hX => h2.block x (hx.lt jpk_p hX) (fun hY => (a1 x hX).2.2 hY)) h2.size, h1, fun x hX => ⟨(a1 x hX).1, (a1 x hX).2.1, hnY x hX⟩, fun x hY => ?_⟩, h.bel.trans (h2.to_below h.bel.size (fun x h => (a2 x h).1)), fun x hA => Nat.lt_of_lt_of_le (h.al x hA) h2.size⟩, fun x hA => h2.block x (h.al x hA) (fun hY => (a2 x hY).2 hA)⟩
  rcases h3 x hY with h4 | h4
  · exact a2 x h4
  · exact ⟨Nat.le_trans h.bel.size h4, fun hA => by have := h.al x hA; omega⟩
theorem Tw.below (h : Tw wz A sb rb v v2 o o2 S S2 w) (hb : Below w.heap.size w w') : Tw wz A sb rb v v2 o o2 S S2 w' := by
  obtain ⟨X, hx, _, h2⟩ := h.left
  exact (h2 (hx.same jpk_p hb)).1
theorem Tw.kpt (h : Tw wz A sb rb v v2 o o2 S S2 w) (hb : Below w.heap.size w w') : Kpt A w w' := fun x hA => hb.block x (h.al x hA)
/-- What a call has made is kept from now on. -/
theorem Tw.more (h : Tw wz A sb rb v v2 o o2 S S2 w) (hb : Below w.heap.size w w') : Tw wz (fun x => A x ∨ (w.heap.size ≤ x ∧ x < w'.heap.size)) sb rb v v2 o o2 S S2 w' := by
  have h0 := h.below hb
  obtain ⟨X, Y, hx, hy, a1, a2⟩ := h.ex
  refine ⟨⟨X, Y, hx.below jpk_p hb, hy.below jpk_r hb, fun x hX => ⟨(a1 x hX).1, ?_, (a1 x hX).2.2⟩, fun x hY => ⟨(a2 x hY).1, ?_⟩⟩, h0.bel, fun x hA => ?_⟩
  · rintro (h | h)
    · exact (a1 x hX).2.1 h
    · have := hx.lt jpk_p hX; omega
  · rintro (h | h)
    · exact (a2 x hY).2 h
    · have := hy.lt jpk_r hY; omega
  · rcases hA with hA | hA
    · exact h0.al x hA
    · exact hA.2
theorem Tw.less {E : Nat → Prop} (h : Tw wz A sb rb v v2 o o2 S S2 w) (hE : ∀ x, E x → A x) : Tw wz E sb rb v v2 o o2 S S2 w := by
  obtain ⟨X, Y, hx, hy, a1, a2⟩ := h.ex
  exact ⟨⟨X, Y, hx, hy, fun x hX => ⟨(a1 x hX).1, fun h => (a1 x hX).2.1 (hE x h), (a1 x hX).2.2⟩, fun x hY => ⟨(a2 x hY).1, fun h => (a2 x hY).2 (hE x h)⟩⟩, h.bel, fun x hx => h.al x (hE x hx)⟩
theorem Tw.ok (h : Tw wz A sb rb v v2 o o2 S S2 w) {q : Int} {J : Jn} (ho : o = some (q, J)) : J.ok q := by
  obtain ⟨X, hx, _, _⟩ := h.left
  obtain ⟨D, K, h1, h2, _, _⟩ := hx.ex
  subst ho
  exact jpk_p.ok h2
theorem Tw.ok2 (h : Tw wz A sb rb v v2 o o2 S S2 w) {q : Int} {J : Jn} (ho : o2 = some (q, J)) : J.ok q := by
  obtain ⟨X, hx, _, _⟩ := h.right
  obtain ⟨D, K, h1, h2, _, _⟩ := hx.ex
  subst ho
  exact jpk_r.ok h2
theorem Tw.good (h : Tw wz A sb rb v v2 o o2 S S2 w) : S.ok := by
  obtain ⟨X, hx, _, _⟩ := h.left
  obtain ⟨D, K, h1, _⟩ := hx.ex
  exact h1.good
/-- Both journals are nil, or neither. -/
theorem Tw.form (h : Tw wz A sb rb v v2 o o S S2 w) : (v = .pointer none ∧ v2 = .pointer none) ∨ ∃ jb kb, v = .pointer (some ⟨jb, 0, none⟩) ∧ v2 = .pointer (some ⟨kb, 0, none⟩) := by
  obtain ⟨X, hx, _, _⟩ := h.left
  obtain ⟨Y, hy, _, _⟩ := h.right
  obtain ⟨_, _, _, h1, _⟩ := hx.ex
  obtain ⟨_, _, _, h2, _⟩ := hy.ex
  cases o with
  | none => exact .inl ⟨h1.1, h2.1⟩
  | some a =>
    obtain ⟨jb, e1⟩ := jpk_p.ptr h1
    obtain ⟨kb, e2⟩ := jpk_r.ptr h2
    exact .inr ⟨jb, kb, e1, e2⟩
theorem nv_low {l : List Int} {pv : Value} (h : Nv wz pv l) (a : Addr) (m c : Nat) (e : pv = .slice (some a) m c) (hl : l ≠ []) : a.block < wz.heap.size := by
  obtain ⟨⟨ao, cap, e1, _, _, _, h4⟩, _⟩ := h
  obtain ⟨b, off, e2, h5⟩ := h4 0 (List.length_pos_iff.2 hl)
  subst e2
  rw [e1] at e
  injection e with e
  injection e with e
  subst e
  exact cell_lt h5
end

end Go.Proofs.Ytnnammlipfappaa


/- Both journals, each on its disk: the calls' contracts. -/
namespace Go.Proofs.Ytnnammlipfappaa

open Ieee Go.RowKit



def zO : Nt := ⟨0, [], [], 0⟩
def notO : On → Nt
  | none => zO
  | some a => a.2.n
def endO : On → Bool
  | none => false
  | some a => a.2.o
def savOI (o : On) (S : Dk) (n : Nt) : Int := match o with
  | none => 2
  | some (q, J) => savI J S q n
def savOJ (o : On) (S : Dk) (n : Nt) : On := match o with
  | none => none
  | some (q, J) => some (q, savJ J S q n)
def rsvOJ (o : On) (S : Dk) (n : Nt) : On := match o with
  | none => none
  | some (q, J) => some (q, rsvJ J S q n)
def savOS (o : On) (S : Dk) (n : Nt) : Dk := match o with
  | none => S
  | some (q, J) => savS J S q n
def fmtO (S : Dk) (q : Int) : On := if fmtI S q = 0 then some (q, ⟨1, n0 q.toNat, 0, false⟩) else none
def opnO (S : Dk) (q : Int) : On := if opnI S q = 0 then match opK q S 2 with
  | none => none
  | some (h, g, n) => some (q, ⟨g, n, h, false⟩) else none
section

variable {wz w w' : World} {A : Nat → Prop} {sb rb : Nat} {v v2 : Value} {o o2 : On} {S S2 : Dk} {n : Nt} {pv cv : Value}

/-- What a call answers, and both sides behind it. -/
def TwP (wz : World) (A : Nat → Prop) (sb rb : Nat) (a : Value) (v v2 : Value) (o o2 : On) (S S2 : Dk) (w : World) (e : Ending) (w' : World) : Prop := e = .returned a ∧ Tw wz A sb rb v v2 o o2 S S2 w' ∧ Kpt A w w'
theorem tw_save (h : Tw wz A sb rb v v2 o o2 S S2 w) (hp : Nv wz pv n.p) (hc : Nv wz cv n.c) (hnb : -9223372036854775808 ≤ n.b ∧ n.b < 9223372036854775808) (hwr : S.wr < 9223372036854775800) :
    Calls Try.prog 11 #[v, .agg #[.int .i64 n.b, pv, cv, .int .i64 n.a]] w (TwP wz A sb rb (.int .i64 (savOI o S n)) v v2 (savOJ o S n) o2 (savOS o S n) S2 w) := by
  obtain ⟨X, hx, _, hgo⟩ := h.left
  obtain ⟨D, K, h1, h2, h3, h4⟩ := hx.ex
  cases o with
  | none =>
    obtain ⟨rfl, _⟩ := h2
    refine jsave_nil.mono ?_
    rintro e w' ⟨rfl, hb⟩
    exact ⟨rfl, h.below hb, h.kpt hb⟩
  | some a =>
    obtain ⟨q, J⟩ := a
    refine (jsave_walk (n := n) ⟨h1, h2, h3⟩ (hp.below h.bel) (hc.below h.bel) hnb hwr).mono ?_
    rintro e w' ⟨rfl, ⟨D', K', hj, h5, h6⟩, h7⟩
    refine ⟨rfl, hgo ⟨fun x => D' x ∨ K' x, ⟨D', K', hj.d, hj.j, hj.ap, fun x => Iff.rfl⟩, ch_le h7 (fun x hx => (h4 x).2 hx), fun x hx => ?_⟩⟩
    rcases hx with hx | hx
    · exact (h5 x hx).imp (fun h => (h4 x).2 (.inl h)) id
    · exact (h6 x hx).imp (fun h => (h4 x).2 (.inr h)) id
theorem tw_rsave (h : Tw wz A sb rb v v2 o o2 S S2 w) (hp : Nv wz pv n.p) (hc : Nv wz cv n.c) (hwr : S2.wr < 9223372036854775800) :
    Calls Try.prog 12 #[v2, .agg #[.int .i64 n.b, pv, cv, .int .i64 n.a]] w (TwP wz A sb rb (.int .i64 (savOI o2 S2 n)) v v2 o (rsvOJ o2 S2 n) S (savOS o2 S2 n) w) := by
  obtain ⟨X, hx, hz, hgo⟩ := h.right
  obtain ⟨D, K, h1, h2, h3, h4⟩ := hx.ex
  cases o2 with
  | none =>
    obtain ⟨rfl, _⟩ := h2
    refine rsave_nil.mono ?_
    rintro e w' ⟨rfl, hb⟩
    exact ⟨rfl, h.below hb, h.kpt hb⟩
  | some a =>
    obtain ⟨q, J⟩ := a
    refine (rsave_walk (n := n) ⟨h1, h2, h3⟩ (hp.below h.bel) (hc.below h.bel) (fun a m c e hl hD => ?_) (fun a m c e hl hD => ?_) hwr).mono ?_
    · have := nv_low hp a m c e hl
      have := hz a.block ((h4 _).2 (.inl hD))
      omega
    · have := nv_low hc a m c e hl
      have := hz a.block ((h4 _).2 (.inl hD))
      omega
    rintro e w' ⟨rfl, ⟨D', K', hj, h5, h6⟩, h7⟩
    refine ⟨rfl, hgo ⟨fun x => D' x ∨ K' x, ⟨D', K', hj.d, hj.j, hj.ap, fun x => Iff.rfl⟩, ch_le h7 (fun x hx => (h4 x).2 hx), fun x hx => ?_⟩⟩
    rcases hx with hx | hx
    · exact (h5 x hx).imp (fun h => (h4 x).2 (.inl h)) id
    · exact (h6 x hx).imp (fun h => (h4 x).2 (.inr h)) id
def NtO (n : Nt) (w : World) (e : Ending) (w' : World) : Prop := ∃ pa pc ca cc, e = .returned (.agg #[.int .i64 n.b, .slice pa n.p.length pc, .slice ca n.c.length cc, .int .i64 n.a]) ∧ Nv w' (.slice pa n.p.length pc) n.p ∧ Nv w' (.slice ca n.c.length cc) n.c ∧ Below w.heap.size w w'
theorem nto_of {q : Int} {e : Ending} (hr : Rgt n q) (h : CpGot w n e w') : NtO n w e w' := by
  obtain ⟨pa, pc, ca, cc, rfl, h1, h2, hb⟩ := h
  exact ⟨pa, pc, ca, cc, rfl, own_nv h1 (rgt_p64 hr), own_nv h2 (rgt_c64 hr), hb⟩
theorem tw_note (h : Tw wz A sb rb v v2 o o2 S S2 w) : Calls Try.prog 21 #[v] w (NtO (notO o) w) := by
  obtain ⟨X, hx, _, _⟩ := h.left
  obtain ⟨D, K, h1, h2, h3, h4⟩ := hx.ex
  cases o with
  | none =>
    obtain ⟨rfl, _⟩ := h2
    refine jnote_nil.mono ?_
    rintro e w' ⟨rfl, hb⟩
    exact ⟨none, 0, none, 0, rfl, Nv.nil _, Nv.nil _, hb⟩
  | some a => exact (jnote_walk h2).mono fun e w' h => nto_of (jpk_p.ok h2).r h
theorem tw_rnote (h : Tw wz A sb rb v v2 o o2 S S2 w) : Calls Try.prog 22 #[v2] w (NtO (notO o2) w) := by
  obtain ⟨X, hx, _, _⟩ := h.right
  obtain ⟨D, K, h1, h2, h3, h4⟩ := hx.ex
  cases o2 with
  | none =>
    obtain ⟨rfl, _⟩ := h2
    refine rnote_nil.mono ?_
    rintro e w' ⟨rfl, hb⟩
    exact ⟨none, 0, none, 0, rfl, Nv.nil _, Nv.nil _, hb⟩
  | some a => exact (rnote_walk h2).mono fun e w' h => nto_of (jpk_r.ok h2).r h
theorem tw_ended (h : Tw wz A sb rb v v2 o o2 S S2 w) : Calls Try.prog 23 #[v] w fun e w' => e = .returned (.bool (endO o)) ∧ w' = w := by
  obtain ⟨X, hx, _, _⟩ := h.left
  obtain ⟨D, K, h1, h2, h3, h4⟩ := hx.ex
  cases o with
  | none =>
    obtain ⟨rfl, _⟩ := h2
    exact jended_nil
  | some a => exact jended_walk h2
theorem tw_rended (h : Tw wz A sb rb v v2 o o2 S S2 w) : Calls Try.prog 24 #[v2] w fun e w' => e = .returned (.bool (endO o2)) ∧ w' = w := by
  obtain ⟨X, hx, _, _⟩ := h.right
  obtain ⟨D, K, h1, h2, h3, h4⟩ := hx.ex
  cases o2 with
  | none =>
    obtain ⟨rfl, _⟩ := h2
    exact rended_nil
  | some a => exact rended_walk h2
theorem tw_writes (h : Tw wz A sb rb v v2 o o2 S S2 w) : Calls Try.prog 25 #[Pt sb] w fun e w' => e = .returned (.int .i64 S.wr) ∧ w' = w := by
  obtain ⟨X, hx, _, _⟩ := h.left
  obtain ⟨D, K, h1, _⟩ := hx.ex
  exact writes_walk h1
theorem tw_rwrites (h : Tw wz A sb rb v v2 o o2 S S2 w) : Calls Try.prog 26 #[Pt rb] w fun e w' => e = .returned (.int .i64 S2.wr) ∧ w' = w := by
  obtain ⟨X, hx, _, _⟩ := h.right
  obtain ⟨D, K, h1, _⟩ := hx.ex
  exact rwrites_walk h1
def ImO (S : Dk) (w : World) (e : Ending) (w' : World) : Prop := ∃ g cap, e = .returned (.slice (some ⟨g, 0, none⟩) S.bl.length cap) ∧ PvD w' (.slice (some ⟨g, 0, none⟩) S.bl.length cap) S.bl ∧ Below w.heap.size w w'
theorem tw_image (h : Tw wz A sb rb v v2 o o2 S S2 w) : Calls Try.prog 28 #[Pt sb] w (ImO S w) := by
  obtain ⟨X, hx, _, _⟩ := h.left
  obtain ⟨D, K, h1, _⟩ := hx.ex
  refine (image_walk h1).mono ?_
  rintro e w' ⟨g, cap, rfl, hg, _, hb⟩
  exact ⟨g, cap, rfl, hg.pv h1.good.byt, hb⟩
theorem tw_rimage (h : Tw wz A sb rb v v2 o o2 S S2 w) : Calls Try.prog 29 #[Pt rb] w (ImO S2 w) := by
  obtain ⟨X, hx, _, _⟩ := h.right
  obtain ⟨D, K, h1, _⟩ := hx.ex
  refine (rimage_walk h1).mono ?_
  rintro e w' ⟨g, cap, rfl, hg, _, hb⟩
  exact ⟨g, cap, rfl, hg.pv h1.good.byt, hb⟩
theorem tw_cut (h : Tw wz A sb rb v v2 o o2 S S2 w) {m : Int} (hm : m < 9223372036854775808) : Calls Try.prog 13 #[Pt sb, .int .i64 m] w (TwP wz A sb rb (.tuple #[]) v v2 o o2 (cutS S m) S2 w) := by
  obtain ⟨X, hx, _, hgo⟩ := h.left
  obtain ⟨D, h1, _, h2⟩ := hx.disk jpk_p
  refine (cut_walk h1 hm).mono ?_
  rintro e w' ⟨rfl, hd, hc⟩
  exact ⟨rfl, hgo (h2 hd hc)⟩
theorem tw_rcut (h : Tw wz A sb rb v v2 o o2 S S2 w) {m : Int} (hm : m < 9223372036854775808) : Calls Try.prog 14 #[Pt rb, .int .i64 m] w (TwP wz A sb rb (.tuple #[]) v v2 o o2 S (cutS S2 m) w) := by
  obtain ⟨X, hx, _, hgo⟩ := h.right
  obtain ⟨D, h1, _, h2⟩ := hx.disk jpk_r
  refine (rcut_walk h1 hm).mono ?_
  rintro e w' ⟨rfl, hd, hc⟩
  exact ⟨rfl, hgo (h2 hd hc)⟩
theorem tw_off (h : Tw wz A sb rb v v2 o o2 S S2 w) : Calls Try.prog 15 #[Pt sb] w (TwP wz A sb rb (.tuple #[]) v v2 o o2 (offS S) S2 w) := by
  obtain ⟨X, hx, _, hgo⟩ := h.left
  obtain ⟨D, h1, _, h2⟩ := hx.disk jpk_p
  refine (off_walk h1).mono ?_
  rintro e w' ⟨rfl, hd, hc⟩
  exact ⟨rfl, hgo (h2 hd hc)⟩
theorem tw_roff (h : Tw wz A sb rb v v2 o o2 S S2 w) : Calls Try.prog 16 #[Pt rb] w (TwP wz A sb rb (.tuple #[]) v v2 o o2 S (offS S2) w) := by
  obtain ⟨X, hx, _, hgo⟩ := h.right
  obtain ⟨D, h1, _, h2⟩ := hx.disk jpk_r
  refine (roff_walk h1).mono ?_
  rintro e w' ⟨rfl, hd, hc⟩
  exact ⟨rfl, hgo (h2 hd hc)⟩
theorem tw_on (h : Tw wz A sb rb v v2 o o2 S S2 w) : Calls Try.prog 17 #[Pt sb] w (TwP wz A sb rb (.tuple #[]) v v2 o o2 (onS S) S2 w) := by
  obtain ⟨X, hx, _, hgo⟩ := h.left
  obtain ⟨D, h1, _, h2⟩ := hx.disk jpk_p
  refine (on_walk h1).mono ?_
  rintro e w' ⟨rfl, hd, hc⟩
  exact ⟨rfl, hgo (h2 hd hc)⟩
theorem tw_ron (h : Tw wz A sb rb v v2 o o2 S S2 w) : Calls Try.prog 18 #[Pt rb] w (TwP wz A sb rb (.tuple #[]) v v2 o o2 S (onS S2) w) := by
  obtain ⟨X, hx, _, hgo⟩ := h.right
  obtain ⟨D, h1, _, h2⟩ := hx.disk jpk_r
  refine (ron_walk h1).mono ?_
  rintro e w' ⟨rfl, hd, hc⟩
  exact ⟨rfl, hgo (h2 hd hc)⟩
/-- What Format and Open answer. -/
def TwJ (A : Nat → Prop) (i : Int) (f : Value → World → Prop) (w : World) (e : Ending) (w' : World) : Prop := ∃ v' : Value, e = .returned (.tuple #[v', .int .i64 i]) ∧ f v' w' ∧ Kpt A w w'
theorem tw_format (h : Tw wz A sb rb v v2 o o2 S S2 w) (q : Int) (hwr : S.wr < 9223372036854775800) : Calls Try.prog 6 #[Pt sb, .int .i64 q] w (TwJ A (fmtI S q) (fun v' w' => Tw wz A sb rb v' v2 (fmtO S q) o2 (fmtS S q) S2 w') w) := by
  obtain ⟨X, hx, _, hgo⟩ := h.left
  obtain ⟨D, h1, h2⟩ := hx.new
  refine (jformat_walk (q := q) h1 hwr).mono ?_
  rintro e w' ⟨v', D', rfl, hD, hc, hd, hno, hyes⟩
  by_cases h0 : fmtI S q = 0
  · obtain ⟨K', hj, hK⟩ := hyes h0
    exact ⟨v', rfl, hgo (h2 hd hc hD (by unfold fmtO; rw [if_pos h0]; exact hj) hK)⟩
  · exact ⟨v', rfl, hgo (h2 (K' := fun _ => False) hd hc hD (by unfold fmtO; rw [if_neg h0]; exact ⟨hno h0, fun _ h => h⟩) (fun _ h => h.elim))⟩
theorem tw_rformat (h : Tw wz A sb rb v v2 o o2 S S2 w) (q : Int) (hwr : S2.wr < 9223372036854775800) : Calls Try.prog 10 #[Pt rb, .int .i64 q] w (TwJ A (fmtI S2 q) (fun v' w' => Tw wz A sb rb v v' o (fmtO S2 q) S (fmtS S2 q) w') w) := by
  obtain ⟨X, hx, _, hgo⟩ := h.right
  obtain ⟨D, h1, h2⟩ := hx.new
  refine (rformat_walk (q := q) h1 hwr).mono ?_
  rintro e w' ⟨v', D', rfl, hD, hc, hd, hno, hyes⟩
  by_cases h0 : fmtI S2 q = 0
  · obtain ⟨K', hj, hK⟩ := hyes h0
    exact ⟨v', rfl, hgo (h2 hd hc hD (by unfold fmtO; rw [if_pos h0]; exact hj) hK)⟩
  · exact ⟨v', rfl, hgo (h2 (K' := fun _ => False) hd hc hD (by unfold fmtO; rw [if_neg h0]; exact ⟨hno h0, fun _ h => h⟩) (fun _ h => h.elim))⟩
theorem tw_open (h : Tw wz A sb rb v v2 o o2 S S2 w) (q : Int) (hrd : S.rd < 9223372036854775800) : Calls Try.prog 7 #[Pt sb, .int .i64 q] w (TwJ A (opnI S q) (fun v' w' => Tw wz A sb rb v' v2 (opnO S q) o2 (opnS S q) S2 w') w) := by
  obtain ⟨X, hx, _, hgo⟩ := h.left
  obtain ⟨D, h1, h2⟩ := hx.new
  refine (jopen_walk (q := q) h1 hrd).mono ?_
  rintro e w' ⟨v', rfl, hc, hd, hno, hyes⟩
  by_cases h0 : opnI S q = 0
  · obtain ⟨hh, g, n, K', ho, hj, hK⟩ := hyes h0
    exact ⟨v', rfl, hgo (h2 hd hc (fun _ h => .inl h) (by unfold opnO; rw [if_pos h0, ho]; exact hj) hK)⟩
  · exact ⟨v', rfl, hgo (h2 (K' := fun _ => False) hd hc (fun _ h => .inl h) (by unfold opnO; rw [if_neg h0]; exact ⟨hno h0, fun _ h => h⟩) (fun _ h => h.elim))⟩
theorem tw_ropen (h : Tw wz A sb rb v v2 o o2 S S2 w) (q : Int) (hrd : S2.rd < 9223372036854775800) : Calls Try.prog 19 #[Pt rb, .int .i64 q] w (TwJ A (opnI S2 q) (fun v' w' => ∃ S3, SmD S2 S3 ∧ Tw wz A sb rb v v' o (opnO S2 q) S S3 w') w) := by
  obtain ⟨X, hx, _, hgo⟩ := h.right
  obtain ⟨D, h1, h2⟩ := hx.new
  refine (ropen_walk (q := q) h1 hrd).mono ?_
  rintro e w' ⟨v', S3, rfl, hc, hd, hsm, hno, hyes⟩
  by_cases h0 : opnI S2 q = 0
  · obtain ⟨hh, g, n, K', ho, hj, hK⟩ := hyes h0
    have h3 := hgo (h2 hd hc (fun _ h => .inl h) (o' := opnO S2 q) (by unfold opnO; rw [if_pos h0, ho]; exact hj) hK)
    exact ⟨v', rfl, ⟨S3, hsm, h3.1⟩, h3.2⟩
  · have h3 := hgo (h2 (K' := fun _ => False) hd hc (fun _ h => .inl h) (o' := opnO S2 q) (by unfold opnO; rw [if_neg h0]; exact ⟨hno h0, fun _ h => h⟩) (fun _ h => h.elim))
    exact ⟨v', rfl, ⟨S3, hsm, h3.1⟩, h3.2⟩
end

end Go.Proofs.Ytnnammlipfappaa


/- Both sides alike: what stays through a script. -/
namespace Go.Proofs.Ytnnammlipfappaa

open Ieee Go.RowKit



def rdS (S : Dk) (r : Nat) : Dk := { S with rd := r }
theorem rdS_of {S S2 : Dk} (h1 : S2.bl = S.bl) (h2 : S2.down = S.down) (h3 : S2.left = S.left) (h4 : S2.wr = S.wr) : S2 = rdS S S2.rd := by
  obtain ⟨a, b, c, d, e⟩ := S
  obtain ⟨a2, b2, c2, d2, e2⟩ := S2
  simp only at h1 h2 h3 h4
  subst h1 h2 h3 h4
  rfl
theorem wr_rdS (S : Dk) (r : Nat) (i : Int) (b : List Nat) : writeS (rdS S r) i b = rdS (writeS S i b) r := by
  unfold writeS
  by_cases h1 : refI S i ≠ 0
  · rw [if_pos (show refI (rdS S r) i ≠ 0 from h1), if_pos h1]
  · rw [if_neg (show ¬ refI (rdS S r) i ≠ 0 from h1), if_neg h1]
    by_cases h2 : 1024 < b.length
    · rw [if_pos h2, if_pos h2]
    · rw [if_neg h2, if_neg h2]
      by_cases h3 : S.left = 0
      · rw [if_pos (show (rdS S r).left = 0 from h3), if_pos h3]
        rfl
      · rw [if_neg (show ¬ (rdS S r).left = 0 from h3), if_neg h3]
        rfl
theorem wi_rdS (S : Dk) (r : Nat) (i : Int) (b : List Nat) : writeI (rdS S r) i b = writeI S i b := rfl
theorem savI_rdS (J : Jn) (S : Dk) (r : Nat) (q : Int) (n : Nt) : savI J (rdS S r) q n = savI J S q n := rfl
theorem rsvJ_rdS (J : Jn) (S : Dk) (r : Nat) (q : Int) (n : Nt) : rsvJ J (rdS S r) q n = rsvJ J S q n := rfl
theorem savS_rdS (J : Jn) (S : Dk) (r : Nat) (q : Int) (n : Nt) : savS J (rdS S r) q n = rdS (savS J S q n) r := by
  unfold savS
  rw [wr_rdS]
  show (if J.o = true ∨ S.down = true then _ else _) = _
  split
  · rfl
  · split
    · rfl
    · split
      · rfl
      · split
        · rfl
        · rfl
theorem fmtI_rdS (S : Dk) (r : Nat) (q : Int) : fmtI (rdS S r) q = fmtI S q := by
  unfold fmtI
  rw [wr_rdS]
  rfl
theorem fmtS_rdS (S : Dk) (r : Nat) (q : Int) : fmtS (rdS S r) q = rdS (fmtS S q) r := by
  unfold fmtS
  rw [wr_rdS, wr_rdS, wi_rdS]
  show (if refJ q ≠ 0 then _ else if S.bl.length < 2 then _ else _) = _
  split
  · rfl
  · split
    · rfl
    · split
      · rfl
      · rfl
theorem opK_rdS (S : Dk) (r : Nat) (q : Int) : opK q (rdS S r) 2 = opK q S 2 := by
  rw [opK_two, opK_two]
  rfl
theorem opnI_rdS (S : Dk) (r : Nat) (q : Int) : opnI (rdS S r) q = opnI S q := by
  unfold opnI
  rw [opK_rdS]
  rfl
theorem opnO_rdS (S : Dk) (r : Nat) (q : Int) : opnO (rdS S r) q = opnO S q := by
  unfold opnO
  rw [opnI_rdS, opK_rdS]
theorem fmtO_rdS (S : Dk) (r : Nat) (q : Int) : fmtO (rdS S r) q = fmtO S q := by
  unfold fmtO
  rw [fmtI_rdS]
theorem opnS_rdS (S S3 : Dk) (r : Nat) (q : Int) (h : SmD (rdS S r) S3) : S3 = rdS (opnS S q) S3.rd := by
  unfold opnS
  split
  · exact rdS_of h.bl h.down h.left h.wr
  · split
    · exact rdS_of h.bl h.down h.left h.wr
    · obtain ⟨r1, r2, r3, r4, _⟩ := rdK_same S 2
      exact rdS_of (h.bl.trans r1.symm) (h.down.trans r2.symm) (h.left.trans r3.symm) (h.wr.trans r4.symm)
theorem savOI_rdS (o : On) (S : Dk) (r : Nat) (n : Nt) : savOI o (rdS S r) n = savOI o S n := by
  cases o <;> rfl
theorem savOS_rdS (o : On) (S : Dk) (r : Nat) (n : Nt) : savOS o (rdS S r) n = rdS (savOS o S n) r := by
  cases o with
  | none => rfl
  | some a => exact savS_rdS _ _ _ _ _
/-- What stays behind k calls of a script. -/
structure Iv (S : Dk) (o : On) (r k : Nat) : Prop where
  short : S.bl.length < 2 → S.bl = [[]] ∧ o = none
  wr : S.wr ≤ 2 * k + 2
  rd : S.rd ≤ 2 * k
  rr : r ≤ 2 * k
theorem writeS_len (S : Dk) (i : Int) (b : List Nat) : (writeS S i b).bl.length = S.bl.length ∧ (writeS S i b).rd = S.rd := by
  unfold writeS
  split
  · exact ⟨rfl, rfl⟩
  · split
    · exact ⟨rfl, rfl⟩
    · split
      · exact ⟨rfl, rfl⟩
      · exact ⟨by simp [putS], rfl⟩
theorem savS_len (J : Jn) (S : Dk) (q : Int) (n : Nt) : (savS J S q n).bl.length = S.bl.length ∧ (savS J S q n).rd = S.rd ∧ (savS J S q n).wr ≤ S.wr + 1 := by
  unfold savS
  split
  · exact ⟨rfl, rfl, by omega⟩
  · split
    · exact ⟨rfl, rfl, by omega⟩
    · split
      · exact ⟨rfl, rfl, by omega⟩
      · split
        · exact ⟨rfl, rfl, by omega⟩
        · exact ⟨(writeS_len _ _ _).1, (writeS_len _ _ _).2, wr_le _ _ _⟩
theorem fmtS_len (S : Dk) (q : Int) : (fmtS S q).bl.length = S.bl.length ∧ (fmtS S q).rd = S.rd ∧ (fmtS S q).wr ≤ S.wr + 2 := by
  unfold fmtS
  split
  · exact ⟨rfl, rfl, by omega⟩
  · split
    · exact ⟨rfl, rfl, by omega⟩
    · split
      · exact ⟨(writeS_len _ _ _).1, (writeS_len _ _ _).2, by have := wr_le S 1 []; omega⟩
      · refine ⟨(writeS_len _ _ _).1.trans (writeS_len _ _ _).1, (writeS_len _ _ _).2.trans (writeS_len _ _ _).2, ?_⟩
        have h1 := wr_le S 1 []
        have h2 := wr_le (writeS S 1 []) 0 (bytN 1 (n0 q.toNat))
        omega
theorem opnS_len (S : Dk) (q : Int) : (opnS S q).bl = S.bl ∧ (opnS S q).wr = S.wr ∧ (opnS S q).rd ≤ S.rd + 2 := by
  unfold opnS
  split
  · exact ⟨rfl, rfl, by omega⟩
  · split
    · exact ⟨rfl, rfl, by omega⟩
    · obtain ⟨r1, r2, r3, r4, r5⟩ := rdK_same S 2
      exact ⟨r1, r4, r5⟩
theorem opK_short {S : Dk} (q : Int) (h : S.bl = [[]]) : opK q S 2 = none := by
  have h0 : ∀ i : Int, readL S i = [] := fun i => by
    unfold readL
    split
    · rw [h]
      unfold bk
      rcases Int.toNat i with _ | k
      · rfl
      · rfl
    · rfl
  rw [opK_two, h0, h0]
  rfl
section

variable {S : Dk} {o : On} {r k : Nat} {q : Int} {n : Nt}

theorem Iv.len2 (h : Iv S o r k) {a : Int × Jn} (ho : o = some a) : 2 ≤ S.bl.length := by
  rcases Nat.lt_or_ge S.bl.length 2 with h1 | h1
  · have := (h.short h1).2
    rw [ho] at this
    cases this
  · exact h1
theorem Iv.next (h : Iv S o r k) : Iv S o r (k + 1) := ⟨h.short, by have := h.wr; omega, by have := h.rd; omega, by have := h.rr; omega⟩
theorem Iv.save (h : Iv S o r k) : Iv (savOS o S n) (savOJ o S n) r (k + 1) := by
  cases o with
  | none => exact h.next
  | some a =>
    obtain ⟨q, J⟩ := a
    have h2 := h.len2 rfl
    obtain ⟨s1, s2, s3⟩ := savS_len J S q n
    exact ⟨fun hl => by have : (savS J S q n).bl.length < 2 := hl; omega, by show (savS J S q n).wr ≤ _; have := h.wr; omega, by show (savS J S q n).rd ≤ _; have := h.rd; omega, by have := h.rr; omega⟩
theorem Iv.cut (h : Iv S o r k) (m : Int) : Iv (cutS S m) o r (k + 1) := ⟨h.short, h.next.wr, h.next.rd, h.next.rr⟩
theorem Iv.off (h : Iv S o r k) : Iv (offS S) o r (k + 1) := ⟨h.short, h.next.wr, h.next.rd, h.next.rr⟩
theorem Iv.on (h : Iv S o r k) : Iv (onS S) o r (k + 1) := ⟨h.short, h.next.wr, h.next.rd, h.next.rr⟩
theorem Iv.open_ (h : Iv S o r k) {r' : Nat} (hr : r' ≤ r + 2) : Iv (opnS S q) (opnO S q) r' (k + 1) := by
  obtain ⟨s1, s2, s3⟩ := opnS_len S q
  refine ⟨fun hl => ?_, by rw [s2]; exact h.next.wr, by have := h.rd; omega, by have := h.rr; omega⟩
  rw [s1] at hl ⊢
  refine ⟨(h.short hl).1, ?_⟩
  unfold opnO
  rw [opK_short q (h.short hl).1]
  split <;> rfl
theorem fmt_short (hl : S.bl.length < 2) : fmtI S q ≠ 0 ∧ fmtS S q = S := by
  unfold fmtI fmtS
  by_cases h1 : refJ q ≠ 0
  · rw [if_pos h1, if_pos h1]
    exact ⟨by decide, rfl⟩
  · rw [if_neg h1, if_neg h1, if_pos hl, if_pos hl]
    exact ⟨by decide, rfl⟩
theorem Iv.format (h : Iv S o r k) : Iv (fmtS S q) (fmtO S q) r (k + 1) := by
  obtain ⟨s1, s2, s3⟩ := fmtS_len S q
  refine ⟨fun hl => ?_, by have := h.wr; omega, by have := h.rd; omega, by have := h.rr; omega⟩
  rw [s1] at hl
  obtain ⟨f1, f2⟩ := fmt_short (q := q) hl
  rw [f2]
  exact ⟨(h.short hl).1, by unfold fmtO; rw [if_neg f1]⟩
theorem Iv.first {L : List (List Nat)} (hl : L.length < 2 → L = [[]]) : Iv (fmtS (loadS L) q) (fmtO (loadS L) q) 0 0 := by
  obtain ⟨s1, s2, s3⟩ := fmtS_len (loadS L) q
  have h0 : (loadS L).wr = 0 := rfl
  have h1 : (loadS L).rd = 0 := rfl
  refine ⟨fun h => ?_, by omega, by omega, by omega⟩
  rw [s1] at h
  have hL : L.length < 2 := h
  obtain ⟨f1, f2⟩ := fmt_short (S := loadS L) (q := q) hL
  rw [f2]
  exact ⟨hl hL, by unfold fmtO; rw [if_neg f1]⟩
/-- The reference's Over is the program's. -/
theorem Iv.rsv (h : Iv S o r k) (hok : ∀ q J, o = some (q, J) → J.ok q) : rsvOJ o (rdS S r) n = savOJ o S n := by
  cases o with
  | none => rfl
  | some a =>
    obtain ⟨q, J⟩ := a
    have h2 := h.len2 rfl
    have hk := hok q J rfl
    show some (q, rsvJ J S q n) = some (q, savJ J S q n)
    unfold rsvJ savJ
    by_cases c1 : J.o = true ∨ S.down = true
    · rw [if_pos c1, if_pos c1]
    · rw [if_neg c1, if_neg c1]
      by_cases c2 : rgtB n q = false
      · rw [if_pos c2, if_pos c2]
      · rw [if_neg c2, if_neg c2]
        by_cases c3 : folB n J.n = false
        · rw [if_pos c3, if_pos c3]
        · rw [if_neg c3, if_neg c3]
          by_cases c4 : J.g = 1099511627776
          · rw [if_pos c4, if_pos c4]
          · rw [if_neg c4, if_neg c4]
            by_cases c5 : savW J S n = 0
            · rw [if_pos c5, if_pos c5]
            · rw [if_neg c5, if_neg c5]
              have hr : Rgt n q := Rgt.of (by simpa using c2)
              have hlen : ¬ 1024 < (savB J n).length := by
                have h4 := hk.q4
                have h5 := hr.lp
                have h6 := hr.lc
                have : (bytN (J.g + 1) n).length ≤ 130 := bytN_len (by omega) (by omega)
                show ¬ 1024 < (bytN (J.g + 1) n).length
                omega
              have hw : savW J S n = 80 := by
                have hd : ¬ S.down = true := fun e => c1 (.inr e)
                have hz : refI S ((1 : Int) - J.h) = 0 := by
                  have := hk.h1
                  unfold refI
                  rw [if_neg hd, if_neg (by omega)]
                unfold savW writeI at c5 ⊢
                rw [hz] at c5 ⊢
                rw [if_neg (by simp), if_neg hlen] at c5 ⊢
                by_cases hl : S.left = 0
                · rw [if_pos hl]
                · rw [if_neg hl] at c5
                  exact absurd rfl c5
              rw [hw]
              rfl
end

/-- Both sides behind k calls. -/
structure Bt (wz : World) (A : Nat → Prop) (sb rb : Nat) (k : Nat) (v v2 : Value) (o : On) (S : Dk) (r : Nat) (w : World) : Prop where
  t : Tw wz A sb rb v v2 o o S (rdS S r) w
  iv : Iv S o r k
section

variable {wz w w' : World} {A : Nat → Prop} {sb rb : Nat} {v v2 : Value} {o : On} {S : Dk} {n : Nt} {r k : Nat} {q : Int}

theorem Bt.below (h : Bt wz A sb rb k v v2 o S r w) (hb : Below w.heap.size w w') : Bt wz A sb rb k v v2 o S r w' := ⟨h.t.below hb, h.iv⟩
theorem Bt.next (h : Bt wz A sb rb k v v2 o S r w) : Bt wz A sb rb (k + 1) v v2 o S r w := ⟨h.t, h.iv.next⟩
theorem bt_save (h : Iv S o r k) (ht : Tw wz A sb rb v v2 (savOJ o S n) (rsvOJ o (rdS S r) n) (savOS o S n) (savOS o (rdS S r) n) w) (hok : ∀ q J, o = some (q, J) → J.ok q) : Bt wz A sb rb (k + 1) v v2 (savOJ o S n) (savOS o S n) r w := by
  rw [h.rsv hok, savOS_rdS] at ht
  exact ⟨ht, h.save⟩
theorem bt_cut {m : Int} (h : Iv S o r k) (ht : Tw wz A sb rb v v2 o o (cutS S m) (cutS (rdS S r) m) w) : Bt wz A sb rb (k + 1) v v2 o (cutS S m) r w := ⟨ht, h.cut m⟩
theorem bt_off (h : Iv S o r k) (ht : Tw wz A sb rb v v2 o o (offS S) (offS (rdS S r)) w) : Bt wz A sb rb (k + 1) v v2 o (offS S) r w := ⟨ht, h.off⟩
theorem bt_on (h : Iv S o r k) (ht : Tw wz A sb rb v v2 o o (onS S) (onS (rdS S r)) w) : Bt wz A sb rb (k + 1) v v2 o (onS S) r w := ⟨ht, h.on⟩
theorem bt_open {S3 : Dk} (h : Iv S o r k) (hs : SmD (rdS S r) S3) (ht : Tw wz A sb rb v v2 (opnO S q) (opnO (rdS S r) q) (opnS S q) S3 w) : Bt wz A sb rb (k + 1) v v2 (opnO S q) (opnS S q) S3.rd w := by
  rw [opnO_rdS] at ht
  have e := opnS_rdS S S3 r q hs
  refine ⟨?_, h.open_ hs.rd⟩
  rw [← e]
  exact ht
theorem bt_format (h : Iv S o r k) (ht : Tw wz A sb rb v v2 (fmtO S q) (fmtO (rdS S r) q) (fmtS S q) (fmtS (rdS S r) q) w) : Bt wz A sb rb (k + 1) v v2 (fmtO S q) (fmtS S q) r w := by
  rw [fmtO_rdS, fmtS_rdS] at ht
  exact ⟨ht, h.format⟩
end

end Go.Proofs.Ytnnammlipfappaa


/- The script of JournalExact in numbers; both sides' beginning. -/
namespace Go.Proofs.Ytnnammlipfappaa

open Ieee Go.RowKit



structure Oj where
  k : Int
  n : Int
  t : Nt
def zeroOj : Oj := ⟨0, 0, zO⟩
def ojt (l : List Oj) (i : Nat) : Oj := l.getD i zeroOj
/-- A slice of calls. -/
def Scr (w : World) (v : Value) (l : List Oj) : Prop := ∃ ao cap, v = .slice ao l.length cap ∧ l.length ≤ cap ∧ cap ≤ maxLen ∧ ∀ i, i < l.length → ∃ b off pv cv, ao = some ⟨b, off, none⟩ ∧ w.cell? ⟨b, off + i * 6, none⟩ = some (.int .i64 (ojt l i).k) ∧ w.cell? ⟨b, off + i * 6 + 1, none⟩ = some (.int .i64 (ojt l i).n) ∧ w.cell? ⟨b, off + i * 6 + 2, none⟩ = some (.int .i64 (ojt l i).t.b) ∧ w.cell? ⟨b, off + i * 6 + 3, none⟩ = some pv ∧ w.cell? ⟨b, off + i * 6 + 4, none⟩ = some cv ∧ w.cell? ⟨b, off + i * 6 + 5, none⟩ = some (.int .i64 (ojt l i).t.a) ∧ Nv w pv (ojt l i).t.p ∧ Nv w cv (ojt l i).t.c ∧ (-9223372036854775808 ≤ (ojt l i).t.b ∧ (ojt l i).t.b < 9223372036854775808) ∧ (ojt l i).n < 9223372036854775808
section

variable {wz w1 w2 w3 w : World} {A E : Nat → Prop} {sb rb : Nat} {v v2 : Value} {o : On} {S : Dk} {r k : Nat}

theorem tw_start {D F : Nat → Prop} (hB : Below wz.heap.size wz w1) (hd : Dsk DD D w2 (Pt sb) S) (hx : ∀ x, D x → w1.heap.size ≤ x) (hb : Below w1.heap.size w1 w2) (hd2 : Dsk DR F w3 (Pt rb) (rdS S r)) (hx2 : ∀ x, F x → w2.heap.size ≤ x) (hb2 : Below w2.heap.size w2 w3) : Tw wz (fun _ => False) sb rb (.pointer none) (.pointer none) none none S (rdS S r) w3 := by
  refine ⟨⟨D, F, ⟨D, fun _ => False, hd.below hb2, ⟨rfl, fun _ h => h⟩, fun _ h => h.elim, fun x => by simp⟩, ⟨F, fun _ => False, hd2, ⟨rfl, fun _ h => h⟩, fun _ h => h.elim, fun x => by simp⟩, fun x h => ⟨Nat.le_trans hB.size (hx x h), fun h => h, fun hf => ?_⟩, fun x h => ⟨Nat.le_trans hB.size (Nat.le_trans hb.size (hx2 x h)), fun h => h⟩⟩, hB.trans ((below_trans hb hb2).mono hB.size), fun _ h => h.elim⟩
  have h1 := hd.lt h
  have h2 := hx2 x hf
  omega
theorem Bt.less (h : Bt wz A sb rb k v v2 o S r w) : Bt wz (fun _ => False) sb rb k v v2 o S r w := ⟨h.t.less (fun _ h => h.elim), h.iv⟩
theorem Bt.wr (h : Bt wz A sb rb k v v2 o S r w) (hk : k ≤ 140737488355328) : S.wr < 9223372036854775800 ∧ (rdS S r).wr < 9223372036854775800 ∧ S.rd < 9223372036854775800 ∧ (rdS S r).rd < 9223372036854775800 := by
  have h1 := h.iv.wr
  have h2 := h.iv.rd
  have h3 := h.iv.rr
  refine ⟨by omega, ?_, by omega, ?_⟩
  · show S.wr < _
    omega
  · show r < _
    omega
theorem Bt.ok (h : Bt wz A sb rb k v v2 o S r w) : ∀ q J, o = some (q, J) → J.ok q := fun _ _ e => h.t.ok e
theorem bt_first {L : List (List Nat)} {q : Int} (hl : L.length < 2 → L = [[]]) (ht : Tw wz A sb rb v v2 (fmtO (loadS L) q) (fmtO (rdS (loadS L) 0) q) (fmtS (loadS L) q) (fmtS (rdS (loadS L) 0) q) w) : Bt wz A sb rb 0 v v2 (fmtO (loadS L) q) (fmtS (loadS L) q) 0 w := by
  rw [fmtO_rdS, fmtS_rdS] at ht
  exact ⟨ht, Iv.first hl⟩
end

end Go.Proofs.Ytnnammlipfappaa


