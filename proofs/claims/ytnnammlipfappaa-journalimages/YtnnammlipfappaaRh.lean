/- The reference's Save. -/
import Derived.Test.YtnnammlipfappaaRg

namespace Go.Proofs.Ytnnammlipfappaa

open Ieee Go.RowKit



/-- The reference's journal and its disk, apart. -/
structure RJS (D K : Nat → Prop) (w : World) (v dv : Value) (q : Int) (J : Jn) (S : Dk) : Prop where
  d : Dsk DR D w dv S
  j : Rj K w v dv q J
  ap : ∀ x, K x → ¬ D x
def rsvJ (J : Jn) (S : Dk) (q : Int) (n : Nt) : Jn := if J.o = true ∨ S.down = true then { J with o := true } else if rgtB n q = false then J else if folB n J.n = false then J else if J.g = 1099511627776 then J else if savW J S n = 0 then ⟨J.g + 1, n, 1 - J.h, false⟩ else { J with o := true }
def RvGot (D K : Nat → Prop) (v dv : Value) (q : Int) (J : Jn) (S : Dk) (n : Nt) (w : World) (e : Ending) (w' : World) : Prop := e = .returned (.int .i64 (savI J S q n)) ∧ (∃ D' K' : Nat → Prop, RJS D' K' w' v dv q (rsvJ J S q n) (savS J S q n) ∧ (∀ x, D' x → D x ∨ w.heap.size ≤ x) ∧ ∀ x, K' x → K x ∨ w.heap.size ≤ x) ∧ Ch (fun x => D x ∨ K x) w w'
section

variable {D K : Nat → Prop} {w w' w1 : World} {v dv pv cv : Value} {q : Int} {J : Jn} {S : Dk} {n : Nt} {jb : Nat}

theorem RJS.below (h : RJS D K w v dv q J S) (hb : Below w.heap.size w w') : RJS D K w' v dv q J S := ⟨h.d.below hb, h.j.below hb, h.ap⟩
theorem RJS.ch {E : Nat → Prop} (h : RJS D K w v dv q J S) (hc : Ch E w w') (hE : ∀ x, D x ∨ K x → ¬ E x) : RJS D K w' v dv q J S :=
  ⟨h.d.ch hc (fun x hx => hE x (.inl hx)), h.j.keep (fun x hx => hc.block x (h.j.lt hx) (hE x (.inr hx))) hc.size, h.ap⟩
theorem rsave_nil {w : World} {nb na : Int} {pv cv : Value} : Calls Try.prog 12 #[.pointer none, .agg #[.int .i64 nb, pv, cv, .int .i64 na]] w fun e w' => e = .returned (.int .i64 2) ∧ Below w.heap.size w w' := by
  go_enter Try.func12, Try.ntmps12
  go_wp2_with fail
  go_ret
  exact ⟨rfl, below_alloc _ _⟩
theorem rv_same {c : Int} (h : RJS D K w v dv q J S) (hI : savI J S q n = c) (hJ : rsvJ J S q n = J) (hS : savS J S q n = S) (hb : Below w.heap.size w w') : RvGot D K v dv q J S n w (.returned (.int .i64 c)) w' :=
  ⟨by rw [hI], ⟨D, K, by rw [hJ, hS]; exact h.below hb, fun x hx => .inl hx, fun x hx => .inl hx⟩, Ch.of_below hb⟩
theorem RM.setO {pv' cv' : Value} (h : RM K w jb pv' cv' dv q J) (o : Bool) : RM K (w.setCell ⟨jb, 8, none⟩ (.bool o)) jb pv' cv' dv q { J with o := o } := by
  have hk : ∀ x, x ≠ jb → (w.setCell ⟨jb, 8, none⟩ (.bool o)).heap[x]? = w.heap[x]? := fun x hx => set_other _ _ hx
  refine ⟨by rw [set_row h.head]; rfl, row_keep h.lp fun x hx => hk x (h.kp x hx).2, row_keep h.lc fun x hx => hk x (h.kc x hx).2, h.kj, h.kp, h.kc, fun x hx => ?_, Jn.ok_o h.ok o⟩
  have := h.kl x hx
  simpa [go_sem] using this
theorem RM.turn {p' c' pv' cv' : Value} {J' : Jn} (h : RM K w jb pv' cv' dv q J) (hw : w'.heap[jb]? = some (.cells (rC J' q p' c' dv) 75 (0, 0))) (hk : ∀ x, x ≠ jb → w'.heap[x]? = w.heap[x]?) (hs : w'.heap.size = w.heap.size) (hp : OwN 0 w p' J'.n.p) (hc : OwN 0 w c' J'.n.c) (np : ∀ x, p'.ownBlock = some x → x ≠ jb) (nc : ∀ x, c'.ownBlock = some x → x ≠ jb) (hok : J'.ok q) :
    RM (fun x => K x ∨ p'.ownBlock = some x ∨ c'.ownBlock = some x) w' jb p' c' dv q J' :=
  ⟨hw, row_keep hp fun x hx => hk x (np x hx), row_keep hc fun x hx => hk x (nc x hx), .inl h.kj, fun x hx => ⟨.inr (.inl hx), np x hx⟩, fun x hx => ⟨.inr (.inr hx), nc x hx⟩, fun x hx => by
    rw [hs]
    rcases hx with hx | hx | hx
    · exact h.kl x hx
    · exact (hp.lt x hx).2
    · exact (hc.lt x hx).2, hok⟩
theorem rv_over {pv' cv' : Value} {D' : Nat → Prop} {S' : Dk} {c : Int} (hj : RM K w1 jb pv' cv' dv q J) (hd : Dsk DR D' w1 dv S') (hap : ∀ x, K x → ¬ D' x) (hD : ∀ x, D' x → D x ∨ w.heap.size ≤ x) (hC : Ch (fun x => D x ∨ K x) w w1) (hI : savI J S q n = c) (hJ : rsvJ J S q n = { J with o := true }) (hS : savS J S q n = S') :
    RvGot D K (.pointer (some ⟨jb, 0, none⟩)) dv q J S n w (.returned (.int .i64 c)) (w1.setCell ⟨jb, 8, none⟩ (.bool true)) := by
  have hch : Ch (fun x => x = jb) w1 (w1.setCell ⟨jb, 8, none⟩ (.bool true)) := Ch.of_grown (grown_set w1 jb 8 _) (fun x hx => by cases hx; rfl)
  refine ⟨by rw [hI], ⟨D', K, ?_, hD, fun x hx => .inl hx⟩, hC.trans hch (fun x hx => .inl (.inr (hx ▸ hj.kj)))⟩
  rw [hJ, hS]
  exact ⟨hd.ch hch (fun x hx e => hap jb hj.kj (e ▸ hx)), ⟨jb, pv', cv', rfl, hj.setO true⟩, hap⟩
theorem grown_set4' (w : World) (g i j k m : Nat) (a b c d : Value) : w.grownBy ((((w.setCell ⟨g, i, none⟩ a).setCell ⟨g, j, none⟩ b).setCell ⟨g, k, none⟩ c).setCell ⟨g, m, none⟩ d) (some g) := grown_trans (grown_trans (grown_trans (grown_set _ _ _ _) (grown_set _ _ _ _)) (grown_set _ _ _ _)) (grown_set _ _ _ _)
theorem nv_chD {w w' : World} {D : Nat → Prop} {v : Value} {l : List Int} (h : Nv w v l) (hc : Ch D w w') (hd : ∀ (a : Addr) (m o : Nat), v = .slice (some a) m o → ¬ D a.block) : Nv w' v l := by
  obtain ⟨⟨ao, cap, e, h1, h2, h3, h4⟩, h5⟩ := h
  refine ⟨⟨ao, cap, e, h1, h2, h3, fun i hi => ?_⟩, h5⟩
  obtain ⟨b, off, e1, e2⟩ := h4 i hi
  subst e1
  have hb := hc.block b (cell_lt e2) (hd _ _ _ e)
  exact ⟨b, off, rfl, by rw [World.cell?_of_block (w := w) (a := ⟨b, off + i, none⟩) hb]; exact e2⟩
theorem rv_yes {pv' cv' : Value} {D' : Nat → Prop} {S' : Dk} {pa ca : Option Addr} {pc cc : Nat} (hj : RM K w1 jb pv' cv' dv q J) (hd : Dsk DR D' w1 dv S') (hap : ∀ x, K x → ¬ D' x) (hD : ∀ x, D' x → D x ∨ w.heap.size ≤ x) (hC : Ch (fun x => D x ∨ K x) w w1) (hI : savI J S q n = 0) (hJ : rsvJ J S q n = ⟨J.g + 1, n, 1 - J.h, false⟩) (hS : savS J S q n = S') (ho : J.o = false) (hok : (⟨J.g + 1, n, 1 - J.h, false⟩ : Jn).ok q)
    (h1 : OwN w.heap.size w1 (.slice pa n.p.length pc) n.p) (h2 : OwN w.heap.size w1 (.slice ca n.c.length cc) n.c) (n1 : ∀ x, (Value.slice pa n.p.length pc).ownBlock = some x → ¬ D' x) (n2 : ∀ x, (Value.slice ca n.c.length cc).ownBlock = some x → ¬ D' x) (hjb : jb < w.heap.size) :
    RvGot D K (.pointer (some ⟨jb, 0, none⟩)) dv q J S n w (.returned (.int .i64 0)) ((((((w1.setCell ⟨jb, 2, none⟩ (.int .i64 n.b)).setCell ⟨jb, 3, none⟩ (.slice pa n.p.length pc)).setCell ⟨jb, 4, none⟩ (.slice ca n.c.length cc)).setCell ⟨jb, 5, none⟩ (.int .i64 n.a)).setCell ⟨jb, 6, none⟩ (.int .i64 ((J.g : Int) + 1))).setCell ⟨jb, 7, none⟩ (.int .i64 (1 - (J.h : Int)))) := by
  have hg := grown_trans (grown_trans (grown_set4' w1 jb 2 3 4 5 (.int .i64 n.b) (.slice pa n.p.length pc) (.slice ca n.c.length cc) (.int .i64 n.a)) (grown_set _ jb 6 (.int .i64 ((J.g : Int) + 1)))) (grown_set _ jb 7 (.int .i64 (1 - (J.h : Int))))
  have hch := Ch.of_grown (D := fun x => x = jb) hg (fun x hx => by cases hx; rfl)
  have hh1 := hj.ok.h1
  refine ⟨by rw [hI], ⟨D', fun x => K x ∨ (Value.slice pa n.p.length pc).ownBlock = some x ∨ (Value.slice ca n.c.length cc).ownBlock = some x, ?_, hD, fun x hx => ?_⟩, hC.trans hch (fun x hx => .inl (.inr (hx ▸ hj.kj)))⟩
  · rw [hJ, hS]
    refine ⟨hd.ch hch (fun x hx e => hap jb hj.kj (e ▸ hx)), ⟨jb, _, _, rfl, hj.turn ?_ (fun x hx => ?_) (by simp [go_sem]) (own_base h1 (Nat.zero_le _)) (own_base h2 (Nat.zero_le _)) (fun x hx e => ?_) (fun x hx e => ?_) hok⟩, fun x hx => ?_⟩
    · rw [set_row (set_row (set_row (set_row (set_row (set_row hj.head _ _) _ _) _ _) _ _) _ _)]
      have e1 : ((J.g : Int) + 1) = ((J.g + 1 : Nat) : Int) := by omega
      have e2 : (1 - (J.h : Int)) = ((1 - J.h : Nat) : Int) := by omega
      rw [e1, e2]
      show some (Obj.cells #[dv, _, _, _, _, _, _, _, Value.bool J.o] _ _) = _
      rw [ho]
      rfl
    · rw [set_other _ _ hx, set_other _ _ hx, set_other _ _ hx, set_other _ _ hx, set_other _ _ hx, set_other _ _ hx]
    · have := (h1.lt x hx).1; omega
    · have := (h2.lt x hx).1; omega
    · rcases hx with hx | hx | hx
      · exact hap x hx
      · exact n1 x hx
      · exact n2 x hx
  · rcases hx with hx | hx | hx
    · exact .inl hx
    · exact .inr (h1.lt x hx).1
    · exact .inr (h2.lt x hx).1
set_option maxRecDepth 100000 in
set_option maxHeartbeats 8000000 in
theorem rsave_walk (h : RJS D K w v dv q J S) (hp : Nv w pv n.p) (hc : Nv w cv n.c) (hpd : ∀ (a : Addr) (m o : Nat), pv = .slice (some a) m o → ¬ D a.block) (hcd : ∀ (a : Addr) (m o : Nat), cv = .slice (some a) m o → ¬ D a.block) (hwr : S.wr < 9223372036854775800) :
    Calls Try.prog 12 #[v, .agg #[.int .i64 n.b, pv, cv, .int .i64 n.a]] w (RvGot D K v dv q J S n w) := by
  have HJS : Hid (RJS D K w v dv q J S) := h
  have HWR : Hid (S.wr < 9223372036854775800) := hwr
  obtain ⟨hd, ⟨jb, jp, jc, rfl, hj⟩, hap⟩ := h
  have hd2 := hd
  obtain ⟨sb, gp, cap, rfl, _, _⟩ := hd2
  have HAP : Hid (∀ x, K x → ¬ D x) := hap
  obtain ⟨po, pc, rfl, _⟩ := hj.np.form
  obtain ⟨co, cc, rfl, _⟩ := hj.nc.form
  obtain ⟨np, npc, rfl, _⟩ := (show Nv w pv n.p from hp).form
  obtain ⟨nc, ncc, rfl, _⟩ := (show Nv w cv n.c from hc).form
  have HPD : Hid (∀ (a : Addr) (m o : Nat), Value.slice np n.p.length npc = .slice (some a) m o → ¬ D a.block) := hpd
  have HCD : Hid (∀ (a : Addr) (m o : Nat), Value.slice nc n.c.length ncc = .slice (some a) m o → ¬ D a.block) := hcd
  have HJD : Hid (¬ D jb) := hap _ hj.kj
  clear hpd hcd
  obtain ⟨w0, hw0⟩ : ∃ w0, w0 = w.alloc (Obj.cells #[.int .i64 n.b, .slice np n.p.length npc, .slice nc n.c.length ncc, .int .i64 n.a] 41) := ⟨_, rfl⟩
  have HW0 : Hid (w0 = w.alloc (Obj.cells #[.int .i64 n.b, .slice np n.p.length npc, .slice nc n.c.length ncc, .int .i64 n.a] 41)) := hw0
  have hB0 : Below w.heap.size w w0 := by rw [hw0]; exact below_alloc _ _
  have HB0 : Hid (Below w.heap.size w w0) := hB0
  obtain ⟨N0, hN0⟩ : ∃ N0, N0 = w.heap.size := ⟨_, rfl⟩
  have HN0 := hidH hN0
  have HBK : Hid (w0.heap[N0]? = some (.cells #[.int .i64 n.b, .slice np n.p.length npc, .slice nc n.c.length ncc, .int .i64 n.a] 41 (0, 0))) := by show _ = _; rw [hw0, hN0]; exact alloc_at rfl
  have HM : Hid (RM K w0 jb (.slice po J.n.p.length pc) (.slice co J.n.c.length cc) (.pointer (some ⟨sb, 0, none⟩)) q J) := hj.below hB0
  have HD : Hid (Dsk DR D w0 (.pointer (some ⟨sb, 0, none⟩)) S) := hd.below hB0
  have HR : Hid (RJS D K w0 (.pointer (some ⟨jb, 0, none⟩)) (.pointer (some ⟨sb, 0, none⟩)) q J S) := HJS.out.below hB0
  have HP : Hid (Nv w0 (.slice np n.p.length npc) n.p) := hp.below hB0
  have HC : Hid (Nv w0 (.slice nc n.c.length ncc) n.c) := hc.below hB0
  have HJB : Hid (jb < w.heap.size) := blk_lt hj.head
  have HNJ : Hid (¬ N0 = jb) := by have := blk_lt hj.head; show ¬ _; omega
  have c0 : w0.cell? ⟨jb, 0, none⟩ = some (.pointer (some ⟨sb, 0, none⟩)) := by rw [HM.out.cell]; rfl
  have c8 : w0.cell? ⟨jb, 8, none⟩ = some (.bool J.o) := by rw [HM.out.cell]; rfl
  have z8 : w0.frozen? ⟨jb, 8, none⟩ = false := HM.out.soft 8
  have HNB : Hid (∀ x, D x → x < w.heap.size) := fun x hx => hd.lt hx
  clear hd hj hap hp hc hwr hw0 hB0 hN0
  by_cases hdo : J.o = true ∨ S.down = true
  · have hI : savI J S q n = 80 := by unfold savI; rw [if_pos hdo]
    have hJ : rsvJ J S q n = { J with o := true } := by unfold rsvJ; rw [if_pos hdo]
    have hS : savS J S q n = S := by unfold savS; rw [if_pos hdo]
    cases hdn : S.down with
    | true =>
      have HA : Hid (RvGot D K (.pointer (some ⟨jb, 0, none⟩)) (.pointer (some ⟨sb, 0, none⟩)) q J S n w (.returned (.int .i64 80)) (w0.setCell ⟨jb, 8, none⟩ (.bool true))) := rv_over HM.out HD.out HAP.out (fun x hx => .inl hx) (Ch.of_below HB0.out) hI hJ hS
      have HDN : Hid (S.down = true) := hdn
      clear hI hJ hS hdn hdo
      go_enter Try.func12, Try.ntmps12
      go_upto_region 3 with fail
      rw [← HW0.out, ← HN0.out]
      go_wp2_with fail
      refine (rdown_walk HD.out).mono ?_
      rintro e w9 ⟨rfl, h9⟩
      replace h9 := h9.symm
      subst h9
      rw [HDN.out]
      go_wp2_with fail
      go_ret
      exact HA.out
    | false =>
      have hjo : J.o = true := by rcases hdo with h | h; exact h; rw [hdn] at h; cases h
      have HA : Hid (RvGot D K (.pointer (some ⟨jb, 0, none⟩)) (.pointer (some ⟨sb, 0, none⟩)) q J S n w (.returned (.int .i64 80)) w0) := rv_same HJS.out hI (by rw [hJ]; obtain ⟨g, n', h', o'⟩ := J; simp only at hjo; subst hjo; rfl) hS HB0.out
      have HDN : Hid (S.down = false) := hdn
      rw [hjo] at c8
      clear hI hJ hS hdn hdo hjo
      go_enter Try.func12, Try.ntmps12
      go_upto_region 3 with fail
      rw [← HW0.out, ← HN0.out]
      go_wp2_with fail
      refine (rdown_walk HD.out).mono ?_
      rintro e w9 ⟨rfl, h9⟩
      replace h9 := h9.symm
      subst h9
      rw [HDN.out]
      go_wp2_with fail
      go_ret
      exact HA.out
  have hjo : J.o = false := by cases h : J.o; rfl; exact absurd (.inl h) hdo
  have HJO : Hid (J.o = false) := hjo
  have HDN : Hid (S.down = false) := by show _ = _; cases h : S.down; rfl; exact absurd (.inr h) hdo
  have HNO : Hid (¬ (J.o = true ∨ S.down = true)) := hdo
  rw [hjo] at c8
  clear hdo hjo
  have b0 : ∀ wx, Below w0.heap.size w0 wx → wx.cell? ⟨N0, 0, none⟩ = some (.int .i64 n.b) := fun wx h => by rw [blk_cell (blk_below HBK.out h)]; rfl
  have b1 : ∀ wx, Below w0.heap.size w0 wx → wx.cell? ⟨N0, 1, none⟩ = some (.slice np n.p.length npc) := fun wx h => by rw [blk_cell (blk_below HBK.out h)]; rfl
  have b2 : ∀ wx, Below w0.heap.size w0 wx → wx.cell? ⟨N0, 2, none⟩ = some (.slice nc n.c.length ncc) := fun wx h => by rw [blk_cell (blk_below HBK.out h)]; rfl
  have b3 : ∀ wx, Below w0.heap.size w0 wx → wx.cell? ⟨N0, 3, none⟩ = some (.int .i64 n.a) := fun wx h => by rw [blk_cell (blk_below HBK.out h)]; rfl
  have d1 : ∀ wx, Below w0.heap.size w0 wx → wx.cell? ⟨jb, 1, none⟩ = some (.int .i64 q) := fun wx h => by rw [(HM.out.below h).cell]; rfl
  cases hrg : rgtB n q with
  | false =>
    have HRG : Hid (rgtB n q = false) := hrg
    have HA : Hid (∀ wx, Below w.heap.size w wx → RvGot D K (.pointer (some ⟨jb, 0, none⟩)) (.pointer (some ⟨sb, 0, none⟩)) q J S n w (.returned (.int .i64 1)) wx) := fun wx hb => rv_same HJS.out (by unfold savI; rw [if_neg HNO.out, if_pos hrg]) (by unfold rsvJ; rw [if_neg HNO.out, if_pos hrg]) (by unfold savS; rw [if_neg HNO.out, if_pos hrg]) hb
    clear hrg
    go_enter Try.func12, Try.ntmps12
    go_upto_region 3 with fail
    rw [← HW0.out, ← HN0.out]
    go_wp2_with fail
    refine (rdown_walk HD.out).mono ?_
    rintro e w9 ⟨rfl, h9⟩
    replace h9 := h9.symm
    subst h9
    rw [HDN.out]
    go_upto_region 7 with fail
    refine wp_region_noPanic ?_
    refine wp_region_held_drew (S := (fun wx => Below w0.heap.size w0 wx)) (by kernel_rfl) ?_ (fun hHeld => ?_)
    · exact (below_drewN w0 1)
    refine wpAnyH_take (i := 0) (oi := ⟨some 20, _, _, _, _, _⟩) (v := ?_) rfl (by kernel_rfl) (by kernel_rfl) (by kernel_rfl) (fun _ _ _ h => h) (Or.inl ⟨by rfl, ?_⟩) hHeld ?_
    rotate_left
    · intro w hSw; (try dsimp only at hSw); go_simp; all_goals (with_reducible rfl)
    try simp only [Act.put, List.setIfInBounds_toArray, List.set_cons_zero, List.set_cons_succ]
    refine wpAnyH_take (i := 1) (oi := ⟨some 21, _, _, _, _, _⟩) (v := ?_) rfl (by kernel_rfl) (by kernel_rfl) (by kernel_rfl) (fun _ _ _ h => h) (Or.inl ⟨by rfl, ?_⟩) hHeld ?_
    rotate_left
    · intro w hSw; (try dsimp only at hSw); go_simp; all_goals (with_reducible rfl)
    try simp only [Act.put, List.setIfInBounds_toArray, List.set_cons_zero, List.set_cons_succ]
    refine wpAnyH_take (i := 2) (oi := ⟨some 22, _, _, _, _, _⟩) (v := ?_) rfl (by kernel_rfl) (by kernel_rfl) (by kernel_rfl) (fun _ _ _ h => h) (Or.inl ⟨by rfl, ?_⟩) hHeld ?_
    rotate_left
    · intro w hSw; (try dsimp only at hSw); go_simp; all_goals (with_reducible rfl)
    try simp only [Act.put, List.setIfInBounds_toArray, List.set_cons_zero, List.set_cons_succ]
    refine wpAnyH_take (i := 3) (oi := ⟨some 23, _, _, _, _, _⟩) (v := ?_) rfl (by kernel_rfl) (by kernel_rfl) (by kernel_rfl) (fun _ _ _ h => h) (Or.inl ⟨by rfl, ?_⟩) hHeld ?_
    rotate_left
    · intro w hSw; (try dsimp only at hSw); go_simp; all_goals (with_reducible rfl)
    try simp only [Act.put, List.setIfInBounds_toArray, List.set_cons_zero, List.set_cons_succ]
    refine wpAnyH_take (i := 4) (oi := ⟨some 24, _, _, _, _, _⟩) (v := ?_) rfl (by kernel_rfl) (by kernel_rfl) (by kernel_rfl) (fun _ _ _ h => h) (Or.inl ⟨by rfl, ?_⟩) hHeld ?_
    rotate_left
    · intro w hSw; (try dsimp only at hSw); go_simp; all_goals (with_reducible rfl)
    try simp only [Act.put, List.setIfInBounds_toArray, List.set_cons_zero, List.set_cons_succ]
    refine wpAnyH_ready (rs := [5]) (by kernel_rfl) (by simp) ?_
    refine AllReadyH.cons (o := ⟨some 25, _, _, _, _, _⟩) rfl (fun K hK => ?_) AllReadyH.nil
    go_simp
    refine (rgt_walk (n := n) (HP.out.below hHeld) (HC.out.below hHeld)).mono ?_
    rw [HRG.out]
    rintro e w1 ⟨rfl, hB1⟩
    have HB1 : Hid (Below w0.heap.size w0 w1) := below_trans hHeld hB1
    clear hB1
    refine hK.out _ _ ?_ (fun hHeld => ?_)
    · exact HB1.out
    clear hK K
    try simp only [Act.put, List.setIfInBounds_toArray, List.set_cons_zero, List.set_cons_succ]
    refine wpAnyH_take (i := 6) (oi := ⟨some 26, _, _, _, _, _⟩) (v := ?_) rfl (by kernel_rfl) (by kernel_rfl) (by kernel_rfl) (fun _ _ _ h => h) (Or.inl ⟨by rfl, ?_⟩) hHeld ?_
    rotate_left
    · intro w hSw; (try dsimp only at hSw); go_simp; all_goals (with_reducible rfl)
    try simp only [Act.put, List.setIfInBounds_toArray, List.set_cons_zero, List.set_cons_succ]
    refine wpAnyH_done (by kernel_rfl) ?_ _
    refine NoPanic.normal ?_
    go_wp2_with fail
    go_ret
    exact HA.out _ (below_trans HB0.out HB1.out)
  | true =>
    have HRG : Hid (rgtB n q = true) := hrg
    clear hrg
    go_enter Try.func12, Try.ntmps12
    go_upto_region 3 with fail
    rw [← HW0.out, ← HN0.out]
    go_wp2_with fail
    refine (rdown_walk HD.out).mono ?_
    rintro e w9 ⟨rfl, h9⟩
    replace h9 := h9.symm
    subst h9
    rw [HDN.out]
    go_upto_region 7 with fail
    refine wp_region_noPanic ?_
    refine wp_region_held_drew (S := (fun wx => Below w0.heap.size w0 wx)) (by kernel_rfl) ?_ (fun hHeld => ?_)
    · exact (below_drewN w0 1)
    refine wpAnyH_take (i := 0) (oi := ⟨some 20, _, _, _, _, _⟩) (v := ?_) rfl (by kernel_rfl) (by kernel_rfl) (by kernel_rfl) (fun _ _ _ h => h) (Or.inl ⟨by rfl, ?_⟩) hHeld ?_
    rotate_left
    · intro w hSw; (try dsimp only at hSw); go_simp; all_goals (with_reducible rfl)
    try simp only [Act.put, List.setIfInBounds_toArray, List.set_cons_zero, List.set_cons_succ]
    refine wpAnyH_take (i := 1) (oi := ⟨some 21, _, _, _, _, _⟩) (v := ?_) rfl (by kernel_rfl) (by kernel_rfl) (by kernel_rfl) (fun _ _ _ h => h) (Or.inl ⟨by rfl, ?_⟩) hHeld ?_
    rotate_left
    · intro w hSw; (try dsimp only at hSw); go_simp; all_goals (with_reducible rfl)
    try simp only [Act.put, List.setIfInBounds_toArray, List.set_cons_zero, List.set_cons_succ]
    refine wpAnyH_take (i := 2) (oi := ⟨some 22, _, _, _, _, _⟩) (v := ?_) rfl (by kernel_rfl) (by kernel_rfl) (by kernel_rfl) (fun _ _ _ h => h) (Or.inl ⟨by rfl, ?_⟩) hHeld ?_
    rotate_left
    · intro w hSw; (try dsimp only at hSw); go_simp; all_goals (with_reducible rfl)
    try simp only [Act.put, List.setIfInBounds_toArray, List.set_cons_zero, List.set_cons_succ]
    refine wpAnyH_take (i := 3) (oi := ⟨some 23, _, _, _, _, _⟩) (v := ?_) rfl (by kernel_rfl) (by kernel_rfl) (by kernel_rfl) (fun _ _ _ h => h) (Or.inl ⟨by rfl, ?_⟩) hHeld ?_
    rotate_left
    · intro w hSw; (try dsimp only at hSw); go_simp; all_goals (with_reducible rfl)
    try simp only [Act.put, List.setIfInBounds_toArray, List.set_cons_zero, List.set_cons_succ]
    refine wpAnyH_take (i := 4) (oi := ⟨some 24, _, _, _, _, _⟩) (v := ?_) rfl (by kernel_rfl) (by kernel_rfl) (by kernel_rfl) (fun _ _ _ h => h) (Or.inl ⟨by rfl, ?_⟩) hHeld ?_
    rotate_left
    · intro w hSw; (try dsimp only at hSw); go_simp; all_goals (with_reducible rfl)
    try simp only [Act.put, List.setIfInBounds_toArray, List.set_cons_zero, List.set_cons_succ]
    refine wpAnyH_ready (rs := [5]) (by kernel_rfl) (by simp) ?_
    refine AllReadyH.cons (o := ⟨some 25, _, _, _, _, _⟩) rfl (fun K hK => ?_) AllReadyH.nil
    go_simp
    refine (rgt_walk (n := n) (HP.out.below hHeld) (HC.out.below hHeld)).mono ?_
    rw [HRG.out]
    rintro e w1 ⟨rfl, hB1⟩
    have HB1 : Hid (Below w0.heap.size w0 w1) := below_trans hHeld hB1
    clear hB1
    refine hK.out _ _ ?_ (fun hHeld => ?_)
    · exact HB1.out
    clear hK K
    try simp only [Act.put, List.setIfInBounds_toArray, List.set_cons_zero, List.set_cons_succ]
    refine wpAnyH_take (i := 6) (oi := ⟨some 26, _, _, _, _, _⟩) (v := ?_) rfl (by kernel_rfl) (by kernel_rfl) (by kernel_rfl) (fun _ _ _ h => h) (Or.inl ⟨by rfl, ?_⟩) hHeld ?_
    rotate_left
    · intro w hSw; (try dsimp only at hSw); go_simp; all_goals (with_reducible rfl)
    try simp only [Act.put, List.setIfInBounds_toArray, List.set_cons_zero, List.set_cons_succ]
    refine wpAnyH_done (by kernel_rfl) ?_ _
    refine NoPanic.normal ?_
    have HRT : Hid (Rgt n q) := Rgt.of HRG.out
    have e0 := b0 _ HB1.out
    have e1 := b1 _ HB1.out
    have e2 := b2 _ HB1.out
    have e3 := b3 _ HB1.out
    clear b0 b1 b2 b3 d1 c0 c8 z8
    have HR1 : Hid (RJS D K w1 (.pointer (some ⟨jb, 0, none⟩)) (.pointer (some ⟨sb, 0, none⟩)) q J S) := HR.out.below HB1.out
    go_wp2_with fail
    refine (rfol_walk (n := n) HR1.out.j (HP.out.below HB1.out) (HC.out.below HB1.out)).mono ?_
    rintro e w2 ⟨rfl, hB2⟩
    have HB2 : Hid (Below w0.heap.size w0 w2) := below_trans HB1.out hB2
    have HM2 : Hid (RM K w2 jb (.slice po J.n.p.length pc) (.slice co J.n.c.length cc) (.pointer (some ⟨sb, 0, none⟩)) q J) := HM.out.below HB2.out
    have hNR : ¬ rgtB n q = false := by rw [HRG.out]; simp
    cases hfl : folB n J.n with
    | false =>
      have HA : Hid (RvGot D K (.pointer (some ⟨jb, 0, none⟩)) (.pointer (some ⟨sb, 0, none⟩)) q J S n w (.returned (.int .i64 7)) w2) := rv_same HJS.out (by unfold savI; rw [if_neg HNO.out, if_neg hNR, if_pos hfl]) (by unfold rsvJ; rw [if_neg HNO.out, if_neg hNR, if_pos hfl]) (by unfold savS; rw [if_neg HNO.out, if_neg hNR, if_pos hfl]) (below_trans HB0.out HB2.out)
      clear hB2 hfl hNR e0 e1 e2 e3
      go_wp2_with fail
      go_ret
      exact HA.out
    | true =>
      have hNF : ¬ folB n J.n = false := by rw [hfl]; simp
      have HNN : Hid (¬ rgtB n q = false ∧ ¬ folB n J.n = false) := ⟨hNR, hNF⟩
      have g6 : w2.cell? ⟨jb, 6, none⟩ = some (.int .i64 J.g) := by rw [HM2.out.cell]; rfl
      clear e0 e1 e2 e3 hfl hNR hNF
      by_cases hg : J.g = 1099511627776
      · have HA : Hid (RvGot D K (.pointer (some ⟨jb, 0, none⟩)) (.pointer (some ⟨sb, 0, none⟩)) q J S n w (.returned (.int .i64 92)) w2) := rv_same HJS.out (by unfold savI; rw [if_neg HNO.out, if_neg HNN.out.1, if_neg HNN.out.2, if_pos hg]) (by unfold rsvJ; rw [if_neg HNO.out, if_neg HNN.out.1, if_neg HNN.out.2, if_pos hg]) (by unfold savS; rw [if_neg HNO.out, if_neg HNN.out.1, if_neg HNN.out.2, if_pos hg]) (below_trans HB0.out HB2.out)
        have hgd : decide ((1099511627776 : Int) ≤ (J.g : Int)) = true := by rw [decide_eq_true_iff]; omega
        clear hB2 hg
        go_wp2_with fail
        go_ret
        exact HA.out
      · have HNG : Hid (¬ J.g = 1099511627776) := hg
        have HGL : Hid (J.g < 1099511627776) := by have := HM2.out.ok.g2; show _ < _; omega
        have hgd : decide ((1099511627776 : Int) ≤ (J.g : Int)) = false := by rw [decide_eq_false_iff_not]; have := HGL.out; omega
        clear hg
        go_upto_region 13 with fail
        clear g6 hgd
        have HBK2 : Hid (w2.heap[N0]? = some (.cells #[.int .i64 n.b, .slice np n.p.length npc, .slice nc n.c.length ncc, .int .i64 n.a] 41 (0, 0))) := blk_below HBK.out HB2.out
        have hw1 : IntKind.i64.wrap ((1 : Int) - (J.h : Int)) = (1 : Int) - (J.h : Int) := by have := HM2.out.ok.h1; rw [IntKind.wrap_i64]; omega
        have hw2 : IntKind.i64.wrap ((J.g : Int) + 1) = (J.g : Int) + 1 := by have := HGL.out; rw [IntKind.wrap_i64]; omega
        have k0 : ∀ wx : World, (wx.heap[jb]? = some (.cells (rC J q (.slice po J.n.p.length pc) (.slice co J.n.c.length cc) (.pointer (some ⟨sb, 0, none⟩))) 75 (0, 0)) ∧ wx.heap[N0]? = some (.cells #[.int .i64 n.b, .slice np n.p.length npc, .slice nc n.c.length ncc, .int .i64 n.a] 41 (0, 0))) → wx.cell? ⟨jb, 0, none⟩ = some (.pointer (some ⟨sb, 0, none⟩)) := fun wx h => by rw [blk_cell h.1]; rfl
        have k6 : ∀ wx : World, (wx.heap[jb]? = some (.cells (rC J q (.slice po J.n.p.length pc) (.slice co J.n.c.length cc) (.pointer (some ⟨sb, 0, none⟩))) 75 (0, 0)) ∧ wx.heap[N0]? = some (.cells #[.int .i64 n.b, .slice np n.p.length npc, .slice nc n.c.length ncc, .int .i64 n.a] 41 (0, 0))) → wx.cell? ⟨jb, 6, none⟩ = some (.int .i64 J.g) := fun wx h => by rw [blk_cell h.1]; rfl
        have k7 : ∀ wx : World, (wx.heap[jb]? = some (.cells (rC J q (.slice po J.n.p.length pc) (.slice co J.n.c.length cc) (.pointer (some ⟨sb, 0, none⟩))) 75 (0, 0)) ∧ wx.heap[N0]? = some (.cells #[.int .i64 n.b, .slice np n.p.length npc, .slice nc n.c.length ncc, .int .i64 n.a] 41 (0, 0))) → wx.cell? ⟨jb, 7, none⟩ = some (.int .i64 J.h) := fun wx h => by rw [blk_cell h.1]; rfl
        have m0 : ∀ wx : World, (wx.heap[jb]? = some (.cells (rC J q (.slice po J.n.p.length pc) (.slice co J.n.c.length cc) (.pointer (some ⟨sb, 0, none⟩))) 75 (0, 0)) ∧ wx.heap[N0]? = some (.cells #[.int .i64 n.b, .slice np n.p.length npc, .slice nc n.c.length ncc, .int .i64 n.a] 41 (0, 0))) → wx.cell? ⟨N0, 0, none⟩ = some (.int .i64 n.b) := fun wx h => by rw [blk_cell h.2]; rfl
        have m1 : ∀ wx : World, (wx.heap[jb]? = some (.cells (rC J q (.slice po J.n.p.length pc) (.slice co J.n.c.length cc) (.pointer (some ⟨sb, 0, none⟩))) 75 (0, 0)) ∧ wx.heap[N0]? = some (.cells #[.int .i64 n.b, .slice np n.p.length npc, .slice nc n.c.length ncc, .int .i64 n.a] 41 (0, 0))) → wx.cell? ⟨N0, 1, none⟩ = some (.slice np n.p.length npc) := fun wx h => by rw [blk_cell h.2]; rfl
        have m2 : ∀ wx : World, (wx.heap[jb]? = some (.cells (rC J q (.slice po J.n.p.length pc) (.slice co J.n.c.length cc) (.pointer (some ⟨sb, 0, none⟩))) 75 (0, 0)) ∧ wx.heap[N0]? = some (.cells #[.int .i64 n.b, .slice np n.p.length npc, .slice nc n.c.length ncc, .int .i64 n.a] 41 (0, 0))) → wx.cell? ⟨N0, 2, none⟩ = some (.slice nc n.c.length ncc) := fun wx h => by rw [blk_cell h.2]; rfl
        have m3 : ∀ wx : World, (wx.heap[jb]? = some (.cells (rC J q (.slice po J.n.p.length pc) (.slice co J.n.c.length cc) (.pointer (some ⟨sb, 0, none⟩))) 75 (0, 0)) ∧ wx.heap[N0]? = some (.cells #[.int .i64 n.b, .slice np n.p.length npc, .slice nc n.c.length ncc, .int .i64 n.a] 41 (0, 0))) → wx.cell? ⟨N0, 3, none⟩ = some (.int .i64 n.a) := fun wx h => by rw [blk_cell h.2]; rfl
        refine wp_region_noPanic ?_
        refine wp_region_held_drew (S := (fun wx : World => wx.heap[jb]? = some (.cells (rC J q (.slice po J.n.p.length pc) (.slice co J.n.c.length cc) (.pointer (some ⟨sb, 0, none⟩))) 75 (0, 0)) ∧ wx.heap[N0]? = some (.cells #[.int .i64 n.b, .slice np n.p.length npc, .slice nc n.c.length ncc, .int .i64 n.a] 41 (0, 0)))) (by kernel_rfl) ?_ (fun hHeld => ?_)
        · exact ⟨(HM2.out.below (below_drewN w2 1)).head, blk_below HBK2.out (below_drewN w2 1)⟩
        refine wpAnyH_take (i := 0) (oi := ⟨some 36, _, _, _, _, _⟩) (v := ?_) rfl (by kernel_rfl) (by kernel_rfl) (by kernel_rfl) (fun _ _ _ h => h) (Or.inl ⟨by rfl, ?_⟩) hHeld ?_
        rotate_left
        · intro w hSw; (try dsimp only at hSw); go_simp; all_goals (with_reducible rfl)
        try simp only [Act.put, List.setIfInBounds_toArray, List.set_cons_zero, List.set_cons_succ]
        refine wpAnyH_take (i := 1) (oi := ⟨some 37, _, _, _, _, _⟩) (v := ?_) rfl (by kernel_rfl) (by kernel_rfl) (by kernel_rfl) (fun _ _ _ h => h) (Or.inl ⟨by rfl, ?_⟩) hHeld ?_
        rotate_left
        · intro w hSw; (try dsimp only at hSw); go_simp; all_goals (with_reducible rfl)
        try simp only [Act.put, List.setIfInBounds_toArray, List.set_cons_zero, List.set_cons_succ]
        refine wpAnyH_take (i := 2) (oi := ⟨some 38, _, _, _, _, _⟩) (v := ?_) rfl (by kernel_rfl) (by kernel_rfl) (by kernel_rfl) (fun _ _ _ h => h) (Or.inl ⟨by rfl, ?_⟩) hHeld ?_
        rotate_left
        · intro w hSw; (try dsimp only at hSw); go_simp; all_goals (with_reducible rfl)
        try simp only [Act.put, List.setIfInBounds_toArray, List.set_cons_zero, List.set_cons_succ]
        refine wpAnyH_take (i := 3) (oi := ⟨some 39, _, _, _, _, _⟩) (v := ?_) rfl (by kernel_rfl) (by kernel_rfl) (by kernel_rfl) (fun _ _ _ h => h) (Or.inl ⟨by rfl, ?_⟩) hHeld ?_
        rotate_left
        · intro w hSw; (try dsimp only at hSw); go_simp; all_goals (with_reducible rfl)
        try simp only [Act.put, List.setIfInBounds_toArray, List.set_cons_zero, List.set_cons_succ]
        refine wpAnyH_take (i := 4) (oi := ⟨some 40, _, _, _, _, _⟩) (v := ?_) rfl (by kernel_rfl) (by kernel_rfl) (by kernel_rfl) (fun _ _ _ h => h) (Or.inl ⟨by rfl, ?_⟩) hHeld ?_
        rotate_left
        · intro w hSw; (try dsimp only at hSw); go_simp; all_goals (with_reducible rfl)
        try simp only [Act.put, List.setIfInBounds_toArray, List.set_cons_zero, List.set_cons_succ]
        refine wpAnyH_take (i := 5) (oi := ⟨some 41, _, _, _, _, _⟩) (v := ?_) rfl (by kernel_rfl) (by kernel_rfl) (by kernel_rfl) (fun _ _ _ h => h) (Or.inl ⟨by rfl, ?_⟩) hHeld ?_
        rotate_left
        · intro w hSw; (try dsimp only at hSw); go_simp; all_goals (with_reducible rfl)
        try simp only [Act.put, List.setIfInBounds_toArray, List.set_cons_zero, List.set_cons_succ]
        refine wpAnyH_take (i := 6) (oi := ⟨some 42, _, _, _, _, _⟩) (v := ?_) rfl (by kernel_rfl) (by kernel_rfl) (by kernel_rfl) (fun _ _ _ h => h) (Or.inl ⟨by rfl, ?_⟩) hHeld ?_
        rotate_left
        · intro w hSw; (try dsimp only at hSw); go_simp; all_goals (with_reducible rfl)
        try simp only [Act.put, List.setIfInBounds_toArray, List.set_cons_zero, List.set_cons_succ]
        refine wpAnyH_take (i := 7) (oi := ⟨some 43, _, _, _, _, _⟩) (v := ?_) rfl (by kernel_rfl) (by kernel_rfl) (by kernel_rfl) (fun _ _ _ h => h) (Or.inl ⟨by rfl, ?_⟩) hHeld ?_
        rotate_left
        · intro w hSw; (try dsimp only at hSw); go_simp; all_goals (with_reducible rfl)
        try simp only [Act.put, List.setIfInBounds_toArray, List.set_cons_zero, List.set_cons_succ]
        refine wpAnyH_take (i := 8) (oi := ⟨some 44, _, _, _, _, _⟩) (v := ?_) rfl (by kernel_rfl) (by kernel_rfl) (by kernel_rfl) (fun _ _ _ h => h) (Or.inl ⟨by rfl, ?_⟩) hHeld ?_
        rotate_left
        · intro w hSw; (try dsimp only at hSw); go_simp; all_goals (with_reducible rfl)
        try simp only [Act.put, List.setIfInBounds_toArray, List.set_cons_zero, List.set_cons_succ]
        refine wpAnyH_take (i := 9) (oi := ⟨some 45, _, _, _, _, _⟩) (v := ?_) rfl (by kernel_rfl) (by kernel_rfl) (by kernel_rfl) (fun _ _ _ h => h) (Or.inl ⟨by rfl, ?_⟩) hHeld ?_
        rotate_left
        · intro w hSw; (try dsimp only at hSw); go_simp; all_goals (with_reducible rfl)
        try simp only [Act.put, List.setIfInBounds_toArray, List.set_cons_zero, List.set_cons_succ]
        refine wpAnyH_take (i := 10) (oi := ⟨some 46, _, _, _, _, _⟩) (v := ?_) rfl (by kernel_rfl) (by kernel_rfl) (by kernel_rfl) (fun _ _ _ h => h) (Or.inl ⟨by rfl, ?_⟩) hHeld ?_
        rotate_left
        · intro w hSw; (try dsimp only at hSw); go_simp; all_goals (with_reducible rfl)
        try simp only [Act.put, List.setIfInBounds_toArray, List.set_cons_zero, List.set_cons_succ]
        refine wpAnyH_take (i := 11) (oi := ⟨some 47, _, _, _, _, _⟩) (v := ?_) rfl (by kernel_rfl) (by kernel_rfl) (by kernel_rfl) (fun _ _ _ h => h) (Or.inl ⟨by rfl, ?_⟩) hHeld ?_
        rotate_left
        · intro w hSw; (try dsimp only at hSw); go_simp; all_goals (with_reducible rfl)
        try simp only [Act.put, List.setIfInBounds_toArray, List.set_cons_zero, List.set_cons_succ]
        refine wpAnyH_take (i := 12) (oi := ⟨some 48, _, _, _, _, _⟩) (v := ?_) rfl (by kernel_rfl) (by kernel_rfl) (by kernel_rfl) (fun _ _ _ h => h) (Or.inl ⟨by rfl, ?_⟩) hHeld ?_
        rotate_left
        · intro w hSw; (try dsimp only at hSw); go_simp; all_goals (with_reducible rfl)
        try simp only [Act.put, List.setIfInBounds_toArray, List.set_cons_zero, List.set_cons_succ]
        refine wpAnyH_take (i := 13) (oi := ⟨some 49, _, _, _, _, _⟩) (v := ?_) rfl (by kernel_rfl) (by kernel_rfl) (by kernel_rfl) (fun _ _ _ h => h) (Or.inl ⟨by rfl, ?_⟩) hHeld ?_
        rotate_left
        · intro w hSw; (try dsimp only at hSw); go_simp; all_goals (with_reducible rfl)
        try simp only [Act.put, List.setIfInBounds_toArray, List.set_cons_zero, List.set_cons_succ]
        refine wpAnyH_take (i := 14) (oi := ⟨some 50, _, _, _, _, _⟩) (v := ?_) rfl (by kernel_rfl) (by kernel_rfl) (by kernel_rfl) (fun _ _ _ h => h) (Or.inl ⟨by rfl, ?_⟩) hHeld ?_
        rotate_left
        · intro w hSw; (try dsimp only at hSw); go_simp; all_goals (with_reducible rfl)
        try simp only [Act.put, List.setIfInBounds_toArray, List.set_cons_zero, List.set_cons_succ]
        refine wpAnyH_ready (rs := [15]) (by kernel_rfl) (by simp) ?_
        refine AllReadyH.cons (o := ⟨some 51, _, _, _, _, _⟩) rfl (fun K hK => ?_) AllReadyH.nil
        go_simp
        refine (show Calls Try.prog 42 #[.int .i64 ((J.g : Int) + 1), .agg #[.int .i64 n.b, .slice np n.p.length npc, .slice nc n.c.length ncc, .int .i64 n.a]] w2.drew (ByGot (J.g + 1) n w2.drew) from by have h := rbytes_walk (g := J.g + 1) (q := q) (n := n) (w := w2.drew) ((HP.out.below HB2.out).below (below_drewN w2 1)) ((HC.out.below HB2.out).below (below_drewN w2 1)) (by have := HGL.out; omega) HRT.out HM2.out.ok.q4; simpa using h).mono ?_
        rintro e w3 ⟨by3, rfl, hby, hB3⟩
        have HB3 : Hid (Below w0.heap.size w0 w3) := below_trans HB2.out (below_trans (below_drewN w2 1) hB3)
        have HBV : Hid (Bv w3 by3 (bytN (J.g + 1) n)) := own_bv hby (bytN_lt (by have := HGL.out; omega) HRT.out HM2.out.ok.q4)
        clear hby hB3
        refine hK.out _ _ ?_ (fun hHeld => ?_)
        · exact ⟨(HM.out.below HB3.out).head, blk_below HBK.out HB3.out⟩
        clear hK K
        try simp only [Act.put, List.setIfInBounds_toArray, List.set_cons_zero, List.set_cons_succ]
        refine wpAnyH_ready (rs := [16]) (by kernel_rfl) (by simp) ?_
        refine AllReadyH.cons (o := ⟨some 52, _, _, _, _, _⟩) rfl (fun K hK => ?_) AllReadyH.nil
        go_simp
        refine (show Calls Try.prog 41 #[.pointer (some ⟨sb, 0, none⟩), .int .i64 ((1 : Int) - (J.h : Int)), by3] w3 _ from rwrite_walk (HD.out.below HB3.out) ((1 : Int) - (J.h : Int)) HBV.out (by have := HWR.out; omega)).mono ?_
        rintro e w4 ⟨rfl, ⟨D4, hd4, hdd⟩, hC4⟩
        obtain ⟨sw, hsw⟩ : ∃ sw, sw = savW J S n := ⟨_, rfl⟩
        have HSW := hidH hsw
        rw [show writeI S ((1 : Int) - (J.h : Int)) (bytN (J.g + 1) n) = sw from hsw.symm]
        have HD4 : Hid (Dsk DR D4 w4 (.pointer (some ⟨sb, 0, none⟩)) (writeS S ((1 : Int) - (J.h : Int)) (savB J n))) := hd4
        have HD4D : Hid (∀ x, D4 x → D x ∨ w3.heap.size ≤ x) := hdd
        have HC34 : Hid (Ch D w3 w4) := hC4
        have hj3 := (HM.out.below HB3.out).head
        have hj4 := (hC4.block jb (blk_lt hj3) HJD.out).trans hj3
        have hn3 := blk_below HBK.out HB3.out
        have hn4 := (hC4.block N0 (blk_lt hn3) (fun e => by have h1 := HNB.out _ e; have h2 := HN0.out; omega)).trans hn3
        have HJ4 := hidH hj4
        have HN4 := hidH hn4
        clear hd4 hdd hC4 hj3 hj4 hn3 hn4 hsw
        refine hK.out _ _ ?_ (fun hHeld => ?_)
        · exact ⟨HJ4.out, HN4.out⟩
        clear hK K
        try simp only [Act.put, List.setIfInBounds_toArray, List.set_cons_zero, List.set_cons_succ]
        refine wpAnyH_take (i := 17) (oi := ⟨some 5, _, _, _, _, _⟩) (v := ?_) rfl (by kernel_rfl) (by kernel_rfl) (by kernel_rfl) (fun _ _ _ h => h) (Or.inl ⟨by rfl, ?_⟩) hHeld ?_
        rotate_left
        · intro w hSw; (try dsimp only at hSw); go_simp; all_goals (with_reducible rfl)
        try simp only [Act.put, List.setIfInBounds_toArray, List.set_cons_zero, List.set_cons_succ]
        refine wpAnyH_done (by kernel_rfl) ?_ _
        refine NoPanic.normal ?_
        have HDD : Hid (∀ x, D4 x → D x ∨ w.heap.size ≤ x) := fun x hx => (HD4D.out x hx).imp id (fun h => Nat.le_trans HB0.out.size (Nat.le_trans HB3.out.size h))
        have HAP4 : Hid (∀ x, K x → ¬ D4 x) := fun x hx e => by
          rcases HD4D.out x e with h | h
          · exact HAP.out x hx h
          · have h1 := HM.out.kl x hx; have h2 := HB3.out.size; omega
        have HC4w : Hid (Ch (fun x => D x ∨ K x) w w4) := (Ch.of_below (below_trans HB0.out HB3.out)).trans HC34.out (fun x hx => .inl (.inl hx))
        have HM3 := hidH (HM.out.below HB3.out)
        have HS4 : Hid (RM K w4 jb (.slice po J.n.p.length pc) (.slice co J.n.c.length cc) (.pointer (some ⟨sb, 0, none⟩)) q J ∧ w4.heap[N0]? = some (.cells #[.int .i64 n.b, .slice np n.p.length npc, .slice nc n.c.length ncc, .int .i64 n.a] 41 (0, 0))) := ⟨HM3.out.keep (fun x hx => HC34.out.block x (HM3.out.kl x hx) (HAP.out x hx)) HC34.out.size, HN4.out⟩
        have HP4 : Hid (Nv w4 (.slice np n.p.length npc) n.p) := nv_chD (HP.out.below HB3.out) HC34.out HPD.out
        have HC4 : Hid (Nv w4 (.slice nc n.c.length ncc) n.c) := nv_chD (HC.out.below HB3.out) HC34.out HCD.out
        clear k0 k6 k7 m0 m1 m2 m3 hw1 hw2
        have HM4 : Hid (RM K w4 jb (.slice po J.n.p.length pc) (.slice co J.n.c.length cc) (.pointer (some ⟨sb, 0, none⟩)) q J) := HS4.out.1
        have hblk := HS4.out.2
        by_cases hs0 : sw = 0
        · have hne : (sw != 0) = false := by rw [hs0]; rfl
          have n0 : w4.cell? ⟨N0, 0, none⟩ = some (.int .i64 n.b) := by rw [blk_cell hblk]; rfl
          have n1 : w4.cell? ⟨N0, 1, none⟩ = some (.slice np n.p.length npc) := by rw [blk_cell hblk]; rfl
          have n2 : w4.cell? ⟨N0, 2, none⟩ = some (.slice nc n.c.length ncc) := by rw [blk_cell hblk]; rfl
          have n3 : w4.cell? ⟨N0, 3, none⟩ = some (.int .i64 n.a) := by rw [blk_cell hblk]; rfl
          have HSW0 : Hid (savW J S n = 0) := HSW.out.symm.trans hs0
          clear hblk hs0
          go_wp2_with fail
          refine (rcopied_walk (n := n) HP4.out HC4.out (by have := HRT.out.lp; have := HM4.out.ok.q4; omega) (by have := HRT.out.lc; have := HM4.out.ok.q4; omega)).mono ?_
          rintro e w5 ⟨qa, qc, ra, rc, rfl, ho1, ho2, hB5⟩
          have HM5 : Hid (RM K w5 jb (.slice po J.n.p.length pc) (.slice co J.n.c.length cc) (.pointer (some ⟨sb, 0, none⟩)) q J) := HM4.out.below hB5
          have c2 : w5.cell? ⟨jb, 2, none⟩ = some (.int .i64 J.n.b) := by rw [HM5.out.cell]; rfl
          have z2 : w5.frozen? ⟨jb, 2, none⟩ = false := HM5.out.soft 2
          have c3 : w5.cell? ⟨jb, 3, none⟩ = some (.slice po J.n.p.length pc) := by rw [HM5.out.cell]; rfl
          have z3 : w5.frozen? ⟨jb, 3, none⟩ = false := HM5.out.soft 3
          have c4 : w5.cell? ⟨jb, 4, none⟩ = some (.slice co J.n.c.length cc) := by rw [HM5.out.cell]; rfl
          have z4 : w5.frozen? ⟨jb, 4, none⟩ = false := HM5.out.soft 4
          have c5 : w5.cell? ⟨jb, 5, none⟩ = some (.int .i64 J.n.a) := by rw [HM5.out.cell]; rfl
          have z5 : w5.frozen? ⟨jb, 5, none⟩ = false := HM5.out.soft 5
          have c6 : w5.cell? ⟨jb, 6, none⟩ = some (.int .i64 J.g) := by rw [HM5.out.cell]; rfl
          have z6 : w5.frozen? ⟨jb, 6, none⟩ = false := HM5.out.soft 6
          have c7 : w5.cell? ⟨jb, 7, none⟩ = some (.int .i64 J.h) := by rw [HM5.out.cell]; rfl
          have z7 : w5.frozen? ⟨jb, 7, none⟩ = false := HM5.out.soft 7
          have HZ : Hid (w.heap.size ≤ w4.heap.size) := HC4w.out.size
          have HA : Hid (RvGot D K (.pointer (some ⟨jb, 0, none⟩)) (.pointer (some ⟨sb, 0, none⟩)) q J S n w (.returned (.int .i64 0)) ((((((w5.setCell ⟨jb, 2, none⟩ (.int .i64 n.b)).setCell ⟨jb, 3, none⟩ (.slice qa n.p.length qc)).setCell ⟨jb, 4, none⟩ (.slice ra n.c.length rc)).setCell ⟨jb, 5, none⟩ (.int .i64 n.a)).setCell ⟨jb, 6, none⟩ (.int .i64 ((J.g : Int) + 1))).setCell ⟨jb, 7, none⟩ (.int .i64 (1 - (J.h : Int))))) := by
            refine rv_yes (D' := D4) HM5.out (HD4.out.below hB5) HAP4.out HDD.out (HC4w.out.trans (Ch.of_below (D := fun x => D x ∨ K x) hB5) (fun x hx => .inl hx)) ?_ ?_ ?_ HJO.out ?_ (own_base ho1 HZ.out) (own_base ho2 HZ.out) (fun x hx e => ?_) (fun x hx e => ?_) HJB.out
            · unfold savI; rw [if_neg HNO.out, if_neg HNN.out.1, if_neg HNN.out.2, if_neg HNG.out]; exact HSW0.out
            · unfold rsvJ; rw [if_neg HNO.out, if_neg HNN.out.1, if_neg HNN.out.2, if_neg HNG.out, if_pos HSW0.out]
            · unfold savS; rw [if_neg HNO.out, if_neg HNN.out.1, if_neg HNN.out.2, if_neg HNG.out]
            · exact ⟨by show 1 ≤ J.g + 1; omega, by show J.g + 1 ≤ _; have := HGL.out; omega, HRT.out, HM5.out.ok.q4, by show 1 - J.h ≤ 1; omega⟩
            · have h1 := (ho1.lt x hx).1; have h2 := HD4.out.lt e; omega
            · have h1 := (ho2.lt x hx).1; have h2 := HD4.out.lt e; omega
          have hw1 : IntKind.i64.wrap ((1 : Int) - (J.h : Int)) = (1 : Int) - (J.h : Int) := by have := HM5.out.ok.h1; rw [IntKind.wrap_i64]; omega
          have hw2 : IntKind.i64.wrap ((J.g : Int) + 1) = (J.g : Int) + 1 := by have := HGL.out; rw [IntKind.wrap_i64]; omega
          have hgl : (J.g : Int) < 1099511627776 := by have := HGL.out; omega
          have hhl : (J.h : Int) ≤ 1 := by have := HM5.out.ok.h1; omega
          clear n0 n1 n2 n3 ho1 ho2 hB5
          go_wp2_with fail
          go_ret
          exact HA.out
        · have hne : (sw != 0) = true := by rw [bne_iff_ne]; exact hs0
          have HSWN : Hid (¬ savW J S n = 0) := by show ¬ _; rw [← HSW.out]; exact hs0
          have HA : Hid (RvGot D K (.pointer (some ⟨jb, 0, none⟩)) (.pointer (some ⟨sb, 0, none⟩)) q J S n w (.returned (.int .i64 sw)) (w4.setCell ⟨jb, 8, none⟩ (.bool true))) := by
            refine rv_over (D' := D4) HM4.out HD4.out HAP4.out HDD.out HC4w.out ?_ ?_ ?_
            · unfold savI; rw [if_neg HNO.out, if_neg HNN.out.1, if_neg HNN.out.2, if_neg HNG.out]; exact HSW.out.symm
            · unfold rsvJ; rw [if_neg HNO.out, if_neg HNN.out.1, if_neg HNN.out.2, if_neg HNG.out, if_neg HSWN.out]
            · unfold savS; rw [if_neg HNO.out, if_neg HNN.out.1, if_neg HNN.out.2, if_neg HNG.out]
          have c8 : w4.cell? ⟨jb, 8, none⟩ = some (.bool J.o) := by rw [HM4.out.cell]; rfl
          have z8 : w4.frozen? ⟨jb, 8, none⟩ = false := HM4.out.soft 8
          clear hblk hs0
          go_wp2_with fail
          go_ret
          exact HA.out
end

end Go.Proofs.Ytnnammlipfappaa


