/- A worker: what it holds, plain mathematics; a map of attempts. -/
import Derived.Test.YtombjgfajbhbbaaGreatB22
import Derived.Test.YtombjgfajbhbbaaGreatB09
set_option maxRecDepth 100000
set_option maxHeartbeats 16000000
namespace Go.Proofs.YtombjgfajbhbbaaGreat
open Go.RowKit
section
section

variable {wx wy : World} {X g : Nat} {q : Pr}

theorem pc_below {B : Nat} (h : wx.cell? ⟨X, 0, none⟩ = some (.int .u64 q.k) ∧ wx.cell? ⟨X, 1, none⟩ = some (.bool q.v.h) ∧ wx.cell? ⟨X, 2, none⟩ = some (.int .u64 q.v.b)) (hb : Below B wx wy) (hX : X < B) :
  wy.cell? ⟨X, 0, none⟩ = some (.int .u64 q.k) ∧ wy.cell? ⟨X, 1, none⟩ = some (.bool q.v.h) ∧ wy.cell? ⟨X, 2, none⟩ = some (.int .u64 q.v.b) :=
 ⟨by rw [hb.cell (p := ⟨X, 0, none⟩) hX]; exact h.1, by rw [hb.cell (p := ⟨X, 1, none⟩) hX]; exact h.2.1, by rw [hb.cell (p := ⟨X, 2, none⟩) hX]; exact h.2.2⟩
theorem pc_grown {row : Option Nat} (h : wx.cell? ⟨X, 0, none⟩ = some (.int .u64 q.k) ∧ wx.cell? ⟨X, 1, none⟩ = some (.bool q.v.h) ∧ wx.cell? ⟨X, 2, none⟩ = some (.int .u64 q.v.b)) (hg : wx.grownBy wy row) (hX : ∀ m, row = some m → X ≠ m) :
  wy.cell? ⟨X, 0, none⟩ = some (.int .u64 q.k) ∧ wy.cell? ⟨X, 1, none⟩ = some (.bool q.v.h) ∧ wy.cell? ⟨X, 2, none⟩ = some (.int .u64 q.v.b) :=
 ⟨cell_own h.1 hg hX, cell_own h.2.1 hg hX, cell_own h.2.2 hg hX⟩
theorem pc_set (h : wx.cell? ⟨X, 0, none⟩ = some (.int .u64 q.k) ∧ wx.cell? ⟨X, 1, none⟩ = some (.bool q.v.h) ∧ wx.cell? ⟨X, 2, none⟩ = some (.int .u64 q.v.b)) (hX : X ≠ g) (i : Nat) (u : Value) :
  (wx.setCell ⟨g, i, none⟩ u).cell? ⟨X, 0, none⟩ = some (.int .u64 q.k) ∧ (wx.setCell ⟨g, i, none⟩ u).cell? ⟨X, 1, none⟩ = some (.bool q.v.h) ∧ (wx.setCell ⟨g, i, none⟩ u).cell? ⟨X, 2, none⟩ = some (.int .u64 q.v.b) :=
 ⟨by rw [World.cell?_setCell_other _ _ _ _ (by intro e; cases e; exact hX rfl)]; exact h.1, by rw [World.cell?_setCell_other _ _ _ _ (by intro e; cases e; exact hX rfl)]; exact h.2.1, by rw [World.cell?_setCell_other _ _ _ _ (by intro e; cases e; exact hX rfl)]; exact h.2.2⟩
end

def Dr (w1 : World) (g n : Nat) (p : Pn) (t : List Pr) (iv : Value) (wr : World) : Prop :=
 ∃ (k : Nat) (vs : Nat → Value), k ≤ t.length ∧ iv = .int .i64 k ∧ Dl w1.heap.size wr (.slice (some ⟨g, 0, none⟩) n n) n vs (dealF p (t.take k)) ∧ Ne n vs ∧ Below w1.heap.size w1 wr
def DG (B : Nat) (w : World) (v : Value) (p : Pn) (t : List Pr) : Prop :=
 ∃ vs, Dl B w v p.n vs (dealF p t) ∧ Ne p.n vs
theorem deal_no {p : Pn} {ov tv : Value} {t : List Pr} {w : World} (ho : Ov w ov p.l) (hp : p.is = false) :
  Calls Tryz.prog 94 #[.agg #[.int .i64 p.P, .int .i64 p.S, .int .i64 p.W, ov, .int .i64 p.A, .int .i64 p.B, .int .i64 p.N, .int .i64 p.G], tv] w fun e w' => ∃ v, e = .returned v ∧ DG w.heap.size w' v p t ∧ Below w.heap.size w w' := by
 have HO : Hid (Ov w ov p.l) := ho;clear ho;go_in;go_wp2_with fail;refine (isplan_walk (HO.out.below (below_alloc _ _))).mono ?_;rw [hp];rintro e w1 ⟨rfl, hB1⟩;go_wp2_with fail;go_ret;refine ⟨_, rfl, ⟨fun _ => .slice none 0 0, ?_, ?_⟩, below_trans (below_alloc _ _) hB1⟩
 ·have : p.n = 0 := by unfold Pn.n; rw [hp]; rfl
  rw [this];exact ⟨World.ownsRow_nil _ _ _ _, fun i hi => by omega⟩
 ·have : p.n = 0 := by unfold Pn.n; rw [hp]; rfl
  rw [this];exact fun i j hi => by omega
theorem deal_good {p : Pn} {ov tv : Value} {t : List Pr} {w : World} (ho : Ov w ov p.l) (hp : p.is = true) (hq : Qv w tv t) (hsz : t.length * 24 ≤ 140737488355328) :
  Calls Tryz.prog 94 #[.agg #[.int .i64 p.P, .int .i64 p.S, .int .i64 p.W, ov, .int .i64 p.A, .int .i64 p.B, .int .i64 p.N, .int .i64 p.G], tv] w fun e w' => ∃ v, e = .returned v ∧ DG w.heap.size w' v p t ∧ Below w.heap.size w w' := by
 have HO : Hid (Ov w ov p.l) := ho;have HOK : Hid (okT t) := hq.2;obtain ⟨tg, tc, rfl, hl, hql⟩ := hq.form;have HQL : Hid (Ql w tg t) := hql;have HSZ := hidH hsz;have hli : (t.length : Int) ≤ 9223372036854775807 := by omega
 clear ho hq hl hql hsz;obtain ⟨_, ⟨s1, s2⟩, ⟨w1, w2⟩, _⟩ := Pn.is_num hp;have hmk := make_sp hp;obtain ⟨n, hn⟩ : ∃ n, n = p.S.toNat := ⟨_, rfl⟩;have HN : Hid (n = p.S.toNat) := hn;have hn4 : n ≤ 4 := by omega
 rw [← hn] at hmk;have HPN : Hid (p.n = n) := by show _ = _; unfold Pn.n; rw [hp, hn]; rfl
 clear hn;obtain ⟨Z, hZ⟩ : ∃ Z, Z = madeCells #[Value.slice none 0 0] (n * 1) := ⟨_, rfl⟩;rw [← hZ] at hmk;have HZ : Hid (Z = madeCells #[Value.slice none 0 0] (n * 1)) := hZ;clear hZ;go_in;go_wp2_with fail;refine (isplan_walk (HO.out.below (below_alloc _ _))).mono ?_;rw [hp];rintro e w1 ⟨rfl, hB1⟩;have HB1 : Hid (Below w.heap.size w w1) := below_trans (below_alloc _ _) hB1;have HX1 : Hid (Bx w1 w.heap.size p ov) := box_then hB1;have HXL : Hid (w.heap.size < w1.heap.size) := box_lt hB1;obtain ⟨c0, c1, c2, c3, c4, c5, c6, c7⟩ := box_then hB1;clear hB1
 have HST : Hid (Dr w1 w1.heap.size n p t (.int .i64 0) (w1.alloc (.cells Z 46))) := by
  have h := made_sp w1 hn4 p;rw [← HZ.out] at h;exact ⟨0, _, Nat.zero_le _, rfl, h, fun i j _ _ _ => .inl rfl, below_alloc _ _⟩
 go_wp2_with fail;go_loopw [17] (fun iv wr => Dr w1 w1.heap.size n p t iv wr) (fun iv _ => t.length - (intOf iv).toNat)
 case atStart => exact HST.out
 case round =>
  obtain ⟨k, vs, hk, rfl, hD, hNe, hBr⟩ := hrel;clear c0 c1 c2 c3 c4 c5 c6 c7 HST;obtain ⟨g, hg⟩ : ∃ g, g = w1.heap.size := ⟨_, rfl⟩;have HG : Hid (g = w1.heap.size) := hg;have HDL0 : Hid (Dl w1.heap.size wr (.slice (some ⟨g, 0, none⟩) n n) n vs (dealF p (t.take k))) := by rw [hg]; exact hD
  have HNE : Hid (Ne n vs) := hNe;have HBR := hidH hBr;have HWR : Hid (w1.heap.size ≤ wr.heap.size) := hBr.size;rw [← hg];clear hD hNe hBr hg;by_cases hlt : k < t.length
  ·obtain ⟨b, off, hto, d0, d1, d2⟩ := (HQL.out.below HB1.out).below HBR.out |> fun h => h k hlt;subst hto;obtain ⟨q, hqe⟩ : ∃ q, q = t[k] := ⟨_, rfl⟩;rw [← hqe] at d0 d1 d2;have HQ : Hid (q = t[k]) := hqe;have HQK : Hid (q.k < 18446744073709551616) := by rw [hqe]; exact (HOK.out _ (List.getElem_mem hlt)).1
   clear hqe;obtain ⟨A, hA⟩ : ∃ A, A = p.place q.k := ⟨_, rfl⟩;have HA : Hid (A = p.place q.k) := hA;have hAn : A < n := by rw [hA, HN.out]; exact (place_lt q.k hp).2
   have HAN : Hid (A < n) := hAn;have hA4 : A < 4 := by omega
   clear hA;obtain ⟨c0, c1, c2, c3, c4, c5, c6, c7⟩ := HX1.out.below (HBR.out.trans ((below_alloc wr (Obj.cells #[.int .u64 q.k, .bool q.v.h, .int .u64 q.v.b] 66)).mono HWR.out)) HXL.out;go_wp2_with fail;refine (place_walk q.k HQK.out hp).mono ?_;rw [← HA.out];rintro e w5 ⟨rfl, hB5⟩;have HPC : Hid (w5.cell? ⟨wr.heap.size, 0, none⟩ = some (.int .u64 q.k) ∧ w5.cell? ⟨wr.heap.size, 1, none⟩ = some (.bool q.v.h) ∧ w5.cell? ⟨wr.heap.size, 2, none⟩ = some (.int .u64 q.v.b)) := pc_below (B := wr.heap.size + 1) (wx := wr.alloc (Obj.cells #[.int .u64 q.k, .bool q.v.h, .int .u64 q.v.b] 66)) ⟨by simp [go_sem], by simp [go_sem], by simp [go_sem]⟩ (hB5.mono (by simp)) (by omega);have HX5 : Hid (wr.heap.size < w5.heap.size) := by have := hB5.size; simp at this; show _ < _; omega
   have hR5 : Below wr.heap.size wr w5 := below_trans (below_alloc _ _) hB5;have HDL := hidH (HDL0.out.below hR5);have HB5 : Hid (Below w1.heap.size w1 w5) := HBR.out.trans (hR5.mono HWR.out);have HB5s : Hid (w1.heap.size ≤ w5.heap.size) := HB5.out.size;have HOA0 : Hid (w5.ownsRow w1.heap.size 66 3 (vs A) (dealF p (t.take k) A).length (flatQ (dealF p (t.take k) A))) := HDL.out.own A HAN.out;obtain ⟨ao, cap, hva, _, _⟩ := row_form HOA0.out;have HVA : Hid (vs A = .slice ao (dealF p (t.take k) A).length cap) := hva
   have HOA : Hid (w5.ownsRow w1.heap.size 66 3 (.slice ao (dealF p (t.take k) A).length cap) (dealF p (t.take k) A).length (flatQ (dealF p (t.take k) A))) := by
    have h := HOA0.out;rw [hva] at h;exact h
   have z5 := (row1_cell HDL.out.row HAN.out).1;rw [hva] at z5
   have z6 : (w5.alloc (Obj.cells #[.int .u64 q.k, .bool q.v.h, .int .u64 q.v.b] 66)).cell? ⟨g, A, none⟩ = some (.slice ao (dealF p (t.take k) A).length cap) := by
    have h := (row1_cell (w := (w5.alloc (Obj.cells #[.int .u64 q.k, .bool q.v.h, .int .u64 q.v.b] 66))) (HDL.out.below (below_alloc _ _)).row HAN.out).1;rw [hva] at h;exact h
   clear hva
   have HBD : Hid (((dealF p (t.take k) A).length + 1) * 24 ≤ 140737488355328) := by
    show _ ≤ _;have h1 := deal_len p (t.take k) A;have h2 : (dealF p (t.take k) A).length + 1 ≤ t.length := by rw [List.length_take] at h1; omega
    exact Nat.le_trans (Nat.mul_le_mul_right 24 h2) HSZ.out
   have HNG : Hid (∀ w8 : World, (Value.slice (some ⟨g, 0, none⟩) n n).ownBlock = none ∨ (Value.slice (some ⟨g, 0, none⟩) n n).ownBlock ≠ (Value.slice ao (dealF p (t.take k) A).length cap).ownBlock) := fun _ => own_ne HDL.out.row HOA.out sp_ne.symm
   have HXN : Hid (∀ (_ : Nat) (m : Nat), (Value.slice ao (dealF p (t.take k) A).length cap).ownBlock = some m → wr.heap.size ≠ m) := fun _ m he => by
    have h := HDL0.out.own A HAN.out;rw [HVA.out] at h;have := (h.lt m he).2;omega
   have HXG : Hid (wr.heap.size ≠ g) := by
    have h := (HDL0.out.row.lt g rfl).2;show _ ≠ _;omega
   have HGB : Hid (w1.heap.size ≤ g) := by rw [HG.out]; exact Nat.le_refl _
   have HBW : Hid (∀ (w8 w9 : World), (w5.drew.alloc (Obj.cells #[.int .u64 q.k, .bool q.v.h, .int .u64 q.v.b] 66)).grownBy w9 (Value.slice ao (dealF p (t.take k) A).length cap).ownBlock → Below w1.heap.size w1 w9) := fun _ w9 hg9 => by
    have h8 : Below w1.heap.size w1 (w5.drew.alloc (Obj.cells #[.int .u64 q.k, .bool q.v.h, .int .u64 q.v.b] 66)) := HB5.out.trans ((below_trans (below_drw _) (below_alloc _ _)).mono HB5s.out);exact h8.grown hg9 h8.size (fun x hx => (HOA.out.lt x hx).1)
   clear c0 c1 c2 c3 c4 c5 c6 c7 d0 d1 d2 hB5 hR5;go_wp2_with fail;refine wp_region_noPanic ?_;refine wp_region_held_drew (S := fun wx => wx.cell? ⟨wr.heap.size, 0, none⟩ = some (.int .u64 q.k) ∧ wx.cell? ⟨wr.heap.size, 1, none⟩ = some (.bool q.v.h) ∧ wx.cell? ⟨wr.heap.size, 2, none⟩ = some (.int .u64 q.v.b)) (by kernel_rfl) ?_ fun hHeld => ?_
   ·exact pc_below HPC.out (below_drw _) HX5.out
   refine tkS 0 25 rfl hHeld ?_;refine tkS 1 26 rfl hHeld ?_;refine tkS 2 27 rfl hHeld ?_;refine tkS 3 28 rfl hHeld ?_;refine tkS 4 29 rfl hHeld ?_;refine tkS 6 31 rfl hHeld ?_;refine wpAnyH_ready (rs := [5, 7]) (by kernel_rfl) (by simp) ?_;refine AllReadyH.cons (o := ⟨some 30, _, _, _, _, _⟩) rfl (fun K hK => ?_) (AllReadyH.cons (o := ⟨some 32, _, _, _, _, _⟩) rfl (fun K hK => ?_) AllReadyH.nil)
   ·go_simp;refine hK.out _ _ ?_ fun hHeld => ?_
    ·exact hHeld
    clear hK K;try simp only [Act.put, zz]
    refine rdH 7 32 rfl fun K hK => ?_;go_simp;refine hK.out _ _ ?_ fun hHeld => ?_
    ·exact pc_below hHeld (below_alloc _ _) HX5.out
    clear hK K;try simp only [Act.put, zz]
    refine rdH 8 33 rfl fun K hK => ?_;refine step_app_pr rfl (.tmp 30) (.tmp 32) rfl (.slice ao (dealF p (t.take k) A).length cap) (dealF p (t.take k) A) (by simp [Act.eval]) (own3_below HOA.out (below_trans (below_drw _) (below_alloc _ _))) w5.heap.size q (by simp [Act.eval]) (by simp [go_sem]) (by simp [go_sem]) (by simp [go_sem]) HBD.out (Nat.le_trans HB5s.out (below_trans (below_drw _) (below_alloc _ _)).size) ?_;intro v9 w9 hown9 hg9 hat9;obtain ⟨v9o, v9c, hv9, _, _⟩ := row_form hown9;subst hv9;have HS9 : Hid (Dl w1.heap.size (w9.setCell ⟨g, A, none⟩ (.slice v9o ((dealF p (t.take k) A).length + 1) v9c)) (.slice (some ⟨g, 0, none⟩) n n) n (setF vs A (.slice v9o ((dealF p (t.take k) A).length + 1) v9c)) (setF (dealF p (t.take k)) A (dealF p (t.take k) A ++ [q])) ∧ Ne n (setF vs A (.slice v9o ((dealF p (t.take k) A).length + 1) v9c))) := HDL.out.step HNE.out HAN.out (below_trans (below_drw _) (below_alloc _ _)) hown9 (by rw [HVA.out]; exact hg9) (by rw [HVA.out]; exact hat9);have HG9 := hidH hg9;have z9 := (row1_cell (i := A) ((HDL.out.below (below_trans (below_drw _) (below_alloc _ _))).row.kept hg9 (HNG.out w9)) HAN.out).1;have z9f := (row1_cell (i := A) ((HDL.out.below (below_trans (below_drw _) (below_alloc _ _))).row.kept hg9 (HNG.out w9)) HAN.out).2;rw [HVA.out] at z9;clear hown9 hg9 hat9;refine hK.out _ _ ?_ fun hHeld => ?_
    ·exact pc_grown hHeld HG9.out (HXN.out 0)
    clear hK K;try simp only [Act.put, zz]
    refine tkS 9 34 rfl hHeld ?_;refine wpAnyH_ready (rs := [10]) (by kernel_rfl) (by simp) ?_;refine AllReadyH.cons (o := ⟨none, _, _, _, _, _⟩) rfl (fun K hK => ?_) AllReadyH.nil;go_simp;have HW9 : Hid (Below w1.heap.size w1 w9) := HBW.out w9 _ HG9.out;refine hK.out _ _ ?_ fun hHeld => ?_
    ·exact pc_set hHeld HXG.out _ _
    clear hK K;try simp only [Act.put, zz]
    refine wpAnyH_done (by kernel_rfl) ?_ _;refine NoPanic.normal ?_
    have HR : Hid (Dr w1 g n p t (.int .i64 ((k : Int) + 1)) (w9.setCell ⟨g, A, none⟩ (.slice v9o ((dealF p (t.take k) A).length + 1) v9c))) := by
     refine ⟨k + 1, _, hlt, by simp, ?_, HS9.out.2, HW9.out.setCell (p := ⟨g, A, none⟩) HGB.out _⟩;rw [deal_step p t hlt, ← HQ.out, ← HA.out];exact HS9.out.1
    clear z9 z9f HS9;go_wp2_with fail;go_roundw
    case rel => exact HR.out
    case measure => simp [intOf]; omega
   ·go_simp;refine hK.out _ _ ?_ fun hHeld => ?_
    ·exact pc_below hHeld (below_alloc _ _) HX5.out
    clear hK K;try simp only [Act.put, zz]
    refine rdH 5 30 rfl fun K hK => ?_;go_simp;refine hK.out _ _ ?_ fun hHeld => ?_
    ·exact hHeld
    clear hK K;try simp only [Act.put, zz]
    refine rdH 8 33 rfl fun K hK => ?_;refine step_app_pr rfl (.tmp 30) (.tmp 32) rfl (.slice ao (dealF p (t.take k) A).length cap) (dealF p (t.take k) A) (by simp [Act.eval]) (own3_below HOA.out (below_trans (below_drw _) (below_alloc _ _))) w5.heap.size q (by simp [Act.eval]) (by simp [go_sem]) (by simp [go_sem]) (by simp [go_sem]) HBD.out (Nat.le_trans HB5s.out (below_trans (below_drw _) (below_alloc _ _)).size) ?_;intro v9 w9 hown9 hg9 hat9;obtain ⟨v9o, v9c, hv9, _, _⟩ := row_form hown9;subst hv9;have HS9 : Hid (Dl w1.heap.size (w9.setCell ⟨g, A, none⟩ (.slice v9o ((dealF p (t.take k) A).length + 1) v9c)) (.slice (some ⟨g, 0, none⟩) n n) n (setF vs A (.slice v9o ((dealF p (t.take k) A).length + 1) v9c)) (setF (dealF p (t.take k)) A (dealF p (t.take k) A ++ [q])) ∧ Ne n (setF vs A (.slice v9o ((dealF p (t.take k) A).length + 1) v9c))) := HDL.out.step HNE.out HAN.out (below_trans (below_drw _) (below_alloc _ _)) hown9 (by rw [HVA.out]; exact hg9) (by rw [HVA.out]; exact hat9);have HG9 := hidH hg9;have z9 := (row1_cell (i := A) ((HDL.out.below (below_trans (below_drw _) (below_alloc _ _))).row.kept hg9 (HNG.out w9)) HAN.out).1;have z9f := (row1_cell (i := A) ((HDL.out.below (below_trans (below_drw _) (below_alloc _ _))).row.kept hg9 (HNG.out w9)) HAN.out).2;rw [HVA.out] at z9;clear hown9 hg9 hat9;refine hK.out _ _ ?_ fun hHeld => ?_
    ·exact pc_grown hHeld HG9.out (HXN.out 0)
    clear hK K;try simp only [Act.put, zz]
    refine tkS 9 34 rfl hHeld ?_;refine wpAnyH_ready (rs := [10]) (by kernel_rfl) (by simp) ?_;refine AllReadyH.cons (o := ⟨none, _, _, _, _, _⟩) rfl (fun K hK => ?_) AllReadyH.nil;go_simp;have HW9 : Hid (Below w1.heap.size w1 w9) := HBW.out w9 _ HG9.out;refine hK.out _ _ ?_ fun hHeld => ?_
    ·exact pc_set hHeld HXG.out _ _
    clear hK K;try simp only [Act.put, zz]
    refine wpAnyH_done (by kernel_rfl) ?_ _;refine NoPanic.normal ?_
    have HR : Hid (Dr w1 g n p t (.int .i64 ((k : Int) + 1)) (w9.setCell ⟨g, A, none⟩ (.slice v9o ((dealF p (t.take k) A).length + 1) v9c))) := by
     refine ⟨k + 1, _, hlt, by simp, ?_, HS9.out.2, HW9.out.setCell (p := ⟨g, A, none⟩) HGB.out _⟩;rw [deal_step p t hlt, ← HQ.out, ← HA.out];exact HS9.out.1
    clear z9 z9f HS9;go_wp2_with fail;go_roundw
    case rel => exact HR.out
    case measure => simp [intOf]; omega
  ·obtain rfl : k = t.length := by omega
   go_wp2_with fail;go_ret;have hD := HDL0.out;rw [List.take_length] at hD;refine ⟨_, rfl, ⟨vs, ?_, ?_⟩, ?_⟩
   ·rw [HPN.out];exact ⟨own_base hD.row HB1.out.size, fun i hi => own_base (hD.own i hi) HB1.out.size⟩
   ·rw [HPN.out];exact HNE.out
   ·exact HB1.out.trans (HBR.out.mono HB1.out.size)
theorem deal_walk {p : Pn} {ov tv : Value} {t : List Pr} {w : World} (ho : Ov w ov p.l) (hq : Qv w tv t) (hsz : t.length * 24 ≤ 140737488355328) :
  Calls Tryz.prog 94 #[.agg #[.int .i64 p.P, .int .i64 p.S, .int .i64 p.W, ov, .int .i64 p.A, .int .i64 p.B, .int .i64 p.N, .int .i64 p.G], tv] w fun e w' => ∃ v, e = .returned v ∧ DG w.heap.size w' v p t ∧ Below w.heap.size w w' := by
 cases hp : p.is
 ·exact deal_no ho hp
 ·exact deal_good ho hp hq hsz
end
section
open Ieee Go.RowKit

open Go.ChangeMaps (putKey notKey)

def dV (v : Vl) : DataW Unit := .agg [.lit (.bool v.h), .lit (.int .u64 v.b)]
def kL (k : Nat) : Lit := .int .u64 k
def dT (t : List Pr) : DataW Unit := .map (t.map fun p => (kL p.k, dV p.v))
def valElem (v : Value) : Option (DataW Unit × List MemPlace) :=
 match v with
 | .agg cs => match cs.toList with
  | [.bool h, .int .u64 b] => if 0 ≤ b ∧ b < 18446744073709551616 then some (.agg [.lit (.bool h), .lit (.int .u64 b)], []) else none
  | _ => none
 | _ => none
def valV (v : Vl) : Value := .agg #[.bool v.h, .int .u64 v.b]
theorem valElem_mk {v : Vl} (h : v.ok) : valElem (valV v) = some (dV v, []) := by
 have : (0 : Int) ≤ v.b ∧ (v.b : Int) < 18446744073709551616 := by unfold Vl.ok at h; omega
 simp only [valElem, valV];rw [if_pos this]; rfl
theorem valElem_inv {v : Value} {z : DataW Unit × List MemPlace} (h : valElem v = some z) : ∃ u : Vl, v = valV u ∧ u.ok ∧ z = (dV u, []) := by
 unfold valElem at h
 split at h
 ·rename_i cs
  split at h
  ·rename_i hh b he
   split at h
   ·rename_i hb
    cases h
    refine ⟨⟨hh, b.toNat⟩, ?_, ?_, ?_⟩
    ·have e : ((b.toNat : Nat) : Int) = b := by omega
     show Value.agg cs = .agg #[.bool hh, .int .u64 (b.toNat : Nat)];rw [e];congr 1;apply Array.toList_inj.1;rw [he]
    ·show b.toNat < 18446744073709551616; omega
    ·have e : ((b.toNat : Nat) : Int) = b := by omega
     show _ = (DataW.agg [.lit (.bool hh), .lit (.int .u64 (b.toNat : Nat))], []);rw [e]
   ·cases h
  ·cases h
 ·cases h
theorem dV_inj {a b : Vl} (h : dV a = dV b) : a = b := by
 unfold dV at h;simp at h;obtain ⟨h1, h2⟩ := h;obtain ⟨ah, ab⟩ := a;obtain ⟨bh, bb⟩ := b;simp only at h1 h2;rw [h1, show ab = bb by omega]
theorem kL_same (a b : Nat) : (kL a).sameKey (kL b) = decide (a = b) := by
 unfold kL Lit.sameKey;by_cases h : a = b
 ·subst h; simp
 ·have : ¬ ((a : Int) = b) := by omega
  simp [h, this]
theorem kL_before (a b : Nat) : (kL a).before (kL b) = decide (a < b) := by
 unfold kL Lit.before;by_cases h : a < b
 ·have : (a : Int) < b := by omega
  simp [h, this]
 ·have : ¬ ((a : Int) < b) := by omega
  simp [h, this]
theorem atKey_T (t : List Pr) (k : Nat) : (dT t).atKey (kL k) (dV noV) = dV (getT k t) := by
 induction t with
 | nil => rfl
 | cons p t ih =>
  unfold dT DataW.atKey at ih ⊢;simp only [List.map_cons, List.find?_cons, kL_same];by_cases h : p.k = k
  ·simp only [h, decide_true]; rw [show getT k (p :: t) = p.v from if_pos h]
  ·simp only [h, decide_false]; rw [show getT k (p :: t) = getT k t from if_neg h]; exact ih
theorem filter_above {t : List Pr} {k : Nat} (h : ∀ p ∈ t, k < p.k) : (t.map fun p => (kL p.k, dV p.v)).filter (notKey (kL k)) = t.map fun p => (kL p.k, dV p.v) := by
 refine List.filter_eq_self.2 fun x hx => ?_;obtain ⟨p, hp, rfl⟩ := List.mem_map.1 hx;unfold notKey;rw [kL_same];have := h p hp;simp; omega
theorem insert_above {t : List Pr} {k : Nat} (v : Vl) (h : ∀ p ∈ t, k < p.k) : DataW.insert (kL k, dV v) (t.map fun p => (kL p.k, dV p.v)) = (kL k, dV v) :: t.map fun p => (kL p.k, dV p.v) := by
 cases t with
 | nil => rfl
 | cons a t =>
  have := h a (by simp);simp only [List.map_cons, DataW.insert, kL_before];rw [if_pos (by simpa using this)]
theorem put_T {t : List Pr} (h : Rise t) (k : Nat) (v : Vl) : (dT t).put (kL k) (dV v) = dT (putT k v t) := by
 unfold dT;rw [DataW.put_eq];congr 1;unfold putKey
 induction t with
 | nil => rfl
 | cons a t ih =>
  obtain ⟨h1, h2⟩ := List.pairwise_cons.1 h;unfold putT
  split
  ·rename_i hlt
   have hall : ∀ p ∈ a :: t, k < p.k := fun p hp => by
    rcases List.mem_cons.1 hp with rfl | hp
    ·exact hlt
    ·exact Nat.lt_trans hlt (h1 p hp)
   rw [filter_above hall, insert_above v hall]; rfl
  ·split
   ·rename_i hlt he
    have hall : ∀ p ∈ t, k < p.k := fun p hp => by rw [he]; exact h1 p hp
    rw [List.map_cons, List.filter_cons_of_neg (by unfold notKey; rw [kL_same]; simp [he]), filter_above hall, insert_above v hall]; rfl
   ·rename_i hlt he
    rw [List.map_cons, List.filter_cons_of_pos (by unfold notKey; rw [kL_same]; simp; omega), DataW.insert, if_neg (by rw [kL_before]; simp; omega), ih h2]; rfl
theorem size_T (t : List Pr) : Maps.size (dT t) = t.length := by simp [Maps.size, dT]
theorem has_T (t : List Pr) (k : Nat) : Maps.has (dT t) (kL k) = true ↔ ∃ p ∈ t, p.k = k := by
 unfold dT;rw [Maps.has_eq, List.any_eq_true];constructor
 ·rintro ⟨x, hx, hk⟩;obtain ⟨p, hp, rfl⟩ := List.mem_map.1 hx;rw [kL_same] at hk;exact ⟨p, hp, by simpa using hk⟩
 ·rintro ⟨p, hp, hk⟩;exact ⟨_, List.mem_map.2 ⟨p, hp, rfl⟩, by rw [kL_same]; simpa using hk⟩
theorem get_mem {t : List Pr} (h : Rise t) {p : Pr} (hp : p ∈ t) : getT p.k t = p.v := by
 induction t with
 | nil => simp at hp
 | cons a t ih =>
  obtain ⟨h1, h2⟩ := List.pairwise_cons.1 h;unfold getT;rcases List.mem_cons.1 hp with rfl | hp
  ·rw [if_pos rfl]
  ·rw [if_neg (by have := h1 p hp; omega)]; exact ih h2 hp
theorem left_step {t : List Pr} (h : Rise t) {p : Pr} (hp : p ∈ t) (left : Lit → Bool) (hl : left (kL p.k) = true) {m : List Pr} (hm : m.Perm (t.filter fun q => !left (kL q.k))) :
  (m ++ [p]).Perm (t.filter fun q => !(left (kL q.k) && !(kL q.k).sameKey (kL p.k))) := by
 refine (List.perm_append_comm.trans ((hm.cons p))).trans ?_;clear hm
 induction t with
 | nil => simp at hp
 | cons a t ih =>
  obtain ⟨h1, h2⟩ := List.pairwise_cons.1 h;rcases List.mem_cons.1 hp with rfl | hp
  ·have e1 : t.filter (fun q => !(left (kL q.k) && !(kL q.k).sameKey (kL p.k))) = t.filter (fun q => !left (kL q.k)) := by
    refine List.filter_congr fun q hq => ?_;have := h1 q hq;rw [kL_same, decide_eq_false (by omega)]; simp
   rw [List.filter_cons_of_neg (by simp [hl]), List.filter_cons_of_pos (by rw [kL_same]; simp), e1]
  ·have hne : (kL a.k).sameKey (kL p.k) = false := by have := h1 p hp; rw [kL_same, decide_eq_false (by omega)]
   cases hla : left (kL a.k)
   ·rw [List.filter_cons_of_pos (by simp [hla]), List.filter_cons_of_pos (by simp [hla])];exact (List.Perm.swap _ _ _).trans ((ih h2 hp).cons a)
   ·rw [List.filter_cons_of_neg (by simp [hla]), List.filter_cons_of_neg (by simp [hla, hne])];exact ih h2 hp
theorem sorted_is {t m : List Pr} (h : Rise t) (hp : m.Perm t) (hs : m.Pairwise (fun p q => ¬ q.k < p.k)) : m = t := by
 induction m generalizing t with
 | nil => rw [List.nil_perm.1 hp]
 | cons a m ih =>
  obtain ⟨s1, s2⟩ := List.pairwise_cons.1 hs
  cases t with
  | nil => exact absurd hp.length_eq (by simp)
  | cons b t =>
   obtain ⟨h1, h2⟩ := List.pairwise_cons.1 h
   have hab : a = b := by
    have ha : a ∈ b :: t := hp.mem_iff.1 (by simp);have hb : b ∈ a :: m := hp.mem_iff.2 (by simp);rcases List.mem_cons.1 ha with e | ha
    ·exact e
    ·rcases List.mem_cons.1 hb with e | hb
     ·exact e.symm
     ·have k1 := h1 a ha;have k2 := s1 b hb;omega
   subst hab;rw [ih h2 ((List.perm_cons a).1 hp) s2]
end
section
open Go.RowKit Go.ChangeMaps

section

variable {α β : Type}

def atK (f : α → Int) (L : List α) (k : Int) : Option α := L.find? fun x => decide (f x = k)
def outL (f : α → Int) (L : List α) (k : Int) : List α := L.filter fun x => !decide (f x = k)
def insL (f : α → Int) (x : α) : List α → List α
 | [] => [x]
 | a :: t => if f x < f a then x :: a :: t else a :: insL f x t
def updK (f : α → Int) (L : List α) (k : Int) (g : α → α) : List α := L.map fun x => if f x = k then g x else x
def RiseL (f : α → Int) (L : List α) : Prop := L.Pairwise fun x y => f x < f y
theorem atK_map {f : β → Int} {h : α → β} (L : List α) (k : Int) : atK f (L.map h) k = (atK (fun x => f (h x)) L k).map h := by
 unfold atK; rw [List.find?_map]; rfl
theorem outL_map {f : β → Int} {h : α → β} (L : List α) (k : Int) : outL f (L.map h) k = (outL (fun x => f (h x)) L k).map h := by
 unfold outL; rw [List.filter_map]; rfl
theorem insL_map {f : β → Int} {h : α → β} (x : α) (L : List α) : insL f (h x) (L.map h) = (insL (fun x => f (h x)) x L).map h := by
 induction L with
 | nil => rfl
 | cons a t ih =>
  rw [List.map_cons, insL, insL]
  split
  ·rfl
  ·rw [ih]; rfl
theorem updK_map {f : β → Int} {h : α → β} {g : α → α} {g' : β → β} (hg : ∀ x, h (g x) = g' (h x)) (L : List α) (k : Int) : updK f (L.map h) k g' = (updK (fun x => f (h x)) L k g).map h := by
 unfold updK;rw [List.map_map, List.map_map];refine List.map_congr_left fun x _ => ?_;simp only [Function.comp]
 split
 ·rw [hg]
 ·rfl
theorem atK_mem {f : α → Int} {L : List α} {k : Int} {x : α} (h : atK f L k = some x) : x ∈ L ∧ f x = k := by
 unfold atK at h;exact ⟨List.mem_of_find?_eq_some h, by simpa using List.find?_some h⟩
theorem atK_none {f : α → Int} {L : List α} {k : Int} (h : atK f L k = none) : ∀ x ∈ L, f x ≠ k := by
 unfold atK at h;intro x hx;simpa using List.find?_eq_none.1 h x hx
theorem out_mem {f : α → Int} {L : List α} {k : Int} {x : α} : x ∈ outL f L k ↔ x ∈ L ∧ f x ≠ k := by unfold outL; simp
theorem ins_mem {f : α → Int} {L : List α} {x y : α} : y ∈ insL f x L ↔ y = x ∨ y ∈ L := by
 induction L with
 | nil => simp [insL]
 | cons a t ih =>
  rw [insL]
  split
  ·simp
  ·simp [ih];constructor
   ·rintro (h | h | h)
    ·exact .inr (.inl h)
    ·exact .inl h
    ·exact .inr (.inr h)
   ·rintro (h | h | h)
    ·exact .inr (.inl h)
    ·exact .inl h
    ·exact .inr (.inr h)
theorem ins_len {f : α → Int} {L : List α} {x : α} : (insL f x L).length = L.length + 1 := by
 induction L with
 | nil => rfl
 | cons a t ih => rw [insL]; split <;> simp [ih]
theorem out_len {f : α → Int} (L : List α) (k : Int) : (outL f L k).length ≤ L.length := List.length_filter_le _ _
theorem upd_len {f : α → Int} {g : α → α} (L : List α) (k : Int) : (updK f L k g).length = L.length := by unfold updK; simp
theorem ins_rise {f : α → Int} {L : List α} {x : α} (h : RiseL f L) (hx : ∀ y ∈ L, f y ≠ f x) : RiseL f (insL f x L) := by
 induction L with
 | nil => exact List.pairwise_singleton _ _
 | cons a t ih =>
  have h1 := List.pairwise_cons.1 h;rw [insL]
  split
  ·rename_i q
   refine List.pairwise_cons.2 ⟨fun y hy => ?_, h⟩;rcases List.mem_cons.1 hy with rfl | hy
   ·exact q
   ·have := h1.1 y hy; omega
  ·rename_i q
   refine List.pairwise_cons.2 ⟨fun y hy => ?_, ih h1.2 (fun y hy => hx y (by simp [hy]))⟩;rcases ins_mem.1 hy with rfl | hy
   ·have := hx a (by simp); omega
   ·exact h1.1 y hy
theorem out_rise {f : α → Int} {L : List α} {k : Int} (h : RiseL f L) : RiseL f (outL f L k) := List.Pairwise.sublist List.filter_sublist h
theorem ins_any {r : α → α → Prop} {f : α → Int} {L : List α} {x : α} (hs : ∀ a b, r a b → r b a) (h : L.Pairwise r) (hx : ∀ y ∈ L, r x y) : (insL f x L).Pairwise r := by
 induction L with
 | nil => exact List.pairwise_singleton _ _
 | cons a t ih =>
  have h1 := List.pairwise_cons.1 h;rw [insL]
  split
  ·exact List.pairwise_cons.2 ⟨hx, h⟩
  ·refine List.pairwise_cons.2 ⟨fun y hy => ?_, ih h1.2 (fun y hy => hx y (by simp [hy]))⟩;rcases ins_mem.1 hy with rfl | hy
   ·exact hs _ _ (hx a (by simp))
   ·exact h1.1 y hy
end

structure Hh where
 n : Int
 a : Int
 E : List Int
 T : List Pr
 A : List Bool
 g : Bool
structure At where
 h : Hh
 x : Nat
 ev : Value
 pv : Value
 av : Value
 lo : Nat
 hi : Nat
def kA (a : At) : Int := a.h.n
def ptA (a : At) : Value := .pointer (some ⟨a.x, 0, none⟩)
def heldE (v : Value) : Option (DataW Value × List MemPlace) := some (.held v, [])
def kI (k : Int) : Lit := .int .i64 k
def entA (x : At) : Lit × DataW Value := (kI x.h.n, .held (ptA x))
def dA (L : List At) : DataW Value := .map (L.map entA)
theorem kI_same (a b : Int) : (kI a).sameKey (kI b) = decide (a = b) := by
 unfold kI Lit.sameKey;by_cases h : a = b
 ·subst h; simp
 ·simp [h]
theorem kI_before (a b : Int) : (kI a).before (kI b) = decide (a < b) := by
 unfold kI Lit.before;simp
theorem size_A (L : List At) : Maps.size (dA L) = L.length := by simp [Maps.size, dA]
theorem atKey_A (L : List At) (k : Int) (z : DataW Value) : (dA L).atKey (kI k) z = match atK kA L k with | some x => .held (ptA x) | none => z := by
 unfold dA DataW.atKey atK;simp only
 induction L with
 | nil => rfl
 | cons a t ih =>
  rw [List.map_cons, List.find?_cons, List.find?_cons];have e : (entA a).1.sameKey (kI k) = decide (a.h.n = k) := kI_same _ _;rw [e];by_cases h : a.h.n = k
  ·simp [h, entA, kA]
  ·simp only [h, decide_false, kA]; exact ih
theorem filter_out (L : List At) (k : Int) : (L.map entA).filter (notKey (kI k)) = (outL kA L k).map entA := by
 unfold outL;rw [List.filter_map];congr 1;refine List.filter_congr fun x _ => ?_;show notKey (kI k) (entA x) = _;unfold notKey entA;rw [kI_same];rfl
theorem del_A (L : List At) (k : Int) : (dA L).del (kI k) = dA (outL kA L k) := by
 unfold dA;rw [DataW.del_eq];congr 1;exact filter_out L k
theorem insert_A (L : List At) (x : At) : DataW.insert (entA x) (L.map entA) = (insL kA x L).map entA := by
 induction L with
 | nil => rfl
 | cons a t ih =>
  have e : ((entA x).1.before (entA a).1) = decide (kA x < kA a) := kI_before _ _;rw [List.map_cons, DataW.insert, insL, e];by_cases h : kA x < kA a
  ·simp [h]
  ·simp [h, ih]
theorem put_A (L : List At) (x : At) : (dA L).put (kI x.h.n) (.held (ptA x)) = dA (insL kA x (outL kA L x.h.n)) := by
 unfold dA;rw [DataW.put_eq];congr 1;unfold putKey;rw [filter_out];exact insert_A _ x
def sayM (nd k t : Int) (m : Ms) (E : List Int) (Q : List Nat) (P : List Pr) : Ms := ⟨k, nd, t, m.B, m.A, 0, E, Q, P⟩
def kH (h : Hh) : Int := h.n
def heldB (H : List Hh) (m : Ms) : Bool := match atK kH H m.B with | some h => decide (m.A ≤ h.a) | none => false
def asgH (p : Pn) (nd : Int) (S : Sc) (m : Ms) (H : List Hh) : List Ms × List Hh :=
 if heldB H m = true then ([], H)
 else if formI S m.E p.B = 0 then
  ([sayM nd 2 0 m (formL S m.E p.B) [] []], insL kH ⟨m.B, m.A, formL S m.E p.B, batchT p.l p.A (formR S m.E p.B), List.replicate p.n false, false⟩ (outL kH H m.B))
 else ([], H)
def goH (p : Pn) (nd : Int) (m : Ms) (H : List Hh) : List Ms × List Hh :=
 match atK kH H m.B with
 | some h => if h.a = m.A ∧ h.g = false ∧ h.E = m.E then ((List.range p.n).map fun (i : Nat) => sayM nd 4 (1 + p.W + ((i : Nat) : Int)) m [] ((dealF p h.T i).map (·.k)) [], updK kH H m.B fun h => { h with g := true }) else ([], H)
 | none => ([], H)
def setB (A : List Bool) (k : Nat) : List Bool := A.set k true
def ansH (p : Pn) (nd : Int) (m : Ms) (H : List Hh) : List Ms × List Hh :=
 match atK kH H m.B with
 | some h =>
  if h.a = m.A ∧ h.g = true ∧ (m.K = 5 ∨ m.K = 7) then
   if m.C ≠ 0 then ([], outL kH H m.B)
   else if m.K = 5 then ([sayM nd 6 m.F m [] [] (dealF p h.T (m.F - (1 + p.W)).toNat)], H)
   else (if (setB h.A (m.F - (1 + p.W)).toNat).countP id < p.n then [] else [sayM nd 8 0 m h.E [] []], updK kH H m.B fun h => { h with A := setB h.A (m.F - (1 + p.W)).toNat })
  else ([], H)
 | none => ([], H)
end
end Go.Proofs.YtombjgfajbhbbaaGreat
