/- The program's small functions over tables: slices.Index, Contains, Clone; blocksFor, has, freeBehind. -/
import Derived.Test.YtofkhgokfdpdiaaGreatB13
import Derived.Test.YtofkhgokfdpdiaaGreatB09
set_option maxRecDepth 100000
set_option maxHeartbeats 16000000
namespace Go.Proofs.YtofkhgokfdpdiaaGreat
section
open Go.RowKit

section

variable {T : TypeId} {D : Nat → Prop} {w w' : World} {v bv : Value} {sb gp cap : Nat} {S : Dk} {b : List Nat}

def Rd (T : TypeId) (D : Nat → Prop) (w : World) (v : Value) (S : Dk) (i : Int) (e : Ending) (w' : World) : Prop :=
 ∃ r, e = .returned (.tuple #[r, .int .i64 (refI S i)]) ∧ w'.ownsRow w.heap.size 5 1 r (readL S i).length (cb (readL S i)) ∧ Dsk T D w' v (readS S i) ∧ Ch D w w'
theorem rd_bad {i : Int} (h : Dsk T D w v S) (hr : refI S i ≠ 0) : Rd T D w v S i (.returned (.tuple #[.slice none 0 0, .int .i64 (refI S i)])) w := by
 refine ⟨_, rfl, ?_, ?_, Ch.refl _ _⟩
 ·unfold readL; rw [if_neg hr]; exact World.ownsRow_nil _ _ _ _
 ·unfold readS; rw [if_neg hr]; exact h
theorem rd_ok {k : Nat} {S2 : Dk} {w1 w2 : World} {r : Value} (hr : refI S k = 0) (hS : S2 = { S with rd := S.rd + 1 }) (h : Dsk T D w1 v S2) (hC : Ch D w w1) (ho : w2.ownsRow w1.heap.size 5 1 r (bk S.bl k).length (cb (bk S.bl k))) (hB : Below w1.heap.size w1 w2) :
  Rd T D w v S k (.returned (.tuple #[r, .int .i64 0])) w2 := by
 have e1 : readL S k = bk S.bl k := by unfold readL; rw [if_pos hr]; simp
 have e2 : readS S k = S2 := by unfold readS; rw [if_pos hr, hS]
 refine ⟨_, by rw [hr], ?_, ?_, ?_⟩
 ·rw [e1]; exact own_base ho hC.size
 ·rw [e2]; exact h.below hB
 ·exact hC.trans (Ch.of_below (D := D) hB) (fun _ hx => .inl hx)
theorem read_walk (h : Dsk T D w v S) (i : Int) (hrd : S.rd < 9223372036854775807) : Calls Tryz.prog 119 #[v, .int .i64 i] w fun e w' => Rd T D w v S i e w' := by
 have HW : Hid (Dsk T D w v S) := h
 obtain ⟨sb, gp, cap, rfl, h, hok⟩ := h
 have HM : Hid (DM T D w sb gp cap S) := h
 have HK : Hid S.ok := hok
 clear h hok
 by_cases hr : refI S i = 0
 ·obtain ⟨hdn, k, rfl, hk⟩ := ref_ok hr
  have HR : Hid (refI S k = 0) := hr
  clear hr hdn
  have c3 := HM.out.c3
  have f3 := HM.out.soft 3
  have c0 := HM.out.c0
  have HM2 : Hid (DM T D (w.setCell ⟨sb, 3, none⟩ (.int .i64 ((S.rd : Int) + 1))) sb gp cap { S with rd := S.rd + 1 }) := HM.out.put 3 _ rfl rfl
  obtain ⟨u, hu, hoc, _⟩ := HM2.out.row.at (i := k) hk
  have HBv : Hid (Bv (w.setCell ⟨sb, 3, none⟩ (.int .i64 ((S.rd : Int) + 1))) u (bk S.bl k)) := hoc.bv (HK.out.byt _ (bk_mem hk))
  have HL : Hid ((bk S.bl k).length ≤ 140737488355328) := Nat.le_trans (HK.out.len _ (bk_mem hk)) (by omega)
  have hu0 : w.cell? ⟨gp, k, none⟩ = some u := by
   rw [← hu]; exact (World.cell?_of_block (w := w) (a := ⟨gp, k, none⟩) (set_other 3 _ HM.out.a1)).symm
  obtain ⟨p, hp⟩ : ∃ p, p = bk S.bl k := ⟨_, rfl⟩
  rw [← hp] at HBv HL
  have HP : Hid (p = bk S.bl k) := hp
  obtain ⟨ao, cp, rfl, _, _⟩ := bv_formD HBv.out
  have r1 : IntKind.i64.wrap ((S.rd : Int) + 1) = (S.rd : Int) + 1 := wrapU (by omega) (by omega)
  have h64 := HK.out.n64
  have hne1 : ¬ gp = sb := HM.out.a1
  have hne2 : ¬ sb = gp := fun e => HM.out.a1 e.symm
  clear hoc hp hu hrd
  go_in
  go_wp2_with fail
  refine (refuses_walk HM.out HK.out k).mono ?_
  rintro e w9 ⟨rfl, h9⟩
  have h9 := h9.symm
  subst h9
  rw [HR.out]
  go_wp2_with fail
  refine (clone_walk HBv.out HL.out).mono ?_
  rintro e w2 ⟨r, rfl, ho, hB⟩
  go_wp2_with fail
  go_ret2
  exact rd_ok HR.out rfl ⟨sb, gp, cap, rfl, HM2.out, ok_rd HK.out _⟩ (ch_put _ _ HM.out.d1) (by rw [← HP.out]; exact ho) hB
 ·have HR : Hid (refI S i ≠ 0) := hr
  have HA : Hid (Rd T D w (.pointer (some ⟨sb, 0, none⟩)) S i (.returned (.tuple #[.slice none 0 0, .int .i64 (refI S i)])) w) := rd_bad HW.out hr
  obtain ⟨q, hq⟩ : ∃ q, q = refI S i := ⟨_, rfl⟩
  rw [← hq] at HA hr
  have HQ : Hid (q = refI S i) := hq
  clear hq
  go_in
  go_wp2_with fail
  refine (refuses_walk HM.out HK.out i).mono ?_
  rintro e w9 ⟨rfl, h9⟩
  have h9 := h9.symm
  subst h9
  rw [← HQ.out]
  go_wp2_with fail
  go_ret2
  exact HA.out
def Wt (T : TypeId) (D : Nat → Prop) (w : World) (v : Value) (S : Dk) (i : Int) (b : List Nat) (e : Ending) (w' : World) : Prop :=
 e = .returned (.int .i64 (writeI S i b)) ∧ (∃ D' : Nat → Prop, Dsk T D' w' v (writeS S i b) ∧ ∀ x, D' x → D x ∨ w.heap.size ≤ x) ∧ Ch D w w'
theorem wt_same {i c : Int} (h : Dsk T D w v S) (hI : writeI S i b = c) (hS : writeS S i b = S) : Wt T D w v S i b (.returned (.int .i64 c)) w := by
 refine ⟨by rw [hI], ⟨D, by rw [hS]; exact h, fun x hx => .inl hx⟩, Ch.refl _ _⟩
structure Wq (w2 : World) (sb gp k : Nat) (sv : Value) (wx : World) : Prop where
 ch : Ch (fun x => x = gp) w2 wx
 c0 : wx.cell? ⟨sb, 0, none⟩ = some sv
 at' : ∃ u, wx.cell? ⟨gp, k, none⟩ = some u
 soft : wx.frozen? ⟨gp, k, none⟩ = false
theorem Wq.go {w2 : World} {k : Nat} {sv : Value} {wx wy : World} (h : Wq w2 sb gp k sv wx) (hb : Below wx.heap.size wx wy) : Wq w2 sb gp k sv wy := by
 obtain ⟨u, hu⟩ := h.at'
 exact ⟨h.ch.trans (Ch.of_below (D := fun x => x = gp) hb) (fun _ hx => .inl hx), by rw [hb.cell (p := ⟨sb, 0, none⟩) (cell_lt h.c0)]; exact h.c0, ⟨u, by rw [hb.cell (p := ⟨gp, k, none⟩) (cell_lt hu)]; exact hu⟩, by rw [hb.frozen (p := ⟨gp, k, none⟩) (cell_lt hu)]; exact h.soft⟩
theorem Wq.set {w2 : World} {k : Nat} {sv : Value} {wx : World} (h : Wq w2 sb gp k sv wx) (hne : sb ≠ gp) (u : Value) : Wq w2 sb gp k sv (wx.setCell ⟨gp, k, none⟩ u) := by
 obtain ⟨u0, hu⟩ := h.at'
 refine ⟨h.ch.trans (Ch.of_grown (D := fun x => x = gp) (grown_set wx gp k u) (fun x hx => by cases hx; rfl)) (fun _ hx => .inl hx), ?_, ⟨u, ?_⟩, ?_⟩
 ·rw [World.cell?_of_block (w := wx) (a := ⟨sb, 0, none⟩) (set_other k u hne)]; exact h.c0
 ·simp [go_sem, hu]
 ·simp [go_sem, h.soft]
theorem DM.setRow {w2 wC : World} {base k : Nat} {u : Value} (h : DM T D w2 sb gp cap S) (hB : Ch (fun _ => False) w2 wC) (hk : k < S.bl.length) (ho : wC.ownsRow base 5 1 u b.length (cb b)) (hb : w2.heap.size ≤ base) :
  DM T (fun x => D x ∨ u.ownBlock = some x) (wC.setCell ⟨gp, k, none⟩ u) sb gp cap { S with bl := S.bl.set k b } := by
 have hBw : Below w2.heap.size w2 wC := hB.to_below (Nat.le_refl _) (fun x hx => hx.elim)
 have hC := h.below hBw
 have hnew : ∀ x, u.ownBlock = some x → w2.heap.size ≤ x := fun x hx => Nat.le_trans hb (ho.lt x hx).1
 refine ⟨?_, ?_, h.a1, .inl h.d1, .inl h.d2, ?_⟩
 ·rw [set_other k u (fun e => h.a1 e.symm), hC.head]
  simp [hd]
 ·exact (hC.row.mono (fun x hx => ⟨.inl hx.1, hx.2⟩)).set hk (own_base ho (Nat.zero_le _)) (fun x hx => ⟨.inr hx, fun e => by have h1 := hnew x hx; have h2 := h.dl sb h.d1; omega⟩)
 ·intro x hx
  have : x < wC.heap.size := by
   rcases hx with hx | hx
   ·exact hC.dl x hx
   ·exact (ho.lt x hx).2
  simpa [go_sem] using this
theorem bv_int {x y : Int} {i : Nat} (h : Bv w bv b) (hc : w.cell? ⟨sb, i, none⟩ = some (.int .i64 x)) : Bv (w.setCell ⟨sb, i, none⟩ (.int .i64 y)) bv b := by
 obtain ⟨⟨ao, cap, rfl, h1, h2, h3, h4⟩, h5⟩ := h
 refine ⟨⟨ao, cap, rfl, h1, h2, h3, fun j hj => ?_⟩, h5⟩
 obtain ⟨b', off, e, c⟩ := h4 j hj
 refine ⟨b', off, e, ?_⟩
 have hne : ¬ ((⟨sb, i, none⟩ : Addr) = ⟨b', off + j, none⟩) := by
  intro e2
  rw [← e2, hc] at c
  simp at c
 simp [go_sem, c, hne]
theorem write_free (h : DM T D w sb gp cap S) (hok : S.ok) {k : Nat} (hr : refI S k = 0) (hk : k < S.bl.length) (hb : Bv w bv b) (hbl : b.length ≤ 1024) (hl : S.left = -1) (hwr : S.wr < 9223372036854775807) :
  Calls Tryz.prog 189 #[.pointer (some ⟨sb, 0, none⟩), .int .i64 k, bv] w fun e w' => Wt T D w (.pointer (some ⟨sb, 0, none⟩)) S k b e w' := by
 have HM : Hid (DM T D w sb gp cap S) := h
 have HK : Hid S.ok := hok
 have HR : Hid (refI S k = 0) := hr
 have HBL : Hid (b.length ≤ 1024) := hbl
 have HKL : Hid (k < S.bl.length) := hk
 have HI : Hid (writeI S k b = 0) := by show _ = _; unfold writeI; rw [if_neg (fun e => e hr), if_neg (by omega), if_neg (by omega)]
 have HS : Hid (writeS S k b = putS S k b) := by show _ = _; unfold writeS; rw [if_neg (fun e => e hr), if_neg (by omega), if_neg (by omega)]; simp
 have HD : Hid (decL S.left = -1) := by show _ = _; unfold decL; rw [if_pos hl]
 have HBB : Hid (∀ c ∈ b, c < 256) := hb.2
 obtain ⟨w2, hw2⟩ : ∃ w2, w2 = w := ⟨_, rfl⟩
 have HM2 : Hid (DM T D w2 sb gp cap { S with left := decL S.left }) := by
  show DM _ _ _ _ _ _ _
  rw [hw2, HD.out, ← hl]
  exact h
 have HC2 : Hid (Ch D w w2) := by show Ch _ _ _; rw [hw2]; exact Ch.refl _ _
 obtain ⟨bo, bc, rfl, _, _⟩ := bv_formD hb
 have HB2 : Hid (Bv w2 (.slice bo b.length bc) b) := by
  show Bv _ _ _
  rw [hw2]
  exact hb
 obtain ⟨u0, z0, _⟩ := HM2.out.row.at (i := k) hk
 have f0 := HM2.out.row.soft k
 have x0 := HM2.out.c0
 have hSd : Wq w2 sb gp k (.slice (some ⟨gp, 0, none⟩) S.bl.length cap) w2.drew := Wq.go (wx := w2) ⟨Ch.refl _ _, x0, ⟨u0, z0⟩, f0⟩ (below_drewN _ _)
 have HW2 : Hid (w2 = w) := hw2
 have c2 := h.c2
 have f2 := h.soft 2
 have h64 := hok.n64
 have hbi : (b.length : Int) ≤ 1024 := by omega
 have hbd : decide ((1024 : Int) < (b.length : Int)) = false := decide_eq_false (by omega)
 have hki : (k : Int) < (S.bl.length : Int) := by omega
 have r1 : IntKind.i64.wrap ((S.wr : Int) + 1) = (S.wr : Int) + 1 := wrapU (by omega) (by omega)
 rw [hl] at c2
 have HNE : Hid (sb ≠ gp) := fun e => h.a1 e.symm
 have j0 : ∀ wx, Wq w2 sb gp k (.slice (some ⟨gp, 0, none⟩) S.bl.length cap) wx → wx.cell? ⟨sb, 0, none⟩ = some (.slice (some ⟨gp, 0, none⟩) S.bl.length cap) := fun wx h => h.c0
 clear h hok hr hk hb hbl hl hwr hw2 z0 f0 x0
 go_in
 go_wp2_with fail
 refine (refuses_walk HM.out HK.out k).mono ?_
 rintro e w9 ⟨rfl, h9⟩
 have h9 := h9.symm
 subst h9
 rw [HR.out]
 go_wp2_with fail
 rw [← HW2.out]
 go_region_held3 (fun wx => Wq w2 sb gp k (.slice (some ⟨gp, 0, none⟩) S.bl.length cap) wx) (first | assumption | exact Wq.set (by assumption) HNE.out _)
  (first
   | (go_at_call 156; refine (clone_walk (v := .slice bo b.length bc) (l := b) (HB2.out.below (below_drewN _ _)) (Nat.le_trans HBL.out (by omega))).mono ?_; rintro e wC ⟨u', rfl, hoC, hBC⟩; obtain ⟨qo, qc, hqv, _⟩ := row_form hoC; subst hqv; have hSC : Wq w2 sb gp k (.slice (some ⟨gp, 0, none⟩) S.bl.length cap) wC := Wq.go (by assumption) hBC; obtain ⟨u0, z0⟩ := hSC.at'; have f0 := hSC.soft))
 obtain ⟨w3, hw3⟩ : ∃ w3, w3 = wC.setCell ⟨gp, k, none⟩ (.slice qo b.length qc) := ⟨_, rfl⟩
 have hBw : Below w2.heap.size w2 wC := below_trans (below_drewN w2 1) hBC
 have HM3 : Hid (DM T (fun x => D x ∨ (Value.slice qo b.length qc).ownBlock = some x) w3 sb gp cap { S with bl := S.bl.set k b, left := decL S.left }) := by
  show DM _ _ _ _ _ _ _
  rw [hw3]
  exact HM2.out.setRow (Ch.of_below hBw) HKL.out hoC (Nat.le_refl _)
 have HNW : Hid (∀ x, (Value.slice qo b.length qc).ownBlock = some x → w2.heap.size ≤ x) := fun x hx => (hoC.lt x hx).1
 have HC3 : Hid (Ch D w w3) := by
  show Ch _ _ _
  rw [hw3]
  exact (HC2.out.self (Ch.of_below hBw)).self (ch_put _ _ HM2.out.d2)
 rw [← hw3]
 have c4 := HM3.out.c4
 have f4 := HM3.out.soft 4
 clear hw3 hSC hBC hoC hBw z0 f0
 go_wp2_with fail
 go_ret
 refine ⟨by rw [HI.out]; rfl, ⟨_, ⟨sb, gp, cap, rfl, by rw [HS.out]; exact HM3.out.put 4 _ (S' := putS S k b) rfl rfl, by rw [HS.out]; exact ok_putD HK.out k HBL.out HBB.out⟩, fun x hx => ?_⟩, HC3.out.self (ch_put _ _ HM.out.d1)⟩
 rcases hx with hx | hx
 ·exact .inl hx
 ·exact .inr (Nat.le_trans HC2.out.size (HNW.out x hx))
theorem write_armed (h : DM T D w sb gp cap S) (hok : S.ok) {k : Nat} (hr : refI S k = 0) (hk : k < S.bl.length) (hb : Bv w bv b) (hbl : b.length ≤ 1024) (hl : 0 < S.left) (hwr : S.wr < 9223372036854775807) :
  Calls Tryz.prog 189 #[.pointer (some ⟨sb, 0, none⟩), .int .i64 k, bv] w fun e w' => Wt T D w (.pointer (some ⟨sb, 0, none⟩)) S k b e w' := by
 have HM : Hid (DM T D w sb gp cap S) := h
 have HK : Hid S.ok := hok
 have HR : Hid (refI S k = 0) := hr
 have HBL : Hid (b.length ≤ 1024) := hbl
 have HKL : Hid (k < S.bl.length) := hk
 have HI : Hid (writeI S k b = 0) := by show _ = _; unfold writeI; rw [if_neg (fun e => e hr), if_neg (by omega), if_neg (by omega)]
 have HS : Hid (writeS S k b = putS S k b) := by show _ = _; unfold writeS; rw [if_neg (fun e => e hr), if_neg (by omega), if_neg (by omega)]; simp
 have HD : Hid (decL S.left = S.left - 1) := by show _ = _; unfold decL; rw [if_neg (by omega)]
 have HBB : Hid (∀ c ∈ b, c < 256) := hb.2
 obtain ⟨w2, hw2⟩ : ∃ w2, w2 = w.setCell ⟨sb, 2, none⟩ (.int .i64 (S.left - 1)) := ⟨_, rfl⟩
 have HM2 : Hid (DM T D w2 sb gp cap { S with left := decL S.left }) := by
  show DM _ _ _ _ _ _ _
  rw [hw2, HD.out]
  exact h.put 2 _ rfl rfl
 have HC2 : Hid (Ch D w w2) := by show Ch _ _ _; rw [hw2]; exact ch_put _ _ h.d1
 obtain ⟨bo, bc, rfl, _, _⟩ := bv_formD hb
 have HB2 : Hid (Bv w2 (.slice bo b.length bc) b) := by
  show Bv _ _ _
  rw [hw2]
  exact bv_int hb h.c2
 obtain ⟨u0, z0, _⟩ := HM2.out.row.at (i := k) hk
 have f0 := HM2.out.row.soft k
 have x0 := HM2.out.c0
 have hSd : Wq w2 sb gp k (.slice (some ⟨gp, 0, none⟩) S.bl.length cap) w2.drew := Wq.go (wx := w2) ⟨Ch.refl _ _, x0, ⟨u0, z0⟩, f0⟩ (below_drewN _ _)
 have HW2 : Hid (w2 = w.setCell ⟨sb, 2, none⟩ (.int .i64 (S.left - 1))) := hw2
 have c2 := h.c2
 have f2 := h.soft 2
 have h64 := hok.n64
 have hbi : (b.length : Int) ≤ 1024 := by omega
 have hbd : decide ((1024 : Int) < (b.length : Int)) = false := decide_eq_false (by omega)
 have hki : (k : Int) < (S.bl.length : Int) := by omega
 have r1 : IntKind.i64.wrap ((S.wr : Int) + 1) = (S.wr : Int) + 1 := wrapU (by omega) (by omega)
 have HLF : Hid (S.left < 9223372036854775808) := hok.l1
 have r2 : IntKind.i64.wrap (S.left - 1) = S.left - 1 := wrapU (by omega) (by have := HLF.out; omega)
 have l0 : ¬ S.left = 0 := by omega
 have l1 : ¬ S.left = -1 := by omega
 have HNE : Hid (sb ≠ gp) := fun e => h.a1 e.symm
 have j0 : ∀ wx, Wq w2 sb gp k (.slice (some ⟨gp, 0, none⟩) S.bl.length cap) wx → wx.cell? ⟨sb, 0, none⟩ = some (.slice (some ⟨gp, 0, none⟩) S.bl.length cap) := fun wx h => h.c0
 clear h hok hr hk hb hbl hl hwr hw2 z0 f0 x0
 go_in
 go_wp2_with fail
 refine (refuses_walk HM.out HK.out k).mono ?_
 rintro e w9 ⟨rfl, h9⟩
 have h9 := h9.symm
 subst h9
 rw [HR.out]
 go_wp2_with fail
 rw [← HW2.out]
 go_region_held3 (fun wx => Wq w2 sb gp k (.slice (some ⟨gp, 0, none⟩) S.bl.length cap) wx) (first | assumption | exact Wq.set (by assumption) HNE.out _)
  (first
   | (go_at_call 156; refine (clone_walk (v := .slice bo b.length bc) (l := b) (HB2.out.below (below_drewN _ _)) (Nat.le_trans HBL.out (by omega))).mono ?_; rintro e wC ⟨u', rfl, hoC, hBC⟩; obtain ⟨qo, qc, hqv, _⟩ := row_form hoC; subst hqv; have hSC : Wq w2 sb gp k (.slice (some ⟨gp, 0, none⟩) S.bl.length cap) wC := Wq.go (by assumption) hBC; obtain ⟨u0, z0⟩ := hSC.at'; have f0 := hSC.soft))
 obtain ⟨w3, hw3⟩ : ∃ w3, w3 = wC.setCell ⟨gp, k, none⟩ (.slice qo b.length qc) := ⟨_, rfl⟩
 have hBw : Below w2.heap.size w2 wC := below_trans (below_drewN w2 1) hBC
 have HM3 : Hid (DM T (fun x => D x ∨ (Value.slice qo b.length qc).ownBlock = some x) w3 sb gp cap { S with bl := S.bl.set k b, left := decL S.left }) := by
  show DM _ _ _ _ _ _ _
  rw [hw3]
  exact HM2.out.setRow (Ch.of_below hBw) HKL.out hoC (Nat.le_refl _)
 have HNW : Hid (∀ x, (Value.slice qo b.length qc).ownBlock = some x → w2.heap.size ≤ x) := fun x hx => (hoC.lt x hx).1
 have HC3 : Hid (Ch D w w3) := by
  show Ch _ _ _
  rw [hw3]
  exact (HC2.out.self (Ch.of_below hBw)).self (ch_put _ _ HM2.out.d2)
 rw [← hw3]
 have c4 := HM3.out.c4
 have f4 := HM3.out.soft 4
 clear hw3 hSC hBC hoC hBw z0 f0
 go_wp2_with fail
 go_ret
 refine ⟨by rw [HI.out]; rfl, ⟨_, ⟨sb, gp, cap, rfl, by rw [HS.out]; exact HM3.out.put 4 _ (S' := putS S k b) rfl rfl, by rw [HS.out]; exact ok_putD HK.out k HBL.out HBB.out⟩, fun x hx => ?_⟩, HC3.out.self (ch_put _ _ HM.out.d1)⟩
 rcases hx with hx | hx
 ·exact .inl hx
 ·exact .inr (Nat.le_trans HC2.out.size (HNW.out x hx))
theorem write_walk (h : Dsk T D w v S) (i : Int) (hb : Bv w bv b) (hwr : S.wr < 9223372036854775807) : Calls Tryz.prog 189 #[v, .int .i64 i, bv] w fun e w' => Wt T D w v S i b e w' := by
 have HW : Hid (Dsk T D w v S) := h
 obtain ⟨sb, gp, cap, rfl, h, hok⟩ := h
 have HM : Hid (DM T D w sb gp cap S) := h
 have HK : Hid S.ok := hok
 by_cases hr : refI S i = 0
 ·obtain ⟨hdn, k, rfl, hk⟩ := ref_ok hr
  by_cases hbl : b.length ≤ 1024
  ·by_cases hl0 : S.left = 0
   ·have HR : Hid (refI S k = 0) := hr
    have HI : Hid (writeI S k b = 80) := by show _ = _; unfold writeI; rw [if_neg (fun e => e hr), if_neg (by omega), if_pos hl0]
    have HS : Hid (writeS S k b = offS S) := by show _ = _; unfold writeS; rw [if_neg (fun e => e hr), if_neg (by omega), if_pos hl0]
    obtain ⟨bo, bc, rfl, _, _⟩ := bv_formD hb
    have c2 := h.c2
    rw [hl0] at c2
    have hbi : (b.length : Int) ≤ 1024 := by omega
    have hbd : decide ((1024 : Int) < (b.length : Int)) = false := decide_eq_false (by omega)
    clear h hok hr hk hb hbl hl0 hwr hdn
    go_in
    go_wp2_with fail
    refine (refuses_walk HM.out HK.out k).mono ?_
    rintro e w9 ⟨rfl, h9⟩
    have h9 := h9.symm
    subst h9
    rw [HR.out]
    go_wp2_with fail
    refine (off_walk HW.out).mono ?_
    rintro e w2 ⟨rfl, hD, hC⟩
    go_wp2_with fail
    go_ret
    exact ⟨by rw [HI.out]; rfl, ⟨D, by rw [HS.out]; exact hD, fun x hx => .inl hx⟩, hC⟩
   ·have hl0' := hok.l0
    by_cases hl1 : S.left = -1
    ·exact write_free h hok hr hk hb hbl hl1 hwr
    ·exact write_armed h hok hr hk hb hbl (by omega) hwr
  ·have HR : Hid (refI S k = 0) := hr
   have HA : Hid (Wt T D w (.pointer (some ⟨sb, 0, none⟩)) S k b (.returned (.int .i64 6)) w) := wt_same HW.out (by unfold writeI; rw [if_neg (fun e => e hr), if_pos (by omega)]) (by unfold writeS; rw [if_neg (fun e => e hr), if_pos (by omega)])
   obtain ⟨bo, bc, rfl, _, _⟩ := bv_formD hb
   have hbi : (1024 : Int) < (b.length : Int) := by omega
   clear h hok hr hk hb hbl hwr hdn
   go_in
   go_wp2_with fail
   refine (refuses_walk HM.out HK.out k).mono ?_
   rintro e w9 ⟨rfl, h9⟩
   have h9 := h9.symm
   subst h9
   rw [HR.out]
   go_wp2_with fail
   go_ret
   exact HA.out
 ·have HA : Hid (Wt T D w (.pointer (some ⟨sb, 0, none⟩)) S i b (.returned (.int .i64 (refI S i))) w) := wt_same HW.out (by unfold writeI; rw [if_pos hr]) (by unfold writeS; rw [if_pos hr])
  obtain ⟨q, hq⟩ : ∃ q, q = refI S i := ⟨_, rfl⟩
  rw [← hq] at HA hr
  have HQ : Hid (q = refI S i) := hq
  clear hq h hok hb hwr
  go_in
  go_wp2_with fail
  refine (refuses_walk HM.out HK.out i).mono ?_
  rintro e w9 ⟨rfl, h9⟩
  have h9 := h9.symm
  subst h9
  rw [← HQ.out]
  go_wp2_with fail
  go_ret
  exact HA.out
end
end
section
open Go.RowKit

def loadS (ls : List (List Nat)) : Dk := ⟨ls, false, -1, 0, 0⟩
theorem ok_load {ls : List (List Nat)} (h1 : 1 ≤ ls.length) (h64 : ls.length ≤ 64) (hl : ∀ b ∈ ls, b.length ≤ 1024) (hb : ∀ b ∈ ls, ∀ c ∈ b, c < 256) : (loadS ls).ok := ⟨h1, h64, hl, hb, Int.le_refl _, by show (-1 : Int) < _; omega⟩
theorem ok_new {n : Nat} (h1 : 1 ≤ n) (h64 : n ≤ 64) : (loadS (List.replicate n [])).ok :=
 ok_load (by simpa using h1) (by simpa using h64) (fun b hb => by rw [(List.mem_replicate.1 hb).2]; simp) (fun b hb c hc => by rw [(List.mem_replicate.1 hb).2] at hc; simp at hc)
theorem Gr.fit {E : Nat → Prop} {w : World} {g cap : Nat} {ls : List (List Nat)} (h : Gr E w g cap ls) : Gr (fun x => E x ∧ x < w.heap.size) w g cap ls := by
 obtain ⟨⟨cur, h1, h2, h3⟩, h4⟩ := h
 refine ⟨⟨cur, h1, h2, fun i hi => ?_⟩, h4⟩
 obtain ⟨u, a, b, c⟩ := h3 i hi
 exact ⟨u, a, b, fun x hx => ⟨c x hx, (b.lt x hx).2⟩⟩
def Nw (T : TypeId) (w : World) (ls : List (List Nat)) (e : Ending) (w' : World) : Prop :=
 ∃ (v : Value) (D : Nat → Prop), e = .returned (.tuple #[v, .int .i64 0]) ∧ Dsk T D w' v (loadS ls) ∧ Below w.heap.size w w' ∧ ∀ x, D x → w.heap.size ≤ x
theorem nw_end {T : TypeId} {w wz : World} {ls : List (List Nat)} {g cap : Nat} (hok : (loadS ls).ok) (hG : Gr (fun x => w.heap.size ≤ x) wz g cap ls) (hg : w.heap.size ≤ g) (hB : Below w.heap.size w wz) :
  Nw T w ls (.returned (.tuple #[.pointer (some ⟨wz.heap.size, 0, none⟩), .int .i64 0])) (wz.alloc (.cells #[.slice (some ⟨g, 0, none⟩) ls.length cap, .bool false, .int .i64 (-1), .int .i64 0, .int .i64 0] T)) := by
 refine ⟨_, fun x => w.heap.size ≤ x ∧ x < wz.heap.size + 1, rfl, ⟨_, g, cap, rfl, ⟨heap_alloc_new wz _, ?_, ?_, ⟨hB.size, by omega⟩, ⟨hg, ?_⟩, fun x hx => by simpa [go_sem] using hx.2⟩, hok⟩, below_trans hB (below_alloc _ _), fun x hx => hx.1⟩
 ·exact (hG.fit.below (below_alloc _ _)).mono (fun x hx => ⟨⟨hx.1, by omega⟩, by omega⟩)
 ·have := hG.lt; omega
 ·have := hG.lt; omega
theorem new_walk {n : Nat} {w : World} (h1 : 1 ≤ n) (h64 : n ≤ 64) : Calls Tryz.prog 12 #[.int .i64 n] w fun e w' => Nw 113 w (List.replicate n []) e w' := by
 have hmk := make_rows h64
 obtain ⟨Z, hZ⟩ : ∃ Z, Z = madeCells #[.slice none 0 0] (n * 1) := ⟨_, rfl⟩
 rw [← hZ] at hmk
 have HG : Hid (Gr (fun x => w.heap.size ≤ x) (w.alloc (.cells Z 99)) w.heap.size n (List.replicate n [])) := made_gr _ w h64 hZ
 have HK : Hid ((loadS (List.replicate n [])).ok) := ok_new h1 h64
 have hi1 : (1 : Int) ≤ n := by omega
 have hi2 : (n : Int) ≤ 64 := by omega
 clear hZ h1 h64
 go_in
 go_wp2_with fail
 go_ret2
 have := nw_end (T := 113) HK.out HG.out (Nat.le_refl _) (below_alloc w _)
 rw [List.length_replicate] at this
 simpa [go_sem] using this
end
section
open Go.RowKit
end
section
open Go.RowKit

section

variable {T : TypeId} {D D' : Nat → Prop} {w w' : World} {v : Value} {g i : Nat} {u : Value} {S : Dk} {ls : List (List Nat)} {b : List Nat}

theorem ref_in {k : Nat} (hd : S.down = false) (hk : k < S.bl.length) : refI S k = 0 := by unfold refI; rw [hd, if_neg (by simp), if_neg (by omega)]
theorem write_in {k : Nat} (hd : S.down = false) (hk : k < S.bl.length) (hl : S.left ≠ 0) (hb : b.length ≤ 1024) : writeI S k b = 0 ∧ writeS S k b = putS S k b := by
 have hr := ref_in hd hk
 exact ⟨by unfold writeI; rw [if_neg (fun e => e hr), if_neg (by omega), if_neg hl], by unfold writeS; rw [if_neg (fun e => e hr), if_neg (by omega), if_neg hl]; simp⟩
theorem read_in {k : Nat} (hd : S.down = false) (hk : k < S.bl.length) : refI S k = 0 ∧ readL S k = bk S.bl k ∧ readS S k = { S with rd := S.rd + 1 } := by
 have hr := ref_in hd hk
 exact ⟨hr, by unfold readL; rw [if_pos hr]; simp, by unfold readS; rw [if_pos hr]⟩
end
end
section
open Go.RowKit

def Tw (w : World) (v : Value) (t : List Nat) : Prop := Sv .i64 w v (ib t)
theorem ib_at {t : List Nat} {i : Nat} (h : i < t.length) : (ib t).getD i 0 = (tn t i : Nat) := by
 unfold ib tn; simp [List.getD, h]
theorem Tw.below {w w' : World} {v : Value} {t : List Nat} (h : Tw w v t) (hb : Below w.heap.size w w') : Tw w' v t := Sv.below h hb
theorem Tw.form {w : World} {v : Value} {t : List Nat} (h : Tw w v t) : ∃ ao cap, v = .slice ao t.length cap ∧ t.length ≤ cap ∧ cap ≤ maxLen := by
 obtain ⟨ao, cap, rfl, h1, h2, h3, h4⟩ := h
 rw [ib_len] at h1 ⊢
 exact ⟨ao, cap, rfl, h1, h2⟩
theorem Tw.at {w : World} {ao : Option Addr} {n cap : Nat} {t : List Nat} (h : Tw w (.slice ao n cap) t) {i : Nat} (hi : i < t.length) : ∃ b off, ao = some ⟨b, off, none⟩ ∧ w.cell? ⟨b, off + i, none⟩ = some (.int .i64 (tn t i : Nat)) := by
 obtain ⟨ao', cap', e, h1, h2, h3, h4⟩ := h
 simp only [Value.slice.injEq] at e
 obtain ⟨b, off, e1, e2⟩ := h4 i (by rw [ib_len]; exact hi)
 rw [ib_at hi] at e2
 exact ⟨b, off, e.1.trans e1, e2⟩
theorem index_walk {w : World} {v : Value} {t : List Nat} (h : Tw w v t) (x : Nat) :
  Calls Tryz.prog 286 #[v, .int .i64 x] w fun e w' => (∃ r : Int, e = .returned (.int .i64 r) ∧ ((0 ≤ r ∧ x ∈ t) ∨ (r = -1 ∧ x ∉ t))) ∧ w' = w := by
 have HT : Hid (Tw w v t) := h
 obtain ⟨ao, cap, rfl, h1, h2⟩ := h.form
 have hli : (t.length : Int) ≤ 9223372036854775807 := by simp only [maxLen] at h2; omega
 clear h h1 h2
 go_in
 go_wp2_with fail
 go_loop [8] (fun iv => ∃ k : Nat, k ≤ t.length ∧ iv = .int .i64 k ∧ ∀ i, i < k → tn t i ≠ x) (fun iv => t.length - (intOf iv).toNat)
 case atStart => exact ⟨0, Nat.zero_le _, rfl, fun i hi => by omega⟩
 case round =>
  obtain ⟨k, hk, rfl, hsm⟩ := hrel
  have HSM : Hid (∀ i, i < k → tn t i ≠ x) := hsm
  clear hsm
  by_cases hlt : k < t.length
  ·obtain ⟨b, off, rfl, hc⟩ := HT.out.at hlt
   obtain ⟨y, hy⟩ : ∃ y, y = tn t k := ⟨_, rfl⟩
   rw [← hy] at hc
   have HY : Hid (y = tn t k) := hy
   have hlti : (k : Int) < (t.length : Int) := by omega
   clear hy
   by_cases he : x = y
   ·have heb : ((x : Int) == (y : Int)) = true := by simp [he]
    have HE : Hid (x = y) := he
    clear he
    go_wp2_with fail
    (try simp only [Exit.inBlock, Exit.then])
    go_ret
    exact ⟨⟨_, rfl, .inl ⟨by omega, by rw [HE.out, HY.out]; exact tn_mem hlt⟩⟩, rfl⟩
   ·have heb : ((x : Int) == (y : Int)) = false := by simp; omega
    have HE : Hid (x ≠ y) := he
    clear he
    go_wp2_with fail
    go_round
    case rel =>
     refine ⟨k + 1, hlt, by simp, fun i hi => ?_⟩
     by_cases e : i = k
     ·rw [e, ← HY.out]; exact fun e => HE.out e.symm
     ·exact HSM.out i (by omega)
    case measure => simp [intOf]; omega
  ·have hlti : ¬ (k : Int) < (t.length : Int) := by omega
   go_wp2_with fail
   go_ret
   refine ⟨⟨_, rfl, .inr ⟨rfl, fun hm => ?_⟩⟩, rfl⟩
   obtain ⟨i, hi, e⟩ := List.getElem_of_mem hm
   exact HSM.out i (by omega) (by rw [tn_at hi]; exact e)
theorem contains_walk {w : World} {v : Value} {t : List Nat} (h : Tw w v t) (x : Nat) :
  Calls Tryz.prog 245 #[v, .int .i64 x] w fun e w' => e = .returned (.bool (decide (x ∈ t))) ∧ w' = w := by
 have HT : Hid (Tw w v t) := h
 clear h
 by_cases hx : x ∈ t
 ·rw [decide_eq_true hx]
  have HX : Hid (x ∈ t) := hx
  clear hx
  go_in
  go_wp2_with fail
  refine (index_walk HT.out x).mono ?_
  rintro e w1 ⟨⟨r, rfl, hr⟩, h9⟩
  have h9 := h9.symm
  subst h9
  have hr0 : 0 ≤ r := by
   rcases hr with h | h
   ·exact h.1
   ·exact absurd HX.out h.2
  clear hr
  go_wp2_with fail
  go_ret
  exact ⟨rfl, rfl⟩
 ·rw [decide_eq_false hx]
  have HX : Hid (x ∉ t) := hx
  clear hx
  go_in
  go_wp2_with fail
  refine (index_walk HT.out x).mono ?_
  rintro e w1 ⟨⟨r, rfl, hr⟩, h9⟩
  have h9 := h9.symm
  subst h9
  have hr0 : r = -1 := by
   rcases hr with h | h
   ·exact absurd h.2 HX.out
   ·exact h.1
  clear hr
  subst hr0
  go_wp2_with fail
  go_ret
  exact ⟨rfl, rfl⟩
theorem clonet_walk {v : Value} {t : List Nat} {w : World} (ho : Tw w v t) (hl : t.length ≤ 8) :
  Calls Tryz.prog 194 #[v] w fun e w' => ∃ v', e = .returned v' ∧ w'.ownsRow w.heap.size 3 1 v' t.length ((ib t).map (Value.int .i64)) ∧ Below w.heap.size w w' := by
 have HO : Hid (Tw w v t) := ho
 obtain ⟨ao, cap, rfl, h1, h2, h3, _⟩ := ho
 rw [ib_len] at h1
 rw [ib_len] at HO ⊢
 have HL : Hid (t.length ≤ 8) := hl
 have H3 : Hid (ao = none → cap = 0) := h3
 have H1 : Hid (t.length ≤ cap) := h1
 have q : ∀ (w : World) (a : Option Addr) (n c : Nat), (binOp .eql 168 (.slice a n c) (.slice none 0 0)).run Tryz.prog w = .ok (.bool a.isNone) w := fun w a n c => Lib.run_eql_slice_nil w 168 3 a n c 0 0 Tryz.underlying168
 clear hl h1 h2 h3
 cases ao with
 | none =>
  have hc := H3.out rfl
  subst hc
  have hl0 : t.length = 0 := by have := H1.out; omega
  have hl : t = [] := List.eq_nil_of_length_eq_zero hl0
  subst hl
  rw [List.length_nil]
  go_in
  go_wp2_with fail
  go_ret
  exact ⟨_, rfl, World.ownsRow_nil _ _ _ _, below_same _⟩
 | some p =>
  go_in
  go_wp2_with (at_builtin; refine wpList_append_sv (by rfl) _ _ 168 (by rfl) w.heap.size 3 .i64 8 Tryz.underlying168 info_i64 _ 0 [] (by rfl) (World.ownsRow_made w #[] 0 (Nat.le_refl _) (by simp [maxLen]) (by simp)) _ (ib t) (by rfl) (HO.out.below (below_alloc _ _)) (by have := HL.out; rw [ib_len]; simp [maxLen]; omega) (by have := HL.out; rw [ib_len]; omega) (by simp) ?_; intro v' w2 hown hgrow; go_frame)
  go_ret
  refine ⟨_, rfl, by rw [ib_len] at hown; simpa using hown, ?_⟩
  exact (below_alloc w (Obj.cells #[] 3)).grown hgrow (by simp) (by simp [Value.ownBlock])
theorem bfor_walk {w : World} (n : Nat) (h : n ≤ 64) : Calls Tryz.prog 109 #[.int .i64 n] w fun e w' => e = .returned (.int .i64 (2 + 2 * (n : Int))) ∧ w' = w := by
 have r1 : IntKind.i64.wrap (2 * (n : Int)) = 2 * (n : Int) := wrapU (by omega) (by omega)
 have r2 : IntKind.i64.wrap (2 + 2 * (n : Int)) = 2 + 2 * (n : Int) := wrapU (by omega) (by omega)
 clear h
 go_in
 go_wp2_with fail
 go_ret
 exact ⟨rfl, rfl⟩
def hasB (n : Nat) (p : Int) : Bool := decide (0 ≤ p ∧ p < (n : Int))
theorem has_walk {w : World} {v : Value} {t : List Nat} (g : Nat) (h : Tw w v t) (p : Int) :
  Calls Tryz.prog 193 #[.agg #[.int .u64 g, v], .int .i64 p] w fun e w' => e = .returned (.bool (hasB t.length p)) ∧ Below w.heap.size w w' := by
 obtain ⟨ao, cap, rfl, h1, h2⟩ := h.form
 clear h h1 h2
 by_cases h0 : 0 ≤ p
 ·by_cases hn : p < (t.length : Int)
  ·have HR : Hid (hasB t.length p = true) := decide_eq_true ⟨h0, hn⟩
   rw [HR.out]
   go_in
   go_wp2_with fail
   go_ret
   exact ⟨rfl, below_alloc _ _⟩
  ·have HR : Hid (hasB t.length p = false) := decide_eq_false (fun e => hn e.2)
   rw [HR.out]
   have hn2 : (t.length : Int) ≤ p := by omega
   have hd : decide (p < (t.length : Int)) = false := decide_eq_false hn
   clear hn
   go_in
   go_wp2_with fail
   go_ret
   exact ⟨rfl, below_alloc _ _⟩
 ·have HR : Hid (hasB t.length p = false) := decide_eq_false (fun e => h0 e.1)
  rw [HR.out]
  go_in
  go_wp2_with fail
  go_ret
  exact ⟨rfl, below_alloc _ _⟩
theorem behind_walk {w : World} {v : Value} {t : List Nat} (g : Nat) (h : Tw w v t) (ht : ∀ x ∈ t, x < 64) {b : Nat} (hb : b < 64) :
  Calls Tryz.prog 195 #[.agg #[.int .u64 g, v], .int .i64 b] w fun e w' => e = .returned (.int .i64 (nextF t b : Nat)) ∧ Below w.heap.size w w' := by
 obtain ⟨w0, hw0⟩ : ∃ w0, w0 = w.alloc (Obj.cells #[.int .u64 g, v] 170) := ⟨_, rfl⟩
 have HB0 : Hid (Below w.heap.size w w0) := by show Below _ _ _; rw [hw0]; exact below_alloc _ _
 have HT : Hid (Tw w0 v t) := h.below HB0.out
 have HW0 := hidH hw0
 have c1 : w0.cell? ⟨w.heap.size, 1, none⟩ = some v := by rw [hw0]; simp [go_sem]
 have HTL : Hid (∀ x ∈ t, x < 64) := ht
 clear h hw0 ht
 go_in
 go_wp2_with fail
 rw [← HW0.out]
 go_loop [1] (fun iv => ∃ k : Nat, k ≤ 64 ∧ iv = .int .i64 k ∧ b < k ∧ ∀ y, b < y → y < k → y ∈ t) (fun iv => 65 - (intOf iv).toNat)
 case atStart => exact ⟨b + 1, by omega, by simp, by omega, fun y h1 h2 => by omega⟩
 case round =>
  obtain ⟨k, hk, rfl, hbk, hm⟩ := hrel
  have HM : Hid (∀ y, b < y → y < k → y ∈ t) := hm
  clear hm
  go_wp2_with fail
  refine (contains_walk HT.out k).mono ?_
  rintro e w1 ⟨rfl, h9⟩
  have h9 := h9.symm
  subst h9
  by_cases hx : k ∈ t
  ·have HX : Hid (k ∈ t) := hx
   have hk2 : k < 64 := HTL.out k hx
   rw [decide_eq_true hx]
   clear hx
   go_wp2_with fail
   go_round
   case rel =>
    refine ⟨k + 1, by omega, by simp, by omega, fun y h1 h2 => ?_⟩
    by_cases e : y = k
    ·rw [e]; exact HX.out
    ·exact HM.out y h1 (by omega)
   case measure => simp [intOf]; omega
  ·have HX : Hid (nextF t b = k) := next_is HTL.out hbk hx HM.out
   rw [decide_eq_false hx]
   clear hx
   go_wp2_with fail
   go_ret
   exact ⟨by rw [HX.out]; rfl, HB0.out⟩
end
end Go.Proofs.YtofkhgokfdpdiaaGreat
