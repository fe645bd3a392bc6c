/- Contracts of the reader's has, value. -/
import Derived.Test.YtjcmmhonidamoaaBg
namespace Go.Proofs.Ytjcmmhonidamoaa
open Go.RowKit
variable {M : Nat}

theorem Ch.frozen {D : Nat → Prop} {w w' : World} {p : Addr} {u : Value} (h : Ch D w w') (hp : w.cell? p = some u) (hd : ¬ D p.block) {j : Nat} : w'.frozen? ⟨p.block, j, none⟩ = w.frozen? ⟨p.block, j, none⟩ := by
  have := h.block p.block (cell_lt hp) hd
  simp only [World.frozen?, this]
/-- A value's block. -/
structure VB (w : World) (b : Nat) (v : Vl) : Prop where
  c0 : w.cell? ⟨b, 0, none⟩ = some (.bool v.h)
  c1 : w.cell? ⟨b, 1, none⟩ = some (.int .u64 v.b)
  z : ∀ j, w.frozen? ⟨b, j, none⟩ = false
theorem vb_new (w : World) (v : Vl) : VB (w.alloc (Obj.cells #[.bool v.h, .int .u64 v.b] 35)) w.heap.size v := by
  constructor <;> simp [go_sem]
theorem VB.ch {D : Nat → Prop} {w w' : World} {b : Nat} {v : Vl} (h : VB w b v) (hc : Ch D w w') (hd : ¬ D b) : VB w' b v :=
  ⟨hc.cell h.c0 hd, hc.cell h.c1 hd, fun j => by rw [hc.frozen h.c0 hd]; exact h.z j⟩
theorem RD.setB {w : World} {R B j : Nat} {v u : Value} {l : List Nat} {f : Nat} (h : RD M w R v l f) (hne : B ≠ R) (hp : w.cell? ⟨B, j, none⟩ = some u) (hu : ∀ x, u ≠ .int .u8 x) (u' : Value) : RD M (w.setCell ⟨B, j, none⟩ u') R v l f :=
  ⟨by rw [World.cell?_setCell_other _ _ _ _ (by rintro ⟨⟩; exact hne rfl)]; exact h.c0, by rw [World.cell?_setCell_other _ _ _ _ (by rintro ⟨⟩; exact hne rfl)]; exact h.c1, fun k => by simpa [go_sem] using h.z k, h.bv.set hp hu _, h.m⟩
/-- A reader beside a value's block that is written over. -/
theorem RD.setV {w : World} {R B : Nat} {v : Value} {a : Vl} {l : List Nat} {f : Nat} (h : RD M w R v l f) (hv : VB w B a) (hne : B ≠ R) (y : Bool) (x : Int) : RD M ((w.setCell ⟨B, 0, none⟩ (.bool y)).setCell ⟨B, 1, none⟩ (.int .u64 x)) R v l f :=
  (h.setB hne hv.c0 (by intro x e; cases e) _).setB hne (u := .int .u64 a.b) (by rw [World.cell?_setCell_other _ _ _ _ (by rintro ⟨⟩)]; exact hv.c1) (by intro x e; cases e) _
theorem ch_set2 {w0 w : World} {R B : Nat} (h : Ch (fun x => x = R) w0 w) (hB : w0.heap.size ≤ B) (i j : Nat) (u v : Value) : Ch (fun x => x = R) w0 ((w.setCell ⟨B, i, none⟩ u).setCell ⟨B, j, none⟩ v) :=
  (h.trans (ch_set _ _ _ _) (fun x hx => by subst hx; exact .inr hB)).trans (ch_set _ _ _ _) (fun x hx => by subst hx; exact .inr hB)

def hasX (l : List Nat) : Nat := l.headD 0
def hasL (l : List Nat) : List Nat := l.drop 1
def hasF (l : List Nat) (f : Nat) : Nat := match l with
  | [] => refu true 3 f
  | c :: _ => refu (decide (3 < c)) 4 f
def valX (t : Bool) (l : List Nat) : Vl := if t = true ∧ 8 ≤ l.length then ⟨true, Wm.unw (l.take 8)⟩ else noV
def valL (t : Bool) (l : List Nat) : List Nat := if t = true ∧ 8 ≤ l.length then l.drop 8 else l
def valF (t : Bool) (l : List Nat) (f : Nat) : Nat := if t = true ∧ l.length < 8 then refu true 3 f else f

set_option maxHeartbeats 1000000 in
theorem has_walk {w : World} {R : Nat} {v : Value} {l : List Nat} {f : Nat} (h : RD M w R v l f) :
    Calls Try.prog 41 #[.pointer (some ⟨R, 0, none⟩)] w fun e w' => e = .returned (.int .u8 (hasX l : Nat)) ∧ (∃ v', RD M w' R v' (hasL l) (hasF l f)) ∧ Ch (fun x => x = R) w w' := by
  have HR : Hid (RD M w R v l f) := h
  have c0 := h.c0
  rcases bv_cases h.bv with ⟨rfl, ao, cap, rfl⟩ | ⟨b, off, cap, rfl, hp, h1, h2, h3⟩
  · clear h
    go_enter Try.func41, Try.ntmps41
    go_wp2_with fail
    refine (refuse_walk HR.out true 3).mono ?_
    rintro e9 w2 ⟨rfl, hR2, hC2⟩
    go_wp2_with fail
    go_ret
    exact ⟨rfl, ⟨_, hR2⟩, hC2⟩
  · have h256 := h.bv.2
    clear h
    cases l with
    | nil => simp at hp
    | cons c r =>
      have hb0 : w.cell? ⟨b, off, none⟩ = some (.int .u8 (c : Nat)) := by simpa using h3 0 (by simp)
      have HB0 : Hid (w.cell? ⟨b, off, none⟩ = some (.int .u8 (c : Nat))) := hb0
      have hc256 : c < 256 := h256 c (by simp)
      rw [List.length_cons] at *
      unfold maxLen at h2
      have hci : (cap : Int) ≤ 9223372036854775807 := by omega
      have hcl : ((r.length : Int) + 1) ≤ (cap : Int) := by omega
      have hp1 : (0 : Int) < (r.length : Int) + 1 := by omega
      have HLE : Hid (r.length + 1 ≤ cap) := h1
      have hl0 : ((r.length : Int) + 1 == 0) = false := by rw [beq_eq_false_iff_ne]; omega
      clear h1 h2 h3 hp h256
      have HX : Hid (hasF (c :: r) f = refu (decide (3 < c)) 4 f) := rfl
      have main : ∀ g : Bool, g = decide ((3 : Int) < (c : Int)) → Calls Try.prog 41 #[.pointer (some ⟨R, 0, none⟩)] w fun e w' => e = .returned (.int .u8 (c : Nat)) ∧ (∃ v', RD M w' R v' r (refu g 4 f)) ∧ Ch (fun x => x = R) w w' := by
        intro g hg
        cases g
        · have hg3 : ¬ (3 : Int) < (c : Int) := by simpa using hg.symm
          clear hg HX
          go_enter Try.func41, Try.ntmps41
          go_wp2_with fail
          refine (refuse_walk HR.out false 4).mono ?_
          rintro e9 w2 ⟨rfl, hR2, hC2⟩
          have HR2 : Hid (RD M w2 R (.slice (some ⟨b, off, none⟩) (r.length + 1) cap) (c :: r) (refu false 4 f)) := hR2
          have HC2 : Hid (Ch (fun x => x = R) w w2) := hC2
          have d0 := hR2.c0
          have z0 := hR2.z 0
          clear hR2 hC2 c0 hb0
          by_cases hc1 : cap = 1
          · have hr0 : r = [] := List.eq_nil_of_length_eq_zero (by have := HLE.out; omega)
            subst hc1 hr0
            go_wp2_with fail
            go_ret
            exact ⟨rfl, ⟨_, HR2.out.set0 (cut_end (l := []) (p := 0) (by simp)) rfl⟩, HC2.out.self (ch_set _ _ _ _)⟩
          · go_wp2_with fail
            go_ret
            have hz := cut_any HR2.out.bv rfl 1 (by simp) hc1
            exact ⟨rfl, ⟨_, HR2.out.set0 (by simpa [Addr.add] using hz) rfl⟩, HC2.out.self (ch_set _ _ _ _)⟩
        · have hg3 : (3 : Int) < (c : Int) := by simpa using hg.symm
          clear hg HX
          go_enter Try.func41, Try.ntmps41
          go_wp2_with fail
          refine (refuse_walk HR.out true 4).mono ?_
          rintro e9 w2 ⟨rfl, hR2, hC2⟩
          have HR2 : Hid (RD M w2 R (.slice (some ⟨b, off, none⟩) (r.length + 1) cap) (c :: r) (refu true 4 f)) := hR2
          have HC2 : Hid (Ch (fun x => x = R) w w2) := hC2
          have d0 := hR2.c0
          have z0 := hR2.z 0
          clear hR2 hC2 c0 hb0
          by_cases hc1 : cap = 1
          · have hr0 : r = [] := List.eq_nil_of_length_eq_zero (by have := HLE.out; omega)
            subst hc1 hr0
            go_wp2_with fail
            go_ret
            exact ⟨rfl, ⟨_, HR2.out.set0 (cut_end (l := []) (p := 0) (by simp)) rfl⟩, HC2.out.self (ch_set _ _ _ _)⟩
          · go_wp2_with fail
            go_ret
            have hz := cut_any HR2.out.bv rfl 1 (by simp) hc1
            exact ⟨rfl, ⟨_, HR2.out.set0 (by simpa [Addr.add] using hz) rfl⟩, HC2.out.self (ch_set _ _ _ _)⟩
      rw [HX.out]
      exact main (decide (3 < c)) (by congr 1; simp only [eq_iff_iff]; omega)

set_option maxHeartbeats 1000000 in
theorem value_walk {w : World} {R : Nat} {v : Value} {l : List Nat} {f : Nat} (h : RD M w R v l f) (t : Bool) :
    Calls Try.prog 42 #[.pointer (some ⟨R, 0, none⟩), .bool t] w fun e w' => e = .returned (.agg #[.bool (valX t l).h, .int .u64 (valX t l).b]) ∧ (∃ v', RD M w' R v' (valL t l) (valF t l f)) ∧ Ch (fun x => x = R) w w' := by
  have HR : Hid (RD M w R v l f) := h
  have HV0 : Hid (VB (w.alloc (Obj.cells #[.bool false, .int .u64 0] 35)) w.heap.size noV) := vb_new w noV
  have HNR : Hid (w.heap.size ≠ R) := by have := cell_lt h.c0; show _ ≠ _; simp only at this; omega
  have HRA : Hid (RD M (w.alloc (Obj.cells #[.bool false, .int .u64 0] 35)) R v l f) := h.below (below_alloc _ _)
  cases t
  · clear h
    have e1 : valX false l = noV := by unfold valX; rw [if_neg (by simp)]
    have e2 : valL false l = l := by unfold valL; rw [if_neg (by simp)]
    have e3 : valF false l f = f := by unfold valF; rw [if_neg (by simp)]
    rw [e1, e2, e3]
    go_enter Try.func42, Try.ntmps42
    go_wp2_with fail
    refine bodyPost_ret (by simp [results, Try.results42, go_sem, noV]) rfl ⟨rfl, ?_⟩
    exact ⟨⟨_, HRA.out⟩, Ch.of_below (below_alloc _ _)⟩
  · obtain ⟨ao, n, cap, hv⟩ : ∃ a n q, v = .slice a n q := by
      obtain ⟨⟨ao, cap, e, _⟩, _⟩ := h.bv
      exact ⟨ao, _, cap, e⟩
    subst hv
    obtain ⟨hn, hle, hmx⟩ := bv_le h.bv
    subst hn
    clear h
    have HLE : Hid (l.length ≤ cap) := hle
    unfold maxLen at hmx
    have hci : (cap : Int) ≤ 9223372036854775807 := by omega
    have hli : (l.length : Int) ≤ (cap : Int) := by omega
    clear hle hmx
    have c0 := HRA.out.c0
    by_cases h8 : l.length < 8
    · have e1 : valX true l = noV := by unfold valX; rw [if_neg (by omega)]
      have e2 : valL true l = l := by unfold valL; rw [if_neg (by omega)]
      have e3 : valF true l f = refu true 3 f := by unfold valF; rw [if_pos ⟨rfl, h8⟩]
      have HT : Hid (Wm.takeW l = (0, 3)) := if_pos h8
      rw [e1, e2, e3]
      clear e1 e2 e3 h8
      go_enter Try.func42, Try.ntmps42
      go_wp2_with fail
      refine (takew_walk HRA.out.bv).mono ?_
      rw [t2_litB HT.out]
      rintro e9 w9 ⟨rfl, hw9⟩
      have HRB : Hid (RD M w9 R (.slice ao l.length cap) l f) := by show RD _ _ _ _ _ _; rw [hw9]; exact HRA.out
      have HVB : Hid (VB w9 w.heap.size noV) := by show VB _ _ _; rw [hw9]; exact HV0.out
      have HCB : Hid (Ch (fun x => x = R) w w9) := by show Ch _ _ _; rw [hw9]; exact Ch.of_below (below_alloc _ _)
      clear hw9 c0
      go_wp2_with fail
      refine (refuse_walk HRB.out true 3).mono ?_
      rintro e9 w2 ⟨rfl, hR2, hC2⟩
      have HR2 : Hid (RD M w2 R (.slice ao l.length cap) l (refu true 3 f)) := hR2
      have HV2 : Hid (VB w2 w.heap.size noV) := HVB.out.ch hC2 HNR.out
      have HC2 : Hid (Ch (fun x => x = R) w w2) := HCB.out.self hC2
      obtain ⟨y0, y1, yz⟩ := HV2.out
      have z0 := yz 0
      have z1 := yz 1
      clear hR2 hC2
      go_wp2_with fail
      refine bodyPost_ret (by simp [results, Try.results42, go_sem, y0, y1, noV]) rfl ⟨rfl, ?_⟩
      exact ⟨⟨_, HR2.out.setV HV2.out HNR.out _ _⟩, ch_set2 HC2.out (Nat.le_refl _) _ _ _ _⟩
    · have e1 : valX true l = ⟨true, Wm.unw (l.take 8)⟩ := by unfold valX; rw [if_pos ⟨rfl, by omega⟩]
      have e2 : valL true l = l.drop 8 := by unfold valL; rw [if_pos ⟨rfl, by omega⟩]
      have e3 : valF true l f = f := by unfold valF; rw [if_neg (by omega)]
      obtain ⟨X, hX⟩ : ∃ X, Wm.unw (l.take 8) = X := ⟨_, rfl⟩
      have HT : Hid (Wm.takeW l = (X, 0)) := by show _ = _; rw [← hX]; exact if_neg h8
      rw [e1, e2, e3, hX]
      have H8 : Hid (8 ≤ l.length) := by show _ ≤ _; omega
      have h8i : (8 : Int) ≤ (l.length : Int) := by omega
      have h8c : (8 : Int) ≤ (cap : Int) := by omega
      clear e1 e2 e3 h8 hX
      go_enter Try.func42, Try.ntmps42
      go_wp2_with fail
      refine (takew_walk HRA.out.bv).mono ?_
      rw [t2_litB HT.out]
      rintro e9 w9 ⟨rfl, hw9⟩
      have HRB : Hid (RD M w9 R (.slice ao l.length cap) l f) := by show RD _ _ _ _ _ _; rw [hw9]; exact HRA.out
      have HVB : Hid (VB w9 w.heap.size noV) := by show VB _ _ _; rw [hw9]; exact HV0.out
      have HCB : Hid (Ch (fun x => x = R) w w9) := by show Ch _ _ _; rw [hw9]; exact Ch.of_below (below_alloc _ _)
      clear hw9 c0
      have d0 := HRB.out.c0
      have dz := HRB.out.z 0
      obtain ⟨b, off, rfl⟩ : ∃ b off, ao = some ⟨b, off, none⟩ := by
        rcases bv_cases HRB.out.bv with ⟨h0, _⟩ | ⟨b, off, cap', e, _⟩
        · have := H8.out; rw [h0] at this; simp at this
        · cases e; exact ⟨b, off, rfl⟩
      by_cases hc8 : cap = 8
      · have hl8 : l.length = 8 := by have := HLE.out; have := H8.out; omega
        have HL8 : Hid (l.length ≤ 8) := by show _ ≤ _; omega
        have HB8 : Hid (Bv w9 (.slice (some ⟨b, off, none⟩) (l.length - 8) 0) (l.drop 8)) := by show Bv _ _ _; rw [hl8]; exact cut_end HL8.out
        subst hc8
        clear hl8
        go_upto_region 8 with fail
        have HR2 : Hid (RD M (w9.setCell ⟨R, 0, none⟩ (.slice (some ⟨b, off, none⟩) (l.length - 8) 0)) R (.slice (some ⟨b, off, none⟩) (l.length - 8) 0) (l.drop 8) f) := HRB.out.set0 HB8.out rfl
        have HC2 : Hid (Ch (fun x => x = R) w (w9.setCell ⟨R, 0, none⟩ (.slice (some ⟨b, off, none⟩) (l.length - 8) 0))) := HCB.out.self (ch_set _ _ _ _)
        have HV2 : Hid (VB (w9.setCell ⟨R, 0, none⟩ (.slice (some ⟨b, off, none⟩) (l.length - 8) 0)) w.heap.size noV) := HVB.out.ch (ch_set _ _ _ _) HNR.out
        generalize w9.setCell ⟨R, 0, none⟩ (.slice (some ⟨b, off, none⟩) (l.length - 8) 0) = w3 at HR2 HC2 HV2 ⊢
        obtain ⟨y0, y1, yz⟩ := HV2.out
        have z0 := yz 0
        have z1 := yz 1
        clear d0 dz
        go_wp2_with fail
        refine bodyPost_ret (by simp [results, Try.results42, go_sem, y0, y1]) rfl ⟨rfl, ?_⟩
        exact ⟨⟨_, HR2.out.setV HV2.out HNR.out _ _⟩, ch_set2 HC2.out (Nat.le_refl _) _ _ _ _⟩
      · have HB8 : Hid (Bv w9 (.slice (some ⟨b, off + 8, none⟩) (l.length - 8) (cap - 8)) (l.drop 8)) := by
          have := cut_any HRB.out.bv rfl 8 H8.out hc8
          have e : (some (⟨b, off, none⟩ : Addr)).map (fun a => a.add 8) = some ⟨b, off + 8, none⟩ := by simp [WideShapes.add_plain]
          rw [e] at this
          exact this
        go_upto_region 8 with fail
        have HR2 : Hid (RD M (w9.setCell ⟨R, 0, none⟩ (.slice (some ⟨b, off + 8, none⟩) (l.length - 8) (cap - 8))) R (.slice (some ⟨b, off + 8, none⟩) (l.length - 8) (cap - 8)) (l.drop 8) f) := HRB.out.set0 HB8.out rfl
        have HC2 : Hid (Ch (fun x => x = R) w (w9.setCell ⟨R, 0, none⟩ (.slice (some ⟨b, off + 8, none⟩) (l.length - 8) (cap - 8)))) := HCB.out.self (ch_set _ _ _ _)
        have HV2 : Hid (VB (w9.setCell ⟨R, 0, none⟩ (.slice (some ⟨b, off + 8, none⟩) (l.length - 8) (cap - 8))) w.heap.size noV) := HVB.out.ch (ch_set _ _ _ _) HNR.out
        generalize w9.setCell ⟨R, 0, none⟩ (.slice (some ⟨b, off + 8, none⟩) (l.length - 8) (cap - 8)) = w3 at HR2 HC2 HV2 ⊢
        obtain ⟨y0, y1, yz⟩ := HV2.out
        have z0 := yz 0
        have z1 := yz 1
        clear d0 dz
        go_wp2_with fail
        refine bodyPost_ret (by simp [results, Try.results42, go_sem, y0, y1]) rfl ⟨rfl, ?_⟩
        exact ⟨⟨_, HR2.out.setV HV2.out HNR.out _ _⟩, ch_set2 HC2.out (Nat.le_refl _) _ _ _ _⟩
end Go.Proofs.Ytjcmmhonidamoaa
