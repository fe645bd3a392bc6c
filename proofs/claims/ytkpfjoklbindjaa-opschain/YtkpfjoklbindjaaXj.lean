/- The walk of OpsChain. -/
import Derived.Test.YtkpfjoklbindjaaXv
import Derived.Test.YtkpfjoklbindjaaXz
namespace Go.Proofs.Ytkpfjoklbindjaa
open Ieee Go.RowKit
attribute [local go_sem] run_store_float

theorem sameB_self' (a : Rcd) : sameB a a = true := by simp [sameB]
theorem rb_new' (w : World) (k x : Nat) (t : TypeId) : RB (w.alloc (Obj.cells #[.int .u64 k, .float .f64 x] t)) w.heap.size k x := by
  refine ⟨?_, ?_, ?_, ?_⟩ <;> simp [go_sem]

set_option maxRecDepth 100000 in
theorem chain_bad {v : Value} {l : List Stp} {w : World} (r : Rcd) (hr : r.ok) (a : Int) (ho : Ov w v l) (hc : checkB l = false) :
    Calls Try.prog 6 #[v, .agg #[.int .u64 r.k, .float .f64 r.x], .int .i64 a] w fun e w' => e = .returned (.bool true) ∧ Below w.heap.size w w' := by
  obtain ⟨⟨ao, cap, rfl, h1, h2, h3, h4⟩, h5⟩ := ho
  have HV : Hid (Ov w (.slice ao l.length cap) l) := ⟨⟨ao, cap, rfl, h1, h2, h3, h4⟩, h5⟩
  have HO : Hid (Ol w ao l) := h4
  have HL : Hid (l.length ≤ maxLen) := Nat.le_trans h1 h2
  have HR : Hid r.ok := hr
  have HC : Hid (chkI l = 30) := by show _ = _; unfold chkI; rw [hc]; rfl
  have HN : Hid (runS l r = (0, ⟨0, 0⟩)) := by show _ = _; unfold runS; rw [hc]; rfl
  clear h1 h2 h3 h4 h5 hr hc
  go_enter Try.func6, Try.ntmps6
  go_wp2_with fail
  generalize hg : w.alloc (Obj.cells #[Value.int IntKind.u64 r.k, Value.float FloatKind.f64 r.x] 31) = w0
  have HR0 : Hid (RB w0 w.heap.size r.k r.x) := by show RB _ _ _ _; rw [← hg]; exact rb_new' _ _ _ _
  have HB0 : Hid (Below w.heap.size w w0) := by show Below _ _ _; rw [← hg]; exact below_alloc _ _
  clear hg
  refine (awake_walk _).mono ?_
  rintro e w1 ⟨rfl, hB⟩
  have HB1 : Hid (Below w.heap.size w w1) := below_trans HB0.out hB
  have HR1 : Hid (RB w1 w.heap.size r.k r.x) := HR0.out.below hB (cell_lt HR0.out.c0)
  clear hB
  go_wp2_with fail
  refine (check_walk HL.out (HO.out.below HB1.out)).mono ?_
  rw [HC.out]
  rintro e w2 ⟨rfl, hB⟩
  have HB2 : Hid (Below w.heap.size w w2) := below_trans HB1.out hB
  have HR2 : Hid (RB w2 w.heap.size r.k r.x) := HR1.out.below hB (cell_lt HR1.out.c0)
  clear hB
  obtain ⟨c0, c1, _, _⟩ := HR2.out
  go_wp2_with fail
  refine (run_walk r HR.out (HV.out.below HB2.out)).mono ?_
  rw [HN.out]
  rintro e w3 ⟨rfl, hB⟩
  have HB3 : Hid (Below w.heap.size w w3) := below_trans HB2.out hB
  have HR3 : Hid (RB w3 w.heap.size r.k r.x) := HR2.out.below hB (cell_lt HR2.out.c0)
  have q0 : ∀ x : Obj, (w3.alloc x).cell? ⟨w.heap.size, 0, none⟩ = some (.int .u64 r.k) := fun x => (HR3.out.alloc x).c0
  have q1 : ∀ x : Obj, (w3.alloc x).cell? ⟨w.heap.size, 1, none⟩ = some (.float .f64 r.x) := fun x => (HR3.out.alloc x).c1
  clear hB c0 c1
  go_wp2_with fail
  generalize hg : w3.alloc (Obj.cells #[Value.int IntKind.u64 0, Value.float FloatKind.f64 0] 31) = w4
  have HT4 : Hid (RB w4 w3.heap.size 0 0) := by show RB _ _ _ _; rw [← hg]; exact rb_new' _ 0 _ _
  have HB4 : Hid (Below w.heap.size w w4) := by show Below _ _ _; rw [← hg]; exact below_trans HB3.out (below_alloc _ _)
  clear hg q0 q1
  refine (key_walk r HR.out (HV.out.below HB4.out)).mono ?_
  rw [HN.out]
  rintro e w5 ⟨rfl, hB⟩
  have HB5 : Hid (Below w.heap.size w w5) := below_trans HB4.out hB
  obtain ⟨c0, c1, _, _⟩ := HT4.out.below hB (cell_lt HT4.out.c0)
  clear hB
  go_wp2_with fail
  refine (same_walk ⟨0, 0⟩ ⟨0, 0⟩ _).mono ?_
  rw [show sameB ⟨0, 0⟩ ⟨0, 0⟩ = true by decide]
  rintro e w6 ⟨rfl, hB⟩
  have HB6 : Hid (Below w.heap.size w w6) := below_trans HB5.out hB
  clear hB
  go_wp2_with fail
  go_ret
  exact ⟨rfl, HB6.out⟩

/-- The cut v[:k] of a slice of steps. -/
theorem cut_lo {w : World} {ao : Option Addr} {cap : Nat} {l : List Stp} (h : Ov w (.slice ao l.length cap) l) {k : Nat} (hk : k ≤ l.length) : Ov w (.slice ao k cap) (l.take k) := by
  obtain ⟨⟨ao', cap', e, h1, h2, h3, h4⟩, h5⟩ := h
  simp only [Value.slice.injEq] at e
  obtain ⟨rfl, _, rfl⟩ := e
  have hl : (l.take k).length = k := by simp; omega
  refine ⟨⟨ao, cap, by rw [hl], by omega, h2, h3, fun i hi => ?_⟩, fun o ho => h5 o (List.mem_of_mem_take ho)⟩
  rw [hl] at hi
  obtain ⟨b, off, e, g0, g1, g2⟩ := h4 i (by omega)
  exact ⟨b, off, e, by simpa using g0, by simpa using g1, by simpa using g2⟩
/-- The cut v[k:]. -/
theorem cut_hi {w : World} {ao : Option Addr} {cap : Nat} {l : List Stp} (h : Ov w (.slice ao l.length cap) l) {k : Nat} (hk : k ≤ l.length) (c : Prop) [Decidable c] (hc : c ↔ cap = k) :
    Ov w (.slice (if c then ao else ao.map (·.add (k * 3))) (l.length - k) (cap - k)) (l.drop k) := by
  obtain ⟨⟨ao', cap', e, h1, h2, h3, h4⟩, h5⟩ := h
  simp only [Value.slice.injEq] at e
  obtain ⟨rfl, _, rfl⟩ := e
  refine ⟨⟨_, cap - k, by rw [List.length_drop], by rw [List.length_drop]; omega, by omega, ?_, fun i hi => ?_⟩, fun o ho => h5 o (List.mem_of_mem_drop ho)⟩
  · intro hn
    by_cases hcc : c
    · have := hc.1 hcc; omega
    · rw [if_neg hcc] at hn
      cases ao with
      | none => have := h3 rfl; omega
      | some p => simp at hn
  · rw [List.length_drop] at hi
    obtain ⟨b, off, e, g0, g1, g2⟩ := h4 (k + i) (by omega)
    subst e
    have hn : ¬ c := fun h => by have := hc.1 h; omega
    refine ⟨b, off + k * 3, by rw [if_neg hn]; simp [WideShapes.add_plain], ?_, ?_, ?_⟩
    · rw [show off + k * 3 + i * 3 = off + (k + i) * 3 by omega]; simpa using g0
    · rw [show off + k * 3 + i * 3 + 1 = off + (k + i) * 3 + 1 by omega]; simpa using g1
    · rw [show off + k * 3 + i * 3 + 2 = off + (k + i) * 3 + 2 by omega]; simpa using g2

/-- Where the loop of OpsChain stands: what is still to come makes the whole of it. -/
def CInv (l : List Stp) (r : Rcd) (i : Nat) (G : Int) (X : Rcd) : Prop :=
  (G = 1 ∧ goS l (canR r) = goS (l.drop i) (canR X) ∧ (0 < i → canonW X.x = X.x)) ∨ (¬ G = 1 ∧ goS l (canR r) = (G, X) ∧ 0 < i)
theorem cinv_start (l : List Stp) (r : Rcd) : CInv l r 0 1 r := .inl ⟨rfl, rfl, fun h => by omega⟩
theorem cinv_step {l : List Stp} {r X : Rcd} {i : Nat} (hc : checkB l = true) (hi : i < l.length) (h : CInv l r i 1 X) : CInv l r (i + 1) (oneS l[i] X).1 (oneS l[i] X).2 := by
  rcases h with ⟨_, h1, _⟩ | ⟨h0, _, _⟩
  · have hb := check_all hc hi
    rw [List.drop_eq_getElem_cons hi] at h1
    by_cases hf : fateI l[i] (canonW X.x) = 1
    · have e1 : oneS l[i] X = (1, nextR l[i] (canR X)) := one_keep hb hf
      have hcan : canonW (nextR l[i] (canR X)).x = (nextR l[i] (canR X)).x := nextR_can (canon_canon _)
      rw [goS_keep (r := canR X) hf] at h1
      refine .inl ?_
      rw [e1]
      exact ⟨rfl, by rw [canR_can hcan]; exact h1, fun _ => hcan⟩
    · have e1 : oneS l[i] X = (fateI l[i] (canonW X.x), ⟨0, 0⟩) := one_stop hb hf
      rw [goS_stop (r := canR X) hf] at h1
      refine .inr ?_
      rw [e1]
      exact ⟨hf, h1, by omega⟩
  · exact absurd rfl h0
theorem cinv_done {l : List Stp} {r X : Rcd} {i : Nat} {G : Int} (h : CInv l r i G X) (hl : 0 < l.length) (hi : i ≤ l.length) (hx : ¬ i < l.length ∨ ¬ G = 1) : goS l (canR r) = (G, X) := by
  rcases h with ⟨h0, h1, h2⟩ | ⟨_, h1, _⟩
  · subst h0
    have : i = l.length := by omega
    subst this
    rw [h1, List.drop_of_length_le (Nat.le_refl _), canR_can (h2 hl)]; rfl
  · exact h1
theorem cinv_nil {l : List Stp} {r X : Rcd} {i : Nat} {G : Int} (h : CInv l r i G X) (hl : l.length = 0) (hi : i ≤ l.length) : G = 1 ∧ goS l (canR r) = (1, canR X) := by
  rcases h with ⟨h0, h1, _⟩ | ⟨_, _, h2⟩
  · refine ⟨h0, ?_⟩
    rw [h1, List.drop_of_length_le (by omega)]; rfl
  · omega
theorem check_part {l m : List Stp} (h : checkB l = true) (hl : m.length ≤ l.length) (hm : ∀ o ∈ m, o ∈ l) : checkB m = true := by
  unfold checkB at *
  rw [Bool.and_eq_true] at *
  refine ⟨?_, List.all_eq_true.2 fun o ho => List.all_eq_true.1 h.2 o (hm o ho)⟩
  have := h.1
  simp at *; omega
theorem chain_split {l : List Stp} {r : Rcd} (hc : checkB l = true) (k : Nat) :
    ((runS (l.take k) r).1 = 1 → goS l (canR r) = runS (l.drop k) (runS (l.take k) r).2) ∧ (¬ (runS (l.take k) r).1 = 1 → goS l (canR r) = runS (l.take k) r) := by
  have c1 : checkB (l.take k) = true := check_part hc (by simp; omega) (fun o ho => List.mem_of_mem_take ho)
  have c2 : checkB (l.drop k) = true := check_part hc (by simp) (fun o ho => List.mem_of_mem_drop ho)
  have e : runS (l.take k) r = goS (l.take k) (canR r) := by unfold runS; rw [c1]; rfl
  have ha := goS_append (l.take k) (l.drop k) (canR r)
  rw [List.take_append_drop] at ha
  rw [e]
  constructor
  · intro h1
    rw [ha, if_pos h1]
    unfold runS
    rw [c2, if_pos rfl, canR_can (goS_can _ (canon_canon _))]
  · intro h1
    rw [ha, if_neg h1]

/-- The loop's relation. -/
def CRel (w0 : World) (l : List Stp) (r : Rcd) (bx ba : Nat) (R : Int × Rcd) (g iv : Value) (wr : World) : Prop :=
  ∃ (i : Nat) (G : Int) (X : Rcd), i ≤ l.length ∧ iv = .int .i64 i ∧ g = .int .i64 G ∧ X.ok ∧ CInv l r i G X ∧ RB wr bx X.k X.x ∧ RB wr ba R.2.k R.2.x ∧ Below w0.heap.size w0 wr

set_option maxHeartbeats 1500000 in
set_option maxRecDepth 100000 in
theorem chain_good {v : Value} {l : List Stp} {w : World} (r : Rcd) (hr : r.ok) (a : Int) (ho : Ov w v l) (hc : checkB l = true) :
    Calls Try.prog 6 #[v, .agg #[.int .u64 r.k, .float .f64 r.x], .int .i64 a] w fun e w' => e = .returned (.bool true) ∧ Below w.heap.size w w' := by
  obtain ⟨⟨ao, cap, rfl, h1, h2, h3, h4⟩, h5⟩ := ho
  have h8 : l.length ≤ 8 := by unfold checkB at hc; rw [Bool.and_eq_true] at hc; simpa using hc.1
  obtain ⟨k, hk1, hk2⟩ : ∃ k : Nat, wrap64 ((IntKind.u64.wrap a).tmod ((l.length : Int) + 1)) = (k : Int) ∧ k ≤ l.length := by
    have h0 : 0 ≤ IntKind.u64.wrap a := by rw [IntKind.wrap_u64]; omega
    have e0 := Int.emod_nonneg (IntKind.u64.wrap a) (show (l.length : Int) + 1 ≠ 0 by omega)
    have e1 := Int.emod_lt_of_pos (IntKind.u64.wrap a) (show 0 < (l.length : Int) + 1 by omega)
    rw [Int.tmod_eq_emod_of_nonneg h0]
    generalize IntKind.u64.wrap a % ((l.length : Int) + 1) = z at *
    exact ⟨z.toNat, by unfold wrap64; omega, by omega⟩
  have HV : Hid (Ov w (.slice ao l.length cap) l) := ⟨⟨ao, cap, rfl, h1, h2, h3, h4⟩, h5⟩
  have HO : Hid (Ol w ao l) := h4
  have HKO : Hid (∀ o ∈ l, o.ok) := h5
  have HL : Hid (l.length ≤ maxLen) := Nat.le_trans h1 h2
  have HR : Hid r.ok := hr
  have HC : Hid (chkI l = 0) := by show _ = _; unfold chkI; rw [hc]; rfl
  have HCK : Hid (checkB l = true) := hc
  have HN : Hid (runS l r = goS l (canR r)) := by show _ = _; unfold runS; rw [hc]; rfl
  obtain ⟨R, hRe⟩ : ∃ R, R = goS l (canR r) := ⟨_, rfl⟩
  have HE : Hid (R = goS l (canR r)) := hRe
  clear h3 h4 h5 hr hc hRe
  go_enter Try.func6, Try.ntmps6
  go_wp2_with fail
  generalize hg : w.alloc (Obj.cells #[Value.int IntKind.u64 r.k, Value.float FloatKind.f64 r.x] 31) = w0
  have HR0 : Hid (RB w0 w.heap.size r.k r.x) := by show RB _ _ _ _; rw [← hg]; exact rb_new' _ _ _ _
  have HB0 : Hid (Below w.heap.size w w0) := by show Below _ _ _; rw [← hg]; exact below_alloc _ _
  clear hg
  refine (awake_walk _).mono ?_
  rintro e w1 ⟨rfl, hB⟩
  have HB1 : Hid (Below w.heap.size w w1) := below_trans HB0.out hB
  have HR1 : Hid (RB w1 w.heap.size r.k r.x) := HR0.out.below hB (cell_lt HR0.out.c0)
  clear hB
  go_wp2_with fail
  refine (check_walk HL.out (HO.out.below HB1.out)).mono ?_
  rw [HC.out]
  rintro e w2 ⟨rfl, hB⟩
  have HB2 : Hid (Below w.heap.size w w2) := below_trans HB1.out hB
  have HR2 : Hid (RB w2 w.heap.size r.k r.x) := HR1.out.below hB (cell_lt HR1.out.c0)
  clear hB
  obtain ⟨c0, c1, _, _⟩ := HR2.out
  go_wp2_with fail
  refine (run_walk r HR.out (HV.out.below HB2.out)).mono ?_
  rw [HN.out, ← HE.out]
  rintro e w3 ⟨rfl, hB⟩
  have HB3 : Hid (Below w.heap.size w w3) := below_trans HB2.out hB
  have HR3 : Hid (RB w3 w.heap.size r.k r.x) := HR2.out.below hB (cell_lt HR2.out.c0)
  clear hB c0 c1
  go_wp2_with fail
  generalize hg : w3.alloc (Obj.cells #[Value.int IntKind.u64 R.2.k, Value.float FloatKind.f64 R.2.x] 31) = w4
  have HT4 : Hid (RB w4 w3.heap.size R.2.k R.2.x) := by show RB _ _ _ _; rw [← hg]; exact rb_new' _ _ _ _
  have HR4 : Hid (RB w4 w.heap.size r.k r.x) := by show RB _ _ _ _; rw [← hg]; exact HR3.out.alloc _
  have HB4 : Hid (Below w.heap.size w w4) := by show Below _ _ _; rw [← hg]; exact below_trans HB3.out (below_alloc _ _)
  clear hg
  obtain ⟨T, hTe⟩ : ∃ T, T = runS (l.take k) r := ⟨_, rfl⟩
  have HTE : Hid (T = runS (l.take k) r) := hTe
  clear hTe
  have k0 : ∀ wx, Below w4.heap.size w4 wx → wx.cell? ⟨w.heap.size, 0, none⟩ = some (.int .u64 r.k) := fun wx h => (HR4.out.below h (cell_lt HR4.out.c0)).c0
  have k1 : ∀ wx, Below w4.heap.size w4 wx → wx.cell? ⟨w.heap.size, 1, none⟩ = some (.float .f64 r.x) := fun wx h => (HR4.out.below h (cell_lt HR4.out.c0)).c1
  have hkc : (k : Int) ≤ (cap : Int) := by omega
  go_cut [14, 15] (fun p f wx => ∃ b', p = .pointer (some ⟨b', 0, none⟩) ∧ f = .int .i64 T.1 ∧ RB wx b' T.2.k T.2.x ∧ w4.heap.size ≤ b' ∧ Below w4.heap.size w4 wx)
  case first =>
    go_region_held3 (fun wx => Below w4.heap.size w4 wx) (first | assumption | exact (Below.refl _ _).drew | exact Below.drew ((Below.refl _ _).alloc (Nat.le_refl _) _) | exact Below.alloc (by assumption) (Below.size (by assumption)) _ | exact keep_store (by assumption) _ (Nat.le_refl _) _ _)
      (first | (go_at_call 12; refine (run_walk (l := l.take k) r HR.out (cut_lo (HV.out.below (below_trans HB4.out (by assumption))) hk2)).mono ?_; rw [← HTE.out]; rintro e w5 ⟨rfl, hB3⟩; have hS3 : Below w4.heap.size w4 w5 := below_trans (by assumption) hB3; try (have q0 := (new_rec hB3).c0; have q1 := (new_rec hB3).c1; have q2 := (new_rec hB3).z0; have q3 := (new_rec hB3).z1)))
    all_goals go_wp2_with fail
    all_goals go_meet
    · exact cut_new hS3 T
    · exact cut_old hS3 ⟨q0, q1, q2, q3⟩ T
  case rest =>
    obtain ⟨bx, rfl, rfl, hX, hbx, hBc⟩ := hcut
    obtain ⟨w6, hw6⟩ : ∃ w6, w6 = wc := ⟨_, rfl⟩
    subst hw6
    have HNE : Hid (w3.heap.size ≠ bx ∧ w.heap.size ≤ bx) := ⟨by have := cell_lt HT4.out.c0; simp only at this; omega, Nat.le_trans HB4.out.size hbx⟩
    have HNR : Hid (w.heap.size ≠ bx) := by have := cell_lt HR4.out.c0; simp only at this; show _ ≠ _; omega
    have HXB0 : Hid (RB w6 bx T.2.k T.2.x) := hX
    have HA0 : Hid (RB w6 w3.heap.size R.2.k R.2.x) := HT4.out.below hBc (cell_lt HT4.out.c0)
    have HRB0 : Hid (RB w6 w.heap.size r.k r.x) := HR4.out.below hBc (cell_lt HR4.out.c0)
    have HBW0 : Hid (Below w.heap.size w w6) := below_trans HB4.out hBc
    clear k0 k1 hX hBc hbx
    by_cases hT : T.1 = 1
    · have HT : Hid (T.1 = 1) := hT
      obtain ⟨U, hUe⟩ : ∃ U, U = runS (l.drop k) T.2 := ⟨_, rfl⟩
      have HU : Hid (U = runS (l.drop k) T.2) := hUe
      have HUR : Hid (U = R) := by show _ = _; rw [hUe, HE.out, (chain_split HCK.out k).1 (by rw [← HTE.out]; exact hT), HTE.out]
      have HTO : Hid T.2.ok := by show Rcd.ok _; rw [HTE.out]; exact runS_ok _ HR.out
      have b1 : (T.1 == 1) = true := by simpa using hT
      clear hUe hT
      obtain ⟨A, hA⟩ : ∃ A, (if cap = k then ao else ao.map (fun x => x.add (k * 3))) = A := ⟨_, rfl⟩
      have HVK : ∀ wx, Below w6.heap.size w6 wx → Hid (Ov wx (.slice A (l.length - k) (cap - k)) (l.drop k)) := fun wx h => by rw [← hA]; exact cut_hi (HV.out.below (below_trans HBW0.out h)) hk2 (cap = k) Iff.rfl
      have HD : Hid (Below w6.heap.size w6 w6.drew) := (Below.refl _ _).drew
      obtain ⟨d0, d1, y0, y1⟩ := HXB0.out
      go_wp2_with fail
      go_cut [15] (fun g wx => ∃ wy, Below w6.heap.size w6 wy ∧ g = .int .i64 U.1 ∧ wx = (wy.setCell ⟨bx, 0, none⟩ (.int .u64 U.2.k)).setCell ⟨bx, 1, none⟩ (.float .f64 U.2.x))
      case first =>
        go_region_with ((go_at_call 12; refine (run_walk (l := l.drop k) T.2 HTO.out (HVK w6.drew HD.out).out).mono ?_; rw [← HU.out]; rintro e w9 ⟨rfl, hB9⟩; have hS9 : Below w6.heap.size w6 w9 := below_trans HD.out hB9; have f0 := (HXB0.out.below hS9 (cell_lt HXB0.out.c0)).c0; have f1 := (HXB0.out.below hS9 (cell_lt HXB0.out.c0)).c1; have f2 := (HXB0.out.below hS9 (cell_lt HXB0.out.c0)).z0; have f3 := (HXB0.out.below hS9 (cell_lt HXB0.out.c0)).z1))
        all_goals go_wp2_with fail
        all_goals go_meet
        all_goals exact ⟨_, hS9, rfl, rfl⟩
      case rest =>
        clear hA HVK
        obtain ⟨wy, hBy, rfl, rfl⟩ := hcut
        rw [HUR.out]
        clear d0 d1 y0 y1
        generalize hg : (wy.setCell ⟨bx, 0, none⟩ (.int .u64 R.2.k)).setCell ⟨bx, 1, none⟩ (.float .f64 R.2.x) = w7
        have HXB : Hid (RB w7 bx R.2.k R.2.x) := by show RB _ _ _ _; rw [← hg]; exact (HXB0.out.below hBy (cell_lt HXB0.out.c0)).set _ _
        have HA : Hid (RB w7 w3.heap.size R.2.k R.2.x) := by show RB _ _ _ _; rw [← hg]; exact ((HA0.out.below hBy (cell_lt HA0.out.c0)).other HNE.out.1 _).other HNE.out.1 _
        have HRB : Hid (RB w7 w.heap.size r.k r.x) := by show RB _ _ _ _; rw [← hg]; exact ((HRB0.out.below hBy (cell_lt HRB0.out.c0)).other HNR.out _).other HNR.out _
        have HBW : Hid (Below w.heap.size w w7) := by show Below _ _ _; rw [← hg]; exact ((below_trans HBW0.out hBy).setCell HNE.out.2 _).setCell HNE.out.2 _
        clear hg hBy
        obtain ⟨s0, s1, _, _⟩ := HA.out
        obtain ⟨t0, t1, _, _⟩ := HXB.out
        go_wp2_with fail
        refine (same_walk R.2 R.2 _).mono ?_
        rw [sameB_self']
        rintro e w8 ⟨rfl, hB⟩
        have HB8 : Hid (Below w.heap.size w w8) := below_trans HBW.out hB
        have HA8 : Hid (RB w8 w3.heap.size R.2.k R.2.x) := HA.out.below hB (cell_lt HA.out.c0)
        have HX8 : Hid (RB w8 bx R.2.k R.2.x) := HXB.out.below hB (cell_lt HXB.out.c0)
        have HR8 : Hid (RB w8 w.heap.size r.k r.x) := HRB.out.below hB (cell_lt HRB.out.c0)
        clear hB s0 s1 t0 t1
        obtain ⟨c0, c1, _, _⟩ := HR8.out
        obtain ⟨d0, d1, y0, y1⟩ := HX8.out
        have R0 : CRel w l r bx w3.heap.size R (.int .i64 1) (.int .i64 0) ((w8.setCell ⟨bx, 0, none⟩ (.int .u64 r.k)).setCell ⟨bx, 1, none⟩ (.float .f64 r.x)) :=
          ⟨0, 1, r, Nat.zero_le _, rfl, rfl, HR.out, cinv_start l r, HX8.out.set _ _, (HA8.out.other HNE.out.1 _).other HNE.out.1 _, (HB8.out.setCell HNE.out.2 _).setCell HNE.out.2 _⟩
        go_wp2_with fail
        clear c0 c1 d0 d1 y0 y1
        go_loopw [15, 16] (fun g iv wr => CRel w l r bx w3.heap.size R g iv wr) (fun _ iv _ => l.length - (intOf iv).toNat)
        case atStart => exact R0
        case round =>
          clear R0
          obtain ⟨i, G, X, hi, rfl, rfl, hX, hI, h1, h2, hB⟩ := hrel
          have HIX : Hid X.ok := hX
          have HI : Hid (CInv l r i G X) := hI
          have HX1 : Hid (RB wr bx X.k X.x) := h1
          have HA1 : Hid (RB wr w3.heap.size R.2.k R.2.x) := h2
          have HBR : Hid (Below w.heap.size w wr) := hB
          clear hX hI h1 h2 hB
          by_cases hlt : i < l.length
          · by_cases hG : G = 1
            · subst hG
              obtain ⟨b, off, rfl, o0, o1, o2⟩ := HO.out.below HBR.out i hlt
              obtain ⟨o, hoe⟩ : ∃ o, o = l[i] := ⟨_, rfl⟩
              rw [← hoe] at o0 o1 o2
              have HOK : Hid o.ok := by show o.ok; rw [hoe]; exact HKO.out _ (List.getElem_mem hlt)
              have HOE : Hid (o = l[i]) := hoe
              clear hoe
              obtain ⟨U, hUe⟩ : ∃ U, U = oneS o X := ⟨_, rfl⟩
              have HU : Hid (U = oneS o X) := hUe
              clear hUe
              have HD9 : Hid (Below wr.heap.size wr wr.drew) := (Below.refl _ _).drew
              obtain ⟨d0, d1, y0, y1⟩ := HX1.out
              go_wp2_with fail
              go_region_with ((go_at_call 17; refine (one_walk o X HOK.out HIX.out _).mono ?_; rw [← HU.out]; rintro e w9 ⟨rfl, hB9⟩; have hS9 : Below wr.heap.size wr w9 := below_trans HD9.out hB9; have f0 := (HX1.out.below hS9 (cell_lt HX1.out.c0)).c0; have f1 := (HX1.out.below hS9 (cell_lt HX1.out.c0)).c1; have f2 := (HX1.out.below hS9 (cell_lt HX1.out.c0)).z0; have f3 := (HX1.out.below hS9 (cell_lt HX1.out.c0)).z1))
              all_goals
                have R' : CRel w l r bx w3.heap.size R (.int .i64 U.1) (.int .i64 ((i : Int) + 1)) ((w9.setCell ⟨bx, 0, none⟩ (.int .u64 U.2.k)).setCell ⟨bx, 1, none⟩ (.float .f64 U.2.x)) := by
                  refine ⟨i + 1, U.1, U.2, hlt, by simp, rfl, ?_, ?_, (HX1.out.below hS9 (cell_lt HX1.out.c0)).set _ _, ((HA1.out.below hS9 (cell_lt HA1.out.c0)).other HNE.out.1 _).other HNE.out.1 _, ((below_trans HBR.out hS9).setCell HNE.out.2 _).setCell HNE.out.2 _⟩
                  · rw [HU.out]; exact runS_ok _ HIX.out
                  · rw [HU.out, HOE.out]; exact cinv_step HCK.out hlt HI.out
                clear hS9
                go_wp2_with fail
                go_roundw
                case rel => exact R'
                case measure => simp [intOf]; omega
            · have hE : R = (G, X) := by rw [HE.out]; exact cinv_done HI.out (by omega) hi (.inr hG)
              have b1 : (G == 1) = false := by simpa using hG
              have b0 : ((l.length : Int) == 0) = false := by rw [beq_eq_false_iff_ne]; omega
              have HEE : Hid (R = (G, X)) := hE
              clear hE
              obtain ⟨d0, d1, y0, y1⟩ := HX1.out
              obtain ⟨s0, s1, _, _⟩ := HA1.out
              go_wp2_with fail
              refine (same_walk R.2 X _).mono ?_
              rw [HEE.out]
              rw [sameB_self']
              rintro e w9 ⟨rfl, hB⟩
              have HB9 : Hid (Below w.heap.size w w9) := below_trans HBR.out hB
              clear hB
              have e1 : (R.1 == G) = true := by rw [HEE.out]; simp
              go_wp2_with fail
              go_ret
              exact ⟨rfl, HB9.out⟩
          · by_cases h0 : l.length = 0
            · obtain ⟨hG1, hE⟩ := cinv_nil HI.out h0 hi
              subst hG1
              have b0 : ((l.length : Int) == 0) = true := by rw [beq_iff_eq]; omega
              have HEE : Hid (R = (1, canR X)) := by show _ = _; rw [HE.out]; exact hE
              clear hE
              obtain ⟨d0, d1, y0, y1⟩ := HX1.out
              go_wp2_with fail
              refine (canon_walk HIX.out.2 _).mono ?_
              rintro e w' ⟨rfl, rfl⟩
              obtain ⟨s0, s1, _, _⟩ := HA1.out.other (p := ⟨bx, 1, none⟩) HNE.out.1 (.float .f64 (canonW X.x))
              obtain ⟨t0, t1, _, _⟩ := HX1.out.set1 (canonW X.x)
              go_wp2_with fail
              refine (same_walk R.2 (canR X) _).mono ?_
              rw [HEE.out]
              rw [sameB_self']
              rintro e w9 ⟨rfl, hB⟩
              have HB9 : Hid (Below w.heap.size w w9) := below_trans (HBR.out.setCell HNE.out.2 _) hB
              clear hB
              have e1 : (R.1 == 1) = true := by rw [HEE.out]; simp
              go_wp2_with fail
              go_ret
              exact ⟨rfl, HB9.out⟩
            · have hE : R = (G, X) := by rw [HE.out]; exact cinv_done HI.out (by omega) hi (.inl hlt)
              have b0 : ((l.length : Int) == 0) = false := by rw [beq_eq_false_iff_ne]; omega
              have HEE : Hid (R = (G, X)) := hE
              clear hE
              obtain ⟨d0, d1, y0, y1⟩ := HX1.out
              obtain ⟨s0, s1, _, _⟩ := HA1.out
              go_wp2_with fail
              refine (same_walk R.2 X _).mono ?_
              rw [HEE.out]
              rw [sameB_self']
              rintro e w9 ⟨rfl, hB⟩
              have HB9 : Hid (Below w.heap.size w w9) := below_trans HBR.out hB
              clear hB
              have e1 : (R.1 == G) = true := by rw [HEE.out]; simp
              go_wp2_with fail
              go_ret
              exact ⟨rfl, HB9.out⟩
    · have HUR : Hid (T = R) := by show _ = _; rw [HE.out, (chain_split HCK.out k).2 (by rw [← HTE.out]; exact hT), HTE.out]
      have b1 : (R.1 == 1) = false := by rw [← HUR.out]; simpa using hT
      have HXB : Hid (RB w6 bx R.2.k R.2.x) := by show RB _ _ _ _; rw [← HUR.out]; exact HXB0.out
      have HA := HA0
      have HRB := HRB0
      have HBW := HBW0
      clear hT HA0 HRB0 HBW0 HXB0
      rw [HUR.out]
      obtain ⟨s0, s1, _, _⟩ := HA.out
      obtain ⟨t0, t1, _, _⟩ := HXB.out
      go_wp2_with fail
      refine (same_walk R.2 R.2 _).mono ?_
      rw [sameB_self']
      rintro e w8 ⟨rfl, hB⟩
      have HB8 : Hid (Below w.heap.size w w8) := below_trans HBW.out hB
      have HA8 : Hid (RB w8 w3.heap.size R.2.k R.2.x) := HA.out.below hB (cell_lt HA.out.c0)
      have HX8 : Hid (RB w8 bx R.2.k R.2.x) := HXB.out.below hB (cell_lt HXB.out.c0)
      have HR8 : Hid (RB w8 w.heap.size r.k r.x) := HRB.out.below hB (cell_lt HRB.out.c0)
      clear hB s0 s1 t0 t1
      obtain ⟨c0, c1, _, _⟩ := HR8.out
      obtain ⟨d0, d1, y0, y1⟩ := HX8.out
      have R0 : CRel w l r bx w3.heap.size R (.int .i64 1) (.int .i64 0) ((w8.setCell ⟨bx, 0, none⟩ (.int .u64 r.k)).setCell ⟨bx, 1, none⟩ (.float .f64 r.x)) :=
        ⟨0, 1, r, Nat.zero_le _, rfl, rfl, HR.out, cinv_start l r, HX8.out.set _ _, (HA8.out.other HNE.out.1 _).other HNE.out.1 _, (HB8.out.setCell HNE.out.2 _).setCell HNE.out.2 _⟩
      go_wp2_with fail
      clear c0 c1 d0 d1 y0 y1
      go_loopw [15, 16] (fun g iv wr => CRel w l r bx w3.heap.size R g iv wr) (fun _ iv _ => l.length - (intOf iv).toNat)
      case atStart => exact R0
      case round =>
        clear R0
        obtain ⟨i, G, X, hi, rfl, rfl, hX, hI, h1, h2, hB⟩ := hrel
        have HIX : Hid X.ok := hX
        have HI : Hid (CInv l r i G X) := hI
        have HX1 : Hid (RB wr bx X.k X.x) := h1
        have HA1 : Hid (RB wr w3.heap.size R.2.k R.2.x) := h2
        have HBR : Hid (Below w.heap.size w wr) := hB
        clear hX hI h1 h2 hB
        by_cases hlt : i < l.length
        · by_cases hG : G = 1
          · subst hG
            obtain ⟨b, off, rfl, o0, o1, o2⟩ := HO.out.below HBR.out i hlt
            obtain ⟨o, hoe⟩ : ∃ o, o = l[i] := ⟨_, rfl⟩
            rw [← hoe] at o0 o1 o2
            have HOK : Hid o.ok := by show o.ok; rw [hoe]; exact HKO.out _ (List.getElem_mem hlt)
            have HOE : Hid (o = l[i]) := hoe
            clear hoe
            obtain ⟨U, hUe⟩ : ∃ U, U = oneS o X := ⟨_, rfl⟩
            have HU : Hid (U = oneS o X) := hUe
            clear hUe
            have HD9 : Hid (Below wr.heap.size wr wr.drew) := (Below.refl _ _).drew
            obtain ⟨d0, d1, y0, y1⟩ := HX1.out
            go_wp2_with fail
            go_region_with ((go_at_call 17; refine (one_walk o X HOK.out HIX.out _).mono ?_; rw [← HU.out]; rintro e w9 ⟨rfl, hB9⟩; have hS9 : Below wr.heap.size wr w9 := below_trans HD9.out hB9; have f0 := (HX1.out.below hS9 (cell_lt HX1.out.c0)).c0; have f1 := (HX1.out.below hS9 (cell_lt HX1.out.c0)).c1; have f2 := (HX1.out.below hS9 (cell_lt HX1.out.c0)).z0; have f3 := (HX1.out.below hS9 (cell_lt HX1.out.c0)).z1))
            all_goals
              have R' : CRel w l r bx w3.heap.size R (.int .i64 U.1) (.int .i64 ((i : Int) + 1)) ((w9.setCell ⟨bx, 0, none⟩ (.int .u64 U.2.k)).setCell ⟨bx, 1, none⟩ (.float .f64 U.2.x)) := by
                refine ⟨i + 1, U.1, U.2, hlt, by simp, rfl, ?_, ?_, (HX1.out.below hS9 (cell_lt HX1.out.c0)).set _ _, ((HA1.out.below hS9 (cell_lt HA1.out.c0)).other HNE.out.1 _).other HNE.out.1 _, ((below_trans HBR.out hS9).setCell HNE.out.2 _).setCell HNE.out.2 _⟩
                · rw [HU.out]; exact runS_ok _ HIX.out
                · rw [HU.out, HOE.out]; exact cinv_step HCK.out hlt HI.out
              clear hS9
              go_wp2_with fail
              go_roundw
              case rel => exact R'
              case measure => simp [intOf]; omega
          · have hE : R = (G, X) := by rw [HE.out]; exact cinv_done HI.out (by omega) hi (.inr hG)
            have b1 : (G == 1) = false := by simpa using hG
            have b0 : ((l.length : Int) == 0) = false := by rw [beq_eq_false_iff_ne]; omega
            have HEE : Hid (R = (G, X)) := hE
            clear hE
            obtain ⟨d0, d1, y0, y1⟩ := HX1.out
            obtain ⟨s0, s1, _, _⟩ := HA1.out
            go_wp2_with fail
            refine (same_walk R.2 X _).mono ?_
            rw [HEE.out]
            rw [sameB_self']
            rintro e w9 ⟨rfl, hB⟩
            have HB9 : Hid (Below w.heap.size w w9) := below_trans HBR.out hB
            clear hB
            have e1 : (R.1 == G) = true := by rw [HEE.out]; simp
            go_wp2_with fail
            go_ret
            exact ⟨rfl, HB9.out⟩
        · by_cases h0 : l.length = 0
          · obtain ⟨hG1, hE⟩ := cinv_nil HI.out h0 hi
            subst hG1
            have b0 : ((l.length : Int) == 0) = true := by rw [beq_iff_eq]; omega
            have HEE : Hid (R = (1, canR X)) := by show _ = _; rw [HE.out]; exact hE
            clear hE
            obtain ⟨d0, d1, y0, y1⟩ := HX1.out
            go_wp2_with fail
            refine (canon_walk HIX.out.2 _).mono ?_
            rintro e w' ⟨rfl, rfl⟩
            obtain ⟨s0, s1, _, _⟩ := HA1.out.other (p := ⟨bx, 1, none⟩) HNE.out.1 (.float .f64 (canonW X.x))
            obtain ⟨t0, t1, _, _⟩ := HX1.out.set1 (canonW X.x)
            go_wp2_with fail
            refine (same_walk R.2 (canR X) _).mono ?_
            rw [HEE.out]
            rw [sameB_self']
            rintro e w9 ⟨rfl, hB⟩
            have HB9 : Hid (Below w.heap.size w w9) := below_trans (HBR.out.setCell HNE.out.2 _) hB
            clear hB
            have e1 : (R.1 == 1) = true := by rw [HEE.out]; simp
            go_wp2_with fail
            go_ret
            exact ⟨rfl, HB9.out⟩
          · have hE : R = (G, X) := by rw [HE.out]; exact cinv_done HI.out (by omega) hi (.inl hlt)
            have b0 : ((l.length : Int) == 0) = false := by rw [beq_eq_false_iff_ne]; omega
            have HEE : Hid (R = (G, X)) := hE
            clear hE
            obtain ⟨d0, d1, y0, y1⟩ := HX1.out
            obtain ⟨s0, s1, _, _⟩ := HA1.out
            go_wp2_with fail
            refine (same_walk R.2 X _).mono ?_
            rw [HEE.out]
            rw [sameB_self']
            rintro e w9 ⟨rfl, hB⟩
            have HB9 : Hid (Below w.heap.size w w9) := below_trans HBR.out hB
            clear hB
            have e1 : (R.1 == G) = true := by rw [HEE.out]; simp
            go_wp2_with fail
            go_ret
            exact ⟨rfl, HB9.out⟩

theorem opschain_walk {v : Value} {l : List Stp} {w : World} (ho : Ov w v l) (r : Rcd) (hr : r.ok) (a : Int) :
    Calls Try.prog 6 #[v, .agg #[.int .u64 r.k, .float .f64 r.x], .int .i64 a] w fun e w' => e = .returned (.bool true) ∧ Below w.heap.size w w' := by
  cases hc : checkB l
  · exact chain_bad r hr a ho hc
  · exact chain_good r hr a ho hc
end Go.Proofs.Ytkpfjoklbindjaa
