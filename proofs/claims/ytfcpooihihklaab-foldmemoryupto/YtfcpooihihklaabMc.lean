/- The walk of FoldMemory. -/
import Derived.Test.YtfcpooihihklaabMb
import Derived.Test.YtfcpooihihklaabKl
import Derived.Deep.DeepCutAuto
namespace Go.Proofs.Ytfcpooihihklaab
open Ieee Go.RowKit

theorem qv_len {w : World} {ao : Option Addr} {n cap : Nat} {l : List Pr} (h : Qv w (.slice ao n cap) l) : l.length = n := by
  obtain ⟨⟨ao', cap', e, _⟩, _⟩ := h
  simp only [Value.slice.injEq] at e
  exact e.2.1.symm

theorem own_ql {w : World} {B e n cap : Nat} {ao : Option Addr} {l : List Pr} (h : w.ownsRow B e 3 (.slice ao n cap) n (flatQ l)) : Ql w ao l := by
  rcases h.2 with ⟨h1, h0⟩ | ⟨g, cap', cur, e1, _⟩
  · have hl := h.1
    rw [flatQ_len] at hl
    have : l = [] := List.eq_nil_of_length_eq_zero (by omega)
    subst this
    intro i hi; simp at hi
  · simp only [Value.slice.injEq] at e1
    obtain ⟨rfl, _, rfl⟩ := e1
    exact mq_ql (own_mq h)
theorem own_in {w : World} {B e s n cap : Nat} {ao : Option Addr} {xs : List Value} (h : w.ownsRow B e s (.slice ao n cap) n xs) : ∀ p, ao = some p → B ≤ p.block ∧ p.block < w.heap.size := by
  intro p hp
  rcases h.2 with ⟨h1, _⟩ | ⟨g, cap', cur, e1, hb, hg, _⟩
  · subst hp; cases h1
  · simp only [Value.slice.injEq] at e1
    rw [hp] at e1
    obtain ⟨e2, _⟩ := e1
    cases e2
    exact ⟨hb, (Array.getElem?_eq_some_iff.1 hg).1⟩
theorem own_shape {w : World} {B e s n : Nat} {v : Value} {xs : List Value} (h : w.ownsRow B e s v n xs) : ∃ ao cap, v = .slice ao n cap := by
  rcases h.2 with ⟨h1, h0⟩ | ⟨g, cap', cur, e1, _⟩
  · exact ⟨none, 0, by rw [h1, h0]⟩
  · exact ⟨_, _, e1⟩

theorem wpList_append_t {P : Program} {w w9 wr : World} {D : Nat → Prop} {tv kv : Value} {n m : Nat} {ops : Array Oper} {rest : List Oper} {o : Oper} {a : Act} {Q : Exit → Act → World → Prop} (hgd : o.guard = none) (s x : Operand) (t : TypeId)
    (ho : o.op = .call { callee := .builtin .append, args := #[s, x], argTypes := #[t, t] })
    (i0 : TypeInfo) (ht : P.underlying t = some (.slice 40)) (hi : P.info? 40 = some i0) (hz0 : i0.zero = some (.agg #[.int .u64 0, .bool false, .int .u64 0])) (hz1 : i0.size = 3) (hz2 : i0.bytes = 24)
    (hs : a.eval s = tv) (hS : Sa w w9 D tv kv n m wr) (g : Nat) (hg : g = wr.heap.size) (p : Pr) (hx : a.eval x = .slice (some ⟨g, 0, none⟩) 1 1) (hb : (n + 1) * 24 ≤ 140737488355328)
    (h : ∀ v' w', Sa w w9 D v' kv (n + 1) m w' → wpList P ops Q rest (a.put o.dst v') w') : wpList P ops Q (o :: rest) a (wr.alloc (Obj.cells #[.int .u64 p.k, .bool p.v.h, .int .u64 p.v.b] 40)) := by
  have hS' := hS.below (below_alloc wr (Obj.cells #[.int .u64 p.k, .bool p.v.h, .int .u64 p.v.b] 40))
  obtain ⟨xs, hown⟩ := hS'.t
  subst hg
  refine wpList_append_own_at _ hgd s x t ho w.heap.size 40 i0 (.agg #[.int .u64 0, .bool false, .int .u64 0]) 3 24 ht hi hz0 hz1 hz2 rfl (by decide) tv n xs hs hown ⟨wr.heap.size, 0, none⟩ 1 1 [.int .u64 p.k, .bool p.v.h, .int .u64 p.v.b] hx rfl ?_ ?_ (by simp only [maxLen]; omega) hb hS'.B.size (fun v' w' h1 h2 _ h4 => h v' w' (hS'.appT h2 h1 h4))
  · intro j u hj
    match j, hj with
    | 0, hj => simp at hj; subst hj; simp [Addr.add, go_sem]
    | 1, hj => simp at hj; subst hj; simp [Addr.add, go_sem]
    | 2, hj => simp at hj; subst hj; simp [Addr.add, go_sem]
  · intro u hu
    simp at hu
    rcases hu with rfl | rfl | rfl <;> rfl

theorem wpList_append_k {P : Program} {w w9 wr : World} {D : Nat → Prop} {tv kv : Value} {n m : Nat} {ops : Array Oper} {rest : List Oper} {o : Oper} {a : Act} {Q : Exit → Act → World → Prop} (hgd : o.guard = none) (s x : Operand) (t : TypeId)
    (ho : o.op = .call { callee := .builtin .append, args := #[s, x], argTypes := #[t, t] })
    (i0 : TypeInfo) (ht : P.underlying t = some (.slice 31)) (hi : P.info? 31 = some i0) (hz0 : i0.zero = some (.int .u64 0)) (hz1 : i0.size = 1) (hz2 : i0.bytes = 8)
    (hs : a.eval s = kv) (hS : Sa w w9 D tv kv n m wr) (g : Nat) (hg : g = wr.heap.size) (p : Int) (hx : a.eval x = .slice (some ⟨g, 0, none⟩) 1 1) (hb : (m + 1) * 8 ≤ 140737488355328)
    (h : ∀ v' w', Sa w w9 D tv v' n (m + 1) w' → wpList P ops Q rest (a.put o.dst v') w') : wpList P ops Q (o :: rest) a (wr.alloc (Obj.cells #[.int .u64 p] 31)) := by
  have hS' := hS.below (below_alloc wr (Obj.cells #[.int .u64 p] 31))
  obtain ⟨xs, hown⟩ := hS'.k
  subst hg
  refine wpList_append_own_at _ hgd s x t ho w.heap.size 31 i0 (.int .u64 0) 1 8 ht hi hz0 hz1 hz2 rfl (by decide) kv m xs hs hown ⟨wr.heap.size, 0, none⟩ 1 1 [.int .u64 p] hx rfl (cell_one_new _ _ _) ?_ (by simp only [maxLen]; omega) hb hS'.B.size (fun v' w' h1 h2 _ h4 => h v' w' (hS'.appK h2 h1 h4))
  intro u hu
  simp at hu
  subst hu; rfl

theorem qv_own {w : World} {B n cap : Nat} {uo : Option Addr} {T : List Pr} {kind : Int} {a b : List Pr} (h : w.ownsRow B 40 3 (.slice uo n cap) n (flatQ T)) (hT : T = resT kind a b) (ha : okT a) (hb : okT b) : Qv w (.slice uo n cap) T := by
  have hq := own_ql h
  have hl := h.1
  rw [flatQ_len] at hl
  have hn : T.length = n := by omega
  subst hn
  refine ⟨⟨uo, cap, rfl, ?_, ?_, ?_, hq⟩, by rw [hT]; exact res_ok ha hb⟩
  all_goals rcases h.2 with ⟨h1, h0⟩ | ⟨g, cap', cur, e1, _, _, h5, h6, _⟩
  · simp only [Value.slice.injEq] at h1; omega
  · simp only [Value.slice.injEq] at e1; omega
  · simp only [Value.slice.injEq] at h1; rw [h1.2.2]; exact Nat.zero_le _
  · simp only [Value.slice.injEq] at e1; omega
  · simp only [Value.slice.injEq] at h1; exact fun _ => h1.2.2
  · simp only [Value.slice.injEq] at e1; rw [e1.1]; simp
theorem below_lit {w w' : World} {ob : Obj} (h : (w.alloc ob).grownBy w' (some w.heap.size)) : Below w.heap.size w w' :=
  ((Below.refl _ _).alloc (Nat.le_refl _) ob).grown h (by simp) (by simp)

theorem lit0P (w : World) : (w.alloc (Obj.cells #[] 40)).ownsRow w.heap.size 40 3 (.slice (some ⟨w.heap.size, 0, none⟩) 0 0) 0 (flatQ []) := World.ownsRow_lit (base := w.heap.size) (e := 40) (size := 3) w #[] 0 (Nat.le_refl _) (Nat.zero_le _) rfl
theorem lit0U (w : World) : (w.alloc (Obj.cells #[] 31)).ownsRow w.heap.size 31 1 (.slice (some ⟨w.heap.size, 0, none⟩) 0 0) 0 [] := World.ownsRow_lit (base := w.heap.size) (e := 31) (size := 1) w #[] 0 (Nat.le_refl _) (Nat.zero_le _) rfl

theorem sv_sl {w : World} {ao : Option Addr} {n cap : Nat} {l : List Int} (h : Sv .u64 w (.slice ao n cap) l) : Sl .u64 w ao l := by
  obtain ⟨ao', cap', e, _, _, _, h4⟩ := h
  simp only [Value.slice.injEq] at e
  rw [e.1]; exact h4

theorem rw_shape {B e s n : Nat} {v : Value} {w : World} (h : Rw B e s v n w) : ∃ ao cap, v = .slice ao n cap := by
  obtain ⟨xs, h⟩ := h; exact own_shape h
theorem lkeys2_walk {ao bo : Option Addr} {n ca cb : Nat} {l : List Int} {w : World} (hn : l.length = n) (hl : l.length ≤ maxLen) (ha : Sl .u64 w ao l) (hb : Sl .u64 w bo l) :
    Calls Try.prog 16 #[.slice ao n ca, .slice bo l.length cb] w fun e w' => e = .returned (.bool true) ∧ Below w.heap.size w w' := by
  subst hn; exact lkeys_walk hl ha hb

set_option maxRecDepth 100000 in
set_option maxHeartbeats 8000000 in
theorem foldmemory_walk {av bv : Value} {a b : List Pr} {kind : Int} {w : World} (ha : Qv w av a) (hb : Qv w bv b) (hsz : a.length + b.length ≤ 2000000000000) :
    Calls Try.prog 4 #[.int .i64 kind, av, bv] w fun e w' => e = .returned (.bool true) ∧ Below w.heap.size w w' := by
  obtain ⟨⟨ao, ca, rfl, h1, h2, h3, h4⟩, h5⟩ := ha
  have HV : Hid (Qv w (.slice ao a.length ca) a) := ⟨⟨ao, ca, rfl, h1, h2, h3, h4⟩, h5⟩
  have HOA : Hid (okT a) := h5
  clear h1 h2 h3 h4 h5
  obtain ⟨⟨bo, cb, rfl, h1, h2, h3, h4⟩, h5⟩ := hb
  have HW : Hid (Qv w (.slice bo b.length cb) b) := ⟨⟨bo, cb, rfl, h1, h2, h3, h4⟩, h5⟩
  have HOB : Hid (okT b) := h5
  clear h1 h2 h3 h4 h5
  obtain ⟨i0, hi0, hz0, hz1, hz2⟩ := info_partsQ info_pair
  have HI0 : Hid (Try.prog.info? 40 = some i0) := hi0
  have HI1 : Hid (i0.zero = some (.agg #[.int .u64 0, .bool false, .int .u64 0])) := hz0
  have HI2 : Hid (i0.size = 3) := hz1
  have HI3 : Hid (i0.bytes = 24) := hz2
  clear hi0 hz0 hz1 hz2
  obtain ⟨j0, hi0, hz0, hz1, hz2⟩ := info_partsQ info_u64
  have HJ0 : Hid (Try.prog.info? 31 = some j0) := hi0
  have HJ1 : Hid (j0.zero = some (.int .u64 0)) := hz0
  have HJ2 : Hid (j0.size = 1) := hz1
  have HJ3 : Hid (j0.bytes = 8) := hz2
  clear hi0 hz0 hz1 hz2
  have HSZ : Hid (a.length + b.length ≤ 2000000000000) := hsz
  have hla : (a.length : Int) ≤ 2000000000000 := by omega
  clear hsz
  go_enter Try.func4, Try.ntmps4
  go_wp2_with fail
  refine (awake_walk _).mono ?_
  rintro e w1 ⟨rfl, hB⟩
  have HB1 : Hid (Below w.heap.size w w1) := hB
  clear hB
  have HMX : Hid (a.length + 4 ≤ maxLen) := by show _ ≤ _; simp only [maxLen]; omega
  go_wp2_with (first
    | (at_make; refine wpList_make_own _ (by rfl) _ _ 28 (by rfl) w1.heap.size 40 i0 (.agg #[.int .u64 0, .bool false, .int .u64 0]) 3 Try.underlying28 HI0.out HI1.out HI2.out .i64 .i64 _ (a.length + 4) (by rfl) (by rfl) (by omega) (by rw [HI3.out]; have := HSZ.out; omega) HMX.out (Nat.le_refl _) ?_; intro w2 hown hgrow; have HB2 : Hid (Below w1.heap.size w1 w2) := (Below.refl _ _).grown hgrow (Nat.le_refl _) (by simp))
    | (at_builtin; refine wpList_append_qv (by rfl) (.tmp 26) (.tmp 27) 28 (by rfl) w1.heap.size 40 i0 Try.underlying28 HI0.out HI2.out w1.heap.size 0 (a.length + 4) [] (by rfl) hown _ a (by rfl) (HV.out.below (below_trans HB1.out HB2.out)) (by omega) ?_; intro w3 hown3 hgrow3; simp only [Nat.zero_add, List.nil_append] at hown3 ⊢; have HB3 : Hid (Below w1.heap.size w1 w3) := HB2.out.grown hgrow3 HB2.out.size (by simp)))
  have HO3 : Hid (w3.ownsRow w1.heap.size 40 3 (.slice (some ⟨w1.heap.size, 0, none⟩) a.length (a.length + 4)) a.length (flatQ a)) := hown3
  clear hown hown3 hgrow hgrow3 HB2
  refine (pair_walk 71 1 _).mono ?_
  rintro e w4 ⟨rfl, hB4⟩
  go_wp2_with fail
  refine (pair_walk 72 2 _).mono ?_
  rintro e w5 ⟨rfl, hB5⟩
  go_wp2_with fail
  refine (pair_walk 73 3 _).mono ?_
  rintro e w6 ⟨rfl, hB6⟩
  go_wp2_with fail
  refine (pair_walk 74 4 _).mono ?_
  rintro e w7 ⟨rfl, hB7⟩
  have HB37 : Hid (Below w3.heap.size w3 w7) := below_trans (below_trans (below_trans hB4 hB5) hB6) hB7
  have HO7 : Hid (w7.ownsRow w1.heap.size 40 3 (.slice (some ⟨w1.heap.size, 0, none⟩) a.length (a.length + 4)) a.length (flatQ a)) := own3_below HO3.out HB37.out
  clear hB4 hB5 hB6 hB7
  have ht4 : t4.length = 4 := rfl
  have hlc : (a.length : Int) ≤ (a.length : Int) + 4 := by omega
  go_wp2_with (at_builtin; refine wpList_append_qv (by rfl) (.tmp 29) (.tmp 34) 28 (by rfl) w1.heap.size 40 i0 Try.underlying28 HI0.out HI2.out w1.heap.size a.length (a.length + 4) a (by rfl) (HO7.out.alloc _) _ t4 (by rfl) (qv_t4 _ _ (by simp) _) (by simp [t4]) ?_; intro wA hownA hgrowA; simp only [ht4] at hownA ⊢)
  have HMA : Hid (Mq wA w1.heap.size (a ++ t4)) := own_mq hownA
  have HGA : Hid (w1.heap.size < wA.heap.size) := (hownA.lt w1.heap.size rfl).2
  have HBA : Hid (Below w.heap.size w wA) := below_trans HB1.out (((below_trans HB3.out HB37.out).alloc (below_trans HB3.out HB37.out).size _).grown hgrowA (by have := (below_trans HB3.out HB37.out).size; simp; omega) (by simp))
  clear hownA hgrowA
  have HX : Hid (∀ wx, Below wA.heap.size wA wx → Qv wx (.slice (some ⟨w1.heap.size, 0, none⟩) a.length (a.length + 4)) a) := fun wx h => by
    have := mq_qv (n := a.length) (cap := a.length + 4) (HMA.out.below h HGA.out) (by simp) (by simp [t4]) HMX.out (ok_append HOA.out ok_t4)
    rwa [List.take_left] at this
  clear hlc HO3 HO7 HB3 HB37
  obtain ⟨T, hTe⟩ : ∃ T, T = resT kind a b := ⟨_, rfl⟩
  obtain ⟨E, hEe⟩ : ∃ E, E = errI kind a b := ⟨_, rfl⟩
  have HTE : Hid (T = resT kind a b) := hTe
  have HEE : Hid (E = errI kind a b) := hEe
  have HTL : Hid (T.length ≤ 2000000000000) := by show _ ≤ _; rw [hTe]; have := res_len kind a b; have := HSZ.out; omega
  clear hTe hEe
  refine (add_any (kind := kind) (HX.out _ (below_same _)) (HW.out.below HBA.out) (by have := HSZ.out; omega)).mono ?_
  rw [← HTE.out, ← HEE.out]
  rintro e wB ⟨tg, tc, rfl, hT, hB⟩
  have HOT : Hid (wB.ownsRow wA.heap.size 40 3 (.slice tg T.length tc) T.length (flatQ T)) := hT
  have HBB : Hid (Below wA.heap.size wA wB) := hB
  clear hT hB
  go_wp2_with fail
  refine (add_any (kind := kind) (HX.out _ HBB.out) (HW.out.below (below_trans HBA.out HBB.out)) (by have := HSZ.out; omega)).mono ?_
  rw [← HTE.out, ← HEE.out]
  rintro e wC ⟨uo, uc, rfl, hU, hB⟩
  have HOU : Hid (wC.ownsRow wB.heap.size 40 3 (.slice uo T.length uc) T.length (flatQ T)) := hU
  have HBC : Hid (Below wB.heap.size wB wC) := hB
  clear hU hB
  go_wp2_with fail
  refine (keys_walk (by have := HSZ.out; omega) (HX.out _ (below_trans HBB.out HBC.out)).ql).mono ?_
  rintro e wD ⟨kv, rfl, hK, hB⟩
  obtain ⟨ko, kc, rfl⟩ := own_shape hK
  have HOK : Hid (wD.ownsRow wC.heap.size 31 1 (.slice ko a.length kc) a.length ((keyL a).map (Value.int .u64))) := hK
  have HBD : Hid (Below wC.heap.size wC wD) := hB
  clear hK hB
  go_wp2_with fail
  refine (keys_walk (by have := HSZ.out; omega) (HX.out _ (below_trans (below_trans HBB.out HBC.out) HBD.out)).ql).mono ?_
  rintro e wE ⟨kv, rfl, hK, hB⟩
  obtain ⟨lo, lc, rfl⟩ := own_shape hK
  have HOL : Hid (wE.ownsRow wD.heap.size 31 1 (.slice lo a.length lc) a.length ((keyL a).map (Value.int .u64))) := hK
  have HBE : Hid (Below wD.heap.size wD wE) := hB
  clear hK hB
  have HKL : Hid ((keyL a).length ≤ 2000000000000) := by show _ ≤ _; rw [keyL_len]; have := HSZ.out; omega
  have HEU : Hid (Qv (wE.alloc (Obj.cells #[] 40)) (.slice uo T.length uc) T) := (qv_own HOU.out HTE.out HOA.out HOB.out).below (below_trans HBD.out (below_trans HBE.out (below_alloc _ _)))
  go_wp2_with (first
    | (at_builtin; refine wpList_append_qs (by rfl) (.tmp 58) (.tmp 59) 28 (by rfl) wE.heap.size 40 i0 Try.underlying28 HI0.out HI1.out HI2.out HI3.out _ 0 [] (by rfl) (lit0P wE) _ T (by rfl) HEU.out (by have := HTL.out; simp only [maxLen]; omega) (by have := HTL.out; omega) (by simp) ?_; intro wv wF hownF hgrowF; simp only [Nat.zero_add, List.nil_append] at hownF)
    | (at_builtin; refine wpList_append_sv (by rfl) (.tmp 61) (.tmp 62) 48 (by rfl) wF.heap.size 31 .u64 8 Try.underlying48 info_u64 _ 0 [] (by rfl) (lit0U wF) _ (keyL a) (by rfl) ((own_sv HOL.out).below (below_trans (below_lit hgrowF) (below_alloc _ _))) (by have := HKL.out; simp only [maxLen]; omega) (by have := HKL.out; omega) (by simp) ?_; intro nv wG hownG hgrowG; simp only [Nat.zero_add, List.nil_append] at hownG))
  obtain ⟨wo, wc, rfl⟩ := own_shape hownF
  obtain ⟨no, nc, rfl⟩ := own_shape hownG
  have hBF : Below wE.heap.size wE wF := below_lit hgrowF
  have hBG : Below wF.heap.size wF wG := below_lit hgrowG
  have hTG : Below wB.heap.size wB wG := below_trans (below_trans (below_trans (below_trans HBC.out HBD.out) HBE.out) hBF) hBG
  have hCG : Below wC.heap.size wC wG := below_trans (below_trans (below_trans HBD.out HBE.out) hBF) hBG
  have hDG : Below wD.heap.size wD wG := below_trans (below_trans HBE.out hBF) hBG
  have hEG : Below wE.heap.size wE wG := below_trans hBF hBG
  have hAG : Below wA.heap.size wA wG := below_trans HBB.out hTG
  obtain ⟨D, hD⟩ : ∃ D : Nat → Prop, D = fun x => (wA.heap.size ≤ x ∧ x < wB.heap.size) ∨ (wC.heap.size ≤ x ∧ x < wD.heap.size) := ⟨_, rfl⟩
  have hs1 := HBB.out.size; have hs2 := HBC.out.size; have hs3 := HBD.out.size; have hs4 := HBE.out.size; have hs5 := hBF.size; have hs6 := hBG.size; have hs7 := HGA.out; have hs8 := HBA.out.size
  have HU : Hid (∀ wx, Kp D wG wx → Ql wx uo T) := fun wx h => ((own_ql HOU.out).below hCG).kept h (fun p hp => by have := own_in HOU.out p hp; rw [hD]; simp only; omega)
  have HWN : Hid (∀ wx, Kp D wG wx → Ql wx wo T) := fun wx h => ((own_ql hownF).below hBG).kept h (fun p hp => by have := own_in hownF p hp; rw [hD]; simp only; omega)
  have HL : Hid (∀ wx, Kp D wG wx → Sl .u64 wx lo (keyL a)) := fun wx h => ((sv_sl (own_sv HOL.out)).below hEG).kept h (fun p hp => by have := own_in HOL.out p hp; rw [hD]; simp only; omega)
  have HN : Hid (∀ wx, Kp D wG wx → Sl .u64 wx no (keyL a)) := fun wx h => (sv_sl (own_sv hownG)).kept h (fun p hp => by have := own_in hownG p hp; rw [hD]; simp only; omega)
  have HM : Hid (∀ wx, Kp D wG wx → Ql wx (some ⟨w1.heap.size, 0, none⟩) a) := fun wx h => ((HX.out _ hAG).ql).kept h (fun p hp => by cases hp; rw [hD]; simp only; omega)
  have HY : Hid (∀ wx, Kp D wG wx → Ql wx (some ⟨w1.heap.size, a.length * 3, none⟩) t4) := fun wx h => (mq_tail (HMA.out.below hAG HGA.out)).kept h (fun p hp => by cases hp; rw [hD]; simp only; omega)
  have S0 : Sa w wG D (.slice tg T.length tc) (.slice ko a.length kc) T.length a.length wG := by
    refine ⟨Kp.refl _ _, Rw.mono ⟨_, own3_below HOT.out hTG⟩ (by omega), Rw.mono ⟨_, own1_below HOK.out hDG⟩ (by omega), below_trans HBA.out hAG, fun x h1 h2 => ?_, fun x h1 => ?_, fun x h1 => ?_⟩
    · have := HOT.out.lt x h1; have := HOK.out.lt x h2; omega
    · have := HOT.out.lt x h1; rw [hD]; simp only; omega
    · have := HOK.out.lt x h1; rw [hD]; simp only; omega
  have HLN : Hid ((keyL a).length = a.length) := keyL_len a
  have hTi : (T.length : Int) ≤ 2000000000000 := by have := HTL.out; omega
  clear hBF hBG hTG hCG hDG hEG hAG hs1 hs2 hs3 hs4 hs5 hs6 hs7 hs8 hownF hownG hgrowF hgrowG hD HEU HOT HOU HOK HOL HBB HBC HBD HBE HMA HX HBA
  go_loopw [17] (fun iv wr => ∃ j : Nat, j ≤ T.length ∧ iv = .int .i64 j ∧ Sa w wG D (.slice tg T.length tc) (.slice ko a.length kc) T.length a.length wr) (fun iv _ => T.length - (intOf iv).toNat)
  case atStart => exact ⟨0, Nat.zero_le _, rfl, S0⟩
  case round =>
    clear S0
    obtain ⟨j, hj, rfl, hS⟩ := hrel
    have HS : Hid (Sa w wG D (.slice tg T.length tc) (.slice ko a.length kc) T.length a.length wr) := hS
    clear hS
    by_cases hlt : j < T.length
    · have hlt' : (j : Int) < (T.length : Int) := by omega
      go_wp2_with fail
      refine (pair_walk 99 9 _).mono ?_
      rintro e w5 ⟨rfl, hB5⟩
      have HS5 : Hid (Sa w wG D (.slice tg T.length tc) (.slice ko a.length kc) T.length a.length w5) := HS.out.below hB5
      clear hB5
      rcases HS5.out.t.form with ⟨_, h0⟩ | ⟨g, cap, cur, hv, hob, hnc, hcur, hcs⟩
      · omega
      simp only [Value.slice.injEq] at hv
      obtain ⟨rfl, _, rfl⟩ := hv
      obtain ⟨⟨x0, c0⟩, z0⟩ := row_cell (o := j * 3) hcur (by omega)
      obtain ⟨⟨x1, c1⟩, z1⟩ := row_cell (o := j * 3 + 1) hcur (by omega)
      obtain ⟨⟨x2, c2⟩, z2⟩ := row_cell (o := j * 3 + 2) hcur (by omega)
      have R' := ((HS5.out.setT hob (j * 3) (.int .u64 99)).setT hob (j * 3 + 1) (.bool true)).setT hob (j * 3 + 2) (.int .u64 9)
      clear hcur hcs hnc
      go_wp2_with fail
      go_roundw
      case rel => exact ⟨j + 1, by omega, by go_num, R'⟩
      case measure => simp [intOf]; omega
    · skip
      go_wp2_with fail
      have S0 := HS.out
      clear HS
      go_loopw [18] (fun iv wr => ∃ j : Nat, j ≤ a.length ∧ iv = .int .i64 j ∧ Sa w wG D (.slice tg T.length tc) (.slice ko a.length kc) T.length a.length wr) (fun iv _ => a.length - (intOf iv).toNat)
      case atStart => exact ⟨0, Nat.zero_le _, rfl, S0⟩
      case round =>
        clear S0
        obtain ⟨j, hj, rfl, hS⟩ := hrel
        have HS : Hid (Sa w wG D (.slice tg T.length tc) (.slice ko a.length kc) T.length a.length wr) := hS
        clear hS
        by_cases hlt : j < a.length
        · have hlt' : (j : Int) < (a.length : Int) := by omega
          rcases HS.out.k.form with ⟨_, h0⟩ | ⟨g, cap, cur, hv, hob, hnc, hcur, hcs⟩
          · omega
          simp only [Value.slice.injEq] at hv
          obtain ⟨rfl, _, rfl⟩ := hv
          obtain ⟨⟨x0, c0⟩, z0⟩ := row_cell (o := j) hcur (by omega)
          have R' := HS.out.setK hob j (.int .u64 98)
          clear hcur hcs hnc
          go_wp2_with fail
          go_roundw
          case rel => exact ⟨j + 1, by omega, by go_num, R'⟩
          case measure => simp [intOf]; omega
        · go_wp2_with fail
          have S0 := HS.out
          clear HS
          go_loopw [9, 13, 19] (fun tv kv iv wr => ∃ j : Nat, j ≤ 9 ∧ iv = .int .i64 j ∧ Sa w wG D tv kv (T.length + j) (a.length + j) wr) (fun _ _ iv _ => 9 - (intOf iv).toNat)
          case atStart => exact ⟨0, Nat.zero_le _, rfl, S0⟩
          case round =>
            clear S0
            obtain ⟨j, hj, rfl, hS⟩ := hrel
            have HS : Hid (Sa w wG D u9 u13 (T.length + j) (a.length + j) wr) := hS
            clear hS
            by_cases hlt : j < 9
            · have hlt' : (j : Int) < 9 := by omega
              go_wp2_with fail
              refine (pair_walk 97 7 _).mono ?_
              rintro e w5 ⟨rfl, hB5⟩
              have HS5 : Hid (Sa w wG D u9 u13 (T.length + j) (a.length + j) w5) := HS.out.below hB5
              clear hB5
              go_wp2_with (first
                | (at_builtin; refine wpList_append_t (by rfl) (.tmp 87) (.tmp 89) 28 (by rfl) i0 Try.underlying28 HI0.out HI1.out HI2.out HI3.out (by rfl) HS5.out _ (by rfl) ⟨97, ⟨true, 7⟩⟩ (by rfl) (by have := HTL.out; omega) ?_; intro tv6 w6 HS6)
                | (at_builtin; refine wpList_append_k (by rfl) (.tmp 91) (.tmp 92) 48 (by rfl) j0 Try.underlying48 HJ0.out HJ1.out HJ2.out HJ3.out (by rfl) HS6 _ (by rfl) 96 (by rfl) (by omega) ?_; intro kv7 w7 HS7))
              go_roundw
              case rel => exact ⟨j + 1, by omega, by go_num, HS7⟩
              case measure => simp [intOf]; omega
            · have hj9 : j = 9 := by omega
              subst hj9
              have HSK : Hid (Kp D wG wr) := HS.out.kp
              have HSB : Hid (Below w.heap.size w wr) := HS.out.B
              obtain ⟨xo, xc, rfl⟩ := rw_shape HS.out.t
              obtain ⟨yo, yc, rfl⟩ := rw_shape HS.out.k
              clear HS
              obtain ⟨n9, hn9⟩ : ∃ n, n = T.length + 9 := ⟨_, rfl⟩
              obtain ⟨m9, hm9⟩ : ∃ n, n = a.length + 9 := ⟨_, rfl⟩
              rw [← hn9, ← hm9]
              have hn9' : ((n9 : Int) == IntKind.i64.wrap ((T.length : Int) + 9)) = true := by rw [wrap_small (by omega) (by omega), hn9]; simp
              have hm9' : ((m9 : Int) == IntKind.i64.wrap ((a.length : Int) + 9)) = true := by rw [wrap_small (by omega) (by omega), hm9]; simp
              clear hn9 hm9
              have hlc : (a.length : Int) ≤ (a.length : Int) + 4 := by omega
              go_wp2_with fail
              refine wp_region_noPanic ?_
              refine wp_region_held_drew (S := fun wx => Below wr.heap.size wr wx) (by kernel_rfl) ?_ (fun hHeld => ?_)
              · exact (Below.refl _ _).drew
              refine wpAnyH_take (i := 0) (oi := ⟨some 94, _, _, _, _, _⟩) (v := ?_) rfl (by kernel_rfl) (by kernel_rfl) (by kernel_rfl) (fun _ _ _ h => h) (Or.inl ⟨by rfl, ?_⟩) (by assumption) ?_
              rotate_left
              · intro w hSw; (try dsimp only at hSw); go_simp; all_goals (with_reducible rfl)
              try simp only [Act.put, List.setIfInBounds_toArray, List.set_cons_zero, List.set_cons_succ]
              refine wpAnyH_take (i := 1) (oi := ⟨some 95, _, _, _, _, _⟩) (v := ?_) rfl (by kernel_rfl) (by kernel_rfl) (by kernel_rfl) (fun _ _ _ h => h) (Or.inl ⟨by rfl, ?_⟩) (by assumption) ?_
              rotate_left
              · intro w hSw; (try dsimp only at hSw); go_simp; all_goals (with_reducible rfl)
              try simp only [Act.put, List.setIfInBounds_toArray, List.set_cons_zero, List.set_cons_succ]
              refine wpAnyH_take (i := 2) (oi := ⟨some 96, _, _, _, _, _⟩) (v := ?_) rfl (by kernel_rfl) (by kernel_rfl) (by kernel_rfl) (fun _ _ _ h => h) (Or.inl ⟨by rfl, ?_⟩) (by assumption) ?_
              rotate_left
              · intro w hSw; (try dsimp only at hSw); go_simp; all_goals (with_reducible rfl)
              try simp only [Act.put, List.setIfInBounds_toArray, List.set_cons_zero, List.set_cons_succ]
              refine wpAnyH_take (i := 3) (oi := ⟨some 97, _, _, _, _, _⟩) (v := ?_) rfl (by kernel_rfl) (by kernel_rfl) (by kernel_rfl) (fun _ _ _ h => h) (Or.inl ⟨by rfl, ?_⟩) (by assumption) ?_
              rotate_left
              · intro w hSw; (try dsimp only at hSw); go_simp; all_goals (with_reducible rfl)
              try simp only [Act.put, List.setIfInBounds_toArray, List.set_cons_zero, List.set_cons_succ]
              refine wpAnyH_take (i := 4) (oi := ⟨some 98, _, _, _, _, _⟩) (v := ?_) rfl (by kernel_rfl) (by kernel_rfl) (by kernel_rfl) (fun _ _ _ h => h) (Or.inl ⟨by rfl, ?_⟩) (by assumption) ?_
              rotate_left
              · intro w hSw; (try dsimp only at hSw); go_simp; all_goals (with_reducible rfl)
              try simp only [Act.put, List.setIfInBounds_toArray, List.set_cons_zero, List.set_cons_succ]
              refine wpAnyH_take (i := 5) (oi := ⟨some 99, _, _, _, _, _⟩) (v := ?_) rfl (by kernel_rfl) (by kernel_rfl) (by kernel_rfl) (fun _ _ _ h => h) (Or.inl ⟨by rfl, ?_⟩) (by assumption) ?_
              rotate_left
              · intro w hSw; (try dsimp only at hSw); go_simp; all_goals (with_reducible rfl)
              try simp only [Act.put, List.setIfInBounds_toArray, List.set_cons_zero, List.set_cons_succ]
              refine wpAnyH_ready (rs := [6]) (by kernel_rfl) (by simp) ?_
              refine AllReadyH.cons (o := ⟨some 100, _, _, _, _, _⟩) rfl (fun K hK => ?_) AllReadyH.nil
              go_simp
              refine (same_walk (l := T) (by have := HTL.out; simp only [maxLen]; omega) (HU.out _ (HSK.out.below hHeld)) (HWN.out _ (HSK.out.below hHeld))).mono ?_
              rintro e w101 ⟨rfl, hC1⟩
              have hS1 : Below wr.heap.size wr w101 := below_trans hHeld hC1
              go_simp
              refine hK.out _ _ ?_ (fun hHeld => ?_)
              · exact hS1
              clear hK K
              try simp only [Act.put, List.setIfInBounds_toArray, List.set_cons_zero, List.set_cons_succ]
              refine wpAnyH_take (i := 7) (oi := ⟨some 101, _, _, _, _, _⟩) (v := ?_) rfl (by kernel_rfl) (by kernel_rfl) (by kernel_rfl) (fun _ _ _ h => h) (Or.inl ⟨by rfl, ?_⟩) (by assumption) ?_
              rotate_left
              · intro w hSw; (try dsimp only at hSw); go_simp; all_goals (with_reducible rfl)
              try simp only [Act.put, List.setIfInBounds_toArray, List.set_cons_zero, List.set_cons_succ]
              refine wpAnyH_take (i := 8) (oi := ⟨some 102, _, _, _, _, _⟩) (v := ?_) rfl (by kernel_rfl) (by kernel_rfl) (by kernel_rfl) (fun _ _ _ h => h) (Or.inl ⟨by rfl, ?_⟩) (by assumption) ?_
              rotate_left
              · intro w hSw; (try dsimp only at hSw); go_simp; all_goals (with_reducible rfl)
              try simp only [Act.put, List.setIfInBounds_toArray, List.set_cons_zero, List.set_cons_succ]
              refine wpAnyH_take (i := 9) (oi := ⟨some 103, _, _, _, _, _⟩) (v := ?_) rfl (by kernel_rfl) (by kernel_rfl) (by kernel_rfl) (fun _ _ _ h => h) (Or.inl ⟨by rfl, ?_⟩) (by assumption) ?_
              rotate_left
              · intro w hSw; (try dsimp only at hSw); go_simp; all_goals (with_reducible rfl)
              try simp only [Act.put, List.setIfInBounds_toArray, List.set_cons_zero, List.set_cons_succ]
              refine wpAnyH_take (i := 10) (oi := ⟨some 104, _, _, _, _, _⟩) (v := ?_) rfl (by kernel_rfl) (by kernel_rfl) (by kernel_rfl) (fun _ _ _ h => h) (Or.inl ⟨by rfl, ?_⟩) (by assumption) ?_
              rotate_left
              · intro w hSw; (try dsimp only at hSw); go_simp; all_goals (with_reducible rfl)
              try simp only [Act.put, List.setIfInBounds_toArray, List.set_cons_zero, List.set_cons_succ]
              refine wpAnyH_ready (rs := [11]) (by kernel_rfl) (by simp) ?_
              refine AllReadyH.cons (o := ⟨some 105, _, _, _, _, _⟩) rfl (fun K hK => ?_) AllReadyH.nil
              go_simp
              refine (lkeys2_walk HLN.out (by have := HKL.out; simp only [maxLen]; omega) (HL.out _ (HSK.out.below hHeld)) (HN.out _ (HSK.out.below hHeld))).mono ?_
              rintro e w102 ⟨rfl, hC2⟩
              have hS2 : Below wr.heap.size wr w102 := below_trans hHeld hC2
              go_simp
              refine hK.out _ _ ?_ (fun hHeld => ?_)
              · exact hS2
              clear hK K
              try simp only [Act.put, List.setIfInBounds_toArray, List.set_cons_zero, List.set_cons_succ]
              refine wpAnyH_take (i := 12) (oi := ⟨some 106, _, _, _, _, _⟩) (v := ?_) rfl (by kernel_rfl) (by kernel_rfl) (by kernel_rfl) (fun _ _ _ h => h) (Or.inl ⟨by rfl, ?_⟩) (by assumption) ?_
              rotate_left
              · intro w hSw; (try dsimp only at hSw); go_simp; all_goals (with_reducible rfl)
              try simp only [Act.put, List.setIfInBounds_toArray, List.set_cons_zero, List.set_cons_succ]
              refine wpAnyH_take (i := 13) (oi := ⟨some 107, _, _, _, _, _⟩) (v := ?_) rfl (by kernel_rfl) (by kernel_rfl) (by kernel_rfl) (fun _ _ _ h => h) (Or.inl ⟨by rfl, ?_⟩) (by assumption) ?_
              rotate_left
              · intro w hSw; (try dsimp only at hSw); go_simp; all_goals (with_reducible rfl)
              try simp only [Act.put, List.setIfInBounds_toArray, List.set_cons_zero, List.set_cons_succ]
              refine wpAnyH_take (i := 14) (oi := ⟨some 108, _, _, _, _, _⟩) (v := ?_) rfl (by kernel_rfl) (by kernel_rfl) (by kernel_rfl) (fun _ _ _ h => h) (Or.inl ⟨by rfl, ?_⟩) (by assumption) ?_
              rotate_left
              · intro w hSw; (try dsimp only at hSw); go_simp; all_goals (with_reducible rfl)
              try simp only [Act.put, List.setIfInBounds_toArray, List.set_cons_zero, List.set_cons_succ]
              refine wpAnyH_take (i := 15) (oi := ⟨some 109, _, _, _, _, _⟩) (v := ?_) rfl (by kernel_rfl) (by kernel_rfl) (by kernel_rfl) (fun _ _ _ h => h) (Or.inl ⟨by rfl, ?_⟩) (by assumption) ?_
              rotate_left
              · intro w hSw; (try dsimp only at hSw); go_simp; all_goals (with_reducible rfl)
              try simp only [Act.put, List.setIfInBounds_toArray, List.set_cons_zero, List.set_cons_succ]
              refine wpAnyH_ready (rs := [16]) (by kernel_rfl) (by simp) ?_
              refine AllReadyH.cons (o := ⟨some 110, _, _, _, _, _⟩) rfl (fun K hK => ?_) AllReadyH.nil
              go_simp
              refine (same_walk (l := a) (by have := HMX.out; omega) (HM.out _ (HSK.out.below hHeld)) (HV.out.ql.below (below_trans HSB.out hHeld))).mono ?_
              rintro e w103 ⟨rfl, hC3⟩
              have hS3 : Below wr.heap.size wr w103 := below_trans hHeld hC3
              go_simp
              refine hK.out _ _ ?_ (fun hHeld => ?_)
              · exact hS3
              clear hK K
              try simp only [Act.put, List.setIfInBounds_toArray, List.set_cons_zero, List.set_cons_succ]
              refine wpAnyH_take (i := 17) (oi := ⟨some 111, _, _, _, _, _⟩) (v := ?_) rfl (by kernel_rfl) (by kernel_rfl) (by kernel_rfl) (fun _ _ _ h => h) (Or.inl ⟨by rfl, ?_⟩) (by assumption) ?_
              rotate_left
              · intro w hSw; (try dsimp only at hSw); go_simp; all_goals (with_reducible rfl)
              try simp only [Act.put, List.setIfInBounds_toArray, List.set_cons_zero, List.set_cons_succ]
              refine wpAnyH_take (i := 18) (oi := ⟨some 112, _, _, _, _, _⟩) (v := ?_) rfl (by kernel_rfl) (by kernel_rfl) (by kernel_rfl) (fun _ _ _ h => h) (Or.inl ⟨by rfl, ?_⟩) (by assumption) ?_
              rotate_left
              · intro w hSw; (try dsimp only at hSw); go_simp; all_goals (with_reducible rfl)
              try simp only [Act.put, List.setIfInBounds_toArray, List.set_cons_zero, List.set_cons_succ]
              refine wpAnyH_take (i := 19) (oi := ⟨some 113, _, _, _, _, _⟩) (v := ?_) rfl (by kernel_rfl) (by kernel_rfl) (by kernel_rfl) (fun _ _ _ h => h) (Or.inl ⟨by rfl, ?_⟩) (by assumption) ?_
              rotate_left
              · intro w hSw; (try dsimp only at hSw); go_simp; all_goals (with_reducible rfl)
              try simp only [Act.put, List.setIfInBounds_toArray, List.set_cons_zero, List.set_cons_succ]
              refine wpAnyH_take (i := 20) (oi := ⟨some 114, _, _, _, _, _⟩) (v := ?_) rfl (by kernel_rfl) (by kernel_rfl) (by kernel_rfl) (fun _ _ _ h => h) (Or.inl ⟨by rfl, ?_⟩) (by assumption) ?_
              rotate_left
              · intro w hSw; (try dsimp only at hSw); go_simp; all_goals (with_reducible rfl)
              try simp only [Act.put, List.setIfInBounds_toArray, List.set_cons_zero, List.set_cons_succ]
              refine wpAnyH_take (i := 21) (oi := ⟨some 115, _, _, _, _, _⟩) (v := ?_) rfl (by kernel_rfl) (by kernel_rfl) (by kernel_rfl) (fun _ _ _ h => h) (Or.inl ⟨by rfl, ?_⟩) (by assumption) ?_
              rotate_left
              · intro w hSw; (try dsimp only at hSw); go_simp; all_goals (with_reducible rfl)
              try simp only [Act.put, List.setIfInBounds_toArray, List.set_cons_zero, List.set_cons_succ]
              refine wpAnyH_take (i := 22) (oi := ⟨some 116, _, _, _, _, _⟩) (v := ?_) rfl (by kernel_rfl) (by kernel_rfl) (by kernel_rfl) (fun _ _ _ h => h) (Or.inl ⟨by rfl, ?_⟩) (by assumption) ?_
              rotate_left
              · intro w hSw; (try dsimp only at hSw); go_simp; all_goals (with_reducible rfl)
              try simp only [Act.put, List.setIfInBounds_toArray, List.set_cons_zero, List.set_cons_succ]
              refine wpAnyH_ready (rs := [23]) (by kernel_rfl) (by simp) ?_
              refine AllReadyH.cons (o := ⟨some 117, _, _, _, _, _⟩) rfl (fun K hK => ?_) AllReadyH.nil
              go_simp
              refine (pair_walk 71 1 _).mono ?_
              rintro e w104 ⟨rfl, hC4⟩
              have hS4 : Below wr.heap.size wr w104 := below_trans hHeld hC4
              go_simp
              refine hK.out _ _ ?_ (fun hHeld => ?_)
              · exact hS4
              clear hK K
              try simp only [Act.put, List.setIfInBounds_toArray, List.set_cons_zero, List.set_cons_succ]
              refine wpAnyH_ready (rs := [24]) (by kernel_rfl) (by simp) ?_
              refine AllReadyH.cons (o := ⟨some 118, _, _, _, _, _⟩) rfl (fun K hK => ?_) AllReadyH.nil
              go_simp
              refine (pair_walk 72 2 _).mono ?_
              rintro e w105 ⟨rfl, hC5⟩
              have hS5 : Below wr.heap.size wr w105 := below_trans hHeld hC5
              go_simp
              refine hK.out _ _ ?_ (fun hHeld => ?_)
              · exact hS5
              clear hK K
              try simp only [Act.put, List.setIfInBounds_toArray, List.set_cons_zero, List.set_cons_succ]
              refine wpAnyH_ready (rs := [25]) (by kernel_rfl) (by simp) ?_
              refine AllReadyH.cons (o := ⟨some 119, _, _, _, _, _⟩) rfl (fun K hK => ?_) AllReadyH.nil
              go_simp
              refine (pair_walk 73 3 _).mono ?_
              rintro e w106 ⟨rfl, hC6⟩
              have hS6 : Below wr.heap.size wr w106 := below_trans hHeld hC6
              go_simp
              refine hK.out _ _ ?_ (fun hHeld => ?_)
              · exact hS6
              clear hK K
              try simp only [Act.put, List.setIfInBounds_toArray, List.set_cons_zero, List.set_cons_succ]
              refine wpAnyH_ready (rs := [26]) (by kernel_rfl) (by simp) ?_
              refine AllReadyH.cons (o := ⟨some 120, _, _, _, _, _⟩) rfl (fun K hK => ?_) AllReadyH.nil
              go_simp
              refine (pair_walk 74 4 _).mono ?_
              rintro e w107 ⟨rfl, hC7⟩
              have hS7 : Below wr.heap.size wr w107 := below_trans hHeld hC7
              go_simp
              refine hK.out _ _ ?_ (fun hHeld => ?_)
              · exact hS7
              clear hK K
              try simp only [Act.put, List.setIfInBounds_toArray, List.set_cons_zero, List.set_cons_succ]
              refine wpAnyH_ready (rs := [27]) (by kernel_rfl) (by simp) ?_
              refine AllReadyH.cons (o := ⟨some 121, _, _, _, _, _⟩) rfl (fun K hK => ?_) AllReadyH.nil
              go_simp
              refine hK.out _ _ ?_ (fun hHeld => ?_)
              · exact Below.alloc hHeld (Below.size hHeld) _
              clear hK K
              try simp only [Act.put, List.setIfInBounds_toArray, List.set_cons_zero, List.set_cons_succ]
              refine wpAnyH_ready (rs := [28]) (by kernel_rfl) (by simp) ?_
              refine AllReadyH.cons (o := ⟨some 122, _, _, _, _, _⟩) rfl (fun K hK => ?_) AllReadyH.nil
              go_simp
              refine (same_walk (l := t4) (by simp [t4, maxLen]) (HY.out _ (HSK.out.below hHeld)) (qv_t4 _ _ (by simp) _).ql).mono ?_
              rintro e w109 ⟨rfl, hC9⟩
              have hS9 : Below wr.heap.size wr w109 := below_trans hHeld hC9
              go_simp
              refine hK.out _ _ ?_ (fun hHeld => ?_)
              · exact hS9
              clear hK K
              try simp only [Act.put, List.setIfInBounds_toArray, List.set_cons_zero, List.set_cons_succ]
              refine wpAnyH_take (i := 29) (oi := ⟨some 123, _, _, _, _, _⟩) (v := ?_) rfl (by kernel_rfl) (by kernel_rfl) (by kernel_rfl) (fun _ _ _ h => h) (Or.inl ⟨by rfl, ?_⟩) (by assumption) ?_
              rotate_left
              · intro w hSw; (try dsimp only at hSw); go_simp; all_goals (with_reducible rfl)
              try simp only [Act.put, List.setIfInBounds_toArray, List.set_cons_zero, List.set_cons_succ]
              refine wpAnyH_take (i := 30) (oi := ⟨some 124, _, _, _, _, _⟩) (v := ?_) rfl (by kernel_rfl) (by kernel_rfl) (by kernel_rfl) (fun _ _ _ h => h) (Or.inl ⟨by rfl, ?_⟩) (by assumption) ?_
              rotate_left
              · intro w hSw; (try dsimp only at hSw); go_simp; all_goals (with_reducible rfl)
              try simp only [Act.put, List.setIfInBounds_toArray, List.set_cons_zero, List.set_cons_succ]
              refine wpAnyH_take (i := 31) (oi := ⟨some 125, _, _, _, _, _⟩) (v := ?_) rfl (by kernel_rfl) (by kernel_rfl) (by kernel_rfl) (fun _ _ _ h => h) (Or.inl ⟨by rfl, ?_⟩) (by assumption) ?_
              rotate_left
              · intro w hSw; (try dsimp only at hSw); go_simp; all_goals (with_reducible rfl)
              try simp only [Act.put, List.setIfInBounds_toArray, List.set_cons_zero, List.set_cons_succ]
              refine wpAnyH_take (i := 32) (oi := ⟨some 126, _, _, _, _, _⟩) (v := ?_) rfl (by kernel_rfl) (by kernel_rfl) (by kernel_rfl) (fun _ _ _ h => h) (Or.inl ⟨by rfl, ?_⟩) (by assumption) ?_
              rotate_left
              · intro w hSw; (try dsimp only at hSw); go_simp; all_goals (with_reducible rfl)
              try simp only [Act.put, List.setIfInBounds_toArray, List.set_cons_zero, List.set_cons_succ]
              refine wpAnyH_take (i := 33) (oi := ⟨some 127, _, _, _, _, _⟩) (v := ?_) rfl (by kernel_rfl) (by kernel_rfl) (by kernel_rfl) (fun _ _ _ h => h) (Or.inl ⟨by rfl, ?_⟩) (by assumption) ?_
              rotate_left
              · intro w hSw; (try dsimp only at hSw); go_simp; all_goals (with_reducible rfl)
              try simp only [Act.put, List.setIfInBounds_toArray, List.set_cons_zero, List.set_cons_succ]
              refine wpAnyH_take (i := 34) (oi := ⟨some 128, _, _, _, _, _⟩) (v := ?_) rfl (by kernel_rfl) (by kernel_rfl) (by kernel_rfl) (fun _ _ _ h => h) (Or.inl ⟨by rfl, ?_⟩) (by assumption) ?_
              rotate_left
              · intro w hSw; (try dsimp only at hSw); go_simp; all_goals (with_reducible rfl)
              try simp only [Act.put, List.setIfInBounds_toArray, List.set_cons_zero, List.set_cons_succ]
              refine wpAnyH_take (i := 35) (oi := ⟨some 129, _, _, _, _, _⟩) (v := ?_) rfl (by kernel_rfl) (by kernel_rfl) (by kernel_rfl) (fun _ _ _ h => h) (Or.inl ⟨by rfl, ?_⟩) (by assumption) ?_
              rotate_left
              · intro w hSw; (try dsimp only at hSw); go_simp; all_goals (with_reducible rfl)
              try simp only [Act.put, List.setIfInBounds_toArray, List.set_cons_zero, List.set_cons_succ]
              refine wpAnyH_take (i := 36) (oi := ⟨some 130, _, _, _, _, _⟩) (v := ?_) rfl (by kernel_rfl) (by kernel_rfl) (by kernel_rfl) (fun _ _ _ h => h) (Or.inl ⟨by rfl, ?_⟩) (by assumption) ?_
              rotate_left
              · intro w hSw; (try dsimp only at hSw); go_simp; all_goals (with_reducible rfl)
              try simp only [Act.put, List.setIfInBounds_toArray, List.set_cons_zero, List.set_cons_succ]
              refine wpAnyH_take (i := 37) (oi := ⟨some 131, _, _, _, _, _⟩) (v := ?_) rfl (by kernel_rfl) (by kernel_rfl) (by kernel_rfl) (fun _ _ _ h => h) (Or.inl ⟨by rfl, ?_⟩) (by assumption) ?_
              rotate_left
              · intro w hSw; (try dsimp only at hSw); go_simp; all_goals (with_reducible rfl)
              try simp only [Act.put, List.setIfInBounds_toArray, List.set_cons_zero, List.set_cons_succ]
              refine wpAnyH_take (i := 38) (oi := ⟨some 132, _, _, _, _, _⟩) (v := ?_) rfl (by kernel_rfl) (by kernel_rfl) (by kernel_rfl) (fun _ _ _ h => h) (Or.inl ⟨by rfl, ?_⟩) (by assumption) ?_
              rotate_left
              · intro w hSw; (try dsimp only at hSw); go_simp; all_goals (with_reducible rfl)
              try simp only [Act.put, List.setIfInBounds_toArray, List.set_cons_zero, List.set_cons_succ]
              refine wpAnyH_take (i := 39) (oi := ⟨some 133, _, _, _, _, _⟩) (v := ?_) rfl (by kernel_rfl) (by kernel_rfl) (by kernel_rfl) (fun _ _ _ h => h) (Or.inl ⟨by rfl, ?_⟩) (by assumption) ?_
              rotate_left
              · intro w hSw; (try dsimp only at hSw); go_simp; all_goals (with_reducible rfl)
              try simp only [Act.put, List.setIfInBounds_toArray, List.set_cons_zero, List.set_cons_succ]
              refine wpAnyH_take (i := 40) (oi := ⟨some 134, _, _, _, _, _⟩) (v := ?_) rfl (by kernel_rfl) (by kernel_rfl) (by kernel_rfl) (fun _ _ _ h => h) (Or.inl ⟨by rfl, ?_⟩) (by assumption) ?_
              rotate_left
              · intro w hSw; (try dsimp only at hSw); go_simp; all_goals (with_reducible rfl)
              try simp only [Act.put, List.setIfInBounds_toArray, List.set_cons_zero, List.set_cons_succ]
              refine wpAnyH_take (i := 41) (oi := ⟨some 135, _, _, _, _, _⟩) (v := ?_) rfl (by kernel_rfl) (by kernel_rfl) (by kernel_rfl) (fun _ _ _ h => h) (Or.inl ⟨by rfl, ?_⟩) (by assumption) ?_
              rotate_left
              · intro w hSw; (try dsimp only at hSw); go_simp; all_goals (with_reducible rfl)
              try simp only [Act.put, List.setIfInBounds_toArray, List.set_cons_zero, List.set_cons_succ]
              refine wpAnyH_take (i := 42) (oi := ⟨some 136, _, _, _, _, _⟩) (v := ?_) rfl (by kernel_rfl) (by kernel_rfl) (by kernel_rfl) (fun _ _ _ h => h) (Or.inl ⟨by rfl, ?_⟩) (by assumption) ?_
              rotate_left
              · intro w hSw; (try dsimp only at hSw); go_simp; all_goals (with_reducible rfl)
              try simp only [Act.put, List.setIfInBounds_toArray, List.set_cons_zero, List.set_cons_succ]
              refine wpAnyH_take (i := 43) (oi := ⟨some 137, _, _, _, _, _⟩) (v := ?_) rfl (by kernel_rfl) (by kernel_rfl) (by kernel_rfl) (fun _ _ _ h => h) (Or.inl ⟨by rfl, ?_⟩) (by assumption) ?_
              rotate_left
              · intro w hSw; (try dsimp only at hSw); go_simp; all_goals (with_reducible rfl)
              try simp only [Act.put, List.setIfInBounds_toArray, List.set_cons_zero, List.set_cons_succ]
              refine wpAnyH_take (i := 44) (oi := ⟨some 138, _, _, _, _, _⟩) (v := ?_) rfl (by kernel_rfl) (by kernel_rfl) (by kernel_rfl) (fun _ _ _ h => h) (Or.inl ⟨by rfl, ?_⟩) (by assumption) ?_
              rotate_left
              · intro w hSw; (try dsimp only at hSw); go_simp; all_goals (with_reducible rfl)
              try simp only [Act.put, List.setIfInBounds_toArray, List.set_cons_zero, List.set_cons_succ]
              refine wpAnyH_take (i := 45) (oi := ⟨some 139, _, _, _, _, _⟩) (v := ?_) rfl (by kernel_rfl) (by kernel_rfl) (by kernel_rfl) (fun _ _ _ h => h) (Or.inl ⟨by rfl, ?_⟩) (by assumption) ?_
              rotate_left
              · intro w hSw; (try dsimp only at hSw); go_simp; all_goals (with_reducible rfl)
              try simp only [Act.put, List.setIfInBounds_toArray, List.set_cons_zero, List.set_cons_succ]
              refine wpAnyH_take (i := 46) (oi := ⟨some 6, _, _, _, _, _⟩) (v := ?_) rfl (by kernel_rfl) (by kernel_rfl) (by kernel_rfl) (fun _ _ _ h => h) (Or.inl ⟨by rfl, ?_⟩) (by assumption) ?_
              rotate_left
              · intro w hSw; (try dsimp only at hSw); go_simp; all_goals (with_reducible rfl)
              try simp only [Act.put, List.setIfInBounds_toArray, List.set_cons_zero, List.set_cons_succ]
              refine wpAnyH_done (by kernel_rfl) ?_ _
              refine NoPanic.normal ?_
              go_wp2_with fail
              go_ret
              exact ⟨rfl, below_trans HSB.out hHeld⟩
end Go.Proofs.Ytfcpooihihklaab
