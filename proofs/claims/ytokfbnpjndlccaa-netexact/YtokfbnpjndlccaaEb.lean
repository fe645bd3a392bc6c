/- Contracts of the reference's place, take. -/
import Derived.Test.YtokfbnpjndlccaaEa

namespace Go.Proofs.Ytokfbnpjndlccaa

open Go.RowKit



theorem er_out {L : List En} (hr : RiseE L) : ∀ {p : Nat} {x : En} (_ : L[p]? = some x), L.eraseIdx p = outN L (x.n : Int) := by
  induction L with
  | nil => intro p x hp; simp at hp
  | cons a t ih =>
    obtain ⟨h1, h2⟩ := List.pairwise_cons.1 hr
    intro p x hp
    cases p with
    | zero =>
      obtain rfl : a = x := by simpa using hp
      rw [List.eraseIdx_cons_zero, show outN (a :: t) (a.n : Int) = outN t (a.n : Int) from by unfold outN; rw [List.filter_cons_of_neg (by simp)]]
      symm
      refine List.filter_eq_self.2 fun y hy => ?_
      have := h1 y hy
      simp; omega
    | succ p =>
      have hp' : t[p]? = some x := by simpa using hp
      rw [List.eraseIdx_cons_succ, ih h2 hp']
      have hne : ¬ ((a.n : Int) = (x.n : Int)) := by have := h1 x (List.mem_of_getElem? hp'); omega
      unfold outN
      rw [List.filter_cons_of_pos (by simpa using hne)]
theorem flatF_take (L : List En) (p : Nat) : flatF (L.take p) = (flatF L).take (p * 10) := by
  induction L generalizing p with
  | nil => simp [flatF]
  | cons a t ih =>
    cases p with
    | zero => simp [flatF]
    | succ p =>
      have e : (cellsE a).length = 10 := rfl
      have := ih p
      simp only [flatF, List.take_succ_cons, List.flatMap_cons] at this ⊢
      rw [this, List.take_append, e, show (p + 1) * 10 - 10 = p * 10 by omega, List.take_of_length_le (l := cellsE a) (by rw [e]; omega)]
theorem flatF_drop (L : List En) (p : Nat) : flatF (L.drop p) = (flatF L).drop (p * 10) := by
  induction L generalizing p with
  | nil => simp [flatF]
  | cons a t ih =>
    cases p with
    | zero => simp [flatF]
    | succ p =>
      have e : (cellsE a).length = 10 := rfl
      have := ih p
      simp only [flatF, List.drop_succ_cons, List.flatMap_cons] at this ⊢
      rw [this, List.drop_append, e, show (p + 1) * 10 - 10 = p * 10 by omega, @List.drop_eq_nil_of_le _ (cellsE a) _ (by rw [e]; omega), List.nil_append]
theorem flatF_two (a b : List En) : flatF (a ++ b) = flatF a ++ flatF b := by simp [flatF]
theorem flatF_one {w : World} {L : List En} (h : ∀ x ∈ L, Eo w x) : ∀ u ∈ flatF L, u.oneCell' = true := by
  intro u hu
  obtain ⟨x, hx, hu⟩ := List.mem_flatMap.1 hu
  exact cellsE_one (h x hx) u hu
theorem er_nm {L M : List En} (h : M.map nmE = L.map nmE) (p : Nat) : (M.eraseIdx p).map nmE = (L.eraseIdx p).map nmE := by
  rw [List.eraseIdx_eq_take_drop_succ, List.eraseIdx_eq_take_drop_succ, List.map_append, List.map_append, List.map_take, List.map_take, List.map_drop, List.map_drop, h]
set_option maxRecDepth 100000 in
theorem place_in {w : World} {B R r nx : Nat} {v : Value} {L : List En} (h : Rt w B R r nx v L) {p : Nat} {y : En} (hy : L[p]? = some y) : Calls Try.prog 42 #[.pointer (some ⟨R, 0, none⟩), .int .i64 (y.n : Int)] w fun e w' => e = .returned (.int .i64 p) ∧ w' = w := by
  have HR : Hid _ := h
  have HFV : Hid _ := h.fr.fv
  obtain ⟨va, vc, rfl⟩ := own_formN h.fr.own
  have c1 := h.c1
  have hli : (L.length : Int) ≤ 4096 := by have := h.len; have := h.room; omega
  obtain ⟨hp, hpy⟩ := List.getElem?_eq_some_iff.1 hy
  have HP : Hid (p < L.length) := hp
  have HK : Hid (∀ i, (h : i < L.length) → (L[i].n : Int) = (y.n : Int) ↔ i = p) := by
    intro i hi
    constructor
    · intro e
      have h1 := List.pairwise_iff_getElem.1 HR.out.num
      rcases Nat.lt_trichotomy i p with q | q | q
      · have := h1 i p hi hp q; rw [hpy] at this; omega
      · exact q
      · have := h1 p i hp hi q; rw [hpy] at this; omega
    · intro e; subst e; rw [hpy]
  obtain ⟨k, hk⟩ : ∃ k : Int, k = (y.n : Int) := ⟨_, rfl⟩
  rw [← hk] at HK ⊢
  clear h hk hp hy hpy
  go_enter Try.func42, Try.ntmps42
  go_upto_region 2 with fail
  go_loopw [5] (fun iv wr => ∃ i : Nat, iv = .int .i64 i ∧ i ≤ p ∧ wr = w) (fun iv _ => L.length - (intOf iv).toNat)
  case atStart => exact ⟨0, rfl, Nat.zero_le _, rfl⟩
  case round =>
    obtain ⟨i, rfl, hip, rfl⟩ := hrel
    have hlt : i < L.length := by have := HP.out; omega
    have hlti : (i : Int) < (L.length : Int) := by omega
    obtain ⟨gb, goff, rfl, hfx⟩ := fv_at HFV.out hlt
    have f0 := hfx.c0
    clear hfx
    by_cases hpe : i = p
    · subst hpe
      have heq : ((L[i].n : Int) == k) = true := by rw [beq_iff_eq]; exact (HK.out i hlt).2 rfl
      go_wp2_with fail
      go_ret
      exact ⟨rfl, rfl⟩
    · have heq : ((L[i].n : Int) == k) = false := by
        rw [beq_eq_false_iff_ne]
        exact fun e => hpe ((HK.out i hlt).1 e)
      go_wp2_with fail
      go_roundw
      case rel => exact ⟨i + 1, by go_num, by omega, trivial⟩
      case measure => simp [intOf]; omega
set_option maxRecDepth 100000 in
theorem place_out {w : World} {B R r nx : Nat} {v : Value} {L : List En} {k : Int} (h : Rt w B R r nx v L) (hat : atN L k = none) : Calls Try.prog 42 #[.pointer (some ⟨R, 0, none⟩), .int .i64 k] w fun e w' => e = .returned (.int .i64 (-1)) ∧ w' = w := by
  have HFV : Hid _ := h.fr.fv
  obtain ⟨va, vc, rfl⟩ := own_formN h.fr.own
  have c1 := h.c1
  have hli : (L.length : Int) ≤ 4096 := by have := h.len; have := h.room; omega
  have HK : Hid (∀ x ∈ L, (x.n : Int) ≠ k) := by
    intro x hx
    unfold atN at hat
    have := List.find?_eq_none.1 hat x hx
    simpa using this
  clear h hat
  go_enter Try.func42, Try.ntmps42
  go_upto_region 2 with fail
  go_loopw [5] (fun iv wr => ∃ i : Nat, iv = .int .i64 i ∧ i ≤ L.length ∧ wr = w) (fun iv _ => L.length - (intOf iv).toNat)
  case atStart => exact ⟨0, rfl, Nat.zero_le _, rfl⟩
  case round =>
    obtain ⟨i, rfl, hip, rfl⟩ := hrel
    by_cases hlt : i < L.length
    · have hlti : (i : Int) < (L.length : Int) := by omega
      obtain ⟨gb, goff, rfl, hfx⟩ := fv_at HFV.out hlt
      have f0 := hfx.c0
      have heq : ((L[i].n : Int) == k) = false := by rw [beq_eq_false_iff_ne]; exact HK.out L[i] (List.getElem_mem _)
      clear hfx
      go_wp2_with fail
      go_roundw
      case rel => exact ⟨i + 1, by go_num, by omega, trivial⟩
      case measure => simp [intOf]; omega
    · have hlti : ¬ (i : Int) < (L.length : Int) := by omega
      go_wp2_with fail
      go_ret
      exact ⟨rfl, rfl⟩
theorem own_chE {D : Nat → Prop} {w w' : World} {base e size n : Nat} {v : Value} {xs : List Value} (h : w.ownsRow base e size v n xs) (hc : Ch D w w') (hd : ∀ x, v.ownBlock = some x → ¬ D x) : w'.ownsRow base e size v n xs := by
  refine ⟨h.1, ?_⟩
  rcases h.2 with h' | ⟨g, cap, cur, hv, hg, hh, r⟩
  · exact .inl h'
  · exact .inr ⟨g, cap, cur, hv, hg, by rw [hc.block g ((Array.getElem?_eq_some_iff.1 hh).1) (hd g (by rw [hv]; rfl))]; exact hh, r⟩
/-- What take leaves. -/
def TkGot (w : World) (B R r nx : Nat) (L : List En) (p : Nat) (x : En) (e : Ending) (w' : World) : Prop :=
  ∃ v', e = .returned (mvE x) ∧ Rt w' B R r nx v' (L.eraseIdx p) ∧ Ch (fun y => y = R) w w' ∧ ∀ y, v'.ownBlock = some y → w.heap.size ≤ y
theorem append_fs {w : World} {ops : Array Oper} {rest : List Oper} {o : Oper} {a : Act} {Q : Exit → Act → World → Prop} (hgd : o.guard = none) (s x : Operand)
    (ho : o.op = .call { callee := .builtin .append, args := #[s, x], argTypes := #[40, 40] })
    (base : Nat) (v : Value) (n : Nat) (xs : List Value) (hs : a.eval s = v) (hown : w.ownsRow base 55 10 v n xs)
    (g off m c : Nat) (F : List En) (hx : a.eval x = .slice (some ⟨g, off, none⟩) m c) (hm : m = F.length) (hnews : ∀ j u, (flatF F)[j]? = some u → w.cell? ⟨g, off + j, none⟩ = some u) (h1 : ∀ u ∈ flatF F, u.oneCell' = true)
    (h63 : n + m ≤ 10000) (hbase : base ≤ w.heap.size)
    (h : ∀ v' w', w'.ownsRow base 55 10 v' (n + m) (xs ++ flatF F) → w.grownBy w' v.ownBlock → (v'.ownBlock = v.ownBlock ∨ v'.ownBlock = some w.heap.size) → wpList Try.prog ops Q rest (a.put o.dst v') w') : wpList Try.prog ops Q (o :: rest) a w := by
  obtain ⟨i0, hi0, hz0, hz1, hz2⟩ := info_partsQ info_fl
  refine wpList_append_own_at w hgd s x 40 ho base 55 i0 _ 10 128 Try.underlying40 hi0 hz0 hz1 hz2 rfl (by decide) v n xs hs hown ⟨g, off, none⟩ m c (flatF F) hx (by rw [flatF_len, hm]) ?_ h1 (by unfold maxLen; omega) (by omega) hbase (fun v' w' h2 h3 _ h5 => h v' w' h2 h3 h5)
  intro j u hj
  rw [WideShapes.add_plain]
  exact hnews j u hj
theorem row_fl {w : World} {B g n cap : Nat} {F : List En} (h : w.ownsRow B 55 10 (.slice (some ⟨g, 0, none⟩) n cap) n (flatF F)) : ∀ j u, (flatF F)[j]? = some u → w.cell? ⟨g, j, none⟩ = some u := by
  intro j u hj
  obtain ⟨h1, h2⟩ := h
  rcases h2 with ⟨h3, _⟩ | ⟨g', cap', cur, e1, hg, hh, hnc, hcm, hcs, htk⟩
  · cases h3
  · cases e1
    rw [cell_of_row w g j cur _ (0, 0) hh]
    rw [← htk, List.getElem?_take] at hj
    split at hj
    · simpa using hj
    · cases hj
set_option maxRecDepth 100000 in
set_option maxHeartbeats 4000000 in
theorem take_walk {w : World} {B R r nx : Nat} {v : Value} {L : List En} (h : Rt w B R r nx v L) {p : Nat} {x : En} (hpx : L[p]? = some x) : Calls Try.prog 43 #[.pointer (some ⟨R, 0, none⟩), .int .i64 (p : Int)] w (TkGot w B R r nx L p x) := by
  have HR : Hid _ := h
  obtain ⟨hp, hpy⟩ := List.getElem?_eq_some_iff.1 hpx
  have hx : x = L[p] := hpy.symm
  have HP : Hid (p < L.length) := hp
  have hE : Eo w x := by rw [hx]; exact h.fr.ent _ (List.getElem_mem _)
  obtain ⟨ea, en, ec, qa, qn, qc, pa, pn, pc, e1, e2, e3⟩ := en_form hE
  obtain ⟨m, hm⟩ : ∃ m, m = x.m := ⟨_, rfl⟩
  have HV : Hid (mvE x = .agg #[.int .i64 m.K, .int .i64 m.F, .int .i64 m.T, .int .i64 m.B, .int .i64 m.A, .int .i64 m.C, .slice ea en ec, .slice qa qn qc, .slice pa pn pc]) := by show _ = _; unfold mvE; rw [e1, e2, e3, ← hm]
  obtain ⟨g, vc, hv, _⟩ : ∃ g vc, v = .slice (some ⟨g, 0, none⟩) L.length vc ∧ L.length ≤ vc := by
    rcases h.fr.own.2 with ⟨_, h0⟩ | ⟨g, cap, cur, rfl, hg, hh, hnc, _⟩
    · omega
    · exact ⟨g, cap, rfl, hnc⟩
  subst hv
  have hvc : L.length ≤ vc ∧ vc ≤ maxLen := by
    rcases h.fr.own.2 with ⟨h3, _⟩ | ⟨g', cap', cur, e1, hg, hh, hnc, hcm, _⟩
    · cases h3
    · cases e1; exact ⟨hnc, hcm⟩
  have hfx : Fx w g (0 + p * 10) x.n x.m x.e x.q x.p := by
    obtain ⟨gb, goff, e, hf⟩ := fv_at h.fr.fv hp
    cases e
    rw [hx]; exact hf
  rw [Nat.zero_add] at hfx
  rw [e1, e2, e3, ← hm] at hfx
  have HFX : Hid _ := hfx
  have HRW : Hid _ := row_fl h.fr.own
  have HONE : Hid _ := flatF_one h.fr.ent
  have hli : (L.length : Int) ≤ 4096 := by have := h.len; have := h.room; omega
  have hpi : (p : Int) < (L.length : Int) := by omega
  have hvci : (L.length : Int) ≤ (vc : Int) := by omega
  have hvcm : (vc : Int) ≤ 9223372036854775807 := by have := hvc.2; unfold maxLen at this; omega
  clear h hE e1 e2 e3 hfx hx hm hp hvc hpx hpy
  have HY0 : Hid _ := mx_zero w
  have HB0 : Hid _ := below_alloc w (Obj.cells #[.int .i64 0, .int .i64 0, .int .i64 0, .int .i64 0, .int .i64 0, .int .i64 0, .slice none 0 0, .slice none 0 0, .slice none 0 0] 35)
  go_enter Try.func43, Try.ntmps43
  go_upto_region 1 with fail
  obtain ⟨Q, hQ⟩ : ∃ Q, Q = w.heap.size := ⟨_, rfl⟩
  have HQ : Hid (w.heap.size ≤ Q) := by show _ ≤ _; omega
  rw [← hQ] at HY0 ⊢
  clear hQ
  generalize w.alloc (Obj.cells #[.int .i64 0, .int .i64 0, .int .i64 0, .int .i64 0, .int .i64 0, .int .i64 0, .slice none 0 0, .slice none 0 0, .slice none 0 0] 35) = w1 at HB0 HY0 ⊢
  have HF1 : Hid _ := HFX.out.below HB0.out
  have c1 := (HR.out.below HB0.out).c1
  have f1 := HF1.out.c1
  have f2 := HF1.out.c2
  have f3 := HF1.out.c3
  have f4 := HF1.out.c4
  have f5 := HF1.out.c5
  have f6 := HF1.out.c6
  have f7 := HF1.out.c7
  have f8 := HF1.out.c8
  have f9 := HF1.out.c9
  go_upto_region 2 with fail
  have HX : Hid _ := mx_new w1 m (.slice ea en ec) (.slice qa qn qc) (.slice pa pn pc)
  have HY2 : Hid _ := mx_old HY0.out (Obj.cells #[.int .i64 m.K, .int .i64 m.F, .int .i64 m.T, .int .i64 m.B, .int .i64 m.A, .int .i64 m.C, .slice ea en ec, .slice qa qn qc, .slice pa pn pc] 35)
  have HB2 : Hid _ := below_trans HB0.out (below_alloc w1 (Obj.cells #[.int .i64 m.K, .int .i64 m.F, .int .i64 m.T, .int .i64 m.B, .int .i64 m.A, .int .i64 m.C, .slice ea en ec, .slice qa qn qc, .slice pa pn pc] 35))
  obtain ⟨Y, hY⟩ : ∃ Y, Y = w1.heap.size := ⟨_, rfl⟩
  have HYL : Hid (w.heap.size ≤ Y) := by have := HB0.out.size; show _ ≤ _; omega
  rw [← hY] at HX ⊢
  clear hY
  generalize w1.alloc (Obj.cells #[.int .i64 m.K, .int .i64 m.F, .int .i64 m.T, .int .i64 m.B, .int .i64 m.A, .int .i64 m.C, .slice ea en ec, .slice qa qn qc, .slice pa pn pc] 35) = w2 at HX HY2 HB2 ⊢
  clear c1 f1 f2 f3 f4 f5 f6 f7 f8 f9 HF1 HB0 HY0
  go_upto_region 3 with fail
  have HO3 : Hid _ := own_made0 w2 55 10 (base := w2.heap.size) (Nat.le_refl _)
  have HX3 : Hid _ := mx_old HX.out (Obj.cells #[] 55)
  have HY3 : Hid _ := mx_old HY2.out (Obj.cells #[] 55)
  have HB3 : Hid _ := below_trans HB2.out (below_alloc w2 (Obj.cells #[] 55))
  obtain ⟨N, hN⟩ : ∃ N, N = w2.heap.size := ⟨_, rfl⟩
  have HNL : Hid (w.heap.size ≤ N ∧ Y < N ∧ Q < N) := by have h1 := HB2.out.size; have h2 := cell_lt HX.out.c0; have h3 := cell_lt HY2.out.c0; simp only at h2 h3; exact ⟨by omega, by omega, by omega⟩
  have HN3 : Hid (N < (w2.alloc (Obj.cells #[] 55)).heap.size) := by show _ < _; rw [size_allocC]; omega
  rw [← hN] at HO3 ⊢
  clear hN
  generalize w2.alloc (Obj.cells #[] 55) = w3 at HO3 HX3 HY3 HB3 HN3 ⊢
  clear HX HY2 HB2
  have HR3 : Hid _ := HR.out.below HB3.out
  have c1 := HR3.out.c1
  have HW3 : Hid (∀ j u, (flatF L)[j]? = some u → w3.cell? ⟨g, j, none⟩ = some u) := row_fl HR3.out.fr.own
  go_upto_region 4 with (at_builtin; refine append_fs (by rfl) (.tmp 16) (.tmp 22) (by rfl) N _ 0 [] (by rfl) HO3.out g 0 p vc (L.take p) (by rfl) (by rw [List.length_take]; have := HP.out; omega) (fun j u hj => by rw [Nat.zero_add]; rw [flatF_take, List.getElem?_take] at hj; split at hj; exact HW3.out j u hj; cases hj) (fun u hu => HONE.out u (by rw [flatF_take] at hu; exact List.mem_of_mem_take hu)) (by have := HP.out; have := HR3.out.len; have := HR3.out.room; omega) (Nat.le_of_lt HN3.out) ?_; intro v4 w4 hown hgrow hat)
  rw [Nat.zero_add, List.nil_append] at hown
  have HC4 : Hid (Ch (fun y => y = N) w3 w4) := Ch.of_grown hgrow (fun y hy => by cases hy; rfl)
  have HB4 : Hid (Below w.heap.size w w4) := HB3.out.trans (HC4.out.to_below HB3.out.size (fun y hy => by rw [hy]; exact HNL.out.1))
  have HX4 : Hid _ := HX3.out.ch HC4.out (show ¬ Y = N by have := HNL.out; omega)
  have HY4 : Hid _ := HY3.out.ch HC4.out (show ¬ Q = N by have := HNL.out; omega)
  obtain ⟨a4, c4, rfl⟩ := own_formN hown
  have HO4 : Hid _ := hown
  have HN4 : Hid (N ≤ w4.heap.size ∧ ∀ y, (Value.slice a4 p c4).ownBlock = some y → N ≤ y) := ⟨by have h1 := HN3.out; have h2 := HC4.out.size; omega, fun y hy => (hown.lt y hy).1⟩
  clear hown hgrow hat c1 HW3 HR3 HX3 HY3 HO3 HC4 HB3
  have HR4 : Hid _ := HR.out.below HB4.out
  have c1 := HR4.out.c1
  have HW4 : Hid (∀ j u, (flatF L)[j]? = some u → w4.cell? ⟨g, j, none⟩ = some u) := row_fl HR4.out.fr.own
  have hp1 : ((p : Int) + 1) ≤ (L.length : Int) := by omega
  have hpp : ((p : Int) + 1) ≤ (vc : Int) := by omega
  have HDL : Hid ((L.drop (p + 1)).length = L.length - (p + 1)) := List.length_drop
  have HFIN : Hid (∀ (v5 : Value) (w5 : World), w5.ownsRow N 55 10 v5 (p + (L.drop (p + 1)).length) (flatF (L.take p) ++ flatF (L.drop (p + 1))) → w4.grownBy w5 (Value.slice a4 p c4).ownBlock → Below w.heap.size w w5 ∧ MX w5 Y m (.slice ea en ec) (.slice qa qn qc) (.slice pa pn pc) ∧ MX w5 Q zeroMs (.slice none 0 0) (.slice none 0 0) (.slice none 0 0) ∧ (∃ a5 c5, v5 = .slice a5 (L.eraseIdx p).length c5) ∧ Rt (w5.setCell ⟨R, 1, none⟩ v5) B R r nx v5 (L.eraseIdx p) ∧ ∀ y, v5.ownBlock = some y → N ≤ y) := by
    intro v5 w5 hown hgrow
    have hc : Ch (fun y => (Value.slice a4 p c4).ownBlock = some y) w4 w5 := Ch.of_grown hgrow (fun y hy => hy)
    have hnl := HNL.out
    have hb : Below w.heap.size w w5 := HB4.out.trans (hc.to_below HB4.out.size (fun y hy => by have := HN4.out.2 y hy; omega))
    have hel : (L.eraseIdx p).length = p + (L.drop (p + 1)).length := by rw [List.eraseIdx_eq_take_drop_succ, List.length_append, List.length_take]; have := HP.out; omega
    have hef : flatF (L.take p) ++ flatF (L.drop (p + 1)) = flatF (L.eraseIdx p) := by rw [← flatF_two, List.eraseIdx_eq_take_drop_succ]
    rw [hef, ← hel] at hown
    have hnb : ∀ y, v5.ownBlock = some y → N ≤ y := fun y hy => (hown.lt y hy).1
    have hr5 := HR.out.below hb
    have hcs := ch_set w5 R 1 v5
    have hsub : ∀ x ∈ L.eraseIdx p, x ∈ L := fun x hx => List.mem_of_mem_eraseIdx hx
    refine ⟨hb, HX4.out.ch hc (fun e => by have := HN4.out.2 Y e; omega), HY4.out.ch hc (fun e => by have := HN4.out.2 Q e; omega), own_formN hown, ?_, hnb⟩
    have hRl := HR.out.lo.2
    refine ⟨?_, by simp [go_sem, hr5.c1], ?_, fun j => by simpa [go_sem] using hr5.z j, ⟨?_, fun x hx => ?_, fun x hx => hr5.fr.lo x (hsub x hx), ?_, fun x hx y hy => ?_⟩, fun e => by have := hnb R e; omega, fun x hx => hr5.off x (hsub x hx), fun x hx => hr5.snd x (hsub x hx), hr5.num.sublist (List.eraseIdx_sublist _ _), fun x hx => hr5.lt x (hsub x hx), ?_, hr5.room, ⟨hr5.lo.1, by have := hr5.lo.2; simpa [go_sem] using this⟩⟩
    · rw [World.cell?_setCell_other _ _ _ _ (by rintro ⟨⟩)]; exact hr5.c0
    · rw [World.cell?_setCell_other _ _ _ _ (by rintro ⟨⟩)]; exact hr5.c2
    · have hB : B ≤ N := by have := HR.out.lo; omega
      exact own_chE (own_baseC hown hB) hcs (fun y hy e => by have := hnb y hy; omega)
    · exact (hr5.fr.ent x (hsub x hx)).ch hcs (fun y h1 _ e => by have := hr5.off x (hsub x hx); omega)
    · exact hr5.fr.rise.sublist (List.eraseIdx_sublist _ _)
    · right; have h1 := (HR.out.fr.ent x (hsub x hx)).hi; have := hnb y hy; omega
    · exact Nat.le_trans (List.length_eraseIdx_le _ _) hr5.len
  have z1 := HR4.out.z 1
  by_cases hcp : vc = p + 1
  · have HD0 : Hid (L.drop (p + 1) = []) := List.drop_eq_nil_of_le (by omega)
    have HL0 : Hid (L.length - (p + 1) = (L.drop (p + 1)).length) := HDL.out.symm
    go_upto_region 5 with (at_builtin; refine append_fs (by rfl) (.tmp 24) (.tmp 31) (by rfl) N _ p (flatF (L.take p)) (by rfl) HO4.out g 0 (L.length - (p + 1)) 0 (L.drop (p + 1)) (by rfl) HL0.out (fun j u hj => by rw [HD0.out] at hj; simp [flatF] at hj) (fun u hu => by rw [HD0.out] at hu; simp [flatF] at hu) (by have := HR.out.len; have := HR.out.room; omega) HN4.out.1 ?_; intro v5 w5 hown hgrow hat)
    rw [HL0.out] at hown
    obtain ⟨hb5, hx5, hy5, ⟨a5, c5, e5⟩, hrt, hnb⟩ := HFIN.out v5 w5 hown hgrow
    subst e5
    have HB5 : Hid _ := hb5
    have HX5 : Hid _ := hx5
    have HY5 : Hid _ := hy5
    have HRT : Hid _ := hrt
    have HNB : Hid _ := hnb
    have HRR : Hid _ := HR.out
    clear hown hgrow hat hb5 hx5 hy5 hrt hnb c1 z1
    have c1 := (HR.out.below HB5.out).c1
    have z1 := (HR.out.below HB5.out).z 1
    go_upto_region 6 with fail
    have HC6 : Hid _ := ch_set w5 R 1 (.slice a5 (L.eraseIdx p).length c5)
    have HX6 : Hid _ := HX5.out.ch HC6.out (show ¬ Y = R by have := HR.out.lo.2; have := HYL.out; omega)
    have HY6 : Hid _ := HY5.out.ch HC6.out (show ¬ Q = R by have := HR.out.lo.2; have := HQ.out; omega)
    clear c1 z1 hp1 hpp
    generalize w5.setCell ⟨R, 1, none⟩ (.slice a5 (L.eraseIdx p).length c5) = w6 at HRT HC6 HX6 HY6 ⊢
    have HR : Hid _ := HY6.out.over m (.slice ea en ec) (.slice qa qn qc) (.slice pa pn pc)
    have HCS : Hid (Ch (fun x => x = Q) w6 (setM w6 Q m (.slice ea en ec) (.slice qa qn qc) (.slice pa pn pc))) := ch_setM _ _ _ _ _ _
    have y0 := HY6.out.c0
    have y1 := HY6.out.c1
    have y2 := HY6.out.c2
    have y3 := HY6.out.c3
    have y4 := HY6.out.c4
    have y5 := HY6.out.c5
    have y6 := HY6.out.c6
    have y7 := HY6.out.c7
    have y8 := HY6.out.c8
    have hz := HY6.out.z
    have x0 := HX6.out.c0
    have x1 := HX6.out.c1
    have x2 := HX6.out.c2
    have x3 := HX6.out.c3
    have x4 := HX6.out.c4
    have x5 := HX6.out.c5
    have x6 := HX6.out.c6
    have x7 := HX6.out.c7
    have x8 := HX6.out.c8
    go_wp2_with fail
    show bodyPost _ _ _ _ _ (setM w6 Q m (.slice ea en ec) (.slice qa qn qc) (.slice pa pn pc))
    clear y0 y1 y2 y3 y4 y5 y6 y7 y8 x0 x1 x2 x3 x4 x5 x6 x7 x8 hz
    generalize setM w6 Q m (.slice ea en ec) (.slice qa qn qc) (.slice pa pn pc) = w9 at HR HCS ⊢
    have y0 := HR.out.c0
    have y1 := HR.out.c1
    have y2 := HR.out.c2
    have y3 := HR.out.c3
    have y4 := HR.out.c4
    have y5 := HR.out.c5
    have y6 := HR.out.c6
    have y7 := HR.out.c7
    have y8 := HR.out.c8
    refine bodyPost_ret (v := .agg #[.int .i64 m.K, .int .i64 m.F, .int .i64 m.T, .int .i64 m.B, .int .i64 m.A, .int .i64 m.C, .slice ea en ec, .slice qa qn qc, .slice pa pn pc]) (by simp [results, Try.results43, go_sem, y0, y1, y2, y3, y4, y5, y6, y7, y8]) rfl ?_
    refine ⟨_, by rw [HV.out], HRT.out.ch HCS.out (fun y hy => ?_), (((Ch.of_below HB5.out).trans HC6.out (fun y hy => .inl hy)).trans HCS.out (fun y hy => by right; rw [hy]; exact HQ.out)), fun y hy => by have := HNB.out y hy; have := HNL.out; omega⟩
    subst hy
    intro hk
    have h1 := HNL.out
    have h2 := HQ.out
    rcases hk with e | e | ⟨z, hz, h3, h4⟩
    · have := HRR.out.lo.2; omega
    · have := HNB.out _ e; omega
    · have := (HRR.out.fr.ent z (List.mem_of_mem_eraseIdx hz)).hi; omega
  · have HL0 : Hid (L.length - (p + 1) = (L.drop (p + 1)).length) := HDL.out.symm
    go_upto_region 5 with (at_builtin; refine append_fs (by rfl) (.tmp 24) (.tmp 31) (by rfl) N _ p (flatF (L.take p)) (by rfl) HO4.out g ((p + 1) * 10) (L.length - (p + 1)) _ (L.drop (p + 1)) (by rfl) HL0.out (fun j u hj => by rw [flatF_drop, List.getElem?_drop] at hj; exact HW4.out _ u hj) (fun u hu => HONE.out u (by rw [flatF_drop] at hu; exact List.mem_of_mem_drop hu)) (by have := HR.out.len; have := HR.out.room; omega) HN4.out.1 ?_; intro v5 w5 hown hgrow hat)
    rw [HL0.out] at hown
    obtain ⟨hb5, hx5, hy5, ⟨a5, c5, e5⟩, hrt, hnb⟩ := HFIN.out v5 w5 hown hgrow
    subst e5
    have HB5 : Hid _ := hb5
    have HX5 : Hid _ := hx5
    have HY5 : Hid _ := hy5
    have HRT : Hid _ := hrt
    have HNB : Hid _ := hnb
    have HRR : Hid _ := HR.out
    clear hown hgrow hat hb5 hx5 hy5 hrt hnb c1 z1
    have c1 := (HR.out.below HB5.out).c1
    have z1 := (HR.out.below HB5.out).z 1
    go_upto_region 6 with fail
    have HC6 : Hid _ := ch_set w5 R 1 (.slice a5 (L.eraseIdx p).length c5)
    have HX6 : Hid _ := HX5.out.ch HC6.out (show ¬ Y = R by have := HR.out.lo.2; have := HYL.out; omega)
    have HY6 : Hid _ := HY5.out.ch HC6.out (show ¬ Q = R by have := HR.out.lo.2; have := HQ.out; omega)
    clear c1 z1 hp1 hpp
    generalize w5.setCell ⟨R, 1, none⟩ (.slice a5 (L.eraseIdx p).length c5) = w6 at HRT HC6 HX6 HY6 ⊢
    have HR : Hid _ := HY6.out.over m (.slice ea en ec) (.slice qa qn qc) (.slice pa pn pc)
    have HCS : Hid (Ch (fun x => x = Q) w6 (setM w6 Q m (.slice ea en ec) (.slice qa qn qc) (.slice pa pn pc))) := ch_setM _ _ _ _ _ _
    have y0 := HY6.out.c0
    have y1 := HY6.out.c1
    have y2 := HY6.out.c2
    have y3 := HY6.out.c3
    have y4 := HY6.out.c4
    have y5 := HY6.out.c5
    have y6 := HY6.out.c6
    have y7 := HY6.out.c7
    have y8 := HY6.out.c8
    have hz := HY6.out.z
    have x0 := HX6.out.c0
    have x1 := HX6.out.c1
    have x2 := HX6.out.c2
    have x3 := HX6.out.c3
    have x4 := HX6.out.c4
    have x5 := HX6.out.c5
    have x6 := HX6.out.c6
    have x7 := HX6.out.c7
    have x8 := HX6.out.c8
    go_wp2_with fail
    show bodyPost _ _ _ _ _ (setM w6 Q m (.slice ea en ec) (.slice qa qn qc) (.slice pa pn pc))
    clear y0 y1 y2 y3 y4 y5 y6 y7 y8 x0 x1 x2 x3 x4 x5 x6 x7 x8 hz
    generalize setM w6 Q m (.slice ea en ec) (.slice qa qn qc) (.slice pa pn pc) = w9 at HR HCS ⊢
    have y0 := HR.out.c0
    have y1 := HR.out.c1
    have y2 := HR.out.c2
    have y3 := HR.out.c3
    have y4 := HR.out.c4
    have y5 := HR.out.c5
    have y6 := HR.out.c6
    have y7 := HR.out.c7
    have y8 := HR.out.c8
    refine bodyPost_ret (v := .agg #[.int .i64 m.K, .int .i64 m.F, .int .i64 m.T, .int .i64 m.B, .int .i64 m.A, .int .i64 m.C, .slice ea en ec, .slice qa qn qc, .slice pa pn pc]) (by simp [results, Try.results43, go_sem, y0, y1, y2, y3, y4, y5, y6, y7, y8]) rfl ?_
    refine ⟨_, by rw [HV.out], HRT.out.ch HCS.out (fun y hy => ?_), (((Ch.of_below HB5.out).trans HC6.out (fun y hy => .inl hy)).trans HCS.out (fun y hy => by right; rw [hy]; exact HQ.out)), fun y hy => by have := HNB.out y hy; have := HNL.out; omega⟩
    subst hy
    intro hk
    have h1 := HNL.out
    have h2 := HQ.out
    rcases hk with e | e | ⟨z, hz, h3, h4⟩
    · have := HRR.out.lo.2; omega
    · have := HNB.out _ e; omega
    · have := (HRR.out.fr.ent z (List.mem_of_mem_eraseIdx hz)).hi; omega
end Go.Proofs.Ytokfbnpjndlccaa


