/- The reference's Print. Printed by gen_ro22.py. -/
import Derived.Test.YtkiplcmndpdifaaGreatDoorRn

namespace Go.Proofs.YtkiplcmndpdifaaGreatDoor

open Go.RowKit

attribute [local go_sem] run_store_float


theorem wpl_s9 {ops : Array Oper} {rest : List Oper} {o : Oper} {a : Act} {Q : Exit → Act → World → Prop} {base : Nat} {w : World} {v : Value} {l : Bs} (s : Bs) {t : ByteArray} (hgd : o.guard = none) (sl x : Operand)
    (ho : o.op = .call { callee := .builtin .append, args := #[sl, x], argTypes := #[60, 9] }) (hs : a.eval sl = v) (h : TX base w v l) (hx : a.eval x = .string t) (ht : t = ⟨s.toArray⟩) (hlen : l.length + s.length ≤ 1099511627776) (hb : base ≤ w.heap.size)
    (hK : ∀ v' w', TX base w' v' (l ++ s) → Below base w w' → base ≤ w'.heap.size → Kq w w' → wpList Tryz.prog ops Q rest (a.put o.dst v') w') : wpList Tryz.prog ops Q (o :: rest) a w := by
  obtain ⟨iu, hiu, hu0, hu1, hu2⟩ := info_parts21 info_u8
  subst ht
  refine Lib.wpList_append_own_string _ hgd sl x 60 9 ho base 5 iu Tryz.underlying60 Tryz.underlying9 hiu hu0 hu1 hu2 v l.length (bc l) hs h ⟨s.toArray⟩ hx (by rw [size_mk]; unfold maxLen; omega) (by rw [size_mk]; omega) hb ?_
  intro v' w' hr hgr _
  refine hK v' w' ?_ ((Below.refl base w).grown hgr hb (fun y hy => (World.ownsRow.lt h y hy).1)) (Nat.le_trans hb hgr.size) (Kq.grown h hgr)
  unfold TX
  rw [bc_app, List.length_append, ← str_bc s]
  rw [size_mk] at hr
  exact hr


theorem wpl_b9 {ops : Array Oper} {rest : List Oper} {o : Oper} {a : Act} {Q : Exit → Act → World → Prop} {base : Nat} {w : World} {v : Value} {l : Bs} (c : UInt8) {g : Nat} {z : Int} {t : TypeId} {fr : Nat × Nat} (hgd : o.guard = none) (sl x : Operand)
    (ho : o.op = .call { callee := .builtin .append, args := #[sl, x], argTypes := #[60, 60] }) (hs : a.eval sl = v) (h : TX base w v l) (hx : a.eval x = .slice (some ⟨g, 0, none⟩) 1 1) (hg : w.heap[g]? = some (.cells #[.int .u8 z] t fr)) (hz : z = (c.toNat : Int)) (hlen : l.length + 1 ≤ 1099511627776) (hb : base ≤ w.heap.size)
    (hK : ∀ v' w', TX base w' v' (l ++ [c]) → Below base w w' → base ≤ w'.heap.size → Kq w w' → wpList Tryz.prog ops Q rest (a.put o.dst v') w') : wpList Tryz.prog ops Q (o :: rest) a w := by
  obtain ⟨iu, hiu, hu0, hu1, hu2⟩ := info_parts21 info_u8
  subst hz
  refine wpList_append_own _ hgd sl x 60 ho base 5 iu (.int .u8 0) 1 1 Tryz.underlying60 hiu hu0 hu1 hu2 (by rfl) (by decide) v l.length (bc l) hs h ⟨g, 0, none⟩ 1 1 [.int .u8 (c.toNat : Int)] hx (by rfl) (fun j u hj => by rw [WideShapes.add_plain, Nat.zero_add, cell_of_row _ g j _ t fr hg]; simpa using hj) (by intro u hu; simp at hu; subst hu; rfl) (by unfold maxLen; omega) (by omega) hb ?_
  intro v' w' hr hgr _
  refine hK v' w' ?_ ((Below.refl base w).grown hgr hb (fun y hy => (World.ownsRow.lt h y hy).1)) (Nat.le_trans hb hgr.size) (Kq.grown h hgr)
  unfold TX
  rw [bc_app, List.length_append]
  exact hr
theorem TX.nil (w : World) {base : Nat} (hb : base ≤ w.heap.size) : TX base (w.alloc (.cells #[] 5)) (.slice (some ⟨w.heap.size, 0, none⟩) 0 0) [] :=
  ⟨rfl, .inr ⟨w.heap.size, 0, #[], rfl, hb, heap_alloc_new w _, Nat.le_refl _, by simp [maxLen], rfl, rfl⟩⟩


/-- What Print has written: the row, its world. -/
structure Po (base : Nat) (w1 wA wr : World) (v : Value) (l : Bs) : Prop where
  tx : TX base wr v l
  bel : Below base w1 wr
  sz : base ≤ wr.heap.size
  kq : Kq wA wr


theorem ar7_at {w : World} {A : Nat} {p : Pl} (h : w.heap[A]? = some (.cells #[.int .i64 p.P, .int .i64 p.S, .int .i64 p.W, .int .i64 p.A, .int .i64 p.B, .int .i64 p.N, .int .i64 p.G] 64 (0, 0))) {i : Nat} (hi : i < 7) : w.cell? ⟨A, i, none⟩ = some (.int .i64 (plNth p i)) := by
  rw [blk_cell h]
  have : i = 0 ∨ i = 1 ∨ i = 2 ∨ i = 3 ∨ i = 4 ∨ i = 5 ∨ i = 6 := by omega
  rcases this with rfl | rfl | rfl | rfl | rfl | rfl | rfl <;> rfl


theorem op_pos (o : Og) : 1 ≤ (opT o).length := by
  unfold opT lineT
  simp only [List.length_append, List.length_singleton]
  omega
theorem take_few {ops : List Og} {k : Nat} (hk : k ≤ ops.length) : k ≤ ((ops.take k).flatMap opT).length := by
  have key : ∀ l : List Og, l.length ≤ (l.flatMap opT).length := by
    intro l
    induction l with
    | nil => simp
    | cons a l ih => have := op_pos a; rw [List.flatMap_cons, List.length_append, List.length_cons]; omega
  have h := key (ops.take k)
  rw [List.length_take] at h
  omega


theorem opT_cut (o : Og) : opT o = [111, 112, 32] ++ Lib.itoa o.K ++ [32] ++ Lib.itoa o.N ++ [32] ++ hexRow o.X 16 ++ [10] := by
  simp [opT, lineT, opW, joinB]


theorem stT_ln {s : Sp} (h : stE s = 0) : stT s = lnE s ++ [10] := by
  unfold stT lineT lnE
  rw [if_pos h]


theorem plan_step {p : Pl} {i : Nat} (hi : i < 7) : joinB 32 ((planA p).take (i + 1)) = joinB 32 ((planA p).take i) ++ [32] ++ Lib.itoa (plNth p i) := by
  rw [List.take_add_one, planA_nth p i hi]
  show joinB 32 ((planA p).take i ++ [_]) = _
  rw [join_snoc]
  simp


set_option maxRecDepth 100000 in
set_option maxHeartbeats 16000000 in
theorem rprint_walk {p : Pl} {ops : List Og} {sts : List Sp} {ov sv : Value} {w : World} (hov : OVw w ov ops) (hsv : SVw w sv sts) (hp : p.ok) (ho : ∀ x ∈ ops, x.ok) (hs : ∀ x ∈ sts, x.ok) :
    Calls Tryz.prog 11 #[PlV p ov, sv] w (PrintGot p ops sts w) := by
  have HO : Hid (OVw w ov ops) := hov
  have HS : Hid (SVw w sv sts) := hsv
  have HR : Hid (p.ok ∧ (∀ x ∈ ops, x.ok) ∧ (∀ x ∈ sts, x.ok)) := ⟨hp, ho, hs⟩
  obtain ⟨oa, oc, rfl, _, hom, _, hog⟩ := hov
  obtain ⟨sa, sc, rfl, _, hsm, _, hsg⟩ := hsv
  have HOG : Hid (Gl w oa 3 opF ops) := hog
  have HSG : Hid (Gl w sa 5 stF sts) := hsg
  obtain ⟨n, hn⟩ : ∃ n, n = sts.length := ⟨_, rfl⟩
  rw [← hn]
  have HN : Hid (n = sts.length) := hn
  unfold PlV
  clear hp ho hs hn hom hsm hog hsg
  by_cases h4 : 4096 < n
  · have hi4 : (4096 : Int) < (n : Int) := by omega
    have HE : Hid (printE p ops sts = 212 ∧ printT p ops sts = []) := by
      have e : printE p ops sts = 212 := by unfold printE; rw [if_pos (by have := HN.out; omega)]
      exact ⟨e, printT_bad (by rw [e]; decide)⟩
    clear h4
    go_enter Tryz.func11, Tryz.ntmps11
    go_wp2_with fail
    go_ret2
    unfold PrintGot
    rw [HE.out.1, HE.out.2]
    exact ⟨rfl, below_alloc _ _⟩
  have hi4 : ¬ (4096 : Int) < (n : Int) := by omega
  have HN4 : Hid (n ≤ 4096) := by show n ≤ 4096; omega
  obtain ⟨B, hB⟩ : ∃ B, B = w.heap.size := ⟨_, rfl⟩
  obtain ⟨w1, hw1⟩ : ∃ w1, w1 = w.alloc (.cells #[.int .i64 p.P, .int .i64 p.S, .int .i64 p.W, .slice oa ops.length oc, .int .i64 p.A, .int .i64 p.B, .int .i64 p.N, .int .i64 p.G] 25) := ⟨_, rfl⟩
  obtain ⟨base, hbase⟩ : ∃ b, b = w1.heap.size := ⟨_, rfl⟩
  have HW1 : Hid (w1 = w.alloc (.cells #[.int .i64 p.P, .int .i64 p.S, .int .i64 p.W, .slice oa ops.length oc, .int .i64 p.A, .int .i64 p.B, .int .i64 p.N, .int .i64 p.G] 25) ∧ B = w.heap.size ∧ Below w.heap.size w w1 ∧ w1.heap[B]? = some (.cells #[.int .i64 p.P, .int .i64 p.S, .int .i64 p.W, .slice oa ops.length oc, .int .i64 p.A, .int .i64 p.B, .int .i64 p.N, .int .i64 p.G] 25 (0, 0)) ∧ base = w1.heap.size) := ⟨hw1, hB, by rw [hw1]; exact below_alloc _ _, by rw [hw1]; exact alloc_at hB, hbase⟩
  have hgl : B < w1.heap.size := blk_lt HW1.out.2.2.2.1
  clear hw1 hB h4 hbase
  go_enter Tryz.func11, Tryz.ntmps11
  go_upto_region 3 with fail
  rw [← HW1.out.2.1, ← HW1.out.1]
  go_upto_region 4 with fail
  obtain ⟨r0, hr0⟩ : ∃ g, g = w1.heap.size := ⟨_, rfl⟩
  obtain ⟨w2, hw2⟩ : ∃ w2, w2 = w1.alloc (.cells #[] 5) := ⟨_, rfl⟩
  have HX2 : Hid (Po base w1 w1 w2 (.slice (some ⟨r0, 0, none⟩) 0 0) []) := by
    have h := HW1.out.2.2.2.2
    rw [hw2, hr0]
    exact ⟨TX.nil w1 (by omega), (Below.refl _ _).alloc (by omega) _, by rw [alloc_sz]; omega, Kq.below (below_alloc _ _)⟩
  rw [← hw2, ← hr0]
  clear hw2 hr0
  go_upto_region 5 with (at_builtin; refine wpl_s9 (base := base) (l := []) planW (by rfl) (.tmp 17) _ (by rfl) (by rfl) HX2.out.tx (by rfl) rfl (by simp [planW]) HX2.out.sz ?_; intro v3 w3 hx3 hb3 hs3 hk3; obtain ⟨l3, hl3⟩ : ∃ l : Bs, l = planW := ⟨_, rfl⟩; replace hx3 : TX base w3 v3 l3 := (by rw [hl3]; simpa using hx3); have HX3 : Hid (Po base w1 w1 w3 v3 l3) := ⟨hx3, (HX2.out.bel.trans hb3), hs3, (HX2.out.kq.trans hk3)⟩; have HL3 : Hid (l3 = planW ∧ l3.length ≤ 4) := ⟨hl3, (by have := True.intro; rw [hl3]; simp [planW])⟩; obtain ⟨xa3, xc3, hvv, _, _⟩ := own_form21 hx3; obtain ⟨xn3, hxn⟩ : ∃ n, n = l3.length := ⟨_, rfl⟩; rw [← hxn] at hvv; subst hvv; clear hx3 hb3 hs3 hk3 hl3 hxn)
  obtain ⟨c0, c1, c2, c3, c4, c5, c6, c7⟩ := pl_cells9 (show w3.heap[B]? = some (.cells #[.int .i64 p.P, .int .i64 p.S, .int .i64 p.W, .slice oa ops.length oc, .int .i64 p.A, .int .i64 p.B, .int .i64 p.N, .int .i64 p.G] 25 (0, 0)) by rw [HX3.out.bel.block B (by have := HW1.out.2.2.2.2; omega)]; exact HW1.out.2.2.2.1)
  have hB3 : B < w3.heap.size := cell_lt c0
  have hB3n : ¬ B = w3.heap.size := by omega
  go_upto_region 6 with fail
  obtain ⟨A, hA⟩ : ∃ g, g = w3.heap.size := ⟨_, rfl⟩
  obtain ⟨wA, hwA⟩ : ∃ w4, w4 = w3.alloc (.cells #[.int .i64 p.P, .int .i64 p.S, .int .i64 p.W, .int .i64 p.A, .int .i64 p.B, .int .i64 p.N, .int .i64 p.G] 64) := ⟨_, rfl⟩
  have HXA : Hid (Po base w1 wA wA (.slice xa3 xn3 xc3) planW ∧ wA.heap[A]? = some (.cells #[.int .i64 p.P, .int .i64 p.S, .int .i64 p.W, .int .i64 p.A, .int .i64 p.B, .int .i64 p.N, .int .i64 p.G] 64 (0, 0)) ∧ w1.heap.size ≤ wA.heap.size) := by
    have h1 := HX3.out
    have h2 := HW1.out.2.2.2.2
    have h3 := h1.bel.size
    rw [hwA]
    refine ⟨⟨?_, h1.bel.alloc h1.sz _, by rw [alloc_sz]; have := h1.sz; omega, Kq.refl _⟩, alloc_at hA, by rw [alloc_sz]; omega⟩
    have h4 := h1.tx
    rw [HL3.out.1] at h4
    exact tx_keep h4 (below_alloc _ _)
  rw [← hwA, ← hA]
  clear hwA hA c0 c1 c2 c3 c4 c5 c6 c7 hB3 hB3n HX2 HX3 HL3
  go_wp2_with fail
  go_loopw [6, 8] (fun v6 v8 wr => ∃ i : Nat, i ≤ 7 ∧ v8 = .int .i64 i ∧ Po base w1 wA wr v6 (planW ++ joinB 32 ((planA p).take i))) (fun _ v8 _ => 7 - (intOf v8).toNat)
  case atStart => exact ⟨0, by omega, rfl, by simpa [joinB] using HXA.out.1⟩
  case round =>
    obtain ⟨i, hi7, rfl, hpo⟩ := hrel
    obtain ⟨l5, hl5⟩ : ∃ l : Bs, l = planW ++ joinB 32 ((planA p).take i) := ⟨_, rfl⟩
    rw [← hl5] at hpo
    have hb5 : l5.length ≤ 200 := by
      have h := planT_len HR.out.1
      unfold planT lineT at h
      have e : joinB 32 (planA p) = joinB 32 ((planA p).take i) ++ joinB 32 ((planA p).drop i) := by rw [← join_app, List.take_append_drop]
      rw [e] at h
      rw [hl5]
      simp only [List.length_append] at h ⊢
      omega
    have HX5 := hidH hpo
    have HL5 : Hid (l5 = planW ++ joinB 32 ((planA p).take i) ∧ l5.length ≤ 200) := ⟨hl5, hb5⟩
    obtain ⟨xa5, xc5, hv5, _, _⟩ := own_form21 hpo.tx
    subst hv5
    obtain ⟨xn5, hxn⟩ : ∃ n, n = l5.length := ⟨_, rfl⟩
    rw [← hxn] at HX5 ⊢
    clear hl5 hb5 hpo hxn
    by_cases hlt : i < 7
    · have hli : (i : Int) < 7 := by omega
      go_upto_region 10 with (at_builtin; refine wpl_b9 (base := base) (l := l5) 32 (by rfl) (.tmp 38) (.tmp 39) (by rfl) (by rfl) (tx_keep HX5.out.tx (below_alloc _ _)) (by rfl) (alloc_at rfl) rfl (by have := HL5.out.2; omega) (by rw [alloc_sz]; have := HX5.out.sz; omega) ?_; intro v6 w6 hx6 hb6 hs6 hk6; obtain ⟨l6, hl6⟩ : ∃ l : Bs, l = l5 ++ [32] := ⟨_, rfl⟩; replace hx6 : TX base w6 v6 l6 := (by rw [hl6]; exact hx6); have HX6 : Hid (Po base w1 wA w6 v6 l6) := ⟨hx6, ((HX5.out.bel.alloc HX5.out.sz _).trans hb6), hs6, (HX5.out.kq.trans ((Kq.below (below_alloc _ _)).trans hk6))⟩; have HL6 : Hid (l6 = l5 ++ [32] ∧ l6.length ≤ 201) := ⟨hl6, (by have := HL5.out.2; rw [hl6]; simp <;> omega)⟩; obtain ⟨xa6, xc6, hvv, _, _⟩ := own_form21 hx6; obtain ⟨xn6, hxn⟩ : ∃ n, n = l6.length := ⟨_, rfl⟩; rw [← hxn] at hvv; subst hvv; clear hx6 hb6 hs6 hk6 hl6 hxn)
      have ka := ar7_at (show w6.heap[A]? = some (.cells #[.int .i64 p.P, .int .i64 p.S, .int .i64 p.W, .int .i64 p.A, .int .i64 p.B, .int .i64 p.N, .int .i64 p.G] 64 (0, 0)) by rw [HX6.out.kq A _ _ _ HXA.out.2.1 (by decide)]; exact HXA.out.2.1) hlt
      obtain ⟨x, hx⟩ : ∃ x, x = plNth p i := ⟨_, rfl⟩
      rw [← hx] at ka
      have HXI : Hid (In64 x ∧ x = plNth p i) := ⟨by rw [hx]; exact plNth_ok HR.out.1 i, hx⟩
      clear hx
      go_wp2_with fail
      refine (rdecimal_walk HXI.out.1 _).mono ?_
      rintro e9 w7 ⟨rfl, hB7⟩
      obtain ⟨d7, hd7⟩ : ∃ l : Bs, l = Lib.itoa x := ⟨_, rfl⟩
      obtain ⟨td7, htd7⟩ : ∃ t : ByteArray, t = ⟨d7.toArray⟩ := ⟨_, rfl⟩
      have hdl7 : d7.length ≤ 21 := by rw [hd7]; exact itoa_len HXI.out.1
      have HX7 : Hid (Po base w1 wA w7 (.slice xa6 xn6 xc6) l6) := ⟨tx_keep HX6.out.tx hB7, HX6.out.bel.trans (hB7.mono HX6.out.sz), Nat.le_trans HX6.out.sz hB7.size, HX6.out.kq.trans (Kq.below hB7)⟩
      have HL7 : Hid (l6 = l6 ∧ d7 = Lib.itoa x ∧ td7 = ⟨d7.toArray⟩ ∧ d7.length ≤ 21) := ⟨rfl, hd7, htd7, hdl7⟩
      rw [← hd7]
      simp only [S]
      rw [← htd7]
      clear hB7 hd7 htd7 hdl7
      go_wp2_with (at_builtin; refine wpl_s9 (base := base) (l := l6) d7 (by rfl) (.tmp 41) (.tmp 45) (by rfl) (by rfl) HX7.out.tx (by rfl) HL7.out.2.2.1 (by have := HL6.out.2; have := HL7.out.2.2.2; omega) HX7.out.sz ?_; intro v8 w8 hx8 hb8 hs8 hk8; obtain ⟨l8, hl8⟩ : ∃ l : Bs, l = l6 ++ d7 := ⟨_, rfl⟩; replace hx8 : TX base w8 v8 l8 := (by rw [hl8]; exact hx8); have HX8 : Hid (Po base w1 wA w8 v8 l8) := ⟨hx8, (HX7.out.bel.trans hb8), hs8, (HX7.out.kq.trans hk8)⟩; have HL8 : Hid (l8 = l6 ++ d7 ∧ l8.length ≤ 222) := ⟨hl8, (by have := HL7.out.2.2.2; have := HL6.out.2; rw [hl8]; simp <;> omega)⟩; obtain ⟨xa8, xc8, hvv, _, _⟩ := own_form21 hx8; obtain ⟨xn8, hxn⟩ : ∃ n, n = l8.length := ⟨_, rfl⟩; rw [← hxn] at hvv; subst hvv; clear hx8 hb8 hs8 hk8 hl8 hxn)
      refine ⟨⟨i + 1, by omega, by (congr 1), ?_⟩, by simp [intOf]; omega⟩
      have e : planW ++ joinB 32 ((planA p).take (i + 1)) = l8 := by rw [HL8.out.1, HL7.out.2.1, HL6.out.1, HL5.out.1, plan_step hlt, HXI.out.2]; simp
      rw [e]
      exact HX8.out
    · have hni : ¬ (i : Int) < 7 := by omega
      have HPL : Hid (l5 ++ [10] = planT p ∧ l5.length + 1 ≤ 201) := by
        have e : (planA p).take i = planA p := List.take_of_length_le (by simp [planA]; omega)
        have h := HL5.out
        rw [e] at h
        refine ⟨by rw [h.1]; rfl, by omega⟩
      clear hlt
      go_upto_region 11 with fail
      go_upto_region 12 with (at_builtin; refine wpl_b9 (base := base) (l := l5) 10 (by rfl) (.tmp 47) (.tmp 48) (by rfl) (by rfl) (tx_keep HX5.out.tx (below_alloc _ _)) (by rfl) (alloc_at rfl) rfl (by have := HL5.out.2; omega) (by rw [alloc_sz]; have := HX5.out.sz; omega) ?_; intro v6 w6 hx6 hb6 hs6 hk6; obtain ⟨l6, hl6⟩ : ∃ l : Bs, l = l5 ++ [10] := ⟨_, rfl⟩; replace hx6 : TX base w6 v6 l6 := (by rw [hl6]; exact hx6); have HX6 : Hid (Po base w1 wA w6 v6 l6) := ⟨hx6, ((HX5.out.bel.alloc HX5.out.sz _).trans hb6), hs6, (HX5.out.kq.trans ((Kq.below (below_alloc _ _)).trans hk6))⟩; have HL6 : Hid (l6 = l5 ++ [10] ∧ l6.length ≤ 201) := ⟨hl6, (by have := HL5.out.2; rw [hl6]; simp <;> omega)⟩; obtain ⟨xa6, xc6, hvv, _, _⟩ := own_form21 hx6; obtain ⟨xn6, hxn⟩ : ∃ n, n = l6.length := ⟨_, rfl⟩; rw [← hxn] at hvv; subst hvv; clear hx6 hb6 hs6 hk6 hl6 hxn)
      have HCO : Hid (∀ wx, Below base w1 wx → Below w.heap.size w wx ∧ wx.heap[B]? = some (.cells #[.int .i64 p.P, .int .i64 p.S, .int .i64 p.W, .slice oa ops.length oc, .int .i64 p.A, .int .i64 p.B, .int .i64 p.N, .int .i64 p.G] 25 (0, 0))) := by
        intro wx hx
        have h := HW1.out
        have h2 := h.2.2.2.2
        rw [h2] at hx
        exact ⟨below_trans h.2.2.1 hx, blk_below h.2.2.2.1 hx⟩
      go_wp2_with fail
      go_loopw [6, 9] (fun v6 v9 wr => ∃ k : Nat, k ≤ ops.length ∧ v9 = .int .i64 k ∧ Po base w1 wA wr v6 (planT p ++ (ops.take k).flatMap opT) ∧ (planT p ++ (ops.take k).flatMap opT).length ≤ 262300) (fun _ v9 _ => ops.length - (intOf v9).toNat)
      case atStart => exact ⟨0, Nat.zero_le _, rfl, by simpa [HL6.out.1, HPL.out.1] using HX6.out, by have h := HPL.out; have h2 := planT_len HR.out.1; simp; omega⟩
      case round =>
        clear HX6 HL6 HX5 HL5 HPL
        obtain ⟨k, hk, rfl, hpo, hlen⟩ := hrel
        obtain ⟨l10, hl10⟩ : ∃ l : Bs, l = planT p ++ (ops.take k).flatMap opT := ⟨_, rfl⟩
        rw [← hl10] at hpo hlen
        have hkb : (k : Int) ≤ 262300 := by have h := take_few hk; rw [hl10] at hlen; simp only [List.length_append] at hlen; omega
        have HX10 := hidH hpo
        have HL10 : Hid (l10 = planT p ++ (ops.take k).flatMap opT ∧ l10.length ≤ 262300) := ⟨hl10, hlen⟩
        obtain ⟨xa10, xc10, hv10, _, _⟩ := own_form21 hpo.tx
        subst hv10
        obtain ⟨xn10, hxn⟩ : ∃ n, n = l10.length := ⟨_, rfl⟩
        rw [← hxn] at HX10 ⊢
        have HXN : Hid (xn10 = l10.length) := hxn
        have c3 : wr.cell? ⟨B, 3, none⟩ = some (.slice oa ops.length oc) := (pl_cells9 (HCO.out wr hpo.bel).2).2.2.2.1
        clear hl10 hlen hpo hxn
        by_cases hgo : k < ops.length ∧ xn10 ≤ 262144
        · have hki : (k : Int) < (ops.length : Int) := by omega
          have hxi : (xn10 : Int) ≤ 262144 := by omega
          obtain ⟨o, ho⟩ : ∃ o, ops[k]? = some o := ⟨_, List.getElem?_eq_getElem hgo.1⟩
          have HOK : Hid (ops[k]? = some o ∧ o.ok ∧ l10.length ≤ 262144 ∧ k < ops.length) := ⟨ho, HR.out.2.1 o (List.mem_of_getElem? ho), by have := HXN.out; omega, hgo.1⟩
          obtain ⟨b9, off9, hoa, _⟩ := gv_cells3 HOG.out ho
          subst hoa
          have HCE : Hid (∀ wx, Below base w1 wx → wx.cell? ⟨B, 3, none⟩ = some (.slice (some ⟨b9, off9, none⟩) ops.length oc) ∧ wx.cell? ⟨b9, off9 + k * 3, none⟩ = some (.int .i64 o.K) ∧ wx.cell? ⟨b9, off9 + k * 3 + 1, none⟩ = some (.int .i64 o.N) ∧ wx.cell? ⟨b9, off9 + k * 3 + 2, none⟩ = some (.float .f64 o.X)) := by
            intro wx hx
            have h := HCO.out wx hx
            obtain ⟨b', off', e, k0, k1, k2⟩ := gv_cells3 (HOG.out.below (fun _ => rfl) h.1) HOK.out.1
            cases e
            exact ⟨(pl_cells9 h.2).2.2.2.1, k0, k1, k2⟩
          clear ho hgo
          go_upto_region 15 with fail
          go_upto_region 16 with (at_builtin; refine wpl_s9 (base := base) (l := l10) [111, 112, 32] (by rfl) (.tmp 62) _ (by rfl) (by rfl) HX10.out.tx (by rfl) rfl (by have := HL10.out.2; simp <;> omega) HX10.out.sz ?_; intro v11 w11 hx11 hb11 hs11 hk11; obtain ⟨l11, hl11⟩ : ∃ l : Bs, l = l10 ++ [111, 112, 32] := ⟨_, rfl⟩; replace hx11 : TX base w11 v11 l11 := (by rw [hl11]; exact hx11); have HX11 : Hid (Po base w1 wA w11 v11 l11) := ⟨hx11, (HX10.out.bel.trans hb11), hs11, (HX10.out.kq.trans hk11)⟩; have HL11 : Hid (l11 = l10 ++ [111, 112, 32] ∧ l11.length ≤ 262303) := ⟨hl11, (by have := HL10.out.2; rw [hl11]; simp <;> omega)⟩; obtain ⟨xa11, xc11, hvv, _, _⟩ := own_form21 hx11; obtain ⟨xn11, hxn⟩ : ∃ n, n = l11.length := ⟨_, rfl⟩; rw [← hxn] at hvv; subst hvv; clear hx11 hb11 hs11 hk11 hl11 hxn)
          obtain ⟨c3a, ka, _, _⟩ := HCE.out w11 HX11.out.bel
          clear c3
          go_wp2_with fail
          refine (rdecimal_walk HOK.out.2.1.1 _).mono ?_
          rintro e9 w12 ⟨rfl, hB12⟩
          obtain ⟨d12, hd12⟩ : ∃ l : Bs, l = Lib.itoa o.K := ⟨_, rfl⟩
          obtain ⟨td12, htd12⟩ : ∃ t : ByteArray, t = ⟨d12.toArray⟩ := ⟨_, rfl⟩
          have hdl12 : d12.length ≤ 21 := by rw [hd12]; exact itoa_len HOK.out.2.1.1
          have HX12 : Hid (Po base w1 wA w12 (.slice xa11 xn11 xc11) l11) := ⟨tx_keep HX11.out.tx hB12, HX11.out.bel.trans (hB12.mono HX11.out.sz), Nat.le_trans HX11.out.sz hB12.size, HX11.out.kq.trans (Kq.below hB12)⟩
          have HL12 : Hid (l11 = l11 ∧ d12 = Lib.itoa o.K ∧ td12 = ⟨d12.toArray⟩ ∧ d12.length ≤ 21) := ⟨rfl, hd12, htd12, hdl12⟩
          rw [← hd12]
          simp only [S]
          rw [← htd12]
          clear hB12 hd12 htd12 hdl12
          clear c3a ka
          go_upto_region 17 with (at_builtin; refine wpl_s9 (base := base) (l := l11) d12 (by rfl) (.tmp 64) (.tmp 71) (by rfl) (by rfl) HX12.out.tx (by rfl) HL12.out.2.2.1 (by have := HL11.out.2; have := HL12.out.2.2.2; omega) HX12.out.sz ?_; intro v13 w13 hx13 hb13 hs13 hk13; obtain ⟨l13, hl13⟩ : ∃ l : Bs, l = l11 ++ d12 := ⟨_, rfl⟩; replace hx13 : TX base w13 v13 l13 := (by rw [hl13]; exact hx13); have HX13 : Hid (Po base w1 wA w13 v13 l13) := ⟨hx13, (HX12.out.bel.trans hb13), hs13, (HX12.out.kq.trans hk13)⟩; have HL13 : Hid (l13 = l11 ++ d12 ∧ l13.length ≤ 262324) := ⟨hl13, (by have := HL12.out.2.2.2; have := HL11.out.2; rw [hl13]; simp <;> omega)⟩; obtain ⟨xa13, xc13, hvv, _, _⟩ := own_form21 hx13; obtain ⟨xn13, hxn⟩ : ∃ n, n = l13.length := ⟨_, rfl⟩; rw [← hxn] at hvv; subst hvv; clear hx13 hb13 hs13 hk13 hl13 hxn)
          go_upto_region 18 with (at_builtin; refine wpl_b9 (base := base) (l := l13) 32 (by rfl) (.tmp 73) (.tmp 74) (by rfl) (by rfl) (tx_keep HX13.out.tx (below_alloc _ _)) (by rfl) (alloc_at rfl) rfl (by have := HL13.out.2; omega) (by rw [alloc_sz]; have := HX13.out.sz; omega) ?_; intro v14 w14 hx14 hb14 hs14 hk14; obtain ⟨l14, hl14⟩ : ∃ l : Bs, l = l13 ++ [32] := ⟨_, rfl⟩; replace hx14 : TX base w14 v14 l14 := (by rw [hl14]; exact hx14); have HX14 : Hid (Po base w1 wA w14 v14 l14) := ⟨hx14, ((HX13.out.bel.alloc HX13.out.sz _).trans hb14), hs14, (HX13.out.kq.trans ((Kq.below (below_alloc _ _)).trans hk14))⟩; have HL14 : Hid (l14 = l13 ++ [32] ∧ l14.length ≤ 262325) := ⟨hl14, (by have := HL13.out.2; rw [hl14]; simp <;> omega)⟩; obtain ⟨xa14, xc14, hvv, _, _⟩ := own_form21 hx14; obtain ⟨xn14, hxn⟩ : ∃ n, n = l14.length := ⟨_, rfl⟩; rw [← hxn] at hvv; subst hvv; clear hx14 hb14 hs14 hk14 hl14 hxn)
          obtain ⟨c3a, _, ka, _⟩ := HCE.out w14 HX14.out.bel
          go_wp2_with fail
          refine (rdecimal_walk HOK.out.2.1.2.1 _).mono ?_
          rintro e9 w15 ⟨rfl, hB15⟩
          obtain ⟨d15, hd15⟩ : ∃ l : Bs, l = Lib.itoa o.N := ⟨_, rfl⟩
          obtain ⟨td15, htd15⟩ : ∃ t : ByteArray, t = ⟨d15.toArray⟩ := ⟨_, rfl⟩
          have hdl15 : d15.length ≤ 21 := by rw [hd15]; exact itoa_len HOK.out.2.1.2.1
          have HX15 : Hid (Po base w1 wA w15 (.slice xa14 xn14 xc14) l14) := ⟨tx_keep HX14.out.tx hB15, HX14.out.bel.trans (hB15.mono HX14.out.sz), Nat.le_trans HX14.out.sz hB15.size, HX14.out.kq.trans (Kq.below hB15)⟩
          have HL15 : Hid (l14 = l14 ∧ d15 = Lib.itoa o.N ∧ td15 = ⟨d15.toArray⟩ ∧ d15.length ≤ 21) := ⟨rfl, hd15, htd15, hdl15⟩
          rw [← hd15]
          simp only [S]
          rw [← htd15]
          clear hB15 hd15 htd15 hdl15
          clear c3a ka
          go_upto_region 19 with (at_builtin; refine wpl_s9 (base := base) (l := l14) d15 (by rfl) (.tmp 76) (.tmp 83) (by rfl) (by rfl) HX15.out.tx (by rfl) HL15.out.2.2.1 (by have := HL14.out.2; have := HL15.out.2.2.2; omega) HX15.out.sz ?_; intro v16 w16 hx16 hb16 hs16 hk16; obtain ⟨l16, hl16⟩ : ∃ l : Bs, l = l14 ++ d15 := ⟨_, rfl⟩; replace hx16 : TX base w16 v16 l16 := (by rw [hl16]; exact hx16); have HX16 : Hid (Po base w1 wA w16 v16 l16) := ⟨hx16, (HX15.out.bel.trans hb16), hs16, (HX15.out.kq.trans hk16)⟩; have HL16 : Hid (l16 = l14 ++ d15 ∧ l16.length ≤ 262346) := ⟨hl16, (by have := HL15.out.2.2.2; have := HL14.out.2; rw [hl16]; simp <;> omega)⟩; obtain ⟨xa16, xc16, hvv, _, _⟩ := own_form21 hx16; obtain ⟨xn16, hxn⟩ : ∃ n, n = l16.length := ⟨_, rfl⟩; rw [← hxn] at hvv; subst hvv; clear hx16 hb16 hs16 hk16 hl16 hxn)
          go_upto_region 20 with (at_builtin; refine wpl_b9 (base := base) (l := l16) 32 (by rfl) (.tmp 85) (.tmp 86) (by rfl) (by rfl) (tx_keep HX16.out.tx (below_alloc _ _)) (by rfl) (alloc_at rfl) rfl (by have := HL16.out.2; omega) (by rw [alloc_sz]; have := HX16.out.sz; omega) ?_; intro v17 w17 hx17 hb17 hs17 hk17; obtain ⟨l17, hl17⟩ : ∃ l : Bs, l = l16 ++ [32] := ⟨_, rfl⟩; replace hx17 : TX base w17 v17 l17 := (by rw [hl17]; exact hx17); have HX17 : Hid (Po base w1 wA w17 v17 l17) := ⟨hx17, ((HX16.out.bel.alloc HX16.out.sz _).trans hb17), hs17, (HX16.out.kq.trans ((Kq.below (below_alloc _ _)).trans hk17))⟩; have HL17 : Hid (l17 = l16 ++ [32] ∧ l17.length ≤ 262347) := ⟨hl17, (by have := HL16.out.2; rw [hl17]; simp <;> omega)⟩; obtain ⟨xa17, xc17, hvv, _, _⟩ := own_form21 hx17; obtain ⟨xn17, hxn⟩ : ∃ n, n = l17.length := ⟨_, rfl⟩; rw [← hxn] at hvv; subst hvv; clear hx17 hb17 hs17 hk17 hl17 hxn)
          obtain ⟨c3a, _, _, ka⟩ := HCE.out w17 HX17.out.bel
          go_wp2_with fail
          refine (rhex_walk o.X _).mono ?_
          rintro e9 w18 ⟨rfl, hB180⟩
          have hB18 : Below w17.heap.size w17 w18 := by rw [hB180]; exact below_same _
          clear hB180
          obtain ⟨d18, hd18⟩ : ∃ l : Bs, l = hexRow o.X 16 := ⟨_, rfl⟩
          obtain ⟨td18, htd18⟩ : ∃ t : ByteArray, t = ⟨d18.toArray⟩ := ⟨_, rfl⟩
          have hdl18 : d18.length ≤ 21 := by rw [hd18]; rw [hexRow_length]; decide
          have HX18 : Hid (Po base w1 wA w18 (.slice xa17 xn17 xc17) l17) := ⟨tx_keep HX17.out.tx hB18, HX17.out.bel.trans (hB18.mono HX17.out.sz), Nat.le_trans HX17.out.sz hB18.size, HX17.out.kq.trans (Kq.below hB18)⟩
          have HL18 : Hid (l17 = l17 ∧ d18 = hexRow o.X 16 ∧ td18 = ⟨d18.toArray⟩ ∧ d18.length ≤ 21) := ⟨rfl, hd18, htd18, hdl18⟩
          rw [← hd18]
          simp only [S]
          rw [← htd18]
          clear hB18 hd18 htd18 hdl18
          clear c3a ka
          go_upto_region 21 with (at_builtin; refine wpl_s9 (base := base) (l := l17) d18 (by rfl) (.tmp 88) (.tmp 95) (by rfl) (by rfl) HX18.out.tx (by rfl) HL18.out.2.2.1 (by have := HL17.out.2; have := HL18.out.2.2.2; omega) HX18.out.sz ?_; intro v19 w19 hx19 hb19 hs19 hk19; obtain ⟨l19, hl19⟩ : ∃ l : Bs, l = l17 ++ d18 := ⟨_, rfl⟩; replace hx19 : TX base w19 v19 l19 := (by rw [hl19]; exact hx19); have HX19 : Hid (Po base w1 wA w19 v19 l19) := ⟨hx19, (HX18.out.bel.trans hb19), hs19, (HX18.out.kq.trans hk19)⟩; have HL19 : Hid (l19 = l17 ++ d18 ∧ l19.length ≤ 262368) := ⟨hl19, (by have := HL18.out.2.2.2; have := HL17.out.2; rw [hl19]; simp <;> omega)⟩; obtain ⟨xa19, xc19, hvv, _, _⟩ := own_form21 hx19; obtain ⟨xn19, hxn⟩ : ∃ n, n = l19.length := ⟨_, rfl⟩; rw [← hxn] at hvv; subst hvv; clear hx19 hb19 hs19 hk19 hl19 hxn)
          go_wp2_with (at_builtin; refine wpl_b9 (base := base) (l := l19) 10 (by rfl) (.tmp 97) (.tmp 98) (by rfl) (by rfl) (tx_keep HX19.out.tx (below_alloc _ _)) (by rfl) (alloc_at rfl) rfl (by have := HL19.out.2; omega) (by rw [alloc_sz]; have := HX19.out.sz; omega) ?_; intro v20 w20 hx20 hb20 hs20 hk20; obtain ⟨l20, hl20⟩ : ∃ l : Bs, l = l19 ++ [10] := ⟨_, rfl⟩; replace hx20 : TX base w20 v20 l20 := (by rw [hl20]; exact hx20); have HX20 : Hid (Po base w1 wA w20 v20 l20) := ⟨hx20, ((HX19.out.bel.alloc HX19.out.sz _).trans hb20), hs20, (HX19.out.kq.trans ((Kq.below (below_alloc _ _)).trans hk20))⟩; have HL20 : Hid (l20 = l19 ++ [10] ∧ l20.length ≤ 262369) := ⟨hl20, (by have := HL19.out.2; rw [hl20]; simp <;> omega)⟩; obtain ⟨xa20, xc20, hvv, _, _⟩ := own_form21 hx20; obtain ⟨xn20, hxn⟩ : ∃ n, n = l20.length := ⟨_, rfl⟩; rw [← hxn] at hvv; subst hvv; clear hx20 hb20 hs20 hk20 hl20 hxn)
          refine ⟨⟨k + 1, HOK.out.2.2.2, by (congr 1), ?_, ?_⟩, by have := HOK.out.2.2.2; simp [intOf]; omega⟩
          · have e : planT p ++ (ops.take (k + 1)).flatMap opT = l20 := by
              rw [fm_take opT HOK.out.1, opT_cut, HL20.out.1, HL19.out.1, HL18.out.2.1, HL17.out.1, HL16.out.1, HL15.out.2.1, HL14.out.1, HL13.out.1, HL12.out.2.1, HL11.out.1, HL10.out.1]
              simp
            rw [e]
            exact HX20.out
          · have h1 := opT_len HOK.out.2.1
            have h2 := HL10.out
            have h3 := HOK.out.2.2.1
            rw [fm_take opT HOK.out.1, ← List.append_assoc, ← h2.1, List.length_append]
            omega
        · have HKE : Hid (k = ops.length ∨ 262144 < l10.length) := by
            have h := HXN.out
            by_cases h1 : k < ops.length
            · right
              have : ¬ xn10 ≤ 262144 := fun h2 => hgo ⟨h1, h2⟩
              omega
            · left; omega
          have hcs : (¬ (k : Int) < (ops.length : Int)) ∨ ((k : Int) < (ops.length : Int) ∧ ¬ (xn10 : Int) ≤ 262144) := by
            by_cases h1 : k < ops.length
            · exact .inr ⟨by omega, fun h2 => hgo ⟨h1, by omega⟩⟩
            · exact .inl (by omega)
          clear hgo
          rcases hcs with h1 | ⟨h1, h2⟩
          all_goals
            go_wp2_with fail
            clear c3
            go_loopw [6, 10, 11, 12] (fun v6 v10 _ _ wr => ∃ j : Nat, j ≤ n ∧ v10 = .int .i64 j ∧ Po base w1 wA wr v6 (l10 ++ (sts.take j).flatMap stT) ∧ stEs (sts.take j) = 0 ∧ (l10 ++ (sts.take j).flatMap stT).length ≤ 262300 + 120 * j) (fun _ v10 _ _ _ => n - (intOf v10).toNat)
            case atStart => exact ⟨0, Nat.zero_le _, rfl, by simpa using HX10.out, rfl, by have := HL10.out.2; simp; omega⟩
            case round =>
              obtain ⟨j, hj, rfl, hpo, hE, hlen⟩ := hrel
              obtain ⟨l30, hl30⟩ : ∃ l : Bs, l = l10 ++ (sts.take j).flatMap stT := ⟨_, rfl⟩
              rw [← hl30] at hpo hlen
              have hjb : (j : Int) ≤ 4096 := by have := HN4.out; omega
              have HX30 := hidH hpo
              have HL30 : Hid (l30 = l10 ++ (sts.take j).flatMap stT ∧ l30.length ≤ 753820) := ⟨hl30, by omega⟩
              have HLJ : Hid (l30.length ≤ 262300 + 120 * j ∧ stEs (sts.take j) = 0) := ⟨hlen, hE⟩
              obtain ⟨xa30, xc30, hv30, _, _⟩ := own_form21 hpo.tx
              subst hv30
              obtain ⟨xn30, hxn⟩ : ∃ n, n = l30.length := ⟨_, rfl⟩
              rw [← hxn] at HX30 ⊢
              have HXN3 : Hid (xn30 = l30.length) := hxn
              clear hl30 hlen hpo hxn hE
              by_cases hjn : j < n
              · have hji : (j : Int) < (n : Int) := by omega
                obtain ⟨s, hs⟩ : ∃ s, sts[j]? = some s := ⟨_, List.getElem?_eq_getElem (by have := HN.out; omega)⟩
                have HSK : Hid (sts[j]? = some s ∧ s.ok) := ⟨hs, HR.out.2.2 s (List.mem_of_getElem? hs)⟩
                obtain ⟨b8, off8, hsa, k0, k1, k2, k3, k4⟩ := gv_cells5 (HSG.out.below (fun _ => rfl) (HCO.out wr HX30.out.bel).1) hs
                subst hsa
                clear hs
                go_wp2_with fail
                refine (rline_walk HSK.out.2 _).mono ?_
                rintro e9 w31 ⟨rfl, hB31⟩
                obtain ⟨d31, hd31⟩ : ∃ l : Bs, l = lnE s := ⟨_, rfl⟩
                obtain ⟨td31, htd31⟩ : ∃ t : ByteArray, t = ⟨d31.toArray⟩ := ⟨_, rfl⟩
                have HX31 : Hid (Po base w1 wA w31 (.slice xa30 xn30 xc30) l30) := ⟨tx_keep HX30.out.tx hB31, HX30.out.bel.trans (hB31.mono HX30.out.sz), Nat.le_trans HX30.out.sz hB31.size, HX30.out.kq.trans (Kq.below hB31)⟩
                rw [← hd31]
                simp only [S]
                rw [← htd31]
                clear k0 k1 k2 k3 k4 hB31
                by_cases hs0 : stE s = 0
                · have hT : stT s = d31 ++ [10] := by rw [hd31]; exact stT_ln hs0
                  have hdl : d31.length ≤ 120 := by have h := stT_len HSK.out.2; rw [hT] at h; simp at h; omega
                  have HL31 : Hid (stT s = d31 ++ [10] ∧ td31 = ⟨d31.toArray⟩ ∧ d31.length ≤ 120 ∧ stEs (sts.take (j + 1)) = 0) := ⟨hT, htd31, hdl, (stEs_take HLJ.out.2 HSK.out.1).1 hs0⟩
                  rw [hs0]
                  clear hT hdl hd31 htd31 hs0
                  go_upto_region 29 with (at_builtin; refine wpl_s9 (base := base) (l := l30) d31 (by rfl) (.tmp 117) (.tmp 118) (by rfl) (by rfl) HX31.out.tx (by rfl) HL31.out.2.1 (by have := HL30.out.2; have := HL31.out.2.2.1; omega) HX31.out.sz ?_; intro v32 w32 hx32 hb32 hs32 hk32; obtain ⟨l32, hl32⟩ : ∃ l : Bs, l = l30 ++ d31 := ⟨_, rfl⟩; replace hx32 : TX base w32 v32 l32 := (by rw [hl32]; exact hx32); have HX32 : Hid (Po base w1 wA w32 v32 l32) := ⟨hx32, HX31.out.bel.trans hb32, hs32, HX31.out.kq.trans hk32⟩; have HL32 : Hid (l32 = l30 ++ d31 ∧ l32.length ≤ 753940) := ⟨hl32, (by have := HL30.out.2; have := HL31.out.2.2.1; rw [hl32]; simp <;> omega)⟩; obtain ⟨xa32, xc32, hvv, _, _⟩ := own_form21 hx32; obtain ⟨xn32, hxn⟩ : ∃ n, n = l32.length := ⟨_, rfl⟩; rw [← hxn] at hvv; subst hvv; clear hx32 hb32 hs32 hk32 hl32 hxn)
                  go_wp2_with (at_builtin; refine wpl_b9 (base := base) (l := l32) 10 (by rfl) (.tmp 120) (.tmp 121) (by rfl) (by rfl) (tx_keep HX32.out.tx (below_alloc _ _)) (by rfl) (alloc_at rfl) rfl (by have := HL32.out.2; omega) (by rw [alloc_sz]; have := HX32.out.sz; omega) ?_; intro v33 w33 hx33 hb33 hs33 hk33; obtain ⟨l33, hl33⟩ : ∃ l : Bs, l = l32 ++ [10] := ⟨_, rfl⟩; replace hx33 : TX base w33 v33 l33 := (by rw [hl33]; exact hx33); have HX33 : Hid (Po base w1 wA w33 v33 l33) := ⟨hx33, ((HX32.out.bel.alloc HX32.out.sz _).trans hb33), hs33, (HX32.out.kq.trans ((Kq.below (below_alloc _ _)).trans hk33))⟩; have HL33 : Hid (l33 = l32 ++ [10] ∧ l33.length ≤ 753941) := ⟨hl33, (by have := HL32.out.2; rw [hl33]; simp <;> omega)⟩; obtain ⟨xa33, xc33, hvv, _, _⟩ := own_form21 hx33; obtain ⟨xn33, hxn⟩ : ∃ n, n = l33.length := ⟨_, rfl⟩; rw [← hxn] at hvv; subst hvv; clear hx33 hb33 hs33 hk33 hl33 hxn)
                  refine ⟨⟨j + 1, by omega, by (congr 1), ?_, HL31.out.2.2.2, ?_⟩, by simp [intOf]; omega⟩
                  · have e : l10 ++ (sts.take (j + 1)).flatMap stT = l33 := by
                      rw [fm_take stT HSK.out.1, HL31.out.1, HL33.out.1, HL32.out.1, HL30.out.1]
                      simp
                    rw [e]
                    exact HX33.out
                  · have h1 := stT_len HSK.out.2
                    have h2 := HLJ.out.1
                    rw [fm_take stT HSK.out.1, ← List.append_assoc, ← HL30.out.1, List.length_append]
                    omega
                · obtain ⟨E, hE⟩ : ∃ E, E = stE s := ⟨_, rfl⟩
                  have hEb : (E != 0) = true := by rw [hE, bne_iff_ne]; exact hs0
                  have HP : Hid (printE p ops sts = E ∧ printT p ops sts = []) := by
                    have h1 := (stEs_take HLJ.out.2 HSK.out.1).2 hs0
                    have e : printE p ops sts = E := by unfold printE; rw [if_neg (by have := HN.out; have := HN4.out; omega), if_pos (by rw [h1]; exact hs0), h1, hE]
                    exact ⟨e, printT_bad (by rw [e, hE]; exact hs0)⟩
                  rw [← hE]
                  clear hE hs0 hd31 htd31
                  go_wp2_with fail
                  go_ret2
                  unfold PrintGot
                  rw [HP.out.1, HP.out.2]
                  exact ⟨rfl, (HCO.out w31 HX31.out.bel).1⟩
              · have hji : ¬ (j : Int) < (n : Int) := by omega
                have HT : Hid (sts.take j = sts) := List.take_of_length_le (by have := HN.out; omega)
                have HPE : Hid ((262144 < l30.length → printE p ops sts = 6) ∧ (¬ 262144 < l30.length → printE p ops sts = 0 ∧ printT p ops sts = l30)) := by
                  have h := print_end (p := p) (ops := ops) (sts := sts) (k := k) (by have := HN.out; have := HN4.out; omega) (by have h := HLJ.out.2; rw [HT.out] at h; exact h) (by rw [← HL10.out.1]; exact HKE.out)
                  have e : planT p ++ (ops.take k).flatMap opT ++ sts.flatMap stT = l30 := by rw [HL30.out.1, HL10.out.1, HT.out]
                  rw [e] at h
                  exact h
                by_cases hbig : 262144 < xn30
                · have hbi : (262144 : Int) < (xn30 : Int) := by omega
                  have HP : Hid (printE p ops sts = 6 ∧ printT p ops sts = []) := by
                    have e := HPE.out.1 (by have := HXN3.out; omega)
                    exact ⟨e, printT_bad (by rw [e]; decide)⟩
                  clear hbig
                  go_wp2_with fail
                  go_ret2
                  unfold PrintGot
                  rw [HP.out.1, HP.out.2]
                  exact ⟨rfl, (HCO.out wr HX30.out.bel).1⟩
                · have hbi : ¬ (262144 : Int) < (xn30 : Int) := by omega
                  have HP := hidH (HPE.out.2 (by have := HXN3.out; omega))
                  have hcv := tx_str HX30.out.tx
                  clear hbig
                  go_wp2_with fail
                  go_ret2
                  unfold PrintGot
                  rw [HP.out.1, HP.out.2]
                  exact ⟨rfl, (HCO.out wr HX30.out.bel).1⟩


end Go.Proofs.YtkiplcmndpdifaaGreatDoor


