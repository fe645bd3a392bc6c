/- The statements' comparisons; Held. -/
import Derived.Test.YtopjedgknbbgkaaGreatAk
import Derived.Test.YtopjedgknbbgkaaGreatSh
namespace Go.Proofs.YtopjedgknbbgkaaGreat

open Go.RowKit Go.Maps Go.Sort Go.Shelf



set_option maxRecDepth 100000 in
set_option maxHeartbeats 4000000 in
theorem ints17 {w : World} {av bv : Value} {a b : List Int} (ha : Nv w av a) (hb : Nv w bv b) :
    Calls Tryz.prog 12 #[av, bv] w fun e w' => e = .returned (.bool (decide (a = b))) ∧ Below w.heap.size w w' := by
  have HA : Hid (Nv w av a) := ha
  have HB : Hid (Nv w bv b) := hb
  obtain ⟨ao, ca, rfl, hla, _⟩ := ha.form
  obtain ⟨bo, cb, rfl, hlb, _⟩ := hb.form
  clear ha hb
  by_cases hl : a.length = b.length
  · have hln : ((a.length : Int) != (b.length : Int)) = false := by simp [hl]
    have HL : Hid (a.length = b.length) := hl
    clear hl
    go_enter Tryz.func12, Tryz.ntmps12
    go_wp2_with fail
    go_loopw [5] (fun iv wr => ∃ k : Nat, k ≤ a.length ∧ iv = .int .i64 k ∧ (∀ i, i < k → nth a i = nth b i) ∧ Below w.heap.size w wr) (fun iv _ => a.length - (intOf iv).toNat)
    case atStart => exact ⟨0, Nat.zero_le _, rfl, fun i hi => by omega, below_same _⟩
    case round =>
      obtain ⟨k, hk, rfl, hall, hB⟩ := hrel
      have HALL : Hid (∀ i, i < k → nth a i = nth b i) := hall
      have HW : Hid (Below w.heap.size w wr) := hB
      clear hB hall
      by_cases hlt : k < a.length
      · have hltb : k < b.length := by have := HL.out; omega
        obtain ⟨g, off, rfl, c0⟩ := (HA.out.below HW.out).at hlt
        obtain ⟨d, doff, rfl, d0⟩ := (HB.out.below HW.out).at hltb
        obtain ⟨x, hx⟩ : ∃ x, x = nth a k := ⟨_, rfl⟩
        obtain ⟨y, hy⟩ : ∃ y, y = nth b k := ⟨_, rfl⟩
        rw [← hx] at c0
        rw [← hy] at d0
        have HX : Hid (x = nth a k) := hx
        have HY : Hid (y = nth b k) := hy
        clear hx hy
        have hlti : (k : Int) < (a.length : Int) := by omega
        have hltbi : (k : Int) < (b.length : Int) := by omega
        by_cases hle : x = y
        · have hq : (x != y) = false := by simp [hle]
          have HXY : Hid (x = y) := hle
          clear hle
          go_wp2_with fail
          go_quiet (fail)
          go_wp2_with fail
          go_roundw
          case rel =>
            refine ⟨k + 1, by omega, by go_num, fun i hi => ?_, below_trans HW.out (below_drewN _ _)⟩
            by_cases hik : i = k
            · subst hik; rw [← HX.out, ← HY.out]; exact HXY.out
            · exact HALL.out i (by omega)
          case measure => simp [intOf]; omega
        · have hq : (x != y) = true := by simp [hle]
          have HD : Hid (decide (a = b) = false) := by
            show _ = _
            refine decide_eq_false fun h => hle ?_
            rw [HX.out, HY.out, h]
          go_wp2_with fail
          go_quiet (fail)
          go_wp2_with fail
          go_ret
          exact ⟨HD.out ▸ rfl, below_trans HW.out (below_drewN _ _)⟩
      · have hnl : ¬ ((k : Int) < (a.length : Int)) := by omega
        have HD : Hid (decide (a = b) = true) := decide_eq_true (nth_ext HL.out fun i hi => HALL.out i (by omega))
        go_wp2_with fail
        go_ret
        exact ⟨HD.out ▸ rfl, HW.out⟩
  · have hln : ((a.length : Int) != (b.length : Int)) = true := by simp; omega
    have HD : Hid (decide (a = b) = false) := decide_eq_false fun h => hl (by rw [h])
    clear hl
    go_enter Tryz.func12, Tryz.ntmps12
    go_wp2_with fail
    go_ret
    exact ⟨HD.out ▸ rfl, below_same _⟩


set_option maxRecDepth 100000 in
set_option maxHeartbeats 4000000 in
theorem keys17 {ao bo : Option Addr} {ca cb : Nat} {l : List Nat} {w : World} (hl : l.length ≤ 1048576) (ha : Kl w ao l) (hb : Kl w bo l) :
    Calls Tryz.prog 17 #[.slice ao l.length ca, .slice bo l.length cb] w fun e w' => e = .returned (.bool true) ∧ Below w.heap.size w w' := by
  have HA : Hid (Kl w ao l) := ha
  have HB : Hid (Kl w bo l) := hb
  clear ha hb
  go_enter Tryz.func17, Tryz.ntmps17
  go_wp2_with fail
  go_loopw [5] (fun iv wr => ∃ k : Nat, k ≤ l.length ∧ iv = .int .i64 k ∧ Below w.heap.size w wr) (fun iv _ => l.length - (intOf iv).toNat)
  case atStart => exact ⟨0, Nat.zero_le _, rfl, below_same _⟩
  case round =>
    obtain ⟨k, hk, rfl, hB⟩ := hrel
    have HW : Hid (Below w.heap.size w wr) := hB
    clear hB
    by_cases hlt : k < l.length
    · obtain ⟨b, off, rfl, c0⟩ := HA.out.below HW.out k hlt
      obtain ⟨d, doff, rfl, d0⟩ := HB.out.below HW.out k hlt
      obtain ⟨o, hoe⟩ : ∃ o, o = l[k] := ⟨_, rfl⟩
      rw [← hoe] at c0 d0
      have hn : ((o : Int) != (o : Int)) = false := by simp
      clear hoe
      go_wp2_with fail
      go_quiet (fail)
      go_wp2_with fail
      go_roundw
      case rel => exact ⟨k + 1, by omega, by go_num, below_trans HW.out (below_drewN _ _)⟩
      case measure => simp [intOf]; omega
    · go_wp2_with fail
      go_ret
      exact ⟨rfl, HW.out⟩


set_option maxRecDepth 100000 in
set_option maxHeartbeats 4000000 in
theorem pairs17 {ao bo : Option Addr} {ca cb : Nat} {l : List Pr} {w : World} (hl : l.length ≤ maxLen) (ha : Ql w ao l) (hb : Ql w bo l) :
    Calls Tryz.prog 22 #[.slice ao l.length ca, .slice bo l.length cb] w fun e w' => e = .returned (.bool true) ∧ Below w.heap.size w w' := by
  have hli : (l.length : Int) ≤ 9223372036854775807 := by simp only [maxLen] at hl; omega
  have HA : Hid (Ql w ao l) := ha
  have HB : Hid (Ql w bo l) := hb
  have hgd := guard_pair
  clear ha hb hl
  go_enter Tryz.func22, Tryz.ntmps22
  go_wp2_with fail
  go_loopw [5] (fun iv wr => ∃ k : Nat, k ≤ l.length ∧ iv = .int .i64 k ∧ Below w.heap.size w wr) (fun iv _ => l.length - (intOf iv).toNat)
  case atStart => exact ⟨0, Nat.zero_le _, rfl, below_same _⟩
  case round =>
    obtain ⟨k, hk, rfl, hB⟩ := hrel
    have HW : Hid (Below w.heap.size w wr) := hB
    clear hB
    by_cases hlt : k < l.length
    · obtain ⟨b, off, rfl, c0, c1, c2⟩ := HA.out.below HW.out k hlt
      obtain ⟨d, doff, rfl, d0, d1, d2⟩ := HB.out.below HW.out k hlt
      obtain ⟨o, hoe⟩ : ∃ o, o = l[k] := ⟨_, rfl⟩
      rw [← hoe] at c0 c1 c2 d0 d1 d2
      have hn := neq_pair o
      clear hoe
      go_wp2_with fail
      go_quiet (fail)
      go_wp2_with fail
      go_roundw
      case rel => exact ⟨k + 1, by omega, by go_num, below_trans HW.out (below_drewN _ _)⟩
      case measure => simp [intOf]; omega
    · go_wp2_with fail
      go_ret
      exact ⟨rfl, HW.out⟩


theorem keys_ok17 {w : World} {lo lo' : Nat} {u v : Value} {l : List Nat} (hu : w.ownsRow lo 50 1 u l.length (l.map fun k : Nat => Value.int .u64 (k : Int))) (hv : w.ownsRow lo' 50 1 v l.length (l.map fun k : Nat => Value.int .u64 (k : Int))) (hl : l.length ≤ 1048576) :
    Calls Tryz.prog 17 #[u, v] w fun e w' => e = .returned (.bool true) ∧ Below w.heap.size w w' := by
  obtain ⟨ua, uc, rfl, h1⟩ := own_kl hu
  obtain ⟨va, vc, rfl, h2⟩ := own_kl hv
  exact keys17 hl h1 h2
theorem pairs_ok17 {w : World} {u v : Value} {l : List Pr} (hu : Qv w u l) (hv : Qv w v l) : Calls Tryz.prog 22 #[u, v] w fun e w' => e = .returned (.bool true) ∧ Below w.heap.size w w' := by
  obtain ⟨ua, uc, rfl, h0, h1⟩ := hu.form
  obtain ⟨va, vc, rfl, _, h2⟩ := hv.form
  exact pairs17 h0 h1 h2
theorem mr_at {w : World} {lo n cap : Nat} {ao : Option Addr} {M : List Tq} (h : Mr w lo (.slice ao n cap) M) {i : Nat} (hi : i < M.length) : ∃ g, ao = some ⟨g, 0, none⟩ ∧ ∀ j u, (cellsT M[i])[j]? = some u → w.cell? ⟨g, i * 9 + j, none⟩ = some u := by
  obtain ⟨g, cap', hg, _⟩ := row_formN h.own (by omega)
  simp only [Value.slice.injEq] at hg
  refine ⟨g, hg.1, fun j u hj => ?_⟩
  have hr := h.own
  rw [hg.1, hg.2.1] at hr
  have hj9 : j < 9 := by
    rcases Nat.lt_or_ge j 9 with q | q
    · exact q
    · rw [List.getElem?_eq_none (by simpa [cellsT] using q)] at hj; cases hj
  exact (own_cellN hr (j := i * 9 + j) (u := u) (by rw [flatT_get M i j hi hj9]; exact hj)).1
/-- The cells of a message at an offset. -/
structure MXo (w : World) (g off : Nat) (x : Tq) : Prop where
  c0 : w.cell? ⟨g, off, none⟩ = some (.int .i64 x.m.K)
  c1 : w.cell? ⟨g, off + 1, none⟩ = some (.int .i64 x.m.F)
  c2 : w.cell? ⟨g, off + 2, none⟩ = some (.int .i64 x.m.T)
  c3 : w.cell? ⟨g, off + 3, none⟩ = some (.int .i64 x.m.B)
  c4 : w.cell? ⟨g, off + 4, none⟩ = some (.int .i64 x.m.A)
  c5 : w.cell? ⟨g, off + 5, none⟩ = some (.int .i64 x.m.C)
  c6 : w.cell? ⟨g, off + 6, none⟩ = some x.e
  c7 : w.cell? ⟨g, off + 7, none⟩ = some x.q
  c8 : w.cell? ⟨g, off + 8, none⟩ = some x.p
theorem mr_mx {w : World} {lo n cap : Nat} {ao : Option Addr} {M : List Tq} (h : Mr w lo (.slice ao n cap) M) {i : Nat} (hi : i < M.length) : ∃ g, ao = some ⟨g, 0, none⟩ ∧ MXo w g (i * 9) M[i] := by
  obtain ⟨g, hg, hc⟩ := mr_at h hi
  exact ⟨g, hg, hc 0 _ rfl, hc 1 _ rfl, hc 2 _ rfl, hc 3 _ rfl, hc 4 _ rfl, hc 5 _ rfl, hc 6 _ rfl, hc 7 _ rfl, hc 8 _ rfl⟩
theorem MXo.below {w w' : World} {g off : Nat} {x : Tq} (h : MXo w g off x) (hb : Below w.heap.size w w') : MXo w' g off x := by
  have hl : g < w.heap.size := cell_lt h.c0
  have k : ∀ j u, w.cell? ⟨g, j, none⟩ = some u → w'.cell? ⟨g, j, none⟩ = some u := fun j u hu => by rw [hb.cell (p := ⟨g, j, none⟩) hl]; exact hu
  exact ⟨k _ _ h.c0, k _ _ h.c1, k _ _ h.c2, k _ _ h.c3, k _ _ h.c4, k _ _ h.c5, k _ _ h.c6, k _ _ h.c7, k _ _ h.c8⟩
theorem to_form {w : World} {lo : Nat} {x : Tq} (h : To w lo x) : ∃ ea ec qa qc pa pc, x.e = .slice ea x.m.E.length ec ∧ x.q = .slice qa x.m.Q.length qc ∧ x.p = .slice pa x.m.P.length pc := by
  obtain ⟨ea, ec, e1⟩ := own_formN h.e
  obtain ⟨qa, qc, e2⟩ := own_formN h.q
  obtain ⟨pa, pc, e3⟩ := own_formN h.p
  exact ⟨_, _, _, _, _, _, e1, e2, e3⟩
set_option maxRecDepth 100000 in
set_option maxHeartbeats 4000000 in
theorem msgs17 {w : World} {lo lo' : Nat} {a b : Value} {F G : List Tq} (ha : Mr w lo a F) (hb : Mr w lo' b G) (hnm : F.map (·.m) = G.map (·.m)) (hq : ∀ x ∈ F, x.m.Q.length ≤ 1048576) : Calls Tryz.prog 27 #[a, b] w fun e w' => e = .returned (.bool true) ∧ Below w.heap.size w w' := by
  have HA : Hid (Mr w lo a F) := ha
  have HB : Hid (Mr w lo' b G) := hb
  have HQQ : Hid (∀ x ∈ F, x.m.Q.length ≤ 1048576) := hq
  have HM : Hid (F.map (·.m) = G.map (·.m)) := hnm
  obtain ⟨ao, ac, rfl⟩ := own_formN ha.own
  obtain ⟨bo, bc, rfl⟩ := own_formN hb.own
  have HLE : Hid (G.length = F.length) := by have h := congrArg List.length hnm; simp only [List.length_map] at h; exact h.symm
  have hle := HLE.out
  have hal : F.length ≤ maxLen := by obtain ⟨a1, a2, e, h1, h2⟩ := row_form ha.own; omega
  rw [hle] at HB ⊢
  have hli : (F.length : Int) ≤ 9223372036854775807 := by unfold maxLen at hal; omega
  have hne : ((F.length : Int) != (F.length : Int)) = false := by simp
  clear ha hb hnm hal hle hq
  go_enter Tryz.func27, Tryz.ntmps27
  go_upto_region 4 with fail
  clear hne
  go_loopw [5] (fun iv wr => ∃ i : Nat, iv = .int .i64 i ∧ i ≤ F.length ∧ Below w.heap.size w wr) (fun iv _ => F.length - (intOf iv).toNat)
  case atStart => exact ⟨0, rfl, Nat.zero_le _, Below.refl _ _⟩
  case round =>
    obtain ⟨i, rfl, hil, hbel⟩ := hrel
    have HR : Hid (Below w.heap.size w wr) := hbel
    clear hbel
    by_cases hlt : i < F.length
    · have hlti : (i : Int) < (F.length : Int) := by omega
      have hlg : i < G.length := by rw [HLE.out]; exact hlt
      obtain ⟨gb, rfl, hfa⟩ := mr_mx (HA.out.below HR.out) hlt
      obtain ⟨kb, rfl, hfb⟩ := mr_mx (HB.out.below HR.out) hlg
      have hxe : F[i].m = G[i].m := by
        have h := congrArg (fun l => l[i]?) HM.out
        simp only [List.getElem?_map, List.getElem?_eq_getElem hlt, List.getElem?_eq_getElem hlg, Option.map_some, Option.some.injEq] at h
        exact h
      have hma := (HA.out.below HR.out).ent F[i] (List.getElem_mem _)
      have hmb := (HB.out.below HR.out).ent G[i] (List.getElem_mem _)
      have hqq := HQQ.out F[i] (List.getElem_mem _)
      obtain ⟨x, hx⟩ : ∃ x, x = F[i] := ⟨_, rfl⟩
      obtain ⟨y, hy⟩ : ∃ y, y = G[i] := ⟨_, rfl⟩
      rw [← hx] at hfa hma hxe hqq
      rw [← hy] at hfb hmb hxe
      obtain ⟨xm, xe, xq, xp⟩ := x
      obtain ⟨ym, ye, yq, yp⟩ := y
      simp only at hxe
      subst hxe
      obtain ⟨ea, ec, qa, qc, pa, pc, e1, e2, e3⟩ := to_form hma
      obtain ⟨fa, fc, ra, rc, sa, sc, f1, f2, f3⟩ := to_form hmb
      simp only at e1 e2 e3 f1 f2 f3
      subst e1 e2 e3 f1 f2 f3
      have HFA : Hid _ := hfa
      have HFB : Hid _ := hfb
      have HMA : Hid _ := hma
      have HMB : Hid _ := hmb
      have HQ1 : Hid (xm.Q.length ≤ 1048576) := hqq
      have HLT : Hid (i < F.length) := hlt
      clear hfa hfb hma hmb hx hy hlt hlg hqq
      have k0 := HFA.out.c0
      have k1 := HFA.out.c1
      have k2 := HFA.out.c2
      have k3 := HFA.out.c3
      have k4 := HFA.out.c4
      have k5 := HFA.out.c5
      have k6 := HFA.out.c6
      have k7 := HFA.out.c7
      have k8 := HFA.out.c8
      simp only at k0 k1 k2 k3 k4 k5 k6 k7 k8
      go_upto_region 7 with fail
      have HX1 : Hid _ := mx_new wr xm (.slice ea xm.E.length ec) (.slice qa xm.Q.length qc) (.slice pa xm.P.length pc)
      have HB1 : Hid _ := below_alloc wr (Obj.cells #[.int .i64 xm.K, .int .i64 xm.F, .int .i64 xm.T, .int .i64 xm.B, .int .i64 xm.A, .int .i64 xm.C, .slice ea xm.E.length ec, .slice qa xm.Q.length qc, .slice pa xm.P.length pc] 44)
      have HF1 : Hid _ := HFB.out.below HB1.out
      obtain ⟨X, hX⟩ : ∃ X, X = wr.heap.size := ⟨_, rfl⟩
      rw [← hX] at HX1 ⊢
      clear hX
      generalize wr.alloc (Obj.cells #[.int .i64 xm.K, .int .i64 xm.F, .int .i64 xm.T, .int .i64 xm.B, .int .i64 xm.A, .int .i64 xm.C, .slice ea xm.E.length ec, .slice qa xm.Q.length qc, .slice pa xm.P.length pc] 44) = w1 at HX1 HB1 HF1 ⊢
      clear k0 k1 k2 k3 k4 k5 k6 k7 k8
      have k0 := HF1.out.c0
      have k1 := HF1.out.c1
      have k2 := HF1.out.c2
      have k3 := HF1.out.c3
      have k4 := HF1.out.c4
      have k5 := HF1.out.c5
      have k6 := HF1.out.c6
      have k7 := HF1.out.c7
      have k8 := HF1.out.c8
      simp only at k0 k1 k2 k3 k4 k5 k6 k7 k8
      go_upto_region 8 with fail
      have HY2 : Hid _ := mx_new w1 xm (.slice fa xm.E.length fc) (.slice ra xm.Q.length rc) (.slice sa xm.P.length sc)
      have HB2 : Hid _ := below_alloc w1 (Obj.cells #[.int .i64 xm.K, .int .i64 xm.F, .int .i64 xm.T, .int .i64 xm.B, .int .i64 xm.A, .int .i64 xm.C, .slice fa xm.E.length fc, .slice ra xm.Q.length rc, .slice sa xm.P.length sc] 44)
      have HX2 : Hid _ := HX1.out.keep HB2.out
      obtain ⟨Y, hY⟩ : ∃ Y, Y = w1.heap.size := ⟨_, rfl⟩
      rw [← hY] at HY2 ⊢
      clear hY
      generalize w1.alloc (Obj.cells #[.int .i64 xm.K, .int .i64 xm.F, .int .i64 xm.T, .int .i64 xm.B, .int .i64 xm.A, .int .i64 xm.C, .slice fa xm.E.length fc, .slice ra xm.Q.length rc, .slice sa xm.P.length sc] 44) = w2 at HY2 HB2 HX2 ⊢
      clear k0 k1 k2 k3 k4 k5 k6 k7 k8
      have HB12 : Hid (Below wr.heap.size wr w2) := below_trans HB1.out HB2.out
      have x0 := HX2.out.c0
      have x1 := HX2.out.c1
      have x2 := HX2.out.c2
      have x3 := HX2.out.c3
      have x4 := HX2.out.c4
      have x5 := HX2.out.c5
      have x6 := HX2.out.c6
      have x7 := HX2.out.c7
      have x8 := HX2.out.c8
      have y0 := HY2.out.c0
      have y1 := HY2.out.c1
      have y2 := HY2.out.c2
      have y3 := HY2.out.c3
      have y4 := HY2.out.c4
      have y5 := HY2.out.c5
      have y6 := HY2.out.c6
      have y7 := HY2.out.c7
      have y8 := HY2.out.c8
      have hk : ∀ z : Int, (z != z) = false := fun z => by simp
      go_wp2_with fail
      refine (ints17 ((HMA.out.below HB12.out).nv) ((HMB.out.below HB12.out).nv)).mono ?_
      rintro e w3 ⟨he, hB3⟩
      have he1 : e = .returned (.bool true) := by rw [he]; simp
      clear he
      subst he1
      have HB3 : Hid (Below wr.heap.size wr w3) := below_trans HB12.out hB3
      have HX3 : Hid _ := HX2.out.keep hB3
      have HY3 : Hid _ := HY2.out.keep hB3
      clear hB3 x0 x1 x2 x3 x4 x5 x6 x7 x8 y0 y1 y2 y3 y4 y5 y6 y7 y8 HX2 HY2
      have x0 := HX3.out.c0
      have x1 := HX3.out.c1
      have x2 := HX3.out.c2
      have x3 := HX3.out.c3
      have x4 := HX3.out.c4
      have x5 := HX3.out.c5
      have x6 := HX3.out.c6
      have x7 := HX3.out.c7
      have x8 := HX3.out.c8
      have y0 := HY3.out.c0
      have y1 := HY3.out.c1
      have y2 := HY3.out.c2
      have y3 := HY3.out.c3
      have y4 := HY3.out.c4
      have y5 := HY3.out.c5
      have y6 := HY3.out.c6
      have y7 := HY3.out.c7
      have y8 := HY3.out.c8
      go_wp2_with fail
      refine (keys_ok17 (HMA.out.below HB3.out).q (HMB.out.below HB3.out).q HQ1.out).mono ?_
      rintro e w4 ⟨rfl, hB4⟩
      have HB4 : Hid (Below wr.heap.size wr w4) := below_trans HB3.out hB4
      have HX4 : Hid _ := HX3.out.keep hB4
      have HY4 : Hid _ := HY3.out.keep hB4
      clear hB4 x0 x1 x2 x3 x4 x5 x6 x7 x8 y0 y1 y2 y3 y4 y5 y6 y7 y8 HX3 HY3
      have x0 := HX4.out.c0
      have x1 := HX4.out.c1
      have x2 := HX4.out.c2
      have x3 := HX4.out.c3
      have x4 := HX4.out.c4
      have x5 := HX4.out.c5
      have x6 := HX4.out.c6
      have x7 := HX4.out.c7
      have x8 := HX4.out.c8
      have y0 := HY4.out.c0
      have y1 := HY4.out.c1
      have y2 := HY4.out.c2
      have y3 := HY4.out.c3
      have y4 := HY4.out.c4
      have y5 := HY4.out.c5
      have y6 := HY4.out.c6
      have y7 := HY4.out.c7
      have y8 := HY4.out.c8
      go_wp2_with fail
      refine (pairs_ok17 (own_qv (HMA.out.below HB4.out).p HMA.out.ok.P) (own_qv (HMB.out.below HB4.out).p HMB.out.ok.P)).mono ?_
      rintro e w5 ⟨rfl, hB5⟩
      have HB5 : Hid (Below wr.heap.size wr w5) := below_trans HB4.out hB5
      clear hB5 x0 x1 x2 x3 x4 x5 x6 x7 x8 y0 y1 y2 y3 y4 y5 y6 y7 y8 HX4 HY4 hk
      go_wp2_with fail
      go_roundw
      case rel => exact ⟨i + 1, by go_num, HLT.out, below_trans HR.out HB5.out⟩
      case measure => have := HLT.out; simp [intOf]; omega
    · have hlti : ¬ (i : Int) < (F.length : Int) := by omega
      go_wp2_with fail
      go_ret
      exact ⟨rfl, HR.out⟩
end Go.Proofs.YtopjedgknbbgkaaGreat
