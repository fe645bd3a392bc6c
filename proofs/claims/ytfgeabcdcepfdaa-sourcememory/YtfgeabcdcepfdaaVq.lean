/- SourceMemory, walked: the good way. -/
import Derived.Test.YtfgeabcdcepfdaaVp
import Derived.Test.YtfgeabcdcepfdaaVm
namespace Go.Proofs.Ytfgeabcdcepfdaa
open Ieee Go.RowKit
attribute [local go_sem] run_store_float

theorem rw_of_own {w : World} {base e s n : Nat} {v : Value} {xs : List Value} (h : w.ownsRow base e s v n xs) : Rw 0 e s v n w := ⟨xs, row_base h (fun _ _ => Nat.zero_le _)⟩

def Src_both (B : Nat) (w : World) (sv tv : Value) (S : Sc) : Prop := Sb B w sv S ∧ Sb B w tv S
theorem rw_cell1 {n i cap : Nat} {ao : Option Addr} {w : World} (h : Rw 0 31 1 (.slice ao n cap) n w) (hi : i < n) : ∃ g, ao = some ⟨g, 0, none⟩ ∧ ∃ x, w.cell? ⟨g, i, none⟩ = some x ∧ w.frozen? ⟨g, i, none⟩ = false := by
  rcases h.form with ⟨_, h0⟩ | ⟨g, cap', cur, hv, hb, hnc, hg, hcs⟩
  · omega
  · obtain ⟨⟨x, hx⟩, fx⟩ := row_cell (o := i) hg (by omega)
    simp only [Value.slice.injEq] at hv
    exact ⟨g, hv.1, x, hx, fx⟩
/-- One record onto a row of one's own, whatever it holds. -/
theorem wpList_append_rw {P : Program} {w : World} {ops : Array Oper} {rest : List Oper} {o : Oper} {a : Act} {Q : Exit → Act → World → Prop} (hgd : o.guard = none) (s x : Operand) (t : TypeId)
    (ho : o.op = .call { callee := .builtin .append, args := #[s, x], argTypes := #[t, t] }) {e : TypeId} (ht : P.underlying t = some (.slice e)) (hinf : (P.info? e).map (fun i => (i.zero, i.size, i.bytes)) = some (some (.agg #[.int .u64 0, .float .f64 0]), 2, 16))
    (v : Value) (n : Nat) (hs : a.eval s = v) (hr : Rw 0 e 2 v n w) (q : Nat) (r : Rcd) (hx : a.eval x = .slice (some ⟨q, 0, none⟩) 1 1) (h0 : w.cell? ⟨q, 0, none⟩ = some (.int .u64 r.k)) (h1 : w.cell? ⟨q, 1, none⟩ = some (.float .f64 r.x)) (hn : n ≤ 1000000)
    (h : ∀ v' w' xs, w'.ownsRow 0 e 2 v' (n + 1) xs → w.grownBy w' v.ownBlock → (v'.ownBlock = v.ownBlock ∨ v'.ownBlock = some w.heap.size) → wpList P ops Q rest (a.put o.dst v') w') : wpList P ops Q (o :: rest) a w := by
  obtain ⟨i0, hi, hz0, hz1, hz2⟩ := info_partsV hinf
  obtain ⟨xs, hown⟩ := hr
  refine wpList_append_own_at w hgd s x t ho 0 e i0 (.agg #[.int .u64 0, .float .f64 0]) 2 16 ht hi hz0 hz1 hz2 rfl (by decide) v n xs hs hown ⟨q, 0, none⟩ 1 1 [.int .u64 r.k, .float .f64 r.x] hx rfl (one_cells h0 h1) ?_ (by simp only [maxLen]; omega) (by omega) (Nat.zero_le _) (fun v' w' g1 g2 _ g4 => h v' w' _ g1 g2 g4)
  intro u hu
  simp at hu
  rcases hu with rfl | rfl <;> rfl

/-- What both sources are behind one more record. -/
theorem bo_step {B : Nat} {w w1 w2 : World} {sv tv : Value} {S S2 : Sc} {Ds Dt Ds' Dt' : Nat → Prop} (_hs : Src Ds w sv S) (ht : Src Dt w tv S) (bs : ∀ x, Ds x → B ≤ x) (bt : ∀ x, Dt x → B ≤ x) (hB : B ≤ w.heap.size) (hd : ∀ x, Ds x → ¬ Dt x)
    (h1 : Src Ds' w1 sv S2) (c1 : Ch Ds w w1) (d1 : ∀ b, Ds' b → Ds b ∨ w.heap.size ≤ b) (h2 : Src Dt' w2 tv S2) (c2 : Ch Dt w1 w2) (d2 : ∀ b, Dt' b → Dt b ∨ w1.heap.size ≤ b) : Bo B w2 sv tv S2 ∧ Below B w w2 := by
  refine ⟨⟨Ds', Dt', h1.ch c2 (fun x hx hD => ?_), h2, fun x hx => ?_, fun x hx => ?_⟩, (c1.to_below hB bs).trans (c2.to_below (Nat.le_trans hB c1.size) bt)⟩
  · rcases d1 x hx with h | h
    · exact hd x h hD
    · have := ht.lt hD; omega
  · rcases d1 x hx with h | h
    · exact bs x h
    · omega
  · have := c1.size
    rcases d2 x hx with h | h
    · exact bt x h
    · omega

theorem mem_call {D : Nat → Prop} {w w' : World} {v : Value} {S P2 : Sc} {P1 : Int} (h : Src D w v S) (hb : Below w.heap.size w w') (hP : (P1, P2) = prodS S 0 ⟨1099511627776, 4613937818241073152⟩) :
    Calls Try.prog 13 #[v, .int .i64 0, .agg #[.int .u64 1099511627776, .float .f64 4613937818241073152]] w' fun e w5 => e = .returned (.int .i64 P1) ∧ ∃ D', Src D' w5 v P2 ∧ Ch D w w5 ∧ ∀ b, D' b → D b ∨ w.heap.size ≤ b := by
  refine (produce_walk (r := ⟨1099511627776, 4613937818241073152⟩) (h.below hb) 0 ⟨by simp, by simp⟩).mono ?_
  rintro e w5 ⟨he, ⟨D', h1, h2, h3⟩, _⟩
  rw [← hP] at he h1
  subst he
  refine ⟨rfl, D', h1, (Ch.of_below hb).trans h2 (fun x hx => .inl hx), fun b hbb => ?_⟩
  have := hb.size
  rcases h3 b hbb with h | h
  · exact .inl h
  · right; omega

set_option maxRecDepth 100000 in
set_option maxHeartbeats 2000000 in
theorem memory_walk {lv : Value} {l : List Stp} {io : Option Addr} {ic : Nat} {items : List It} {w : World} (ho : Ov w lv l) (hi : Il w io items) (hik : ∀ t ∈ items, t.ok) (hil : items.length ≤ maxLen) (hc : checkB l = true) (hsz : l.length * 24 ≤ 140737488355328) :
    Calls Try.prog 6 #[lv, .slice io items.length ic] w fun e w' => e = .returned (.bool true) ∧ Below w.heap.size w w' := by
  have HO : Hid (Ov w lv l) := ho
  have HI : Hid (Il w io items) := hi
  have HIK : Hid (∀ t ∈ items, t.ok) := hik
  have HIL : Hid (items.length ≤ maxLen) := hil
  have HSZ : Hid (l.length * 24 ≤ 140737488355328) := hsz
  have HML : Hid (l.length ≤ maxLen) := by show _ ≤ _; simp only [maxLen]; omega
  have HOK : Hid (∀ o ∈ l, o.ok) := ho.2
  obtain ⟨k, hk⟩ : ∃ k, k = l.length := ⟨_, rfl⟩
  have HKL : Hid (k = l.length) := hk
  have hk8 : k ≤ 8 := by
    have := hc
    unfold checkB at this
    simp at this
    omega
  clear ho hi hik hil hsz hk
  go_enter Try.func6, Try.ntmps6
  go_wp2_with fail
  refine (awake_walk _).mono ?_
  rintro e w0 ⟨rfl, hB0⟩
  have HB0 : Hid (Below w.heap.size w w0) := hB0
  clear hB0
  go_wp2_with (at_builtin; refine wpList_append_sp (by rfl) _ _ 22 (by rfl) w0.heap.size 56 Try.underlying22 info_op _ 0 [] (by rfl) (World.ownsRow_made w0 #[] 0 (Nat.le_refl _) (by simp [maxLen]) (by simp)) _ l (by rfl) ((HO.out.below HB0.out).below (below_alloc _ _)) (by have := HML.out; simpa using this) (by have := HSZ.out; simpa using this) (by simp) ?_; intro mv w1 hown hgrow; go_frame)
  have HR1 : Hid (w1.ownsRow w0.heap.size 56 3 mv k (flat l)) := by show World.ownsRow _ _ _ _ _ _ _; rw [HKL.out]; simpa using hown
  have HV1 : Hid (Ov w1 mv l) := own_ovS HR1.out HOK.out
  have HB1 : Hid (Below w.heap.size w w1) := (below_trans HB0.out (below_alloc w0 (Obj.cells #[] 56))).grown hgrow (Nat.le_trans HB0.out.size (below_alloc w0 (Obj.cells #[] 56)).size) (by simp [Value.ownBlock]; exact HB0.out.size)
  have HMB : Hid (∀ x, mv.ownBlock = some x → w0.heap.size ≤ x ∧ x < w1.heap.size) := HR1.out.lt
  clear hown hgrow
  obtain ⟨S, hS⟩ : ∃ S, S = fillS (newS 2 l) (items.take 4096) := ⟨_, rfl⟩
  have HSE : Hid (S = fillS (newS 2 l) (items.take 4096)) := hS
  have HNP : Hid (S.np = 2) := by show _ = _; rw [hS]; exact (fill_list _ _).2.1
  have HON : Hid (∀ q, q < 2 → S.on q = true) := by intro q hq; rw [hS, (fill_list _ _).2.2]; exact decide_eq_true hq
  clear hS
  go_wp2_with fail
  refine (filled_walk HV1.out (HI.out.below HB1.out (Nat.le_refl _)) HIK.out HIL.out hc).mono ?_
  rw [← HSE.out]
  rintro e w2 ⟨sv, rfl, hSs, hB2⟩
  obtain ⟨sb, rfl⟩ := hSs.form
  obtain ⟨Ds, hs1, hs2⟩ := hSs
  have HB2 : Hid (Below w.heap.size w w2) := below_trans HB1.out hB2
  have HS2 : Hid (Src Ds w2 (.pointer (some ⟨sb, 0, none⟩)) S ∧ ∀ x, Ds x → w1.heap.size ≤ x) := ⟨hs1, hs2⟩
  have HR2 : Hid (Rw 0 56 3 mv k w2) := rw_of_own (row_keep HR1.out (fun x hx => hB2.block x (HR1.out.lt x hx).2))
  have HZ12 : Hid (w1.heap.size ≤ w2.heap.size) := hB2.size
  clear hs1 hs2 hB2
  go_wp2_with fail
  refine (filled_walk (HO.out.below HB2.out) (HI.out.below HB2.out (Nat.le_refl _)) HIK.out HIL.out hc).mono ?_
  rw [← HSE.out]
  rintro e w3 ⟨tv, rfl, hSt, hB3⟩
  obtain ⟨tb, rfl⟩ := hSt.form
  obtain ⟨Dt, ht1, ht2⟩ := hSt
  have HB3 : Hid (Below w.heap.size w w3) := below_trans HB2.out hB3
  have HS3 : Hid (Src Ds w3 (.pointer (some ⟨sb, 0, none⟩)) S ∧ ∀ x, Ds x → w1.heap.size ≤ x ∧ x < w2.heap.size) := ⟨HS2.out.1.below hB3, fun x hx => ⟨HS2.out.2 x hx, HS2.out.1.lt hx⟩⟩
  have HT3 : Hid (Src Dt w3 (.pointer (some ⟨tb, 0, none⟩)) S ∧ ∀ x, Dt x → w2.heap.size ≤ x) := ⟨ht1, ht2⟩
  have HR3 : Hid (Rw 0 56 3 mv k w3) := HR2.out.kept (gr_of_below hB3) (by cases mv.ownBlock <;> simp)
  have HK : Hid S.ok := ht1.good
  clear ht1 ht2 hB3 HS2 HR2 HV1 HR1
  obtain ⟨mo, mc, hmf⟩ : ∃ mo mc, mv = .slice mo k mc := by obtain ⟨xs, h⟩ := HR3.out; obtain ⟨ao, cap, h2, _⟩ := row_form h; exact ⟨ao, cap, h2⟩
  subst hmf
  go_wp2_with fail
  go_loopw [8] (fun iv wr => ∃ i : Nat, i ≤ k ∧ iv = .int .i64 i ∧ Rw 0 56 3 (.slice mo k mc) k wr ∧ Ch (fun x => (Value.slice mo k mc).ownBlock = some x) w3 wr) (fun iv _ => k - (intOf iv).toNat)
  case atStart => exact ⟨0, Nat.zero_le _, rfl, HR3.out, Ch.refl _ _⟩
  case round =>
    clear HR3
    obtain ⟨i, hi, rfl, hR, hC⟩ := hrel
    have HR : Hid (Rw 0 56 3 (.slice mo k mc) k wr) := hR
    have HC : Hid (Ch (fun x => (Value.slice mo k mc).ownBlock = some x) w3 wr) := hC
    clear hR hC
    by_cases hik : i < k
    · obtain ⟨g, cap, x, y, z, hv, hb, c0, c1, c2, f0, f1, f2⟩ := rw_cell3 HR.out hik
      have hmo : mo = some ⟨g, 0, none⟩ := by simp only [Value.slice.injEq] at hv; exact hv.1
      subst hmo
      have R' : ∃ j : Nat, j ≤ k ∧ Value.int .i64 ((i : Int) + 1) = .int .i64 j ∧ Rw 0 56 3 (.slice (some ⟨g, 0, none⟩) k mc) k (((wr.setCell ⟨g, i * 3, none⟩ (.int .i64 11)).setCell ⟨g, i * 3 + 1, none⟩ (.int .i64 1)).setCell ⟨g, i * 3 + 2, none⟩ (.float .f64 0)) ∧
          Ch (fun x => (Value.slice (some ⟨g, 0, none⟩) k mc).ownBlock = some x) w3 (((wr.setCell ⟨g, i * 3, none⟩ (.int .i64 11)).setCell ⟨g, i * 3 + 1, none⟩ (.int .i64 1)).setCell ⟨g, i * 3 + 2, none⟩ (.float .f64 0)) :=
        ⟨i + 1, hik, by simp, ((HR.out.set rfl _).set rfl _).set rfl _, ((HC.out.set (.inl rfl) _ _).set (.inl rfl) _ _).set (.inl rfl) _ _⟩
      clear hv hb
      go_wp2_with fail
      go_roundw
      case rel => exact R'
      case measure => simp [intOf]; omega
    · have HBW : Hid (Below w.heap.size w wr) := HB3.out.trans (HC.out.to_below HB3.out.size (fun x hx => Nat.le_trans HB0.out.size (HMB.out x hx).1))
      have HSW : Hid (Src Ds wr (.pointer (some ⟨sb, 0, none⟩)) S ∧ Src Dt wr (.pointer (some ⟨tb, 0, none⟩)) S ∧ (∀ x, Ds x → w.heap.size ≤ x) ∧ (∀ x, Dt x → w.heap.size ≤ x) ∧ ∀ x, Ds x → ¬ Dt x) := by
        have z1 := HB1.out.size
        have z2 := HZ12.out
        refine ⟨HS3.out.1.ch HC.out (fun x hx hD => ?_), HT3.out.1.ch HC.out (fun x hx hD => ?_), fun x hx => ?_, fun x hx => ?_, fun x hx hD => ?_⟩
        · have := (HS3.out.2 x hx).1; have := (HMB.out x hD).2; omega
        · have := HT3.out.2 x hx; have := (HMB.out x hD).2; omega
        · have := (HS3.out.2 x hx).1; omega
        · have := HT3.out.2 x hx; omega
        · have := (HS3.out.2 x hx).2; have := HT3.out.2 x hD; omega
      clear HC HR HS3 HT3 HB3
      obtain ⟨P, hP⟩ : ∃ P, P = prodS S (0 : Int) ⟨1099511627776, 4613937818241073152⟩ := ⟨_, rfl⟩
      have HPP : Hid (P = prodS S (0 : Int) ⟨1099511627776, 4613937818241073152⟩) := hP
      have HP2 : Hid (P.2.np = 2 ∧ ∀ q, q < 2 → P.2.on q = true) := by
        have := prod_list S (0 : Int) ⟨1099511627776, 4613937818241073152⟩
        rw [← hP] at this
        exact ⟨by rw [this.2.1]; exact HNP.out, fun q hq => by rw [this.2.2]; exact HON.out q hq⟩
      obtain ⟨P1, P2⟩ := P
      clear hP
      have HPK : Hid (Rcd.ok ⟨1099511627776, 4613937818241073152⟩) := ⟨by simp, by simp⟩
      go_wp2_with fail
      generalize hwM : wr.alloc (Obj.cells #[.int .u64 1099511627776, .float .f64 4613937818241073152] 34) = wM
      have HBM : Hid (Below wr.heap.size wr wM) := by show Below _ _ _; rw [← hwM]; exact below_alloc _ _
      have r0 : wM.cell? ⟨wr.heap.size, 0, none⟩ = some (.int .u64 1099511627776) := by rw [← hwM]; simp [go_sem]
      have r1 : wM.cell? ⟨wr.heap.size, 1, none⟩ = some (.float .f64 4613937818241073152) := by rw [← hwM]; simp [go_sem]
      have HSM : Hid (Src Ds wM (.pointer (some ⟨sb, 0, none⟩)) S ∧ Src Dt wM (.pointer (some ⟨tb, 0, none⟩)) S) := ⟨HSW.out.1.below HBM.out, HSW.out.2.1.below HBM.out⟩
      have HNR : Hid (¬ Ds wr.heap.size) := fun h => by have := HSW.out.1.lt h; omega
      have HZM : Hid (wr.heap.size < wM.heap.size) := cell_lt r0
      clear hwM
      go_cut [57] (fun cv wx => cv = .bool false ∧ Bo w.heap.size wx (.pointer (some ⟨sb, 0, none⟩)) (.pointer (some ⟨tb, 0, none⟩)) P2 ∧ Below w.heap.size w wx)
      case first =>
        go_region_with (first
          | (go_at_call 13; have hdone2 := hdone; refine (mem_call (HSM.out.2.ch (D := Ds) hcs (fun x hx hD => HSW.out.2.2.2.2 x hD hx)) (by first | exact below_same _ | exact (Below.refl _ _).drew) HPP.out).mono ?_; rintro e w6 ⟨rfl, Dt', ht', hct, hdt⟩)
          | (go_at_call 13; refine (mem_call HSM.out.1 (Below.refl _ _).drew HPP.out).mono ?_; rintro e w5 ⟨rfl, Ds', hs', hcs, hds⟩; have hdone := hcs; have q0 : w5.cell? ⟨wr.heap.size, 0, none⟩ = some (.int .u64 1099511627776) := (World.cell?_of_block (w := wM) (a := ⟨wr.heap.size, 0, none⟩) (hcs.block _ HZM.out HNR.out)).trans r0; have q1 : w5.cell? ⟨wr.heap.size, 1, none⟩ = some (.float .f64 4613937818241073152) := (World.cell?_of_block (w := wM) (a := ⟨wr.heap.size, 1, none⟩) (hcs.block _ HZM.out HNR.out)).trans r1))
        all_goals go_wp2_with fail
        all_goals go_meet
        all_goals (
          have hb := bo_step HSM.out.1 HSM.out.2 HSW.out.2.2.1 HSW.out.2.2.2.1 (Nat.le_trans HBW.out.size HBM.out.size) HSW.out.2.2.2.2 hs' hcs hds ht' hct hdt
          exact ⟨by simp, hb.1, (below_trans HBW.out HBM.out).trans hb.2⟩)
      case rest =>
        obtain ⟨rfl, hBo, hBc⟩ := hcut
        have HBo : Hid (Bo w.heap.size wc (.pointer (some ⟨sb, 0, none⟩)) (.pointer (some ⟨tb, 0, none⟩)) P2) := hBo
        have HBc : Hid (Below w.heap.size w wc) := hBc
        clear hBo hBc HSM HSW HBW HBM r0 r1 HNR HZM
        go_wp2_with fail
        go_loopw [10] (fun pv wr => ∃ q : Nat, q ≤ 2 ∧ pv = .int .i64 q ∧ Bo w.heap.size wr (.pointer (some ⟨sb, 0, none⟩)) (.pointer (some ⟨tb, 0, none⟩)) P2 ∧ Below w.heap.size w wr) (fun pv _ => 2 - (intOf pv).toNat)
        case atStart => exact ⟨0, by omega, rfl, HBo.out, HBc.out⟩
        case round =>
          clear HBo HBc
          obtain ⟨q, hq, rfl, hBo, hB⟩ := hrel
          obtain ⟨wo, hwo⟩ : ∃ wo, wo = wr := ⟨_, rfl⟩
          subst hwo
          have HBo : Hid (Bo w.heap.size wo (.pointer (some ⟨sb, 0, none⟩)) (.pointer (some ⟨tb, 0, none⟩)) P2) := hBo
          have HB : Hid (Below w.heap.size w wo) := hB
          have HK2 : Hid P2.ok := hBo.s.good
          clear hBo hB
          by_cases hq2 : q < 2
          · obtain ⟨Ds, Dt, hs, ht, hbs, hbt⟩ := HBo.out
            have HSO : Hid (Src Ds wo (.pointer (some ⟨sb, 0, none⟩)) P2 ∧ Src Dt wo (.pointer (some ⟨tb, 0, none⟩)) P2) := ⟨hs, ht⟩
            have HDst : Hid ((∀ x, Ds x → w.heap.size ≤ x) ∧ (∀ x, Dt x → w.heap.size ≤ x)) := ⟨hbs, hbt⟩
            have HQ : Hid (hasS P2 q) := by show hasS P2 q; unfold hasS; rw [HP2.out.1]; omega
            have HQO : Hid (P2.on q = true) := HP2.out.2 q hq2
            have HLO : Hid (logS P2 q = P2.logs q) := by show _ = _; unfold logS; rw [if_pos HQ.out]; rfl
            obtain ⟨n, hn⟩ : ∃ n, n = (P2.logs q).length := ⟨_, rfl⟩
            have HN : Hid (n = (P2.logs q).length) := hn
            have hn256 : n ≤ 256 := by rw [hn]; exact HK2.out.len q
            clear hn hs ht hbs hbt
            go_wp2_with fail
            refine (log_walk HSO.out.1 q).mono ?_
            rw [HLO.out, ← HN.out]
            rintro e wA ⟨av, rfl, hra, hBA⟩
            obtain ⟨ao, ac, hav, _⟩ := row_form hra
            subst hav
            have HRA : Hid (wA.ownsRow wo.heap.size 34 2 (.slice ao n ac) n (flatR (P2.logs q))) := hra
            have HSA : Hid (Src Ds wA (.pointer (some ⟨sb, 0, none⟩)) P2 ∧ Src Dt wA (.pointer (some ⟨tb, 0, none⟩)) P2) := ⟨HSO.out.1.below hBA, HSO.out.2.below hBA⟩
            have HBA : Hid (Below wo.heap.size wo wA) := hBA
            clear hra hBA
            go_wp2_with fail
            refine (log_walk HSA.out.1 q).mono ?_
            rw [HLO.out, ← HN.out]
            rintro e wB ⟨bv, rfl, hrb, hBB⟩
            obtain ⟨bo, bc, hbv, _⟩ := row_form hrb
            subst hbv
            have HRb : Hid (wB.ownsRow wA.heap.size 34 2 (.slice bo n bc) n (flatR (P2.logs q))) := hrb
            have HRAB : Hid (wB.ownsRow wo.heap.size 34 2 (.slice ao n ac) n (flatR (P2.logs q))) := row_keep HRA.out (fun x hx => hBB.block x (HRA.out.lt x hx).2)
            have HSB : Hid (Src Ds wB (.pointer (some ⟨sb, 0, none⟩)) P2 ∧ Src Dt wB (.pointer (some ⟨tb, 0, none⟩)) P2) := ⟨HSA.out.1.below hBB, HSA.out.2.below hBB⟩
            have HBB : Hid (Below wo.heap.size wo wB) := below_trans HBA.out hBB
            have HZAB : Hid (wA.heap.size ≤ wB.heap.size) := hBB.size
            clear hrb hBB
            have HRO : Hid (readI P2 q 0 n = 0 ∧ readL P2 q 0 n = P2.logs q) := by
              have := read_on (M := n) HQ.out HQO.out (x := 0) (Nat.zero_le _)
              refine ⟨this.1, ?_⟩
              rw [show ((0 : Nat) : Int) = 0 from rfl] at this
              rw [this.2, HN.out]; simp
            go_wp2_with fail
            refine (read_walk HSB.out.1 q 0 n (by omega) (by omega)).mono ?_
            rw [HRO.out.1, HRO.out.2, ← HN.out]
            rintro e wC ⟨cv, rfl, hrc, hBC⟩
            obtain ⟨co, cc, hcv, _⟩ := row_form hrc
            subst hcv
            have HRc : Hid (wC.ownsRow wB.heap.size 34 2 (.slice co n cc) n (flatR (P2.logs q))) := hrc
            have HRac : Hid (wC.ownsRow wo.heap.size 34 2 (.slice ao n ac) n (flatR (P2.logs q))) := row_keep HRAB.out (fun x hx => hBC.block x (HRAB.out.lt x hx).2)
            have HRbc : Hid (wC.ownsRow wA.heap.size 34 2 (.slice bo n bc) n (flatR (P2.logs q))) := row_keep HRb.out (fun x hx => hBC.block x (HRb.out.lt x hx).2)
            have HSC : Hid (Src Ds wC (.pointer (some ⟨sb, 0, none⟩)) P2 ∧ Src Dt wC (.pointer (some ⟨tb, 0, none⟩)) P2) := ⟨HSB.out.1.below hBC, HSB.out.2.below hBC⟩
            have HBC : Hid (Below w.heap.size w wC) := below_trans HB.out (below_trans HBB.out hBC)
            obtain ⟨D, hD⟩ : ∃ D : Nat → Prop, D = fun x => (Value.slice ao n ac).ownBlock = some x ∨ (Value.slice co n cc).ownBlock = some x := ⟨_, rfl⟩
            have HDS : Hid ((∀ x, Ds x → ¬ D x) ∧ (∀ x, Dt x → ¬ D x)) := by
              have z1 := HBA.out.size
              have z2 := HZAB.out
              rw [hD]
              refine ⟨fun x hx h => ?_, fun x hx h => ?_⟩
              · have := HSO.out.1.lt hx
                rcases h with h | h
                · have := (HRac.out.lt x h).1; omega
                · have := (HRc.out.lt x h).1; omega
              · have := HSO.out.2.lt hx
                rcases h with h | h
                · have := (HRac.out.lt x h).1; omega
                · have := (HRc.out.lt x h).1; omega
            have HDB : Hid (∀ x, D x → w.heap.size ≤ x) := by
              have z0 := HB.out.size
              have z1 := HBB.out.size
              rw [hD]
              rintro x (h | h)
              · have := (HRac.out.lt x h).1; omega
              · have := (HRc.out.lt x h).1; omega
            have HBR : Hid (Rl wC bo (P2.logs q) ∧ ∀ a, bo = some a → ¬ D a.block) := by
              refine ⟨?_, fun a ha hd => ?_⟩
              · obtain ⟨ao', c', e, h⟩ := own_rl HRbc.out (HK2.out.rok q)
                simp only [Value.slice.injEq] at e
                rw [e.1]; exact h
              · have hb : (Value.slice bo n bc).ownBlock = some a.block := by rw [ha]; rfl
                have h1 := HRb.out.lt _ hb
                rw [hD] at hd
                rcases hd with h | h
                · have := (HRA.out.lt _ h).2; omega
                · have := (HRc.out.lt _ h).1; omega
            have HS2 : Hid (S2 D wC (.slice ao n ac) (.slice co n cc) n n wC) := by
              refine ⟨Ch.refl _ _, rw_of_own HRac.out, rw_of_own HRc.out, fun x h1 h2 => ?_, fun x h => ?_, fun x h => ?_⟩
              · have := (HRAB.out.lt x h1).2; have := (HRc.out.lt x h2).1; omega
              · rw [hD]; exact .inl (.inl h)
              · rw [hD]; exact .inl (.inr h)
            clear hD hrc hBC HRA HRAB HRb HRbc HRac HRc HSA HSB HBA HBB HZAB
            go_wp2_with fail
            go_loopw [15] (fun iv wr => ∃ i : Nat, i ≤ n ∧ iv = .int .i64 i ∧ S2 D wC (.slice ao n ac) (.slice co n cc) n n wr) (fun iv _ => n - (intOf iv).toNat)
            case atStart => exact ⟨0, Nat.zero_le _, rfl, HS2.out⟩
            case round =>
              clear HS2
              obtain ⟨i, hi, rfl, hS⟩ := hrel
              have HS2 : Hid (S2 D wC (.slice ao n ac) (.slice co n cc) n n wr) := hS
              clear hS
              by_cases hin : i < n
              · obtain ⟨g, cap, x, y, hv, hb, c0, c1, f0, f1⟩ := rw_cell HS2.out.a hin
                have hmo : ao = some ⟨g, 0, none⟩ := by simp only [Value.slice.injEq] at hv; exact hv.1
                have R' : ∃ j : Nat, j ≤ n ∧ Value.int .i64 ((i : Int) + 1) = .int .i64 j ∧ S2 D wC (.slice ao n ac) (.slice co n cc) n n ((wr.setCell ⟨g, i * 2, none⟩ (.int .u64 77)).setCell ⟨g, i * 2 + 1, none⟩ (.float .f64 0)) :=
                  ⟨i + 1, hin, by simp, (HS2.out.setA hb _ _).setA hb _ _⟩
                subst hmo
                clear hv hb
                go_wp2_with fail
                go_roundw
                case rel => exact R'
                case measure => simp [intOf]; omega
              · go_wp2_with fail
                go_loopw [16] (fun iv wr => ∃ i : Nat, i ≤ n ∧ iv = .int .i64 i ∧ S2 D wC (.slice ao n ac) (.slice co n cc) n n wr) (fun iv _ => n - (intOf iv).toNat)
                case atStart => exact ⟨0, Nat.zero_le _, rfl, HS2.out⟩
                case round =>
                  clear HS2
                  obtain ⟨i, hi, rfl, hS⟩ := hrel
                  have HS2 : Hid (S2 D wC (.slice ao n ac) (.slice co n cc) n n wr) := hS
                  clear hS
                  by_cases hin : i < n
                  · obtain ⟨g, cap, x, y, hv, hb, c0, c1, f0, f1⟩ := rw_cell HS2.out.c hin
                    have hmo : co = some ⟨g, 0, none⟩ := by simp only [Value.slice.injEq] at hv; exact hv.1
                    have R' : ∃ j : Nat, j ≤ n ∧ Value.int .i64 ((i : Int) + 1) = .int .i64 j ∧ S2 D wC (.slice ao n ac) (.slice co n cc) n n ((wr.setCell ⟨g, i * 2, none⟩ (.int .u64 78)).setCell ⟨g, i * 2 + 1, none⟩ (.float .f64 0)) :=
                      ⟨i + 1, hin, by simp, (HS2.out.setC hb _ _).setC hb _ _⟩
                    subst hmo
                    clear hv hb
                    go_wp2_with fail
                    go_roundw
                    case rel => exact R'
                    case measure => simp [intOf]; omega
                  · go_wp2_with fail
                    go_loopw [11, 13, 17] (fun xv yv jv wr => ∃ (j : Nat) (av cv : Value), j ≤ 9 ∧ xv = av ∧ yv = cv ∧ jv = .int .i64 j ∧ S2 D wC av cv (n + j) (n + j) wr) (fun _ _ jv _ => 9 - (intOf jv).toNat)
                    case atStart => exact ⟨0, _, _, by omega, rfl, rfl, rfl, HS2.out⟩
                    case round =>
                      clear HS2
                      obtain ⟨j, av, cv, hj, rfl, rfl, rfl, hS⟩ := hrel
                      obtain ⟨N, hN⟩ : ∃ N, N = n + j := ⟨_, rfl⟩
                      rw [← hN] at hS
                      have HNJ : Hid (N = n + j) := hN
                      have HS2 : Hid (S2 D wC u11 u13 N N wr) := hS
                      have hN3 : N ≤ 300 := by omega
                      obtain ⟨ao2, ac2, hav2⟩ : ∃ ao2 ac2, u11 = .slice ao2 N ac2 := by obtain ⟨xs, h⟩ := hS.a; obtain ⟨p, q, e, _⟩ := row_form h; exact ⟨p, q, e⟩
                      obtain ⟨co2, cc2, hcv2⟩ : ∃ co2 cc2, u13 = .slice co2 N cc2 := by obtain ⟨xs, h⟩ := hS.c; obtain ⟨p, q, e, _⟩ := row_form h; exact ⟨p, q, e⟩
                      subst hav2
                      subst hcv2
                      clear hS hN
                      by_cases hj9 : j < 9
                      · go_wp2_with (first
                          | (at_builtin; have hd2 := hdoneA; refine wpList_append_rw (by rfl) _ _ 44 (by rfl) Try.underlying44 info_rec _ N (by rfl) (hdoneA.below (below_alloc _ _)).c _ ⟨80, 0⟩ (by rfl) (by simp [go_sem]) (by simp [go_sem]) (by omega) ?_; intro v8 w8 xs8 ho8 hg8 hat8; have hdoneC := (hdoneA.below (below_alloc _ _)).appC hg8 ho8 hat8)
                          | (at_builtin; refine wpList_append_rw (by rfl) _ _ 44 (by rfl) Try.underlying44 info_rec _ N (by rfl) (HS2.out.below (below_alloc _ _)).a _ ⟨79, 0⟩ (by rfl) (by simp [go_sem]) (by simp [go_sem]) (by omega) ?_; intro v7 w7 xs7 ho7 hg7 hat7; have hdoneA := (HS2.out.below (below_alloc _ _)).appA hg7 ho7 hat7))
                        have HN1 : Hid (N + 1 = n + (j + 1)) := by show _ = _; rw [HNJ.out]; omega
                        rw [HN1.out] at hdoneC
                        have HDC : Hid (S2 D wC v7 v8 (n + (j + 1)) (n + (j + 1)) w8) := hdoneC
                        clear hdoneC hdoneA ho7 hg7 hat7 ho8 hg8 hat8
                        go_wp2_with fail
                        go_roundw
                        case rel => exact ⟨j + 1, v7, v8, by omega, rfl, rfl, by simp, HDC.out⟩
                        case measure => simp [intOf]; omega
                      · have HCH : Hid (Ch D wC wr) := HS2.out.ch
                        have HSS : Hid (Src Ds wr (.pointer (some ⟨sb, 0, none⟩)) P2 ∧ Src Dt wr (.pointer (some ⟨tb, 0, none⟩)) P2) := ⟨HSC.out.1.ch HCH.out HDS.out.1, HSC.out.2.ch HCH.out HDS.out.2⟩
                        have HRB : Hid (Rl wr bo (P2.logs q)) := HBR.out.1.chg HCH.out HBR.out.2
                        have HBW : Hid (Below w.heap.size w wr) := HBC.out.trans (HCH.out.to_below HBC.out.size HDB.out)
                        clear HS2 HCH HSC HBR
                        go_wp2_with fail
                        refine (log_walk HSS.out.2 q).mono ?_
                        rw [HLO.out]
                        rintro e wX ⟨lx, rfl, hlx, hBX⟩
                        obtain ⟨xo, xc, hlv, hRX⟩ := own_rl hlx (HK2.out.rok q)
                        subst hlv
                        rw [← HN.out]
                        have HRX : Hid (Rl wX bo (P2.logs q) ∧ Rl wX xo (P2.logs q)) := ⟨HRB.out.below hBX, hRX⟩
                        have HSX : Hid (Src Ds wX (.pointer (some ⟨sb, 0, none⟩)) P2 ∧ Src Dt wX (.pointer (some ⟨tb, 0, none⟩)) P2) := ⟨HSS.out.1.below hBX, HSS.out.2.below hBX⟩
                        have HBX : Hid (Below w.heap.size w wX) := below_trans HBW.out hBX
                        clear hlx hRX hBX
                        go_wp2_with fail
                        have hcall := lrecs_walk (ca := bc) (cb := xc) (l := P2.logs q) (by rw [← HN.out]; omega) HRX.out.1 HRX.out.2
                        rw [← HN.out] at hcall
                        refine Calls.mono hcall ?_
                        clear hcall
                        rintro e wY ⟨rfl, hBY⟩
                        have HRY : Hid (Rl wY bo (P2.logs q)) := HRX.out.1.below hBY
                        have HSY : Hid (Src Ds wY (.pointer (some ⟨sb, 0, none⟩)) P2 ∧ Src Dt wY (.pointer (some ⟨tb, 0, none⟩)) P2) := ⟨HSX.out.1.below hBY, HSX.out.2.below hBY⟩
                        have HBY : Hid (Below w.heap.size w wY) := below_trans HBX.out hBY
                        clear hBY
                        go_wp2_with fail
                        refine (log_walk HSY.out.1 q).mono ?_
                        rw [HLO.out]
                        rintro e wZ ⟨lz, rfl, hlz, hBZ⟩
                        obtain ⟨zo, zc, hlv, hRZ⟩ := own_rl hlz (HK2.out.rok q)
                        subst hlv
                        rw [← HN.out]
                        have HRZ : Hid (Rl wZ bo (P2.logs q) ∧ Rl wZ zo (P2.logs q)) := ⟨HRY.out.below hBZ, hRZ⟩
                        have HSZ2 : Hid (Src Ds wZ (.pointer (some ⟨sb, 0, none⟩)) P2 ∧ Src Dt wZ (.pointer (some ⟨tb, 0, none⟩)) P2) := ⟨HSY.out.1.below hBZ, HSY.out.2.below hBZ⟩
                        have HBZ : Hid (Below w.heap.size w wZ) := below_trans HBY.out hBZ
                        clear hlz hRZ hBZ
                        go_wp2_with fail
                        have hcall := lrecs_walk (ca := zc) (cb := bc) (l := P2.logs q) (by rw [← HN.out]; omega) HRZ.out.2 HRZ.out.1
                        rw [← HN.out] at hcall
                        refine Calls.mono hcall ?_
                        clear hcall
                        rintro e wV ⟨rfl, hBV⟩
                        have HRel : Hid (Bo w.heap.size wV (.pointer (some ⟨sb, 0, none⟩)) (.pointer (some ⟨tb, 0, none⟩)) P2 ∧ Below w.heap.size w wV) := ⟨⟨Ds, Dt, HSZ2.out.1.below hBV, HSZ2.out.2.below hBV, HDst.out.1, HDst.out.2⟩, below_trans HBZ.out hBV⟩
                        clear hBV
                        go_wp2_with fail
                        go_roundw
                        case rel => exact ⟨q + 1, by omega, by simp, HRel.out.1, HRel.out.2⟩
                        case measure => simp [intOf]; omega
          · obtain rfl : q = 2 := by omega
            have hz : ((2 : Nat) : Int) = 2 := rfl
            rw [hz]
            clear hz
            go_wp2_with fail
            refine (keysB HBo.out.s).mono ?_
            rintro e wK ⟨kv, rfl, hk, hBK⟩
            obtain ⟨m, hm⟩ : ∃ m, m = P2.keys.length := ⟨_, rfl⟩
            rw [← hm] at hk
            have hm64 : m ≤ 64 := by rw [hm]; exact HK2.out.kl
            obtain ⟨ko, kc, hkv, _⟩ := row_form hk
            subst hkv
            have HM : Hid (m = P2.keys.length) := hm
            have HRK : Hid (wK.ownsRow wo.heap.size 31 1 (.slice ko m kc) m (P2.keys.map fun k => .int .u64 (k : Nat))) := hk
            have HKb : Hid (Below wo.heap.size wo wK) := hBK
            have HKz : Hid (wo.heap.size ≤ wK.heap.size) := hBK.size
            have HKo : Hid (Bo w.heap.size wK (.pointer (some ⟨sb, 0, none⟩)) (.pointer (some ⟨tb, 0, none⟩)) P2) := HBo.out.below hBK
            have HBK : Hid (Below w.heap.size w wK) := below_trans HB.out hBK
            have HZo : Hid (∀ x, (Value.slice ko m kc).ownBlock = some x → wo.heap.size ≤ x) := fun x hx => (HRK.out.lt x hx).1
            have HRW : Hid (Rw 0 31 1 (.slice ko m kc) m wK) := rw_of_own HRK.out
            clear hk hBK hm
            go_wp2_with fail
            go_loopw [19] (fun iv wr => ∃ i : Nat, i ≤ m ∧ iv = .int .i64 i ∧ Rw 0 31 1 (.slice ko m kc) m wr ∧ Ch (fun x => (Value.slice ko m kc).ownBlock = some x) wK wr) (fun iv _ => m - (intOf iv).toNat)
            case atStart => exact ⟨0, Nat.zero_le _, rfl, HRW.out, Ch.refl _ _⟩
            case round =>
              clear HRW
              obtain ⟨i, hi, rfl, hR, hC⟩ := hrel
              have HRW : Hid (Rw 0 31 1 (.slice ko m kc) m wr) := hR
              have HC : Hid (Ch (fun x => (Value.slice ko m kc).ownBlock = some x) wK wr) := hC
              clear hR hC
              by_cases him : i < m
              · obtain ⟨g, hko, x, c0, f0⟩ := rw_cell1 HRW.out him
                subst hko
                have R' : ∃ j : Nat, j ≤ m ∧ Value.int .i64 ((i : Int) + 1) = .int .i64 j ∧ Rw 0 31 1 (.slice (some ⟨g, 0, none⟩) m kc) m (wr.setCell ⟨g, i, none⟩ (.int .u64 5)) ∧ Ch (fun x => (Value.slice (some ⟨g, 0, none⟩) m kc).ownBlock = some x) wK (wr.setCell ⟨g, i, none⟩ (.int .u64 5)) :=
                  ⟨i + 1, him, by simp, HRW.out.set rfl _, HC.out.set (.inl rfl) _ _⟩
                go_wp2_with fail
                go_roundw
                case rel => exact R'
                case measure => simp [intOf]; omega
              · have HBo2 : Hid (Src_both w.heap.size wr (.pointer (some ⟨sb, 0, none⟩)) (.pointer (some ⟨tb, 0, none⟩)) P2) := by
                  obtain ⟨Ds, Dt, h1, h2, h3, h4⟩ := HBo.out
                  obtain ⟨z1, z2⟩ : wo.heap.size ≤ wK.heap.size ∧ True := ⟨HKz.out, trivial⟩
                  exact ⟨⟨Ds, (h1.below HKb.out).ch HC.out (fun x hx hD => by have := h1.lt hx; have := HZo.out x hD; omega), h3⟩, ⟨Dt, (h2.below HKb.out).ch HC.out (fun x hx hD => by have := h2.lt hx; have := HZo.out x hD; omega), h4⟩⟩
                have HBW : Hid (Below w.heap.size w wr) := HBK.out.trans (HC.out.to_below HBK.out.size (fun x hx => Nat.le_trans HB.out.size (HZo.out x hx)))
                go_wp2_with fail
                refine (keysB HBo2.out.1).mono ?_
                rintro e wE ⟨k1, rfl, hk1, hBE⟩
                obtain ⟨o1, c1, hv1, hl1⟩ := own_kl hk1
                subst hv1
                rw [← HM.out]
                have HL1 : Hid (Kl wE o1 P2.keys) := hl1
                have HTE : Hid (Sb w.heap.size wE (.pointer (some ⟨tb, 0, none⟩)) P2) := HBo2.out.2.below hBE
                have HBE : Hid (Below w.heap.size w wE) := below_trans HBW.out hBE
                clear hk1 hl1 hBE
                go_wp2_with fail
                refine (keysB HTE.out).mono ?_
                rintro e wF ⟨k2, rfl, hk2, hBF⟩
                obtain ⟨o2, c2, hv2, hl2⟩ := own_kl hk2
                subst hv2
                rw [← HM.out]
                have HL2 : Hid (Kl wF o1 P2.keys ∧ Kl wF o2 P2.keys) := ⟨HL1.out.below hBF, hl2⟩
                have HBF : Hid (Below w.heap.size w wF) := below_trans HBE.out hBF
                clear hk2 hl2 hBF
                go_wp2_with fail
                have hcall := kkeys_walk (ca := c1) (cb := c2) (l := P2.keys) (by rw [← HM.out]; omega) HL2.out.1 HL2.out.2
                rw [← HM.out] at hcall
                refine Calls.mono hcall ?_
                clear hcall
                rintro e wG ⟨rfl, hBG⟩
                have HBG : Hid (Below w.heap.size w wG) := below_trans HBF.out hBG
                clear hBG
                go_wp2_with fail
                go_ret
                exact ⟨rfl, HBG.out⟩
end Go.Proofs.Ytfgeabcdcepfdaa
