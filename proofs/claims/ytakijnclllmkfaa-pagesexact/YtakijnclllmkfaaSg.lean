/- The reference's Put that lays pages. -/
import Derived.Test.YtakijnclllmkfaaSf
import Derived.Maps.AppendAt
namespace Go.Proofs.Ytakijnclllmkfaa
open Go.RowKit

/-- APPEND of one int onto a row of the call's own: the row stays where it is, or is new. -/
theorem wpList_append_num {P : Program} {w : World} {ops : Array Oper} {rest : List Oper} {o : Oper} {a : Act} {Q : Exit → Act → World → Prop} (hgd : o.guard = none) (s x : Operand) (t : TypeId)
    (ho : o.op = .call { callee := .builtin .append, args := #[s, x], argTypes := #[t, t] }) (base : Nat)
    (ht : P.underlying t = some (.slice 3)) (hinf : (P.info? 3).map (fun i => (i.zero, i.size, i.bytes)) = some (some (.int .i64 0), 1, 8))
    (v : Value) (n : Nat) (xs : List Value) (hs : a.eval s = v) (hown : w.ownsRow base 3 1 v n xs) (g : Nat) (y : Int) (hx : a.eval x = .slice (some ⟨g, 0, none⟩) 1 1) (hc : w.cell? ⟨g, 0, none⟩ = some (.int .i64 y)) (hn : n ≤ 64) (hbase : base ≤ w.heap.size)
    (h : ∀ v' w', w'.ownsRow base 3 1 v' (n + 1) (xs ++ [.int .i64 y]) → w.grownBy w' v.ownBlock → (v'.ownBlock = v.ownBlock ∨ v'.ownBlock = some w.heap.size) → wpList P ops Q rest (a.put o.dst v') w') : wpList P ops Q (o :: rest) a w := by
  obtain ⟨i0, hi, hz0, hz1, hz2⟩ := info_partsV hinf
  refine wpList_append_own_at w hgd s x t ho base 3 i0 (.int .i64 0) 1 8 ht hi hz0 hz1 hz2 rfl (by decide) v n xs hs hown ⟨g, 0, none⟩ 1 1 [.int .i64 y] hx (by simp) ?_ ?_ (by simp only [maxLen]; omega) (by omega) hbase ?_
  · intro j u hj
    cases j with
    | zero => simp at hj; subst hj; simpa [WideShapes.add_plain] using hc
    | succ j => simp at hj
  · intro u hu
    simp at hu
    subst hu; rfl
  · intro v' w' h1 h2 _ h3
    exact h v' w' h1 h2 h3

section
variable {A D : Nat → Prop} {w w' : World} {v dv tv lv : Value} {P P' : Bo} {S S' : Dk} {pb : Nat} {ps : List (Int × List Nat)}
theorem mq_root {g cap : Nat} {t : List Nat} (h : MQ A D w pb tv dv P S) (hZ : Zt w g cap t) (hg : ¬ A g) {gen' home' : Nat} (hok : (Bo.mk gen' t home' P.over).ok S.bl.length) :
    MQ (fun x => A x ∨ x = g) D (((w.setCell ⟨pb, 1, none⟩ (.slice (some ⟨g, 0, none⟩) t.length cap)).setCell ⟨pb, 2, none⟩ (.int .i64 gen')).setCell ⟨pb, 3, none⟩ (.int .i64 home')) pb (.slice (some ⟨g, 0, none⟩) t.length cap) dv ⟨gen', t, home', P.over⟩ S := by
  have hgp : g ≠ pb := fun e => hg (e ▸ h.ab)
  have hk : ∀ x, x ≠ pb → (((w.setCell ⟨pb, 1, none⟩ (.slice (some ⟨g, 0, none⟩) t.length cap)).setCell ⟨pb, 2, none⟩ (.int .i64 gen')).setCell ⟨pb, 3, none⟩ (.int .i64 home')).heap[x]? = w.heap[x]? := fun x hx => by rw [set_other 3 _ hx, set_other 2 _ hx, set_other 1 _ hx]
  refine ⟨?_, (hZ.keep (hk g hgp)).tw, h.dsk.keep (fun x hx => hk x (fun e => h.nb (e ▸ hx))) (by simp), fun x hx => .inl (h.sub x hx), .inl h.ab, h.nb, fun x hx => ?_, fun x hx => ?_, hok⟩
  · rw [set_row (set_row (set_row h.head 1 _) 2 _) 3 _]; rfl
  · simp [Value.ownBlock] at hx
    subst hx
    exact ⟨.inr rfl, fun e => hg (h.sub _ e), hgp⟩
  · have : x < w.heap.size := by
      rcases hx with q | q
      · exact h.al x q
      · subst q; exact hZ.lt
    simpa [go_sem] using this

/-- Where Put's loop stands: the new table in block g, the blocks that are written in a row of their own. -/
def RpRel (A : Nat → Prop) (w : World) (pb : Nat) (tv dv : Value) (P : Bo) (S : Dk) (ps : List (Int × List Nat)) (g cap : Nat) (kv iv : Value) (wr : World) : Prop :=
  ∃ (k b : Nat) (t' tk : List Nat) (A' D' : Nat → Prop) (S' : Dk), k ≤ ps.length ∧ iv = .int .i64 k ∧ layS P.tab ps 1 P.tab S = layS P.tab (ps.drop k) b t' S' ∧
    LI P.tab t' tk b S.bl.length ∧ tk.length ≤ k ∧ MQ A' D' wr pb tv dv P S' ∧ (∀ x, A' x → A x ∨ w.heap.size ≤ x) ∧ Ch A w wr ∧ Zt wr g cap t' ∧ ¬ A' g ∧ w.heap.size ≤ g ∧ S'.wr ≤ S.wr + k ∧ S'.bl.length = S.bl.length ∧
    wr.ownsRow w.heap.size 3 1 kv tk.length ((ib tk).map (Value.int .i64)) ∧ ∀ x, kv.ownBlock = some x → ¬ A' x ∧ x ≠ g

set_option maxRecDepth 100000 in
set_option maxHeartbeats 8000000 in
theorem rput_lays (h : MQ A D w pb tv dv P S) (hl : Tx A w lv ps) (hs : shutB P S = false) (hf : faultI P.tab.length ps = 0) (hp : ps ≠ []) (hg : P.gen ≠ 1099511627776) (hwr : S.wr < 4611686018427387904) :
    Calls Try.prog 17 #[.pointer (some ⟨pb, 0, none⟩), lv] w fun e w' => Pt hdR 87 83 A w (.pointer (some ⟨pb, 0, none⟩)) dv P S ps e w' := by
  have HM : Hid (MQ A D w pb tv dv P S) := h
  have HL : Hid (Tx A w lv ps) := hl
  have HSH : Hid (shutB P S = false) := hs
  have HFA : Hid (faultI P.tab.length ps = 0) := hf
  have HPE : Hid (ps ≠ []) := hp
  have HG : Hid (P.gen ≠ 1099511627776) := hg
  have HWR : Hid (S.wr < 4611686018427387904) := hwr
  have HOK : Hid (Lok P.tab.length ps) := (fault_ok ps [] hf).1
  have HPK : Hid (P.ok S.bl.length) := h.ok
  have HB64 : Hid (S.bl.length ≤ 64) := h.dsk.good.n64
  have HT64 : Hid (∀ x ∈ P.tab, x < 64) := fun x hx => by have h1 := tok_lt h.ok.tok x hx; have h2 := h.dsk.good.n64; omega
  obtain ⟨lo, lc, rfl, hl1, hl2⟩ := hl.form
  obtain ⟨t, ht⟩ : ∃ t, t = P.tab := ⟨_, rfl⟩
  have HTP : Hid (t = P.tab) := ht
  have hT := h.tab
  have h8 := h.ok.n8
  have hlk := lok_len (fault_ok ps [] hf).1
  rw [← ht] at hT h8 hlk
  have HTW : Hid (Tw w tv t) := hT
  have HT1 : Hid (1 ≤ t.length ∧ t.length ≤ 8) := ⟨by rw [ht]; exact h.ok.tok.1, h8⟩
  obtain ⟨to', tc, rfl, _, _⟩ := hT.form
  have hti : (t.length : Int) ≤ 8 := by omega
  have hpi : (ps.length : Int) ≤ 8 := by omega
  have hp0 : ((ps.length : Int) == 0) = false := by have := List.length_pos_iff.2 hp; simp; omega
  have hgl : P.gen < 1099511627776 := by have := h.ok.g40; omega
  have HGL : Hid (P.gen < 1099511627776) := hgl
  have hgi : (P.gen : Int) < 1099511627776 := by omega
  have hgd : decide ((1099511627776 : Int) ≤ (P.gen : Int)) = false := decide_eq_false (by omega)
  have c1 := mq1 h
  have c2 := mq2 h
  have HA1 : Hid (∀ x, A x → x < w.heap.size) := fun x hx => h.al x hx
  clear h hl hs hf hp hg hwr hl1 hl2 ht hT h8 hlk
  go_enter Try.func17, Try.ntmps17
  go_wp2_with fail
  refine (rbdown_ok HM.out HSH.out).mono ?_
  rintro e w9 ⟨rfl, h9⟩
  have h9 := h9.symm
  subst h9
  go_wp2_with fail
  refine (rbad_walk HM.out HL.out).mono ?_
  rw [HFA.out]
  rintro e w9 ⟨rfl, h9⟩
  have h9 := h9.symm
  subst h9
  have HRA : Hid ((w.alloc (.cells #[] 3)).ownsRow w.heap.size 3 1 (.slice (some ⟨w.heap.size, 0, none⟩) 0 0) 0 []) := World.ownsRow_made w #[] 0 (Nat.le_refl _) (by simp [maxLen]) rfl
  have HTA : Hid (Sv .i64 (w.alloc (.cells #[] 3)) (.slice to' t.length tc) (ib t)) := Sv.below HTW.out (below_alloc _ _)
  have a1 : (w.alloc (Obj.cells #[] 3)).cell? ⟨pb, 1, none⟩ = some (.slice to' t.length tc) := by rw [(below_alloc w _).cell (p := ⟨pb, 1, none⟩) (cell_lt c1)]; exact c1
  go_upto_region 12 with (at_builtin; refine wpList_append_sv (by rfl) _ _ 71 (by rfl) w.heap.size 3 .i64 8 Try.underlying71 info_i64 _ 0 [] (by rfl) HRA.out _ (ib t) (by rfl) HTA.out (by have := HT1.out; rw [ib_len]; simp [maxLen]; omega) (by have := HT1.out; rw [ib_len]; omega) (by simp) ?_; intro v1 w1 ho1 hg1)
  have HB1 : Hid (Below w.heap.size w w1) := (below_alloc w _).grown hg1 (by simp) (fun x hx => by cases hx; exact Nat.le_refl _)
  have ho1' : w1.ownsRow w.heap.size 3 1 v1 t.length ((ib t).map (Value.int .i64)) := by rw [ib_len] at ho1; simpa using ho1
  obtain ⟨g, cap, hv1, hZ, hbg⟩ := own_zt ho1' HT1.out.1
  subst hv1
  have HZ1 : Hid (Zt w1 g cap t ∧ w.heap.size ≤ g) := ⟨hZ, hbg⟩
  have HM2 : Hid (MQ A D (w1.alloc (.cells #[] 3)) pb (.slice to' t.length tc) dv P S) := (HM.out.below HB1.out).below (below_alloc _ _)
  have HST : Hid (RpRel A w pb (.slice to' t.length tc) dv P S ps g cap (.slice (some ⟨w1.heap.size, 0, none⟩) 0 0) (.int .i64 0) (w1.alloc (.cells #[] 3))) := by
    refine ⟨0, 1, t, [], A, D, S, Nat.zero_le _, rfl, by rw [HTP.out]; rfl, by rw [HTP.out]; exact LI.start HPK.out.tok, Nat.le_refl _, HM2.out, fun x hx => .inl hx, Ch.of_below (below_trans HB1.out (below_alloc _ _)), hZ.below (below_alloc _ _), fun e => ?_, hbg, Nat.le_refl _, rfl, ?_, fun x hx => ?_⟩
    · have := HA1.out _ e; omega
    · exact World.ownsRow_made w1 #[] 0 (by have := HB1.out.size; omega) (by simp [maxLen]) rfl
    · have hx2 : x = w1.heap.size := (Option.some.inj hx).symm
      refine ⟨fun e => ?_, ?_⟩
      · have h1 := HA1.out _ e; have h2 := HB1.out.size; omega
      · have := hZ.lt; omega
  clear ho1 hg1 ho1' hZ hbg a1 c1 c2
  go_wp2_with fail
  go_loopw [7, 8] (fun kv iv wr => RpRel A w pb (.slice to' t.length tc) dv P S ps g cap kv iv wr) (fun _ iv _ => ps.length - (intOf iv).toNat)
  case atStart => exact HST.out
  case round =>
    obtain ⟨k, b, t', tk, A', D', S', hk, rfl, hlay, hLI, htk, hM', hA', hC', hZ', hgA, hwg, hwr', hbl', hown, hkb⟩ := hrel
    have HLAY : Hid (layS P.tab ps 1 P.tab S = layS P.tab (ps.drop k) b t' S') := hlay
    have HLI : Hid (LI P.tab t' tk b S.bl.length ∧ tk.length ≤ k) := ⟨hLI, htk⟩
    have HM' : Hid (MQ A' D' wr pb (.slice to' t.length tc) dv P S') := hM'
    have HA' : Hid (∀ x, A' x → A x ∨ w.heap.size ≤ x) := hA'
    have HC' : Hid (Ch A w wr) := hC'
    have HZ' : Hid (Zt wr g cap t' ∧ ¬ A' g ∧ w.heap.size ≤ g) := ⟨hZ', hgA, hwg⟩
    have HWR' : Hid (S'.wr ≤ S.wr + k ∧ S'.bl.length = S.bl.length) := ⟨hwr', hbl'⟩
    have HOW : Hid (wr.ownsRow w.heap.size 3 1 u7 tk.length ((ib tk).map (Value.int .i64))) := hown
    have HKB : Hid (∀ x, u7.ownBlock = some x → ¬ A' x ∧ x ≠ g) := hkb
    have HTL : Hid (t'.length = t.length) := by show _ = _; rw [hLI.len, HTP.out]
    obtain ⟨ko, kc, hko, _, _⟩ := row_form hown
    subst hko
    have c0 := mq0 hM'
    have c1 := mq1 hM'
    have HTX : Hid (Tx A' wr (.slice lo ps.length lc) ps) := HL.out.ch hC' hA'
    clear hp0 hgd hgi hgl
    clear hlay hLI htk hA' hC' hZ' hgA hwg hwr' hbl' hown hkb HST HM2 HZ1
    by_cases hlt : k < ps.length
    · obtain ⟨lb, off, u, hlo, hlA, l0, l1, hbx⟩ := HTX.out.at hlt
      subst hlo
      have HLB : Hid (¬ A' lb ∧ lb < w.heap.size) := by
        obtain ⟨_, _, _, e, _, m0, _, _⟩ := HL.out.at hlt
        cases e
        exact ⟨hlA, cell_lt m0⟩
      clear hlA
      obtain ⟨q, hq⟩ : ∃ q : Nat, ps[k].1 = (q : Int) := ⟨ps[k].1.toNat, by have := (HOK.out.pg _ (List.getElem_mem hlt)).1; omega⟩
      obtain ⟨d, hd⟩ : ∃ d, d = ps[k].2 := ⟨_, rfl⟩
      have HQ : Hid (ps[k].1.toNat = q) := by show _ = _; rw [hq]; simp
      have HD : Hid (d = ps[k].2) := hd
      have HQL : Hid (q < t'.length) := by show _ < _; have h1 := (HOK.out.pg _ (List.getElem_mem hlt)).2; rw [hq, ← HTP.out] at h1; have h2 := HTL.out; omega
      have HDL : Hid (d.length ≤ 1024) := by rw [hd]; exact HOK.out.ln _ (List.getElem_mem hlt)
      rw [hq] at l0
      rw [← hd] at hbx
      have HU : Hid (Bv wr u d) := hbx.1
      obtain ⟨uo, uc, rfl, _, _⟩ := bv_form hbx.1
      have hlti : (k : Int) < (ps.length : Int) := by omega
      have hqi : (q : Int) < (t.length : Int) := by have h1 := HQL.out; have h2 := HTL.out; omega
      clear hq hd hbx
      by_cases hd0 : d = []
      · have HLN : Hid (layS P.tab ps 1 P.tab S = layS P.tab (ps.drop (k + 1)) b (t'.set q 0) S') := by show _ = _; rw [HLAY.out, lay_none hlt (by rw [← HD.out]; exact hd0), HQ.out]
        have hdi : (d.length : Int) = 0 := by rw [hd0]; rfl
        have hdn : ¬ (0 : Int) < (d.length : Int) := by omega
        have z0 := HZ'.out.1.cell (i := q) HQL.out
        have z1 := HZ'.out.1.soft q
        obtain ⟨y, hy⟩ : ∃ y, y = tn t' q := ⟨_, rfl⟩
        rw [← hy] at z0
        have HR : Hid (RpRel A w pb (.slice to' t.length tc) dv P S ps g cap (.slice ko tk.length kc) (.int .i64 ((k : Int) + 1)) (wr.setCell ⟨g, q, none⟩ (.int .i64 (0 : Nat)))) :=
          ⟨k + 1, b, t'.set q 0, tk, A', D', S', hlt, by simp, HLN.out, HLI.out.1.zero q, by have := HLI.out.2; omega, HM'.out.other HZ'.out.2.1 _ _, HA'.out, ch_new HC'.out HZ'.out.2.2 _ _, HZ'.out.1.set 0, HZ'.out.2.1, HZ'.out.2.2, by have := HWR'.out.1; omega, HWR'.out.2, row_keep HOW.out (fun x hx => set_other q _ (HKB.out x hx).2), HKB.out⟩
        clear hd0 hdi hy
        go_wp2_with fail
        go_roundw
        case rel => exact HR.out
        case measure => simp [intOf]; omega
      · have HD0 : Hid (ps[k].2 ≠ []) := by rw [← HD.out]; exact hd0
        have hdi : (0 : Int) < (d.length : Int) := by have := List.length_pos_iff.2 hd0; omega
        have HFR : Hid (∀ y, 2 ≤ y → y ≤ b → y ∈ t ∨ y ∈ tk) := by rw [HTP.out]; exact HLI.out.1.fr
        have HX0 : Hid (nextF t b < S.bl.length) := by
          show _ < _
          rw [HTP.out]
          have h1 := HLI.out.2
          have h2 := lok_len HOK.out
          exact free_in HLI.out.1 HPK.out.tok (by omega)
        have HTT : Hid (Tw wr (.slice to' t.length tc) t) := by rw [HTP.out]; rw [HTP.out] at HM'; exact HM'.out.tab
        obtain ⟨X, hX⟩ : ∃ X, X = nextF t b := ⟨_, rfl⟩
        have HX : Hid (nextF t b = X) := hX.symm
        rw [← hX] at HX0
        have hxi : (X : Int) < 64 := by have h1 := HX0.out; have h2 := HB64.out; omega
        clear hd0 hX
        go_wp2_with fail
        refine (rfree_walk HTT.out (own_tw HOW.out) (by have := HT1.out.2; omega) (by have h1 := HLI.out.2; have h2 := lok_len HOK.out; have h3 := HPK.out.n8; omega) (by rw [HTP.out]; exact HT64.out) HFR.out (fun y hy => (HLI.out.1.tk2 y hy).2.1) HLI.out.1.b1).mono ?_
        rw [HX.out]
        rintro e w9 ⟨rfl, h9⟩
        have h9 := h9.symm
        subst h9
        have HDS : Hid (Dsk 83 D' wr dv S') := HM'.out.dsk
        have HSB : Hid (∀ x, D' x → A' x) := HM'.out.sub
        have HNB : Hid (¬ D' pb) := HM'.out.nb
        have HLS : Hid (S'.wr < 9223372036854775807) := by show _ < _; have h1 := HWR'.out.1; have h2 := HWR.out; omega
        have j0 : ∀ wx, Ch D' wr wx → wx.cell? ⟨pb, 0, none⟩ = some dv := fun wx hx => by rw [World.cell?_of_block (w := wr) (a := ⟨pb, 0, none⟩) (hx.block pb (cell_lt c0) HNB.out)]; exact c0
        have j1 : ∀ wx, Ch D' wr wx → wx.cell? ⟨lb, off + k * 2 + 1, none⟩ = some (.slice uo d.length uc) := fun wx hx => by rw [World.cell?_of_block (w := wr) (a := ⟨lb, off + k * 2 + 1, none⟩) (hx.block lb (cell_lt l1) (fun e => HLB.out.1 (HSB.out _ e)))]; exact l1
        have hSd : Ch D' wr wr.drew := Ch.of_below (below_drewN _ _)
        by_cases hwI : writeI S' (X : Int) d = 0
        · have HWI : Hid (writeI S' (X : Int) d = 0) := hwI
          have HLN : Hid (layS P.tab ps 1 P.tab S = layS P.tab (ps.drop (k + 1)) X (t'.set q X) (writeS S' X d)) := by
            show _ = _
            rw [HLAY.out, lay_some hlt HD0.out (by rw [← HTP.out, HX.out, ← HD.out]; exact hwI), HQ.out, ← HTP.out, HX.out, ← HD.out]
          have HLX : Hid (LI P.tab (t'.set q X) (tk ++ [X]) X S.bl.length) := by
            have h1 := HLI.out.1.next HT64.out (by rw [← HTP.out, HX.out]; exact HX0.out) q
            rw [← HTP.out, HX.out, HTP.out] at h1
            exact h1.perm (fun x => by simp [or_comm])
          clear hwI
          go_wp2_with fail
          go_region_held3 (fun wx => Ch D' wr wx) (first | assumption)
            (first
              | (go_at_call 55; refine (rwrite_walk (HDS.out.below (below_drewN _ _)) X (HU.out.below (below_drewN _ _)) HLS.out).mono ?_; rintro e w3 ⟨rfl, ⟨D3, hD3, hx3⟩, hC3⟩; rw [HWI.out]; have hS3 : Ch D' wr w3 := Ch.self (by assumption) hC3))
          all_goals
            have HX3 : Hid (∀ x, D3 x → D' x ∨ wr.heap.size ≤ x) := fun x hx => by rcases hx3 x hx with e | e; exact .inl e; exact .inr (by simpa [World.drew] using e)
            have HM3 : Hid (MQ (fun x => A' x ∨ D3 x) D3 w3 pb (.slice to' t.length tc) dv P (writeS S' X d)) := HM'.out.redisk hD3 HX3.out hS3 write_len
            have HC3 : Hid (Ch A w w3) := HC'.out.trans hS3 (fun x hx => HA'.out x (HSB.out x hx))
            have HZ3 : Hid (Zt w3 g cap t') := HZ'.out.1.keep (hS3.block _ HZ'.out.1.lt (fun e => HZ'.out.2.1 (HSB.out _ e)))
            have HO3 : Hid (w3.ownsRow w.heap.size 3 1 (.slice ko tk.length kc) tk.length ((ib tk).map (Value.int .i64))) := row_keep HOW.out (fun x hx => hS3.block x (HOW.out.lt x hx).2 (fun e => (HKB.out x hx).1 (HSB.out _ e)))
            have HS3 : Hid (wr.heap.size ≤ w3.heap.size ∧ w.heap.size ≤ wr.heap.size) := ⟨hS3.size, HC'.out.size⟩
            have HL3 : Hid (w3.cell? ⟨lb, off + k * 2, none⟩ = some (.int .i64 q)) := by show _ = _; rw [World.cell?_of_block (w := wr) (a := ⟨lb, off + k * 2, none⟩) (hS3.block lb (cell_lt l0) (fun e => HLB.out.1 (HSB.out _ e)))]; exact l0
            have HN3 : Hid (∀ x, x < wr.heap.size → ¬ A' x → ¬ (A' x ∨ D3 x)) := fun x hx hn e => by
              rcases e with e | e
              · exact hn e
              · rcases HX3.out x e with q | q
                · exact hn (HSB.out _ q)
                · omega
            have HKT : Hid (tk.length ≤ 64) := by show _ ≤ _; have h1 := HLI.out.2; have h2 := lok_len HOK.out; have h3 := HPK.out.n8; omega
            clear hx3 hD3 hC3 hS3 j0 j1 hSd c0 c1 l0 l1
            go_upto_region 24 with (at_builtin; refine wpList_append_num (by rfl) _ _ 71 (by rfl) w.heap.size Try.underlying71 info_i64 _ _ _ (by rfl) (HO3.out.alloc _) w3.heap.size X (by rfl) (by simp [go_sem]) HKT.out (by have := HS3.out; simp; omega) ?_; intro v5 w5 ho5 hg5 hat5)
            obtain ⟨vo, vc, hv5, _, _⟩ := row_form ho5
            subst hv5
            have hW4 : (w3.alloc (Obj.cells #[.int .i64 X] 3)).heap.size = w3.heap.size + 1 := by simp
            have hkn : ∀ x, x < w3.heap.size → (Value.slice ko tk.length kc).ownBlock ≠ some x → w5.heap[x]? = w3.heap[x]? := fun x hx hn => by
              rw [hg5.block x (by omega) (fun e => hn e.symm), (below_alloc w3 _).block x hx]
            have hgk : (Value.slice ko tk.length kc).ownBlock ≠ some g := fun e => (HKB.out g e).2 rfl
            have HZ5 : Hid (Zt w5 g cap t') := HZ3.out.keep (hkn g HZ3.out.lt hgk)
            have HM5 : Hid (MQ (fun x => A' x ∨ D3 x) D3 w5 pb (.slice to' t.length tc) dv P (writeS S' X d)) := HM3.out.keep (fun x hx => hkn x (HM3.out.al x hx) (fun e => HN3.out x (HOW.out.lt x e).2 (HKB.out x e).1 hx)) (by have := hg5.size; omega)
            have HG3 : Hid (¬ (A' g ∨ D3 g)) := HN3.out g HZ'.out.1.lt HZ'.out.2.1
            have HC5 : Hid (Ch A w w5) := (HC3.out.self (Ch.of_below (below_alloc w3 _))).trans (Ch.of_grown (D := fun x => w.heap.size ≤ x) hg5 (fun x hx => (HO3.out.lt x hx).1)) (fun x hx => .inr hx)
            have HV5 : Hid (∀ x, (Value.slice vo (tk.length + 1) vc).ownBlock = some x → ¬ (A' x ∨ D3 x) ∧ x ≠ g) := fun x hx => by
              rcases hat5 with e | e
              · rw [e] at hx
                exact ⟨HN3.out x (HOW.out.lt x hx).2 (HKB.out x hx).1, (HKB.out x hx).2⟩
              · rw [e] at hx
                have hx2 : x = w3.heap.size + 1 := by have := (Option.some.inj hx).symm; rw [hW4] at this; exact this
                exact ⟨fun h => by have := HM3.out.al x h; omega, by have := HZ3.out.lt; omega⟩
            have HO5 : Hid (w5.ownsRow w.heap.size 3 1 (.slice vo (tk.length + 1) vc) (tk ++ [X]).length ((ib (tk ++ [X])).map (Value.int .i64))) := by
              have e1 : (ib (tk ++ [X])).map (Value.int .i64) = (ib tk).map (Value.int .i64) ++ [.int .i64 X] := by rw [ib_append, List.map_append]; rfl
              rw [e1, List.length_append]; exact ho5
            have l5 : w5.cell? ⟨lb, off + k * 2, none⟩ = some (.int .i64 q) := by rw [World.cell?_of_block (w := w3) (a := ⟨lb, off + k * 2, none⟩) (hkn lb (cell_lt HL3.out) (fun e => by have h1 := (HO3.out.lt _ e).1; have h2 := HLB.out.2; omega))]; exact HL3.out
            have z0 := HZ5.out.cell (i := q) HQL.out
            have z1 := HZ5.out.soft q
            obtain ⟨y, hy⟩ : ∃ y, y = tn t' q := ⟨_, rfl⟩
            rw [← hy] at z0
            have HR : Hid (RpRel A w pb (.slice to' t.length tc) dv P S ps g cap (.slice vo (tk.length + 1) vc) (.int .i64 ((k : Int) + 1)) (w5.setCell ⟨g, q, none⟩ (.int .i64 X))) := by
              refine ⟨k + 1, X, t'.set q X, tk ++ [X], _, D3, _, hlt, by simp, HLN.out, HLX.out, by rw [List.length_append]; have := HLI.out.2; simp; omega, HM5.out.other HG3.out _ _, fun x hx => ?_, ch_new HC5.out HZ'.out.2.2 _ _, HZ5.out.set X, HG3.out, HZ'.out.2.2, ?_, by rw [write_len]; exact HWR'.out.2, row_keep HO5.out (fun x hx => set_other q _ (HV5.out x hx).2), HV5.out⟩
              · rcases hx with e | e
                · exact HA'.out x e
                · rcases HX3.out x e with e2 | e2
                  · exact HA'.out x (HSB.out x e2)
                  · exact .inr (by have := HS3.out.2; omega)
              · have h1 := write_wr (S := S') (i := (X : Int)) (b := d); have h2 := HWR'.out.1; omega
            clear hy hkn hgk hW4 ho5 hg5 hat5
            go_wp2_with fail
            go_roundw
            case rel => exact HR.out
            case measure => simp [intOf]; omega
        · have HWI : Hid (writeI S' (X : Int) d = 80) := w80 (by rw [HWR'.out.2]; exact HX0.out) HDL.out hwI
          have HLN : Hid (layS P.tab ps 1 P.tab S = (none, writeS S' X d)) := by
            show _ = _
            rw [HLAY.out, lay_fail hlt HD0.out (by rw [← HTP.out, HX.out, ← HD.out]; exact hwI), ← HTP.out, HX.out, ← HD.out]
          have HRO : Hid (putO P S ps = (80, endB P, writeS S' X d)) := put_lay HSH.out HFA.out HPE.out HG.out HLN.out
          clear hwI
          go_wp2_with fail
          go_region_held3 (fun wx => Ch D' wr wx) (first | assumption)
            (first
              | (go_at_call 55; refine (rwrite_walk (HDS.out.below (below_drewN _ _)) X (HU.out.below (below_drewN _ _)) HLS.out).mono ?_; rintro e w3 ⟨rfl, ⟨D3, hD3, hx3⟩, hC3⟩; rw [HWI.out]; have hS3 : Ch D' wr w3 := Ch.self (by assumption) hC3))
          all_goals
            have HX3 : Hid (∀ x, D3 x → D' x ∨ wr.heap.size ≤ x) := fun x hx => by rcases hx3 x hx with e | e; exact .inl e; exact .inr (by simpa [World.drew] using e)
            have HM3 : Hid (MQ (fun x => A' x ∨ D3 x) D3 w3 pb (.slice to' t.length tc) dv P (writeS S' X d)) := HM'.out.redisk hD3 HX3.out hS3 write_len
            have HC3 : Hid (Ch A w w3) := HC'.out.trans hS3 (fun x hx => HA'.out x (HSB.out x hx))
            have HS3 : Hid (w.heap.size ≤ wr.heap.size) := HC'.out.size
            have HPA : Hid (A pb) := HM.out.ab
            have c4 := mq4 HM3.out
            have f4 := HM3.out.soft 4
            clear hx3 hD3 hC3 hS3 j0 j1 hSd c0 c1 l0 l1
            go_wp2_with fail
            (try simp only [Exit.inBlock, Exit.then])
            go_ret
            refine pt_mk HRO.out (mq_end HM3.out) (fun x hx => ?_) (HC3.out.self (Ch.of_grown (grown_set _ pb 4 _) (fun x hx => by cases hx; exact HPA.out)))
            rcases hx with e | e
            · exact HA'.out x e
            · rcases HX3.out x e with e2 | e2
              · exact HA'.out x (HSB.out x e2)
              · exact .inr (by have := HS3.out; omega)
    · have HLY : Hid (layS P.tab ps 1 P.tab S = (some t', S')) := by show _ = _; rw [HLAY.out]; exact lay_end (by omega)
      have HTOK : Hid (Tok t' S.bl.length ∧ t'.length = P.tab.length) := lay_ok HPK.out HB64.out HOK.out HLY.out
      have HDS : Hid (Dsk 83 D' wr dv S') := HM'.out.dsk
      have HSB : Hid (∀ x, D' x → A' x) := HM'.out.sub
      have HNB : Hid (¬ D' pb) := HM'.out.nb
      have HLS : Hid (S'.wr < 9223372036854775807) := by show _ < _; have h1 := HWR'.out.1; have h2 := HWR.out; omega
      have HTW' : Hid (Tw wr (.slice (some ⟨g, 0, none⟩) t.length cap) t') := by have := HZ'.out.1.tw; rw [HTL.out] at this; exact this
      have HT8 : Hid (t'.length ≤ 8) := by show _ ≤ _; have h1 := HTL.out; have h2 := HT1.out.2; omega
      have HTT : Hid (∀ x ∈ t', x < 64) := fun x hx => by have h1 := tok_lt HTOK.out.1 x hx; have h2 := HB64.out; omega
      have HRL : Hid ((rootB (P.gen + 1) t').length ≤ 1024) := Nat.le_trans (root_short HT8.out) (by omega)
      have HRB : Hid (∀ c ∈ rootB (P.gen + 1) t', c < 256) := root_bytes HT8.out (by have := HGL.out; omega) HTT.out
      have c2 := mq2 HM'.out
      have c3 := mq3 HM'.out
      have HH2 : Hid (P.home ≤ 1) := HPK.out.h2
      obtain ⟨gi, hgi⟩ : ∃ gi : Int, gi = (P.gen : Int) := ⟨_, rfl⟩
      obtain ⟨hi, hhi⟩ : ∃ hi : Int, hi = (P.home : Int) := ⟨_, rfl⟩
      rw [← hgi] at c2
      rw [← hhi] at c3
      have HG1 : Hid (gi + 1 = ((P.gen + 1 : Nat) : Int)) := by show _ = _; omega
      have HH1 : Hid (1 - hi = ((1 - P.home : Nat) : Int)) := by show _ = _; have := HH2.out; omega
      have r1 : IntKind.i64.wrap (gi + 1) = gi + 1 := wrapU (by omega) (by have := HGL.out; omega)
      have r2 : IntKind.i64.wrap (1 - hi) = 1 - hi := wrapU (by have := HH2.out; omega) (by have := HH2.out; omega)
      have j0 : ∀ wx, Ch D' wr wx → wx.cell? ⟨pb, 0, none⟩ = some dv := fun wx hx => by rw [World.cell?_of_block (w := wr) (a := ⟨pb, 0, none⟩) (hx.block pb (cell_lt c0) HNB.out)]; exact c0
      have j2 : ∀ wx, Ch D' wr wx → wx.cell? ⟨pb, 2, none⟩ = some (.int .i64 gi) := fun wx hx => by rw [World.cell?_of_block (w := wr) (a := ⟨pb, 2, none⟩) (hx.block pb (cell_lt c0) HNB.out)]; exact c2
      have j3 : ∀ wx, Ch D' wr wx → wx.cell? ⟨pb, 3, none⟩ = some (.int .i64 hi) := fun wx hx => by rw [World.cell?_of_block (w := wr) (a := ⟨pb, 3, none⟩) (hx.block pb (cell_lt c0) HNB.out)]; exact c3
      have hSd : Ch D' wr wr.drew := Ch.of_below (below_drewN _ _)
      have hki : ¬ (k : Int) < (ps.length : Int) := by omega
      have HGH : Hid (gi = (P.gen : Int) ∧ hi = (P.home : Int)) := ⟨hgi, hhi⟩
      clear hgi hhi
      by_cases hwI : writeI S' ((1 - P.home : Nat) : Int) (rootB (P.gen + 1) t') = 0
      · have HWI : Hid (writeI S' ((1 - P.home : Nat) : Int) (rootB (P.gen + 1) t') = 0) := hwI
        have HRO : Hid (putO P S ps = (0, ⟨P.gen + 1, t', 1 - P.home, P.over⟩, writeS S' ((1 - P.home : Nat) : Int) (rootB (P.gen + 1) t'))) := put_ok HSH.out HFA.out HPE.out HG.out HLY.out hwI
        clear hwI
        go_wp2_with fail
        go_region_held3 (fun wx => Ch D' wr wx) (first | assumption)
          (first
            | (go_at_call 56; rw [HG1.out]; refine (rroot_walk (HTW'.out.below (below_drewN _ _)) HT8.out HTT.out (by have := HGL.out; omega)).mono ?_; rintro e w4 ⟨rv, rfl, hrv, hB4⟩; have hS4 : Ch D' wr w4 := Ch.self (by assumption) (Ch.of_below hB4); have hb4 : Below wr.heap.size wr w4 := below_trans (below_drewN wr 1) hB4)
            | (go_at_call 55; rw [HH1.out]; refine (rwrite_walk (HDS.out.below hb4) _ (own_bv hrv HRB.out) HLS.out).mono ?_; rintro e w5 ⟨rfl, ⟨D5, hD5, hx5⟩, hC5⟩; rw [HWI.out]; have hS5 : Ch D' wr w5 := Ch.self (by assumption) hC5))
        all_goals
          have HX5 : Hid (∀ x, D5 x → D' x ∨ wr.heap.size ≤ x) := fun x hx => by rcases hx5 x hx with e | e; exact .inl e; exact .inr (Nat.le_trans hb4.size e)
          have HM5 : Hid (MQ (fun x => A' x ∨ D5 x) D5 w5 pb (.slice to' t.length tc) dv P (writeS S' ((1 - P.home : Nat) : Int) (rootB (P.gen + 1) t'))) := HM'.out.redisk hD5 HX5.out hS5 write_len
          have HC5 : Hid (Ch A w w5) := HC'.out.trans hS5 (fun x hx => HA'.out x (HSB.out x hx))
          have HZ5 : Hid (Zt w5 g cap t') := HZ'.out.1.keep (hS5.block _ HZ'.out.1.lt (fun e => HZ'.out.2.1 (HSB.out _ e)))
          have HG5 : Hid (¬ (A' g ∨ D5 g)) := fun e => by
            rcases e with e | e
            · exact HZ'.out.2.1 e
            · rcases HX5.out g e with q | q
              · exact HZ'.out.2.1 (HSB.out _ q)
              · have := HZ'.out.1.lt; omega
          have HS5 : Hid (w.heap.size ≤ wr.heap.size) := HC'.out.size
          have HPA : Hid (A pb) := HM.out.ab
          have HM6 : Hid (MQ (fun x => (A' x ∨ D5 x) ∨ x = g) D5 (((w5.setCell ⟨pb, 1, none⟩ (.slice (some ⟨g, 0, none⟩) t.length cap)).setCell ⟨pb, 2, none⟩ (.int .i64 (gi + 1))).setCell ⟨pb, 3, none⟩ (.int .i64 (1 - hi))) pb (.slice (some ⟨g, 0, none⟩) t.length cap) dv ⟨P.gen + 1, t', 1 - P.home, P.over⟩ (writeS S' ((1 - P.home : Nat) : Int) (rootB (P.gen + 1) t'))) := by
            have h1 := mq_root (gen' := P.gen + 1) (home' := 1 - P.home) HM5.out HZ5.out HG5.out (by rw [write_len, HWR'.out.2]; exact ⟨by show 1 ≤ P.gen + 1; omega, by have := HGL.out; show P.gen + 1 ≤ _; omega, HT8.out, HTOK.out.1, by show 1 - P.home ≤ 1; omega⟩)
            rw [HTL.out] at h1
            rw [HG1.out, HH1.out]
            exact h1
          have d1 := mq1 HM5.out
          have d2 := mq2 HM5.out
          have d3 := mq3 HM5.out
          rw [← HGH.out.1] at d2
          rw [← HGH.out.2] at d3
          have f1 := HM5.out.soft 1
          have f2 := HM5.out.soft 2
          have f3 := HM5.out.soft 3
          clear hS5 hC5 hD5 hx5 hrv hB4 hb4 hS4 j0 j2 j3 hSd c0 c1 c2 c3
          go_wp2_with fail
          go_ret
          refine pt_mk HRO.out HM6.out (fun x hx => ?_) (((HC5.out.self (Ch.of_grown (grown_set _ pb 1 _) (fun x hx => by cases hx; exact HPA.out))).self (Ch.of_grown (grown_set _ pb 2 _) (fun x hx => by cases hx; exact HPA.out))).self (Ch.of_grown (grown_set _ pb 3 _) (fun x hx => by cases hx; exact HPA.out)))
          rcases hx with (e | e) | e
          · exact HA'.out x e
          · rcases HX5.out x e with e2 | e2
            · exact HA'.out x (HSB.out x e2)
            · exact .inr (by have := HS5.out; omega)
          · subst e; exact .inr HZ'.out.2.2
      · have HWI : Hid (writeI S' ((1 - P.home : Nat) : Int) (rootB (P.gen + 1) t') = 80) := w80 (by rw [HWR'.out.2]; have := HPK.out.tok.2.1; omega) HRL.out hwI
        have HRO : Hid (putO P S ps = (80, endB P, writeS S' ((1 - P.home : Nat) : Int) (rootB (P.gen + 1) t'))) := put_cut HSH.out HFA.out HPE.out HG.out HLY.out hwI
        clear hwI
        go_wp2_with fail
        go_region_held3 (fun wx => Ch D' wr wx) (first | assumption)
          (first
            | (go_at_call 56; rw [HG1.out]; refine (rroot_walk (HTW'.out.below (below_drewN _ _)) HT8.out HTT.out (by have := HGL.out; omega)).mono ?_; rintro e w4 ⟨rv, rfl, hrv, hB4⟩; have hS4 : Ch D' wr w4 := Ch.self (by assumption) (Ch.of_below hB4); have hb4 : Below wr.heap.size wr w4 := below_trans (below_drewN wr 1) hB4)
            | (go_at_call 55; rw [HH1.out]; refine (rwrite_walk (HDS.out.below hb4) _ (own_bv hrv HRB.out) HLS.out).mono ?_; rintro e w5 ⟨rfl, ⟨D5, hD5, hx5⟩, hC5⟩; rw [HWI.out]; have hS5 : Ch D' wr w5 := Ch.self (by assumption) hC5))
        all_goals
          have HX5 : Hid (∀ x, D5 x → D' x ∨ wr.heap.size ≤ x) := fun x hx => by rcases hx5 x hx with e | e; exact .inl e; exact .inr (Nat.le_trans hb4.size e)
          have HM5 : Hid (MQ (fun x => A' x ∨ D5 x) D5 w5 pb (.slice to' t.length tc) dv P (writeS S' ((1 - P.home : Nat) : Int) (rootB (P.gen + 1) t'))) := HM'.out.redisk hD5 HX5.out hS5 write_len
          have HC5 : Hid (Ch A w w5) := HC'.out.trans hS5 (fun x hx => HA'.out x (HSB.out x hx))
          have HS5 : Hid (w.heap.size ≤ wr.heap.size) := HC'.out.size
          have HPA : Hid (A pb) := HM.out.ab
          have c4 := mq4 HM5.out
          have f4 := HM5.out.soft 4
          clear hS5 hC5 hD5 hx5 hrv hB4 hb4 hS4 j0 j2 j3 hSd c0 c1 c2 c3
          go_wp2_with fail
          go_ret
          refine pt_mk HRO.out (mq_end HM5.out) (fun x hx => ?_) (HC5.out.self (Ch.of_grown (grown_set _ pb 4 _) (fun x hx => by cases hx; exact HPA.out)))
          rcases hx with e | e
          · exact HA'.out x e
          · rcases HX5.out x e with e2 | e2
            · exact HA'.out x (HSB.out x e2)
            · exact .inr (by have := HS5.out; omega)
theorem rput_walk9 (h : BQ A w v dv P S) (hl : Tx A w lv ps) (hwr : S.wr < 4611686018427387904) :
    Calls Try.prog 17 #[v, lv] w fun e w' => Pt hdR 87 83 A w v dv P S ps e w' := by
  obtain ⟨D, pb, tv, rfl, h⟩ := h
  by_cases hs : shutB P S = true ∨ faultI P.tab.length ps ≠ 0 ∨ ps = [] ∨ P.gen = 1099511627776
  · exact rput_small h hl hs
  · have h1 : shutB P S = false := by cases e : shutB P S; rfl; exact absurd (.inl e) hs
    have h2 : faultI P.tab.length ps = 0 := Classical.not_not.1 (fun e => hs (.inr (.inl e)))
    have h3 : ps ≠ [] := fun e => hs (.inr (.inr (.inl e)))
    have h4 : P.gen ≠ 1099511627776 := fun e => hs (.inr (.inr (.inr e)))
    exact rput_lays h hl h1 h2 h3 h4 hwr
end
end Go.Proofs.Ytakijnclllmkfaa
