/- The reference's book: Get, Root, Right. -/
import Derived.Test.YtakijnclllmkfaaSa
namespace Go.Proofs.Ytakijnclllmkfaa
open Go.RowKit

section
variable {A D : Nat → Prop} {w w' : World} {v dv tv lv : Value} {P P' : Bo} {S S' : Dk} {pb : Nat} {ps : List (Int × List Nat)}
theorem rget_nil (p : Int) : Calls Try.prog 19 #[.pointer none, .int .i64 p] w fun e w' => e = .returned (.tuple #[.slice none 0 0, .int .i64 2]) ∧ w' = w := by
  go_enter Try.func19, Try.ntmps19
  go_wp2_with fail
  go_ret2
  exact ⟨rfl, rfl⟩

set_option maxRecDepth 100000 in
set_option maxHeartbeats 1000000 in
theorem rget_walk (h : BQ A w v dv P S) (p : Int) (hrd : S.rd < 9223372036854775807) : Calls Try.prog 19 #[v, .int .i64 p] w fun e w' => Gt hdR 87 83 A w v dv P S p e w' := by
  obtain ⟨D, pb, tv, rfl, h⟩ := h
  have HM : Hid (MQ A D w pb tv dv P S) := h
  have HRD : Hid (S.rd < 9223372036854775807) := hrd
  cases hs : shutB P S
  · have HS : Hid (shutB P S = false) := hs
    have c0 := mq0 h
    have c1 := mq1 h
    obtain ⟨t, ht⟩ : ∃ t, t = P.tab := ⟨_, rfl⟩
    have hT := h.tab
    have h8 := h.ok.n8
    rw [← ht] at hT h8
    obtain ⟨ao, cap, rfl, hc1, hc2⟩ := hT.form
    have hti : (t.length : Int) ≤ 8 := by omega
    cases hp : hasB P.tab.length p
    · have HP : Hid (hasB P.tab.length p = false) := hp
      have hpo : p < 0 ∨ (t.length : Int) ≤ p := by
        rw [← ht] at hp
        have := of_decide_eq_false hp
        omega
      clear h hs hp hrd ht hT h8 hc1 hc2
      rcases hpo with hpo | hpo
      · go_enter Try.func19, Try.ntmps19
        go_wp2_with fail
        refine (rbdown_ok HM.out HS.out).mono ?_
        rintro e w9 ⟨rfl, h9⟩
        have h9 := h9.symm
        subst h9
        go_wp2_with fail
        go_ret2
        exact gt_page HS.out HP.out HM.out (Ch.refl _ _)
      · have hp0 : (0 : Int) ≤ p := by omega
        have hpd : decide (p < (0 : Int)) = false := decide_eq_false (by omega)
        go_enter Try.func19, Try.ntmps19
        go_wp2_with fail
        refine (rbdown_ok HM.out HS.out).mono ?_
        rintro e w9 ⟨rfl, h9⟩
        have h9 := h9.symm
        subst h9
        go_wp2_with fail
        go_ret2
        exact gt_page HS.out HP.out HM.out (Ch.refl _ _)
    · have HP : Hid (hasB P.tab.length p = true) := hp
      obtain ⟨hp0, hp1⟩ := has_of hp
      rw [← ht] at hp1
      obtain ⟨n, rfl⟩ : ∃ n : Nat, p = n := ⟨p.toNat, by omega⟩
      obtain ⟨b, off, rfl, hc⟩ := hT.at (i := n) (by omega)
      have HTP : Hid (t = P.tab) := ht
      obtain ⟨y, hy⟩ : ∃ y, y = tn t n := ⟨_, rfl⟩
      rw [← hy] at hc
      have HY : Hid (y = tn t n) := hy
      have hni : (n : Int) < (t.length : Int) := by omega
      have hnd : decide ((t.length : Int) ≤ (n : Int)) = false := decide_eq_false (by omega)
      have HND : Hid (¬ D pb ∧ ¬ D b) := ⟨h.nb, (h.at' b (by simp [Value.ownBlock])).2.1⟩
      have HD : Hid (Dsk 83 D w dv S) := h.dsk
      clear h hs hp hp0 hc1 hc2 ht hy hrd h8 hT
      by_cases hy0 : y = 0
      · have HY0 : Hid (y = 0) := hy0
        have hyb : ((y : Int) == 0) = true := by simp [hy0]
        clear hy0
        go_enter Try.func19, Try.ntmps19
        go_wp2_with fail
        refine (rbdown_ok HM.out HS.out).mono ?_
        rintro e w9 ⟨rfl, h9⟩
        have h9 := h9.symm
        subst h9
        go_wp2_with fail
        go_ret2
        exact gt_none HS.out HP.out (by rw [← HTP.out, Int.toNat_natCast, ← HY.out]; exact HY0.out) HM.out (Ch.refl _ _)
      · have HY0 : Hid (y ≠ 0) := hy0
        have hyb : ((y : Int) == 0) = false := by simp; omega
        have j0 : ∀ wx, Ch D w wx → wx.cell? ⟨pb, 0, none⟩ = some dv := fun wx hx => by rw [World.cell?_of_block (w := w) (a := ⟨pb, 0, none⟩) (hx.block pb (cell_lt c0) HND.out.1)]; exact c0
        have j1 : ∀ wx, Ch D w wx → wx.cell? ⟨pb, 1, none⟩ = some (.slice (some ⟨b, off, none⟩) t.length cap) := fun wx hx => by rw [World.cell?_of_block (w := w) (a := ⟨pb, 1, none⟩) (hx.block pb (cell_lt c1) HND.out.1)]; exact c1
        have j2 : ∀ wx, Ch D w wx → wx.cell? ⟨b, off + n, none⟩ = some (.int .i64 y) := fun wx hx => by rw [World.cell?_of_block (w := w) (a := ⟨b, off + n, none⟩) (hx.block b (cell_lt hc) HND.out.2)]; exact hc
        have hSd : Ch D w w.drew := Ch.of_below (below_drewN _ _)
        clear hy0
        go_enter Try.func19, Try.ntmps19
        go_wp2_with fail
        refine (rbdown_ok HM.out HS.out).mono ?_
        rintro e w9 ⟨rfl, h9⟩
        have h9 := h9.symm
        subst h9
        go_wp2_with fail
        go_region_held3 (fun wx => Ch D w wx) (first | assumption)
          (first
            | (go_at_call 65; refine (rread_walk (HD.out.below (below_drewN _ _)) y HRD.out).mono ?_; rintro e w3 ⟨r, rfl, ho, hD3, hC3⟩; have hS3 : Ch D w w3 := Ch.self (by assumption) hC3))
        all_goals go_wp2_with fail
        all_goals go_ret2
        all_goals exact gt_read HS.out HP.out (by rw [← HTP.out, Int.toNat_natCast]; exact HY.out) HY0.out HM.out (below_same _) ho hD3 hS3
  · have HS : Hid (shutB P S = true) := hs
    clear h hs hrd
    go_enter Try.func19, Try.ntmps19
    go_wp2_with fail
    refine (rbdown_shut HM.out HS.out).mono ?_
    rintro e w1 ⟨rfl, hM1, hC1⟩
    go_wp2_with fail
    go_ret2
    exact gt_shut HS.out hM1 hC1
end

set_option maxRecDepth 100000 in
set_option maxHeartbeats 1000000 in
theorem rroot_walk {w : World} {v : Value} {t : List Nat} {g : Nat} (h : Tw w v t) (h8 : t.length ≤ 8) (ht : ∀ x ∈ t, x < 64) (hg : g < 9223372036854775808) :
    Calls Try.prog 56 #[.int .i64 g, v] w fun e w' => Rb w g t e w' := by
  have HT : Hid (Tw w v t) := h
  have HN : Hid (10 + 10 * (ib t).length ≤ 140737488355328) := by show _ ≤ _; rw [ib_len]; omega
  have HTL : Hid (∀ x ∈ ib t, x < 9223372036854775808) := ib_lt ht
  have HTB : Hid (∀ x ∈ t, x < 64) := ht
  have HG : Hid (g < 18446744073709551616) := by show _ < _; omega
  have HRS : Hid ((rootB g t).length ≤ 100) := root_short h8
  have H8 : Hid (t.length ≤ 8) := h8
  have hgi : (g : Int) < 9223372036854775808 := by omega
  have hgw : IntKind.u64.wrap (g : Int) = (g : Int) := by rw [IntKind.wrap_u64]; omega
  clear h ht hg h8
  go_enter Try.func56, Try.ntmps56
  go_wp2_with fail
  refine (rnums_walk HT.out HN.out HTL.out).mono ?_
  rintro e w1 ⟨v1, rfl, ho1, hB1⟩
  rw [nums_tab] at ho1 ⊢
  have HB1 : Hid (Below w.heap.size w w1) := hB1
  have HV1 : Hid (Bv w1 v1 (Wm.enc t.length ++ Wm.encAll t)) := own_bv ho1 (fun c hc => by
    rcases List.mem_append.1 hc with hc | hc
    · exact Wm.enc_lt _ (by have := H8.out; omega) c hc
    · exact encAll_ltP t (fun x hx => by have := HTB.out x hx; omega) c hc)
  clear ho1 hB1
  go_wp2_with fail
  refine (rput_walk g HG.out _).mono ?_
  rintro e w2 ⟨v2, rfl, ho2, hB2⟩
  have HO2 : Hid (w2.ownsRow w1.heap.size 5 1 v2 (Wm.enc g).length ((ib (Wm.enc g)).map (Value.int .u8))) := ho2
  have HB2 : Hid (Below w1.heap.size w1 w2) := hB2
  have HLN : Hid ((Wm.enc g).length + (Wm.enc t.length ++ Wm.encAll t).length = (rootB g t).length) := by show _ = _; unfold rootB; simp
  obtain ⟨L, hL⟩ : ∃ L, L = Wm.enc t.length ++ Wm.encAll t := ⟨_, rfl⟩
  have HLB : Hid (Wm.enc g ++ L = rootB g t) := by show _ = _; rw [hL]; unfold rootB; simp
  rw [← hL] at HV1 HLN
  have HL0 : Hid (L.length ≤ 100 ∧ (Wm.enc g).length ≤ 100) := by have h1 := HLN.out; have h2 := HRS.out; exact ⟨by omega, by omega⟩
  have HV2 : Hid (Sv .u8 w2 v1 (ib L)) := (HV1.out.below HB2.out).1
  obtain ⟨a1, k1, e1, _⟩ := bv_form HV1.out
  obtain ⟨a2, k2, e2, _⟩ := row_form ho2
  subst e1
  subst e2
  clear hL ho2 hB2
  go_wp2_with (at_builtin; refine wpList_append_sv (by rfl) _ _ 43 (by rfl) w1.heap.size 5 .u8 1 Try.underlying43 info_u8 _ _ _ (by rfl) HO2.out _ (ib L) (by rfl) HV2.out (by have := HL0.out; simp only [maxLen, ib_len]; omega) (by have := HL0.out; rw [ib_len]; omega) (by have := HB2.out.size; omega) ?_; intro v3 w3 ho3 hg3)
  have HO3 : Hid (w3.ownsRow w.heap.size 5 1 v3 (rootB g t).length (cb (rootB g t))) := by
    have h1 : w3.ownsRow w.heap.size 5 1 v3 _ _ := own_base ho3 HB1.out.size
    rw [← List.map_append, ← ib_append, HLB.out, ib_len, HLN.out] at h1
    exact h1
  have HB3 : Hid (Below w.heap.size w w3) := (below_trans HB1.out HB2.out).grown hg3 (by have h1 := HB1.out.size; have h2 := HB2.out.size; omega) (fun x hx => by have h1 := HB1.out.size; have h2 := (HO2.out.lt x hx).1; omega)
  clear ho3 hg3
  go_wp2_with fail
  go_ret
  exact ⟨_, rfl, HO3.out, HB3.out⟩

/-- What Right answers. -/
def Rk (w : World) (b : List Nat) (B : Nat) (e : Ending) (w' : World) : Prop :=
  (rootOf b B = none → e = .returned (.tuple #[.int .i64 0, .slice none 0 0])) ∧ (∀ g t, rootOf b B = some (g, t) → ∃ ao cap, e = .returned (.tuple #[.int .i64 g, .slice ao t.length cap]) ∧ Tw w' (.slice ao t.length cap) t ∧ ∀ x, (Value.slice ao t.length cap).ownBlock = some x → w.heap.size ≤ x) ∧ Below w.heap.size w w'
theorem rk_no {w w' : World} {b : List Nat} {B : Nat} (h : rootOf b B = none) (hB : Below w.heap.size w w') : Rk w b B (.returned (.tuple #[.int .i64 0, .slice none 0 0])) w' :=
  ⟨fun _ => rfl, (fun g t e => by rw [h] at e; cases e), hB⟩
theorem rk_yes {w w' : World} {b t : List Nat} {B g : Nat} {ao : Option Addr} {cap : Nat} (h : rootOf b B = some (g, t)) (hT : Tw w' (.slice ao t.length cap) t) (hn : ∀ x, (Value.slice ao t.length cap).ownBlock = some x → w.heap.size ≤ x) (hB : Below w.heap.size w w') :
    Rk w b B (.returned (.tuple #[.int .i64 g, .slice ao t.length cap])) w' :=
  ⟨(fun e => by rw [h] at e; cases e), (fun g' t' e => by rw [h] at e; cases e; exact ⟨ao, cap, rfl, hT, hn⟩), hB⟩
theorem mem_take {t : List Nat} {i x : Nat} (hi : i ≤ t.length) : x ∈ t.take i ↔ ∃ k, k < i ∧ tn t k = x := by
  rw [mem_tn, List.length_take]
  constructor
  · rintro ⟨k, h1, e⟩
    exact ⟨k, by omega, by rw [← e, tn_at (by omega), tn_at (by rw [List.length_take]; omega), List.getElem_take]⟩
  · rintro ⟨k, h1, e⟩
    exact ⟨k, by omega, by rw [← e, tn_at (by rw [List.length_take]; omega), tn_at (by omega), List.getElem_take]⟩
end Go.Proofs.Ytakijnclllmkfaa
