/- Forward, the statements' ints; ends that fit. -/
import Derived.Test.YtopjedgknbbgkaaGreatM14
import Derived.Deep.RegionLaw
import Derived.Deep.DeepCutAuto
namespace Go.Proofs.YtopjedgknbbgkaaGreat

open Ieee Go.RowKit

attribute [local go_sem] run_store_float


section

variable {D : Nat → Prop} {w : World} {v : Value} {S : Sc}



/-- What Produce leaves. -/
def Pr6 (D : Nat → Prop) (w : World) (v : Value) (S : Sc) (p : Int) (r : Rcd) (e : Ending) (w' : World) : Prop :=
  e = .returned (.int .i64 (prodS S p r).1) ∧ (∃ D', Src D' w' v (prodS S p r).2 ∧ Ch D w w' ∧ ∀ b, D' b → D b ∨ w.heap.size ≤ b) ∧ ((prodS S p r).1 ≠ 0 → Below w.heap.size w w')


theorem pr6_same {p : Int} {r : Rcd} {w' : World} {c : Int} (h : Src D w v S) (hp : prodS S p r = (c, S)) (hb : Below w.heap.size w w') : Pr6 D w v S p r (.returned (.int .i64 c)) w' := by
  unfold Pr6
  rw [hp]
  exact ⟨rfl, ⟨D, h.below hb, Ch.of_below hb, fun b hb => .inl hb⟩, fun _ => hb⟩


theorem pr6_add {q : Nat} {r : Rcd} {w1 w2 : World} {v' : Value} {sb gp gm : Nat} {lv : Value} {rv : Nat → Value} {ks : List Nat} (hq : q < S.np) (hl : ¬ 256 ≤ (S.logs q).length) (hr : r.ok) (hok : S.ok) (hv : v = .pointer (some ⟨sb, 0, none⟩))
    (hk : ((runS S.list r).1 = 1 ∧ ks = insK (runS S.list r).2.k S.keys ∧ ((runS S.list r).2.k ∈ S.keys ∨ S.keys.length < 64)) ∨ ((runS S.list r).1 ≠ 1 ∧ ks = S.keys))
    (hc : Ch D w w1) (hs : SM D w1 sb gp gm lv rv { S with keys := ks }) (ho : w2.ownsRow 0 53 2 v' ((S.logs q).length + 1) (flatR (S.logs q ++ [r]))) (hg : w1.grownBy w2 (rv q).ownBlock) (hat : v'.ownBlock = (rv q).ownBlock ∨ v'.ownBlock = some w1.heap.size) :
    Pr6 D w v S q r (.returned (.int .i64 0)) (w2.setCell ⟨gp, q * 2, none⟩ v') := by
  have hh : hasS S q := ⟨by omega, by omega⟩
  have hp : prodS S q r = (0, addS S q r ks) := by
    unfold prodS
    rw [if_pos hh, if_neg (by simpa using hl)]
    rcases hk with ⟨h1, rfl, h2⟩ | ⟨h1, rfl⟩
    · rw [if_pos h1, if_pos h2]; rfl
    · rw [if_neg h1]; rfl
  have hm := hs.addR hq hg ho hat
  unfold Pr6
  rw [hp]
  refine ⟨rfl, ⟨_, ⟨sb, gp, gm, lv, _, hv, hm, ok_add hok hq hl hr hk⟩, ?_, ?_⟩, fun h => absurd rfl h⟩
  · have h1 : Ch (fun x => D x) w1 w2 := Ch.of_grown hg (fun x hx => hs.d2 q x hq hx)
    have h2 : Ch (fun x => D x) w2 (w2.setCell ⟨gp, q * 2, none⟩ v') := Ch.of_grown (grown_set w2 gp _ _) (fun x hx => by cases hx; exact hs.d1.2.1)
    exact (hc.trans h1 (fun x hx => .inl hx)).trans h2 (fun x hx => .inl hx)
  · rintro b (hb | hb)
    · exact .inl hb
    · rcases hat with e | e
      · rw [e] at hb; exact .inl (hs.d2 q b hq hb)
      · rw [hb] at e; simp at e; have := hc.size; right; omega


theorem below_alloc_drew1 (w : World) (o : Obj) : Below w.heap.size w (w.alloc o).drew := (below_alloc w o).drew
theorem after_app {w w7 : World} {o : Obj} {x : Option Nat} {g i : Nat} {u : Value} (h : (w.alloc o).drew.grownBy w7 x) (hl : g < w.heap.size) (hx : x ≠ some g) (hc : w.cell? ⟨g, i, none⟩ = some u) : w7.cell? ⟨g, i, none⟩ = some u := by
  have hb : w7.heap[g]? = w.heap[g]? := by
    rw [h.block g (Nat.lt_of_lt_of_le hl (below_alloc_drew1 w o).size) (fun e => hx e.symm)]
    exact (below_alloc_drew1 w o).block g hl
  rw [World.cell?_of_block (w := w) (a := ⟨g, i, none⟩) hb]; exact hc
theorem after_app' {w w7 : World} {o : Obj} {x : Option Nat} {g i : Nat} (h : (w.alloc o).drew.grownBy w7 x) (hl : g < w.heap.size) (hx : x ≠ some g) (hc : w.frozen? ⟨g, i, none⟩ = false) : w7.frozen? ⟨g, i, none⟩ = false := by
  have hb : w7.heap[g]? = w.heap[g]? := by
    rw [h.block g (Nat.lt_of_lt_of_le hl (below_alloc_drew1 w o).size) (fun e => hx e.symm)]
    exact (below_alloc_drew1 w o).block g hl
  rw [World.frozen?_of_block (w := w) (a := ⟨g, i, none⟩) hb]; exact hc
def KsOk (S : Sc) (r : Rcd) (ks : List Nat) : Prop := ((runS S.list r).1 = 1 ∧ ks = insK (runS S.list r).2.k S.keys ∧ ((runS S.list r).2.k ∈ S.keys ∨ S.keys.length < 64)) ∨ ((runS S.list r).1 ≠ 1 ∧ ks = S.keys)
theorem pr6_app {q : Nat} {r : Rcd} {w1 w2 : World} {v' : Value} {sb gp gm : Nat} {lv : Value} {rv : Nat → Value} {ks : List Nat} {o : Obj} (hq : q < S.np) (hl : ¬ 256 ≤ (S.logs q).length) (hr : r.ok) (hok : S.ok) (hv : v = .pointer (some ⟨sb, 0, none⟩))
    (hk : KsOk S r ks)
    (hc : Ch D w w1) (hs : SM D w1 sb gp gm lv rv { S with keys := ks }) (ho : w2.ownsRow 0 53 2 v' ((S.logs q).length + 1) (flatR (S.logs q ++ [r]))) (hg : (w1.alloc o).drew.grownBy w2 (rv q).ownBlock) (hat : v'.ownBlock = (rv q).ownBlock ∨ v'.ownBlock = some (w1.alloc o).drew.heap.size) :
    Pr6 D w v S q r (.returned (.int .i64 0)) (w2.setCell ⟨gp, q * 2, none⟩ v') := by
  have hb : Below w1.heap.size w1 (w1.alloc o).drew := below_alloc_drew1 w1 o
  exact pr6_add hq hl hr hok hv hk (hc.trans (Ch.of_below (D := D) hb) (fun x hx => .inl hx)) (hs.below hb) ho hg hat


set_option maxRecDepth 100000 in
set_option maxHeartbeats 4000000 in
theorem produce_walk (h : Src D w v S) (p : Int) {r : Rcd} (hr : r.ok) : Calls Tryz.prog 13 #[v, .int .i64 p, .agg #[.int .u64 r.k, .float .f64 r.x]] w fun e w' => Pr6 D w v S p r e w' := by
  have HW : Hid (Src D w v S) := h
  obtain ⟨sb, gp, gm, lv, rv, rfl, h, hok⟩ := h
  have HS : Hid (SM D w sb gp gm lv rv S) := h
  have HK : Hid S.ok := hok
  have HRK : Hid r.ok := hr
  clear h hok hr
  by_cases hh : hasS S p
  · obtain ⟨q, rfl, hq⟩ := has_nat hh
    obtain ⟨n, hn⟩ : ∃ n, n = (S.logs q).length := ⟨_, rfl⟩
    have HN : Hid (n = (S.logs q).length) := hn
    obtain ⟨ao, cap, hrv, _⟩ := row_form (HS.out.rows q hq)
    rw [← hn] at hrv
    have HRV : Hid (rv q = .slice ao n cap) := hrv
    have hn256 : n ≤ 256 := by rw [hn]; exact HK.out.len q
    obtain ⟨w0, hw0⟩ : ∃ w0, w0 = w.alloc (Obj.cells #[.int .u64 r.k, .float .f64 r.x] 53) := ⟨_, rfl⟩
    have HB0 : Hid (Below w.heap.size w w0) := by show Below _ _ _; rw [hw0]; exact below_alloc _ _
    have HS0 : Hid (SM D w0 sb gp gm lv rv S) := HS.out.below HB0.out
    have k0 : w0.cell? ⟨w.heap.size, 0, none⟩ = some (.int .u64 r.k) := by rw [hw0]; simp [go_sem]
    have k1 : w0.cell? ⟨w.heap.size, 1, none⟩ = some (.float .f64 r.x) := by rw [hw0]; simp [go_sem]
    have p0 : w0.cell? ⟨gp, q * 2, none⟩ = some (.slice ao n cap) := by rw [HS0.out.p0 hq, hrv]
    have c0 := HS0.out.c0
    have HZ : Hid (w.heap.size < w0.heap.size) := by show _ < _; rw [hw0]; simp
    have HW0 : Hid (w0 = w.alloc (Obj.cells #[.int .u64 r.k, .float .f64 r.x] 53)) := hw0
    clear hn hrv hh hw0
    by_cases hfull : 256 ≤ n
    · have HP : Hid (prodS S q r = (61, S)) := by
        show _ = _
        unfold prodS
        rw [if_pos ⟨by omega, by omega⟩, if_pos (by rw [HN.out] at hfull; simpa using hfull)]
      go_enter Tryz.func13, Tryz.ntmps13
      go_wp2_with fail
      rw [← HW0.out]
      refine (part_ok HS0.out HK.out hq).mono ?_
      rintro e w9 ⟨rfl, h9⟩
      replace h9 := h9.symm
      subst h9
      go_wp2_with fail
      go_ret
      exact pr6_same HW.out HP.out HB0.out
    · obtain ⟨R, hR⟩ : ∃ R, R = runS S.list r := ⟨_, rfl⟩
      have HR : Hid (R = runS S.list r) := hR
      have HKO : Hid (R.2.k < 18446744073709551616) := by show _ < _; rw [hR]; exact (runS_ok S.list HRK.out).1
      have HF : Hid (¬ 256 ≤ (S.logs q).length) := by show ¬ _; rw [← HN.out]; exact hfull
      clear hR
      go_enter Tryz.func13, Tryz.ntmps13
      go_wp2_with fail
      rw [← HW0.out]
      refine (part_ok HS0.out HK.out hq).mono ?_
      rintro e w9 ⟨rfl, h9⟩
      replace h9 := h9.symm
      subst h9
      have j0 : ∀ wx, Below w0.heap.size w0 wx → wx.cell? ⟨w.heap.size, 0, none⟩ = some (.int .u64 r.k) := fun wx hb => by rw [hb.cell (p := ⟨w.heap.size, 0, none⟩) HZ.out]; exact k0
      have j1 : ∀ wx, Below w0.heap.size w0 wx → wx.cell? ⟨w.heap.size, 1, none⟩ = some (.float .f64 r.x) := fun wx hb => by rw [hb.cell (p := ⟨w.heap.size, 1, none⟩) HZ.out]; exact k1
      have j2 : ∀ wx, Below w0.heap.size w0 wx → wx.cell? ⟨sb, 0, none⟩ = some lv := fun wx hb => (HS0.out.below hb).c0
      go_wp2_with fail
      go_cut [9, 10] (fun kv bv wx => kv = .int .u64 R.2.k ∧ bv = .bool (R.1 == 1) ∧ Below w0.heap.size w0 wx)
      case first =>
        go_region_held3 (fun wx => Below w0.heap.size w0 wx) (first | assumption | exact (Below.refl _ _).drew)
          (first | (go_at_call 43; refine (key_walk r HRK.out ((HS0.out.below (by assumption)).list)).mono ?_; rw [← HR.out]; rintro e w5 ⟨rfl, hB3⟩; have hS3 : Below w0.heap.size w0 w5 := below_trans (by assumption) hB3))
        all_goals go_wp2_with fail
        all_goals go_meet
        all_goals exact ⟨rfl, rfl, by assumption⟩
      case rest =>
        obtain ⟨rfl, rfl, hBc⟩ := hcut
        have HB1 : Hid (Below w.heap.size w wc) := below_trans HB0.out hBc
        have HS1 : Hid (SM D wc sb gp gm lv rv S) := HS0.out.below hBc
        have x0 := j0 wc hBc
        have x1 := j1 wc hBc
        have HXL : Hid (w.heap.size < wc.heap.size) := Nat.lt_of_lt_of_le HZ.out hBc.size
        clear j0 j1 j2 k0 k1 p0 c0 hBc
        by_cases hf : R.1 = 1
        · have hfb : (R.1 == 1) = true := by simp [hf]
          have HFR : Hid ((runS S.list r).1 = 1) := by show _ = _; rw [← HR.out]; exact hf
          rw [hfb]
          clear hf hfb
          go_wp2_with fail
          refine (takes_walk HS1.out HKO.out).mono ?_
          rintro e w2 ⟨rfl, hB2⟩
          by_cases ht : R.2.k ∈ S.keys ∨ S.keys.length < 64
          · rw [decide_eq_true ht]
            have HS2 : Hid (SM D w2 sb gp gm lv rv S) := HS1.out.below hB2
            have y0 : w2.cell? ⟨w.heap.size, 0, none⟩ = some (.int .u64 r.k) := by rw [hB2.cell (p := ⟨w.heap.size, 0, none⟩) HXL.out]; exact x0
            have y1 : w2.cell? ⟨w.heap.size, 1, none⟩ = some (.float .f64 r.x) := by rw [hB2.cell (p := ⟨w.heap.size, 1, none⟩) HXL.out]; exact x1
            have HB2 : Hid (Below w.heap.size w w2) := below_trans HB1.out hB2
            have c2 := HS2.out.c2
            have HKT : Hid (R.2.k ∈ S.keys ∨ S.keys.length < 64) := ht
            have HL2 : Hid (w.heap.size < w2.heap.size) := Nat.lt_of_lt_of_le HXL.out hB2.size
            clear x0 x1 hB2 ht
            go_wp2_with (at_mapUpdate; refine wpList_mapUpdate_own _ rfl _ _ _ 108 rfl 50 112 law_k Tryz.underlying108 unitElem gm S.keys.length (dK S.keys) rfl HS2.out.keys (by have := HK.out.kl; simp only [maxLen]; omega) _ _ (kK R.2.k) rfl rfl (key_k HKO.out) (.agg []) [] unitElem_mk ?_; intro w3 hown3 hg3; go_frame)
            rw [put_K HK.out.kr] at hown3
            have HX : Hid (SM D w3 sb gp gm lv rv { S with keys := insK R.2.k S.keys }) := HS2.out.addK hg3 (ks_tight hown3)
            have HCH : Hid (Ch D w w3) := (Ch.of_below HB2.out).trans (Ch.of_grown (D := D) hg3 (fun x hx => by cases hx; exact HS2.out.d1.2.2)) (fun x hx => .inl hx)
            have hgmn : w.heap.size ≠ gm := by have := HS.out.dl gm HS.out.d1.2.2; omega
            have x0 : w3.cell? ⟨w.heap.size, 0, none⟩ = some (.int .u64 r.k) := hg3.cell y0 (by simpa using hgmn)
            have x1 : w3.cell? ⟨w.heap.size, 1, none⟩ = some (.float .f64 r.x) := hg3.cell y1 (by simpa using hgmn)
            have HKS : Hid (KsOk S r (insK R.2.k S.keys)) := by
              refine .inl ⟨HFR.out, ?_, ?_⟩
              · rw [HR.out]
              · rw [← HR.out]; exact HKT.out
            clear hown3 hg3 y0 y1 c2 hgmn
            have xp : w3.cell? ⟨gp, q * 2, none⟩ = some (.slice ao n cap) := by rw [HX.out.p0 hq, HRV.out]
            have xf := HX.out.soft (q * 2)
            have xp' : ∀ o, (w3.alloc o).cell? ⟨gp, q * 2, none⟩ = some (.slice ao n cap) := fun o => by rw [(HX.out.below (below_alloc w3 o)).p0 hq, HRV.out]
            have y0' : ∀ o, (w3.alloc o).cell? ⟨w.heap.size, 0, none⟩ = some (.int .u64 r.k) := fun o => by rw [(below_alloc w3 o).cell (p := ⟨w.heap.size, 0, none⟩) (cell_lt x0)]; exact x0
            have y1' : ∀ o, (w3.alloc o).cell? ⟨w.heap.size, 1, none⟩ = some (.float .f64 r.x) := fun o => by rw [(below_alloc w3 o).cell (p := ⟨w.heap.size, 1, none⟩) (cell_lt x1)]; exact x1
            have HOW : Hid (w3.ownsRow 0 53 2 (.slice ao n cap) n (flatR (S.logs q))) := by have := HX.out.rows q hq; rw [HRV.out, ← HN.out] at this; exact this
            have HGL : Hid (gp < w3.heap.size) := HX.out.dl gp HX.out.d1.2.1
            have HNG : Hid ((Value.slice ao n cap).ownBlock ≠ some gp) := by show _ ≠ _; rw [← HRV.out]; exact fun e => (HX.out.a4 q gp hq e).2.1 rfl
            go_wp2_with fail
            go_region_law (refine step_app_own rfl (.tmp 50) (.tmp 52) 25 rfl 53 Tryz.underlying25 info_rec (.slice ao n cap) n (S.logs q) (by simp [Act.eval]) (show World.ownsRow (w3.alloc (Obj.cells #[.int .u64 r.k, .float .f64 r.x] 53)) 0 _ 2 _ n _ from HOW.out.alloc _) w3.heap.size r (by simp [Act.eval]) (by simp [go_sem]) (by simp [go_sem]) (by omega) ?_; intro v' w7 g1 g2 g3; obtain ⟨ao', cap', hv', _⟩ := row_form g1; subst hv'; have z0 : w7.cell? ⟨gp, q * 2, none⟩ = some (.slice ao n cap) := after_app g2 HGL.out HNG.out xp; have z1 : w7.frozen? ⟨gp, q * 2, none⟩ = false := after_app' g2 HGL.out HNG.out xf)
            all_goals go_wp2_with fail
            all_goals go_ret
            all_goals exact pr6_app (ks := insK R.2.k S.keys) hq HF.out HRK.out HK.out rfl HKS.out HCH.out HX.out (by rw [← HN.out]; exact g1) (by rw [HRV.out]; exact g2) (by rw [HRV.out]; exact g3)
          · rw [decide_eq_false ht]
            have HP : Hid (prodS S q r = (62, S)) := by
              show _ = _
              unfold prodS
              rw [if_pos ⟨by omega, by omega⟩, if_neg (by simpa using HF.out), if_pos HFR.out, if_neg (by rw [← HR.out]; exact ht)]
            have HB2 : Hid (Below w.heap.size w w2) := below_trans HB1.out hB2
            clear ht hB2
            go_wp2_with fail
            go_ret
            exact pr6_same HW.out HP.out HB2.out
        · have hfb : (R.1 == 1) = false := by simpa using hf
          have HX : Hid (SM D wc sb gp gm lv rv { S with keys := S.keys }) := HS1.out
          have HCH : Hid (Ch D w wc) := Ch.of_below HB1.out
          have HKS : Hid (KsOk S r S.keys) := .inr ⟨by rw [← HR.out]; exact hf, rfl⟩
          rw [hfb]
          clear hf hfb
          have xp : wc.cell? ⟨gp, q * 2, none⟩ = some (.slice ao n cap) := by rw [HX.out.p0 hq, HRV.out]
          have xf := HX.out.soft (q * 2)
          have xp' : ∀ o, (wc.alloc o).cell? ⟨gp, q * 2, none⟩ = some (.slice ao n cap) := fun o => by rw [(HX.out.below (below_alloc wc o)).p0 hq, HRV.out]
          have y0' : ∀ o, (wc.alloc o).cell? ⟨w.heap.size, 0, none⟩ = some (.int .u64 r.k) := fun o => by rw [(below_alloc wc o).cell (p := ⟨w.heap.size, 0, none⟩) (cell_lt x0)]; exact x0
          have y1' : ∀ o, (wc.alloc o).cell? ⟨w.heap.size, 1, none⟩ = some (.float .f64 r.x) := fun o => by rw [(below_alloc wc o).cell (p := ⟨w.heap.size, 1, none⟩) (cell_lt x1)]; exact x1
          have HOW : Hid (wc.ownsRow 0 53 2 (.slice ao n cap) n (flatR (S.logs q))) := by have := HX.out.rows q hq; rw [HRV.out, ← HN.out] at this; exact this
          have HGL : Hid (gp < wc.heap.size) := HX.out.dl gp HX.out.d1.2.1
          have HNG : Hid ((Value.slice ao n cap).ownBlock ≠ some gp) := by show _ ≠ _; rw [← HRV.out]; exact fun e => (HX.out.a4 q gp hq e).2.1 rfl
          go_wp2_with fail
          go_region_law (refine step_app_own rfl (.tmp 50) (.tmp 52) 25 rfl 53 Tryz.underlying25 info_rec (.slice ao n cap) n (S.logs q) (by simp [Act.eval]) (show World.ownsRow (wc.alloc (Obj.cells #[.int .u64 r.k, .float .f64 r.x] 53)) 0 _ 2 _ n _ from HOW.out.alloc _) wc.heap.size r (by simp [Act.eval]) (by simp [go_sem]) (by simp [go_sem]) (by omega) ?_; intro v' w7 g1 g2 g3; obtain ⟨ao', cap', hv', _⟩ := row_form g1; subst hv'; have z0 : w7.cell? ⟨gp, q * 2, none⟩ = some (.slice ao n cap) := after_app g2 HGL.out HNG.out xp; have z1 : w7.frozen? ⟨gp, q * 2, none⟩ = false := after_app' g2 HGL.out HNG.out xf)
          all_goals go_wp2_with fail
          all_goals go_ret
          all_goals exact pr6_app (ks := S.keys) hq HF.out HRK.out HK.out rfl HKS.out HCH.out HX.out (by rw [← HN.out]; exact g1) (by rw [HRV.out]; exact g2) (by rw [HRV.out]; exact g3)
  · have HP : Hid (prodS S p r = (60, S)) := by show _ = _; unfold prodS; rw [if_neg hh]
    have HN : Hid (p < 0 ∨ (S.np : Int) ≤ p) := not_has hh
    have HB0 : Hid (Below w.heap.size w (w.alloc (Obj.cells #[.int .u64 r.k, .float .f64 r.x] 53))) := below_alloc _ _
    clear hh
    go_enter Tryz.func13, Tryz.ntmps13
    go_wp2_with (go_at_call 42; refine (part_no (HS.out.below HB0.out) HK.out HN.out).mono ?_; rintro e w9 ⟨rfl, h9⟩; have h9 := h9.symm; subst h9)
    go_ret
    exact pr6_same HW.out HP.out HB0.out
end

end Go.Proofs.YtopjedgknbbgkaaGreat

namespace Go.Proofs.YtopjedgknbbgkaaGreat

open Ieee Go.RowKit



def newS (n : Nat) (l : List Stp) : Sc := ⟨l, n, fun _ => [], fun p => decide (p < n), []⟩
theorem ok_new {n : Nat} {l : List Stp} (h1 : 1 ≤ n) (h4 : n ≤ 4) (hc : checkB l = true) (hl : ∀ o ∈ l, o.ok) : (newS n l).ok :=
  ⟨h1, h4, hc, hl, fun _ => by simp [newS], fun _ r hr => by simp [newS] at hr, by simp [newS], by simp [newS, RiseK], fun k hk => by simp [newS] at hk, fun k => by simp [newS]⟩


theorem new_arg {lv : Value} {parts : Int} {w : World} (hp : parts < 1 ∨ 4 < parts) :
    Calls Tryz.prog 24 #[.int .i64 parts, lv] w fun e w' => e = .returned (.tuple #[.pointer none, .int .i64 1]) ∧ w' = w := by
  by_cases h1 : parts < 1
  · clear hp
    go_enter Tryz.func24, Tryz.ntmps24
    go_wp2_with fail
    go_ret2
    exact ⟨rfl, rfl⟩
  · have h4 : 4 < parts := by omega
    clear hp
    go_enter Tryz.func24, Tryz.ntmps24
    go_wp2_with fail
    go_ret2
    exact ⟨rfl, rfl⟩


theorem new_ops {lv : Value} {parts : Int} {l : List Stp} {w : World} (h1 : 1 ≤ parts) (h4 : parts ≤ 4) (ho : Ov w lv l) (hc : checkB l = false) :
    Calls Tryz.prog 24 #[.int .i64 parts, lv] w fun e w' => e = .returned (.tuple #[.pointer none, .int .i64 30]) ∧ Below w.heap.size w w' := by
  obtain ⟨⟨ao, cap, rfl, g1, g2, g3, g4⟩, g5⟩ := ho
  have HO : Hid (Ol w ao l) := g4
  have HL : Hid (l.length ≤ maxLen) := Nat.le_trans g1 g2
  have HC : Hid (chkI l = 30) := by show _ = _; unfold chkI; rw [hc]; rfl
  clear g1 g2 g3 g4 g5 hc
  go_enter Tryz.func24, Tryz.ntmps24
  go_wp2_with fail
  refine (check_walk HL.out HO.out).mono ?_
  rw [HC.out]
  rintro e w1 ⟨rfl, hB⟩
  go_wp2_with fail
  go_ret2
  exact ⟨rfl, hB⟩


/-- What New lays before it goes on. -/
def Nw (w1 : World) (l : List Stp) (n : Nat) (Z : Array Value) (sb : Nat) (wx : World) : Prop :=
  ∃ gp gm lv, wx.heap[sb]? = some (.cells #[lv, .slice (some ⟨gp, 0, none⟩) n n, .map (some gm)] 110 (0, 0)) ∧ wx.heap[gp]? = some (.cells Z 104 (0, 0)) ∧ Ks wx gm [] ∧
    wx.ownsRow w1.heap.size 72 3 lv l.length (flat l) ∧ Below w1.heap.size w1 wx ∧ w1.heap.size ≤ gp ∧ w1.heap.size ≤ gm ∧ w1.heap.size ≤ sb


theorem nw_end {w1 wz : World} {l : List Stp} {n m gp gm sb base : Nat} {Z : Array Value} {lv : Value} (hs : sb = wz.heap.size) (hP : wz.heap[gp]? = some (.cells Z 104 (0, 0))) (hM : Ks wz gm []) (hL : wz.ownsRow base 72 3 lv m (flat l))
    (hb : w1.heap.size ≤ base) (hB : Below w1.heap.size w1 wz) (g1 : w1.heap.size ≤ gp) (g2 : w1.heap.size ≤ gm) :
    ∃ x, Value.pointer (some ⟨sb, 0, none⟩) = .pointer (some ⟨x, 0, none⟩) ∧ Nw w1 l n Z x (wz.alloc (Obj.cells #[lv, .slice (some ⟨gp, 0, none⟩) n n, .map (some gm)] 110)) := by
  subst hs
  have hm : m = l.length := by have := hL.1; rw [flat_len] at this; omega
  subst hm
  refine ⟨_, rfl, gp, gm, lv, heap_alloc_new wz _, ?_, hM.kept ((below_alloc wz _).block gm hM.lt), ?_, below_trans hB (below_alloc wz _), g1, g2, hB.size⟩
  · rw [(below_alloc wz _).block gp (Array.getElem?_eq_some_iff.1 hP).1]; exact hP
  · exact row_base (hL.alloc _) (fun x hx => by have := (hL.lt x hx).1; omega)
theorem keepP {w w' : World} {gp : Nat} {o : Obj} (h : w.heap[gp]? = some o) (hb : Below w.heap.size w w') : w'.heap[gp]? = some o := by
  rw [hb.block gp (Array.getElem?_eq_some_iff.1 h).1]; exact h
theorem Ks.below {w w' : World} {b : Nat} {l : List Nat} (h : Ks w b l) (hb : Below w.heap.size w w') : Ks w' b l := h.kept (hb.block b h.lt)
theorem undrew {w w' : World} (h : Below w.drew.heap.size w.drew w') : Below w.heap.size w w' := below_trans (Below.refl _ _).drew h


def newO (n : Nat) (l : List Stp) (k : Nat) : Sc := ⟨l, n, fun _ => [], fun p => decide (p < k), []⟩
theorem newO_step (n : Nat) (l : List Stp) (k : Nat) : ({ newO n l k with on := upd (newO n l k).on k true } : Sc) = newO n l (k + 1) := by
  have e : upd (fun p => decide (p < k)) k true = fun p => decide (p < k + 1) := by
    funext p
    unfold upd
    by_cases h : p = k
    · subst h; simp
    · rw [if_neg h]
      show decide (p < k) = _
      by_cases h2 : p < k
      · rw [decide_eq_true h2, decide_eq_true (by omega)]
      · rw [decide_eq_false h2, decide_eq_false (by omega)]
  show (⟨l, n, fun _ => [], upd (fun p => decide (p < k)) k true, []⟩ : Sc) = _
  rw [e]; rfl
theorem nw_sm {wx : World} {l : List Stp} {n gp gm sb base : Nat} {Z : Array Value} {lv : Value} (hn : 1 ≤ n ∧ n ≤ 4) (hZ : Z = madeCells #[.slice none 0 0, .bool false] (n * 2)) (hok : ∀ o ∈ l, o.ok)
    (hsb : wx.heap[sb]? = some (.cells #[lv, .slice (some ⟨gp, 0, none⟩) n n, .map (some gm)] 110 (0, 0))) (hgp : wx.heap[gp]? = some (.cells Z 104 (0, 0))) (hgm : Ks wx gm [])
    (hlv : wx.ownsRow base 72 3 lv l.length (flat l)) : SM (fun x => x = sb ∨ x = gp ∨ x = gm ∨ lv.ownBlock = some x) wx sb gp gm lv (fun _ => .slice none 0 0) (newO n l 0) := by
  obtain ⟨es, cl, hmap, _⟩ := id hgm
  have hlx : ∀ x, lv.ownBlock = some x → ∃ cur, wx.heap[x]? = some (.cells cur 72 (0, 0)) := by
    intro x hx
    rcases hlv.2 with ⟨rfl, _⟩ | ⟨g, cap, cur, rfl, _, hg, _⟩
    · cases hx
    · simp [Value.ownBlock] at hx; subst hx; exact ⟨cur, hg⟩
  refine ⟨hsb, ⟨Z, hgp, ?_, ?_⟩, hgm, own_ovS hlv hok, fun p _ => World.ownsRow_nil _ _ _ _, ?_, ?_, ?_, fun p x _ hx => (by cases hx), fun x hx => ?_, fun p q x _ _ _ hx => (by cases hx), ⟨.inl rfl, .inr (.inl rfl), .inr (.inr (.inl rfl))⟩, fun p x _ hx => (by cases hx), fun x hx => .inr (.inr (.inr hx)), ?_⟩
  · rw [hZ]; exact size_madeCells _ _
  · obtain ⟨a, b⟩ := hn
    have : n = 1 ∨ n = 2 ∨ n = 3 ∨ n = 4 := by omega
    intro p hp
    change p < n at hp
    have hp4 : p = 0 ∨ p = 1 ∨ p = 2 ∨ p = 3 := by omega
    have hon : (newO n l 0).on p = false := by simp [newO]
    rw [hZ, hon]
    rcases this with rfl | rfl | rfl | rfl <;> rcases hp4 with rfl | rfl | rfl | rfl <;> first | omega | exact ⟨by simp [madeCells], by simp [madeCells]⟩
  · rintro rfl; rw [hsb] at hgp; simp at hgp
  · rintro rfl; rw [hsb] at hmap; simp at hmap
  · rintro rfl; rw [hgp] at hmap; simp at hmap
  · obtain ⟨cur, hc⟩ := hlx x hx
    refine ⟨?_, ?_, ?_⟩
    · rintro rfl; rw [hsb] at hc; simp at hc
    · rintro rfl; rw [hgp] at hc; simp at hc
    · rintro rfl; rw [hmap] at hc; simp at hc
  · rintro x (rfl | rfl | rfl | h)
    · exact (Array.getElem?_eq_some_iff.1 hsb).1
    · exact (Array.getElem?_eq_some_iff.1 hgp).1
    · exact hgm.lt
    · exact (hlv.lt x h).2


theorem info_part : (Tryz.prog.info? 104).map (fun i => (i.zero, i.size, i.bytes)) = some (some (.agg #[.slice none 0 0, .bool false]), 2, 32) := by kernel_rfl


set_option maxRecDepth 100000 in
set_option maxHeartbeats 4000000 in
theorem new_ok {lv : Value} {n : Nat} {l : List Stp} {w : World} (h1 : 1 ≤ n) (h4 : n ≤ 4) (ho : Ov w lv l) (hc : checkB l = true) :
    Calls Tryz.prog 24 #[.int .i64 n, lv] w fun e w' => ∃ (v : Value) (D : Nat → Prop), e = .returned (.tuple #[v, .int .i64 0]) ∧ Src D w' v (newS n l) ∧ Below w.heap.size w w' ∧ ∀ b, D b → w.heap.size ≤ b := by
  have HV : Hid (Ov w lv l) := ho
  obtain ⟨⟨ao, cap, rfl, g1, g2, g3, g4⟩, g5⟩ := ho
  have HO : Hid (Ol w ao l) := g4
  have HL : Hid (l.length ≤ maxLen) := Nat.le_trans g1 g2
  have HC : Hid (chkI l = 0) := by show _ = _; unfold chkI; rw [hc]; rfl
  have HOK : Hid (∀ o ∈ l, o.ok) := g5
  have HN : Hid (1 ≤ n ∧ n ≤ 4) := ⟨h1, h4⟩
  have HCB : Hid (checkB l = true) := hc
  have HL8 : Hid (l.length ≤ 1048576) := by
    show _ ≤ _
    unfold checkB at hc
    simp at hc
    omega
  have hmm := @run_makeMap Tryz.prog
  obtain ⟨i0, hi0, hz0, hz1, hz2⟩ := info_partsV info_part
  clear g1 g2 g3 g4 g5 hc
  go_enter Tryz.func24, Tryz.ntmps24
  go_wp2_with fail
  refine (check_walk HL.out HO.out).mono ?_
  rw [HC.out]
  rintro e w1 ⟨rfl, hB⟩
  have HB1 : Hid (Below w.heap.size w w1) := hB
  have HV1 : Hid (Ov w1 (.slice ao l.length cap) l) := HV.out.below hB
  clear hB
  have HMK : Hid (∀ wx, (Instr.makeSlice 107 (.int .i64 n) (.int .i64 n)).run Tryz.prog wx = .ok (.slice (some ⟨wx.heap.size, 0, none⟩) n n) (wx.alloc (.cells (madeCells #[.slice none 0 0, .bool false] (n * 2)) 104))) := fun wx => by
    have := run_make (P := Tryz.prog) wx 107 104 i0 (.agg #[.slice none 0 0, .bool false]) Tryz.underlying107 hi0 hz0 .i64 .i64 n n (by omega) (Int.le_refl _) (by rw [hz2]; omega) (by omega)
    rw [hz1] at this
    simp only [Int.toNat_natCast] at this
    exact this
  obtain ⟨Z, hZ⟩ : ∃ Z, Z = madeCells #[.slice none 0 0, .bool false] (n * 2) := ⟨_, rfl⟩
  rw [← hZ] at HMK
  have hmk := HMK.out
  have HZZ : Hid (Z = madeCells #[.slice none 0 0, .bool false] (n * 2)) := hZ
  clear hZ HMK hi0 hz0 hz1 hz2
  go_wp2_with fail
  go_cut [7] (fun sv wx => ∃ sb, sv = .pointer (some ⟨sb, 0, none⟩) ∧ Nw w1 l n Z sb wx)
  case first =>
    go_region_with ((go_at_call 60; refine (cloneO_walk (HV1.out.below (by first | exact (Below.refl _ _).drew | exact (below_alloc _ _).drew | exact (below_trans (below_alloc _ _) (below_alloc _ _)).drew)) HL8.out).mono ?_; rintro e w5 ⟨v5, rfl, ho5, hB5⟩; obtain ⟨ao5, cap5, hv5, _⟩ := row_form ho5; subst hv5))
    all_goals go_wp2_with fail
    all_goals go_meet
    · have b5 := undrew hB5
      exact nw_end (by simp) (keepP (heap_alloc_new w5 _) (below_alloc _ _)) (by have := ks_made (w5.alloc (Obj.cells Z 104)); simpa using this) ((ho5.alloc _).alloc _) (Nat.le_refl _) (below_trans (below_trans b5 (below_alloc _ _)) (below_alloc _ _)) b5.size (by have := b5.size; omega)
    · have b5 := undrew hB5
      exact nw_end (by simp) (by have := heap_alloc_new (w5.alloc (Obj.map #[] 0)) (Obj.cells Z 104); simpa using this) ((ks_made w5).below (below_alloc _ _)) ((ho5.alloc _).alloc _) (Nat.le_refl _) (below_trans (below_trans b5 (below_alloc _ _)) (below_alloc _ _)) (by have := b5.size; omega) b5.size
    · have b5 := undrew hB5
      have b0 := below_alloc w1 (Obj.cells Z 104)
      exact nw_end (by simp) (keepP (keepP (heap_alloc_new w1 _) b5) (below_alloc _ _)) (ks_made w5) (ho5.alloc _) b0.size (below_trans (below_trans b0 b5) (below_alloc _ _)) (Nat.le_refl _) (Nat.le_trans b0.size b5.size)
    · have b5 := undrew hB5
      have b0 := below_trans (below_alloc w1 (Obj.cells Z 104)) (below_alloc _ (Obj.map #[] 0))
      exact nw_end rfl (keepP (keepP (heap_alloc_new w1 _) (below_alloc _ _)) b5) ((by have := ks_made (w1.alloc (Obj.cells Z 104)); simpa using this : Ks ((w1.alloc (Obj.cells Z 104)).alloc (Obj.map #[] 0)) (w1.heap.size + 1) []).below b5) ho5 b0.size (below_trans b0 b5) (Nat.le_refl _) (by omega)
    · have b5 := undrew hB5
      have b0 := below_alloc w1 (Obj.map #[] 0)
      exact nw_end (by simp) (heap_alloc_new w5 _) (((ks_made w1).below b5).below (below_alloc _ _)) (ho5.alloc _) b0.size (below_trans (below_trans b0 b5) (below_alloc _ _)) (Nat.le_trans b0.size b5.size) (Nat.le_refl _)
    · have b5 := undrew hB5
      have b0 := below_trans (below_alloc w1 (Obj.map #[] 0)) (below_alloc _ (Obj.cells Z 104))
      exact nw_end rfl (keepP (by have := heap_alloc_new (w1.alloc (Obj.map #[] 0)) (Obj.cells Z 104); simpa using this) b5) (((ks_made w1).below (below_alloc _ _)).below b5) ho5 b0.size (below_trans b0 b5) (by omega) (Nat.le_refl _)
  case rest =>
    obtain ⟨sb, rfl, gp, gm, lv, hsb, hgp, hgm, hlv, hBc, q1, q2, q3⟩ := hcut
    have HX : Hid (SM (fun x => x = sb ∨ x = gp ∨ x = gm ∨ lv.ownBlock = some x) wc sb gp gm lv (fun _ => .slice none 0 0) (newO n l 0)) := nw_sm HN.out (by rw [HZZ.out]) HOK.out hsb hgp hgm hlv
    have HBC : Hid (Below w1.heap.size w1 wc) := hBc
    have HD : Hid (∀ x, (x = sb ∨ x = gp ∨ x = gm ∨ lv.ownBlock = some x) → w1.heap.size ≤ x) := by
      rintro x (rfl | rfl | rfl | h)
      · exact q3
      · exact q1
      · exact q2
      · exact (hlv.lt x h).1
    have c1 := HX.out.c1
    change wc.cell? ⟨sb, 1, none⟩ = some (.slice (some ⟨gp, 0, none⟩) n n) at c1
    clear hsb hgp hgm hlv hBc q1 q2 q3 hmk hmm
    go_wp2_with fail
    go_loopw [32] (fun iv wr => ∃ k : Nat, k ≤ n ∧ iv = .int .i64 k ∧ SM (fun x => x = sb ∨ x = gp ∨ x = gm ∨ lv.ownBlock = some x) wr sb gp gm lv (fun _ => .slice none 0 0) (newO n l k) ∧ Below w1.heap.size w1 wr) (fun iv _ => n - (intOf iv).toNat)
    case atStart => exact ⟨0, Nat.zero_le _, rfl, HX.out, HBC.out⟩
    case round =>
      clear HX HBC c1
      obtain ⟨k, hk, rfl, hS, hB⟩ := hrel
      have HS : Hid (SM (fun x => x = sb ∨ x = gp ∨ x = gm ∨ lv.ownBlock = some x) wr sb gp gm lv (fun _ => .slice none 0 0) (newO n l k)) := hS
      have HB : Hid (Below w1.heap.size w1 wr) := hB
      clear hS hB
      by_cases hlt : k < n
      · have c1 : wr.cell? ⟨sb, 1, none⟩ = some (.slice (some ⟨gp, 0, none⟩) n n) := HS.out.c1
        have p1 : wr.cell? ⟨gp, k * 2 + 1, none⟩ = some (.bool (decide (k < k))) := HS.out.p1 (p := k) hlt
        have f1 := HS.out.soft (k * 2 + 1)
        have R' : ∃ j : Nat, j ≤ n ∧ Value.int .i64 ((k : Int) + 1) = .int .i64 j ∧ SM (fun x => x = sb ∨ x = gp ∨ x = gm ∨ lv.ownBlock = some x) (wr.setCell ⟨gp, k * 2 + 1, none⟩ (.bool true)) sb gp gm lv (fun _ => .slice none 0 0) (newO n l j) ∧ Below w1.heap.size w1 (wr.setCell ⟨gp, k * 2 + 1, none⟩ (.bool true)) :=
          ⟨k + 1, hlt, by simp, by have := HS.out.setOn (q := k) hlt true; rw [newO_step] at this; exact this, HB.out.setCell (HD.out gp (.inr (.inl rfl))) _⟩
        go_wp2_with fail
        go_roundw
        case rel => exact R'
        case measure => simp [intOf]; omega
      · obtain rfl : k = n := by omega
        go_wp2_with fail
        go_ret2
        exact ⟨_, _, rfl, ⟨sb, gp, gm, lv, _, rfl, HS.out, ok_new h1 h4 HCB.out HOK.out⟩, below_trans HB1.out HB.out, fun b hb => Nat.le_trans HB1.out.size (HD.out b hb)⟩
end Go.Proofs.YtopjedgknbbgkaaGreat

namespace Go.Proofs.YtopjedgknbbgkaaGreat

open Ieee Go.RowKit



/-- The value v is a source that is S; its memory lies from B on. -/
def Sb (B : Nat) (w : World) (v : Value) (S : Sc) : Prop := ∃ D, Src D w v S ∧ ∀ b, D b → B ≤ b
theorem Sb.below {B : Nat} {w w' : World} {v : Value} {S : Sc} (h : Sb B w v S) (hb : Below w.heap.size w w') : Sb B w' v S := by
  obtain ⟨D, h1, h2⟩ := h
  exact ⟨D, h1.below hb, h2⟩
theorem Sb.good {B : Nat} {w : World} {v : Value} {S : Sc} (h : Sb B w v S) : S.ok := by obtain ⟨D, h1, h2⟩ := h; exact h1.good
theorem Sb.form {B : Nat} {w : World} {v : Value} {S : Sc} (h : Sb B w v S) : ∃ sb, v = .pointer (some ⟨sb, 0, none⟩) := by obtain ⟨D, ⟨sb, _, _, _, _, e, _⟩, h2⟩ := h; exact ⟨sb, e⟩


section

variable {B : Nat} {w : World} {v : Value} {S : Sc}

theorem produceB (h : Sb B w v S) (hB : B ≤ w.heap.size) (p : Int) {r : Rcd} (hr : r.ok) : Calls Tryz.prog 13 #[v, .int .i64 p, .agg #[.int .u64 r.k, .float .f64 r.x]] w fun e w' =>
    e = .returned (.int .i64 (prodS S p r).1) ∧ Sb B w' v (prodS S p r).2 ∧ Below B w w' ∧ ((prodS S p r).1 ≠ 0 → Below w.heap.size w w') := by
  obtain ⟨D, h1, h2⟩ := h
  refine (produce_walk h1 p hr).mono ?_
  rintro e w' ⟨rfl, ⟨D', hs, hc, hd⟩, hq⟩
  exact ⟨rfl, ⟨D', hs, fun b hb => by rcases hd b hb with h | h; exact h2 b h; omega⟩, hc.to_below hB h2, hq⟩
theorem switchB (h : Sb B w v S) (hB : B ≤ w.heap.size) (p : Int) (on : Bool) : Calls Tryz.prog 14 #[v, .int .i64 p, .bool on] w fun e w' => e = .returned (.int .i64 (switchI S p)) ∧ Sb B w' v (switchS S p on) ∧ Below B w w' := by
  obtain ⟨D, h1, h2⟩ := h
  refine (switch_walk h1 p on).mono ?_
  rintro e w' ⟨rfl, hs, hc⟩
  exact ⟨rfl, ⟨D, hs, h2⟩, hc.to_below hB h2⟩
theorem partsB (h : Sb B w v S) : Calls Tryz.prog 63 #[v] w fun e w' => e = .returned (.int .i64 S.np) ∧ w' = w := by obtain ⟨D, h1, h2⟩ := h; exact parts_walkS h1
theorem lenB (h : Sb B w v S) (p : Int) : Calls Tryz.prog 29 #[v, .int .i64 p] w fun e w' => e = .returned (.int .i64 (lenS S p)) ∧ w' = w := by obtain ⟨D, h1, h2⟩ := h; exact len_walk h1 p
theorem upB (h : Sb B w v S) (p : Int) : Calls Tryz.prog 36 #[v, .int .i64 p] w fun e w' => e = .returned (.bool (upS S p)) ∧ w' = w := by obtain ⟨D, h1, h2⟩ := h; exact up_walk h1 p
theorem logB (h : Sb B w v S) (p : Int) : Calls Tryz.prog 64 #[v, .int .i64 p] w fun e w' => ∃ r, e = .returned r ∧ w'.ownsRow w.heap.size 53 2 r (logS S p).length (flatR (logS S p)) ∧ Below w.heap.size w w' := by obtain ⟨D, h1, h2⟩ := h; exact log_walk h1 p
theorem newB {lv : Value} {n : Nat} {l : List Stp} (h1 : 1 ≤ n) (h4 : n ≤ 4) (ho : Ov w lv l) (hc : checkB l = true) :
    Calls Tryz.prog 24 #[.int .i64 n, lv] w fun e w' => ∃ v, e = .returned (.tuple #[v, .int .i64 0]) ∧ Sb w.heap.size w' v (newS n l) ∧ Below w.heap.size w w' := by
  refine (new_ok h1 h4 ho hc).mono ?_
  rintro e w' ⟨v, D, rfl, hs, hB, hd⟩
  exact ⟨v, rfl, ⟨D, hs, hd⟩, hB⟩
theorem Sb.mono {B' : Nat} (h : Sb B w v S) (hb : B' ≤ B) : Sb B' w v S := by
  obtain ⟨D, h1, h2⟩ := h
  exact ⟨D, h1, fun b hd => Nat.le_trans hb (h2 b hd)⟩
end



/-- The cells behind ao hold the keys l. -/
def Kl (w : World) (ao : Option Addr) (l : List Nat) : Prop := ∀ i, (h : i < l.length) → ∃ b off, ao = some ⟨b, off, none⟩ ∧ w.cell? ⟨b, off + i, none⟩ = some (.int .u64 (l[i] : Nat))
theorem Kl.below {w w' : World} {ao : Option Addr} {l : List Nat} (h : Kl w ao l) (hb : Below w.heap.size w w') : Kl w' ao l := by
  intro i hi
  obtain ⟨b, off, e, c⟩ := h i hi
  exact ⟨b, off, e, by rw [hb.cell (p := ⟨b, off + i, none⟩) (cell_lt c)]; exact c⟩
theorem own_kl {w : World} {base n : Nat} {v : Value} {l : List Nat} (h : w.ownsRow base 50 1 v n (l.map fun k => .int .u64 (k : Nat))) : ∃ ao cap, v = .slice ao l.length cap ∧ Kl w ao l := by
  obtain ⟨h1, h2⟩ := h
  have hn : n = l.length := by simp at h1; omega
  subst hn
  rcases h2 with ⟨rfl, h0⟩ | ⟨g, cap, cur, rfl, hb, hg, hnc, hcm, hcs, htake⟩
  · exact ⟨none, 0, by rw [h0], fun i hi => by omega⟩
  · refine ⟨_, cap, rfl, fun i hi => ⟨g, 0, rfl, ?_⟩⟩
    have e := congrArg (fun l => l[i]?) htake
    simp only [List.getElem?_take, Nat.mul_one, if_pos hi, List.getElem?_map, List.getElem?_eq_getElem hi] at e
    rw [Nat.zero_add, cell_of_row w g i cur _ (0, 0) hg, ← Array.getElem?_toList, e]; rfl
theorem own_rl {w : World} {base e n : Nat} {v : Value} {l : List Rcd} (h : w.ownsRow base e 2 v n (flatR l)) (hok : ∀ r ∈ l, r.ok) : ∃ ao cap, v = .slice ao l.length cap ∧ Rl w ao l := by
  obtain ⟨⟨ao, cap, e, _, _, _, h4⟩, _⟩ := own_rv h hok
  exact ⟨ao, cap, e, h4⟩




end Go.Proofs.YtopjedgknbbgkaaGreat

namespace Go.Proofs.YtopjedgknbbgkaaGreat

open Ieee Go.RowKit



def nth (l : List Int) (i : Nat) : Int := l.getD i 0
theorem nth_at {l : List Int} {i : Nat} (h : i < l.length) : nth l i = l[i] := by unfold nth; rw [List.getD_eq_getElem?_getD, List.getElem?_eq_getElem h]; rfl
theorem nth_mem {l : List Int} {i : Nat} (h : i < l.length) : nth l i ∈ l := by rw [nth_at h]; exact List.getElem_mem h
theorem nth_ext {a b : List Int} (h : a.length = b.length) (hn : ∀ i, i < a.length → nth a i = nth b i) : a = b := by
  refine List.ext_getElem h fun i h1 h2 => ?_
  have := hn i h1
  rwa [nth_at h1, nth_at h2] at this
def In64 (l : List Int) : Prop := ∀ x ∈ l, -9223372036854775808 ≤ x ∧ x < 9223372036854775808
theorem In64.at {l : List Int} (h : In64 l) {i : Nat} (hi : i < l.length) : -9223372036854775808 ≤ nth l i ∧ nth l i < 9223372036854775808 := h _ (nth_mem hi)


/-- The cells behind ao hold the numbers l. -/
def Nl (w : World) (ao : Option Addr) (l : List Int) : Prop := ∀ i, i < l.length → ∃ b off, ao = some ⟨b, off, none⟩ ∧ w.cell? ⟨b, off + i, none⟩ = some (.int .i64 (nth l i))
/-- The value v is a slice of ints that holds l. -/
def Nv (w : World) (v : Value) (l : List Int) : Prop := (∃ ao cap, v = .slice ao l.length cap ∧ l.length ≤ cap ∧ cap ≤ maxLen ∧ (ao = none → cap = 0) ∧ Nl w ao l) ∧ In64 l


theorem Nl.below {w w' : World} {ao : Option Addr} {l : List Int} (h : Nl w ao l) (hb : Below w.heap.size w w') : Nl w' ao l := by
  intro i hi
  obtain ⟨b, off, e, c⟩ := h i hi
  exact ⟨b, off, e, by rw [hb.cell (p := ⟨b, off + i, none⟩) (cell_lt c)]; exact c⟩
theorem Nv.below {w w' : World} {v : Value} {l : List Int} (h : Nv w v l) (hb : Below w.heap.size w w') : Nv w' v l := by
  obtain ⟨⟨ao, cap, e, h1, h2, h3, h4⟩, h5⟩ := h
  exact ⟨⟨ao, cap, e, h1, h2, h3, h4.below hb⟩, h5⟩
/-- What lies below B stays. -/
theorem Nl.keep {w w' : World} {ao : Option Addr} {l : List Int} (h : Nl w ao l) (hk : ∀ a, ao = some a → w'.heap[a.block]? = w.heap[a.block]?) : Nl w' ao l := by
  intro i hi
  obtain ⟨b, off, e, c⟩ := h i hi
  have hb : w'.heap[b]? = w.heap[b]? := hk _ e
  exact ⟨b, off, e, by rw [World.cell?_of_block (w := w) (a := ⟨b, off + i, none⟩) hb]; exact c⟩
theorem Nv.nil (w : World) : Nv w (.slice none 0 0) [] := ⟨⟨none, 0, rfl, Nat.le_refl _, by simp [maxLen], fun _ => rfl, fun i hi => by simp at hi⟩, fun x hx => by simp at hx⟩
theorem Nv.len_le {w : World} {v : Value} {l : List Int} (h : Nv w v l) : l.length ≤ maxLen := by
  obtain ⟨⟨ao, cap, e, h1, h2, h3, h4⟩, h5⟩ := h; omega


abbrev cellsN (l : List Int) : List Value := l.map (Value.int .i64)
theorem own_nl {w : World} {base e n : Nat} {v : Value} {l : List Int} (h : w.ownsRow base e 1 v n (cellsN l)) : n = l.length ∧ ∃ ao cap, v = .slice ao l.length cap ∧ l.length ≤ cap ∧ cap ≤ maxLen ∧ (ao = none → cap = 0) ∧ Nl w ao l := by
  obtain ⟨h1, h2⟩ := h
  have hn : l.length = n := by simpa using h1
  subst hn
  refine ⟨rfl, ?_⟩
  rcases h2 with ⟨rfl, h0⟩ | ⟨g, cap, cur, rfl, hb, hg, hnc, hcm, hcs, htake⟩
  · have : l = [] := List.eq_nil_of_length_eq_zero h0
    subst this
    exact ⟨none, 0, rfl, Nat.le_refl _, by simp [maxLen], fun _ => rfl, fun i hi => by simp at hi⟩
  · refine ⟨_, cap, rfl, hnc, hcm, by simp, fun i hi => ⟨g, 0, rfl, ?_⟩⟩
    rw [Nat.zero_add, cell_of_row w g i cur e (0, 0) hg]
    have hh : (cur.toList.take (l.length * 1))[i]? = (l.map (Value.int .i64))[i]? := by rw [htake]
    rw [List.getElem?_take, if_pos (by omega)] at hh
    rw [← Array.getElem?_toList, hh, nth_at hi]
    simp [List.getElem?_eq_getElem hi]
theorem own_nv {w : World} {base e n : Nat} {v : Value} {l : List Int} (h : w.ownsRow base e 1 v n (cellsN l)) (hl : In64 l) : Nv w v l := ⟨(own_nl h).2, hl⟩


theorem info_int : (Tryz.prog.info? 3).map (fun i => (i.zero, i.size, i.bytes)) = some (some (.int .i64 0), 1, 8) := by kernel_rfl


theorem wpList_append_nv {P : Program} {w : World} {ops : Array Oper} {rest : List Oper} {o : Oper} {a : Act} {Q : Exit → Act → World → Prop} (hgd : o.guard = none) (s x : Operand) (t : TypeId)
    (ho : o.op = .call { callee := .builtin .append, args := #[s, x], argTypes := #[t, t] })
    (base : Nat) (e : TypeId) (ht : P.underlying t = some (.slice e)) (hinf : (P.info? e).map (fun i => (i.zero, i.size, i.bytes)) = some (some (.int .i64 0), 1, 8))
    (v : Value) (n : Nat) (m : List Int) (hs : a.eval s = v) (hown : w.ownsRow base e 1 v n (cellsN m))
    (y : Value) (l : List Int) (hx : a.eval x = y) (hy : Nv w y l) (h63 : n + l.length ≤ maxLen) (hb : (n + l.length) * 8 ≤ 140737488355328) (hbase : base ≤ w.heap.size)
    (h : ∀ v' w', w'.ownsRow base e 1 v' (n + l.length) (cellsN (m ++ l)) → w.grownBy w' v.ownBlock → wpList P ops Q rest (a.put o.dst v') w') : wpList P ops Q (o :: rest) a w := by
  obtain ⟨i0, hi, hz0, hz1, hz2⟩ := info_partsV hinf
  obtain ⟨⟨ao, c, rfl, hc1, hc2, hnone, hcells⟩, _⟩ := hy
  cases ao with
  | none =>
    obtain rfl := hnone rfl
    have hl0 : l.length = 0 := by omega
    have hl : l = [] := List.eq_nil_of_length_eq_zero hl0
    subst hl
    refine wpList_append_own_none hgd s x t ho base e i0 1 ht hi _ n (cellsN m) hs hown hx ?_
    exact h v w (by simpa using hown) ⟨rfl, rfl, rfl, Nat.le_refl _, fun _ _ _ => rfl⟩
  | some p =>
    refine wpList_append_own w hgd s x t ho base e i0 (.int .i64 0) 1 8 ht hi hz0 hz1 hz2 rfl (by decide) v n (cellsN m) hs hown p l.length c (cellsN l) hx (by simp) ?_ ?_ h63 hb hbase (fun v' w' h1 h2 _ => h v' w' (by rw [cellsN, List.map_append]; exact h1) h2)
    · intro j u hj
      have hjl : j < l.length := by
        rcases Nat.lt_or_ge j l.length with h | h
        · exact h
        · simp [List.getElem?_eq_none (show (l.map (Value.int .i64)).length ≤ j by simpa using h)] at hj
      obtain ⟨b, off, e1, e2⟩ := hcells j hjl
      cases e1
      rw [WideShapes.add_plain, e2, nth_at hjl]
      simp [List.getElem?_eq_getElem hjl] at hj
      rw [← hj]
    · intro u hu
      obtain ⟨z, _, rfl⟩ := List.mem_map.1 hu
      rfl


set_option maxRecDepth 100000 in
theorem cloneN_walk {v : Value} {l : List Int} {w : World} (ho : Nv w v l) (hl : l.length * 8 ≤ 140737488355328) :
    Calls Tryz.prog 35 #[v] w fun e w' => ∃ v', e = .returned v' ∧ w'.ownsRow w.heap.size 3 1 v' l.length (cellsN l) ∧ Below w.heap.size w w' := by
  have HO : Hid (Nv w v l) := ho
  obtain ⟨⟨ao, cap, rfl, h1, h2, h3, _⟩, _⟩ := ho
  have HL : Hid (l.length * 8 ≤ 140737488355328) := hl
  have HM : Hid (l.length ≤ maxLen) := by show _ ≤ _; omega
  have H3 : Hid (ao = none → cap = 0) := h3
  have H1 : Hid (l.length ≤ cap) := h1
  have q : ∀ (w : World) (a : Option Addr) (n c : Nat), (binOp .eql 26 (.slice a n c) (.slice none 0 0)).run Tryz.prog w = .ok (.bool a.isNone) w := fun w a n c => Lib.run_eql_slice_nil w 26 3 a n c 0 0 Tryz.underlying26
  clear hl h1 h2 h3
  cases ao with
  | none =>
    have hc := H3.out rfl
    subst hc
    have hl0 : l.length = 0 := by have := H1.out; omega
    have hl : l = [] := List.eq_nil_of_length_eq_zero hl0
    subst hl
    rw [List.length_nil]
    go_enter Tryz.func35, Tryz.ntmps35
    go_wp2_with fail
    go_ret
    exact ⟨_, rfl, World.ownsRow_nil _ _ _ _, below_same _⟩
  | some p =>
    go_enter Tryz.func35, Tryz.ntmps35
    go_wp2_with (at_builtin; refine wpList_append_nv (by rfl) _ _ 26 (by rfl) w.heap.size 3 Tryz.underlying26 info_int _ 0 [] (by rfl) (World.ownsRow_made w #[] 0 (Nat.le_refl _) (by simp [maxLen]) (by simp)) _ l (by rfl) (HO.out.below (below_alloc _ _)) (by have := HM.out; omega) (by have := HL.out; omega) (by simp) ?_; intro v' w2 hown hgrow; go_frame)
    go_ret
    refine ⟨_, rfl, by simpa using hown, ?_⟩
    exact (below_alloc w (Obj.cells #[] 3)).grown hgrow (by simp) (by simp [Value.ownBlock])


/-- The block g holds the ints l in a row of cap cells that is the call's own. -/
def Zw (w : World) (g cap : Nat) (l : List Int) : Prop := (∃ cur, w.heap[g]? = some (.cells cur 3 (0, 0)) ∧ cur.size = cap ∧ ∀ i, i < l.length → cur[i]? = some (.int .i64 (nth l i))) ∧ l.length ≤ cap ∧ cap ≤ maxLen


section

variable {w w' : World} {g cap : Nat} {l : List Int}

theorem Zw.cell (h : Zw w g cap l) {i : Nat} (hi : i < l.length) : w.cell? ⟨g, i, none⟩ = some (.int .i64 (nth l i)) := by
  obtain ⟨⟨cur, h1, h2, h3⟩, _⟩ := h
  rw [cell_of_row w g i cur _ (0, 0) h1]; exact h3 i hi
theorem Zw.soft (h : Zw w g cap l) (i : Nat) : w.frozen? ⟨g, i, none⟩ = false := by
  obtain ⟨⟨cur, h1, h2, h3⟩, _⟩ := h
  simp [World.frozen?, h1]
theorem Zw.lt (h : Zw w g cap l) : g < w.heap.size := by
  obtain ⟨⟨cur, h1, h2, h3⟩, _⟩ := h
  exact (Array.getElem?_eq_some_iff.1 h1).1
theorem Zw.keep (h : Zw w g cap l) (hk : w'.heap[g]? = w.heap[g]?) : Zw w' g cap l := by
  obtain ⟨⟨cur, h1, h2, h3⟩, h4⟩ := h
  exact ⟨⟨cur, by rw [hk]; exact h1, h2, h3⟩, h4⟩
theorem Zw.below (h : Zw w g cap l) (hb : Below w.heap.size w w') : Zw w' g cap l := h.keep (hb.block g h.lt)
theorem Zw.set (h : Zw w g cap l) {j : Nat} (hj : j < l.length) (x : Int) : Zw (w.setCell ⟨g, j, none⟩ (.int .i64 x)) g cap (l.set j x) := by
  obtain ⟨⟨cur, h1, h2, h3⟩, h4, h5⟩ := h
  refine ⟨⟨cur.setIfInBounds j (.int .i64 x), ?_, by simpa using h2, fun i hi => ?_⟩, by simpa using h4, h5⟩
  · rw [Sort.setCell_eq]
    simp [Sort.mapBlock, Array.getElem?_modify, h1, Sort.onCells]
  · rw [nth_at hi]
    rw [List.length_set] at hi
    by_cases e : j = i
    · subst e
      rw [Array.getElem?_setIfInBounds, if_pos rfl, if_pos (by omega), List.getElem_set_self]
    · rw [Array.getElem?_setIfInBounds, if_neg e, List.getElem_set_ne e, h3 i hi, nth_at hi]
theorem Zw.own {base : Nat} (h : Zw w g cap l) (hb : base ≤ g) : w.ownsRow base 3 1 (.slice (some ⟨g, 0, none⟩) l.length cap) l.length (cellsN l) := by
  obtain ⟨⟨cur, h1, h2, h3⟩, h4, h5⟩ := h
  refine ⟨by simp, .inr ⟨g, cap, cur, rfl, hb, h1, h4, h5, by omega, ?_⟩⟩
  apply List.ext_getElem?
  intro j
  by_cases hj : j < l.length
  · rw [List.getElem?_take, if_pos (by omega), Array.getElem?_toList, h3 j hj, nth_at hj]
    simp [hj]
  · rw [List.getElem?_take, if_neg (by omega), List.getElem?_eq_none (by simp; omega)]
theorem own_zw {base n : Nat} (h : w.ownsRow base 3 1 (.slice (some ⟨g, 0, none⟩) n cap) n (cellsN l)) : Zw w g cap l ∧ base ≤ g ∧ n = l.length := by
  obtain ⟨h1, h2⟩ := h
  have hn : l.length = n := by simpa using h1
  subst hn
  rcases h2 with ⟨h, _⟩ | ⟨g', cap', cur, e1, hb, hg, hnc, hcm, hcs, htake⟩
  · cases h
  · simp only [Value.slice.injEq, Option.some.injEq, Addr.mk.injEq] at e1
    obtain ⟨⟨rfl, _⟩, _, rfl⟩ := e1
    refine ⟨⟨⟨cur, hg, by omega, fun i hi => ?_⟩, hnc, hcm⟩, hb, rfl⟩
    have e := congrArg (fun l => l[i]?) htake
    simp only [List.getElem?_take, Nat.mul_one, if_pos hi, List.getElem?_map, List.getElem?_eq_getElem hi] at e
    rw [← Array.getElem?_toList, e, nth_at hi]; rfl
theorem Zw.nv (h : Zw w g cap l) (hl : In64 l) : Nv w (.slice (some ⟨g, 0, none⟩) l.length cap) l := own_nv (h.own (Nat.zero_le _)) hl


end

end Go.Proofs.YtopjedgknbbgkaaGreat

namespace Go.Proofs.YtopjedgknbbgkaaGreat

open Ieee Go.RowKit



def Fwd (a b : List Int) : Prop := a.length = b.length ∧ ∀ i, i < a.length → nth a i ≤ nth b i
def fwdB (a b : List Int) : Bool := decide (a.length = b.length ∧ ∀ i, i < a.length → nth a i ≤ nth b i)
theorem Fwd.yes {a b : List Int} (h : Fwd a b) : fwdB a b = true := decide_eq_true (p := a.length = b.length ∧ ∀ i, i < a.length → nth a i ≤ nth b i) h
theorem Fwd.no {a b : List Int} (h : ¬ Fwd a b) : fwdB a b = false := decide_eq_false (p := a.length = b.length ∧ ∀ i, i < a.length → nth a i ≤ nth b i) h
theorem Fwd.of {a b : List Int} (h : fwdB a b = true) : Fwd a b := of_decide_eq_true (p := a.length = b.length ∧ ∀ i, i < a.length → nth a i ≤ nth b i) h
theorem Nv.form {w : World} {v : Value} {l : List Int} (h : Nv w v l) : ∃ ao cap, v = .slice ao l.length cap ∧ (l.length : Int) ≤ 9223372036854775807 ∧ l.length ≤ cap ∧ cap ≤ maxLen := by
  obtain ⟨⟨ao, cap, e, h1, h2, h3, h4⟩, h5⟩ := h
  exact ⟨ao, cap, e, by simp only [maxLen] at h2; omega, h1, h2⟩
theorem Nv.at {w : World} {ao : Option Addr} {n cap : Nat} {l : List Int} (h : Nv w (.slice ao n cap) l) {i : Nat} (hi : i < l.length) : ∃ b off, ao = some ⟨b, off, none⟩ ∧ w.cell? ⟨b, off + i, none⟩ = some (.int .i64 (nth l i)) := by
  obtain ⟨⟨ao', cap', e, h1, h2, h3, h4⟩, h5⟩ := h
  cases e
  exact h4 i hi
theorem Nv.in64 {w : World} {v : Value} {l : List Int} (h : Nv w v l) : In64 l := h.2


section

variable {av bv : Value} {a b : List Int} {w : World}



set_option maxRecDepth 100000 in
theorem fwd_walk (ha : Nv w av a) (hb : Nv w bv b) :
    Calls Tryz.prog 45 #[av, bv] w fun e w' => e = .returned (.bool (fwdB a b)) ∧ Below w.heap.size w w' := by
  have HA : Hid (Nv w av a) := ha
  have HB : Hid (Nv w bv b) := hb
  obtain ⟨ao, ca, rfl, hla, _⟩ := ha.form
  obtain ⟨bo, cb, rfl, hlb, _⟩ := hb.form
  clear ha hb
  by_cases hl : a.length = b.length
  · have hln : ((a.length : Int) != (b.length : Int)) = false := by simp [hl]
    have HL : Hid (a.length = b.length) := hl
    clear hl
    go_enter Tryz.func45, Tryz.ntmps45
    go_wp2_with fail
    go_loopw [13] (fun iv wr => ∃ k : Nat, k ≤ a.length ∧ iv = .int .i64 k ∧ (∀ i, i < k → nth a i ≤ nth b i) ∧ Below w.heap.size w wr) (fun iv _ => a.length - (intOf iv).toNat)
    case atStart => exact ⟨0, Nat.zero_le _, rfl, fun i hi => by omega, below_same _⟩
    case round =>
      obtain ⟨k, hk, rfl, hall, hB⟩ := hrel
      have HALL : Hid (∀ i, i < k → nth a i ≤ nth b i) := hall
      have HW : Hid (Below w.heap.size w wr) := hB
      clear hB hall
      by_cases hlt : k < a.length
      · have hltb : k < b.length := by have := HL.out; omega
        obtain ⟨g, off, rfl, c0⟩ := (HA.out.below HW.out).at hlt
        obtain ⟨d, doff, rfl, d0⟩ := (HB.out.below HW.out).at hltb
        obtain ⟨x, hx⟩ : ∃ x, x = nth a k := ⟨_, rfl⟩
        obtain ⟨y, hy⟩ : ∃ y, y = nth b k := ⟨_, rfl⟩
        rw [← hx] at c0
        rw [← hy] at d0
        have HX : Hid (x = nth a k) := hx
        have HY : Hid (y = nth b k) := hy
        clear hx hy
        have hlti : (k : Int) < (a.length : Int) := by omega
        have hltbi : (k : Int) < (b.length : Int) := by omega
        by_cases hle : y < x
        · have HD : Hid (fwdB a b = false) := by
            show _ = _
            refine Fwd.no fun h => ?_
            have := h.2 k hlt
            rw [← HX.out, ← HY.out] at this
            omega
          go_wp2_with fail
          go_quiet (fail)
          go_wp2_with fail
          go_ret
          exact ⟨HD.out ▸ rfl, below_trans HW.out (below_drewN _ _)⟩
        · go_wp2_with fail
          go_quiet (fail)
          go_wp2_with fail
          go_roundw
          case rel =>
            refine ⟨k + 1, by omega, by go_num, fun i hi => ?_, below_trans HW.out (below_drewN _ _)⟩
            by_cases hik : i = k
            · subst hik; rw [← HX.out, ← HY.out]; omega
            · exact HALL.out i (by omega)
          case measure => simp [intOf]; omega
      · have hnl : ¬ ((k : Int) < (a.length : Int)) := by omega
        have HD : Hid (fwdB a b = true) := Fwd.yes ⟨HL.out, fun i hi => HALL.out i (by omega)⟩
        go_wp2_with fail
        go_ret
        exact ⟨HD.out ▸ rfl, HW.out⟩
  · have hln : ((a.length : Int) != (b.length : Int)) = true := by simp; omega
    have HD : Hid (fwdB a b = false) := Fwd.no fun h => hl h.1
    clear hl
    go_enter Tryz.func45, Tryz.ntmps45
    go_wp2_with fail
    go_ret
    exact ⟨HD.out ▸ rfl, below_same _⟩






end

end Go.Proofs.YtopjedgknbbgkaaGreat
