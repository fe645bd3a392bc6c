/- Produce, walked. -/
import Derived.Test.YtjkhegekojflhabVe
import Derived.Deep.RegionLaw
import Derived.Deep.DeepCutAuto
namespace Go.Proofs.Ytjkhegekojflhab
open Ieee Go.RowKit
attribute [local go_sem] run_store_float

section
variable {D : Nat → Prop} {w : World} {v : Value} {S : Sc}

/-- What Produce leaves. -/
def Pr6 (D : Nat → Prop) (w : World) (v : Value) (S : Sc) (p : Int) (r : Rcd) (e : Ending) (w' : World) : Prop :=
  e = .returned (.int .i64 (prodS S p r).1) ∧ (∃ D', Src D' w' v (prodS S p r).2 ∧ Ch D w w' ∧ ∀ b, D' b → D b ∨ w.heap.size ≤ b) ∧ ((prodS S p r).1 ≠ 0 → Below w.heap.size w w')

theorem pr6_same {p : Int} {r : Rcd} {w' : World} {c : Int} (h : Src D w v S) (hp : prodS S p r = (c, S)) (hb : Below w.heap.size w w') : Pr6 D w v S p r (.returned (.int .i64 c)) w' := by
  unfold Pr6
  rw [hp]
  exact ⟨rfl, ⟨D, h.below hb, Ch.of_below hb, fun b hb => .inl hb⟩, fun _ => hb⟩

theorem pr6_add {q : Nat} {r : Rcd} {w1 w2 : World} {v' : Value} {sb gp gm : Nat} {lv : Value} {rv : Nat → Value} {ks : List Nat} (hq : q < S.np) (hl : ¬ 256 ≤ (S.logs q).length) (hr : r.ok) (hok : S.ok) (hv : v = .pointer (some ⟨sb, 0, none⟩))
    (hk : ((runS S.list r).1 = 1 ∧ ks = insK (runS S.list r).2.k S.keys ∧ ((runS S.list r).2.k ∈ S.keys ∨ S.keys.length < 64)) ∨ ((runS S.list r).1 ≠ 1 ∧ ks = S.keys))
    (hc : Ch D w w1) (hs : SM D w1 sb gp gm lv rv { S with keys := ks }) (ho : w2.ownsRow 0 40 2 v' ((S.logs q).length + 1) (flatR (S.logs q ++ [r]))) (hg : w1.grownBy w2 (rv q).ownBlock) (hat : v'.ownBlock = (rv q).ownBlock ∨ v'.ownBlock = some w1.heap.size) :
    Pr6 D w v S q r (.returned (.int .i64 0)) (w2.setCell ⟨gp, q * 2, none⟩ v') := by
  have hh : hasS S q := ⟨by omega, by omega⟩
  have hp : prodS S q r = (0, addS S q r ks) := by
    unfold prodS
    rw [if_pos hh, if_neg (by simpa using hl)]
    rcases hk with ⟨h1, rfl, h2⟩ | ⟨h1, rfl⟩
    · rw [if_pos h1, if_pos h2]; rfl
    · rw [if_neg h1]; rfl
  have hm := hs.addR hq hg ho hat
  unfold Pr6
  rw [hp]
  refine ⟨rfl, ⟨_, ⟨sb, gp, gm, lv, _, hv, hm, ok_add hok hq hl hr hk⟩, ?_, ?_⟩, fun h => absurd rfl h⟩
  · have h1 : Ch (fun x => D x) w1 w2 := Ch.of_grown hg (fun x hx => hs.d2 q x hq hx)
    have h2 : Ch (fun x => D x) w2 (w2.setCell ⟨gp, q * 2, none⟩ v') := Ch.of_grown (grown_set w2 gp _ _) (fun x hx => by cases hx; exact hs.d1.2.1)
    exact (hc.trans h1 (fun x hx => .inl hx)).trans h2 (fun x hx => .inl hx)
  · rintro b (hb | hb)
    · exact .inl hb
    · rcases hat with e | e
      · rw [e] at hb; exact .inl (hs.d2 q b hq hb)
      · rw [hb] at e; simp at e; have := hc.size; right; omega

theorem below_alloc_drew1 (w : World) (o : Obj) : Below w.heap.size w (w.alloc o).drew := (below_alloc w o).drew
theorem after_app {w w7 : World} {o : Obj} {x : Option Nat} {g i : Nat} {u : Value} (h : (w.alloc o).drew.grownBy w7 x) (hl : g < w.heap.size) (hx : x ≠ some g) (hc : w.cell? ⟨g, i, none⟩ = some u) : w7.cell? ⟨g, i, none⟩ = some u := by
  have hb : w7.heap[g]? = w.heap[g]? := by
    rw [h.block g (Nat.lt_of_lt_of_le hl (below_alloc_drew1 w o).size) (fun e => hx e.symm)]
    exact (below_alloc_drew1 w o).block g hl
  rw [World.cell?_of_block (w := w) (a := ⟨g, i, none⟩) hb]; exact hc
theorem after_app' {w w7 : World} {o : Obj} {x : Option Nat} {g i : Nat} (h : (w.alloc o).drew.grownBy w7 x) (hl : g < w.heap.size) (hx : x ≠ some g) (hc : w.frozen? ⟨g, i, none⟩ = false) : w7.frozen? ⟨g, i, none⟩ = false := by
  have hb : w7.heap[g]? = w.heap[g]? := by
    rw [h.block g (Nat.lt_of_lt_of_le hl (below_alloc_drew1 w o).size) (fun e => hx e.symm)]
    exact (below_alloc_drew1 w o).block g hl
  rw [World.frozen?_of_block (w := w) (a := ⟨g, i, none⟩) hb]; exact hc
def KsOk (S : Sc) (r : Rcd) (ks : List Nat) : Prop := ((runS S.list r).1 = 1 ∧ ks = insK (runS S.list r).2.k S.keys ∧ ((runS S.list r).2.k ∈ S.keys ∨ S.keys.length < 64)) ∨ ((runS S.list r).1 ≠ 1 ∧ ks = S.keys)
theorem pr6_app {q : Nat} {r : Rcd} {w1 w2 : World} {v' : Value} {sb gp gm : Nat} {lv : Value} {rv : Nat → Value} {ks : List Nat} {o : Obj} (hq : q < S.np) (hl : ¬ 256 ≤ (S.logs q).length) (hr : r.ok) (hok : S.ok) (hv : v = .pointer (some ⟨sb, 0, none⟩))
    (hk : KsOk S r ks)
    (hc : Ch D w w1) (hs : SM D w1 sb gp gm lv rv { S with keys := ks }) (ho : w2.ownsRow 0 40 2 v' ((S.logs q).length + 1) (flatR (S.logs q ++ [r]))) (hg : (w1.alloc o).drew.grownBy w2 (rv q).ownBlock) (hat : v'.ownBlock = (rv q).ownBlock ∨ v'.ownBlock = some (w1.alloc o).drew.heap.size) :
    Pr6 D w v S q r (.returned (.int .i64 0)) (w2.setCell ⟨gp, q * 2, none⟩ v') := by
  have hb : Below w1.heap.size w1 (w1.alloc o).drew := below_alloc_drew1 w1 o
  exact pr6_add hq hl hr hok hv hk (hc.trans (Ch.of_below (D := D) hb) (fun x hx => .inl hx)) (hs.below hb) ho hg hat

set_option maxRecDepth 100000 in
set_option maxHeartbeats 4000000 in
theorem produce_walk (h : Src D w v S) (p : Int) {r : Rcd} (hr : r.ok) : Calls Try.prog 16 #[v, .int .i64 p, .agg #[.int .u64 r.k, .float .f64 r.x]] w fun e w' => Pr6 D w v S p r e w' := by
  have HW : Hid (Src D w v S) := h
  obtain ⟨sb, gp, gm, lv, rv, rfl, h, hok⟩ := h
  have HS : Hid (SM D w sb gp gm lv rv S) := h
  have HK : Hid S.ok := hok
  have HRK : Hid r.ok := hr
  clear h hok hr
  by_cases hh : hasS S p
  · obtain ⟨q, rfl, hq⟩ := has_nat hh
    obtain ⟨n, hn⟩ : ∃ n, n = (S.logs q).length := ⟨_, rfl⟩
    have HN : Hid (n = (S.logs q).length) := hn
    obtain ⟨ao, cap, hrv, _⟩ := row_form (HS.out.rows q hq)
    rw [← hn] at hrv
    have HRV : Hid (rv q = .slice ao n cap) := hrv
    have hn256 : n ≤ 256 := by rw [hn]; exact HK.out.len q
    obtain ⟨w0, hw0⟩ : ∃ w0, w0 = w.alloc (Obj.cells #[.int .u64 r.k, .float .f64 r.x] 40) := ⟨_, rfl⟩
    have HB0 : Hid (Below w.heap.size w w0) := by show Below _ _ _; rw [hw0]; exact below_alloc _ _
    have HS0 : Hid (SM D w0 sb gp gm lv rv S) := HS.out.below HB0.out
    have k0 : w0.cell? ⟨w.heap.size, 0, none⟩ = some (.int .u64 r.k) := by rw [hw0]; simp [go_sem]
    have k1 : w0.cell? ⟨w.heap.size, 1, none⟩ = some (.float .f64 r.x) := by rw [hw0]; simp [go_sem]
    have p0 : w0.cell? ⟨gp, q * 2, none⟩ = some (.slice ao n cap) := by rw [HS0.out.p0 hq, hrv]
    have c0 := HS0.out.c0
    have HZ : Hid (w.heap.size < w0.heap.size) := by show _ < _; rw [hw0]; simp
    have HW0 : Hid (w0 = w.alloc (Obj.cells #[.int .u64 r.k, .float .f64 r.x] 40)) := hw0
    clear hn hrv hh hw0
    by_cases hfull : 256 ≤ n
    · have HP : Hid (prodS S q r = (61, S)) := by
        show _ = _
        unfold prodS
        rw [if_pos ⟨by omega, by omega⟩, if_pos (by rw [HN.out] at hfull; simpa using hfull)]
      go_enter Try.func16, Try.ntmps16
      go_wp2_with fail
      rw [← HW0.out]
      refine (part_ok HS0.out HK.out hq).mono ?_
      rintro e w9 ⟨rfl, h9⟩
      replace h9 := h9.symm
      subst h9
      go_wp2_with fail
      go_ret
      exact pr6_same HW.out HP.out HB0.out
    · obtain ⟨R, hR⟩ : ∃ R, R = runS S.list r := ⟨_, rfl⟩
      have HR : Hid (R = runS S.list r) := hR
      have HKO : Hid (R.2.k < 18446744073709551616) := by show _ < _; rw [hR]; exact (runS_ok S.list HRK.out).1
      have HF : Hid (¬ 256 ≤ (S.logs q).length) := by show ¬ _; rw [← HN.out]; exact hfull
      clear hR
      go_enter Try.func16, Try.ntmps16
      go_wp2_with fail
      rw [← HW0.out]
      refine (part_ok HS0.out HK.out hq).mono ?_
      rintro e w9 ⟨rfl, h9⟩
      replace h9 := h9.symm
      subst h9
      have j0 : ∀ wx, Below w0.heap.size w0 wx → wx.cell? ⟨w.heap.size, 0, none⟩ = some (.int .u64 r.k) := fun wx hb => by rw [hb.cell (p := ⟨w.heap.size, 0, none⟩) HZ.out]; exact k0
      have j1 : ∀ wx, Below w0.heap.size w0 wx → wx.cell? ⟨w.heap.size, 1, none⟩ = some (.float .f64 r.x) := fun wx hb => by rw [hb.cell (p := ⟨w.heap.size, 1, none⟩) HZ.out]; exact k1
      have j2 : ∀ wx, Below w0.heap.size w0 wx → wx.cell? ⟨sb, 0, none⟩ = some lv := fun wx hb => (HS0.out.below hb).c0
      go_wp2_with fail
      go_cut [9, 10] (fun kv bv wx => kv = .int .u64 R.2.k ∧ bv = .bool (R.1 == 1) ∧ Below w0.heap.size w0 wx)
      case first =>
        go_region_held3 (fun wx => Below w0.heap.size w0 wx) (first | assumption | exact (Below.refl _ _).drew)
          (first | (go_at_call 31; refine (key_walk r HRK.out ((HS0.out.below (by assumption)).list)).mono ?_; rw [← HR.out]; rintro e w5 ⟨rfl, hB3⟩; have hS3 : Below w0.heap.size w0 w5 := below_trans (by assumption) hB3))
        all_goals go_wp2_with fail
        all_goals go_meet
        all_goals exact ⟨rfl, rfl, by assumption⟩
      case rest =>
        obtain ⟨rfl, rfl, hBc⟩ := hcut
        have HB1 : Hid (Below w.heap.size w wc) := below_trans HB0.out hBc
        have HS1 : Hid (SM D wc sb gp gm lv rv S) := HS0.out.below hBc
        have x0 := j0 wc hBc
        have x1 := j1 wc hBc
        have HXL : Hid (w.heap.size < wc.heap.size) := Nat.lt_of_lt_of_le HZ.out hBc.size
        clear j0 j1 j2 k0 k1 p0 c0 hBc
        by_cases hf : R.1 = 1
        · have hfb : (R.1 == 1) = true := by simp [hf]
          have HFR : Hid ((runS S.list r).1 = 1) := by show _ = _; rw [← HR.out]; exact hf
          rw [hfb]
          clear hf hfb
          go_wp2_with fail
          refine (takes_walk HS1.out HKO.out).mono ?_
          rintro e w2 ⟨rfl, hB2⟩
          by_cases ht : R.2.k ∈ S.keys ∨ S.keys.length < 64
          · rw [decide_eq_true ht]
            have HS2 : Hid (SM D w2 sb gp gm lv rv S) := HS1.out.below hB2
            have y0 : w2.cell? ⟨w.heap.size, 0, none⟩ = some (.int .u64 r.k) := by rw [hB2.cell (p := ⟨w.heap.size, 0, none⟩) HXL.out]; exact x0
            have y1 : w2.cell? ⟨w.heap.size, 1, none⟩ = some (.float .f64 r.x) := by rw [hB2.cell (p := ⟨w.heap.size, 1, none⟩) HXL.out]; exact x1
            have HB2 : Hid (Below w.heap.size w w2) := below_trans HB1.out hB2
            have c2 := HS2.out.c2
            have HKT : Hid (R.2.k ∈ S.keys ∨ S.keys.length < 64) := ht
            have HL2 : Hid (w.heap.size < w2.heap.size) := Nat.lt_of_lt_of_le HXL.out hB2.size
            clear x0 x1 hB2 ht
            go_wp2_with (at_mapUpdate; refine wpList_mapUpdate_own _ rfl _ _ _ 71 rfl 37 86 law_k Try.underlying71 unitElem gm S.keys.length (dK S.keys) rfl HS2.out.keys (by have := HK.out.kl; simp only [maxLen]; omega) _ _ (kK R.2.k) rfl rfl (key_k HKO.out) (.agg []) [] unitElem_mk ?_; intro w3 hown3 hg3; go_frame)
            rw [put_K HK.out.kr] at hown3
            have HX : Hid (SM D w3 sb gp gm lv rv { S with keys := insK R.2.k S.keys }) := HS2.out.addK hg3 (ks_tight hown3)
            have HCH : Hid (Ch D w w3) := (Ch.of_below HB2.out).trans (Ch.of_grown (D := D) hg3 (fun x hx => by cases hx; exact HS2.out.d1.2.2)) (fun x hx => .inl hx)
            have hgmn : w.heap.size ≠ gm := by have := HS.out.dl gm HS.out.d1.2.2; omega
            have x0 : w3.cell? ⟨w.heap.size, 0, none⟩ = some (.int .u64 r.k) := hg3.cell y0 (by simpa using hgmn)
            have x1 : w3.cell? ⟨w.heap.size, 1, none⟩ = some (.float .f64 r.x) := hg3.cell y1 (by simpa using hgmn)
            have HKS : Hid (KsOk S r (insK R.2.k S.keys)) := by
              refine .inl ⟨HFR.out, ?_, ?_⟩
              · rw [HR.out]
              · rw [← HR.out]; exact HKT.out
            clear hown3 hg3 y0 y1 c2 hgmn
            have xp : w3.cell? ⟨gp, q * 2, none⟩ = some (.slice ao n cap) := by rw [HX.out.p0 hq, HRV.out]
            have xf := HX.out.soft (q * 2)
            have xp' : ∀ o, (w3.alloc o).cell? ⟨gp, q * 2, none⟩ = some (.slice ao n cap) := fun o => by rw [(HX.out.below (below_alloc w3 o)).p0 hq, HRV.out]
            have y0' : ∀ o, (w3.alloc o).cell? ⟨w.heap.size, 0, none⟩ = some (.int .u64 r.k) := fun o => by rw [(below_alloc w3 o).cell (p := ⟨w.heap.size, 0, none⟩) (cell_lt x0)]; exact x0
            have y1' : ∀ o, (w3.alloc o).cell? ⟨w.heap.size, 1, none⟩ = some (.float .f64 r.x) := fun o => by rw [(below_alloc w3 o).cell (p := ⟨w.heap.size, 1, none⟩) (cell_lt x1)]; exact x1
            have HOW : Hid (w3.ownsRow 0 40 2 (.slice ao n cap) n (flatR (S.logs q))) := by have := HX.out.rows q hq; rw [HRV.out, ← HN.out] at this; exact this
            have HGL : Hid (gp < w3.heap.size) := HX.out.dl gp HX.out.d1.2.1
            have HNG : Hid ((Value.slice ao n cap).ownBlock ≠ some gp) := by show _ ≠ _; rw [← HRV.out]; exact fun e => (HX.out.a4 q gp hq e).2.1 rfl
            go_wp2_with fail
            go_region_law (refine step_app_own rfl (.tmp 50) (.tmp 52) 22 rfl 40 Try.underlying22 info_rec (.slice ao n cap) n (S.logs q) (by simp [Act.eval]) (show World.ownsRow (w3.alloc (Obj.cells #[.int .u64 r.k, .float .f64 r.x] 40)) 0 _ 2 _ n _ from HOW.out.alloc _) w3.heap.size r (by simp [Act.eval]) (by simp [go_sem]) (by simp [go_sem]) (by omega) ?_; intro v' w7 g1 g2 g3; obtain ⟨ao', cap', hv', _⟩ := row_form g1; subst hv'; have z0 : w7.cell? ⟨gp, q * 2, none⟩ = some (.slice ao n cap) := after_app g2 HGL.out HNG.out xp; have z1 : w7.frozen? ⟨gp, q * 2, none⟩ = false := after_app' g2 HGL.out HNG.out xf)
            all_goals go_wp2_with fail
            all_goals go_ret
            all_goals exact pr6_app (ks := insK R.2.k S.keys) hq HF.out HRK.out HK.out rfl HKS.out HCH.out HX.out (by rw [← HN.out]; exact g1) (by rw [HRV.out]; exact g2) (by rw [HRV.out]; exact g3)
          · rw [decide_eq_false ht]
            have HP : Hid (prodS S q r = (62, S)) := by
              show _ = _
              unfold prodS
              rw [if_pos ⟨by omega, by omega⟩, if_neg (by simpa using HF.out), if_pos HFR.out, if_neg (by rw [← HR.out]; exact ht)]
            have HB2 : Hid (Below w.heap.size w w2) := below_trans HB1.out hB2
            clear ht hB2
            go_wp2_with fail
            go_ret
            exact pr6_same HW.out HP.out HB2.out
        · have hfb : (R.1 == 1) = false := by simpa using hf
          have HX : Hid (SM D wc sb gp gm lv rv { S with keys := S.keys }) := HS1.out
          have HCH : Hid (Ch D w wc) := Ch.of_below HB1.out
          have HKS : Hid (KsOk S r S.keys) := .inr ⟨by rw [← HR.out]; exact hf, rfl⟩
          rw [hfb]
          clear hf hfb
          have xp : wc.cell? ⟨gp, q * 2, none⟩ = some (.slice ao n cap) := by rw [HX.out.p0 hq, HRV.out]
          have xf := HX.out.soft (q * 2)
          have xp' : ∀ o, (wc.alloc o).cell? ⟨gp, q * 2, none⟩ = some (.slice ao n cap) := fun o => by rw [(HX.out.below (below_alloc wc o)).p0 hq, HRV.out]
          have y0' : ∀ o, (wc.alloc o).cell? ⟨w.heap.size, 0, none⟩ = some (.int .u64 r.k) := fun o => by rw [(below_alloc wc o).cell (p := ⟨w.heap.size, 0, none⟩) (cell_lt x0)]; exact x0
          have y1' : ∀ o, (wc.alloc o).cell? ⟨w.heap.size, 1, none⟩ = some (.float .f64 r.x) := fun o => by rw [(below_alloc wc o).cell (p := ⟨w.heap.size, 1, none⟩) (cell_lt x1)]; exact x1
          have HOW : Hid (wc.ownsRow 0 40 2 (.slice ao n cap) n (flatR (S.logs q))) := by have := HX.out.rows q hq; rw [HRV.out, ← HN.out] at this; exact this
          have HGL : Hid (gp < wc.heap.size) := HX.out.dl gp HX.out.d1.2.1
          have HNG : Hid ((Value.slice ao n cap).ownBlock ≠ some gp) := by show _ ≠ _; rw [← HRV.out]; exact fun e => (HX.out.a4 q gp hq e).2.1 rfl
          go_wp2_with fail
          go_region_law (refine step_app_own rfl (.tmp 50) (.tmp 52) 22 rfl 40 Try.underlying22 info_rec (.slice ao n cap) n (S.logs q) (by simp [Act.eval]) (show World.ownsRow (wc.alloc (Obj.cells #[.int .u64 r.k, .float .f64 r.x] 40)) 0 _ 2 _ n _ from HOW.out.alloc _) wc.heap.size r (by simp [Act.eval]) (by simp [go_sem]) (by simp [go_sem]) (by omega) ?_; intro v' w7 g1 g2 g3; obtain ⟨ao', cap', hv', _⟩ := row_form g1; subst hv'; have z0 : w7.cell? ⟨gp, q * 2, none⟩ = some (.slice ao n cap) := after_app g2 HGL.out HNG.out xp; have z1 : w7.frozen? ⟨gp, q * 2, none⟩ = false := after_app' g2 HGL.out HNG.out xf)
          all_goals go_wp2_with fail
          all_goals go_ret
          all_goals exact pr6_app (ks := S.keys) hq HF.out HRK.out HK.out rfl HKS.out HCH.out HX.out (by rw [← HN.out]; exact g1) (by rw [HRV.out]; exact g2) (by rw [HRV.out]; exact g3)
  · have HP : Hid (prodS S p r = (60, S)) := by show _ = _; unfold prodS; rw [if_neg hh]
    have HN : Hid (p < 0 ∨ (S.np : Int) ≤ p) := not_has hh
    have HB0 : Hid (Below w.heap.size w (w.alloc (Obj.cells #[.int .u64 r.k, .float .f64 r.x] 40))) := below_alloc _ _
    clear hh
    go_enter Try.func16, Try.ntmps16
    go_wp2_with (go_at_call 30; refine (part_no (HS.out.below HB0.out) HK.out HN.out).mono ?_; rintro e w9 ⟨rfl, h9⟩; have h9 := h9.symm; subst h9)
    go_ret
    exact pr6_same HW.out HP.out HB0.out
end
end Go.Proofs.Ytjkhegekojflhab
