/- The reader: a step's line. Printed by gen_sl21.py. -/
import Derived.Test.YtkiplcmndpdifaaGreatDoorSk

namespace Go.Proofs.YtkiplcmndpdifaaGreatDoor

open Go.RowKit

attribute [local go_sem] run_store_float


theorem form_g {v : Bs} {f : Fm} (h : formW v = some f) : f.g = 13 ∨ f.g = 3 ∨ f.g = 0 ∨ f.g = 2 ∨ f.g = 1 ∨ f.g = 4 := by
  have hm := List.mem_of_find?_eq_some h
  have hall : ∀ x ∈ formL, x.g = 13 ∨ x.g = 3 ∨ x.g = 0 ∨ x.g = 2 ∨ x.g = 1 ∨ x.g = 4 := by decide
  exact hall f hm


def StepGot (B R : Nat) (r : Rd) (F : Option Fm) (A : Option (Rs × List Bs)) (w : World) (e : Ending) (w' : World) : Prop :=
  match F with
  | none => Bad B R r.ln 210 w e w'
  | some _ => LineGot B R r A w e w'


def stAs (F : Option Fm) (r : Rd) : Option (Rs × List Bs) := match F with
  | none => none
  | some f => (stA f r.ws).map fun x => ({ r.s with sts := r.s.sts ++ [x.1] }, x.2)


section

variable {B R M : Nat} {r : Rd} {ov sv : Value} {w : World}



theorem RM.apart (h : RM B R r ov sv M w) {g : Nat} (hg : w.heap.size ≤ g) : R ≠ g ∧ R ≤ g ∧ (∀ x, ov.ownBlock = some x → x ≠ g) ∧ (∀ x, sv.ownBlock = some x → x ≠ g) := by
  have := blk_lt h.blk
  exact ⟨by omega, by omega, fun x hx => by have := (h.ops.lt x hx).2; omega, fun x hx => by have := (h.sts.lt x hx).2; omega⟩


set_option maxRecDepth 100000 in
set_option maxHeartbeats 8000000 in
theorem takeStep_13 (h : RM B R r ov sv M w) (hon : r.s.sts.length ≤ 4096) {v : Bs} {f : Fm} (hf : formW v = some f) (hfg : f.g = 13) :
    Calls Tryz.prog 50 #[.pointer (some ⟨R, 0, none⟩), S v] w (LineGot B R r ((stA f r.ws).map fun x => ({ r.s with sts := r.s.sts ++ [x.1] }, x.2)) w) := by
  have HR : Hid (RM B R r ov sv M w) := h
  have HON : Hid (r.s.sts.length ≤ 300000) := by show _ ≤ _; omega
  obtain ⟨A, hA⟩ : ∃ A, A = (stA f r.ws).map fun x => ({ r.s with sts := r.s.sts ++ [x.1] }, x.2) := ⟨_, rfl⟩
  rw [← hA]
  have HAA : Hid (A = (stA f r.ws).map fun x => ({ r.s with sts := r.s.sts ++ [x.1] }, x.2)) := hA
  have HFW := formNamed_walk v w h.tb
  have hfw : formL.find? (fun f => f.w == v) = some f := hf
  rw [hfw] at HFW
  simp only [FmA, FmV, Option.getD_some, Option.isSome_some, S, hfg] at HFW ⊢
  obtain ⟨kf, hfK⟩ : ∃ k, k = f.K := ⟨_, rfl⟩
  obtain ⟨fw, hfw2⟩ : ∃ k : ByteArray, k = ⟨f.w.toArray⟩ := ⟨_, rfl⟩
  rw [← hfK, ← hfw2] at HFW
  have HF : Hid (kf = f.K ∧ f.g = 13) := ⟨hfK, hfg⟩
  obtain ⟨t, ht⟩ : ∃ t : ByteArray, t = ⟨v.toArray⟩ := ⟨_, rfl⟩
  rw [← ht] at HFW ⊢
  have HFN : Hid (Calls Tryz.prog 62 #[.string t] w fun e w' => e = .returned (.tuple #[.agg #[.int .i64 kf, .string fw, .int .i64 13], .bool true]) ∧ Below w.heap.size w w') := HFW
  have b1 : bits .and .i64 13 1 = 1 := by decide +kernel
  have b2 : bits .and .i64 13 2 = 0 := by decide +kernel
  have b4 : bits .and .i64 13 4 = 4 := by decide +kernel
  have b8 : bits .and .i64 13 8 = 8 := by decide +kernel
  clear h hon hA HFW hf hfg hfw hfK hfw2 ht
  go_enter Tryz.func50, Tryz.ntmps50
  go_wp2_with fail
  refine HFN.out.mono ?_
  rintro e9 w0 ⟨rfl, hB0⟩
  have HR0 : Hid (RM B R r ov sv M w0) := HR.out.go hB0
  have HB0 : Hid (Below w.heap.size w w0) := hB0
  obtain ⟨gf, hgf⟩ : ∃ gf, gf = w0.heap.size := ⟨_, rfl⟩
  obtain ⟨w1, hw1⟩ : ∃ w1, w1 = w0.alloc (.cells #[.int .i64 kf, .string fw, .int .i64 13] 80) := ⟨_, rfl⟩
  have HW1 : Hid (gf = w0.heap.size ∧ w1 = w0.alloc (.cells #[.int .i64 kf, .string fw, .int .i64 13] 80)) := ⟨hgf, hw1⟩
  have HR1 : Hid (RM B R r ov sv M w1) := by show RM _ _ _ _ _ _ _; rw [hw1]; exact HR0.out.go (below_alloc _ _)
  have HF1 : Hid (w1.heap[gf]? = some (.cells #[.int .i64 kf, .string fw, .int .i64 13] 80 (0, 0))) := by show _ = _; rw [hw1]; exact alloc_at hgf
  have HB1 : Hid (Below w.heap.size w w1) := by show Below _ _ _; rw [hw1]; exact below_trans hB0 (below_alloc _ _)
  have HAF : Hid (R ≠ gf) := (HR0.out.apart (Nat.le_of_eq hgf.symm)).1
  clear hB0 hgf hw1 HFN
  go_wp2_with fail
  rw [← HW1.out.1, ← HW1.out.2]
  clear HW1
  refine (refuse_no 210 w1).mono ?_
  rintro e9 w9 ⟨rfl, hw9⟩
  replace hw9 := hw9.symm
  subst hw9
  have k0 : w1.cell? ⟨gf, 0, none⟩ = some (.int .i64 kf) := by rw [blk_cell HF1.out]; rfl
  have k2 : w1.cell? ⟨gf, 2, none⟩ = some (.int .i64 13) := by rw [blk_cell HF1.out]; rfl
  have kl : gf < w1.heap.size := blk_lt HF1.out
  have kn : ¬ gf = w1.heap.size := by omega
  obtain ⟨g, hg⟩ : ∃ g, g = w1.heap.size := ⟨_, rfl⟩
  obtain ⟨wa, hwa⟩ : ∃ wa, wa = w1.alloc (.cells #[.int .i64 kf, .int .i64 0, .int .i64 0, .int .u64 0, .float .f64 0] 41) := ⟨_, rfl⟩
  have HWA : Hid (g = w1.heap.size ∧ wa = w1.alloc (.cells #[.int .i64 kf, .int .i64 0, .int .i64 0, .int .u64 0, .float .f64 0] 41)) := ⟨hg, hwa⟩
  have HS0R : Hid (RM B R (Rd.mk r.ln r.ws r.fa r.s) ov sv M wa) := by show RM _ _ _ _ _ _ _; rw [hwa]; exact HR1.out.go (below_alloc _ _)
  have HS0F : Hid (wa.heap[gf]? = some (.cells #[.int .i64 kf, .string fw, .int .i64 13] 80 (0, 0))) := by show _ = _; rw [hwa]; exact alloc_old HF1.out
  have HS0G : Hid (wa.heap[g]? = some (.cells #[.int .i64 kf, .int .i64 0, .int .i64 0, .int .u64 0, .float .f64 0] 41 (0, 0))) := by show _ = _; rw [hwa]; exact alloc_at hg
  have HBA : Hid (Below w.heap.size w wa) := by show Below _ _ _; rw [hwa]; exact below_trans HB1.out (below_alloc _ _)
  have HS0C : Hid (Ch (fun x => x = R) w wa) := Ch.of_below HBA.out
  have HAP : Hid (R ≠ g ∧ R ≤ g ∧ (∀ x, ov.ownBlock = some x → x ≠ g) ∧ (∀ x, sv.ownBlock = some x → x ≠ g)) := HR1.out.apart (Nat.le_of_eq hg.symm)
  have HGF : Hid (gf ≠ g ∧ w.heap.size ≤ g) := ⟨by omega, by have := HB1.out.size; omega⟩
  have ka0 : wa.cell? ⟨gf, 0, none⟩ = some (.int .i64 kf) := by rw [blk_cell HS0F.out]; rfl
  have ka2 : wa.cell? ⟨gf, 2, none⟩ = some (.int .i64 13) := by rw [blk_cell HS0F.out]; rfl
  clear hwa hg
  have hgn : ¬ gf = g := HGF.out.1
  have hgm : ¬ g = gf := fun e => HGF.out.1 e.symm
  clear ka0 ka2
  go_wp2_with fail
  rw [← HWA.out.1, ← HWA.out.2]
  clear HWA k0 k2 kl kn
  refine (number_walk HS0R.out).mono ?_
  rintro e9 w2 hT
  have hT2 : Took B R M (Rd.mk r.ln r.ws r.fa r.s) ov sv ((nm r.ws).map fun x => (.int .i64 x.1, x.2)) wa e9 w2 := hT
  clear hT
  cases hn : nm r.ws with
  | none =>
    rw [hn] at hT2
    have hT' : Bad B R r.ln 211 wa e9 w2 := hT2
    have HAN : Hid (A = none) := by
      show _ = _
      rw [HAA.out]
      simp [stA, HF.out.2, onlyI, fN, hn]
    have HBD : Hid (Bad B R r.ln 211 w e9 w2) := Bad.from hT' (HS0C.out.le fun x hx => .inl hx)
    obtain ⟨⟨u, pv, rfl⟩, _⟩ := hT'
    clear hT2 hn
    go_wp2_with fail
    refine ⟨rfl, ?_⟩
    rw [HAN.out]
    exact HBD.out
  | some y =>
    obtain ⟨d, v1⟩ := y
    rw [hn] at hT2
    have HN0 : Hid (nm r.ws = some (d, v1)) := hn
    have hT' : Good B R M (Rd.mk r.ln r.ws r.fa r.s) ov sv (.int .i64 d) v1 wa e9 w2 := hT2
    obtain ⟨rfl, hr2, hc2⟩ := hT'
    have HQ : Hid (RM B R (Rd.mk r.ln v1 r.fa r.s) ov sv M w2) := hr2
    have HD : Hid (Ch (fun x => x = R) w w2) := HS0C.out.self hc2
    have HP : Hid (w2.heap[g]? = some (.cells #[.int .i64 kf, .int .i64 0, .int .i64 0, .int .u64 0, .float .f64 0] 41 (0, 0))) := blk_ch HS0G.out hc2 (fun e => HAP.out.1 e.symm)
    have HPF : Hid (w2.heap[gf]? = some (.cells #[.int .i64 kf, .string fw, .int .i64 13] 80 (0, 0))) := blk_ch HS0F.out hc2 (fun e => HAF.out e.symm)
    have c9 : w2.cell? ⟨g, 1, none⟩ = some (.int .i64 0) := by rw [blk_cell HP.out]; rfl
    have z9 : w2.frozen? ⟨g, 1, none⟩ = false := blk_soft HP.out 1
    obtain ⟨wb, hwy⟩ : ∃ wy, wy = w2.setCell ⟨g, 1, none⟩ (.int .i64 d) := ⟨_, rfl⟩
    have HWY : Hid (wb = w2.setCell ⟨g, 1, none⟩ (.int .i64 d)) := hwy
    have HS1R : Hid (RM B R (Rd.mk r.ln v1 r.fa r.s) ov sv M wb) := by
      show RM _ _ _ _ _ _ _
      rw [hwy]
      exact HQ.out.keep (ch_set _ _ _ _) HAP.out.1 HAP.out.2.2.1 HAP.out.2.2.2 HAP.out.2.1
    have HS1G : Hid (wb.heap[g]? = some (.cells #[.int .i64 kf, .int .i64 d, .int .i64 0, .int .u64 0, .float .f64 0] 41 (0, 0))) := by
      show _ = _
      rw [hwy, set_row HP.out]
      rfl
    have HS1F : Hid (wb.heap[gf]? = some (.cells #[.int .i64 kf, .string fw, .int .i64 13] 80 (0, 0))) := by
      show _ = _
      rw [hwy, set_other _ HGF.out.1]
      exact HPF.out
    have HS1C : Hid (Ch (fun x => x = R) w wb) := by
      show Ch _ _ _
      rw [hwy]
      exact HD.out.trans (ch_set _ _ _ _) (fun x hx => .inr (by rw [hx]; exact HGF.out.2))
    have ka3 : wb.cell? ⟨gf, 2, none⟩ = some (.int .i64 13) := by rw [blk_cell HS1F.out]; rfl
    clear hT2 hn hr2 hc2 hwy
    have kw : w2.cell? ⟨gf, 2, none⟩ = some (.int .i64 13) := by rw [blk_cell HPF.out]; rfl
    clear ka3
    go_wp2_with fail
    rw [← HWY.out]
    clear HWY c9 z9 kw HQ HD HP HPF
    refine (key_walk HS1R.out).mono ?_
    rintro e9 w3 hT
    have hT2 : Took B R M (Rd.mk r.ln v1 r.fa r.s) ov sv ((ky v1).map fun x => (.int .u64 x.1, x.2)) wb e9 w3 := hT
    clear hT
    cases hn : ky v1 with
    | none =>
      rw [hn] at hT2
      have hT' : Bad B R r.ln 211 wb e9 w3 := hT2
      have HAN : Hid (A = none) := by
        show _ = _
        rw [HAA.out]
        simp [stA, HF.out.2, onlyI, fN, fK, onlyK, fU, HN0.out, hn]
      have HBD : Hid (Bad B R r.ln 211 w e9 w3) := Bad.from hT' (HS1C.out.le fun x hx => .inl hx)
      obtain ⟨⟨u, pv, rfl⟩, _⟩ := hT'
      clear hT2 hn
      go_wp2_with fail
      refine ⟨rfl, ?_⟩
      rw [HAN.out]
      exact HBD.out
    | some y =>
      obtain ⟨k, v2⟩ := y
      rw [hn] at hT2
      have HN1 : Hid (ky v1 = some (k, v2)) := hn
      have hT' : Good B R M (Rd.mk r.ln v1 r.fa r.s) ov sv (.int .u64 k) v2 wb e9 w3 := hT2
      obtain ⟨rfl, hr2, hc2⟩ := hT'
      have HQ : Hid (RM B R (Rd.mk r.ln v2 r.fa r.s) ov sv M w3) := hr2
      have HD : Hid (Ch (fun x => x = R) w w3) := HS1C.out.self hc2
      have HP : Hid (w3.heap[g]? = some (.cells #[.int .i64 kf, .int .i64 d, .int .i64 0, .int .u64 0, .float .f64 0] 41 (0, 0))) := blk_ch HS1G.out hc2 (fun e => HAP.out.1 e.symm)
      have HPF : Hid (w3.heap[gf]? = some (.cells #[.int .i64 kf, .string fw, .int .i64 13] 80 (0, 0))) := blk_ch HS1F.out hc2 (fun e => HAF.out e.symm)
      have c9 : w3.cell? ⟨g, 3, none⟩ = some (.int .u64 0) := by rw [blk_cell HP.out]; rfl
      have z9 : w3.frozen? ⟨g, 3, none⟩ = false := blk_soft HP.out 3
      obtain ⟨wc, hwy⟩ : ∃ wy, wy = w3.setCell ⟨g, 3, none⟩ (.int .u64 k) := ⟨_, rfl⟩
      have HWY : Hid (wc = w3.setCell ⟨g, 3, none⟩ (.int .u64 k)) := hwy
      have HS2R : Hid (RM B R (Rd.mk r.ln v2 r.fa r.s) ov sv M wc) := by
        show RM _ _ _ _ _ _ _
        rw [hwy]
        exact HQ.out.keep (ch_set _ _ _ _) HAP.out.1 HAP.out.2.2.1 HAP.out.2.2.2 HAP.out.2.1
      have HS2G : Hid (wc.heap[g]? = some (.cells #[.int .i64 kf, .int .i64 d, .int .i64 0, .int .u64 k, .float .f64 0] 41 (0, 0))) := by
        show _ = _
        rw [hwy, set_row HP.out]
        rfl
      have HS2F : Hid (wc.heap[gf]? = some (.cells #[.int .i64 kf, .string fw, .int .i64 13] 80 (0, 0))) := by
        show _ = _
        rw [hwy, set_other _ HGF.out.1]
        exact HPF.out
      have HS2C : Hid (Ch (fun x => x = R) w wc) := by
        show Ch _ _ _
        rw [hwy]
        exact HD.out.trans (ch_set _ _ _ _) (fun x hx => .inr (by rw [hx]; exact HGF.out.2))
      have ka4 : wc.cell? ⟨gf, 2, none⟩ = some (.int .i64 13) := by rw [blk_cell HS2F.out]; rfl
      clear hT2 hn hr2 hc2 hwy
      have kw : w3.cell? ⟨gf, 2, none⟩ = some (.int .i64 13) := by rw [blk_cell HPF.out]; rfl
      clear ka4
      go_wp2_with fail
      rw [← HWY.out]
      clear HWY c9 z9 kw HQ HD HP HPF
      refine (float_walk HS2R.out).mono ?_
      rintro e9 w4 hT
      have hT2 : Took B R M (Rd.mk r.ln v2 r.fa r.s) ov sv ((fl v2).map fun x => (.float .f64 x.1, x.2)) wc e9 w4 := hT
      clear hT
      cases hn : fl v2 with
      | none =>
        rw [hn] at hT2
        have hT' : Bad B R r.ln 211 wc e9 w4 := hT2
        have HAN : Hid (A = none) := by
          show _ = _
          rw [HAA.out]
          simp [stA, HF.out.2, onlyI, fN, fK, onlyK, fU, onlyF, fV, HN0.out, HN1.out, hn]
        have HBD : Hid (Bad B R r.ln 211 w e9 w4) := Bad.from hT' (HS2C.out.le fun x hx => .inl hx)
        obtain ⟨⟨u, pv, rfl⟩, _⟩ := hT'
        clear hT2 hn
        go_wp2_with fail
        refine ⟨rfl, ?_⟩
        rw [HAN.out]
        exact HBD.out
      | some y =>
        obtain ⟨x, v3⟩ := y
        rw [hn] at hT2
        have HN2 : Hid (fl v2 = some (x, v3)) := hn
        have hT' : Good B R M (Rd.mk r.ln v2 r.fa r.s) ov sv (.float .f64 x) v3 wc e9 w4 := hT2
        obtain ⟨rfl, hr2, hc2⟩ := hT'
        have HQ : Hid (RM B R (Rd.mk r.ln v3 r.fa r.s) ov sv M w4) := hr2
        have HD : Hid (Ch (fun x => x = R) w w4) := HS2C.out.self hc2
        have HP : Hid (w4.heap[g]? = some (.cells #[.int .i64 kf, .int .i64 d, .int .i64 0, .int .u64 k, .float .f64 0] 41 (0, 0))) := blk_ch HS2G.out hc2 (fun e => HAP.out.1 e.symm)
        have HPF : Hid (w4.heap[gf]? = some (.cells #[.int .i64 kf, .string fw, .int .i64 13] 80 (0, 0))) := blk_ch HS2F.out hc2 (fun e => HAF.out e.symm)
        have c9 : w4.cell? ⟨g, 4, none⟩ = some (.float .f64 0) := by rw [blk_cell HP.out]; rfl
        have z9 : w4.frozen? ⟨g, 4, none⟩ = false := blk_soft HP.out 4
        obtain ⟨wd, hwy⟩ : ∃ wy, wy = w4.setCell ⟨g, 4, none⟩ (.float .f64 x) := ⟨_, rfl⟩
        have HWY : Hid (wd = w4.setCell ⟨g, 4, none⟩ (.float .f64 x)) := hwy
        have HS3R : Hid (RM B R (Rd.mk r.ln v3 r.fa r.s) ov sv M wd) := by
          show RM _ _ _ _ _ _ _
          rw [hwy]
          exact HQ.out.keep (ch_set _ _ _ _) HAP.out.1 HAP.out.2.2.1 HAP.out.2.2.2 HAP.out.2.1
        have HS3G : Hid (wd.heap[g]? = some (.cells #[.int .i64 kf, .int .i64 d, .int .i64 0, .int .u64 k, .float .f64 x] 41 (0, 0))) := by
          show _ = _
          rw [hwy, set_row HP.out]
          rfl
        have HS3F : Hid (wd.heap[gf]? = some (.cells #[.int .i64 kf, .string fw, .int .i64 13] 80 (0, 0))) := by
          show _ = _
          rw [hwy, set_other _ HGF.out.1]
          exact HPF.out
        have HS3C : Hid (Ch (fun x => x = R) w wd) := by
          show Ch _ _ _
          rw [hwy]
          exact HD.out.trans (ch_set _ _ _ _) (fun x hx => .inr (by rw [hx]; exact HGF.out.2))
        have ka5 : wd.cell? ⟨gf, 2, none⟩ = some (.int .i64 13) := by rw [blk_cell HS3F.out]; rfl
        clear hT2 hn hr2 hc2 hwy
        have kw : w4.cell? ⟨gf, 2, none⟩ = some (.int .i64 13) := by rw [blk_cell HPF.out]; rfl
        clear ka5
        go_wp2_with fail
        rw [← HWY.out]
        clear HWY c9 z9 kw HQ HD HP HPF
        have HA : Hid (A = some ({ r.s with sts := r.s.sts ++ [⟨kf, d, 0, k, x⟩] }, v3)) := by
          show _ = _
          rw [HAA.out]
          have hk := HF.out.1
          simp [stA, HF.out.2, onlyI, onlyK, onlyF, fN, fK, fU, fV, HN0.out, HN1.out, HN2.out, hk]
        obtain ⟨oa, oc, hov, _, _⟩ := own_form21 HS3R.out.sts
        have hr4 := HS3R.out
        have hgo := HAP.out.2.2.2
        rw [hov] at hr4 hgo
        have HR4 : Hid (RM B R (Rd.mk r.ln v3 r.fa r.s) ov (.slice oa r.s.sts.length oc) M wd) := hr4
        have HGOO : Hid (∀ x, (Value.slice oa r.s.sts.length oc).ownBlock = some x → x ≠ g) := hgo
        have HG4 := HS3G
        have HC4 := HS3C
        have c7 : wd.cell? ⟨R, 12, none⟩ = some (.slice oa r.s.sts.length oc) := by rw [blk_cell hr4.blk]; rfl
        have x0 : ∀ wx : World, wx.heap[g]? = some (.cells #[.int .i64 kf, .int .i64 d, .int .i64 0, .int .u64 k, .float .f64 x] 41 (0, 0)) → wx.cell? ⟨g, 0, none⟩ = some (.int .i64 kf) := fun wx h => by rw [blk_cell h]; rfl
        have x1 : ∀ wx : World, wx.heap[g]? = some (.cells #[.int .i64 kf, .int .i64 d, .int .i64 0, .int .u64 k, .float .f64 x] 41 (0, 0)) → wx.cell? ⟨g, 1, none⟩ = some (.int .i64 d) := fun wx h => by rw [blk_cell h]; rfl
        have x2 : ∀ wx : World, wx.heap[g]? = some (.cells #[.int .i64 kf, .int .i64 d, .int .i64 0, .int .u64 k, .float .f64 x] 41 (0, 0)) → wx.cell? ⟨g, 2, none⟩ = some (.int .i64 0) := fun wx h => by rw [blk_cell h]; rfl
        have x3 : ∀ wx : World, wx.heap[g]? = some (.cells #[.int .i64 kf, .int .i64 d, .int .i64 0, .int .u64 k, .float .f64 x] 41 (0, 0)) → wx.cell? ⟨g, 3, none⟩ = some (.int .u64 k) := fun wx h => by rw [blk_cell h]; rfl
        have x4 : ∀ wx : World, wx.heap[g]? = some (.cells #[.int .i64 kf, .int .i64 d, .int .i64 0, .int .u64 k, .float .f64 x] 41 (0, 0)) → wx.cell? ⟨g, 4, none⟩ = some (.float .f64 x) := fun wx h => by rw [blk_cell h]; rfl
        have hR4 : R < wd.heap.size := blk_lt hr4.blk
        have hR5 : ¬ R = wd.heap.size := by omega
        clear hov hr4 hgo
        refine wp_region_noPanic ?_
        refine wp_region_held_drew (S := fun wx => wx.heap[g]? = some (.cells #[.int .i64 kf, .int .i64 d, .int .i64 0, .int .u64 k, .float .f64 x] 41 (0, 0))) (by kernel_rfl) ?_ (fun hHeld => ?_)
        · exact HG4.out
        refine wpAnyH_take (i := 0) (oi := ⟨some 49, _, _, _, _, _⟩) (v := ?_) rfl (by kernel_rfl) (by kernel_rfl) (by kernel_rfl) (fun _ _ _ h => h) (Or.inl ⟨by rfl, ?_⟩) hHeld ?_
        rotate_left
        · intro w hSw; (try dsimp only at hSw); go_simp; all_goals (with_reducible rfl)
        try simp only [Act.put, List.setIfInBounds_toArray, List.set_cons_zero, List.set_cons_succ]
        refine wpAnyH_take (i := 1) (oi := ⟨some 50, _, _, _, _, _⟩) (v := ?_) rfl (by kernel_rfl) (by kernel_rfl) (by kernel_rfl) (fun _ _ _ h => h) (Or.inl ⟨by rfl, ?_⟩) hHeld ?_
        rotate_left
        · intro w hSw; (try dsimp only at hSw); go_simp; all_goals (with_reducible rfl)
        try simp only [Act.put, List.setIfInBounds_toArray, List.set_cons_zero, List.set_cons_succ]
        refine wpAnyH_take (i := 2) (oi := ⟨some 51, _, _, _, _, _⟩) (v := ?_) rfl (by kernel_rfl) (by kernel_rfl) (by kernel_rfl) (fun _ _ _ h => h) (Or.inl ⟨by rfl, ?_⟩) hHeld ?_
        rotate_left
        · intro w hSw; (try dsimp only at hSw); go_simp; all_goals (with_reducible rfl)
        try simp only [Act.put, List.setIfInBounds_toArray, List.set_cons_zero, List.set_cons_succ]
        refine wpAnyH_take (i := 3) (oi := ⟨some 52, _, _, _, _, _⟩) (v := ?_) rfl (by kernel_rfl) (by kernel_rfl) (by kernel_rfl) (fun _ _ _ h => h) (Or.inl ⟨by rfl, ?_⟩) hHeld ?_
        rotate_left
        · intro w hSw; (try dsimp only at hSw); go_simp; all_goals (with_reducible rfl)
        try simp only [Act.put, List.setIfInBounds_toArray, List.set_cons_zero, List.set_cons_succ]
        refine wpAnyH_take (i := 5) (oi := ⟨some 54, _, _, _, _, _⟩) (v := ?_) rfl (by kernel_rfl) (by kernel_rfl) (by kernel_rfl) (fun _ _ _ h => h) (Or.inl ⟨by rfl, ?_⟩) hHeld ?_
        rotate_left
        · intro w hSw; (try dsimp only at hSw); go_simp; all_goals (with_reducible rfl)
        try simp only [Act.put, List.setIfInBounds_toArray, List.set_cons_zero, List.set_cons_succ]
        refine wpAnyH_ready (rs := [4, 6]) (by kernel_rfl) (by simp) ?_
        refine AllReadyH.cons (o := ⟨some 53, _, _, _, _, _⟩) rfl (fun K hK => ?_) (AllReadyH.cons (o := ⟨some 55, _, _, _, _, _⟩) rfl (fun K hK => ?_) AllReadyH.nil)
        · go_simp
          refine hK.out _ _ ?_ (fun hHeld => ?_)
          · exact hHeld
          clear hK K
          try simp only [Act.put, List.setIfInBounds_toArray, List.set_cons_zero, List.set_cons_succ]
          refine wpAnyH_ready (rs := [6]) (by kernel_rfl) (by simp) ?_
          refine AllReadyH.cons (o := ⟨some 55, _, _, _, _, _⟩) rfl (fun K hK => ?_) AllReadyH.nil
          go_simp
          refine hK.out _ _ ?_ (fun hHeld => ?_)
          · exact (alloc_old hHeld)
          clear hK K
          try simp only [Act.put, List.setIfInBounds_toArray, List.set_cons_zero, List.set_cons_succ]
          refine wpAnyH_ready (rs := [7]) (by kernel_rfl) (by simp) ?_
          refine AllReadyH.cons (o := ⟨some 56, _, _, _, _, _⟩) rfl (fun K hK => ?_) AllReadyH.nil
          refine step_app_st rfl (.tmp 53) (.tmp 55) rfl (base := M) (.slice oa r.s.sts.length oc) r.s.sts.length (stsF r.s.sts) (by simp [Act.eval]) (row_keep HR4.out.sts fun y hy => (below_trans (below_alloc wd (.cells #[.int .i64 kf, .int .i64 d, .int .i64 0, .int .u64 k, .float .f64 x] 41)) (below_drew _)).block y (HR4.out.sts.lt y hy).2) wd.heap.size [.int .i64 kf, .int .i64 d, .int .i64 0, .int .u64 k, .float .f64 x] (by simp [Act.eval]) rfl (alloc_at rfl) (by intro u hu; simp only [List.mem_cons, List.not_mem_nil, or_false] at hu; rcases hu with rfl | rfl | rfl | rfl | rfl <;> rfl) HON.out (by have h2 := HR4.out.ms; have h3 := (below_trans (below_alloc wd (.cells #[.int .i64 kf, .int .i64 d, .int .i64 0, .int .u64 k, .float .f64 x] 41)) (below_drew _)).size; exact Nat.le_trans h2 h3) ?_
          intro v5 w5 hr5 hg5 hat5
          have HR5 : Hid (w5.ownsRow M 41 5 v5 (r.s.sts.length + 1) (stsF r.s.sts ++ stF ⟨kf, d, 0, k, x⟩)) := hr5
          have HG5 := hidH hg5
          obtain ⟨a5, cp5, rfl, _, _⟩ := own_form21 hr5
          have hb5 : ∀ y, y < wd.heap.size → (Value.slice oa r.s.sts.length oc).ownBlock ≠ some y → w5.heap[y]? = wd.heap[y]? := fun y hy hn => by rw [hg5.block y (by have h3 := (below_trans (below_alloc wd (.cells #[.int .i64 kf, .int .i64 d, .int .i64 0, .int .u64 k, .float .f64 x] 41)) (below_drew _)).size; exact Nat.lt_of_lt_of_le hy h3) (fun e => hn e.symm)]; exact (below_trans (below_alloc wd (.cells #[.int .i64 kf, .int .i64 d, .int .i64 0, .int .u64 k, .float .f64 x] 41)) (below_drew _)).block y hy
          have hh5 : w5.heap[R]? = some (.cells (RC (Rd.mk r.ln v3 r.fa r.s) ov (.slice oa r.s.sts.length oc)) 44 (0, 0)) := by rw [hb5 R (blk_lt HR4.out.blk) (fun e => by have h1 := (HR4.out.sts.lt R e).1; have h2 := HR4.out.rb; have h3 := HR4.out.bm; omega)]; exact HR4.out.blk
          have v7 : w5.cell? ⟨R, 12, none⟩ = some (.slice oa r.s.sts.length oc) := by rw [blk_cell hh5]; rfl
          have y7 : w5.frozen? ⟨R, 12, none⟩ = false := blk_soft hh5 12
          have HT5 : Hid (w5.heap[g]? = some (.cells #[.int .i64 kf, .int .i64 d, .int .i64 0, .int .u64 k, .float .f64 x] 41 (0, 0))) := by show _ = _; rw [hb5 g (blk_lt HG4.out) (fun e => HGOO.out g e rfl)]; exact HG4.out
          clear hr5 hg5 hat5 hh5 hb5
          refine hK.out _ _ ?_ (fun hHeld => ?_)
          · exact HT5.out
          clear hK K
          try simp only [Act.put, List.setIfInBounds_toArray, List.set_cons_zero, List.set_cons_succ]
          refine wpAnyH_take (i := 8) (oi := ⟨some 57, _, _, _, _, _⟩) (v := ?_) rfl (by kernel_rfl) (by kernel_rfl) (by kernel_rfl) (fun _ _ _ h => h) (Or.inl ⟨by rfl, ?_⟩) hHeld ?_
          rotate_left
          · intro w hSw; (try dsimp only at hSw); go_simp; all_goals (with_reducible rfl)
          try simp only [Act.put, List.setIfInBounds_toArray, List.set_cons_zero, List.set_cons_succ]
          refine wpAnyH_take (i := 9) (oi := ⟨some 58, _, _, _, _, _⟩) (v := ?_) rfl (by kernel_rfl) (by kernel_rfl) (by kernel_rfl) (fun _ _ _ h => h) (Or.inl ⟨by rfl, ?_⟩) hHeld ?_
          rotate_left
          · intro w hSw; (try dsimp only at hSw); go_simp; all_goals (with_reducible rfl)
          try simp only [Act.put, List.setIfInBounds_toArray, List.set_cons_zero, List.set_cons_succ]
          refine wpAnyH_ready (rs := [10]) (by kernel_rfl) (by simp) ?_
          refine AllReadyH.cons (o := ⟨none, _, _, _, _, _⟩) rfl (fun K hK => ?_) AllReadyH.nil
          go_simp
          refine hK.out _ _ ?_ (fun hHeld => ?_)
          · exact (by rw [set_other _ (fun e => HAP.out.1 e.symm)]; exact HT5.out)
          clear hK K
          try simp only [Act.put, List.setIfInBounds_toArray, List.set_cons_zero, List.set_cons_succ]
          refine wpAnyH_done (by kernel_rfl) ?_ _
          refine NoPanic.normal ?_
          have HE := hidH (RM.addSt HR4.out (st := ⟨kf, d, 0, k, x⟩) (below_trans (below_alloc wd (.cells #[.int .i64 kf, .int .i64 d, .int .i64 0, .int .u64 k, .float .f64 x] 41)) (below_drew _)) HR5.out HG5.out)
          refine bodyPost_end (results_none rfl _ _ _) rfl ?_
          rw [HA.out]
          exact ⟨rfl, ⟨_, _, _, HE.out.1⟩, (HC4.out.le fun x hx => .inl hx).self HE.out.2⟩
        · go_simp
          refine hK.out _ _ ?_ (fun hHeld => ?_)
          · exact (alloc_old hHeld)
          clear hK K
          try simp only [Act.put, List.setIfInBounds_toArray, List.set_cons_zero, List.set_cons_succ]
          refine wpAnyH_ready (rs := [4]) (by kernel_rfl) (by simp) ?_
          refine AllReadyH.cons (o := ⟨some 53, _, _, _, _, _⟩) rfl (fun K hK => ?_) AllReadyH.nil
          go_simp
          refine hK.out _ _ ?_ (fun hHeld => ?_)
          · exact hHeld
          clear hK K
          try simp only [Act.put, List.setIfInBounds_toArray, List.set_cons_zero, List.set_cons_succ]
          refine wpAnyH_ready (rs := [7]) (by kernel_rfl) (by simp) ?_
          refine AllReadyH.cons (o := ⟨some 56, _, _, _, _, _⟩) rfl (fun K hK => ?_) AllReadyH.nil
          refine step_app_st rfl (.tmp 53) (.tmp 55) rfl (base := M) (.slice oa r.s.sts.length oc) r.s.sts.length (stsF r.s.sts) (by simp [Act.eval]) (row_keep HR4.out.sts fun y hy => (below_trans (below_alloc wd (.cells #[.int .i64 kf, .int .i64 d, .int .i64 0, .int .u64 k, .float .f64 x] 41)) (below_drew _)).block y (HR4.out.sts.lt y hy).2) wd.heap.size [.int .i64 kf, .int .i64 d, .int .i64 0, .int .u64 k, .float .f64 x] (by simp [Act.eval]) rfl (alloc_at rfl) (by intro u hu; simp only [List.mem_cons, List.not_mem_nil, or_false] at hu; rcases hu with rfl | rfl | rfl | rfl | rfl <;> rfl) HON.out (by have h2 := HR4.out.ms; have h3 := (below_trans (below_alloc wd (.cells #[.int .i64 kf, .int .i64 d, .int .i64 0, .int .u64 k, .float .f64 x] 41)) (below_drew _)).size; exact Nat.le_trans h2 h3) ?_
          intro v5 w5 hr5 hg5 hat5
          have HR5 : Hid (w5.ownsRow M 41 5 v5 (r.s.sts.length + 1) (stsF r.s.sts ++ stF ⟨kf, d, 0, k, x⟩)) := hr5
          have HG5 := hidH hg5
          obtain ⟨a5, cp5, rfl, _, _⟩ := own_form21 hr5
          have hb5 : ∀ y, y < wd.heap.size → (Value.slice oa r.s.sts.length oc).ownBlock ≠ some y → w5.heap[y]? = wd.heap[y]? := fun y hy hn => by rw [hg5.block y (by have h3 := (below_trans (below_alloc wd (.cells #[.int .i64 kf, .int .i64 d, .int .i64 0, .int .u64 k, .float .f64 x] 41)) (below_drew _)).size; exact Nat.lt_of_lt_of_le hy h3) (fun e => hn e.symm)]; exact (below_trans (below_alloc wd (.cells #[.int .i64 kf, .int .i64 d, .int .i64 0, .int .u64 k, .float .f64 x] 41)) (below_drew _)).block y hy
          have hh5 : w5.heap[R]? = some (.cells (RC (Rd.mk r.ln v3 r.fa r.s) ov (.slice oa r.s.sts.length oc)) 44 (0, 0)) := by rw [hb5 R (blk_lt HR4.out.blk) (fun e => by have h1 := (HR4.out.sts.lt R e).1; have h2 := HR4.out.rb; have h3 := HR4.out.bm; omega)]; exact HR4.out.blk
          have v7 : w5.cell? ⟨R, 12, none⟩ = some (.slice oa r.s.sts.length oc) := by rw [blk_cell hh5]; rfl
          have y7 : w5.frozen? ⟨R, 12, none⟩ = false := blk_soft hh5 12
          have HT5 : Hid (w5.heap[g]? = some (.cells #[.int .i64 kf, .int .i64 d, .int .i64 0, .int .u64 k, .float .f64 x] 41 (0, 0))) := by show _ = _; rw [hb5 g (blk_lt HG4.out) (fun e => HGOO.out g e rfl)]; exact HG4.out
          clear hr5 hg5 hat5 hh5 hb5
          refine hK.out _ _ ?_ (fun hHeld => ?_)
          · exact HT5.out
          clear hK K
          try simp only [Act.put, List.setIfInBounds_toArray, List.set_cons_zero, List.set_cons_succ]
          refine wpAnyH_take (i := 8) (oi := ⟨some 57, _, _, _, _, _⟩) (v := ?_) rfl (by kernel_rfl) (by kernel_rfl) (by kernel_rfl) (fun _ _ _ h => h) (Or.inl ⟨by rfl, ?_⟩) hHeld ?_
          rotate_left
          · intro w hSw; (try dsimp only at hSw); go_simp; all_goals (with_reducible rfl)
          try simp only [Act.put, List.setIfInBounds_toArray, List.set_cons_zero, List.set_cons_succ]
          refine wpAnyH_take (i := 9) (oi := ⟨some 58, _, _, _, _, _⟩) (v := ?_) rfl (by kernel_rfl) (by kernel_rfl) (by kernel_rfl) (fun _ _ _ h => h) (Or.inl ⟨by rfl, ?_⟩) hHeld ?_
          rotate_left
          · intro w hSw; (try dsimp only at hSw); go_simp; all_goals (with_reducible rfl)
          try simp only [Act.put, List.setIfInBounds_toArray, List.set_cons_zero, List.set_cons_succ]
          refine wpAnyH_ready (rs := [10]) (by kernel_rfl) (by simp) ?_
          refine AllReadyH.cons (o := ⟨none, _, _, _, _, _⟩) rfl (fun K hK => ?_) AllReadyH.nil
          go_simp
          refine hK.out _ _ ?_ (fun hHeld => ?_)
          · exact (by rw [set_other _ (fun e => HAP.out.1 e.symm)]; exact HT5.out)
          clear hK K
          try simp only [Act.put, List.setIfInBounds_toArray, List.set_cons_zero, List.set_cons_succ]
          refine wpAnyH_done (by kernel_rfl) ?_ _
          refine NoPanic.normal ?_
          have HE := hidH (RM.addSt HR4.out (st := ⟨kf, d, 0, k, x⟩) (below_trans (below_alloc wd (.cells #[.int .i64 kf, .int .i64 d, .int .i64 0, .int .u64 k, .float .f64 x] 41)) (below_drew _)) HR5.out HG5.out)
          refine bodyPost_end (results_none rfl _ _ _) rfl ?_
          rw [HA.out]
          exact ⟨rfl, ⟨_, _, _, HE.out.1⟩, (HC4.out.le fun x hx => .inl hx).self HE.out.2⟩


set_option maxRecDepth 100000 in
set_option maxHeartbeats 8000000 in
theorem takeStep_3 (h : RM B R r ov sv M w) (hon : r.s.sts.length ≤ 4096) {v : Bs} {f : Fm} (hf : formW v = some f) (hfg : f.g = 3) :
    Calls Tryz.prog 50 #[.pointer (some ⟨R, 0, none⟩), S v] w (LineGot B R r ((stA f r.ws).map fun x => ({ r.s with sts := r.s.sts ++ [x.1] }, x.2)) w) := by
  have HR : Hid (RM B R r ov sv M w) := h
  have HON : Hid (r.s.sts.length ≤ 300000) := by show _ ≤ _; omega
  obtain ⟨A, hA⟩ : ∃ A, A = (stA f r.ws).map fun x => ({ r.s with sts := r.s.sts ++ [x.1] }, x.2) := ⟨_, rfl⟩
  rw [← hA]
  have HAA : Hid (A = (stA f r.ws).map fun x => ({ r.s with sts := r.s.sts ++ [x.1] }, x.2)) := hA
  have HFW := formNamed_walk v w h.tb
  have hfw : formL.find? (fun f => f.w == v) = some f := hf
  rw [hfw] at HFW
  simp only [FmA, FmV, Option.getD_some, Option.isSome_some, S, hfg] at HFW ⊢
  obtain ⟨kf, hfK⟩ : ∃ k, k = f.K := ⟨_, rfl⟩
  obtain ⟨fw, hfw2⟩ : ∃ k : ByteArray, k = ⟨f.w.toArray⟩ := ⟨_, rfl⟩
  rw [← hfK, ← hfw2] at HFW
  have HF : Hid (kf = f.K ∧ f.g = 3) := ⟨hfK, hfg⟩
  obtain ⟨t, ht⟩ : ∃ t : ByteArray, t = ⟨v.toArray⟩ := ⟨_, rfl⟩
  rw [← ht] at HFW ⊢
  have HFN : Hid (Calls Tryz.prog 62 #[.string t] w fun e w' => e = .returned (.tuple #[.agg #[.int .i64 kf, .string fw, .int .i64 3], .bool true]) ∧ Below w.heap.size w w') := HFW
  have b1 : bits .and .i64 3 1 = 1 := by decide +kernel
  have b2 : bits .and .i64 3 2 = 2 := by decide +kernel
  have b4 : bits .and .i64 3 4 = 0 := by decide +kernel
  have b8 : bits .and .i64 3 8 = 0 := by decide +kernel
  clear h hon hA HFW hf hfg hfw hfK hfw2 ht
  go_enter Tryz.func50, Tryz.ntmps50
  go_wp2_with fail
  refine HFN.out.mono ?_
  rintro e9 w0 ⟨rfl, hB0⟩
  have HR0 : Hid (RM B R r ov sv M w0) := HR.out.go hB0
  have HB0 : Hid (Below w.heap.size w w0) := hB0
  obtain ⟨gf, hgf⟩ : ∃ gf, gf = w0.heap.size := ⟨_, rfl⟩
  obtain ⟨w1, hw1⟩ : ∃ w1, w1 = w0.alloc (.cells #[.int .i64 kf, .string fw, .int .i64 3] 80) := ⟨_, rfl⟩
  have HW1 : Hid (gf = w0.heap.size ∧ w1 = w0.alloc (.cells #[.int .i64 kf, .string fw, .int .i64 3] 80)) := ⟨hgf, hw1⟩
  have HR1 : Hid (RM B R r ov sv M w1) := by show RM _ _ _ _ _ _ _; rw [hw1]; exact HR0.out.go (below_alloc _ _)
  have HF1 : Hid (w1.heap[gf]? = some (.cells #[.int .i64 kf, .string fw, .int .i64 3] 80 (0, 0))) := by show _ = _; rw [hw1]; exact alloc_at hgf
  have HB1 : Hid (Below w.heap.size w w1) := by show Below _ _ _; rw [hw1]; exact below_trans hB0 (below_alloc _ _)
  have HAF : Hid (R ≠ gf) := (HR0.out.apart (Nat.le_of_eq hgf.symm)).1
  clear hB0 hgf hw1 HFN
  go_wp2_with fail
  rw [← HW1.out.1, ← HW1.out.2]
  clear HW1
  refine (refuse_no 210 w1).mono ?_
  rintro e9 w9 ⟨rfl, hw9⟩
  replace hw9 := hw9.symm
  subst hw9
  have k0 : w1.cell? ⟨gf, 0, none⟩ = some (.int .i64 kf) := by rw [blk_cell HF1.out]; rfl
  have k2 : w1.cell? ⟨gf, 2, none⟩ = some (.int .i64 3) := by rw [blk_cell HF1.out]; rfl
  have kl : gf < w1.heap.size := blk_lt HF1.out
  have kn : ¬ gf = w1.heap.size := by omega
  obtain ⟨g, hg⟩ : ∃ g, g = w1.heap.size := ⟨_, rfl⟩
  obtain ⟨wa, hwa⟩ : ∃ wa, wa = w1.alloc (.cells #[.int .i64 kf, .int .i64 0, .int .i64 0, .int .u64 0, .float .f64 0] 41) := ⟨_, rfl⟩
  have HWA : Hid (g = w1.heap.size ∧ wa = w1.alloc (.cells #[.int .i64 kf, .int .i64 0, .int .i64 0, .int .u64 0, .float .f64 0] 41)) := ⟨hg, hwa⟩
  have HS0R : Hid (RM B R (Rd.mk r.ln r.ws r.fa r.s) ov sv M wa) := by show RM _ _ _ _ _ _ _; rw [hwa]; exact HR1.out.go (below_alloc _ _)
  have HS0F : Hid (wa.heap[gf]? = some (.cells #[.int .i64 kf, .string fw, .int .i64 3] 80 (0, 0))) := by show _ = _; rw [hwa]; exact alloc_old HF1.out
  have HS0G : Hid (wa.heap[g]? = some (.cells #[.int .i64 kf, .int .i64 0, .int .i64 0, .int .u64 0, .float .f64 0] 41 (0, 0))) := by show _ = _; rw [hwa]; exact alloc_at hg
  have HBA : Hid (Below w.heap.size w wa) := by show Below _ _ _; rw [hwa]; exact below_trans HB1.out (below_alloc _ _)
  have HS0C : Hid (Ch (fun x => x = R) w wa) := Ch.of_below HBA.out
  have HAP : Hid (R ≠ g ∧ R ≤ g ∧ (∀ x, ov.ownBlock = some x → x ≠ g) ∧ (∀ x, sv.ownBlock = some x → x ≠ g)) := HR1.out.apart (Nat.le_of_eq hg.symm)
  have HGF : Hid (gf ≠ g ∧ w.heap.size ≤ g) := ⟨by omega, by have := HB1.out.size; omega⟩
  have ka0 : wa.cell? ⟨gf, 0, none⟩ = some (.int .i64 kf) := by rw [blk_cell HS0F.out]; rfl
  have ka2 : wa.cell? ⟨gf, 2, none⟩ = some (.int .i64 3) := by rw [blk_cell HS0F.out]; rfl
  clear hwa hg
  have hgn : ¬ gf = g := HGF.out.1
  have hgm : ¬ g = gf := fun e => HGF.out.1 e.symm
  clear ka0 ka2
  go_wp2_with fail
  rw [← HWA.out.1, ← HWA.out.2]
  clear HWA k0 k2 kl kn
  refine (number_walk HS0R.out).mono ?_
  rintro e9 w2 hT
  have hT2 : Took B R M (Rd.mk r.ln r.ws r.fa r.s) ov sv ((nm r.ws).map fun x => (.int .i64 x.1, x.2)) wa e9 w2 := hT
  clear hT
  cases hn : nm r.ws with
  | none =>
    rw [hn] at hT2
    have hT' : Bad B R r.ln 211 wa e9 w2 := hT2
    have HAN : Hid (A = none) := by
      show _ = _
      rw [HAA.out]
      simp [stA, HF.out.2, onlyI, fN, hn]
    have HBD : Hid (Bad B R r.ln 211 w e9 w2) := Bad.from hT' (HS0C.out.le fun x hx => .inl hx)
    obtain ⟨⟨u, pv, rfl⟩, _⟩ := hT'
    clear hT2 hn
    go_wp2_with fail
    refine ⟨rfl, ?_⟩
    rw [HAN.out]
    exact HBD.out
  | some y =>
    obtain ⟨d, v1⟩ := y
    rw [hn] at hT2
    have HN0 : Hid (nm r.ws = some (d, v1)) := hn
    have hT' : Good B R M (Rd.mk r.ln r.ws r.fa r.s) ov sv (.int .i64 d) v1 wa e9 w2 := hT2
    obtain ⟨rfl, hr2, hc2⟩ := hT'
    have HQ : Hid (RM B R (Rd.mk r.ln v1 r.fa r.s) ov sv M w2) := hr2
    have HD : Hid (Ch (fun x => x = R) w w2) := HS0C.out.self hc2
    have HP : Hid (w2.heap[g]? = some (.cells #[.int .i64 kf, .int .i64 0, .int .i64 0, .int .u64 0, .float .f64 0] 41 (0, 0))) := blk_ch HS0G.out hc2 (fun e => HAP.out.1 e.symm)
    have HPF : Hid (w2.heap[gf]? = some (.cells #[.int .i64 kf, .string fw, .int .i64 3] 80 (0, 0))) := blk_ch HS0F.out hc2 (fun e => HAF.out e.symm)
    have c9 : w2.cell? ⟨g, 1, none⟩ = some (.int .i64 0) := by rw [blk_cell HP.out]; rfl
    have z9 : w2.frozen? ⟨g, 1, none⟩ = false := blk_soft HP.out 1
    obtain ⟨wb, hwy⟩ : ∃ wy, wy = w2.setCell ⟨g, 1, none⟩ (.int .i64 d) := ⟨_, rfl⟩
    have HWY : Hid (wb = w2.setCell ⟨g, 1, none⟩ (.int .i64 d)) := hwy
    have HS1R : Hid (RM B R (Rd.mk r.ln v1 r.fa r.s) ov sv M wb) := by
      show RM _ _ _ _ _ _ _
      rw [hwy]
      exact HQ.out.keep (ch_set _ _ _ _) HAP.out.1 HAP.out.2.2.1 HAP.out.2.2.2 HAP.out.2.1
    have HS1G : Hid (wb.heap[g]? = some (.cells #[.int .i64 kf, .int .i64 d, .int .i64 0, .int .u64 0, .float .f64 0] 41 (0, 0))) := by
      show _ = _
      rw [hwy, set_row HP.out]
      rfl
    have HS1F : Hid (wb.heap[gf]? = some (.cells #[.int .i64 kf, .string fw, .int .i64 3] 80 (0, 0))) := by
      show _ = _
      rw [hwy, set_other _ HGF.out.1]
      exact HPF.out
    have HS1C : Hid (Ch (fun x => x = R) w wb) := by
      show Ch _ _ _
      rw [hwy]
      exact HD.out.trans (ch_set _ _ _ _) (fun x hx => .inr (by rw [hx]; exact HGF.out.2))
    have ka3 : wb.cell? ⟨gf, 2, none⟩ = some (.int .i64 3) := by rw [blk_cell HS1F.out]; rfl
    clear hT2 hn hr2 hc2 hwy
    have kw : w2.cell? ⟨gf, 2, none⟩ = some (.int .i64 3) := by rw [blk_cell HPF.out]; rfl
    clear ka3
    go_wp2_with fail
    rw [← HWY.out]
    clear HWY c9 z9 kw HQ HD HP HPF
    refine (number_walk HS1R.out).mono ?_
    rintro e9 w3 hT
    have hT2 : Took B R M (Rd.mk r.ln v1 r.fa r.s) ov sv ((nm v1).map fun x => (.int .i64 x.1, x.2)) wb e9 w3 := hT
    clear hT
    cases hn : nm v1 with
    | none =>
      rw [hn] at hT2
      have hT' : Bad B R r.ln 211 wb e9 w3 := hT2
      have HAN : Hid (A = none) := by
        show _ = _
        rw [HAA.out]
        simp [stA, HF.out.2, onlyI, fN, fK, HN0.out, hn]
      have HBD : Hid (Bad B R r.ln 211 w e9 w3) := Bad.from hT' (HS1C.out.le fun x hx => .inl hx)
      obtain ⟨⟨u, pv, rfl⟩, _⟩ := hT'
      clear hT2 hn
      go_wp2_with fail
      refine ⟨rfl, ?_⟩
      rw [HAN.out]
      exact HBD.out
    | some y =>
      obtain ⟨n, v2⟩ := y
      rw [hn] at hT2
      have HN1 : Hid (nm v1 = some (n, v2)) := hn
      have hT' : Good B R M (Rd.mk r.ln v1 r.fa r.s) ov sv (.int .i64 n) v2 wb e9 w3 := hT2
      obtain ⟨rfl, hr2, hc2⟩ := hT'
      have HQ : Hid (RM B R (Rd.mk r.ln v2 r.fa r.s) ov sv M w3) := hr2
      have HD : Hid (Ch (fun x => x = R) w w3) := HS1C.out.self hc2
      have HP : Hid (w3.heap[g]? = some (.cells #[.int .i64 kf, .int .i64 d, .int .i64 0, .int .u64 0, .float .f64 0] 41 (0, 0))) := blk_ch HS1G.out hc2 (fun e => HAP.out.1 e.symm)
      have HPF : Hid (w3.heap[gf]? = some (.cells #[.int .i64 kf, .string fw, .int .i64 3] 80 (0, 0))) := blk_ch HS1F.out hc2 (fun e => HAF.out e.symm)
      have c9 : w3.cell? ⟨g, 2, none⟩ = some (.int .i64 0) := by rw [blk_cell HP.out]; rfl
      have z9 : w3.frozen? ⟨g, 2, none⟩ = false := blk_soft HP.out 2
      obtain ⟨wc, hwy⟩ : ∃ wy, wy = w3.setCell ⟨g, 2, none⟩ (.int .i64 n) := ⟨_, rfl⟩
      have HWY : Hid (wc = w3.setCell ⟨g, 2, none⟩ (.int .i64 n)) := hwy
      have HS2R : Hid (RM B R (Rd.mk r.ln v2 r.fa r.s) ov sv M wc) := by
        show RM _ _ _ _ _ _ _
        rw [hwy]
        exact HQ.out.keep (ch_set _ _ _ _) HAP.out.1 HAP.out.2.2.1 HAP.out.2.2.2 HAP.out.2.1
      have HS2G : Hid (wc.heap[g]? = some (.cells #[.int .i64 kf, .int .i64 d, .int .i64 n, .int .u64 0, .float .f64 0] 41 (0, 0))) := by
        show _ = _
        rw [hwy, set_row HP.out]
        rfl
      have HS2F : Hid (wc.heap[gf]? = some (.cells #[.int .i64 kf, .string fw, .int .i64 3] 80 (0, 0))) := by
        show _ = _
        rw [hwy, set_other _ HGF.out.1]
        exact HPF.out
      have HS2C : Hid (Ch (fun x => x = R) w wc) := by
        show Ch _ _ _
        rw [hwy]
        exact HD.out.trans (ch_set _ _ _ _) (fun x hx => .inr (by rw [hx]; exact HGF.out.2))
      have ka4 : wc.cell? ⟨gf, 2, none⟩ = some (.int .i64 3) := by rw [blk_cell HS2F.out]; rfl
      clear hT2 hn hr2 hc2 hwy
      have kw : w3.cell? ⟨gf, 2, none⟩ = some (.int .i64 3) := by rw [blk_cell HPF.out]; rfl
      clear ka4
      go_wp2_with fail
      rw [← HWY.out]
      clear HWY c9 z9 kw HQ HD HP HPF
      have HA : Hid (A = some ({ r.s with sts := r.s.sts ++ [⟨kf, d, n, 0, 0⟩] }, v2)) := by
        show _ = _
        rw [HAA.out]
        have hk := HF.out.1
        simp [stA, HF.out.2, onlyI, onlyK, onlyF, fN, fK, fU, fV, HN0.out, HN1.out, hk]
      obtain ⟨oa, oc, hov, _, _⟩ := own_form21 HS2R.out.sts
      have hr4 := HS2R.out
      have hgo := HAP.out.2.2.2
      rw [hov] at hr4 hgo
      have HR4 : Hid (RM B R (Rd.mk r.ln v2 r.fa r.s) ov (.slice oa r.s.sts.length oc) M wc) := hr4
      have HGOO : Hid (∀ x, (Value.slice oa r.s.sts.length oc).ownBlock = some x → x ≠ g) := hgo
      have HG4 := HS2G
      have HC4 := HS2C
      have c7 : wc.cell? ⟨R, 12, none⟩ = some (.slice oa r.s.sts.length oc) := by rw [blk_cell hr4.blk]; rfl
      have x0 : ∀ wx : World, wx.heap[g]? = some (.cells #[.int .i64 kf, .int .i64 d, .int .i64 n, .int .u64 0, .float .f64 0] 41 (0, 0)) → wx.cell? ⟨g, 0, none⟩ = some (.int .i64 kf) := fun wx h => by rw [blk_cell h]; rfl
      have x1 : ∀ wx : World, wx.heap[g]? = some (.cells #[.int .i64 kf, .int .i64 d, .int .i64 n, .int .u64 0, .float .f64 0] 41 (0, 0)) → wx.cell? ⟨g, 1, none⟩ = some (.int .i64 d) := fun wx h => by rw [blk_cell h]; rfl
      have x2 : ∀ wx : World, wx.heap[g]? = some (.cells #[.int .i64 kf, .int .i64 d, .int .i64 n, .int .u64 0, .float .f64 0] 41 (0, 0)) → wx.cell? ⟨g, 2, none⟩ = some (.int .i64 n) := fun wx h => by rw [blk_cell h]; rfl
      have x3 : ∀ wx : World, wx.heap[g]? = some (.cells #[.int .i64 kf, .int .i64 d, .int .i64 n, .int .u64 0, .float .f64 0] 41 (0, 0)) → wx.cell? ⟨g, 3, none⟩ = some (.int .u64 0) := fun wx h => by rw [blk_cell h]; rfl
      have x4 : ∀ wx : World, wx.heap[g]? = some (.cells #[.int .i64 kf, .int .i64 d, .int .i64 n, .int .u64 0, .float .f64 0] 41 (0, 0)) → wx.cell? ⟨g, 4, none⟩ = some (.float .f64 0) := fun wx h => by rw [blk_cell h]; rfl
      have hR4 : R < wc.heap.size := blk_lt hr4.blk
      have hR5 : ¬ R = wc.heap.size := by omega
      clear hov hr4 hgo
      refine wp_region_noPanic ?_
      refine wp_region_held_drew (S := fun wx => wx.heap[g]? = some (.cells #[.int .i64 kf, .int .i64 d, .int .i64 n, .int .u64 0, .float .f64 0] 41 (0, 0))) (by kernel_rfl) ?_ (fun hHeld => ?_)
      · exact HG4.out
      refine wpAnyH_take (i := 0) (oi := ⟨some 49, _, _, _, _, _⟩) (v := ?_) rfl (by kernel_rfl) (by kernel_rfl) (by kernel_rfl) (fun _ _ _ h => h) (Or.inl ⟨by rfl, ?_⟩) hHeld ?_
      rotate_left
      · intro w hSw; (try dsimp only at hSw); go_simp; all_goals (with_reducible rfl)
      try simp only [Act.put, List.setIfInBounds_toArray, List.set_cons_zero, List.set_cons_succ]
      refine wpAnyH_take (i := 1) (oi := ⟨some 50, _, _, _, _, _⟩) (v := ?_) rfl (by kernel_rfl) (by kernel_rfl) (by kernel_rfl) (fun _ _ _ h => h) (Or.inl ⟨by rfl, ?_⟩) hHeld ?_
      rotate_left
      · intro w hSw; (try dsimp only at hSw); go_simp; all_goals (with_reducible rfl)
      try simp only [Act.put, List.setIfInBounds_toArray, List.set_cons_zero, List.set_cons_succ]
      refine wpAnyH_take (i := 2) (oi := ⟨some 51, _, _, _, _, _⟩) (v := ?_) rfl (by kernel_rfl) (by kernel_rfl) (by kernel_rfl) (fun _ _ _ h => h) (Or.inl ⟨by rfl, ?_⟩) hHeld ?_
      rotate_left
      · intro w hSw; (try dsimp only at hSw); go_simp; all_goals (with_reducible rfl)
      try simp only [Act.put, List.setIfInBounds_toArray, List.set_cons_zero, List.set_cons_succ]
      refine wpAnyH_take (i := 3) (oi := ⟨some 52, _, _, _, _, _⟩) (v := ?_) rfl (by kernel_rfl) (by kernel_rfl) (by kernel_rfl) (fun _ _ _ h => h) (Or.inl ⟨by rfl, ?_⟩) hHeld ?_
      rotate_left
      · intro w hSw; (try dsimp only at hSw); go_simp; all_goals (with_reducible rfl)
      try simp only [Act.put, List.setIfInBounds_toArray, List.set_cons_zero, List.set_cons_succ]
      refine wpAnyH_take (i := 5) (oi := ⟨some 54, _, _, _, _, _⟩) (v := ?_) rfl (by kernel_rfl) (by kernel_rfl) (by kernel_rfl) (fun _ _ _ h => h) (Or.inl ⟨by rfl, ?_⟩) hHeld ?_
      rotate_left
      · intro w hSw; (try dsimp only at hSw); go_simp; all_goals (with_reducible rfl)
      try simp only [Act.put, List.setIfInBounds_toArray, List.set_cons_zero, List.set_cons_succ]
      refine wpAnyH_ready (rs := [4, 6]) (by kernel_rfl) (by simp) ?_
      refine AllReadyH.cons (o := ⟨some 53, _, _, _, _, _⟩) rfl (fun K hK => ?_) (AllReadyH.cons (o := ⟨some 55, _, _, _, _, _⟩) rfl (fun K hK => ?_) AllReadyH.nil)
      · go_simp
        refine hK.out _ _ ?_ (fun hHeld => ?_)
        · exact hHeld
        clear hK K
        try simp only [Act.put, List.setIfInBounds_toArray, List.set_cons_zero, List.set_cons_succ]
        refine wpAnyH_ready (rs := [6]) (by kernel_rfl) (by simp) ?_
        refine AllReadyH.cons (o := ⟨some 55, _, _, _, _, _⟩) rfl (fun K hK => ?_) AllReadyH.nil
        go_simp
        refine hK.out _ _ ?_ (fun hHeld => ?_)
        · exact (alloc_old hHeld)
        clear hK K
        try simp only [Act.put, List.setIfInBounds_toArray, List.set_cons_zero, List.set_cons_succ]
        refine wpAnyH_ready (rs := [7]) (by kernel_rfl) (by simp) ?_
        refine AllReadyH.cons (o := ⟨some 56, _, _, _, _, _⟩) rfl (fun K hK => ?_) AllReadyH.nil
        refine step_app_st rfl (.tmp 53) (.tmp 55) rfl (base := M) (.slice oa r.s.sts.length oc) r.s.sts.length (stsF r.s.sts) (by simp [Act.eval]) (row_keep HR4.out.sts fun y hy => (below_trans (below_alloc wc (.cells #[.int .i64 kf, .int .i64 d, .int .i64 n, .int .u64 0, .float .f64 0] 41)) (below_drew _)).block y (HR4.out.sts.lt y hy).2) wc.heap.size [.int .i64 kf, .int .i64 d, .int .i64 n, .int .u64 0, .float .f64 0] (by simp [Act.eval]) rfl (alloc_at rfl) (by intro u hu; simp only [List.mem_cons, List.not_mem_nil, or_false] at hu; rcases hu with rfl | rfl | rfl | rfl | rfl <;> rfl) HON.out (by have h2 := HR4.out.ms; have h3 := (below_trans (below_alloc wc (.cells #[.int .i64 kf, .int .i64 d, .int .i64 n, .int .u64 0, .float .f64 0] 41)) (below_drew _)).size; exact Nat.le_trans h2 h3) ?_
        intro v5 w5 hr5 hg5 hat5
        have HR5 : Hid (w5.ownsRow M 41 5 v5 (r.s.sts.length + 1) (stsF r.s.sts ++ stF ⟨kf, d, n, 0, 0⟩)) := hr5
        have HG5 := hidH hg5
        obtain ⟨a5, cp5, rfl, _, _⟩ := own_form21 hr5
        have hb5 : ∀ y, y < wc.heap.size → (Value.slice oa r.s.sts.length oc).ownBlock ≠ some y → w5.heap[y]? = wc.heap[y]? := fun y hy hn => by rw [hg5.block y (by have h3 := (below_trans (below_alloc wc (.cells #[.int .i64 kf, .int .i64 d, .int .i64 n, .int .u64 0, .float .f64 0] 41)) (below_drew _)).size; exact Nat.lt_of_lt_of_le hy h3) (fun e => hn e.symm)]; exact (below_trans (below_alloc wc (.cells #[.int .i64 kf, .int .i64 d, .int .i64 n, .int .u64 0, .float .f64 0] 41)) (below_drew _)).block y hy
        have hh5 : w5.heap[R]? = some (.cells (RC (Rd.mk r.ln v2 r.fa r.s) ov (.slice oa r.s.sts.length oc)) 44 (0, 0)) := by rw [hb5 R (blk_lt HR4.out.blk) (fun e => by have h1 := (HR4.out.sts.lt R e).1; have h2 := HR4.out.rb; have h3 := HR4.out.bm; omega)]; exact HR4.out.blk
        have v7 : w5.cell? ⟨R, 12, none⟩ = some (.slice oa r.s.sts.length oc) := by rw [blk_cell hh5]; rfl
        have y7 : w5.frozen? ⟨R, 12, none⟩ = false := blk_soft hh5 12
        have HT5 : Hid (w5.heap[g]? = some (.cells #[.int .i64 kf, .int .i64 d, .int .i64 n, .int .u64 0, .float .f64 0] 41 (0, 0))) := by show _ = _; rw [hb5 g (blk_lt HG4.out) (fun e => HGOO.out g e rfl)]; exact HG4.out
        clear hr5 hg5 hat5 hh5 hb5
        refine hK.out _ _ ?_ (fun hHeld => ?_)
        · exact HT5.out
        clear hK K
        try simp only [Act.put, List.setIfInBounds_toArray, List.set_cons_zero, List.set_cons_succ]
        refine wpAnyH_take (i := 8) (oi := ⟨some 57, _, _, _, _, _⟩) (v := ?_) rfl (by kernel_rfl) (by kernel_rfl) (by kernel_rfl) (fun _ _ _ h => h) (Or.inl ⟨by rfl, ?_⟩) hHeld ?_
        rotate_left
        · intro w hSw; (try dsimp only at hSw); go_simp; all_goals (with_reducible rfl)
        try simp only [Act.put, List.setIfInBounds_toArray, List.set_cons_zero, List.set_cons_succ]
        refine wpAnyH_take (i := 9) (oi := ⟨some 58, _, _, _, _, _⟩) (v := ?_) rfl (by kernel_rfl) (by kernel_rfl) (by kernel_rfl) (fun _ _ _ h => h) (Or.inl ⟨by rfl, ?_⟩) hHeld ?_
        rotate_left
        · intro w hSw; (try dsimp only at hSw); go_simp; all_goals (with_reducible rfl)
        try simp only [Act.put, List.setIfInBounds_toArray, List.set_cons_zero, List.set_cons_succ]
        refine wpAnyH_ready (rs := [10]) (by kernel_rfl) (by simp) ?_
        refine AllReadyH.cons (o := ⟨none, _, _, _, _, _⟩) rfl (fun K hK => ?_) AllReadyH.nil
        go_simp
        refine hK.out _ _ ?_ (fun hHeld => ?_)
        · exact (by rw [set_other _ (fun e => HAP.out.1 e.symm)]; exact HT5.out)
        clear hK K
        try simp only [Act.put, List.setIfInBounds_toArray, List.set_cons_zero, List.set_cons_succ]
        refine wpAnyH_done (by kernel_rfl) ?_ _
        refine NoPanic.normal ?_
        have HE := hidH (RM.addSt HR4.out (st := ⟨kf, d, n, 0, 0⟩) (below_trans (below_alloc wc (.cells #[.int .i64 kf, .int .i64 d, .int .i64 n, .int .u64 0, .float .f64 0] 41)) (below_drew _)) HR5.out HG5.out)
        refine bodyPost_end (results_none rfl _ _ _) rfl ?_
        rw [HA.out]
        exact ⟨rfl, ⟨_, _, _, HE.out.1⟩, (HC4.out.le fun x hx => .inl hx).self HE.out.2⟩
      · go_simp
        refine hK.out _ _ ?_ (fun hHeld => ?_)
        · exact (alloc_old hHeld)
        clear hK K
        try simp only [Act.put, List.setIfInBounds_toArray, List.set_cons_zero, List.set_cons_succ]
        refine wpAnyH_ready (rs := [4]) (by kernel_rfl) (by simp) ?_
        refine AllReadyH.cons (o := ⟨some 53, _, _, _, _, _⟩) rfl (fun K hK => ?_) AllReadyH.nil
        go_simp
        refine hK.out _ _ ?_ (fun hHeld => ?_)
        · exact hHeld
        clear hK K
        try simp only [Act.put, List.setIfInBounds_toArray, List.set_cons_zero, List.set_cons_succ]
        refine wpAnyH_ready (rs := [7]) (by kernel_rfl) (by simp) ?_
        refine AllReadyH.cons (o := ⟨some 56, _, _, _, _, _⟩) rfl (fun K hK => ?_) AllReadyH.nil
        refine step_app_st rfl (.tmp 53) (.tmp 55) rfl (base := M) (.slice oa r.s.sts.length oc) r.s.sts.length (stsF r.s.sts) (by simp [Act.eval]) (row_keep HR4.out.sts fun y hy => (below_trans (below_alloc wc (.cells #[.int .i64 kf, .int .i64 d, .int .i64 n, .int .u64 0, .float .f64 0] 41)) (below_drew _)).block y (HR4.out.sts.lt y hy).2) wc.heap.size [.int .i64 kf, .int .i64 d, .int .i64 n, .int .u64 0, .float .f64 0] (by simp [Act.eval]) rfl (alloc_at rfl) (by intro u hu; simp only [List.mem_cons, List.not_mem_nil, or_false] at hu; rcases hu with rfl | rfl | rfl | rfl | rfl <;> rfl) HON.out (by have h2 := HR4.out.ms; have h3 := (below_trans (below_alloc wc (.cells #[.int .i64 kf, .int .i64 d, .int .i64 n, .int .u64 0, .float .f64 0] 41)) (below_drew _)).size; exact Nat.le_trans h2 h3) ?_
        intro v5 w5 hr5 hg5 hat5
        have HR5 : Hid (w5.ownsRow M 41 5 v5 (r.s.sts.length + 1) (stsF r.s.sts ++ stF ⟨kf, d, n, 0, 0⟩)) := hr5
        have HG5 := hidH hg5
        obtain ⟨a5, cp5, rfl, _, _⟩ := own_form21 hr5
        have hb5 : ∀ y, y < wc.heap.size → (Value.slice oa r.s.sts.length oc).ownBlock ≠ some y → w5.heap[y]? = wc.heap[y]? := fun y hy hn => by rw [hg5.block y (by have h3 := (below_trans (below_alloc wc (.cells #[.int .i64 kf, .int .i64 d, .int .i64 n, .int .u64 0, .float .f64 0] 41)) (below_drew _)).size; exact Nat.lt_of_lt_of_le hy h3) (fun e => hn e.symm)]; exact (below_trans (below_alloc wc (.cells #[.int .i64 kf, .int .i64 d, .int .i64 n, .int .u64 0, .float .f64 0] 41)) (below_drew _)).block y hy
        have hh5 : w5.heap[R]? = some (.cells (RC (Rd.mk r.ln v2 r.fa r.s) ov (.slice oa r.s.sts.length oc)) 44 (0, 0)) := by rw [hb5 R (blk_lt HR4.out.blk) (fun e => by have h1 := (HR4.out.sts.lt R e).1; have h2 := HR4.out.rb; have h3 := HR4.out.bm; omega)]; exact HR4.out.blk
        have v7 : w5.cell? ⟨R, 12, none⟩ = some (.slice oa r.s.sts.length oc) := by rw [blk_cell hh5]; rfl
        have y7 : w5.frozen? ⟨R, 12, none⟩ = false := blk_soft hh5 12
        have HT5 : Hid (w5.heap[g]? = some (.cells #[.int .i64 kf, .int .i64 d, .int .i64 n, .int .u64 0, .float .f64 0] 41 (0, 0))) := by show _ = _; rw [hb5 g (blk_lt HG4.out) (fun e => HGOO.out g e rfl)]; exact HG4.out
        clear hr5 hg5 hat5 hh5 hb5
        refine hK.out _ _ ?_ (fun hHeld => ?_)
        · exact HT5.out
        clear hK K
        try simp only [Act.put, List.setIfInBounds_toArray, List.set_cons_zero, List.set_cons_succ]
        refine wpAnyH_take (i := 8) (oi := ⟨some 57, _, _, _, _, _⟩) (v := ?_) rfl (by kernel_rfl) (by kernel_rfl) (by kernel_rfl) (fun _ _ _ h => h) (Or.inl ⟨by rfl, ?_⟩) hHeld ?_
        rotate_left
        · intro w hSw; (try dsimp only at hSw); go_simp; all_goals (with_reducible rfl)
        try simp only [Act.put, List.setIfInBounds_toArray, List.set_cons_zero, List.set_cons_succ]
        refine wpAnyH_take (i := 9) (oi := ⟨some 58, _, _, _, _, _⟩) (v := ?_) rfl (by kernel_rfl) (by kernel_rfl) (by kernel_rfl) (fun _ _ _ h => h) (Or.inl ⟨by rfl, ?_⟩) hHeld ?_
        rotate_left
        · intro w hSw; (try dsimp only at hSw); go_simp; all_goals (with_reducible rfl)
        try simp only [Act.put, List.setIfInBounds_toArray, List.set_cons_zero, List.set_cons_succ]
        refine wpAnyH_ready (rs := [10]) (by kernel_rfl) (by simp) ?_
        refine AllReadyH.cons (o := ⟨none, _, _, _, _, _⟩) rfl (fun K hK => ?_) AllReadyH.nil
        go_simp
        refine hK.out _ _ ?_ (fun hHeld => ?_)
        · exact (by rw [set_other _ (fun e => HAP.out.1 e.symm)]; exact HT5.out)
        clear hK K
        try simp only [Act.put, List.setIfInBounds_toArray, List.set_cons_zero, List.set_cons_succ]
        refine wpAnyH_done (by kernel_rfl) ?_ _
        refine NoPanic.normal ?_
        have HE := hidH (RM.addSt HR4.out (st := ⟨kf, d, n, 0, 0⟩) (below_trans (below_alloc wc (.cells #[.int .i64 kf, .int .i64 d, .int .i64 n, .int .u64 0, .float .f64 0] 41)) (below_drew _)) HR5.out HG5.out)
        refine bodyPost_end (results_none rfl _ _ _) rfl ?_
        rw [HA.out]
        exact ⟨rfl, ⟨_, _, _, HE.out.1⟩, (HC4.out.le fun x hx => .inl hx).self HE.out.2⟩


set_option maxRecDepth 100000 in
set_option maxHeartbeats 8000000 in
theorem takeStep_0 (h : RM B R r ov sv M w) (hon : r.s.sts.length ≤ 4096) {v : Bs} {f : Fm} (hf : formW v = some f) (hfg : f.g = 0) :
    Calls Tryz.prog 50 #[.pointer (some ⟨R, 0, none⟩), S v] w (LineGot B R r ((stA f r.ws).map fun x => ({ r.s with sts := r.s.sts ++ [x.1] }, x.2)) w) := by
  have HR : Hid (RM B R r ov sv M w) := h
  have HON : Hid (r.s.sts.length ≤ 300000) := by show _ ≤ _; omega
  obtain ⟨A, hA⟩ : ∃ A, A = (stA f r.ws).map fun x => ({ r.s with sts := r.s.sts ++ [x.1] }, x.2) := ⟨_, rfl⟩
  rw [← hA]
  have HAA : Hid (A = (stA f r.ws).map fun x => ({ r.s with sts := r.s.sts ++ [x.1] }, x.2)) := hA
  have HFW := formNamed_walk v w h.tb
  have hfw : formL.find? (fun f => f.w == v) = some f := hf
  rw [hfw] at HFW
  simp only [FmA, FmV, Option.getD_some, Option.isSome_some, S, hfg] at HFW ⊢
  obtain ⟨kf, hfK⟩ : ∃ k, k = f.K := ⟨_, rfl⟩
  obtain ⟨fw, hfw2⟩ : ∃ k : ByteArray, k = ⟨f.w.toArray⟩ := ⟨_, rfl⟩
  rw [← hfK, ← hfw2] at HFW
  have HF : Hid (kf = f.K ∧ f.g = 0) := ⟨hfK, hfg⟩
  obtain ⟨t, ht⟩ : ∃ t : ByteArray, t = ⟨v.toArray⟩ := ⟨_, rfl⟩
  rw [← ht] at HFW ⊢
  have HFN : Hid (Calls Tryz.prog 62 #[.string t] w fun e w' => e = .returned (.tuple #[.agg #[.int .i64 kf, .string fw, .int .i64 0], .bool true]) ∧ Below w.heap.size w w') := HFW
  have b1 : bits .and .i64 0 1 = 0 := by decide +kernel
  have b2 : bits .and .i64 0 2 = 0 := by decide +kernel
  have b4 : bits .and .i64 0 4 = 0 := by decide +kernel
  have b8 : bits .and .i64 0 8 = 0 := by decide +kernel
  clear h hon hA HFW hf hfg hfw hfK hfw2 ht
  go_enter Tryz.func50, Tryz.ntmps50
  go_wp2_with fail
  refine HFN.out.mono ?_
  rintro e9 w0 ⟨rfl, hB0⟩
  have HR0 : Hid (RM B R r ov sv M w0) := HR.out.go hB0
  have HB0 : Hid (Below w.heap.size w w0) := hB0
  obtain ⟨gf, hgf⟩ : ∃ gf, gf = w0.heap.size := ⟨_, rfl⟩
  obtain ⟨w1, hw1⟩ : ∃ w1, w1 = w0.alloc (.cells #[.int .i64 kf, .string fw, .int .i64 0] 80) := ⟨_, rfl⟩
  have HW1 : Hid (gf = w0.heap.size ∧ w1 = w0.alloc (.cells #[.int .i64 kf, .string fw, .int .i64 0] 80)) := ⟨hgf, hw1⟩
  have HR1 : Hid (RM B R r ov sv M w1) := by show RM _ _ _ _ _ _ _; rw [hw1]; exact HR0.out.go (below_alloc _ _)
  have HF1 : Hid (w1.heap[gf]? = some (.cells #[.int .i64 kf, .string fw, .int .i64 0] 80 (0, 0))) := by show _ = _; rw [hw1]; exact alloc_at hgf
  have HB1 : Hid (Below w.heap.size w w1) := by show Below _ _ _; rw [hw1]; exact below_trans hB0 (below_alloc _ _)
  have HAF : Hid (R ≠ gf) := (HR0.out.apart (Nat.le_of_eq hgf.symm)).1
  clear hB0 hgf hw1 HFN
  go_wp2_with fail
  rw [← HW1.out.1, ← HW1.out.2]
  clear HW1
  refine (refuse_no 210 w1).mono ?_
  rintro e9 w9 ⟨rfl, hw9⟩
  replace hw9 := hw9.symm
  subst hw9
  have k0 : w1.cell? ⟨gf, 0, none⟩ = some (.int .i64 kf) := by rw [blk_cell HF1.out]; rfl
  have k2 : w1.cell? ⟨gf, 2, none⟩ = some (.int .i64 0) := by rw [blk_cell HF1.out]; rfl
  have kl : gf < w1.heap.size := blk_lt HF1.out
  have kn : ¬ gf = w1.heap.size := by omega
  obtain ⟨g, hg⟩ : ∃ g, g = w1.heap.size := ⟨_, rfl⟩
  obtain ⟨wa, hwa⟩ : ∃ wa, wa = w1.alloc (.cells #[.int .i64 kf, .int .i64 0, .int .i64 0, .int .u64 0, .float .f64 0] 41) := ⟨_, rfl⟩
  have HWA : Hid (g = w1.heap.size ∧ wa = w1.alloc (.cells #[.int .i64 kf, .int .i64 0, .int .i64 0, .int .u64 0, .float .f64 0] 41)) := ⟨hg, hwa⟩
  have HS0R : Hid (RM B R (Rd.mk r.ln r.ws r.fa r.s) ov sv M wa) := by show RM _ _ _ _ _ _ _; rw [hwa]; exact HR1.out.go (below_alloc _ _)
  have HS0F : Hid (wa.heap[gf]? = some (.cells #[.int .i64 kf, .string fw, .int .i64 0] 80 (0, 0))) := by show _ = _; rw [hwa]; exact alloc_old HF1.out
  have HS0G : Hid (wa.heap[g]? = some (.cells #[.int .i64 kf, .int .i64 0, .int .i64 0, .int .u64 0, .float .f64 0] 41 (0, 0))) := by show _ = _; rw [hwa]; exact alloc_at hg
  have HBA : Hid (Below w.heap.size w wa) := by show Below _ _ _; rw [hwa]; exact below_trans HB1.out (below_alloc _ _)
  have HS0C : Hid (Ch (fun x => x = R) w wa) := Ch.of_below HBA.out
  have HAP : Hid (R ≠ g ∧ R ≤ g ∧ (∀ x, ov.ownBlock = some x → x ≠ g) ∧ (∀ x, sv.ownBlock = some x → x ≠ g)) := HR1.out.apart (Nat.le_of_eq hg.symm)
  have HGF : Hid (gf ≠ g ∧ w.heap.size ≤ g) := ⟨by omega, by have := HB1.out.size; omega⟩
  have ka0 : wa.cell? ⟨gf, 0, none⟩ = some (.int .i64 kf) := by rw [blk_cell HS0F.out]; rfl
  have ka2 : wa.cell? ⟨gf, 2, none⟩ = some (.int .i64 0) := by rw [blk_cell HS0F.out]; rfl
  clear hwa hg
  have hgn : ¬ gf = g := HGF.out.1
  have hgm : ¬ g = gf := fun e => HGF.out.1 e.symm
  clear ka0 ka2
  go_wp2_with fail
  rw [← HWA.out.1, ← HWA.out.2]
  clear HWA k0 k2 kl kn
  have HA : Hid (A = some ({ r.s with sts := r.s.sts ++ [⟨kf, 0, 0, 0, 0⟩] }, r.ws)) := by
    show _ = _
    rw [HAA.out]
    have hk := HF.out.1
    simp [stA, HF.out.2, onlyI, onlyK, onlyF, fN, fK, fU, fV, hk]
  obtain ⟨oa, oc, hov, _, _⟩ := own_form21 HS0R.out.sts
  have hr4 := HS0R.out
  have hgo := HAP.out.2.2.2
  rw [hov] at hr4 hgo
  have HR4 : Hid (RM B R (Rd.mk r.ln r.ws r.fa r.s) ov (.slice oa r.s.sts.length oc) M wa) := hr4
  have HGOO : Hid (∀ x, (Value.slice oa r.s.sts.length oc).ownBlock = some x → x ≠ g) := hgo
  have HG4 := HS0G
  have HC4 := HS0C
  have c7 : wa.cell? ⟨R, 12, none⟩ = some (.slice oa r.s.sts.length oc) := by rw [blk_cell hr4.blk]; rfl
  have x0 : ∀ wx : World, wx.heap[g]? = some (.cells #[.int .i64 kf, .int .i64 0, .int .i64 0, .int .u64 0, .float .f64 0] 41 (0, 0)) → wx.cell? ⟨g, 0, none⟩ = some (.int .i64 kf) := fun wx h => by rw [blk_cell h]; rfl
  have x1 : ∀ wx : World, wx.heap[g]? = some (.cells #[.int .i64 kf, .int .i64 0, .int .i64 0, .int .u64 0, .float .f64 0] 41 (0, 0)) → wx.cell? ⟨g, 1, none⟩ = some (.int .i64 0) := fun wx h => by rw [blk_cell h]; rfl
  have x2 : ∀ wx : World, wx.heap[g]? = some (.cells #[.int .i64 kf, .int .i64 0, .int .i64 0, .int .u64 0, .float .f64 0] 41 (0, 0)) → wx.cell? ⟨g, 2, none⟩ = some (.int .i64 0) := fun wx h => by rw [blk_cell h]; rfl
  have x3 : ∀ wx : World, wx.heap[g]? = some (.cells #[.int .i64 kf, .int .i64 0, .int .i64 0, .int .u64 0, .float .f64 0] 41 (0, 0)) → wx.cell? ⟨g, 3, none⟩ = some (.int .u64 0) := fun wx h => by rw [blk_cell h]; rfl
  have x4 : ∀ wx : World, wx.heap[g]? = some (.cells #[.int .i64 kf, .int .i64 0, .int .i64 0, .int .u64 0, .float .f64 0] 41 (0, 0)) → wx.cell? ⟨g, 4, none⟩ = some (.float .f64 0) := fun wx h => by rw [blk_cell h]; rfl
  have hR4 : R < wa.heap.size := blk_lt hr4.blk
  have hR5 : ¬ R = wa.heap.size := by omega
  clear hov hr4 hgo
  refine wp_region_noPanic ?_
  refine wp_region_held_drew (S := fun wx => wx.heap[g]? = some (.cells #[.int .i64 kf, .int .i64 0, .int .i64 0, .int .u64 0, .float .f64 0] 41 (0, 0))) (by kernel_rfl) ?_ (fun hHeld => ?_)
  · exact HG4.out
  refine wpAnyH_take (i := 0) (oi := ⟨some 49, _, _, _, _, _⟩) (v := ?_) rfl (by kernel_rfl) (by kernel_rfl) (by kernel_rfl) (fun _ _ _ h => h) (Or.inl ⟨by rfl, ?_⟩) hHeld ?_
  rotate_left
  · intro w hSw; (try dsimp only at hSw); go_simp; all_goals (with_reducible rfl)
  try simp only [Act.put, List.setIfInBounds_toArray, List.set_cons_zero, List.set_cons_succ]
  refine wpAnyH_take (i := 1) (oi := ⟨some 50, _, _, _, _, _⟩) (v := ?_) rfl (by kernel_rfl) (by kernel_rfl) (by kernel_rfl) (fun _ _ _ h => h) (Or.inl ⟨by rfl, ?_⟩) hHeld ?_
  rotate_left
  · intro w hSw; (try dsimp only at hSw); go_simp; all_goals (with_reducible rfl)
  try simp only [Act.put, List.setIfInBounds_toArray, List.set_cons_zero, List.set_cons_succ]
  refine wpAnyH_take (i := 2) (oi := ⟨some 51, _, _, _, _, _⟩) (v := ?_) rfl (by kernel_rfl) (by kernel_rfl) (by kernel_rfl) (fun _ _ _ h => h) (Or.inl ⟨by rfl, ?_⟩) hHeld ?_
  rotate_left
  · intro w hSw; (try dsimp only at hSw); go_simp; all_goals (with_reducible rfl)
  try simp only [Act.put, List.setIfInBounds_toArray, List.set_cons_zero, List.set_cons_succ]
  refine wpAnyH_take (i := 3) (oi := ⟨some 52, _, _, _, _, _⟩) (v := ?_) rfl (by kernel_rfl) (by kernel_rfl) (by kernel_rfl) (fun _ _ _ h => h) (Or.inl ⟨by rfl, ?_⟩) hHeld ?_
  rotate_left
  · intro w hSw; (try dsimp only at hSw); go_simp; all_goals (with_reducible rfl)
  try simp only [Act.put, List.setIfInBounds_toArray, List.set_cons_zero, List.set_cons_succ]
  refine wpAnyH_take (i := 5) (oi := ⟨some 54, _, _, _, _, _⟩) (v := ?_) rfl (by kernel_rfl) (by kernel_rfl) (by kernel_rfl) (fun _ _ _ h => h) (Or.inl ⟨by rfl, ?_⟩) hHeld ?_
  rotate_left
  · intro w hSw; (try dsimp only at hSw); go_simp; all_goals (with_reducible rfl)
  try simp only [Act.put, List.setIfInBounds_toArray, List.set_cons_zero, List.set_cons_succ]
  refine wpAnyH_ready (rs := [4, 6]) (by kernel_rfl) (by simp) ?_
  refine AllReadyH.cons (o := ⟨some 53, _, _, _, _, _⟩) rfl (fun K hK => ?_) (AllReadyH.cons (o := ⟨some 55, _, _, _, _, _⟩) rfl (fun K hK => ?_) AllReadyH.nil)
  · go_simp
    refine hK.out _ _ ?_ (fun hHeld => ?_)
    · exact hHeld
    clear hK K
    try simp only [Act.put, List.setIfInBounds_toArray, List.set_cons_zero, List.set_cons_succ]
    refine wpAnyH_ready (rs := [6]) (by kernel_rfl) (by simp) ?_
    refine AllReadyH.cons (o := ⟨some 55, _, _, _, _, _⟩) rfl (fun K hK => ?_) AllReadyH.nil
    go_simp
    refine hK.out _ _ ?_ (fun hHeld => ?_)
    · exact (alloc_old hHeld)
    clear hK K
    try simp only [Act.put, List.setIfInBounds_toArray, List.set_cons_zero, List.set_cons_succ]
    refine wpAnyH_ready (rs := [7]) (by kernel_rfl) (by simp) ?_
    refine AllReadyH.cons (o := ⟨some 56, _, _, _, _, _⟩) rfl (fun K hK => ?_) AllReadyH.nil
    refine step_app_st rfl (.tmp 53) (.tmp 55) rfl (base := M) (.slice oa r.s.sts.length oc) r.s.sts.length (stsF r.s.sts) (by simp [Act.eval]) (row_keep HR4.out.sts fun y hy => (below_trans (below_alloc wa (.cells #[.int .i64 kf, .int .i64 0, .int .i64 0, .int .u64 0, .float .f64 0] 41)) (below_drew _)).block y (HR4.out.sts.lt y hy).2) wa.heap.size [.int .i64 kf, .int .i64 0, .int .i64 0, .int .u64 0, .float .f64 0] (by simp [Act.eval]) rfl (alloc_at rfl) (by intro u hu; simp only [List.mem_cons, List.not_mem_nil, or_false] at hu; rcases hu with rfl | rfl | rfl | rfl | rfl <;> rfl) HON.out (by have h2 := HR4.out.ms; have h3 := (below_trans (below_alloc wa (.cells #[.int .i64 kf, .int .i64 0, .int .i64 0, .int .u64 0, .float .f64 0] 41)) (below_drew _)).size; exact Nat.le_trans h2 h3) ?_
    intro v5 w5 hr5 hg5 hat5
    have HR5 : Hid (w5.ownsRow M 41 5 v5 (r.s.sts.length + 1) (stsF r.s.sts ++ stF ⟨kf, 0, 0, 0, 0⟩)) := hr5
    have HG5 := hidH hg5
    obtain ⟨a5, cp5, rfl, _, _⟩ := own_form21 hr5
    have hb5 : ∀ y, y < wa.heap.size → (Value.slice oa r.s.sts.length oc).ownBlock ≠ some y → w5.heap[y]? = wa.heap[y]? := fun y hy hn => by rw [hg5.block y (by have h3 := (below_trans (below_alloc wa (.cells #[.int .i64 kf, .int .i64 0, .int .i64 0, .int .u64 0, .float .f64 0] 41)) (below_drew _)).size; exact Nat.lt_of_lt_of_le hy h3) (fun e => hn e.symm)]; exact (below_trans (below_alloc wa (.cells #[.int .i64 kf, .int .i64 0, .int .i64 0, .int .u64 0, .float .f64 0] 41)) (below_drew _)).block y hy
    have hh5 : w5.heap[R]? = some (.cells (RC (Rd.mk r.ln r.ws r.fa r.s) ov (.slice oa r.s.sts.length oc)) 44 (0, 0)) := by rw [hb5 R (blk_lt HR4.out.blk) (fun e => by have h1 := (HR4.out.sts.lt R e).1; have h2 := HR4.out.rb; have h3 := HR4.out.bm; omega)]; exact HR4.out.blk
    have v7 : w5.cell? ⟨R, 12, none⟩ = some (.slice oa r.s.sts.length oc) := by rw [blk_cell hh5]; rfl
    have y7 : w5.frozen? ⟨R, 12, none⟩ = false := blk_soft hh5 12
    have HT5 : Hid (w5.heap[g]? = some (.cells #[.int .i64 kf, .int .i64 0, .int .i64 0, .int .u64 0, .float .f64 0] 41 (0, 0))) := by show _ = _; rw [hb5 g (blk_lt HG4.out) (fun e => HGOO.out g e rfl)]; exact HG4.out
    clear hr5 hg5 hat5 hh5 hb5
    refine hK.out _ _ ?_ (fun hHeld => ?_)
    · exact HT5.out
    clear hK K
    try simp only [Act.put, List.setIfInBounds_toArray, List.set_cons_zero, List.set_cons_succ]
    refine wpAnyH_take (i := 8) (oi := ⟨some 57, _, _, _, _, _⟩) (v := ?_) rfl (by kernel_rfl) (by kernel_rfl) (by kernel_rfl) (fun _ _ _ h => h) (Or.inl ⟨by rfl, ?_⟩) hHeld ?_
    rotate_left
    · intro w hSw; (try dsimp only at hSw); go_simp; all_goals (with_reducible rfl)
    try simp only [Act.put, List.setIfInBounds_toArray, List.set_cons_zero, List.set_cons_succ]
    refine wpAnyH_take (i := 9) (oi := ⟨some 58, _, _, _, _, _⟩) (v := ?_) rfl (by kernel_rfl) (by kernel_rfl) (by kernel_rfl) (fun _ _ _ h => h) (Or.inl ⟨by rfl, ?_⟩) hHeld ?_
    rotate_left
    · intro w hSw; (try dsimp only at hSw); go_simp; all_goals (with_reducible rfl)
    try simp only [Act.put, List.setIfInBounds_toArray, List.set_cons_zero, List.set_cons_succ]
    refine wpAnyH_ready (rs := [10]) (by kernel_rfl) (by simp) ?_
    refine AllReadyH.cons (o := ⟨none, _, _, _, _, _⟩) rfl (fun K hK => ?_) AllReadyH.nil
    go_simp
    refine hK.out _ _ ?_ (fun hHeld => ?_)
    · exact (by rw [set_other _ (fun e => HAP.out.1 e.symm)]; exact HT5.out)
    clear hK K
    try simp only [Act.put, List.setIfInBounds_toArray, List.set_cons_zero, List.set_cons_succ]
    refine wpAnyH_done (by kernel_rfl) ?_ _
    refine NoPanic.normal ?_
    have HE := hidH (RM.addSt HR4.out (st := ⟨kf, 0, 0, 0, 0⟩) (below_trans (below_alloc wa (.cells #[.int .i64 kf, .int .i64 0, .int .i64 0, .int .u64 0, .float .f64 0] 41)) (below_drew _)) HR5.out HG5.out)
    refine bodyPost_end (results_none rfl _ _ _) rfl ?_
    rw [HA.out]
    exact ⟨rfl, ⟨_, _, _, HE.out.1⟩, (HC4.out.le fun x hx => .inl hx).self HE.out.2⟩
  · go_simp
    refine hK.out _ _ ?_ (fun hHeld => ?_)
    · exact (alloc_old hHeld)
    clear hK K
    try simp only [Act.put, List.setIfInBounds_toArray, List.set_cons_zero, List.set_cons_succ]
    refine wpAnyH_ready (rs := [4]) (by kernel_rfl) (by simp) ?_
    refine AllReadyH.cons (o := ⟨some 53, _, _, _, _, _⟩) rfl (fun K hK => ?_) AllReadyH.nil
    go_simp
    refine hK.out _ _ ?_ (fun hHeld => ?_)
    · exact hHeld
    clear hK K
    try simp only [Act.put, List.setIfInBounds_toArray, List.set_cons_zero, List.set_cons_succ]
    refine wpAnyH_ready (rs := [7]) (by kernel_rfl) (by simp) ?_
    refine AllReadyH.cons (o := ⟨some 56, _, _, _, _, _⟩) rfl (fun K hK => ?_) AllReadyH.nil
    refine step_app_st rfl (.tmp 53) (.tmp 55) rfl (base := M) (.slice oa r.s.sts.length oc) r.s.sts.length (stsF r.s.sts) (by simp [Act.eval]) (row_keep HR4.out.sts fun y hy => (below_trans (below_alloc wa (.cells #[.int .i64 kf, .int .i64 0, .int .i64 0, .int .u64 0, .float .f64 0] 41)) (below_drew _)).block y (HR4.out.sts.lt y hy).2) wa.heap.size [.int .i64 kf, .int .i64 0, .int .i64 0, .int .u64 0, .float .f64 0] (by simp [Act.eval]) rfl (alloc_at rfl) (by intro u hu; simp only [List.mem_cons, List.not_mem_nil, or_false] at hu; rcases hu with rfl | rfl | rfl | rfl | rfl <;> rfl) HON.out (by have h2 := HR4.out.ms; have h3 := (below_trans (below_alloc wa (.cells #[.int .i64 kf, .int .i64 0, .int .i64 0, .int .u64 0, .float .f64 0] 41)) (below_drew _)).size; exact Nat.le_trans h2 h3) ?_
    intro v5 w5 hr5 hg5 hat5
    have HR5 : Hid (w5.ownsRow M 41 5 v5 (r.s.sts.length + 1) (stsF r.s.sts ++ stF ⟨kf, 0, 0, 0, 0⟩)) := hr5
    have HG5 := hidH hg5
    obtain ⟨a5, cp5, rfl, _, _⟩ := own_form21 hr5
    have hb5 : ∀ y, y < wa.heap.size → (Value.slice oa r.s.sts.length oc).ownBlock ≠ some y → w5.heap[y]? = wa.heap[y]? := fun y hy hn => by rw [hg5.block y (by have h3 := (below_trans (below_alloc wa (.cells #[.int .i64 kf, .int .i64 0, .int .i64 0, .int .u64 0, .float .f64 0] 41)) (below_drew _)).size; exact Nat.lt_of_lt_of_le hy h3) (fun e => hn e.symm)]; exact (below_trans (below_alloc wa (.cells #[.int .i64 kf, .int .i64 0, .int .i64 0, .int .u64 0, .float .f64 0] 41)) (below_drew _)).block y hy
    have hh5 : w5.heap[R]? = some (.cells (RC (Rd.mk r.ln r.ws r.fa r.s) ov (.slice oa r.s.sts.length oc)) 44 (0, 0)) := by rw [hb5 R (blk_lt HR4.out.blk) (fun e => by have h1 := (HR4.out.sts.lt R e).1; have h2 := HR4.out.rb; have h3 := HR4.out.bm; omega)]; exact HR4.out.blk
    have v7 : w5.cell? ⟨R, 12, none⟩ = some (.slice oa r.s.sts.length oc) := by rw [blk_cell hh5]; rfl
    have y7 : w5.frozen? ⟨R, 12, none⟩ = false := blk_soft hh5 12
    have HT5 : Hid (w5.heap[g]? = some (.cells #[.int .i64 kf, .int .i64 0, .int .i64 0, .int .u64 0, .float .f64 0] 41 (0, 0))) := by show _ = _; rw [hb5 g (blk_lt HG4.out) (fun e => HGOO.out g e rfl)]; exact HG4.out
    clear hr5 hg5 hat5 hh5 hb5
    refine hK.out _ _ ?_ (fun hHeld => ?_)
    · exact HT5.out
    clear hK K
    try simp only [Act.put, List.setIfInBounds_toArray, List.set_cons_zero, List.set_cons_succ]
    refine wpAnyH_take (i := 8) (oi := ⟨some 57, _, _, _, _, _⟩) (v := ?_) rfl (by kernel_rfl) (by kernel_rfl) (by kernel_rfl) (fun _ _ _ h => h) (Or.inl ⟨by rfl, ?_⟩) hHeld ?_
    rotate_left
    · intro w hSw; (try dsimp only at hSw); go_simp; all_goals (with_reducible rfl)
    try simp only [Act.put, List.setIfInBounds_toArray, List.set_cons_zero, List.set_cons_succ]
    refine wpAnyH_take (i := 9) (oi := ⟨some 58, _, _, _, _, _⟩) (v := ?_) rfl (by kernel_rfl) (by kernel_rfl) (by kernel_rfl) (fun _ _ _ h => h) (Or.inl ⟨by rfl, ?_⟩) hHeld ?_
    rotate_left
    · intro w hSw; (try dsimp only at hSw); go_simp; all_goals (with_reducible rfl)
    try simp only [Act.put, List.setIfInBounds_toArray, List.set_cons_zero, List.set_cons_succ]
    refine wpAnyH_ready (rs := [10]) (by kernel_rfl) (by simp) ?_
    refine AllReadyH.cons (o := ⟨none, _, _, _, _, _⟩) rfl (fun K hK => ?_) AllReadyH.nil
    go_simp
    refine hK.out _ _ ?_ (fun hHeld => ?_)
    · exact (by rw [set_other _ (fun e => HAP.out.1 e.symm)]; exact HT5.out)
    clear hK K
    try simp only [Act.put, List.setIfInBounds_toArray, List.set_cons_zero, List.set_cons_succ]
    refine wpAnyH_done (by kernel_rfl) ?_ _
    refine NoPanic.normal ?_
    have HE := hidH (RM.addSt HR4.out (st := ⟨kf, 0, 0, 0, 0⟩) (below_trans (below_alloc wa (.cells #[.int .i64 kf, .int .i64 0, .int .i64 0, .int .u64 0, .float .f64 0] 41)) (below_drew _)) HR5.out HG5.out)
    refine bodyPost_end (results_none rfl _ _ _) rfl ?_
    rw [HA.out]
    exact ⟨rfl, ⟨_, _, _, HE.out.1⟩, (HC4.out.le fun x hx => .inl hx).self HE.out.2⟩


set_option maxRecDepth 100000 in
set_option maxHeartbeats 8000000 in
theorem takeStep_2 (h : RM B R r ov sv M w) (hon : r.s.sts.length ≤ 4096) {v : Bs} {f : Fm} (hf : formW v = some f) (hfg : f.g = 2) :
    Calls Tryz.prog 50 #[.pointer (some ⟨R, 0, none⟩), S v] w (LineGot B R r ((stA f r.ws).map fun x => ({ r.s with sts := r.s.sts ++ [x.1] }, x.2)) w) := by
  have HR : Hid (RM B R r ov sv M w) := h
  have HON : Hid (r.s.sts.length ≤ 300000) := by show _ ≤ _; omega
  obtain ⟨A, hA⟩ : ∃ A, A = (stA f r.ws).map fun x => ({ r.s with sts := r.s.sts ++ [x.1] }, x.2) := ⟨_, rfl⟩
  rw [← hA]
  have HAA : Hid (A = (stA f r.ws).map fun x => ({ r.s with sts := r.s.sts ++ [x.1] }, x.2)) := hA
  have HFW := formNamed_walk v w h.tb
  have hfw : formL.find? (fun f => f.w == v) = some f := hf
  rw [hfw] at HFW
  simp only [FmA, FmV, Option.getD_some, Option.isSome_some, S, hfg] at HFW ⊢
  obtain ⟨kf, hfK⟩ : ∃ k, k = f.K := ⟨_, rfl⟩
  obtain ⟨fw, hfw2⟩ : ∃ k : ByteArray, k = ⟨f.w.toArray⟩ := ⟨_, rfl⟩
  rw [← hfK, ← hfw2] at HFW
  have HF : Hid (kf = f.K ∧ f.g = 2) := ⟨hfK, hfg⟩
  obtain ⟨t, ht⟩ : ∃ t : ByteArray, t = ⟨v.toArray⟩ := ⟨_, rfl⟩
  rw [← ht] at HFW ⊢
  have HFN : Hid (Calls Tryz.prog 62 #[.string t] w fun e w' => e = .returned (.tuple #[.agg #[.int .i64 kf, .string fw, .int .i64 2], .bool true]) ∧ Below w.heap.size w w') := HFW
  have b1 : bits .and .i64 2 1 = 0 := by decide +kernel
  have b2 : bits .and .i64 2 2 = 2 := by decide +kernel
  have b4 : bits .and .i64 2 4 = 0 := by decide +kernel
  have b8 : bits .and .i64 2 8 = 0 := by decide +kernel
  clear h hon hA HFW hf hfg hfw hfK hfw2 ht
  go_enter Tryz.func50, Tryz.ntmps50
  go_wp2_with fail
  refine HFN.out.mono ?_
  rintro e9 w0 ⟨rfl, hB0⟩
  have HR0 : Hid (RM B R r ov sv M w0) := HR.out.go hB0
  have HB0 : Hid (Below w.heap.size w w0) := hB0
  obtain ⟨gf, hgf⟩ : ∃ gf, gf = w0.heap.size := ⟨_, rfl⟩
  obtain ⟨w1, hw1⟩ : ∃ w1, w1 = w0.alloc (.cells #[.int .i64 kf, .string fw, .int .i64 2] 80) := ⟨_, rfl⟩
  have HW1 : Hid (gf = w0.heap.size ∧ w1 = w0.alloc (.cells #[.int .i64 kf, .string fw, .int .i64 2] 80)) := ⟨hgf, hw1⟩
  have HR1 : Hid (RM B R r ov sv M w1) := by show RM _ _ _ _ _ _ _; rw [hw1]; exact HR0.out.go (below_alloc _ _)
  have HF1 : Hid (w1.heap[gf]? = some (.cells #[.int .i64 kf, .string fw, .int .i64 2] 80 (0, 0))) := by show _ = _; rw [hw1]; exact alloc_at hgf
  have HB1 : Hid (Below w.heap.size w w1) := by show Below _ _ _; rw [hw1]; exact below_trans hB0 (below_alloc _ _)
  have HAF : Hid (R ≠ gf) := (HR0.out.apart (Nat.le_of_eq hgf.symm)).1
  clear hB0 hgf hw1 HFN
  go_wp2_with fail
  rw [← HW1.out.1, ← HW1.out.2]
  clear HW1
  refine (refuse_no 210 w1).mono ?_
  rintro e9 w9 ⟨rfl, hw9⟩
  replace hw9 := hw9.symm
  subst hw9
  have k0 : w1.cell? ⟨gf, 0, none⟩ = some (.int .i64 kf) := by rw [blk_cell HF1.out]; rfl
  have k2 : w1.cell? ⟨gf, 2, none⟩ = some (.int .i64 2) := by rw [blk_cell HF1.out]; rfl
  have kl : gf < w1.heap.size := blk_lt HF1.out
  have kn : ¬ gf = w1.heap.size := by omega
  obtain ⟨g, hg⟩ : ∃ g, g = w1.heap.size := ⟨_, rfl⟩
  obtain ⟨wa, hwa⟩ : ∃ wa, wa = w1.alloc (.cells #[.int .i64 kf, .int .i64 0, .int .i64 0, .int .u64 0, .float .f64 0] 41) := ⟨_, rfl⟩
  have HWA : Hid (g = w1.heap.size ∧ wa = w1.alloc (.cells #[.int .i64 kf, .int .i64 0, .int .i64 0, .int .u64 0, .float .f64 0] 41)) := ⟨hg, hwa⟩
  have HS0R : Hid (RM B R (Rd.mk r.ln r.ws r.fa r.s) ov sv M wa) := by show RM _ _ _ _ _ _ _; rw [hwa]; exact HR1.out.go (below_alloc _ _)
  have HS0F : Hid (wa.heap[gf]? = some (.cells #[.int .i64 kf, .string fw, .int .i64 2] 80 (0, 0))) := by show _ = _; rw [hwa]; exact alloc_old HF1.out
  have HS0G : Hid (wa.heap[g]? = some (.cells #[.int .i64 kf, .int .i64 0, .int .i64 0, .int .u64 0, .float .f64 0] 41 (0, 0))) := by show _ = _; rw [hwa]; exact alloc_at hg
  have HBA : Hid (Below w.heap.size w wa) := by show Below _ _ _; rw [hwa]; exact below_trans HB1.out (below_alloc _ _)
  have HS0C : Hid (Ch (fun x => x = R) w wa) := Ch.of_below HBA.out
  have HAP : Hid (R ≠ g ∧ R ≤ g ∧ (∀ x, ov.ownBlock = some x → x ≠ g) ∧ (∀ x, sv.ownBlock = some x → x ≠ g)) := HR1.out.apart (Nat.le_of_eq hg.symm)
  have HGF : Hid (gf ≠ g ∧ w.heap.size ≤ g) := ⟨by omega, by have := HB1.out.size; omega⟩
  have ka0 : wa.cell? ⟨gf, 0, none⟩ = some (.int .i64 kf) := by rw [blk_cell HS0F.out]; rfl
  have ka2 : wa.cell? ⟨gf, 2, none⟩ = some (.int .i64 2) := by rw [blk_cell HS0F.out]; rfl
  clear hwa hg
  have hgn : ¬ gf = g := HGF.out.1
  have hgm : ¬ g = gf := fun e => HGF.out.1 e.symm
  clear ka0 ka2
  go_wp2_with fail
  rw [← HWA.out.1, ← HWA.out.2]
  clear HWA k0 k2 kl kn
  refine (number_walk HS0R.out).mono ?_
  rintro e9 w2 hT
  have hT2 : Took B R M (Rd.mk r.ln r.ws r.fa r.s) ov sv ((nm r.ws).map fun x => (.int .i64 x.1, x.2)) wa e9 w2 := hT
  clear hT
  cases hn : nm r.ws with
  | none =>
    rw [hn] at hT2
    have hT' : Bad B R r.ln 211 wa e9 w2 := hT2
    have HAN : Hid (A = none) := by
      show _ = _
      rw [HAA.out]
      simp [stA, HF.out.2, onlyI, fN, fK, hn]
    have HBD : Hid (Bad B R r.ln 211 w e9 w2) := Bad.from hT' (HS0C.out.le fun x hx => .inl hx)
    obtain ⟨⟨u, pv, rfl⟩, _⟩ := hT'
    clear hT2 hn
    go_wp2_with fail
    refine ⟨rfl, ?_⟩
    rw [HAN.out]
    exact HBD.out
  | some y =>
    obtain ⟨n, v1⟩ := y
    rw [hn] at hT2
    have HN0 : Hid (nm r.ws = some (n, v1)) := hn
    have hT' : Good B R M (Rd.mk r.ln r.ws r.fa r.s) ov sv (.int .i64 n) v1 wa e9 w2 := hT2
    obtain ⟨rfl, hr2, hc2⟩ := hT'
    have HQ : Hid (RM B R (Rd.mk r.ln v1 r.fa r.s) ov sv M w2) := hr2
    have HD : Hid (Ch (fun x => x = R) w w2) := HS0C.out.self hc2
    have HP : Hid (w2.heap[g]? = some (.cells #[.int .i64 kf, .int .i64 0, .int .i64 0, .int .u64 0, .float .f64 0] 41 (0, 0))) := blk_ch HS0G.out hc2 (fun e => HAP.out.1 e.symm)
    have HPF : Hid (w2.heap[gf]? = some (.cells #[.int .i64 kf, .string fw, .int .i64 2] 80 (0, 0))) := blk_ch HS0F.out hc2 (fun e => HAF.out e.symm)
    have c9 : w2.cell? ⟨g, 2, none⟩ = some (.int .i64 0) := by rw [blk_cell HP.out]; rfl
    have z9 : w2.frozen? ⟨g, 2, none⟩ = false := blk_soft HP.out 2
    obtain ⟨wb, hwy⟩ : ∃ wy, wy = w2.setCell ⟨g, 2, none⟩ (.int .i64 n) := ⟨_, rfl⟩
    have HWY : Hid (wb = w2.setCell ⟨g, 2, none⟩ (.int .i64 n)) := hwy
    have HS1R : Hid (RM B R (Rd.mk r.ln v1 r.fa r.s) ov sv M wb) := by
      show RM _ _ _ _ _ _ _
      rw [hwy]
      exact HQ.out.keep (ch_set _ _ _ _) HAP.out.1 HAP.out.2.2.1 HAP.out.2.2.2 HAP.out.2.1
    have HS1G : Hid (wb.heap[g]? = some (.cells #[.int .i64 kf, .int .i64 0, .int .i64 n, .int .u64 0, .float .f64 0] 41 (0, 0))) := by
      show _ = _
      rw [hwy, set_row HP.out]
      rfl
    have HS1F : Hid (wb.heap[gf]? = some (.cells #[.int .i64 kf, .string fw, .int .i64 2] 80 (0, 0))) := by
      show _ = _
      rw [hwy, set_other _ HGF.out.1]
      exact HPF.out
    have HS1C : Hid (Ch (fun x => x = R) w wb) := by
      show Ch _ _ _
      rw [hwy]
      exact HD.out.trans (ch_set _ _ _ _) (fun x hx => .inr (by rw [hx]; exact HGF.out.2))
    have ka3 : wb.cell? ⟨gf, 2, none⟩ = some (.int .i64 2) := by rw [blk_cell HS1F.out]; rfl
    clear hT2 hn hr2 hc2 hwy
    have kw : w2.cell? ⟨gf, 2, none⟩ = some (.int .i64 2) := by rw [blk_cell HPF.out]; rfl
    clear ka3
    go_wp2_with fail
    rw [← HWY.out]
    clear HWY c9 z9 kw HQ HD HP HPF
    have HA : Hid (A = some ({ r.s with sts := r.s.sts ++ [⟨kf, 0, n, 0, 0⟩] }, v1)) := by
      show _ = _
      rw [HAA.out]
      have hk := HF.out.1
      simp [stA, HF.out.2, onlyI, onlyK, onlyF, fN, fK, fU, fV, HN0.out, hk]
    obtain ⟨oa, oc, hov, _, _⟩ := own_form21 HS1R.out.sts
    have hr4 := HS1R.out
    have hgo := HAP.out.2.2.2
    rw [hov] at hr4 hgo
    have HR4 : Hid (RM B R (Rd.mk r.ln v1 r.fa r.s) ov (.slice oa r.s.sts.length oc) M wb) := hr4
    have HGOO : Hid (∀ x, (Value.slice oa r.s.sts.length oc).ownBlock = some x → x ≠ g) := hgo
    have HG4 := HS1G
    have HC4 := HS1C
    have c7 : wb.cell? ⟨R, 12, none⟩ = some (.slice oa r.s.sts.length oc) := by rw [blk_cell hr4.blk]; rfl
    have x0 : ∀ wx : World, wx.heap[g]? = some (.cells #[.int .i64 kf, .int .i64 0, .int .i64 n, .int .u64 0, .float .f64 0] 41 (0, 0)) → wx.cell? ⟨g, 0, none⟩ = some (.int .i64 kf) := fun wx h => by rw [blk_cell h]; rfl
    have x1 : ∀ wx : World, wx.heap[g]? = some (.cells #[.int .i64 kf, .int .i64 0, .int .i64 n, .int .u64 0, .float .f64 0] 41 (0, 0)) → wx.cell? ⟨g, 1, none⟩ = some (.int .i64 0) := fun wx h => by rw [blk_cell h]; rfl
    have x2 : ∀ wx : World, wx.heap[g]? = some (.cells #[.int .i64 kf, .int .i64 0, .int .i64 n, .int .u64 0, .float .f64 0] 41 (0, 0)) → wx.cell? ⟨g, 2, none⟩ = some (.int .i64 n) := fun wx h => by rw [blk_cell h]; rfl
    have x3 : ∀ wx : World, wx.heap[g]? = some (.cells #[.int .i64 kf, .int .i64 0, .int .i64 n, .int .u64 0, .float .f64 0] 41 (0, 0)) → wx.cell? ⟨g, 3, none⟩ = some (.int .u64 0) := fun wx h => by rw [blk_cell h]; rfl
    have x4 : ∀ wx : World, wx.heap[g]? = some (.cells #[.int .i64 kf, .int .i64 0, .int .i64 n, .int .u64 0, .float .f64 0] 41 (0, 0)) → wx.cell? ⟨g, 4, none⟩ = some (.float .f64 0) := fun wx h => by rw [blk_cell h]; rfl
    have hR4 : R < wb.heap.size := blk_lt hr4.blk
    have hR5 : ¬ R = wb.heap.size := by omega
    clear hov hr4 hgo
    refine wp_region_noPanic ?_
    refine wp_region_held_drew (S := fun wx => wx.heap[g]? = some (.cells #[.int .i64 kf, .int .i64 0, .int .i64 n, .int .u64 0, .float .f64 0] 41 (0, 0))) (by kernel_rfl) ?_ (fun hHeld => ?_)
    · exact HG4.out
    refine wpAnyH_take (i := 0) (oi := ⟨some 49, _, _, _, _, _⟩) (v := ?_) rfl (by kernel_rfl) (by kernel_rfl) (by kernel_rfl) (fun _ _ _ h => h) (Or.inl ⟨by rfl, ?_⟩) hHeld ?_
    rotate_left
    · intro w hSw; (try dsimp only at hSw); go_simp; all_goals (with_reducible rfl)
    try simp only [Act.put, List.setIfInBounds_toArray, List.set_cons_zero, List.set_cons_succ]
    refine wpAnyH_take (i := 1) (oi := ⟨some 50, _, _, _, _, _⟩) (v := ?_) rfl (by kernel_rfl) (by kernel_rfl) (by kernel_rfl) (fun _ _ _ h => h) (Or.inl ⟨by rfl, ?_⟩) hHeld ?_
    rotate_left
    · intro w hSw; (try dsimp only at hSw); go_simp; all_goals (with_reducible rfl)
    try simp only [Act.put, List.setIfInBounds_toArray, List.set_cons_zero, List.set_cons_succ]
    refine wpAnyH_take (i := 2) (oi := ⟨some 51, _, _, _, _, _⟩) (v := ?_) rfl (by kernel_rfl) (by kernel_rfl) (by kernel_rfl) (fun _ _ _ h => h) (Or.inl ⟨by rfl, ?_⟩) hHeld ?_
    rotate_left
    · intro w hSw; (try dsimp only at hSw); go_simp; all_goals (with_reducible rfl)
    try simp only [Act.put, List.setIfInBounds_toArray, List.set_cons_zero, List.set_cons_succ]
    refine wpAnyH_take (i := 3) (oi := ⟨some 52, _, _, _, _, _⟩) (v := ?_) rfl (by kernel_rfl) (by kernel_rfl) (by kernel_rfl) (fun _ _ _ h => h) (Or.inl ⟨by rfl, ?_⟩) hHeld ?_
    rotate_left
    · intro w hSw; (try dsimp only at hSw); go_simp; all_goals (with_reducible rfl)
    try simp only [Act.put, List.setIfInBounds_toArray, List.set_cons_zero, List.set_cons_succ]
    refine wpAnyH_take (i := 5) (oi := ⟨some 54, _, _, _, _, _⟩) (v := ?_) rfl (by kernel_rfl) (by kernel_rfl) (by kernel_rfl) (fun _ _ _ h => h) (Or.inl ⟨by rfl, ?_⟩) hHeld ?_
    rotate_left
    · intro w hSw; (try dsimp only at hSw); go_simp; all_goals (with_reducible rfl)
    try simp only [Act.put, List.setIfInBounds_toArray, List.set_cons_zero, List.set_cons_succ]
    refine wpAnyH_ready (rs := [4, 6]) (by kernel_rfl) (by simp) ?_
    refine AllReadyH.cons (o := ⟨some 53, _, _, _, _, _⟩) rfl (fun K hK => ?_) (AllReadyH.cons (o := ⟨some 55, _, _, _, _, _⟩) rfl (fun K hK => ?_) AllReadyH.nil)
    · go_simp
      refine hK.out _ _ ?_ (fun hHeld => ?_)
      · exact hHeld
      clear hK K
      try simp only [Act.put, List.setIfInBounds_toArray, List.set_cons_zero, List.set_cons_succ]
      refine wpAnyH_ready (rs := [6]) (by kernel_rfl) (by simp) ?_
      refine AllReadyH.cons (o := ⟨some 55, _, _, _, _, _⟩) rfl (fun K hK => ?_) AllReadyH.nil
      go_simp
      refine hK.out _ _ ?_ (fun hHeld => ?_)
      · exact (alloc_old hHeld)
      clear hK K
      try simp only [Act.put, List.setIfInBounds_toArray, List.set_cons_zero, List.set_cons_succ]
      refine wpAnyH_ready (rs := [7]) (by kernel_rfl) (by simp) ?_
      refine AllReadyH.cons (o := ⟨some 56, _, _, _, _, _⟩) rfl (fun K hK => ?_) AllReadyH.nil
      refine step_app_st rfl (.tmp 53) (.tmp 55) rfl (base := M) (.slice oa r.s.sts.length oc) r.s.sts.length (stsF r.s.sts) (by simp [Act.eval]) (row_keep HR4.out.sts fun y hy => (below_trans (below_alloc wb (.cells #[.int .i64 kf, .int .i64 0, .int .i64 n, .int .u64 0, .float .f64 0] 41)) (below_drew _)).block y (HR4.out.sts.lt y hy).2) wb.heap.size [.int .i64 kf, .int .i64 0, .int .i64 n, .int .u64 0, .float .f64 0] (by simp [Act.eval]) rfl (alloc_at rfl) (by intro u hu; simp only [List.mem_cons, List.not_mem_nil, or_false] at hu; rcases hu with rfl | rfl | rfl | rfl | rfl <;> rfl) HON.out (by have h2 := HR4.out.ms; have h3 := (below_trans (below_alloc wb (.cells #[.int .i64 kf, .int .i64 0, .int .i64 n, .int .u64 0, .float .f64 0] 41)) (below_drew _)).size; exact Nat.le_trans h2 h3) ?_
      intro v5 w5 hr5 hg5 hat5
      have HR5 : Hid (w5.ownsRow M 41 5 v5 (r.s.sts.length + 1) (stsF r.s.sts ++ stF ⟨kf, 0, n, 0, 0⟩)) := hr5
      have HG5 := hidH hg5
      obtain ⟨a5, cp5, rfl, _, _⟩ := own_form21 hr5
      have hb5 : ∀ y, y < wb.heap.size → (Value.slice oa r.s.sts.length oc).ownBlock ≠ some y → w5.heap[y]? = wb.heap[y]? := fun y hy hn => by rw [hg5.block y (by have h3 := (below_trans (below_alloc wb (.cells #[.int .i64 kf, .int .i64 0, .int .i64 n, .int .u64 0, .float .f64 0] 41)) (below_drew _)).size; exact Nat.lt_of_lt_of_le hy h3) (fun e => hn e.symm)]; exact (below_trans (below_alloc wb (.cells #[.int .i64 kf, .int .i64 0, .int .i64 n, .int .u64 0, .float .f64 0] 41)) (below_drew _)).block y hy
      have hh5 : w5.heap[R]? = some (.cells (RC (Rd.mk r.ln v1 r.fa r.s) ov (.slice oa r.s.sts.length oc)) 44 (0, 0)) := by rw [hb5 R (blk_lt HR4.out.blk) (fun e => by have h1 := (HR4.out.sts.lt R e).1; have h2 := HR4.out.rb; have h3 := HR4.out.bm; omega)]; exact HR4.out.blk
      have v7 : w5.cell? ⟨R, 12, none⟩ = some (.slice oa r.s.sts.length oc) := by rw [blk_cell hh5]; rfl
      have y7 : w5.frozen? ⟨R, 12, none⟩ = false := blk_soft hh5 12
      have HT5 : Hid (w5.heap[g]? = some (.cells #[.int .i64 kf, .int .i64 0, .int .i64 n, .int .u64 0, .float .f64 0] 41 (0, 0))) := by show _ = _; rw [hb5 g (blk_lt HG4.out) (fun e => HGOO.out g e rfl)]; exact HG4.out
      clear hr5 hg5 hat5 hh5 hb5
      refine hK.out _ _ ?_ (fun hHeld => ?_)
      · exact HT5.out
      clear hK K
      try simp only [Act.put, List.setIfInBounds_toArray, List.set_cons_zero, List.set_cons_succ]
      refine wpAnyH_take (i := 8) (oi := ⟨some 57, _, _, _, _, _⟩) (v := ?_) rfl (by kernel_rfl) (by kernel_rfl) (by kernel_rfl) (fun _ _ _ h => h) (Or.inl ⟨by rfl, ?_⟩) hHeld ?_
      rotate_left
      · intro w hSw; (try dsimp only at hSw); go_simp; all_goals (with_reducible rfl)
      try simp only [Act.put, List.setIfInBounds_toArray, List.set_cons_zero, List.set_cons_succ]
      refine wpAnyH_take (i := 9) (oi := ⟨some 58, _, _, _, _, _⟩) (v := ?_) rfl (by kernel_rfl) (by kernel_rfl) (by kernel_rfl) (fun _ _ _ h => h) (Or.inl ⟨by rfl, ?_⟩) hHeld ?_
      rotate_left
      · intro w hSw; (try dsimp only at hSw); go_simp; all_goals (with_reducible rfl)
      try simp only [Act.put, List.setIfInBounds_toArray, List.set_cons_zero, List.set_cons_succ]
      refine wpAnyH_ready (rs := [10]) (by kernel_rfl) (by simp) ?_
      refine AllReadyH.cons (o := ⟨none, _, _, _, _, _⟩) rfl (fun K hK => ?_) AllReadyH.nil
      go_simp
      refine hK.out _ _ ?_ (fun hHeld => ?_)
      · exact (by rw [set_other _ (fun e => HAP.out.1 e.symm)]; exact HT5.out)
      clear hK K
      try simp only [Act.put, List.setIfInBounds_toArray, List.set_cons_zero, List.set_cons_succ]
      refine wpAnyH_done (by kernel_rfl) ?_ _
      refine NoPanic.normal ?_
      have HE := hidH (RM.addSt HR4.out (st := ⟨kf, 0, n, 0, 0⟩) (below_trans (below_alloc wb (.cells #[.int .i64 kf, .int .i64 0, .int .i64 n, .int .u64 0, .float .f64 0] 41)) (below_drew _)) HR5.out HG5.out)
      refine bodyPost_end (results_none rfl _ _ _) rfl ?_
      rw [HA.out]
      exact ⟨rfl, ⟨_, _, _, HE.out.1⟩, (HC4.out.le fun x hx => .inl hx).self HE.out.2⟩
    · go_simp
      refine hK.out _ _ ?_ (fun hHeld => ?_)
      · exact (alloc_old hHeld)
      clear hK K
      try simp only [Act.put, List.setIfInBounds_toArray, List.set_cons_zero, List.set_cons_succ]
      refine wpAnyH_ready (rs := [4]) (by kernel_rfl) (by simp) ?_
      refine AllReadyH.cons (o := ⟨some 53, _, _, _, _, _⟩) rfl (fun K hK => ?_) AllReadyH.nil
      go_simp
      refine hK.out _ _ ?_ (fun hHeld => ?_)
      · exact hHeld
      clear hK K
      try simp only [Act.put, List.setIfInBounds_toArray, List.set_cons_zero, List.set_cons_succ]
      refine wpAnyH_ready (rs := [7]) (by kernel_rfl) (by simp) ?_
      refine AllReadyH.cons (o := ⟨some 56, _, _, _, _, _⟩) rfl (fun K hK => ?_) AllReadyH.nil
      refine step_app_st rfl (.tmp 53) (.tmp 55) rfl (base := M) (.slice oa r.s.sts.length oc) r.s.sts.length (stsF r.s.sts) (by simp [Act.eval]) (row_keep HR4.out.sts fun y hy => (below_trans (below_alloc wb (.cells #[.int .i64 kf, .int .i64 0, .int .i64 n, .int .u64 0, .float .f64 0] 41)) (below_drew _)).block y (HR4.out.sts.lt y hy).2) wb.heap.size [.int .i64 kf, .int .i64 0, .int .i64 n, .int .u64 0, .float .f64 0] (by simp [Act.eval]) rfl (alloc_at rfl) (by intro u hu; simp only [List.mem_cons, List.not_mem_nil, or_false] at hu; rcases hu with rfl | rfl | rfl | rfl | rfl <;> rfl) HON.out (by have h2 := HR4.out.ms; have h3 := (below_trans (below_alloc wb (.cells #[.int .i64 kf, .int .i64 0, .int .i64 n, .int .u64 0, .float .f64 0] 41)) (below_drew _)).size; exact Nat.le_trans h2 h3) ?_
      intro v5 w5 hr5 hg5 hat5
      have HR5 : Hid (w5.ownsRow M 41 5 v5 (r.s.sts.length + 1) (stsF r.s.sts ++ stF ⟨kf, 0, n, 0, 0⟩)) := hr5
      have HG5 := hidH hg5
      obtain ⟨a5, cp5, rfl, _, _⟩ := own_form21 hr5
      have hb5 : ∀ y, y < wb.heap.size → (Value.slice oa r.s.sts.length oc).ownBlock ≠ some y → w5.heap[y]? = wb.heap[y]? := fun y hy hn => by rw [hg5.block y (by have h3 := (below_trans (below_alloc wb (.cells #[.int .i64 kf, .int .i64 0, .int .i64 n, .int .u64 0, .float .f64 0] 41)) (below_drew _)).size; exact Nat.lt_of_lt_of_le hy h3) (fun e => hn e.symm)]; exact (below_trans (below_alloc wb (.cells #[.int .i64 kf, .int .i64 0, .int .i64 n, .int .u64 0, .float .f64 0] 41)) (below_drew _)).block y hy
      have hh5 : w5.heap[R]? = some (.cells (RC (Rd.mk r.ln v1 r.fa r.s) ov (.slice oa r.s.sts.length oc)) 44 (0, 0)) := by rw [hb5 R (blk_lt HR4.out.blk) (fun e => by have h1 := (HR4.out.sts.lt R e).1; have h2 := HR4.out.rb; have h3 := HR4.out.bm; omega)]; exact HR4.out.blk
      have v7 : w5.cell? ⟨R, 12, none⟩ = some (.slice oa r.s.sts.length oc) := by rw [blk_cell hh5]; rfl
      have y7 : w5.frozen? ⟨R, 12, none⟩ = false := blk_soft hh5 12
      have HT5 : Hid (w5.heap[g]? = some (.cells #[.int .i64 kf, .int .i64 0, .int .i64 n, .int .u64 0, .float .f64 0] 41 (0, 0))) := by show _ = _; rw [hb5 g (blk_lt HG4.out) (fun e => HGOO.out g e rfl)]; exact HG4.out
      clear hr5 hg5 hat5 hh5 hb5
      refine hK.out _ _ ?_ (fun hHeld => ?_)
      · exact HT5.out
      clear hK K
      try simp only [Act.put, List.setIfInBounds_toArray, List.set_cons_zero, List.set_cons_succ]
      refine wpAnyH_take (i := 8) (oi := ⟨some 57, _, _, _, _, _⟩) (v := ?_) rfl (by kernel_rfl) (by kernel_rfl) (by kernel_rfl) (fun _ _ _ h => h) (Or.inl ⟨by rfl, ?_⟩) hHeld ?_
      rotate_left
      · intro w hSw; (try dsimp only at hSw); go_simp; all_goals (with_reducible rfl)
      try simp only [Act.put, List.setIfInBounds_toArray, List.set_cons_zero, List.set_cons_succ]
      refine wpAnyH_take (i := 9) (oi := ⟨some 58, _, _, _, _, _⟩) (v := ?_) rfl (by kernel_rfl) (by kernel_rfl) (by kernel_rfl) (fun _ _ _ h => h) (Or.inl ⟨by rfl, ?_⟩) hHeld ?_
      rotate_left
      · intro w hSw; (try dsimp only at hSw); go_simp; all_goals (with_reducible rfl)
      try simp only [Act.put, List.setIfInBounds_toArray, List.set_cons_zero, List.set_cons_succ]
      refine wpAnyH_ready (rs := [10]) (by kernel_rfl) (by simp) ?_
      refine AllReadyH.cons (o := ⟨none, _, _, _, _, _⟩) rfl (fun K hK => ?_) AllReadyH.nil
      go_simp
      refine hK.out _ _ ?_ (fun hHeld => ?_)
      · exact (by rw [set_other _ (fun e => HAP.out.1 e.symm)]; exact HT5.out)
      clear hK K
      try simp only [Act.put, List.setIfInBounds_toArray, List.set_cons_zero, List.set_cons_succ]
      refine wpAnyH_done (by kernel_rfl) ?_ _
      refine NoPanic.normal ?_
      have HE := hidH (RM.addSt HR4.out (st := ⟨kf, 0, n, 0, 0⟩) (below_trans (below_alloc wb (.cells #[.int .i64 kf, .int .i64 0, .int .i64 n, .int .u64 0, .float .f64 0] 41)) (below_drew _)) HR5.out HG5.out)
      refine bodyPost_end (results_none rfl _ _ _) rfl ?_
      rw [HA.out]
      exact ⟨rfl, ⟨_, _, _, HE.out.1⟩, (HC4.out.le fun x hx => .inl hx).self HE.out.2⟩


set_option maxRecDepth 100000 in
set_option maxHeartbeats 8000000 in
theorem takeStep_1 (h : RM B R r ov sv M w) (hon : r.s.sts.length ≤ 4096) {v : Bs} {f : Fm} (hf : formW v = some f) (hfg : f.g = 1) :
    Calls Tryz.prog 50 #[.pointer (some ⟨R, 0, none⟩), S v] w (LineGot B R r ((stA f r.ws).map fun x => ({ r.s with sts := r.s.sts ++ [x.1] }, x.2)) w) := by
  have HR : Hid (RM B R r ov sv M w) := h
  have HON : Hid (r.s.sts.length ≤ 300000) := by show _ ≤ _; omega
  obtain ⟨A, hA⟩ : ∃ A, A = (stA f r.ws).map fun x => ({ r.s with sts := r.s.sts ++ [x.1] }, x.2) := ⟨_, rfl⟩
  rw [← hA]
  have HAA : Hid (A = (stA f r.ws).map fun x => ({ r.s with sts := r.s.sts ++ [x.1] }, x.2)) := hA
  have HFW := formNamed_walk v w h.tb
  have hfw : formL.find? (fun f => f.w == v) = some f := hf
  rw [hfw] at HFW
  simp only [FmA, FmV, Option.getD_some, Option.isSome_some, S, hfg] at HFW ⊢
  obtain ⟨kf, hfK⟩ : ∃ k, k = f.K := ⟨_, rfl⟩
  obtain ⟨fw, hfw2⟩ : ∃ k : ByteArray, k = ⟨f.w.toArray⟩ := ⟨_, rfl⟩
  rw [← hfK, ← hfw2] at HFW
  have HF : Hid (kf = f.K ∧ f.g = 1) := ⟨hfK, hfg⟩
  obtain ⟨t, ht⟩ : ∃ t : ByteArray, t = ⟨v.toArray⟩ := ⟨_, rfl⟩
  rw [← ht] at HFW ⊢
  have HFN : Hid (Calls Tryz.prog 62 #[.string t] w fun e w' => e = .returned (.tuple #[.agg #[.int .i64 kf, .string fw, .int .i64 1], .bool true]) ∧ Below w.heap.size w w') := HFW
  have b1 : bits .and .i64 1 1 = 1 := by decide +kernel
  have b2 : bits .and .i64 1 2 = 0 := by decide +kernel
  have b4 : bits .and .i64 1 4 = 0 := by decide +kernel
  have b8 : bits .and .i64 1 8 = 0 := by decide +kernel
  clear h hon hA HFW hf hfg hfw hfK hfw2 ht
  go_enter Tryz.func50, Tryz.ntmps50
  go_wp2_with fail
  refine HFN.out.mono ?_
  rintro e9 w0 ⟨rfl, hB0⟩
  have HR0 : Hid (RM B R r ov sv M w0) := HR.out.go hB0
  have HB0 : Hid (Below w.heap.size w w0) := hB0
  obtain ⟨gf, hgf⟩ : ∃ gf, gf = w0.heap.size := ⟨_, rfl⟩
  obtain ⟨w1, hw1⟩ : ∃ w1, w1 = w0.alloc (.cells #[.int .i64 kf, .string fw, .int .i64 1] 80) := ⟨_, rfl⟩
  have HW1 : Hid (gf = w0.heap.size ∧ w1 = w0.alloc (.cells #[.int .i64 kf, .string fw, .int .i64 1] 80)) := ⟨hgf, hw1⟩
  have HR1 : Hid (RM B R r ov sv M w1) := by show RM _ _ _ _ _ _ _; rw [hw1]; exact HR0.out.go (below_alloc _ _)
  have HF1 : Hid (w1.heap[gf]? = some (.cells #[.int .i64 kf, .string fw, .int .i64 1] 80 (0, 0))) := by show _ = _; rw [hw1]; exact alloc_at hgf
  have HB1 : Hid (Below w.heap.size w w1) := by show Below _ _ _; rw [hw1]; exact below_trans hB0 (below_alloc _ _)
  have HAF : Hid (R ≠ gf) := (HR0.out.apart (Nat.le_of_eq hgf.symm)).1
  clear hB0 hgf hw1 HFN
  go_wp2_with fail
  rw [← HW1.out.1, ← HW1.out.2]
  clear HW1
  refine (refuse_no 210 w1).mono ?_
  rintro e9 w9 ⟨rfl, hw9⟩
  replace hw9 := hw9.symm
  subst hw9
  have k0 : w1.cell? ⟨gf, 0, none⟩ = some (.int .i64 kf) := by rw [blk_cell HF1.out]; rfl
  have k2 : w1.cell? ⟨gf, 2, none⟩ = some (.int .i64 1) := by rw [blk_cell HF1.out]; rfl
  have kl : gf < w1.heap.size := blk_lt HF1.out
  have kn : ¬ gf = w1.heap.size := by omega
  obtain ⟨g, hg⟩ : ∃ g, g = w1.heap.size := ⟨_, rfl⟩
  obtain ⟨wa, hwa⟩ : ∃ wa, wa = w1.alloc (.cells #[.int .i64 kf, .int .i64 0, .int .i64 0, .int .u64 0, .float .f64 0] 41) := ⟨_, rfl⟩
  have HWA : Hid (g = w1.heap.size ∧ wa = w1.alloc (.cells #[.int .i64 kf, .int .i64 0, .int .i64 0, .int .u64 0, .float .f64 0] 41)) := ⟨hg, hwa⟩
  have HS0R : Hid (RM B R (Rd.mk r.ln r.ws r.fa r.s) ov sv M wa) := by show RM _ _ _ _ _ _ _; rw [hwa]; exact HR1.out.go (below_alloc _ _)
  have HS0F : Hid (wa.heap[gf]? = some (.cells #[.int .i64 kf, .string fw, .int .i64 1] 80 (0, 0))) := by show _ = _; rw [hwa]; exact alloc_old HF1.out
  have HS0G : Hid (wa.heap[g]? = some (.cells #[.int .i64 kf, .int .i64 0, .int .i64 0, .int .u64 0, .float .f64 0] 41 (0, 0))) := by show _ = _; rw [hwa]; exact alloc_at hg
  have HBA : Hid (Below w.heap.size w wa) := by show Below _ _ _; rw [hwa]; exact below_trans HB1.out (below_alloc _ _)
  have HS0C : Hid (Ch (fun x => x = R) w wa) := Ch.of_below HBA.out
  have HAP : Hid (R ≠ g ∧ R ≤ g ∧ (∀ x, ov.ownBlock = some x → x ≠ g) ∧ (∀ x, sv.ownBlock = some x → x ≠ g)) := HR1.out.apart (Nat.le_of_eq hg.symm)
  have HGF : Hid (gf ≠ g ∧ w.heap.size ≤ g) := ⟨by omega, by have := HB1.out.size; omega⟩
  have ka0 : wa.cell? ⟨gf, 0, none⟩ = some (.int .i64 kf) := by rw [blk_cell HS0F.out]; rfl
  have ka2 : wa.cell? ⟨gf, 2, none⟩ = some (.int .i64 1) := by rw [blk_cell HS0F.out]; rfl
  clear hwa hg
  have hgn : ¬ gf = g := HGF.out.1
  have hgm : ¬ g = gf := fun e => HGF.out.1 e.symm
  clear ka0 ka2
  go_wp2_with fail
  rw [← HWA.out.1, ← HWA.out.2]
  clear HWA k0 k2 kl kn
  refine (number_walk HS0R.out).mono ?_
  rintro e9 w2 hT
  have hT2 : Took B R M (Rd.mk r.ln r.ws r.fa r.s) ov sv ((nm r.ws).map fun x => (.int .i64 x.1, x.2)) wa e9 w2 := hT
  clear hT
  cases hn : nm r.ws with
  | none =>
    rw [hn] at hT2
    have hT' : Bad B R r.ln 211 wa e9 w2 := hT2
    have HAN : Hid (A = none) := by
      show _ = _
      rw [HAA.out]
      simp [stA, HF.out.2, onlyI, fN, hn]
    have HBD : Hid (Bad B R r.ln 211 w e9 w2) := Bad.from hT' (HS0C.out.le fun x hx => .inl hx)
    obtain ⟨⟨u, pv, rfl⟩, _⟩ := hT'
    clear hT2 hn
    go_wp2_with fail
    refine ⟨rfl, ?_⟩
    rw [HAN.out]
    exact HBD.out
  | some y =>
    obtain ⟨d, v1⟩ := y
    rw [hn] at hT2
    have HN0 : Hid (nm r.ws = some (d, v1)) := hn
    have hT' : Good B R M (Rd.mk r.ln r.ws r.fa r.s) ov sv (.int .i64 d) v1 wa e9 w2 := hT2
    obtain ⟨rfl, hr2, hc2⟩ := hT'
    have HQ : Hid (RM B R (Rd.mk r.ln v1 r.fa r.s) ov sv M w2) := hr2
    have HD : Hid (Ch (fun x => x = R) w w2) := HS0C.out.self hc2
    have HP : Hid (w2.heap[g]? = some (.cells #[.int .i64 kf, .int .i64 0, .int .i64 0, .int .u64 0, .float .f64 0] 41 (0, 0))) := blk_ch HS0G.out hc2 (fun e => HAP.out.1 e.symm)
    have HPF : Hid (w2.heap[gf]? = some (.cells #[.int .i64 kf, .string fw, .int .i64 1] 80 (0, 0))) := blk_ch HS0F.out hc2 (fun e => HAF.out e.symm)
    have c9 : w2.cell? ⟨g, 1, none⟩ = some (.int .i64 0) := by rw [blk_cell HP.out]; rfl
    have z9 : w2.frozen? ⟨g, 1, none⟩ = false := blk_soft HP.out 1
    obtain ⟨wb, hwy⟩ : ∃ wy, wy = w2.setCell ⟨g, 1, none⟩ (.int .i64 d) := ⟨_, rfl⟩
    have HWY : Hid (wb = w2.setCell ⟨g, 1, none⟩ (.int .i64 d)) := hwy
    have HS1R : Hid (RM B R (Rd.mk r.ln v1 r.fa r.s) ov sv M wb) := by
      show RM _ _ _ _ _ _ _
      rw [hwy]
      exact HQ.out.keep (ch_set _ _ _ _) HAP.out.1 HAP.out.2.2.1 HAP.out.2.2.2 HAP.out.2.1
    have HS1G : Hid (wb.heap[g]? = some (.cells #[.int .i64 kf, .int .i64 d, .int .i64 0, .int .u64 0, .float .f64 0] 41 (0, 0))) := by
      show _ = _
      rw [hwy, set_row HP.out]
      rfl
    have HS1F : Hid (wb.heap[gf]? = some (.cells #[.int .i64 kf, .string fw, .int .i64 1] 80 (0, 0))) := by
      show _ = _
      rw [hwy, set_other _ HGF.out.1]
      exact HPF.out
    have HS1C : Hid (Ch (fun x => x = R) w wb) := by
      show Ch _ _ _
      rw [hwy]
      exact HD.out.trans (ch_set _ _ _ _) (fun x hx => .inr (by rw [hx]; exact HGF.out.2))
    have ka3 : wb.cell? ⟨gf, 2, none⟩ = some (.int .i64 1) := by rw [blk_cell HS1F.out]; rfl
    clear hT2 hn hr2 hc2 hwy
    have kw : w2.cell? ⟨gf, 2, none⟩ = some (.int .i64 1) := by rw [blk_cell HPF.out]; rfl
    clear ka3
    go_wp2_with fail
    rw [← HWY.out]
    clear HWY c9 z9 kw HQ HD HP HPF
    have HA : Hid (A = some ({ r.s with sts := r.s.sts ++ [⟨kf, d, 0, 0, 0⟩] }, v1)) := by
      show _ = _
      rw [HAA.out]
      have hk := HF.out.1
      simp [stA, HF.out.2, onlyI, onlyK, onlyF, fN, fK, fU, fV, HN0.out, hk]
    obtain ⟨oa, oc, hov, _, _⟩ := own_form21 HS1R.out.sts
    have hr4 := HS1R.out
    have hgo := HAP.out.2.2.2
    rw [hov] at hr4 hgo
    have HR4 : Hid (RM B R (Rd.mk r.ln v1 r.fa r.s) ov (.slice oa r.s.sts.length oc) M wb) := hr4
    have HGOO : Hid (∀ x, (Value.slice oa r.s.sts.length oc).ownBlock = some x → x ≠ g) := hgo
    have HG4 := HS1G
    have HC4 := HS1C
    have c7 : wb.cell? ⟨R, 12, none⟩ = some (.slice oa r.s.sts.length oc) := by rw [blk_cell hr4.blk]; rfl
    have x0 : ∀ wx : World, wx.heap[g]? = some (.cells #[.int .i64 kf, .int .i64 d, .int .i64 0, .int .u64 0, .float .f64 0] 41 (0, 0)) → wx.cell? ⟨g, 0, none⟩ = some (.int .i64 kf) := fun wx h => by rw [blk_cell h]; rfl
    have x1 : ∀ wx : World, wx.heap[g]? = some (.cells #[.int .i64 kf, .int .i64 d, .int .i64 0, .int .u64 0, .float .f64 0] 41 (0, 0)) → wx.cell? ⟨g, 1, none⟩ = some (.int .i64 d) := fun wx h => by rw [blk_cell h]; rfl
    have x2 : ∀ wx : World, wx.heap[g]? = some (.cells #[.int .i64 kf, .int .i64 d, .int .i64 0, .int .u64 0, .float .f64 0] 41 (0, 0)) → wx.cell? ⟨g, 2, none⟩ = some (.int .i64 0) := fun wx h => by rw [blk_cell h]; rfl
    have x3 : ∀ wx : World, wx.heap[g]? = some (.cells #[.int .i64 kf, .int .i64 d, .int .i64 0, .int .u64 0, .float .f64 0] 41 (0, 0)) → wx.cell? ⟨g, 3, none⟩ = some (.int .u64 0) := fun wx h => by rw [blk_cell h]; rfl
    have x4 : ∀ wx : World, wx.heap[g]? = some (.cells #[.int .i64 kf, .int .i64 d, .int .i64 0, .int .u64 0, .float .f64 0] 41 (0, 0)) → wx.cell? ⟨g, 4, none⟩ = some (.float .f64 0) := fun wx h => by rw [blk_cell h]; rfl
    have hR4 : R < wb.heap.size := blk_lt hr4.blk
    have hR5 : ¬ R = wb.heap.size := by omega
    clear hov hr4 hgo
    refine wp_region_noPanic ?_
    refine wp_region_held_drew (S := fun wx => wx.heap[g]? = some (.cells #[.int .i64 kf, .int .i64 d, .int .i64 0, .int .u64 0, .float .f64 0] 41 (0, 0))) (by kernel_rfl) ?_ (fun hHeld => ?_)
    · exact HG4.out
    refine wpAnyH_take (i := 0) (oi := ⟨some 49, _, _, _, _, _⟩) (v := ?_) rfl (by kernel_rfl) (by kernel_rfl) (by kernel_rfl) (fun _ _ _ h => h) (Or.inl ⟨by rfl, ?_⟩) hHeld ?_
    rotate_left
    · intro w hSw; (try dsimp only at hSw); go_simp; all_goals (with_reducible rfl)
    try simp only [Act.put, List.setIfInBounds_toArray, List.set_cons_zero, List.set_cons_succ]
    refine wpAnyH_take (i := 1) (oi := ⟨some 50, _, _, _, _, _⟩) (v := ?_) rfl (by kernel_rfl) (by kernel_rfl) (by kernel_rfl) (fun _ _ _ h => h) (Or.inl ⟨by rfl, ?_⟩) hHeld ?_
    rotate_left
    · intro w hSw; (try dsimp only at hSw); go_simp; all_goals (with_reducible rfl)
    try simp only [Act.put, List.setIfInBounds_toArray, List.set_cons_zero, List.set_cons_succ]
    refine wpAnyH_take (i := 2) (oi := ⟨some 51, _, _, _, _, _⟩) (v := ?_) rfl (by kernel_rfl) (by kernel_rfl) (by kernel_rfl) (fun _ _ _ h => h) (Or.inl ⟨by rfl, ?_⟩) hHeld ?_
    rotate_left
    · intro w hSw; (try dsimp only at hSw); go_simp; all_goals (with_reducible rfl)
    try simp only [Act.put, List.setIfInBounds_toArray, List.set_cons_zero, List.set_cons_succ]
    refine wpAnyH_take (i := 3) (oi := ⟨some 52, _, _, _, _, _⟩) (v := ?_) rfl (by kernel_rfl) (by kernel_rfl) (by kernel_rfl) (fun _ _ _ h => h) (Or.inl ⟨by rfl, ?_⟩) hHeld ?_
    rotate_left
    · intro w hSw; (try dsimp only at hSw); go_simp; all_goals (with_reducible rfl)
    try simp only [Act.put, List.setIfInBounds_toArray, List.set_cons_zero, List.set_cons_succ]
    refine wpAnyH_take (i := 5) (oi := ⟨some 54, _, _, _, _, _⟩) (v := ?_) rfl (by kernel_rfl) (by kernel_rfl) (by kernel_rfl) (fun _ _ _ h => h) (Or.inl ⟨by rfl, ?_⟩) hHeld ?_
    rotate_left
    · intro w hSw; (try dsimp only at hSw); go_simp; all_goals (with_reducible rfl)
    try simp only [Act.put, List.setIfInBounds_toArray, List.set_cons_zero, List.set_cons_succ]
    refine wpAnyH_ready (rs := [4, 6]) (by kernel_rfl) (by simp) ?_
    refine AllReadyH.cons (o := ⟨some 53, _, _, _, _, _⟩) rfl (fun K hK => ?_) (AllReadyH.cons (o := ⟨some 55, _, _, _, _, _⟩) rfl (fun K hK => ?_) AllReadyH.nil)
    · go_simp
      refine hK.out _ _ ?_ (fun hHeld => ?_)
      · exact hHeld
      clear hK K
      try simp only [Act.put, List.setIfInBounds_toArray, List.set_cons_zero, List.set_cons_succ]
      refine wpAnyH_ready (rs := [6]) (by kernel_rfl) (by simp) ?_
      refine AllReadyH.cons (o := ⟨some 55, _, _, _, _, _⟩) rfl (fun K hK => ?_) AllReadyH.nil
      go_simp
      refine hK.out _ _ ?_ (fun hHeld => ?_)
      · exact (alloc_old hHeld)
      clear hK K
      try simp only [Act.put, List.setIfInBounds_toArray, List.set_cons_zero, List.set_cons_succ]
      refine wpAnyH_ready (rs := [7]) (by kernel_rfl) (by simp) ?_
      refine AllReadyH.cons (o := ⟨some 56, _, _, _, _, _⟩) rfl (fun K hK => ?_) AllReadyH.nil
      refine step_app_st rfl (.tmp 53) (.tmp 55) rfl (base := M) (.slice oa r.s.sts.length oc) r.s.sts.length (stsF r.s.sts) (by simp [Act.eval]) (row_keep HR4.out.sts fun y hy => (below_trans (below_alloc wb (.cells #[.int .i64 kf, .int .i64 d, .int .i64 0, .int .u64 0, .float .f64 0] 41)) (below_drew _)).block y (HR4.out.sts.lt y hy).2) wb.heap.size [.int .i64 kf, .int .i64 d, .int .i64 0, .int .u64 0, .float .f64 0] (by simp [Act.eval]) rfl (alloc_at rfl) (by intro u hu; simp only [List.mem_cons, List.not_mem_nil, or_false] at hu; rcases hu with rfl | rfl | rfl | rfl | rfl <;> rfl) HON.out (by have h2 := HR4.out.ms; have h3 := (below_trans (below_alloc wb (.cells #[.int .i64 kf, .int .i64 d, .int .i64 0, .int .u64 0, .float .f64 0] 41)) (below_drew _)).size; exact Nat.le_trans h2 h3) ?_
      intro v5 w5 hr5 hg5 hat5
      have HR5 : Hid (w5.ownsRow M 41 5 v5 (r.s.sts.length + 1) (stsF r.s.sts ++ stF ⟨kf, d, 0, 0, 0⟩)) := hr5
      have HG5 := hidH hg5
      obtain ⟨a5, cp5, rfl, _, _⟩ := own_form21 hr5
      have hb5 : ∀ y, y < wb.heap.size → (Value.slice oa r.s.sts.length oc).ownBlock ≠ some y → w5.heap[y]? = wb.heap[y]? := fun y hy hn => by rw [hg5.block y (by have h3 := (below_trans (below_alloc wb (.cells #[.int .i64 kf, .int .i64 d, .int .i64 0, .int .u64 0, .float .f64 0] 41)) (below_drew _)).size; exact Nat.lt_of_lt_of_le hy h3) (fun e => hn e.symm)]; exact (below_trans (below_alloc wb (.cells #[.int .i64 kf, .int .i64 d, .int .i64 0, .int .u64 0, .float .f64 0] 41)) (below_drew _)).block y hy
      have hh5 : w5.heap[R]? = some (.cells (RC (Rd.mk r.ln v1 r.fa r.s) ov (.slice oa r.s.sts.length oc)) 44 (0, 0)) := by rw [hb5 R (blk_lt HR4.out.blk) (fun e => by have h1 := (HR4.out.sts.lt R e).1; have h2 := HR4.out.rb; have h3 := HR4.out.bm; omega)]; exact HR4.out.blk
      have v7 : w5.cell? ⟨R, 12, none⟩ = some (.slice oa r.s.sts.length oc) := by rw [blk_cell hh5]; rfl
      have y7 : w5.frozen? ⟨R, 12, none⟩ = false := blk_soft hh5 12
      have HT5 : Hid (w5.heap[g]? = some (.cells #[.int .i64 kf, .int .i64 d, .int .i64 0, .int .u64 0, .float .f64 0] 41 (0, 0))) := by show _ = _; rw [hb5 g (blk_lt HG4.out) (fun e => HGOO.out g e rfl)]; exact HG4.out
      clear hr5 hg5 hat5 hh5 hb5
      refine hK.out _ _ ?_ (fun hHeld => ?_)
      · exact HT5.out
      clear hK K
      try simp only [Act.put, List.setIfInBounds_toArray, List.set_cons_zero, List.set_cons_succ]
      refine wpAnyH_take (i := 8) (oi := ⟨some 57, _, _, _, _, _⟩) (v := ?_) rfl (by kernel_rfl) (by kernel_rfl) (by kernel_rfl) (fun _ _ _ h => h) (Or.inl ⟨by rfl, ?_⟩) hHeld ?_
      rotate_left
      · intro w hSw; (try dsimp only at hSw); go_simp; all_goals (with_reducible rfl)
      try simp only [Act.put, List.setIfInBounds_toArray, List.set_cons_zero, List.set_cons_succ]
      refine wpAnyH_take (i := 9) (oi := ⟨some 58, _, _, _, _, _⟩) (v := ?_) rfl (by kernel_rfl) (by kernel_rfl) (by kernel_rfl) (fun _ _ _ h => h) (Or.inl ⟨by rfl, ?_⟩) hHeld ?_
      rotate_left
      · intro w hSw; (try dsimp only at hSw); go_simp; all_goals (with_reducible rfl)
      try simp only [Act.put, List.setIfInBounds_toArray, List.set_cons_zero, List.set_cons_succ]
      refine wpAnyH_ready (rs := [10]) (by kernel_rfl) (by simp) ?_
      refine AllReadyH.cons (o := ⟨none, _, _, _, _, _⟩) rfl (fun K hK => ?_) AllReadyH.nil
      go_simp
      refine hK.out _ _ ?_ (fun hHeld => ?_)
      · exact (by rw [set_other _ (fun e => HAP.out.1 e.symm)]; exact HT5.out)
      clear hK K
      try simp only [Act.put, List.setIfInBounds_toArray, List.set_cons_zero, List.set_cons_succ]
      refine wpAnyH_done (by kernel_rfl) ?_ _
      refine NoPanic.normal ?_
      have HE := hidH (RM.addSt HR4.out (st := ⟨kf, d, 0, 0, 0⟩) (below_trans (below_alloc wb (.cells #[.int .i64 kf, .int .i64 d, .int .i64 0, .int .u64 0, .float .f64 0] 41)) (below_drew _)) HR5.out HG5.out)
      refine bodyPost_end (results_none rfl _ _ _) rfl ?_
      rw [HA.out]
      exact ⟨rfl, ⟨_, _, _, HE.out.1⟩, (HC4.out.le fun x hx => .inl hx).self HE.out.2⟩
    · go_simp
      refine hK.out _ _ ?_ (fun hHeld => ?_)
      · exact (alloc_old hHeld)
      clear hK K
      try simp only [Act.put, List.setIfInBounds_toArray, List.set_cons_zero, List.set_cons_succ]
      refine wpAnyH_ready (rs := [4]) (by kernel_rfl) (by simp) ?_
      refine AllReadyH.cons (o := ⟨some 53, _, _, _, _, _⟩) rfl (fun K hK => ?_) AllReadyH.nil
      go_simp
      refine hK.out _ _ ?_ (fun hHeld => ?_)
      · exact hHeld
      clear hK K
      try simp only [Act.put, List.setIfInBounds_toArray, List.set_cons_zero, List.set_cons_succ]
      refine wpAnyH_ready (rs := [7]) (by kernel_rfl) (by simp) ?_
      refine AllReadyH.cons (o := ⟨some 56, _, _, _, _, _⟩) rfl (fun K hK => ?_) AllReadyH.nil
      refine step_app_st rfl (.tmp 53) (.tmp 55) rfl (base := M) (.slice oa r.s.sts.length oc) r.s.sts.length (stsF r.s.sts) (by simp [Act.eval]) (row_keep HR4.out.sts fun y hy => (below_trans (below_alloc wb (.cells #[.int .i64 kf, .int .i64 d, .int .i64 0, .int .u64 0, .float .f64 0] 41)) (below_drew _)).block y (HR4.out.sts.lt y hy).2) wb.heap.size [.int .i64 kf, .int .i64 d, .int .i64 0, .int .u64 0, .float .f64 0] (by simp [Act.eval]) rfl (alloc_at rfl) (by intro u hu; simp only [List.mem_cons, List.not_mem_nil, or_false] at hu; rcases hu with rfl | rfl | rfl | rfl | rfl <;> rfl) HON.out (by have h2 := HR4.out.ms; have h3 := (below_trans (below_alloc wb (.cells #[.int .i64 kf, .int .i64 d, .int .i64 0, .int .u64 0, .float .f64 0] 41)) (below_drew _)).size; exact Nat.le_trans h2 h3) ?_
      intro v5 w5 hr5 hg5 hat5
      have HR5 : Hid (w5.ownsRow M 41 5 v5 (r.s.sts.length + 1) (stsF r.s.sts ++ stF ⟨kf, d, 0, 0, 0⟩)) := hr5
      have HG5 := hidH hg5
      obtain ⟨a5, cp5, rfl, _, _⟩ := own_form21 hr5
      have hb5 : ∀ y, y < wb.heap.size → (Value.slice oa r.s.sts.length oc).ownBlock ≠ some y → w5.heap[y]? = wb.heap[y]? := fun y hy hn => by rw [hg5.block y (by have h3 := (below_trans (below_alloc wb (.cells #[.int .i64 kf, .int .i64 d, .int .i64 0, .int .u64 0, .float .f64 0] 41)) (below_drew _)).size; exact Nat.lt_of_lt_of_le hy h3) (fun e => hn e.symm)]; exact (below_trans (below_alloc wb (.cells #[.int .i64 kf, .int .i64 d, .int .i64 0, .int .u64 0, .float .f64 0] 41)) (below_drew _)).block y hy
      have hh5 : w5.heap[R]? = some (.cells (RC (Rd.mk r.ln v1 r.fa r.s) ov (.slice oa r.s.sts.length oc)) 44 (0, 0)) := by rw [hb5 R (blk_lt HR4.out.blk) (fun e => by have h1 := (HR4.out.sts.lt R e).1; have h2 := HR4.out.rb; have h3 := HR4.out.bm; omega)]; exact HR4.out.blk
      have v7 : w5.cell? ⟨R, 12, none⟩ = some (.slice oa r.s.sts.length oc) := by rw [blk_cell hh5]; rfl
      have y7 : w5.frozen? ⟨R, 12, none⟩ = false := blk_soft hh5 12
      have HT5 : Hid (w5.heap[g]? = some (.cells #[.int .i64 kf, .int .i64 d, .int .i64 0, .int .u64 0, .float .f64 0] 41 (0, 0))) := by show _ = _; rw [hb5 g (blk_lt HG4.out) (fun e => HGOO.out g e rfl)]; exact HG4.out
      clear hr5 hg5 hat5 hh5 hb5
      refine hK.out _ _ ?_ (fun hHeld => ?_)
      · exact HT5.out
      clear hK K
      try simp only [Act.put, List.setIfInBounds_toArray, List.set_cons_zero, List.set_cons_succ]
      refine wpAnyH_take (i := 8) (oi := ⟨some 57, _, _, _, _, _⟩) (v := ?_) rfl (by kernel_rfl) (by kernel_rfl) (by kernel_rfl) (fun _ _ _ h => h) (Or.inl ⟨by rfl, ?_⟩) hHeld ?_
      rotate_left
      · intro w hSw; (try dsimp only at hSw); go_simp; all_goals (with_reducible rfl)
      try simp only [Act.put, List.setIfInBounds_toArray, List.set_cons_zero, List.set_cons_succ]
      refine wpAnyH_take (i := 9) (oi := ⟨some 58, _, _, _, _, _⟩) (v := ?_) rfl (by kernel_rfl) (by kernel_rfl) (by kernel_rfl) (fun _ _ _ h => h) (Or.inl ⟨by rfl, ?_⟩) hHeld ?_
      rotate_left
      · intro w hSw; (try dsimp only at hSw); go_simp; all_goals (with_reducible rfl)
      try simp only [Act.put, List.setIfInBounds_toArray, List.set_cons_zero, List.set_cons_succ]
      refine wpAnyH_ready (rs := [10]) (by kernel_rfl) (by simp) ?_
      refine AllReadyH.cons (o := ⟨none, _, _, _, _, _⟩) rfl (fun K hK => ?_) AllReadyH.nil
      go_simp
      refine hK.out _ _ ?_ (fun hHeld => ?_)
      · exact (by rw [set_other _ (fun e => HAP.out.1 e.symm)]; exact HT5.out)
      clear hK K
      try simp only [Act.put, List.setIfInBounds_toArray, List.set_cons_zero, List.set_cons_succ]
      refine wpAnyH_done (by kernel_rfl) ?_ _
      refine NoPanic.normal ?_
      have HE := hidH (RM.addSt HR4.out (st := ⟨kf, d, 0, 0, 0⟩) (below_trans (below_alloc wb (.cells #[.int .i64 kf, .int .i64 d, .int .i64 0, .int .u64 0, .float .f64 0] 41)) (below_drew _)) HR5.out HG5.out)
      refine bodyPost_end (results_none rfl _ _ _) rfl ?_
      rw [HA.out]
      exact ⟨rfl, ⟨_, _, _, HE.out.1⟩, (HC4.out.le fun x hx => .inl hx).self HE.out.2⟩


set_option maxRecDepth 100000 in
set_option maxHeartbeats 8000000 in
theorem takeStep_4 (h : RM B R r ov sv M w) (hon : r.s.sts.length ≤ 4096) {v : Bs} {f : Fm} (hf : formW v = some f) (hfg : f.g = 4) :
    Calls Tryz.prog 50 #[.pointer (some ⟨R, 0, none⟩), S v] w (LineGot B R r ((stA f r.ws).map fun x => ({ r.s with sts := r.s.sts ++ [x.1] }, x.2)) w) := by
  have HR : Hid (RM B R r ov sv M w) := h
  have HON : Hid (r.s.sts.length ≤ 300000) := by show _ ≤ _; omega
  obtain ⟨A, hA⟩ : ∃ A, A = (stA f r.ws).map fun x => ({ r.s with sts := r.s.sts ++ [x.1] }, x.2) := ⟨_, rfl⟩
  rw [← hA]
  have HAA : Hid (A = (stA f r.ws).map fun x => ({ r.s with sts := r.s.sts ++ [x.1] }, x.2)) := hA
  have HFW := formNamed_walk v w h.tb
  have hfw : formL.find? (fun f => f.w == v) = some f := hf
  rw [hfw] at HFW
  simp only [FmA, FmV, Option.getD_some, Option.isSome_some, S, hfg] at HFW ⊢
  obtain ⟨kf, hfK⟩ : ∃ k, k = f.K := ⟨_, rfl⟩
  obtain ⟨fw, hfw2⟩ : ∃ k : ByteArray, k = ⟨f.w.toArray⟩ := ⟨_, rfl⟩
  rw [← hfK, ← hfw2] at HFW
  have HF : Hid (kf = f.K ∧ f.g = 4) := ⟨hfK, hfg⟩
  obtain ⟨t, ht⟩ : ∃ t : ByteArray, t = ⟨v.toArray⟩ := ⟨_, rfl⟩
  rw [← ht] at HFW ⊢
  have HFN : Hid (Calls Tryz.prog 62 #[.string t] w fun e w' => e = .returned (.tuple #[.agg #[.int .i64 kf, .string fw, .int .i64 4], .bool true]) ∧ Below w.heap.size w w') := HFW
  have b1 : bits .and .i64 4 1 = 0 := by decide +kernel
  have b2 : bits .and .i64 4 2 = 0 := by decide +kernel
  have b4 : bits .and .i64 4 4 = 4 := by decide +kernel
  have b8 : bits .and .i64 4 8 = 0 := by decide +kernel
  clear h hon hA HFW hf hfg hfw hfK hfw2 ht
  go_enter Tryz.func50, Tryz.ntmps50
  go_wp2_with fail
  refine HFN.out.mono ?_
  rintro e9 w0 ⟨rfl, hB0⟩
  have HR0 : Hid (RM B R r ov sv M w0) := HR.out.go hB0
  have HB0 : Hid (Below w.heap.size w w0) := hB0
  obtain ⟨gf, hgf⟩ : ∃ gf, gf = w0.heap.size := ⟨_, rfl⟩
  obtain ⟨w1, hw1⟩ : ∃ w1, w1 = w0.alloc (.cells #[.int .i64 kf, .string fw, .int .i64 4] 80) := ⟨_, rfl⟩
  have HW1 : Hid (gf = w0.heap.size ∧ w1 = w0.alloc (.cells #[.int .i64 kf, .string fw, .int .i64 4] 80)) := ⟨hgf, hw1⟩
  have HR1 : Hid (RM B R r ov sv M w1) := by show RM _ _ _ _ _ _ _; rw [hw1]; exact HR0.out.go (below_alloc _ _)
  have HF1 : Hid (w1.heap[gf]? = some (.cells #[.int .i64 kf, .string fw, .int .i64 4] 80 (0, 0))) := by show _ = _; rw [hw1]; exact alloc_at hgf
  have HB1 : Hid (Below w.heap.size w w1) := by show Below _ _ _; rw [hw1]; exact below_trans hB0 (below_alloc _ _)
  have HAF : Hid (R ≠ gf) := (HR0.out.apart (Nat.le_of_eq hgf.symm)).1
  clear hB0 hgf hw1 HFN
  go_wp2_with fail
  rw [← HW1.out.1, ← HW1.out.2]
  clear HW1
  refine (refuse_no 210 w1).mono ?_
  rintro e9 w9 ⟨rfl, hw9⟩
  replace hw9 := hw9.symm
  subst hw9
  have k0 : w1.cell? ⟨gf, 0, none⟩ = some (.int .i64 kf) := by rw [blk_cell HF1.out]; rfl
  have k2 : w1.cell? ⟨gf, 2, none⟩ = some (.int .i64 4) := by rw [blk_cell HF1.out]; rfl
  have kl : gf < w1.heap.size := blk_lt HF1.out
  have kn : ¬ gf = w1.heap.size := by omega
  obtain ⟨g, hg⟩ : ∃ g, g = w1.heap.size := ⟨_, rfl⟩
  obtain ⟨wa, hwa⟩ : ∃ wa, wa = w1.alloc (.cells #[.int .i64 kf, .int .i64 0, .int .i64 0, .int .u64 0, .float .f64 0] 41) := ⟨_, rfl⟩
  have HWA : Hid (g = w1.heap.size ∧ wa = w1.alloc (.cells #[.int .i64 kf, .int .i64 0, .int .i64 0, .int .u64 0, .float .f64 0] 41)) := ⟨hg, hwa⟩
  have HS0R : Hid (RM B R (Rd.mk r.ln r.ws r.fa r.s) ov sv M wa) := by show RM _ _ _ _ _ _ _; rw [hwa]; exact HR1.out.go (below_alloc _ _)
  have HS0F : Hid (wa.heap[gf]? = some (.cells #[.int .i64 kf, .string fw, .int .i64 4] 80 (0, 0))) := by show _ = _; rw [hwa]; exact alloc_old HF1.out
  have HS0G : Hid (wa.heap[g]? = some (.cells #[.int .i64 kf, .int .i64 0, .int .i64 0, .int .u64 0, .float .f64 0] 41 (0, 0))) := by show _ = _; rw [hwa]; exact alloc_at hg
  have HBA : Hid (Below w.heap.size w wa) := by show Below _ _ _; rw [hwa]; exact below_trans HB1.out (below_alloc _ _)
  have HS0C : Hid (Ch (fun x => x = R) w wa) := Ch.of_below HBA.out
  have HAP : Hid (R ≠ g ∧ R ≤ g ∧ (∀ x, ov.ownBlock = some x → x ≠ g) ∧ (∀ x, sv.ownBlock = some x → x ≠ g)) := HR1.out.apart (Nat.le_of_eq hg.symm)
  have HGF : Hid (gf ≠ g ∧ w.heap.size ≤ g) := ⟨by omega, by have := HB1.out.size; omega⟩
  have ka0 : wa.cell? ⟨gf, 0, none⟩ = some (.int .i64 kf) := by rw [blk_cell HS0F.out]; rfl
  have ka2 : wa.cell? ⟨gf, 2, none⟩ = some (.int .i64 4) := by rw [blk_cell HS0F.out]; rfl
  clear hwa hg
  have hgn : ¬ gf = g := HGF.out.1
  have hgm : ¬ g = gf := fun e => HGF.out.1 e.symm
  clear ka0 ka2
  go_wp2_with fail
  rw [← HWA.out.1, ← HWA.out.2]
  clear HWA k0 k2 kl kn
  refine (key_walk HS0R.out).mono ?_
  rintro e9 w2 hT
  have hT2 : Took B R M (Rd.mk r.ln r.ws r.fa r.s) ov sv ((ky r.ws).map fun x => (.int .u64 x.1, x.2)) wa e9 w2 := hT
  clear hT
  cases hn : ky r.ws with
  | none =>
    rw [hn] at hT2
    have hT' : Bad B R r.ln 211 wa e9 w2 := hT2
    have HAN : Hid (A = none) := by
      show _ = _
      rw [HAA.out]
      simp [stA, HF.out.2, onlyI, fN, fK, onlyK, fU, hn]
    have HBD : Hid (Bad B R r.ln 211 w e9 w2) := Bad.from hT' (HS0C.out.le fun x hx => .inl hx)
    obtain ⟨⟨u, pv, rfl⟩, _⟩ := hT'
    clear hT2 hn
    go_wp2_with fail
    refine ⟨rfl, ?_⟩
    rw [HAN.out]
    exact HBD.out
  | some y =>
    obtain ⟨k, v1⟩ := y
    rw [hn] at hT2
    have HN0 : Hid (ky r.ws = some (k, v1)) := hn
    have hT' : Good B R M (Rd.mk r.ln r.ws r.fa r.s) ov sv (.int .u64 k) v1 wa e9 w2 := hT2
    obtain ⟨rfl, hr2, hc2⟩ := hT'
    have HQ : Hid (RM B R (Rd.mk r.ln v1 r.fa r.s) ov sv M w2) := hr2
    have HD : Hid (Ch (fun x => x = R) w w2) := HS0C.out.self hc2
    have HP : Hid (w2.heap[g]? = some (.cells #[.int .i64 kf, .int .i64 0, .int .i64 0, .int .u64 0, .float .f64 0] 41 (0, 0))) := blk_ch HS0G.out hc2 (fun e => HAP.out.1 e.symm)
    have HPF : Hid (w2.heap[gf]? = some (.cells #[.int .i64 kf, .string fw, .int .i64 4] 80 (0, 0))) := blk_ch HS0F.out hc2 (fun e => HAF.out e.symm)
    have c9 : w2.cell? ⟨g, 3, none⟩ = some (.int .u64 0) := by rw [blk_cell HP.out]; rfl
    have z9 : w2.frozen? ⟨g, 3, none⟩ = false := blk_soft HP.out 3
    obtain ⟨wb, hwy⟩ : ∃ wy, wy = w2.setCell ⟨g, 3, none⟩ (.int .u64 k) := ⟨_, rfl⟩
    have HWY : Hid (wb = w2.setCell ⟨g, 3, none⟩ (.int .u64 k)) := hwy
    have HS1R : Hid (RM B R (Rd.mk r.ln v1 r.fa r.s) ov sv M wb) := by
      show RM _ _ _ _ _ _ _
      rw [hwy]
      exact HQ.out.keep (ch_set _ _ _ _) HAP.out.1 HAP.out.2.2.1 HAP.out.2.2.2 HAP.out.2.1
    have HS1G : Hid (wb.heap[g]? = some (.cells #[.int .i64 kf, .int .i64 0, .int .i64 0, .int .u64 k, .float .f64 0] 41 (0, 0))) := by
      show _ = _
      rw [hwy, set_row HP.out]
      rfl
    have HS1F : Hid (wb.heap[gf]? = some (.cells #[.int .i64 kf, .string fw, .int .i64 4] 80 (0, 0))) := by
      show _ = _
      rw [hwy, set_other _ HGF.out.1]
      exact HPF.out
    have HS1C : Hid (Ch (fun x => x = R) w wb) := by
      show Ch _ _ _
      rw [hwy]
      exact HD.out.trans (ch_set _ _ _ _) (fun x hx => .inr (by rw [hx]; exact HGF.out.2))
    have ka3 : wb.cell? ⟨gf, 2, none⟩ = some (.int .i64 4) := by rw [blk_cell HS1F.out]; rfl
    clear hT2 hn hr2 hc2 hwy
    have kw : w2.cell? ⟨gf, 2, none⟩ = some (.int .i64 4) := by rw [blk_cell HPF.out]; rfl
    clear ka3
    go_wp2_with fail
    rw [← HWY.out]
    clear HWY c9 z9 kw HQ HD HP HPF
    have HA : Hid (A = some ({ r.s with sts := r.s.sts ++ [⟨kf, 0, 0, k, 0⟩] }, v1)) := by
      show _ = _
      rw [HAA.out]
      have hk := HF.out.1
      simp [stA, HF.out.2, onlyI, onlyK, onlyF, fN, fK, fU, fV, HN0.out, hk]
    obtain ⟨oa, oc, hov, _, _⟩ := own_form21 HS1R.out.sts
    have hr4 := HS1R.out
    have hgo := HAP.out.2.2.2
    rw [hov] at hr4 hgo
    have HR4 : Hid (RM B R (Rd.mk r.ln v1 r.fa r.s) ov (.slice oa r.s.sts.length oc) M wb) := hr4
    have HGOO : Hid (∀ x, (Value.slice oa r.s.sts.length oc).ownBlock = some x → x ≠ g) := hgo
    have HG4 := HS1G
    have HC4 := HS1C
    have c7 : wb.cell? ⟨R, 12, none⟩ = some (.slice oa r.s.sts.length oc) := by rw [blk_cell hr4.blk]; rfl
    have x0 : ∀ wx : World, wx.heap[g]? = some (.cells #[.int .i64 kf, .int .i64 0, .int .i64 0, .int .u64 k, .float .f64 0] 41 (0, 0)) → wx.cell? ⟨g, 0, none⟩ = some (.int .i64 kf) := fun wx h => by rw [blk_cell h]; rfl
    have x1 : ∀ wx : World, wx.heap[g]? = some (.cells #[.int .i64 kf, .int .i64 0, .int .i64 0, .int .u64 k, .float .f64 0] 41 (0, 0)) → wx.cell? ⟨g, 1, none⟩ = some (.int .i64 0) := fun wx h => by rw [blk_cell h]; rfl
    have x2 : ∀ wx : World, wx.heap[g]? = some (.cells #[.int .i64 kf, .int .i64 0, .int .i64 0, .int .u64 k, .float .f64 0] 41 (0, 0)) → wx.cell? ⟨g, 2, none⟩ = some (.int .i64 0) := fun wx h => by rw [blk_cell h]; rfl
    have x3 : ∀ wx : World, wx.heap[g]? = some (.cells #[.int .i64 kf, .int .i64 0, .int .i64 0, .int .u64 k, .float .f64 0] 41 (0, 0)) → wx.cell? ⟨g, 3, none⟩ = some (.int .u64 k) := fun wx h => by rw [blk_cell h]; rfl
    have x4 : ∀ wx : World, wx.heap[g]? = some (.cells #[.int .i64 kf, .int .i64 0, .int .i64 0, .int .u64 k, .float .f64 0] 41 (0, 0)) → wx.cell? ⟨g, 4, none⟩ = some (.float .f64 0) := fun wx h => by rw [blk_cell h]; rfl
    have hR4 : R < wb.heap.size := blk_lt hr4.blk
    have hR5 : ¬ R = wb.heap.size := by omega
    clear hov hr4 hgo
    refine wp_region_noPanic ?_
    refine wp_region_held_drew (S := fun wx => wx.heap[g]? = some (.cells #[.int .i64 kf, .int .i64 0, .int .i64 0, .int .u64 k, .float .f64 0] 41 (0, 0))) (by kernel_rfl) ?_ (fun hHeld => ?_)
    · exact HG4.out
    refine wpAnyH_take (i := 0) (oi := ⟨some 49, _, _, _, _, _⟩) (v := ?_) rfl (by kernel_rfl) (by kernel_rfl) (by kernel_rfl) (fun _ _ _ h => h) (Or.inl ⟨by rfl, ?_⟩) hHeld ?_
    rotate_left
    · intro w hSw; (try dsimp only at hSw); go_simp; all_goals (with_reducible rfl)
    try simp only [Act.put, List.setIfInBounds_toArray, List.set_cons_zero, List.set_cons_succ]
    refine wpAnyH_take (i := 1) (oi := ⟨some 50, _, _, _, _, _⟩) (v := ?_) rfl (by kernel_rfl) (by kernel_rfl) (by kernel_rfl) (fun _ _ _ h => h) (Or.inl ⟨by rfl, ?_⟩) hHeld ?_
    rotate_left
    · intro w hSw; (try dsimp only at hSw); go_simp; all_goals (with_reducible rfl)
    try simp only [Act.put, List.setIfInBounds_toArray, List.set_cons_zero, List.set_cons_succ]
    refine wpAnyH_take (i := 2) (oi := ⟨some 51, _, _, _, _, _⟩) (v := ?_) rfl (by kernel_rfl) (by kernel_rfl) (by kernel_rfl) (fun _ _ _ h => h) (Or.inl ⟨by rfl, ?_⟩) hHeld ?_
    rotate_left
    · intro w hSw; (try dsimp only at hSw); go_simp; all_goals (with_reducible rfl)
    try simp only [Act.put, List.setIfInBounds_toArray, List.set_cons_zero, List.set_cons_succ]
    refine wpAnyH_take (i := 3) (oi := ⟨some 52, _, _, _, _, _⟩) (v := ?_) rfl (by kernel_rfl) (by kernel_rfl) (by kernel_rfl) (fun _ _ _ h => h) (Or.inl ⟨by rfl, ?_⟩) hHeld ?_
    rotate_left
    · intro w hSw; (try dsimp only at hSw); go_simp; all_goals (with_reducible rfl)
    try simp only [Act.put, List.setIfInBounds_toArray, List.set_cons_zero, List.set_cons_succ]
    refine wpAnyH_take (i := 5) (oi := ⟨some 54, _, _, _, _, _⟩) (v := ?_) rfl (by kernel_rfl) (by kernel_rfl) (by kernel_rfl) (fun _ _ _ h => h) (Or.inl ⟨by rfl, ?_⟩) hHeld ?_
    rotate_left
    · intro w hSw; (try dsimp only at hSw); go_simp; all_goals (with_reducible rfl)
    try simp only [Act.put, List.setIfInBounds_toArray, List.set_cons_zero, List.set_cons_succ]
    refine wpAnyH_ready (rs := [4, 6]) (by kernel_rfl) (by simp) ?_
    refine AllReadyH.cons (o := ⟨some 53, _, _, _, _, _⟩) rfl (fun K hK => ?_) (AllReadyH.cons (o := ⟨some 55, _, _, _, _, _⟩) rfl (fun K hK => ?_) AllReadyH.nil)
    · go_simp
      refine hK.out _ _ ?_ (fun hHeld => ?_)
      · exact hHeld
      clear hK K
      try simp only [Act.put, List.setIfInBounds_toArray, List.set_cons_zero, List.set_cons_succ]
      refine wpAnyH_ready (rs := [6]) (by kernel_rfl) (by simp) ?_
      refine AllReadyH.cons (o := ⟨some 55, _, _, _, _, _⟩) rfl (fun K hK => ?_) AllReadyH.nil
      go_simp
      refine hK.out _ _ ?_ (fun hHeld => ?_)
      · exact (alloc_old hHeld)
      clear hK K
      try simp only [Act.put, List.setIfInBounds_toArray, List.set_cons_zero, List.set_cons_succ]
      refine wpAnyH_ready (rs := [7]) (by kernel_rfl) (by simp) ?_
      refine AllReadyH.cons (o := ⟨some 56, _, _, _, _, _⟩) rfl (fun K hK => ?_) AllReadyH.nil
      refine step_app_st rfl (.tmp 53) (.tmp 55) rfl (base := M) (.slice oa r.s.sts.length oc) r.s.sts.length (stsF r.s.sts) (by simp [Act.eval]) (row_keep HR4.out.sts fun y hy => (below_trans (below_alloc wb (.cells #[.int .i64 kf, .int .i64 0, .int .i64 0, .int .u64 k, .float .f64 0] 41)) (below_drew _)).block y (HR4.out.sts.lt y hy).2) wb.heap.size [.int .i64 kf, .int .i64 0, .int .i64 0, .int .u64 k, .float .f64 0] (by simp [Act.eval]) rfl (alloc_at rfl) (by intro u hu; simp only [List.mem_cons, List.not_mem_nil, or_false] at hu; rcases hu with rfl | rfl | rfl | rfl | rfl <;> rfl) HON.out (by have h2 := HR4.out.ms; have h3 := (below_trans (below_alloc wb (.cells #[.int .i64 kf, .int .i64 0, .int .i64 0, .int .u64 k, .float .f64 0] 41)) (below_drew _)).size; exact Nat.le_trans h2 h3) ?_
      intro v5 w5 hr5 hg5 hat5
      have HR5 : Hid (w5.ownsRow M 41 5 v5 (r.s.sts.length + 1) (stsF r.s.sts ++ stF ⟨kf, 0, 0, k, 0⟩)) := hr5
      have HG5 := hidH hg5
      obtain ⟨a5, cp5, rfl, _, _⟩ := own_form21 hr5
      have hb5 : ∀ y, y < wb.heap.size → (Value.slice oa r.s.sts.length oc).ownBlock ≠ some y → w5.heap[y]? = wb.heap[y]? := fun y hy hn => by rw [hg5.block y (by have h3 := (below_trans (below_alloc wb (.cells #[.int .i64 kf, .int .i64 0, .int .i64 0, .int .u64 k, .float .f64 0] 41)) (below_drew _)).size; exact Nat.lt_of_lt_of_le hy h3) (fun e => hn e.symm)]; exact (below_trans (below_alloc wb (.cells #[.int .i64 kf, .int .i64 0, .int .i64 0, .int .u64 k, .float .f64 0] 41)) (below_drew _)).block y hy
      have hh5 : w5.heap[R]? = some (.cells (RC (Rd.mk r.ln v1 r.fa r.s) ov (.slice oa r.s.sts.length oc)) 44 (0, 0)) := by rw [hb5 R (blk_lt HR4.out.blk) (fun e => by have h1 := (HR4.out.sts.lt R e).1; have h2 := HR4.out.rb; have h3 := HR4.out.bm; omega)]; exact HR4.out.blk
      have v7 : w5.cell? ⟨R, 12, none⟩ = some (.slice oa r.s.sts.length oc) := by rw [blk_cell hh5]; rfl
      have y7 : w5.frozen? ⟨R, 12, none⟩ = false := blk_soft hh5 12
      have HT5 : Hid (w5.heap[g]? = some (.cells #[.int .i64 kf, .int .i64 0, .int .i64 0, .int .u64 k, .float .f64 0] 41 (0, 0))) := by show _ = _; rw [hb5 g (blk_lt HG4.out) (fun e => HGOO.out g e rfl)]; exact HG4.out
      clear hr5 hg5 hat5 hh5 hb5
      refine hK.out _ _ ?_ (fun hHeld => ?_)
      · exact HT5.out
      clear hK K
      try simp only [Act.put, List.setIfInBounds_toArray, List.set_cons_zero, List.set_cons_succ]
      refine wpAnyH_take (i := 8) (oi := ⟨some 57, _, _, _, _, _⟩) (v := ?_) rfl (by kernel_rfl) (by kernel_rfl) (by kernel_rfl) (fun _ _ _ h => h) (Or.inl ⟨by rfl, ?_⟩) hHeld ?_
      rotate_left
      · intro w hSw; (try dsimp only at hSw); go_simp; all_goals (with_reducible rfl)
      try simp only [Act.put, List.setIfInBounds_toArray, List.set_cons_zero, List.set_cons_succ]
      refine wpAnyH_take (i := 9) (oi := ⟨some 58, _, _, _, _, _⟩) (v := ?_) rfl (by kernel_rfl) (by kernel_rfl) (by kernel_rfl) (fun _ _ _ h => h) (Or.inl ⟨by rfl, ?_⟩) hHeld ?_
      rotate_left
      · intro w hSw; (try dsimp only at hSw); go_simp; all_goals (with_reducible rfl)
      try simp only [Act.put, List.setIfInBounds_toArray, List.set_cons_zero, List.set_cons_succ]
      refine wpAnyH_ready (rs := [10]) (by kernel_rfl) (by simp) ?_
      refine AllReadyH.cons (o := ⟨none, _, _, _, _, _⟩) rfl (fun K hK => ?_) AllReadyH.nil
      go_simp
      refine hK.out _ _ ?_ (fun hHeld => ?_)
      · exact (by rw [set_other _ (fun e => HAP.out.1 e.symm)]; exact HT5.out)
      clear hK K
      try simp only [Act.put, List.setIfInBounds_toArray, List.set_cons_zero, List.set_cons_succ]
      refine wpAnyH_done (by kernel_rfl) ?_ _
      refine NoPanic.normal ?_
      have HE := hidH (RM.addSt HR4.out (st := ⟨kf, 0, 0, k, 0⟩) (below_trans (below_alloc wb (.cells #[.int .i64 kf, .int .i64 0, .int .i64 0, .int .u64 k, .float .f64 0] 41)) (below_drew _)) HR5.out HG5.out)
      refine bodyPost_end (results_none rfl _ _ _) rfl ?_
      rw [HA.out]
      exact ⟨rfl, ⟨_, _, _, HE.out.1⟩, (HC4.out.le fun x hx => .inl hx).self HE.out.2⟩
    · go_simp
      refine hK.out _ _ ?_ (fun hHeld => ?_)
      · exact (alloc_old hHeld)
      clear hK K
      try simp only [Act.put, List.setIfInBounds_toArray, List.set_cons_zero, List.set_cons_succ]
      refine wpAnyH_ready (rs := [4]) (by kernel_rfl) (by simp) ?_
      refine AllReadyH.cons (o := ⟨some 53, _, _, _, _, _⟩) rfl (fun K hK => ?_) AllReadyH.nil
      go_simp
      refine hK.out _ _ ?_ (fun hHeld => ?_)
      · exact hHeld
      clear hK K
      try simp only [Act.put, List.setIfInBounds_toArray, List.set_cons_zero, List.set_cons_succ]
      refine wpAnyH_ready (rs := [7]) (by kernel_rfl) (by simp) ?_
      refine AllReadyH.cons (o := ⟨some 56, _, _, _, _, _⟩) rfl (fun K hK => ?_) AllReadyH.nil
      refine step_app_st rfl (.tmp 53) (.tmp 55) rfl (base := M) (.slice oa r.s.sts.length oc) r.s.sts.length (stsF r.s.sts) (by simp [Act.eval]) (row_keep HR4.out.sts fun y hy => (below_trans (below_alloc wb (.cells #[.int .i64 kf, .int .i64 0, .int .i64 0, .int .u64 k, .float .f64 0] 41)) (below_drew _)).block y (HR4.out.sts.lt y hy).2) wb.heap.size [.int .i64 kf, .int .i64 0, .int .i64 0, .int .u64 k, .float .f64 0] (by simp [Act.eval]) rfl (alloc_at rfl) (by intro u hu; simp only [List.mem_cons, List.not_mem_nil, or_false] at hu; rcases hu with rfl | rfl | rfl | rfl | rfl <;> rfl) HON.out (by have h2 := HR4.out.ms; have h3 := (below_trans (below_alloc wb (.cells #[.int .i64 kf, .int .i64 0, .int .i64 0, .int .u64 k, .float .f64 0] 41)) (below_drew _)).size; exact Nat.le_trans h2 h3) ?_
      intro v5 w5 hr5 hg5 hat5
      have HR5 : Hid (w5.ownsRow M 41 5 v5 (r.s.sts.length + 1) (stsF r.s.sts ++ stF ⟨kf, 0, 0, k, 0⟩)) := hr5
      have HG5 := hidH hg5
      obtain ⟨a5, cp5, rfl, _, _⟩ := own_form21 hr5
      have hb5 : ∀ y, y < wb.heap.size → (Value.slice oa r.s.sts.length oc).ownBlock ≠ some y → w5.heap[y]? = wb.heap[y]? := fun y hy hn => by rw [hg5.block y (by have h3 := (below_trans (below_alloc wb (.cells #[.int .i64 kf, .int .i64 0, .int .i64 0, .int .u64 k, .float .f64 0] 41)) (below_drew _)).size; exact Nat.lt_of_lt_of_le hy h3) (fun e => hn e.symm)]; exact (below_trans (below_alloc wb (.cells #[.int .i64 kf, .int .i64 0, .int .i64 0, .int .u64 k, .float .f64 0] 41)) (below_drew _)).block y hy
      have hh5 : w5.heap[R]? = some (.cells (RC (Rd.mk r.ln v1 r.fa r.s) ov (.slice oa r.s.sts.length oc)) 44 (0, 0)) := by rw [hb5 R (blk_lt HR4.out.blk) (fun e => by have h1 := (HR4.out.sts.lt R e).1; have h2 := HR4.out.rb; have h3 := HR4.out.bm; omega)]; exact HR4.out.blk
      have v7 : w5.cell? ⟨R, 12, none⟩ = some (.slice oa r.s.sts.length oc) := by rw [blk_cell hh5]; rfl
      have y7 : w5.frozen? ⟨R, 12, none⟩ = false := blk_soft hh5 12
      have HT5 : Hid (w5.heap[g]? = some (.cells #[.int .i64 kf, .int .i64 0, .int .i64 0, .int .u64 k, .float .f64 0] 41 (0, 0))) := by show _ = _; rw [hb5 g (blk_lt HG4.out) (fun e => HGOO.out g e rfl)]; exact HG4.out
      clear hr5 hg5 hat5 hh5 hb5
      refine hK.out _ _ ?_ (fun hHeld => ?_)
      · exact HT5.out
      clear hK K
      try simp only [Act.put, List.setIfInBounds_toArray, List.set_cons_zero, List.set_cons_succ]
      refine wpAnyH_take (i := 8) (oi := ⟨some 57, _, _, _, _, _⟩) (v := ?_) rfl (by kernel_rfl) (by kernel_rfl) (by kernel_rfl) (fun _ _ _ h => h) (Or.inl ⟨by rfl, ?_⟩) hHeld ?_
      rotate_left
      · intro w hSw; (try dsimp only at hSw); go_simp; all_goals (with_reducible rfl)
      try simp only [Act.put, List.setIfInBounds_toArray, List.set_cons_zero, List.set_cons_succ]
      refine wpAnyH_take (i := 9) (oi := ⟨some 58, _, _, _, _, _⟩) (v := ?_) rfl (by kernel_rfl) (by kernel_rfl) (by kernel_rfl) (fun _ _ _ h => h) (Or.inl ⟨by rfl, ?_⟩) hHeld ?_
      rotate_left
      · intro w hSw; (try dsimp only at hSw); go_simp; all_goals (with_reducible rfl)
      try simp only [Act.put, List.setIfInBounds_toArray, List.set_cons_zero, List.set_cons_succ]
      refine wpAnyH_ready (rs := [10]) (by kernel_rfl) (by simp) ?_
      refine AllReadyH.cons (o := ⟨none, _, _, _, _, _⟩) rfl (fun K hK => ?_) AllReadyH.nil
      go_simp
      refine hK.out _ _ ?_ (fun hHeld => ?_)
      · exact (by rw [set_other _ (fun e => HAP.out.1 e.symm)]; exact HT5.out)
      clear hK K
      try simp only [Act.put, List.setIfInBounds_toArray, List.set_cons_zero, List.set_cons_succ]
      refine wpAnyH_done (by kernel_rfl) ?_ _
      refine NoPanic.normal ?_
      have HE := hidH (RM.addSt HR4.out (st := ⟨kf, 0, 0, k, 0⟩) (below_trans (below_alloc wb (.cells #[.int .i64 kf, .int .i64 0, .int .i64 0, .int .u64 k, .float .f64 0] 41)) (below_drew _)) HR5.out HG5.out)
      refine bodyPost_end (results_none rfl _ _ _) rfl ?_
      rw [HA.out]
      exact ⟨rfl, ⟨_, _, _, HE.out.1⟩, (HC4.out.le fun x hx => .inl hx).self HE.out.2⟩


end

end Go.Proofs.YtkiplcmndpdifaaGreatDoor


