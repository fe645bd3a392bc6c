/- The reference's Line. Printed by gen_rn22.py. -/
import Derived.Test.YtkiplcmndpdifaaGreatDoorRl

namespace Go.Proofs.YtkiplcmndpdifaaGreatDoor

open Go.RowKit

attribute [local go_sem] run_store_float


/-- A step's line without its end, or nothing. -/
def lnE (s : Sp) : Bs := if stE s = 0 then (formD s.K).w ++ joinB 32 (stArgs (formD s.K).g s) else []


theorem lnA_take {ask : Bs} {i : Nat} {c : UInt8} {q : Bs × Sp} (hc : ask[i]? = some c) : lnA (ask.take (i + 1)) q = lnS c (lnA (ask.take i) q) := by
  unfold lnA
  rw [List.take_add_one, hc]
  simp


/-- Line's own step and the line so far. -/
structure Lw9 (w : World) (B : Nat) (f : Fm) (s : Sp) (i : Nat) (ln : Bs) (s1 : Sp) (wr : World) : Prop where
  bel : Below w.heap.size w wr
  st : wr.heap[B]? = some (.cells #[.int .i64 s1.K, .int .i64 s1.D, .int .i64 s1.N, .int .u64 s1.k, .float .f64 s1.x] 41 (0, 0))
  b : B = w.heap.size
  val : lnA ((askL f.g).take i) (f.w, s) = (ln, s1)
  ok : s1.ok
  len : ln.length ≤ 10 + 25 * i


theorem form_len : ∀ f ∈ formL, f.w.length ≤ 10 ∧ f.w ≠ [] := by decide


set_option maxRecDepth 100000 in
set_option maxHeartbeats 16000000 in
theorem rline_walk {s : Sp} (hs : s.ok) (w : World) : Calls Tryz.prog 27 #[.agg #[.int .i64 s.K, .int .i64 s.D, .int .i64 s.N, .int .u64 s.k, .float .f64 s.x]] w fun e w' => e = .returned (.tuple #[S (lnE s), .int .i64 (stE s)]) ∧ Below w.heap.size w w' := by
  have HO : Hid s.ok := hs
  obtain ⟨B, hB⟩ : ∃ B, B = w.heap.size := ⟨_, rfl⟩
  obtain ⟨w1, hw1⟩ : ∃ w1, w1 = w.alloc (.cells #[.int .i64 s.K, .int .i64 s.D, .int .i64 s.N, .int .u64 s.k, .float .f64 s.x] 41) := ⟨_, rfl⟩
  have HW1 : Hid (w1 = w.alloc (.cells #[.int .i64 s.K, .int .i64 s.D, .int .i64 s.N, .int .u64 s.k, .float .f64 s.x] 41) ∧ B = w.heap.size ∧ Below w.heap.size w w1 ∧ w1.heap[B]? = some (.cells #[.int .i64 s.K, .int .i64 s.D, .int .i64 s.N, .int .u64 s.k, .float .f64 s.x] 41 (0, 0))) := ⟨hw1, hB, by rw [hw1]; exact below_alloc _ _, by rw [hw1]; exact alloc_at hB⟩
  clear hw1 hB hs
  go_enter Tryz.func27, Tryz.ntmps27
  go_wp2_with fail
  rw [← HW1.out.2.1, ← HW1.out.1]
  refine (rword_walk s.K _).mono ?_
  rintro e9 w2 ⟨rfl, hB2⟩
  have HB2 : Hid (Below w.heap.size w w2 ∧ w2.heap[B]? = some (.cells #[.int .i64 s.K, .int .i64 s.D, .int .i64 s.N, .int .u64 s.k, .float .f64 s.x] 41 (0, 0))) := ⟨below_trans HW1.out.2.2.1 hB2, blk_below HW1.out.2.2.2 hB2⟩
  clear hB2
  simp only [S]
  cases hf : formK s.K with
  | none =>
    have hw0 : wrdK s.K = [] := by unfold wrdK; rw [hf]
    have HE : Hid (lnE s = [] ∧ stE s = 200) := by
      have e : stE s = 200 := by unfold stE; rw [hf]
      exact ⟨by unfold lnE; rw [e]; rfl, e⟩
    rw [hw0]
    clear hf hw0
    go_wp2_with fail
    go_ret2
    rw [HE.out.1, HE.out.2]
    exact ⟨rfl, HB2.out.1⟩
  | some f =>
    have hfm : f ∈ formL := List.mem_of_find?_eq_some hf
    have hw0 : wrdK s.K = f.w := by unfold wrdK; rw [hf]
    have HF : Hid (f ∈ formL ∧ formK s.K = some f ∧ f.w.length ≤ 10) := ⟨hfm, hf, (form_len f hfm).1⟩
    obtain ⟨u, hu⟩ : ∃ u : ByteArray, u = ⟨f.w.toArray⟩ := ⟨_, rfl⟩
    have he : u.toList.isEmpty = false := by
      rw [hu]
      cases hw : f.w with
      | nil => exact absurd hw (form_len f hfm).2
      | cons c l => exact emp_cons _ _
    obtain ⟨ua, hua⟩ : ∃ u : ByteArray, u = ⟨(askL f.g).toArray⟩ := ⟨_, rfl⟩
    obtain ⟨m, hm⟩ : ∃ m, m = (askL f.g).length := ⟨_, rfl⟩
    have husz : ua.size = m := by rw [hua, size_mk, hm]
    have hFW : formW f.w = some f := (wd_form f hfm).2.2.1
    have haW : askW f.w = askL f.g := by unfold askW; rw [hFW]
    have hm3 : (m : Int) ≤ 3 := by have h := askW_len f.w; rw [haW, ← hm] at h; omega
    have HRA : Hid (∀ wx, Calls Tryz.prog 16 #[.string u] wx fun e w' => e = .returned (.tuple #[.string ua, .int .i64 (kndW f.w)]) ∧ w' = wx) := by intro wx; rw [hu, hua, ← haW]; exact rasks_walk _ _
    have HAS : Hid (ua = ⟨(askL f.g).toArray⟩ ∧ m = (askL f.g).length ∧ (∀ c ∈ askL f.g, c = 110 ∨ c = 107 ∨ c = 117 ∨ c = 118)) := ⟨hua, hm, fun c hc => askW_mem (T := f.w) (by rw [haW]; exact hc)⟩
    have HU : Hid (u = ⟨f.w.toArray⟩) := hu
    rw [hw0, ← hu]
    clear hf hfm hw0 hu hua hm hFW haW
    go_wp2_with fail
    refine (HRA.out _).mono ?_
    rintro e9 w3 ⟨rfl, hw⟩
    subst hw
    clear HRA
    go_wp2_with fail
    go_loopw [7, 8] (fun v7 v8 wr => ∃ (i : Nat) (ln : Bs) (s1 : Sp), v8 = .int .i64 i ∧ i ≤ m ∧ v7 = .string ⟨ln.toArray⟩ ∧ Lw9 w B f s i ln s1 wr) (fun _ v8 _ => m - (intOf v8).toNat)
    case atStart => exact ⟨0, f.w, s, rfl, Nat.zero_le _, by rw [HU.out], ⟨HB2.out.1, HB2.out.2, HW1.out.2.1, by simp [lnA], HO.out, by have := HF.out.2.2; omega⟩⟩
    case round =>
      obtain ⟨i, ln, s1, rfl, htop, rfl, hlw⟩ := hrel
      have HQ : Hid (Lw9 w B f s i ln s1 wr) := hlw
      obtain ⟨s0c, s1c, s2c, s3c, s4c⟩ := st_cells9 hlw.st
      have y1 := blk_soft hlw.st 1
      have y2 := blk_soft hlw.st 2
      have y3 := blk_soft hlw.st 3
      have y4 := blk_soft hlw.st 4
      clear hlw
      by_cases hlt : i < m
      · have hli : (i : Int) < (m : Int) := by omega
        obtain ⟨c, hc⟩ : ∃ c, (askL f.g)[i]? = some c := ⟨_, List.getElem?_eq_getElem (by have := HAS.out.2.1; omega)⟩
        have hits : i < ua.size := by omega
        have hct := get_mk HAS.out.1 hc hits
        have hcc := HAS.out.2.2 c (List.mem_of_getElem? hc)
        have HN := hidH (lnA_take (q := (f.w, s)) hc)
        obtain ⟨v, hv⟩ : ∃ v : ByteArray, v = ⟨ln.toArray⟩ := ⟨_, rfl⟩
        obtain ⟨v1, hv1⟩ : ∃ v : ByteArray, v = ⟨(ln ++ [32]).toArray⟩ := ⟨_, rfl⟩
        have hlen := HQ.out.len
        have a1 : ∀ wx, (Op.stringOp .add v ⟨#[32]⟩).run Tryz.prog wx = .ok (.string v1) wx := fun wx => by rw [hv, hv1]; exact run_add ln [32] (by simp; omega) wx
        have HV : Hid (v = ⟨ln.toArray⟩ ∧ v1 = ⟨(ln ++ [32]).toArray⟩) := ⟨hv, hv1⟩
        rw [← hv]
        clear hc hv hv1
        rcases hcc with rfl | rfl | rfl | rfl
        · have q110 : (((ua[i]'hits).toNat : Int) == 110) = true := by rw [hct]; rfl
          obtain ⟨d9, hd9⟩ : ∃ l : Bs, l = Lib.itoa s1.D := ⟨_, rfl⟩
          have hd20 : d9.length ≤ 21 := by have h := itoa_len HQ.out.ok.2.1; rw [hd9]; omega
          obtain ⟨v2, hv2⟩ : ∃ v : ByteArray, v = ⟨d9.toArray⟩ := ⟨_, rfl⟩
          obtain ⟨v3, hv3⟩ : ∃ v : ByteArray, v = ⟨(ln ++ [32] ++ d9).toArray⟩ := ⟨_, rfl⟩
          have a2 : ∀ wx, (Op.stringOp .add v1 v2).run Tryz.prog wx = .ok (.string v3) wx := fun wx => by rw [HV.out.2, hv2, hv3]; exact run_add _ d9 (by simp; omega) wx
          have HL9 : Hid (lnA ((askL f.g).take (i + 1)) (f.w, s) = (ln ++ [32] ++ d9, { s1 with D := 0 }) ∧ (ln ++ [32] ++ d9).length ≤ 10 + 25 * (i + 1) ∧ v3 = ⟨(ln ++ [32] ++ d9).toArray⟩ ∧ v2 = ⟨d9.toArray⟩ ∧ d9 = Lib.itoa s1.D) := ⟨by rw [HN.out, HQ.out.val, hd9]; simp [lnS], by simp; omega, hv3, hv2, hd9⟩
          clear hd9 hv2 hv3 hct hd20 hlen
          go_wp2_with fail
          refine (rdecimal_walk HQ.out.ok.2.1 _).mono ?_
          rintro e9 w4 ⟨rfl, hB4⟩
          rw [← HL9.out.2.2.2.2]
          simp only [S]
          rw [← HL9.out.2.2.2.1]
          have HB4 : Hid (Below wr.heap.size wr w4) := hB4
          clear hB4 s0c s1c s2c s3c s4c y1 y2 y3 y4
          have hst4 := blk_below HQ.out.st HB4.out
          have k9 : w4.cell? ⟨B, 1, none⟩ = some (.int .i64 s1.D) := blk_cell hst4 1
          have y9 := blk_soft hst4 1
          have HW5 : Hid (Lw9 w B f s (i + 1) (ln ++ [32] ++ d9) { s1 with D := 0 } (w4.setCell ⟨B, 1, none⟩ (.int .i64 0))) := ⟨below_set (below_trans HQ.out.bel HB4.out) (by have := HQ.out.b; omega), by rw [set_row hst4]; rfl, HQ.out.b, HL9.out.1, ⟨HQ.out.ok.1, by simp [In64], HQ.out.ok.2.2⟩, HL9.out.2.1⟩
          clear hst4
          go_wp2_with fail
          exact ⟨⟨i + 1, ln ++ [32] ++ d9, _, by (congr 1), by omega, by rw [HL9.out.2.2.1], HW5.out⟩, by simp [intOf]; omega⟩
        · have q110 : (((ua[i]'hits).toNat : Int) == 110) = false := by rw [hct]; rfl
          have q107 : (((ua[i]'hits).toNat : Int) == 107) = true := by rw [hct]; rfl
          obtain ⟨d9, hd9⟩ : ∃ l : Bs, l = Lib.itoa s1.N := ⟨_, rfl⟩
          have hd20 : d9.length ≤ 21 := by have h := itoa_len HQ.out.ok.2.2.1; rw [hd9]; omega
          obtain ⟨v2, hv2⟩ : ∃ v : ByteArray, v = ⟨d9.toArray⟩ := ⟨_, rfl⟩
          obtain ⟨v3, hv3⟩ : ∃ v : ByteArray, v = ⟨(ln ++ [32] ++ d9).toArray⟩ := ⟨_, rfl⟩
          have a2 : ∀ wx, (Op.stringOp .add v1 v2).run Tryz.prog wx = .ok (.string v3) wx := fun wx => by rw [HV.out.2, hv2, hv3]; exact run_add _ d9 (by simp; omega) wx
          have HL9 : Hid (lnA ((askL f.g).take (i + 1)) (f.w, s) = (ln ++ [32] ++ d9, { s1 with N := 0 }) ∧ (ln ++ [32] ++ d9).length ≤ 10 + 25 * (i + 1) ∧ v3 = ⟨(ln ++ [32] ++ d9).toArray⟩ ∧ v2 = ⟨d9.toArray⟩ ∧ d9 = Lib.itoa s1.N) := ⟨by rw [HN.out, HQ.out.val, hd9]; simp [lnS], by simp; omega, hv3, hv2, hd9⟩
          clear hd9 hv2 hv3 hct hd20 hlen
          go_wp2_with fail
          refine (rdecimal_walk HQ.out.ok.2.2.1 _).mono ?_
          rintro e9 w4 ⟨rfl, hB4⟩
          rw [← HL9.out.2.2.2.2]
          simp only [S]
          rw [← HL9.out.2.2.2.1]
          have HB4 : Hid (Below wr.heap.size wr w4) := hB4
          clear hB4 s0c s1c s2c s3c s4c y1 y2 y3 y4
          have hst4 := blk_below HQ.out.st HB4.out
          have k9 : w4.cell? ⟨B, 2, none⟩ = some (.int .i64 s1.N) := blk_cell hst4 2
          have y9 := blk_soft hst4 2
          have HW5 : Hid (Lw9 w B f s (i + 1) (ln ++ [32] ++ d9) { s1 with N := 0 } (w4.setCell ⟨B, 2, none⟩ (.int .i64 0))) := ⟨below_set (below_trans HQ.out.bel HB4.out) (by have := HQ.out.b; omega), by rw [set_row hst4]; rfl, HQ.out.b, HL9.out.1, ⟨HQ.out.ok.1, HQ.out.ok.2.1, by simp [In64], HQ.out.ok.2.2.2⟩, HL9.out.2.1⟩
          clear hst4
          go_wp2_with fail
          exact ⟨⟨i + 1, ln ++ [32] ++ d9, _, by (congr 1), by omega, by rw [HL9.out.2.2.1], HW5.out⟩, by simp [intOf]; omega⟩
        · have q110 : (((ua[i]'hits).toNat : Int) == 110) = false := by rw [hct]; rfl
          have q107 : (((ua[i]'hits).toNat : Int) == 107) = false := by rw [hct]; rfl
          have q117 : (((ua[i]'hits).toNat : Int) == 117) = true := by rw [hct]; rfl
          obtain ⟨d9, hd9⟩ : ∃ l : Bs, l = Lib.decDigits s1.k := ⟨_, rfl⟩
          have hd20 : d9.length ≤ 21 := by have h := dec_length HQ.out.ok.2.2.2.1; rw [hd9]; omega
          obtain ⟨v2, hv2⟩ : ∃ v : ByteArray, v = ⟨d9.toArray⟩ := ⟨_, rfl⟩
          obtain ⟨v3, hv3⟩ : ∃ v : ByteArray, v = ⟨(ln ++ [32] ++ d9).toArray⟩ := ⟨_, rfl⟩
          have a2 : ∀ wx, (Op.stringOp .add v1 v2).run Tryz.prog wx = .ok (.string v3) wx := fun wx => by rw [HV.out.2, hv2, hv3]; exact run_add _ d9 (by simp; omega) wx
          have HL9 : Hid (lnA ((askL f.g).take (i + 1)) (f.w, s) = (ln ++ [32] ++ d9, { s1 with k := 0 }) ∧ (ln ++ [32] ++ d9).length ≤ 10 + 25 * (i + 1) ∧ v3 = ⟨(ln ++ [32] ++ d9).toArray⟩ ∧ v2 = ⟨d9.toArray⟩ ∧ d9 = Lib.decDigits s1.k) := ⟨by rw [HN.out, HQ.out.val, hd9]; simp [lnS], by simp; omega, hv3, hv2, hd9⟩
          clear hd9 hv2 hv3 hct hd20 hlen
          go_wp2_with fail
          refine (rtext1_walk s1.k HQ.out.ok.2.2.2.1 _).mono ?_
          rintro e9 w4 ⟨rfl, hB4⟩
          rw [← HL9.out.2.2.2.2]
          rw [← HL9.out.2.2.2.1]
          have HB4 : Hid (Below wr.heap.size wr w4) := hB4
          clear hB4 s0c s1c s2c s3c s4c y1 y2 y3 y4
          have hst4 := blk_below HQ.out.st HB4.out
          have k9 : w4.cell? ⟨B, 3, none⟩ = some (.int .u64 s1.k) := blk_cell hst4 3
          have y9 := blk_soft hst4 3
          have HW5 : Hid (Lw9 w B f s (i + 1) (ln ++ [32] ++ d9) { s1 with k := 0 } (w4.setCell ⟨B, 3, none⟩ (.int .u64 0))) := ⟨below_set (below_trans HQ.out.bel HB4.out) (by have := HQ.out.b; omega), by rw [set_row hst4]; rfl, HQ.out.b, HL9.out.1, ⟨HQ.out.ok.1, HQ.out.ok.2.1, HQ.out.ok.2.2.1, by simp, HQ.out.ok.2.2.2.2⟩, HL9.out.2.1⟩
          clear hst4
          go_wp2_with fail
          exact ⟨⟨i + 1, ln ++ [32] ++ d9, _, by (congr 1), by omega, by rw [HL9.out.2.2.1], HW5.out⟩, by simp [intOf]; omega⟩
        · have q110 : (((ua[i]'hits).toNat : Int) == 110) = false := by rw [hct]; rfl
          have q107 : (((ua[i]'hits).toNat : Int) == 107) = false := by rw [hct]; rfl
          have q117 : (((ua[i]'hits).toNat : Int) == 117) = false := by rw [hct]; rfl
          have q118 : (((ua[i]'hits).toNat : Int) == 118) = true := by rw [hct]; rfl
          obtain ⟨d9, hd9⟩ : ∃ l : Bs, l = hexRow s1.x 16 := ⟨_, rfl⟩
          have hd20 : d9.length ≤ 21 := by have h := hexRow_length s1.x 16; rw [hd9]; omega
          obtain ⟨v2, hv2⟩ : ∃ v : ByteArray, v = ⟨d9.toArray⟩ := ⟨_, rfl⟩
          obtain ⟨v3, hv3⟩ : ∃ v : ByteArray, v = ⟨(ln ++ [32] ++ d9).toArray⟩ := ⟨_, rfl⟩
          have a2 : ∀ wx, (Op.stringOp .add v1 v2).run Tryz.prog wx = .ok (.string v3) wx := fun wx => by rw [HV.out.2, hv2, hv3]; exact run_add _ d9 (by simp; omega) wx
          have HL9 : Hid (lnA ((askL f.g).take (i + 1)) (f.w, s) = (ln ++ [32] ++ d9, { s1 with x := 0 }) ∧ (ln ++ [32] ++ d9).length ≤ 10 + 25 * (i + 1) ∧ v3 = ⟨(ln ++ [32] ++ d9).toArray⟩ ∧ v2 = ⟨d9.toArray⟩ ∧ d9 = hexRow s1.x 16) := ⟨by rw [HN.out, HQ.out.val, hd9]; simp [lnS], by simp; omega, hv3, hv2, hd9⟩
          clear hd9 hv2 hv3 hct hd20 hlen
          go_wp2_with fail
          refine (rhex_walk s1.x _).mono ?_
          rintro e9 w4 ⟨rfl, hB4⟩
          rw [← HL9.out.2.2.2.2]
          simp only [S]
          rw [← HL9.out.2.2.2.1]
          have HB4 : Hid (Below wr.heap.size wr w4) := hB4 ▸ below_same _
          clear hB4 s0c s1c s2c s3c s4c y1 y2 y3 y4
          have hst4 := blk_below HQ.out.st HB4.out
          have k9 : w4.cell? ⟨B, 4, none⟩ = some (.float .f64 s1.x) := blk_cell hst4 4
          have y9 := blk_soft hst4 4
          have HW5 : Hid (Lw9 w B f s (i + 1) (ln ++ [32] ++ d9) { s1 with x := 0 } (w4.setCell ⟨B, 4, none⟩ (.float .f64 0))) := ⟨below_set (below_trans HQ.out.bel HB4.out) (by have := HQ.out.b; omega), by rw [set_row hst4]; rfl, HQ.out.b, HL9.out.1, ⟨HQ.out.ok.1, HQ.out.ok.2.1, HQ.out.ok.2.2.1, HQ.out.ok.2.2.2.1, by simp⟩, HL9.out.2.1⟩
          clear hst4
          go_wp2_with fail
          exact ⟨⟨i + 1, ln ++ [32] ++ d9, _, by (congr 1), by omega, by rw [HL9.out.2.2.1], HW5.out⟩, by simp [intOf]; omega⟩
      · have hli : ¬ (i : Int) < (m : Int) := by omega
        have HV : Hid (ln = f.w ++ joinB 32 (stArgs f.g s) ∧ noB s1 = bareB f.g s) := by
          have h1 := lnA_form HF.out.1 s
          have h2 := HQ.out.val
          rw [List.take_of_length_le (by have := HAS.out.2.1; omega)] at h2
          rw [h2] at h1
          exact h1
        have HD : Hid (formD s.K = f) := by show formD s.K = f; unfold formD; rw [HF.out.2.1]; rfl
        cases hb : bareB f.g s with
        | true =>
          have HE : Hid (lnE s = ln ∧ stE s = 0) := by
            have e : stE s = 0 := by unfold stE; rw [HF.out.2.1]; dsimp only; rw [if_pos hb]
            exact ⟨by unfold lnE; rw [if_pos e, HD.out]; exact HV.out.1.symm, e⟩
          have hn := HV.out.2
          rw [hb] at hn
          simp only [noB, Bool.and_eq_true, beq_iff_eq] at hn
          have b1 : (s1.D != 0) = false := by rw [hn.1.1.1]; rfl
          have b2 : (s1.N != 0) = false := by rw [hn.1.1.2]; rfl
          have b3 : ((s1.k : Int) != 0) = false := by rw [hn.1.2]; rfl
          have b4 : ((s1.x : Int) != 0) = false := by rw [hn.2]; rfl
          clear hb hn
          go_wp2_with fail
          refine (rbits_walk s1.x _).mono ?_
          rintro e9 w4 ⟨rfl, hw⟩
          subst hw
          go_wp2_with fail
          go_ret2
          rw [HE.out.1, HE.out.2]
          exact ⟨rfl, HQ.out.bel⟩
        | false =>
          have HE : Hid (lnE s = [] ∧ stE s = 1) := by
            have e : stE s = 1 := by unfold stE; rw [HF.out.2.1]; dsimp only; rw [hb]; rfl
            exact ⟨by unfold lnE; rw [e]; rfl, e⟩
          have hn := HV.out.2
          rw [hb] at hn
          clear hb
          by_cases h1 : s1.D = 0
          · have b1 : (s1.D != 0) = false := by rw [h1]; rfl
            by_cases h2 : s1.N = 0
            · have b2 : (s1.N != 0) = false := by rw [h2]; rfl
              by_cases h3 : s1.k = 0
              · have b3 : ((s1.k : Int) != 0) = false := by rw [h3]; rfl
                have h4 : s1.x ≠ 0 := by intro h4; unfold noB at hn; rw [h1, h2, h3, h4] at hn; cases hn
                have b4 : ((s1.x : Int) != 0) = true := by rw [bne_iff_ne]; omega
                clear hn h1 h2 h3 h4
                go_wp2_with fail
                refine (rbits_walk s1.x _).mono ?_
                rintro e9 w4 ⟨rfl, hw⟩
                subst hw
                go_wp2_with fail
                go_ret2
                rw [HE.out.1, HE.out.2]
                exact ⟨rfl, HQ.out.bel⟩
              · have b3 : ((s1.k : Int) != 0) = true := by rw [bne_iff_ne]; omega
                clear hn h1 h2 h3
                go_wp2_with fail
                go_ret2
                rw [HE.out.1, HE.out.2]
                exact ⟨rfl, HQ.out.bel⟩
            · have b2 : (s1.N != 0) = true := by rw [bne_iff_ne]; exact h2
              clear hn h1 h2
              go_wp2_with fail
              go_ret2
              rw [HE.out.1, HE.out.2]
              exact ⟨rfl, HQ.out.bel⟩
          · have b1 : (s1.D != 0) = true := by rw [bne_iff_ne]; exact h1
            clear hn h1
            go_wp2_with fail
            go_ret2
            rw [HE.out.1, HE.out.2]
            exact ⟨rfl, HQ.out.bel⟩
end Go.Proofs.YtkiplcmndpdifaaGreatDoor


