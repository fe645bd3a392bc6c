/- Contract of Cells. -/
import Derived.Test.YtofkhgokfdpdiaaGreatB09
import Derived.Test.YtofkhgokfdpdiaaGreatB48
import Derived.Test.YtofkhgokfdpdiaaGreatB36
import Derived.Test.YtofkhgokfdpdiaaGreatB34
import Derived.Test.YtofkhgokfdpdiaaGreatB39
set_option maxRecDepth 100000
set_option maxHeartbeats 16000000
namespace Go.Proofs.YtofkhgokfdpdiaaGreat
section
open Go.RowKit

def RoR (k : Int) (jobs : List Jb) (w : World) (sp sb : Nat) (i : Nat) (wr : World) : Prop :=
 ∃ A P S m Ls, RW A wr (.pointer (some ⟨sp, 0, none⟩)) (.pointer (some ⟨sb, 0, none⟩)) k P S m Ls (rowB (jobs.take i) : Nat) i (rowF k (jobs.take i)) ∧ (∀ x, A x → w.heap.size ≤ x) ∧ w.heap.size ≤ sp ∧ cntS P S ≤ 12 + 34 * i ∧ S.bl.length = 16 ∧ Below w.heap.size w wr
def RoGot (k : Int) (js : List Jb) (w : World) (e : Ending) (w' : World) : Prop :=
 ∃ sp sb, e = .returned (.tuple #[.pointer (some ⟨sb, 0, none⟩), .pointer (some ⟨sp, 0, none⟩), .int .i64 (rowB js : Nat)]) ∧ RoR k js w sp sb js.length w'
theorem ror_start {k : Int} {w w1 : World} {A : Nat → Prop} {P : Bo} {S : Dk} {sp sb : Nat} (jobs : List Jb) (hr : RS A w1 (.pointer (some ⟨sp, 0, none⟩)) (.pointer (some ⟨sb, 0, none⟩)) k P S zeroM noS) (hA : ∀ x, A x → w.heap.size ≤ x) (hsp : w.heap.size ≤ sp) (hc : cntS P S ≤ 12) (hb : S.bl.length = 16) (hB : Below w.heap.size w w1) : RoR k jobs w sp sb 0 w1 :=
 ⟨A, P, S, zeroM, noS, ⟨hr, fun c hc => absurd hc (in_no c), fun x => hr.gk.lk.res0 (fun c hc => absurd hc (in_no c)) _, .inr rfl, Int.le_refl _, by simp [rowB], by simp [rowB]⟩, hA, hsp, by omega, hb, hB⟩
theorem ror_take {k : Int} {jobs : List Jb} {w wr : World} {sp sb i : Nat} (h : RoR k jobs w sp sb i wr) (hi : i ≤ jobs.length) : RoR k (jobs.take i) w sp sb (jobs.take i).length wr := by
 unfold RoR at h ⊢
 rw [List.length_take, Nat.min_eq_left hi, List.take_take, Nat.min_self]
 exact h
theorem rowed_walk {k : Int} (hk : knownB k = true) {w : World} {jv : Value} {jobs : List Jb} (hj : Jv w jv jobs) :
  Calls Tryz.prog 41 #[.int .i64 k, jv] w (RoGot k (jobs.take 60) w) := by
 have HK : Hid (knownB k = true) := hk
 obtain ⟨jo, jc, rfl, j1, j2, j3⟩ := hj
 obtain ⟨n, hn⟩ : ∃ n, n = jobs.length := ⟨_, rfl⟩
 rw [← hn] at j1 ⊢
 have HN : Hid (n = jobs.length) := hn
 have hni : (n : Int) ≤ 9223372036854775807 := by simp only [maxLen] at j2; omega
 have HJ : Hid (Jl w jo jobs) := j3
 clear hk hn j1 j2 j3
 go_in
 go_wp2_with fail
 refine (fresh_walk HK.out w).mono ?_
 rintro e w1 ⟨A, P, S, sp, sb, rfl, hrs, hA, hsp, hcn, hbl, hB⟩
 have HS : Hid (RoR k jobs w sp sb 0 w1) := ror_start jobs hrs hA hsp hcn hbl hB
 clear hrs hA hsp hcn hbl hB
 go_wp2_with fail
 go_loopw [9, 10] (fun bv iv wr => ∃ i : Nat, iv = .int .i64 i ∧ bv = .int .i64 (rowB (jobs.take i) : Nat) ∧ i ≤ 60 ∧ i ≤ n ∧ RoR k jobs w sp sb i wr) (fun _ iv _ => 60 - (intOf iv).toNat)
 case atStart => exact ⟨0, rfl, rfl, by omega, by omega, HS.out⟩
 case round =>
  obtain ⟨i, rfl, rfl, hi60, hin, hro⟩ := hrel
  have HRO : Hid (RoR k jobs w sp sb i wr) := hro
  obtain ⟨B, hBt⟩ : ∃ B, B = rowB (jobs.take i) := ⟨_, rfl⟩
  rw [← hBt]
  have HBT : Hid (B = rowB (jobs.take i)) := hBt
  have hBle : (B : Int) ≤ 61 := by have := rowB_le (jobs.take i); rw [List.length_take] at this; omega
  clear hro hBt
  by_cases hlt : i < n
  rotate_left
  ·have hlti : ¬ (i : Int) < (n : Int) := by omega
   have HE : Hid (jobs.take 60 = jobs.take i) := by show _ = _; rw [List.take_of_length_le (by rw [← HN.out]; omega), List.take_of_length_le (by rw [← HN.out]; omega)]
   go_wp2_with fail
   refine bodyPost_ret (v := .tuple #[.pointer (some ⟨sb, 0, none⟩), .pointer (some ⟨sp, 0, none⟩), .int .i64 (B : Nat)]) (by simp [results, Tryz.results41, go_sem]) rfl ?_
   rw [HE.out]
   refine ⟨sp, sb, ?_, ror_take HRO.out (by rw [← HN.out]; exact hin)⟩
   rw [← HBT.out]
  by_cases h60 : i < 60
  rotate_left
  ·have hlti : (i : Int) < (n : Int) := by omega
   have h60i : ¬ (i : Int) < 60 := by omega
   have HE : Hid (i = 60) := by show _ = _; omega
   go_wp2_with fail
   refine bodyPost_ret (v := .tuple #[.pointer (some ⟨sb, 0, none⟩), .pointer (some ⟨sp, 0, none⟩), .int .i64 (B : Nat)]) (by simp [results, Tryz.results41, go_sem]) rfl ?_
   rw [← HE.out]
   refine ⟨sp, sb, ?_, ror_take HRO.out (by rw [← HN.out]; exact hin)⟩
   rw [← HBT.out]
  have hlti : (i : Int) < (n : Int) := by omega
  have h60i : (i : Int) < 60 := by omega
  have hlt' : i < jobs.length := by rw [← HN.out]; exact hlt
  obtain ⟨A, P, S, m, Ls, hrw, hA, hsp, hcn, hbl, hB⟩ := HRO.out
  have HRW : Hid (RW A wr (.pointer (some ⟨sp, 0, none⟩)) (.pointer (some ⟨sb, 0, none⟩)) k P S m Ls (B : Nat) i (rowF k (jobs.take i))) := by rw [HBT.out]; exact hrw
  have HA : Hid (∀ x, A x → w.heap.size ≤ x) := hA
  have HSP : Hid (w.heap.size ≤ sp) := hsp
  have HC : Hid (cntS P S ≤ 12 + 34 * i) := hcn
  have HL : Hid (S.bl.length = 16) := hbl
  have HB : Hid (Below w.heap.size w wr) := hB
  obtain ⟨b, off, rv, mv, rfl, c0, c1, c2, c3, hrv, hmv⟩ := HJ.out.below HB.out i hlt'
  obtain ⟨j, hjj⟩ : ∃ j, j = jobs[i] := ⟨_, rfl⟩
  rw [← hjj] at c2 c3 hrv hmv
  have HJJ : Hid (j = jobs[i]) := hjj
  have HRV : Hid (Rv wr rv j.r) := hrv
  have HMV : Hid (Kv wr mv j.m) := hmv
  obtain ⟨ra, rn, rc, rfl⟩ : ∃ x y z, rv = .slice x y z := by obtain ⟨⟨x, z, e, _⟩, _⟩ := hrv; exact ⟨x, _, z, e⟩
  obtain ⟨ma, mn, mc, rfl⟩ := sv_any hmv
  obtain ⟨jf, hjf⟩ : ∃ f, f = j.f := ⟨_, rfl⟩
  obtain ⟨js, hjs⟩ : ∃ s, s = j.s := ⟨_, rfl⟩
  rw [← hjf] at c2
  rw [← hjs] at c3
  have HJF : Hid (jf = j.f) := hjf
  have HJS : Hid (js = j.s) := hjs
  clear hrw hA hsp hcn hbl hB hrv hmv hjj hjf hjs HRO
  go_wp2_with fail
  refine (part_walk HK.out HRV.out HMV.out jf js).mono ?_
  rintro e w2 ⟨tv, kv, rfl, hqv, hqb, hkv, hb2⟩
  have HTA : Hid (Ta k ⟨(B : Nat), (i : Int) + 1, ptK k j.r j.m⟩ (ptT k j.r)) := pt_ta HK.out HRV.out.2 _ _ _
  have HKV : Hid (Kv w2 kv (ptK k j.r j.m)) := own_sv hkv
  have HRW2 : Hid (RW A w2 (.pointer (some ⟨sp, 0, none⟩)) (.pointer (some ⟨sb, 0, none⟩)) k P S m Ls (B : Nat) i (rowF k (jobs.take i))) := HRW.out.below hb2
  have HAL : Hid (∀ x, A x → x < wr.heap.size) := fun x hx => HRW.out.rs.st.lt hx
  have HKA : Hid (∀ x, kv.ownBlock = some x → ¬ A x) := fun x hx hA => by have h1 := (hkv.lt x hx).1; have h2 := HAL.out x hA; omega
  have HQ : Hid (Qv w2 tv (ptT k j.r)) := hqv
  have HQB := hidH hqb
  have HB2 : Hid (Below wr.heap.size wr w2) := hb2
  have HWB2 : Hid (Below w.heap.size w w2) := below_trans HB.out hb2
  obtain ⟨ta, tn, tc, rfl⟩ : ∃ x y z, tv = .slice x y z := by obtain ⟨⟨x, z, e, _⟩, _⟩ := hqv; exact ⟨x, _, z, e⟩
  obtain ⟨ka, kn, kc, rfl⟩ := sv_any HKV.out
  have c2' : w2.cell? ⟨b, off + i * 4 + 2, none⟩ = some (.bool jf) := by rw [hb2.cell (p := ⟨b, off + i * 4 + 2, none⟩) (cell_lt c2)]; exact c2
  have c3' : w2.cell? ⟨b, off + i * 4 + 3, none⟩ = some (.bool js) := by rw [hb2.cell (p := ⟨b, off + i * 4 + 3, none⟩) (cell_lt c3)]; exact c3
  have HBW : Hid (b < w.heap.size) := by obtain ⟨b', off', _, _, e, d0, _⟩ := HJ.out i hlt'; cases e; exact cell_lt d0
  clear hqv hqb hkv hb2 c0 c1 c2 c3
  go_wp2_with fail
  refine (begin_row HRW2.out (by have := HC.out; omega) (by omega) HKV.out (ptK_ok _ _ _) HKA.out (a := (i : Int) + 1) (by omega) (by omega) (ptK_len _ _ _) (ptK_ris _ _ _)).mono ?_
  rintro e w3 ⟨rfl, A3, P3, S3, L3, hrs3, low3, val3, hA3, hc3, hcn3, hbl3⟩
  have HRS3 := hidH hrs3
  have HLO3 : Hid (Low L3) := low3
  have HVA3 := hidH val3
  have HA3 : Hid (∀ x, A3 x → w.heap.size ≤ x) := fun x hx => by
   rcases hA3 x hx with q | q
   ·exact HA.out x q
   ·have := HWB2.out.size; omega
  have HQA : Hid (∀ x, (Value.slice ta tn tc).ownBlock = some x → ¬ A3 x) := fun x hx hA => by
   have h1 := HQB.out x hx
   rcases hA3 x hA with q | q
   ·have := HAL.out x q; omega
   ·omega
  have HC3 : Hid (cntS P3 S3 ≤ 12 + 34 * i + 17 ∧ S3.bl.length = 16) := by have := HC.out; have := HL.out; exact ⟨by omega, by omega⟩
  have HWB3 : Hid (Below w.heap.size w w3) := HWB2.out.trans (hc3.to_below HWB2.out.size HA.out)
  have HQ3 : Hid (Qv w3 (.slice ta tn tc) (ptT k j.r)) := qv_ch HQ.out hc3 (fun _ x hx hA => by have h1 := HQB.out x hx; have := HAL.out x hA; omega)
  have d2 : w3.cell? ⟨b, off + i * 4 + 2, none⟩ = some (.bool jf) := hc3.cell c2' (fun e => by have h1 := HA.out b e; have h2 := HBW.out; omega)
  have d3 : w3.cell? ⟨b, off + i * 4 + 3, none⟩ = some (.bool js) := hc3.cell c3' (fun e => by have h1 := HA.out b e; have h2 := HBW.out; omega)
  clear hrs3 low3 val3 hA3 hc3 hcn3 hbl3 c2' c3' HQ HQB HRW2 HRW HWB2 HB2 HA HAL HKA HC HL
  go_upto_if 52 with fail
  go_cut [58] (fun _ wx => ∃ A4 P4 S4 L4, RS A4 wx (.pointer (some ⟨sp, 0, none⟩)) (.pointer (some ⟨sb, 0, none⟩)) k P4 S4 ⟨(B : Nat), (i : Int) + 1, ptK k j.r j.m⟩ L4 ∧ Low L4 ∧ (∀ x, shRes L4 x ((B : Int) - 1) = rowF k (jobs.take i) x) ∧ (∀ x, shRes L4 x (B : Int) = (if js = true then rowF k (jobs.take i) else addF k (rowF k (jobs.take i)) (ptT k j.r)) x) ∧ (∀ x, A4 x → w.heap.size ≤ x) ∧ cntS P4 S4 ≤ 12 + 34 * i + 34 ∧ S4.bl.length = 16 ∧ Below w.heap.size w wx ∧ wx.cell? ⟨b, off + i * 4 + 2, none⟩ = some (.bool jf))
  case first =>
   cases js
   ·go_wp2_with fail
    refine (apply_row HRS3.out HLO3.out HVA3.out (by have := HC3.out.1; omega) HQ3.out HQA.out (by show (1 : Int) ≤ (B : Nat); have := HBT.out; unfold rowB at this; omega) (by show (1 : Int) ≤ (i : Int) + 1; omega) HTA.out).mono ?_
    rintro e w4 ⟨rfl, A4, P4, S4, L4, q1, q2, q3, q4, _, q5, q6, q7, q8⟩
    have HR : Hid _ := q1
    have d4 : w4.cell? ⟨b, off + i * 4 + 2, none⟩ = some (.bool jf) := q6.cell d2 (fun e => by have h1 := HA3.out b e; have h2 := HBW.out; omega)
    go_wp2_with fail
    go_meet
    refine ⟨A4, P4, S4, L4, q1, q2, q3, q4, fun x hx => ?_, by have := HC3.out.1; omega, by have := HC3.out.2; omega, HWB3.out.trans (q6.to_below HWB3.out.size HA3.out), d4⟩
    rcases q5 x hx with z | z
    ·exact HA3.out x z
    ·have := HWB3.out.size; omega
   ·go_wp2_with fail
    go_meet
    exact ⟨A3, P3, S3, L3, HRS3.out, HLO3.out, fun x => HVA3.out x _ (Int.le_refl _), fun x => HVA3.out x _ (by omega), HA3.out, by have := HC3.out.1; omega, HC3.out.2, HWB3.out, d2⟩
  case rest =>
   obtain ⟨A4, P4, S4, L4, q1, q2, q3, q4, q5, q6, q7, q8, d4⟩ := hcut
   have HT : Hid (jobs.take (i + 1) = jobs.take i ++ [j]) := by rw [HJJ.out]; exact List.take_succ_eq_append_getElem hlt'
   have HR : Hid (∀ b2 : Int, (b2 = (B : Nat) ∧ jf = true) ∨ (b2 = (B : Int) + 1 ∧ jf = false) → ∃ Bn : Nat, b2 = Bn ∧ Bn = rowB (jobs.take (i + 1)) ∧ RoR k jobs w sp sb (i + 1) wc) := by
    show ∀ b2 : Int, (b2 = (B : Nat) ∧ jf = true) ∨ (b2 = (B : Int) + 1 ∧ jf = false) → ∃ Bn : Nat, b2 = Bn ∧ Bn = rowB (jobs.take (i + 1)) ∧ RoR k jobs w sp sb (i + 1) wc
    intro b2 hb2
    have e1 : rowB (jobs.take (i + 1)) = B + (if jf = true then 0 else 1) := by rw [HT.out, rowB_snoc, ← HBT.out, ← HJF.out]
    have e2 : rowF k (jobs.take (i + 1)) = jobF k (rowF k (jobs.take i)) j := by rw [HT.out, rowF_snoc]
    refine ⟨rowB (jobs.take (i + 1)), ?_, rfl, A4, P4, S4, _, L4, ⟨q1, q2, fun x => ?_, ?_, ?_, ?_, ?_⟩, q5, HSP.out, by omega, q7, q8⟩
    ·rw [e1]; rcases hb2 with ⟨h1, h2⟩ | ⟨h1, h2⟩ <;> rw [h1, h2] <;> simp
    ·rw [e1, e2]
     unfold jobF
     rw [← HJF.out, ← HJS.out]
     rcases hb2 with ⟨_, h2⟩ | ⟨_, h2⟩
     ·rw [h2, if_pos rfl, if_pos rfl]; exact q3 x
     ·rw [h2, if_neg (by simp), if_neg (by simp)]
      have := q4 x
      rw [show ((B + 1 : Nat) : Int) - 1 = (B : Int) by omega]
      exact this
    ·show ((B : Nat) : Int) = _ ∨ ((B : Nat) : Int) = _
     rw [e1]
     rcases hb2 with ⟨_, h2⟩ | ⟨_, h2⟩
     ·left; rw [h2]; simp
     ·right; rw [h2]; simp
    ·show (i : Int) + 1 ≤ ((i + 1 : Nat) : Int); omega
    ·rw [e1]; have := HBT.out; unfold rowB at this; omega
    ·have := rowB_le (jobs.take (i + 1)); rw [List.length_take] at this; omega
   clear q1 q2 q3 q4 q5 q6 q7 q8
   cases jf
   ·obtain ⟨Bn, h1, h2, h3⟩ := HR.out ((B : Int) + 1) (.inr ⟨rfl, rfl⟩)
    have H1 : Hid ((B : Int) + 1 = (Bn : Nat)) := h1
    have H2 : Hid (Bn = rowB (jobs.take (i + 1))) := h2
    have H3 : Hid (RoR k jobs w sp sb (i + 1) wc) := h3
    clear h1 h2 h3
    go_wp2_with fail
    go_roundw
    case rel => exact ⟨i + 1, by simp, by rw [H1.out, H2.out], by omega, by omega, H3.out⟩
    case measure => simp [intOf]; omega
   ·obtain ⟨Bn, h1, h2, h3⟩ := HR.out (B : Int) (.inl ⟨rfl, rfl⟩)
    have H1 : Hid ((B : Int) = (Bn : Nat)) := h1
    have H2 : Hid (Bn = rowB (jobs.take (i + 1))) := h2
    have H3 : Hid (RoR k jobs w sp sb (i + 1) wc) := h3
    clear h1 h2 h3
    go_wp2_with fail
    go_roundw
    case rel => exact ⟨i + 1, by simp, by rw [H1.out, H2.out], by omega, by omega, H3.out⟩
    case measure => simp [intOf]; omega
end
section
open Ieee Go.RowKit

def cfC (a b : Cl) : Int := cmpN a.k b.k
theorem ltCl (a b : Cl) : ltOf cfC a b = decide (a.k < b.k) := by
 unfold ltOf cfC cmpN
 by_cases h1 : a.k < b.k
 ·simp [h1]
 ·by_cases h2 : b.k < a.k <;> simp [h1, h2]
theorem swoC : Sort.SWO (ltOf cfC) where
 irrefl x := by rw [ltCl]; simp
 trans x y z h1 h2 := by rw [ltCl] at *; simp at *; omega
 ntrans x y z h1 h2 := by rw [ltCl] at *; simp at *; omega
def Mc (w : World) (g : Nat) (m : List Cl) : Prop := ∀ i j, (h : i < m.length) → j < 6 → w.cell? ⟨g, i * 6 + j, none⟩ = (clF m[i])[j]? ∧ w.frozen? ⟨g, i * 6 + j, none⟩ = false
theorem clF_some (c : Cl) {j : Nat} (hj : j < 6) : (clF c)[j]? = some (clF c)[j]! := by
 have h : j < (clF c).length := by rw [clF_len]; exact hj
 rw [List.getElem?_eq_getElem h, getElem!_pos (clF c) j h]
theorem mc_own {w : World} {base n g cap : Nat} {m : List Cl} (h : w.ownsRow base 134 6 (.slice (some ⟨g, 0, none⟩) n cap) n (flatC m)) (hn : n = m.length) : Mc w g m := by
 intro i j hi hj
 rcases h.2 with ⟨e, _⟩ | ⟨g', cap', cur, hv, hg, hh, hnc, hcm, hcs, htk⟩
 ·cases e
 ·cases hv
  have hlt : i * 6 + j < n * 6 := by omega
  have e1 : w.cell? ⟨g, i * 6 + j, none⟩ = cur[i * 6 + j]? := by rw [cell_of_row w g (i * 6 + j) cur 134 (0, 0) hh]
  refine ⟨?_, by simp [World.frozen?, hh]⟩
  rw [e1, ← flatC_get m i j hi hj, ← htk]
  simp [hlt]
theorem holds_of_mc [Inhabited Cl] {w : World} {g : Nat} {m : List Cl} (h : Mc w g m) : Sort.HoldsK clF 6 w g 0 m.toArray := by
 intro j hj
 rw [Sort.size_flatK] at hj
 have hjl : j < m.length * 6 := by simpa using hj
 rw [Sort.get_flatK _ _ _ _ hj]
 have h3 : j / 6 < m.length := by omega
 obtain ⟨a, b⟩ := h (j / 6) (j % 6) h3 (by omega)
 have e0 : m.toArray[j / 6]! = m[j / 6] := by rw [getElem!_pos m.toArray (j / 6) (by simpa using h3)]; simp
 rw [e0]
 rw [show j / 6 * 6 + j % 6 = j by omega] at a b
 rw [Nat.zero_add]
 refine ⟨?_, b⟩
 rw [a, clF_some _ (by omega)]
 rfl
theorem mc_of_holds [Inhabited Cl] {w : World} {g : Nat} {d : Array Cl} (h : Sort.HoldsK clF 6 w g 0 d) : Mc w g d.toList := by
 intro i j hi hj
 have hi' : i < d.size := by simpa using hi
 have e0 : d[i]! = d.toList[i] := by rw [getElem!_pos d i hi']; simp
 obtain ⟨a, x⟩ := h.cell hi' hj
 rw [e0] at a
 simp only [Nat.zero_add] at a x
 exact ⟨a.trans (clF_some _ hj).symm, x⟩
theorem cclosure_walk (x y : Cl) (W : World) :
  Calls Tryz.prog 188 #[.agg #[.int .u64 x.k, .bool x.p.h, .int .u64 x.p.b, .bool x.c.h, .int .u64 x.c.b, .int .i64 x.n], .agg #[.int .u64 y.k, .bool y.p.h, .int .u64 y.p.b, .bool y.c.h, .int .u64 y.c.b, .int .i64 y.n]] W fun e w' => e = .returned (.int .i64 (cfC x y)) ∧ ∃ q os', w' = Sort.grow (W.drewN q) os' := by
 unfold cfC
 generalize hr : cmpN x.k y.k = r
 have hcon := fun W' => compare_walk x.k y.k W'
 rw [hr] at hcon
 clear hr
 go_in
 go_wp2_with (go_at_call 167; refine (hcon _).mono ?_; rintro e w' ⟨rfl, rfl⟩)
 go_ret
 exact ⟨rfl, 0, _, by rw [Sort.alloc_eq_grow, Sort.alloc_eq_grow, Sort.grow_grow]; rfl⟩
theorem cmpLaysC [Inhabited Cl] (blk off size : Nat) (w : World) : CmpLays Tryz.prog 188 #[] clF 6 cfC blk off size w :=
 fun _ _ _ _ x y => cclosure_walk x y _
theorem grown_sortC [Inhabited Cl] {w : World} {g n : Nat} {os : Array Obj} (d : Array Cl) : w.grownBy (sortWorldK clF 6 w g 0 n d os) (some g) := by
 refine ⟨rfl, rfl, rfl, by simp [sortWorldK, Sort.putRowK], fun k hk hne => ?_⟩
 unfold sortWorldK
 rw [Sort.heap_grow_old _ _ (by simpa [Sort.putRowK] using hk)]
 have : g ≠ k := fun e => hne (by rw [e])
 simp [Sort.putRowK, Sort.putRow, Sort.mapBlock, Sort.ahead, Array.getElem?_modify, this]
def SrtOf (m d : List Cl) : Prop := d.Perm m ∧ d.Pairwise (fun a b => a.k ≤ b.k)
theorem csorted_end [Inhabited Cl] {m : List Cl} {d' : Array Cl} (h1 : Sort.PermIn 0 m.toArray.size m.toArray d') (h2 : Sort.SortedIn (ltOf cfC) 0 m.toArray.size d') : SrtOf m d'.toList := by
 obtain ⟨hs, _, hperm⟩ := h1
 have hsz : d'.size = m.length := by simpa using hs
 constructor
 ·have e1 : (d'.extract 0 m.toArray.size).toList = d'.toList := by
   rw [← hs]; simp
  have e2 : (m.toArray.extract 0 m.toArray.size).toList = m := by simp
  rw [e1, e2] at hperm; exact hperm
 ·rw [List.pairwise_iff_getElem]
  intro i j hi hj hij
  have hi' : i < d'.size := by simpa using hi
  have hj' : j < d'.size := by simpa using hj
  have h := h2 i j (Nat.zero_le _) hij (by rw [← hs]; exact hj')
  rw [ltCl, getElem!_pos d' i hi', getElem!_pos d' j hj'] at h
  simpa using h
theorem csort_walk {g cap : Nat} {m : List Cl} {w : World} (hM : Mc w g m) (hg : g < w.heap.size) (hl : m.length < 4611686018427387904) :
  Calls Tryz.prog 187 #[.slice (some ⟨g, 0, none⟩) m.length cap, .func (.func 188) #[] #[]] w fun e w' => e = .returned (.tuple #[]) ∧ ∃ d, Mc w' g d ∧ SrtOf m d ∧ w.grownBy w' (some g) := by
 have eg : ∀ args w, (callFunc 188 args).run Tryz.prog w = .ok (.enter 188 args) w := enters_of Tryz.func188 (by kernel_rfl) rfl
 haveI : Inhabited Cl := ⟨zeroC⟩
 have hcon := AnyQ.slices_SortFunc lays6c 6 Tryz.isAgg134 Tryz.sizeOf134 clF (fun _ => rfl) (fun x v hv => by simp [clF] at hv; rcases hv with rfl | rfl | rfl | rfl | rfl | rfl <;> rfl) cfC swoC 188 #[] g 0 cap m.toArray w eg (cmpLaysC g 0 _ w) (holds_of_mc hM) hg (by simpa using hl)
 refine hcon.mono ?_
 rintro e w' ⟨rfl, d', n, os, h1, h2, rfl⟩
 exact ⟨rfl, d'.toList, mc_of_holds (holdsK_sortWorldK_c clF 6 w g 0 m.toArray d' n os (holds_of_mc hM) hg (by simpa using h1.1)), csorted_end h1 h2, grown_sortC d'⟩
theorem csort_none (p : Option Addr) (cap : Nat) (w : World) :
  Calls Tryz.prog 187 #[.slice p 0 cap, .func (.func 188) #[] #[]] w fun e w' => e = .returned (.tuple #[]) ∧ w' = w :=
 AnyF.slices_SortFunc_none lays6c p cap _ w
def CsGot (m : List Cl) (w : World) (e : Ending) (w' : World) : Prop :=
 ∃ ao cap d, e = .returned (.slice ao d.length cap) ∧ d.length ≤ cap ∧ cap ≤ maxLen ∧ SrtOf m d ∧ (d ≠ [] → ∃ g, ao = some ⟨g, 0, none⟩ ∧ w.heap.size ≤ g ∧ g < w'.heap.size ∧ Mc w' g d) ∧ (ao = none → cap = 0) ∧ Below w.heap.size w w'
theorem flat_step {Ls : List (List Cl)} {i : Nat} (hi : i < Ls.length) : (Ls.take (i + 1)).flatten = (Ls.take i).flatten ++ pgc Ls i := by
 rw [List.take_succ_eq_append_getElem hi, List.flatten_append, pgc_get hi]; simp
theorem flat_len {Ls : List (List Cl)} (h : ∀ i, i < 6 → (pgc Ls i).length ≤ 16) (h6 : Ls.length = 6) : ∀ i, i ≤ 6 → (Ls.take i).flatten.length ≤ 16 * i := by
 intro i
 induction i with
 | zero => intro _; simp
 | succ i ih =>
  intro hi
  rw [flat_step (by omega), List.length_append]
  have h1 := ih (by omega)
  have h2 := h i (by omega)
  omega
def CsR (w : World) (Ls : List (List Cl)) (lv iv : Value) (wr : World) : Prop :=
 ∃ i : Nat, iv = .int .i64 i ∧ i ≤ 6 ∧ wr.ownsRow w.heap.size 134 6 lv (Ls.take i).flatten.length (flatC (Ls.take i).flatten) ∧ Below w.heap.size w wr
theorem sorted_walkS {w : World} {Q : Nat} {f : Nat → Value} {Ls : List (List Cl)} (h : SH w Q f Ls) (hle : ∀ i, i < 6 → (pgc Ls i).length ≤ 16) :
  Calls Tryz.prog 107 #[.pointer (some ⟨Q, 0, none⟩)] w (CsGot Ls.flatten w) := by
 have HSH : Hid (SH w Q f Ls) := h
 have HLE : Hid (∀ i, i < 6 → (pgc Ls i).length ≤ 16) := hle
 have HLN : Hid (Ls.length = 6) := h.len
 have HQW : Hid (Q < w.heap.size) := h.lt
 have HO0 : Hid ((w.alloc (Obj.cells #[] 134)).ownsRow w.heap.size 134 6 (.slice (some ⟨w.heap.size, 0, none⟩) 0 0) 0 []) := World.ownsRow_made w #[] 0 (Nat.le_refl _) (by simp [maxLen]) rfl
 have HBA : Hid (Below w.heap.size w (w.alloc (Obj.cells #[] 134))) := below_alloc _ _
 clear h hle
 go_in
 go_upto_region 2 with fail
 generalize w.alloc (Obj.cells #[] 134) = wa at HO0 HBA ⊢
 have HR0 : Hid (CsR w Ls (.slice (some ⟨w.heap.size, 0, none⟩) 0 0) (.int .i64 0) wa) := ⟨0, rfl, by omega, by simpa [flatC] using HO0.out, HBA.out⟩
 generalize Value.slice (some ⟨w.heap.size, 0, none⟩) 0 0 = lv0 at HR0 ⊢
 clear HO0 HBA
 go_wp2_with fail
 go_loopw [3, 6] (fun lv iv wr => CsR w Ls lv iv wr) (fun _ iv _ => 6 - (intOf iv).toNat)
 case atStart => exact HR0.out
 case round =>
  obtain ⟨i, rfl, hi6, hown, hB⟩ := hrel
  have HOW := hidH hown
  have HB : Hid (Below w.heap.size w wr) := hB
  clear hown hB HR0
  by_cases hlt : i < 6
  rotate_left
  ·have hlti : ¬ (i : Int) < 6 := by omega
   have hi : i = 6 := by omega
   subst hi
   obtain ⟨m, hm⟩ : ∃ m, m = Ls.flatten := ⟨_, rfl⟩
   have e6 : (Ls.take 6).flatten = m := by rw [hm, List.take_of_length_le (by rw [HLN.out]; exact Nat.le_refl _)]
   rw [e6] at HOW
   have HM : Hid (m = Ls.flatten) := hm
   have HML : Hid (m.length ≤ 96) := by have h := flat_len HLE.out HLN.out 6 (Nat.le_refl _); rw [e6] at h; exact h
   clear hm e6
   by_cases hm0 : m = []
   ·subst hm0
    obtain ⟨ao, cap, hv, hcap, hnone⟩ : ∃ ao cap, u3 = .slice ao 0 cap ∧ cap ≤ maxLen ∧ (ao = none → cap = 0) := by
     rcases HOW.out.2 with ⟨e, _⟩ | ⟨g, cap, cur, hv, hg, hh, hnc, hcm, hcs, htk⟩
     ·exact ⟨none, 0, e, by simp [maxLen], fun _ => rfl⟩
     ·exact ⟨_, cap, hv, hcm, fun e => by cases e⟩
    subst hv
    have HCM : Hid (cap ≤ maxLen) := hcap
    have HNN : Hid (ao = none → cap = 0) := hnone
    clear hcap hnone
    go_wp2_with fail
    refine (csort_none ao cap wr).mono ?_
    rintro e w2 ⟨rfl, hw2⟩
    replace hw2 := hw2.symm
    subst hw2
    go_wp2_with fail
    go_ret
    rw [← HM.out]
    exact ⟨ao, cap, [], rfl, Nat.zero_le _, HCM.out, ⟨List.Perm.refl _, List.Pairwise.nil⟩, fun e => absurd rfl e, HNN.out, HB.out⟩
   ·obtain ⟨g, cap, hv, hg, hgl, hnc, hcm⟩ : ∃ g cap, u3 = .slice (some ⟨g, 0, none⟩) m.length cap ∧ w.heap.size ≤ g ∧ g < wr.heap.size ∧ m.length ≤ cap ∧ cap ≤ maxLen := by
     rcases HOW.out.2 with ⟨_, h0⟩ | ⟨g, cap, cur, hv, hg, hh, hnc, hcm, hcs, htk⟩
     ·exact absurd (List.eq_nil_of_length_eq_zero h0) hm0
     ·exact ⟨g, cap, hv, hg, (Array.getElem?_eq_some_iff.1 hh).1, hnc, hcm⟩
    subst hv
    have HMC : Hid (Mc wr g m) := mc_own HOW.out rfl
    have HG : Hid (w.heap.size ≤ g ∧ g < wr.heap.size ∧ m.length ≤ cap ∧ cap ≤ maxLen) := ⟨hg, hgl, hnc, hcm⟩
    clear hg hgl hnc hcm
    go_wp2_with fail
    refine (csort_walk HMC.out HG.out.2.1 (by have := HML.out; omega)).mono ?_
    rintro e w2 ⟨rfl, d, hmc, hsr, hgr⟩
    have HD : Hid (Mc w2 g d ∧ SrtOf m d) := ⟨hmc, hsr⟩
    have HB2 : Hid (Below w.heap.size w w2) := HB.out.grown hgr HB.out.size (by simp; exact HG.out.1)
    have HSZ : Hid (wr.heap.size ≤ w2.heap.size) := hgr.size
    have hdl : m.length = d.length := hsr.1.length_eq.symm
    rw [hdl] at HG ⊢
    clear hmc hsr hgr hdl
    go_wp2_with fail
    go_ret
    rw [← HM.out]
    exact ⟨_, cap, d, rfl, HG.out.2.2.1, HG.out.2.2.2, HD.out.2, fun _ => ⟨g, rfl, HG.out.1, Nat.lt_of_lt_of_le HG.out.2.1 HSZ.out, HD.out.1⟩, fun e => (by cases e), HB2.out⟩
  ·have hlti : (i : Int) < 6 := by omega
   have HL2 : Hid (i < Ls.length) := by rw [HLN.out]; exact hlt
   have HSR : Hid (SH wr Q f Ls) := HSH.out.below HB.out
   obtain ⟨l, hl⟩ : ∃ l, l = pgc Ls i := ⟨_, rfl⟩
   have HL : Hid (l = pgc Ls i) := hl
   have hcv := HSR.out.cv i hlt
   rw [← hl] at hcv
   obtain ⟨pa, pc, hpv⟩ := hcv.form
   obtain ⟨pn, hpn⟩ : ∃ pn, pn = l.length := ⟨_, rfl⟩
   rw [← hpn] at hpv
   rw [hpv] at hcv
   have HCV : Hid (Cv wr (.slice pa pn pc) l) := hcv
   have m0 := HSR.out.c i hlt
   rw [hpv] at m0
   have HLB : Hid ((Ls.take i).flatten.length + l.length ≤ 112) := by
    have h1 := flat_len HLE.out HLN.out i (by omega)
    have h2 := HLE.out i hlt
    show _ ≤ _
    rw [hl]; omega
   clear hl hcv hpv hpn
   go_upto_region 6 with (at_builtin; refine wpList_append_cv (by rfl) (.tmp 9) (.tmp 14) (by rfl) w.heap.size _ _ _ (by rfl) HOW.out _ l (by rfl) HCV.out (by have := HLB.out; simp only [maxLen]; omega) (by have := HLB.out; omega) HB.out.size ?_; intro v6 w6 hown hgrow)
   have HB6 : Hid (Below w.heap.size w w6) := HB.out.trans (grown_belowC HOW.out hgrow HB.out.size)
   have HO6 : Hid (w6.ownsRow w.heap.size 134 6 v6 (Ls.take (i + 1)).flatten.length (flatC (Ls.take (i + 1)).flatten)) := by show World.ownsRow _ _ _ _ _ _ _; rw [flat_step HL2.out, List.length_append, flatC_append, ← HL.out]; exact hown
   clear hown hgrow m0
   go_wp2_with fail
   go_roundw
   case rel => exact ⟨i + 1, by go_num, hlt, HO6.out, HB6.out⟩
   case measure => simp [intOf]; omega
end
section
open Go.RowKit

section

variable {A : Nat → Prop} {w w' : World} {sv dv : Value} {k : Int} {P : Bo} {S : Dk}

def CeGot (A : Nat → Prop) (w : World) (sv dv : Value) (k : Int) (P : Bo) (S : Dk) (Ls : List (List Cl)) (e : Ending) (w' : World) : Prop :=
 ∃ S', ST A w' sv dv k (getB P S) S' ∧ Rdd 6 S S' ∧ Ch A w w' ∧
  ((shutB P S = true ∧ e = .returned (.tuple #[.slice none 0 0, .int .i64 80])) ∨
   (shutB P S = false ∧ ∃ ao cap d, e = .returned (.tuple #[.slice ao d.length cap, .int .i64 0]) ∧ d.length ≤ cap ∧ cap ≤ maxLen ∧ SrtOf Ls.flatten d ∧ (d ≠ [] → ∃ g, ao = some ⟨g, 0, none⟩ ∧ w.heap.size ≤ g ∧ g < w'.heap.size ∧ Mc w' g d) ∧ (ao = none → cap = 0)))
theorem scells_walk (h : ST A w sv dv k P S) {Ls : List (List Cl)} (hD : shutB P S = false → decP P S 6 = some Ls) (hle : ∀ i, i < 6 → (pgc Ls i).length ≤ 16) (hrd : S.rd < 4611686018427387904) :
  Calls Tryz.prog 49 #[sv] w (CeGot A w sv dv k P S Ls) := by
 have HD : Hid (shutB P S = false → decP P S 6 = some Ls) := hD
 have HLE : Hid (∀ i, i < 6 → (pgc Ls i).length ≤ 16) := hle
 have HRD : Hid (S.rd < 4611686018427387904) := hrd
 have HT0 : Hid (ST A w sv dv k P S) := h
 clear h hD hrd hle
 go_in
 go_wp2_with fail
 refine (cells_walk HT0.out HRD.out).mono ?_
 rintro e w1 ⟨c, f, S1, rfl, hform, hfr, hcase, hst1, hrdd1, hch1⟩
 have HT1 : Hid (ST A w1 sv dv k (getB P S) S1) := hst1
 have HR1 : Hid (Rdd 6 S S1) := hrdd1
 have HC1 : Hid (Ch A w w1) := hch1
 have HCASE : Hid ((c = 80 ∧ shutB P S = true) ∨ (c = 0 ∧ shutB P S = false ∧ Ls.length = 6 ∧ ∀ j, j < 6 → Cv w1 (f j) (pgc Ls j))) := by
  rcases hcase with h | ⟨_, h1, h2⟩ | ⟨h1, h2, L', h3, h4⟩
  ·exact .inl h
  ·rw [HD.out h1] at h2; cases h2
  ·have e := HD.out h2
   rw [e] at h3
   cases h3
   exact .inr ⟨h1, h2, decP_len e, h4⟩
 obtain ⟨a0, n0, p0, e0⟩ := hform 0 (by omega)
 obtain ⟨a1, n1, p1, e1⟩ := hform 1 (by omega)
 obtain ⟨a2, n2, p2, e2⟩ := hform 2 (by omega)
 obtain ⟨a3, n3, p3, e3⟩ := hform 3 (by omega)
 obtain ⟨a4, n4, p4, e4⟩ := hform 4 (by omega)
 obtain ⟨a5, n5, p5, e5⟩ := hform 5 (by omega)
 have HE : Hid (f 0 = .slice a0 n0 p0 ∧ f 1 = .slice a1 n1 p1 ∧ f 2 = .slice a2 n2 p2 ∧ f 3 = .slice a3 n3 p3 ∧ f 4 = .slice a4 n4 p4 ∧ f 5 = .slice a5 n5 p5) := ⟨e0, e1, e2, e3, e4, e5⟩
 rw [e0, e1, e2, e3, e4, e5]
 clear hform hfr hcase hst1 hrdd1 hch1 e0 e1 e2 e3 e4 e5
 go_upto_region 2 with fail
 have HB2 : Hid (Below w1.heap.size w1 (w1.alloc (Obj.cells #[.slice a0 n0 p0, .slice a1 n1 p1, .slice a2 n2 p2, .slice a3 n3 p3, .slice a4 n4 p4, .slice a5 n5 p5] 108))) := below_alloc _ _
 have HSL : Hid (∀ L : List (List Cl), L.length = 6 → (∀ j, j < 6 → Cv w1 (f j) (pgc L j)) → SH (w1.alloc (Obj.cells #[.slice a0 n0 p0, .slice a1 n1 p1, .slice a2 n2 p2, .slice a3 n3 p3, .slice a4 n4 p4, .slice a5 n5 p5] 108)) w1.heap.size f L) := fun L h1 h2 => by
  have h := sh_lit w1 f h1 h2
  obtain ⟨e0, e1, e2, e3, e4, e5⟩ := HE.out
  rw [e0, e1, e2, e3, e4, e5] at h
  exact h
 obtain ⟨T8, hT8⟩ : ∃ T8, T8 = w1.heap.size := ⟨_, rfl⟩
 rw [← hT8] at HSL ⊢
 clear hT8
 generalize w1.alloc (Obj.cells #[.slice a0 n0 p0, .slice a1 n1 p1, .slice a2 n2 p2, .slice a3 n3 p3, .slice a4 n4 p4, .slice a5 n5 p5] 108) = w2 at HB2 HSL ⊢
 have HT2 : Hid (ST A w2 sv dv k (getB P S) S1) := HT1.out.below HB2.out
 have HC2 : Hid (Ch A w w2) := HC1.out.self (Ch.of_below HB2.out)
 rcases HCASE.out with ⟨rfl, h2⟩ | ⟨rfl, h2, h3, h4⟩
 ·have HS : Hid (shutB P S = true) := h2
  clear h2
  go_wp2_with fail
  go_ret2
  exact ⟨S1, HT2.out, HR1.out, HC2.out, .inl ⟨HS.out, rfl⟩⟩
 ·have HS : Hid (shutB P S = false) := h2
  have HSH : Hid (SH w2 T8 f Ls) := HSL.out Ls h3 h4
  clear h2 h3 h4
  go_wp2_with fail
  refine (sorted_walkS HSH.out HLE.out).mono ?_
  rintro e w3 ⟨ao, cap, d, rfl, hdc, hcm, hsr, hmc, hnn, hB3⟩
  have HX : Hid (d.length ≤ cap ∧ cap ≤ maxLen ∧ SrtOf Ls.flatten d ∧ (ao = none → cap = 0)) := ⟨hdc, hcm, hsr, hnn⟩
  have HMC : Hid (d ≠ [] → ∃ g, ao = some ⟨g, 0, none⟩ ∧ w.heap.size ≤ g ∧ g < w3.heap.size ∧ Mc w3 g d) := fun hd => by
   obtain ⟨g, h1, h2, h3, h4⟩ := hmc hd
   exact ⟨g, h1, Nat.le_trans HC2.out.size h2, h3, h4⟩
  have HT3 : Hid (ST A w3 sv dv k (getB P S) S1) := HT2.out.below hB3
  have HC3 : Hid (Ch A w w3) := HC2.out.self (Ch.of_below hB3)
  clear hdc hcm hsr hmc hnn hB3
  obtain ⟨dn, hdn⟩ : ∃ dn, dn = d.length := ⟨_, rfl⟩
  rw [← hdn]
  have HDN : Hid (dn = d.length) := hdn
  clear hdn
  go_wp2_with fail
  go_ret2
  exact ⟨S1, HT3.out, HR1.out, HC3.out, .inr ⟨HS.out, ao, cap, d, by rw [HDN.out]; rfl, HX.out.1, HX.out.2.1, HX.out.2.2.1, HMC.out, HX.out.2.2.2⟩⟩
end
end
end Go.Proofs.YtofkhgokfdpdiaaGreat
