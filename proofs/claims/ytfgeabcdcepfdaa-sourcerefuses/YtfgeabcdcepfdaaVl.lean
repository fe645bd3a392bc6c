/- SourceRefuses, walked. -/
import Derived.Test.YtfgeabcdcepfdaaVk
namespace Go.Proofs.Ytfgeabcdcepfdaa
open Ieee Go.RowKit
attribute [local go_sem] run_store_float

theorem mem_take_succ {K : Nat} {l : List Nat} {j : Nat} (hj : j < l.length) : decide (K ∈ l.take (j + 1)) = (decide (K ∈ l.take j) || decide (l[j] = K)) := by
  have key : K ∈ l.take (j + 1) ↔ (K ∈ l.take j ∨ l[j] = K) := by
    rw [List.take_succ_eq_append_getElem hj, List.mem_append, List.mem_singleton]
    constructor
    · rintro (h | h)
      · exact .inl h
      · exact .inr h.symm
    · rintro (h | h)
      · exact .inl h
      · exact .inr h.symm
  by_cases h1 : K ∈ l.take j
  · rw [decide_eq_true (key.2 (.inl h1)), decide_eq_true h1]; rfl
  · by_cases h2 : l[j] = K
    · rw [decide_eq_true (key.2 (.inr h2)), decide_eq_true h2]; simp
    · rw [decide_eq_false (fun h => by rcases key.1 h with h | h; exact h1 h; exact h2 h), decide_eq_false h1, decide_eq_false h2]; rfl
/-- The last record of a log that was taken. -/
theorem last_cut {w w' : World} {v : Value} {S : Sc} {q n n1 m : Nat} {r : Rcd} (h : w'.ownsRow w.heap.size 34 2 v m (flatR (S.logs q ++ [r]))) (hn : n = (S.logs q).length) (hn1 : n1 = n + 1) (hok : S.ok) (hr : r.ok) :
    ∃ g cap, v = .slice (some ⟨g, 0, none⟩) n1 cap ∧ n1 ≤ cap ∧ cap ≤ maxLen ∧ Rl w' (some ⟨g, n * 2, none⟩) [r] := by
  have hm : m = n1 := by have := h.1; rw [flatR_len] at this; simp at this; omega
  subst hm
  have hrv : ∀ x ∈ S.logs q ++ [r], x.ok := fun x hx => by
    rcases List.mem_append.1 hx with hx | hx
    · exact hok.rok q x hx
    · simp at hx; subst hx; exact hr
  rcases h.2 with ⟨_, h0⟩ | ⟨g, cap, cur, rfl, hb, hg, hnc, hcm, hcs, htk⟩
  · omega
  · refine ⟨g, cap, rfl, hnc, hcm, fun i hi => ?_⟩
    have hi0 : i = 0 := by simpa using hi
    subst hi0
    obtain ⟨⟨ao, c2, e, _, _, _, h4⟩, _⟩ := own_rv h hrv
    obtain ⟨b, off, eb, c0, c1⟩ := h4 n (by simp; omega)
    simp only [Value.slice.injEq] at e
    obtain ⟨e1, _, _⟩ := e
    rw [← e1] at eb
    cases eb
    refine ⟨g, n * 2, rfl, ?_, ?_⟩
    · simpa [hn] using c0
    · simpa [hn] using c1

theorem prod_full {S : Sc} {q : Nat} {r : Rcd} (h : hasS S q) (hl : 256 ≤ (S.logs q).length) : prodS S (q : Int) r = (61, S) := by
  unfold prodS; simp only [Int.toNat_natCast]; rw [if_pos h, if_pos hl]
theorem prod_no {S : Sc} {q : Nat} {r : Rcd} (h : hasS S q) (hl : ¬ 256 ≤ (S.logs q).length) (hk : (runS S.list r).1 ≠ 1) : prodS S (q : Int) r = (0, addS S q r S.keys) := by
  unfold prodS; simp only [Int.toNat_natCast]; rw [if_pos h, if_neg hl, if_neg hk]
theorem prod_old {S : Sc} {q : Nat} {r : Rcd} (hs : S.ok) (h : hasS S q) (hl : ¬ 256 ≤ (S.logs q).length) (hk : (runS S.list r).1 = 1) (hm : (runS S.list r).2.k ∈ S.keys) : prodS S (q : Int) r = (0, addS S q r S.keys) := by
  unfold prodS; simp only [Int.toNat_natCast]; rw [if_pos h, if_neg hl, if_pos hk, if_pos (.inl hm), insK_old hs.kr hm]
theorem prod_new {S : Sc} {q : Nat} {r : Rcd} (h : hasS S q) (hl : ¬ 256 ≤ (S.logs q).length) (hk : (runS S.list r).1 = 1) (hm : S.keys.length < 64) : prodS S (q : Int) r = (0, addS S q r (insK (runS S.list r).2.k S.keys)) := by
  unfold prodS; simp only [Int.toNat_natCast]; rw [if_pos h, if_neg hl, if_pos hk, if_pos (.inr hm)]
theorem prod_keys {S : Sc} {q : Nat} {r : Rcd} (h : hasS S q) (hl : ¬ 256 ≤ (S.logs q).length) (hk : (runS S.list r).1 = 1) (hm : (runS S.list r).2.k ∉ S.keys) (h6 : ¬ S.keys.length < 64) : prodS S (q : Int) r = (62, S) := by
  unfold prodS; simp only [Int.toNat_natCast]; rw [if_pos h, if_neg hl, if_pos hk, if_neg (by rintro (h | h); exact hm h; exact h6 h)]

set_option maxRecDepth 100000 in
theorem refuses_bad {lv iv : Value} {l : List Stp} {w : World} (ho : Ov w lv l) (hc : checkB l = false) :
    Calls Try.prog 3 #[lv, iv] w fun e w' => e = .returned (.bool true) ∧ Below w.heap.size w w' := by
  have HO : Hid (Ov w lv l) := ho
  have HC : Hid (chkI l = 30) := by show _ = _; unfold chkI; rw [hc]; rfl
  clear ho
  go_enter Try.func3, Try.ntmps3
  go_wp2_with fail
  refine (awake_walk _).mono ?_
  rintro e w1 ⟨rfl, hB1⟩
  have HB1 : Hid (Below w.heap.size w w1) := hB1
  clear hB1
  go_wp2_with fail
  refine (new_ops (parts := 2) (by omega) (by omega) (HO.out.below HB1.out) hc).mono ?_
  rintro e w2 ⟨rfl, hB2⟩
  have HB2 : Hid (Below w.heap.size w w2) := below_trans HB1.out hB2
  clear hB2
  go_wp2_with fail
  obtain ⟨⟨ao, cap, hv, g1, g2, g3, g4⟩, g5⟩ := HO.out.below HB2.out
  subst hv
  refine (check_walk (Nat.le_trans g1 g2) g4).mono ?_
  rw [HC.out]
  rintro e w3 ⟨rfl, hB3⟩
  have HB3 : Hid (Below w.heap.size w w3) := below_trans HB2.out hB3
  clear hB3 g1 g2 g3 g4 g5
  go_wp2_with fail
  go_ret
  exact ⟨rfl, HB3.out⟩

/-- Where the loop of SourceRefuses stands. -/
def Rf (w : World) (v : Value) (l : List Stp) (wr : World) : Prop := ∃ D S, Src D wr v S ∧ (∀ b, D b → w.heap.size ≤ b) ∧ S.list = l ∧ S.np = 2 ∧ Below w.heap.size w wr

set_option maxRecDepth 100000 in
set_option maxHeartbeats 8000000 in
theorem refuses_walk {lv : Value} {l : List Stp} {io : Option Addr} {ic : Nat} {items : List It} {w : World} (ho : Ov w lv l) (hi : Il w io items) (hik : ∀ t ∈ items, t.ok) (hil : items.length ≤ maxLen) (hc : checkB l = true) :
    Calls Try.prog 3 #[lv, .slice io items.length ic] w fun e w' => e = .returned (.bool true) ∧ Below w.heap.size w w' := by
  have HO : Hid (Ov w lv l) := ho
  have HI : Hid (Il w io items) := hi
  have HIK : Hid (∀ t ∈ items, t.ok) := hik
  have hli : (items.length : Int) ≤ 9223372036854775807 := by simp only [maxLen] at hil; omega
  clear ho hi hik hil
  go_enter Try.func3, Try.ntmps3
  go_wp2_with fail
  refine (awake_walk _).mono ?_
  rintro e w0 ⟨rfl, hB0⟩
  have HB0 : Hid (Below w.heap.size w w0) := hB0
  clear hB0
  go_wp2_with fail
  refine (newB (n := 2) (l := l) (by omega) (by omega) (HO.out.below HB0.out) hc).mono ?_
  rintro e w1 ⟨v, rfl, hS, hB⟩
  obtain ⟨sb, rfl⟩ := hS.form
  have HR0 : Hid (Rf w (.pointer (some ⟨sb, 0, none⟩)) l w1) := by
    obtain ⟨D, h1, h2⟩ := hS
    exact ⟨D, _, h1, fun b hb => Nat.le_trans HB0.out.size (h2 b hb), rfl, rfl, below_trans HB0.out hB⟩
  clear hS hB
  go_wp2_with fail
  go_loopw [7] (fun iv wr => ∃ i : Nat, i ≤ items.length ∧ i ≤ 4096 ∧ iv = .int .i64 i ∧ Rf w (.pointer (some ⟨sb, 0, none⟩)) l wr) (fun iv _ => 4096 - (intOf iv).toNat)
  case atStart => exact ⟨0, Nat.zero_le _, by omega, rfl, HR0.out⟩
  case round =>
    clear HR0
    obtain ⟨i, h1, h2, rfl, hR⟩ := hrel
    obtain ⟨wo, hwo⟩ : ∃ wo, wo = wr := ⟨_, rfl⟩
    subst hwo
    have HR : Hid (Rf w (.pointer (some ⟨sb, 0, none⟩)) l wo) := hR
    clear hR
    by_cases hlt : i < items.length ∧ i < 4096
    · obtain ⟨hlt, h46⟩ := hlt
      obtain ⟨D, S, hSr, hDB, hSl, hSn, hB⟩ := HR.out
      have HS : Hid (Src D wo (.pointer (some ⟨sb, 0, none⟩)) S) := hSr
      have HDB : Hid (∀ b, D b → w.heap.size ≤ b) := hDB
      have HSL : Hid (S.list = l) := hSl
      have HSN : Hid (S.np = 2) := hSn
      have HB : Hid (Below w.heap.size w wo) := hB
      have HK : Hid S.ok := hSr.good
      clear hSr hDB hSl hSn hB HR
      obtain ⟨b, off, rfl, c0, c1, c2⟩ := HI.out.below HB.out (Nat.le_refl _) i hlt
      obtain ⟨t, ht⟩ : ∃ t, t = items[i] := ⟨_, rfl⟩
      rw [← ht] at c0 c1 c2
      have HTK : Hid t.ok := by rw [ht]; exact HIK.out _ (List.getElem_mem hlt)
      obtain ⟨tp, tk, tx⟩ := t
      have rm := par_rem tp
      have rm' := par_rem' tp
      have hq2 := parN_lt tp
      generalize parN tp = q at rm rm' hq2
      clear ht
      simp only at c0 c1 c2
      have hlti : (i : Int) < (items.length : Int) := by omega
      have h46i : (i : Int) < 4096 := by omega
      have hwq : IntKind.i64.wrap (q : Int) = (q : Int) := wrapU (by omega) (by omega)
      have HQ : Hid (hasS S q) := by show hasS S q; unfold hasS; rw [HSN.out]; omega
      have HLN : Hid (lenS S q = (S.logs q).length) := by show _ = _; unfold lenS; rw [if_pos HQ.out]; rfl
      obtain ⟨n, hn⟩ : ∃ n, n = (S.logs q).length := ⟨_, rfl⟩
      have HN : Hid (n = (S.logs q).length) := hn
      have hn256 : n ≤ 256 := by rw [hn]; exact HK.out.len q
      obtain ⟨R, hRr⟩ : ∃ R, R = runS l ⟨tk, tx⟩ := ⟨_, rfl⟩
      have HRR : Hid (R = runS l ⟨tk, tx⟩) := hRr
      clear hn hRr
      go_wp2_with fail
      refine (len_walk (HS.out.below (below_alloc _ _)) q).mono ?_
      rw [HLN.out, ← HN.out]
      rintro e w9 ⟨rfl, h9⟩
      replace h9 := h9.symm
      subst h9
      generalize hwA : wo.alloc (Obj.cells #[.int .u64 tk, .float .f64 tx] 34) = wA
      have HBA : Hid (Below wo.heap.size wo wA) := by show Below _ _ _; rw [← hwA]; exact below_alloc _ _
      have r0 : wA.cell? ⟨wo.heap.size, 0, none⟩ = some (.int .u64 tk) := by rw [← hwA]; simp [go_sem]
      have r1 : wA.cell? ⟨wo.heap.size, 1, none⟩ = some (.float .f64 tx) := by rw [← hwA]; simp [go_sem]
      have HSA : Hid (Src D wA (.pointer (some ⟨sb, 0, none⟩)) S) := HS.out.below HBA.out
      have HNR : Hid (¬ D wo.heap.size) := fun h => by have := HS.out.lt h; omega
      clear hwA c0 c1 c2
      go_wp2_with fail
      refine (keys_walk HSA.out).mono ?_
      rintro e wB ⟨kv, rfl, hk, hBB⟩
      obtain ⟨ko, kc, hkv, hkl⟩ := own_kl hk
      subst hkv
      obtain ⟨m, hm⟩ : ∃ m, m = S.keys.length := ⟨_, rfl⟩
      rw [← hm]
      have HM : Hid (m = S.keys.length) := hm
      have hm64 : m ≤ 64 := by rw [hm]; exact HK.out.kl
      have HKL : Hid (Kl wB ko S.keys) := hkl
      have HBB : Hid (Below wo.heap.size wo wB) := below_trans HBA.out hBB
      have HRB : Hid (wB.cell? ⟨wo.heap.size, 0, none⟩ = some (.int .u64 tk) ∧ wB.cell? ⟨wo.heap.size, 1, none⟩ = some (.float .f64 tx)) := ⟨by rw [hBB.cell (p := ⟨wo.heap.size, 0, none⟩) (cell_lt r0)]; exact r0, by rw [hBB.cell (p := ⟨wo.heap.size, 1, none⟩) (cell_lt r1)]; exact r1⟩
      obtain ⟨s0, s1⟩ := HRB.out
      clear hk hkl hBB hm r0 r1
      go_wp2_with fail
      refine (key_walk ⟨tk, tx⟩ HTK.out.2 (HO.out.below (below_trans HB.out HBB.out))).mono ?_
      rw [← HRR.out]
      rintro e wC ⟨rfl, hBC⟩
      have HBC : Hid (Below wo.heap.size wo wC) := below_trans HBB.out hBC
      have HKC : Hid (Kl wC ko S.keys) := HKL.out.below hBC
      have HRC : Hid (wC.cell? ⟨wo.heap.size, 0, none⟩ = some (.int .u64 tk) ∧ wC.cell? ⟨wo.heap.size, 1, none⟩ = some (.float .f64 tx)) := ⟨by rw [hBC.cell (p := ⟨wo.heap.size, 0, none⟩) (cell_lt s0)]; exact s0, by rw [hBC.cell (p := ⟨wo.heap.size, 1, none⟩) (cell_lt s1)]; exact s1⟩
      clear hBC s0 s1 HRB HKL HSA
      obtain ⟨kp, hkp⟩ : ∃ kp, kp = (R.1 == 1) := ⟨_, rfl⟩
      rw [← hkp]
      have HKP : Hid (kp = (R.1 == 1)) := hkp
      clear hkp
      obtain ⟨K, hKK⟩ : ∃ K, K = R.2.k := ⟨_, rfl⟩
      rw [← hKK]
      have HKK : Hid (K = R.2.k) := hKK
      clear hKK
      go_wp2_with fail
      go_loopw [14, 15] (fun nv kv w2 => ∃ j : Nat, j ≤ m ∧ kv = .int .i64 j ∧ nv = .bool (decide (K ∈ S.keys.take j)) ∧ w2 = wC) (fun _ kv _ => m - (intOf kv).toNat)
      case atStart => exact ⟨0, Nat.zero_le _, rfl, by simp, rfl⟩
      case round =>
        obtain ⟨j, hj, rfl, rfl, hw2⟩ := hrel
        subst hw2
        by_cases hjm : j < m
        · have hjk : j < S.keys.length := by rw [← HM.out]; exact hjm
          obtain ⟨b2, off2, rfl, d0⟩ := HKC.out j hjk
          obtain ⟨x, hx⟩ : ∃ x, x = S.keys[j] := ⟨_, rfl⟩
          rw [← hx] at d0
          have HMT : Hid (decide (K ∈ S.keys.take (j + 1)) = (decide (K ∈ S.keys.take j) || decide (x = K))) := by show _ = _; rw [mem_take_succ hjk, hx]
          clear hx
          cases hkn : decide (K ∈ S.keys.take j)
          · cases hxk : decide (x = K)
            · have hxb : ((x : Int) == (K : Int)) = false := by have := of_decide_eq_false hxk; simp; omega
              have HV : Hid (decide (K ∈ S.keys.take (j + 1)) = false) := by show _ = _; rw [HMT.out, hkn, hxk]; rfl
              clear hkn hxk
              go_wp2_with fail
              go_roundw
              case rel => exact ⟨j + 1, by omega, by simp, by rw [HV.out], trivial⟩
              case measure => simp [intOf]; omega
            · have hxb : ((x : Int) == (K : Int)) = true := by have := of_decide_eq_true hxk; simp; omega
              have HV : Hid (decide (K ∈ S.keys.take (j + 1)) = true) := by show _ = _; rw [HMT.out, hkn, hxk]; rfl
              clear hkn hxk
              go_wp2_with fail
              go_roundw
              case rel => exact ⟨j + 1, by omega, by simp, by rw [HV.out], trivial⟩
              case measure => simp [intOf]; omega
          · have HV : Hid (decide (K ∈ S.keys.take (j + 1)) = true) := by show _ = _; rw [HMT.out, hkn]; rfl
            clear hkn
            go_wp2_with fail
            go_roundw
            case rel => exact ⟨j + 1, by omega, by simp, by rw [HV.out], trivial⟩
            case measure => simp [intOf]; omega
        · obtain rfl : m = j := by omega
          obtain ⟨kn, hkn⟩ : ∃ kn, kn = decide (K ∈ S.keys.take m) := ⟨_, rfl⟩
          rw [← hkn]
          have HKN : Hid (kn = decide (K ∈ S.keys)) := by show _ = _; rw [hkn, HM.out, List.take_length]
          clear hkn
          have HSW : Hid (Src D wr (.pointer (some ⟨sb, 0, none⟩)) S) := HS.out.below HBC.out
          have HBW : Hid (Below w.heap.size w wr) := below_trans HB.out HBC.out
          obtain ⟨n1, hn1⟩ : ∃ n1, n1 = n + 1 := ⟨_, rfl⟩
          have rn1 : (n : Int) + 1 = (n1 : Int) := by omega
          have HN1 : Hid (n1 = n + 1) := hn1
          clear hn1
          by_cases hfull : n = 256
          · have HPR : Hid (prodS S q ⟨tk, tx⟩ = (61, S)) := prod_full HQ.out (by rw [← HN.out]; omega)
            have hfb : ((n : Int) == 256) = true := by simp [hfull]
            have HSC : Hid (Src D wr (.pointer (some ⟨sb, 0, none⟩)) S) := HSW.out
            obtain ⟨s0, s1⟩ := HRC.out
            go_wp2_with fail
            refine (produce_walk (r := ⟨tk, tx⟩) HSC.out q HTK.out.2).mono ?_
            rintro e wD ⟨he, _, hq9⟩
            rw [HPR.out] at he hq9
            subst he
            have hBD := hq9 (by simp)
            have HSD : Hid (Src D wD (.pointer (some ⟨sb, 0, none⟩)) S) := HSC.out.below hBD
            have HKD : Hid (Kl wD ko S.keys) := HKC.out.below hBD
            have HBD : Hid (Below w.heap.size w wD) := below_trans HBW.out hBD
            clear hBD hq9 s0 s1
            go_wp2_with fail
            refine (keys_walk HSD.out).mono ?_
            rintro e wE ⟨kv2, rfl, hk2, hBE⟩
            obtain ⟨ko2, kc2, hkv2, hkl2⟩ := own_kl hk2
            subst hkv2
            rw [← HM.out]
            have HSE : Hid (Src D wE (.pointer (some ⟨sb, 0, none⟩)) S) := HSD.out.below hBE
            have HKE : Hid (Kl wE ko S.keys ∧ Kl wE ko2 S.keys) := ⟨HKD.out.below hBE, hkl2⟩
            have HBE : Hid (Below w.heap.size w wE) := below_trans HBD.out hBE
            clear hk2 hkl2 hBE
            go_wp2_with (go_at_call 10; refine (len_walk HSE.out q).mono ?_; rw [HLN.out, ← HN.out]; rintro e w9 ⟨rfl, h9⟩; have h9 := h9.symm; subst h9)
            have hcall := kkeys_walk (ca := kc) (cb := kc2) (l := S.keys) (by have := HK.out.kl; omega) HKE.out.1 HKE.out.2
            rw [← HM.out] at hcall
            refine Calls.mono hcall ?_
            clear hcall
            rintro e wF ⟨rfl, hBF⟩
            have HR' : Hid (Rf w (.pointer (some ⟨sb, 0, none⟩)) l wF) := ⟨D, S, HSE.out.below hBF, HDB.out, HSL.out, HSN.out, below_trans HBE.out hBF⟩
            clear hBF
            go_wp2_with fail
            go_roundw
            case rel => exact ⟨i + 1, hlt, by omega, by simp, HR'.out⟩
            case measure => simp [intOf]; omega
          · have hfb : ((n : Int) == 256) = false := by simp; omega
            have hfi : ¬ ((n : Int) = 256) := by omega
            have hn255 : n1 ≤ 256 := by have := HN1.out; omega
            have HNF : Hid (¬ 256 ≤ (S.logs q).length) := by show ¬ _; rw [← HN.out]; omega
            cases kp
            · have HPR : Hid (prodS S q ⟨tk, tx⟩ = (0, addS S q ⟨tk, tx⟩ S.keys)) := prod_no HQ.out HNF.out (by rw [HSL.out, ← HRR.out]; have := HKP.out; simpa using this.symm)
              have HKY : Hid (S.keys.length = m) := HM.out.symm
              have hmm : ((m : Int) == (m : Int)) = true := by simp
              cases kn
              · have HSC : Hid (Src D wr (.pointer (some ⟨sb, 0, none⟩)) S) := HSW.out
                obtain ⟨s0, s1⟩ := HRC.out
                go_wp2_with fail
                refine (produce_walk (r := ⟨tk, tx⟩) HSC.out q HTK.out.2).mono ?_
                rintro e wD ⟨he, ⟨D', hS', hCh, hD'⟩, _⟩
                rw [HPR.out] at he hS'
                subst he
                obtain ⟨S2, hS2⟩ : ∃ S2, S2 = addS S q ⟨tk, tx⟩ (S.keys) := ⟨_, rfl⟩
                rw [← hS2] at hS'
                have HSD : Hid (Src D' wD (.pointer (some ⟨sb, 0, none⟩)) S2) := hS'
                have HBD : Hid (Below w.heap.size w wD) := HBW.out.trans (hCh.to_below HBW.out.size HDB.out)
                have HDD : Hid (∀ b, D' b → w.heap.size ≤ b) := fun b hb => by rcases hD' b hb with h | h; exact HDB.out b h; exact Nat.le_trans HBW.out.size h
                have HRD : Hid (wD.cell? ⟨wo.heap.size, 0, none⟩ = some (.int .u64 tk) ∧ wD.cell? ⟨wo.heap.size, 1, none⟩ = some (.float .f64 tx)) := by
                  have hb : wD.heap[wo.heap.size]? = wr.heap[wo.heap.size]? := hCh.block _ (cell_lt s0) HNR.out
                  exact ⟨by rw [World.cell?_of_block (w := wr) (a := ⟨wo.heap.size, 0, none⟩) hb]; exact s0, by rw [World.cell?_of_block (w := wr) (a := ⟨wo.heap.size, 1, none⟩) hb]; exact s1⟩
                have HLG : Hid (S2.logs q = S.logs q ++ [⟨tk, tx⟩]) := by show _ = _; rw [hS2]; exact upd_same _ _ _
                have HKS2 : Hid (S2.keys.length = m) := by show _ = _; rw [hS2]; exact HKY.out
                have HQ2 : Hid (hasS S2 q) := by show hasS S2 q; rw [hS2]; exact HQ.out
                have HSL2 : Hid (S2.list = l ∧ S2.np = 2) := by show _ ∧ _; rw [hS2]; exact ⟨HSL.out, HSN.out⟩
                have HLN2 : Hid (lenS S2 q = n1) := by show _ = _; unfold lenS; rw [if_pos HQ2.out]; show (S2.logs q).length = n1; rw [HLG.out, List.length_append, ← HN.out, HN1.out]; rfl
                have HLO2 : Hid (logS S2 q = S.logs q ++ [⟨tk, tx⟩]) := by show _ = _; unfold logS; rw [if_pos HQ2.out]; exact HLG.out
                clear hS' hCh hD' hS2 s0 s1
                go_wp2_with fail
                refine (keys_walk HSD.out).mono ?_
                rintro e wE ⟨kv2, rfl, hk2, hBE⟩
                obtain ⟨ko2, kc2, hkv2, hkl2⟩ := own_kl hk2
                subst hkv2
                rw [HKS2.out]
                have HSE : Hid (Src D' wE (.pointer (some ⟨sb, 0, none⟩)) S2) := HSD.out.below hBE
                have HBE : Hid (Below w.heap.size w wE) := below_trans HBD.out hBE
                have HRE : Hid (wE.cell? ⟨wo.heap.size, 0, none⟩ = some (.int .u64 tk) ∧ wE.cell? ⟨wo.heap.size, 1, none⟩ = some (.float .f64 tx)) := ⟨by rw [hBE.cell (p := ⟨wo.heap.size, 0, none⟩) (cell_lt HRD.out.1)]; exact HRD.out.1, by rw [hBE.cell (p := ⟨wo.heap.size, 1, none⟩) (cell_lt HRD.out.2)]; exact HRD.out.2⟩
                clear hk2 hkl2 hBE
                go_wp2_with (go_at_call 10; refine (len_walk HSE.out q).mono ?_; rw [HLN2.out]; rintro e w9 ⟨rfl, h9⟩; have h9 := h9.symm; subst h9)
                refine (log_walk HSE.out q).mono ?_
                rw [HLO2.out]
                rintro e wF ⟨lg, rfl, hlg, hBF⟩
                obtain ⟨g, cap, hlv, hnc, hcm, HCUT⟩ := last_cut hlg HN.out HN1.out HK.out HTK.out.2
                subst hlv
                have HSF : Hid (Src D' wF (.pointer (some ⟨sb, 0, none⟩)) S2) := HSE.out.below hBF
                have HBF : Hid (Below w.heap.size w wF) := below_trans HBE.out hBF
                have HRF : Hid (wF.cell? ⟨wo.heap.size, 0, none⟩ = some (.int .u64 tk) ∧ wF.cell? ⟨wo.heap.size, 1, none⟩ = some (.float .f64 tx)) := ⟨by rw [hBF.cell (p := ⟨wo.heap.size, 0, none⟩) (cell_lt HRE.out.1)]; exact HRE.out.1, by rw [hBF.cell (p := ⟨wo.heap.size, 1, none⟩) (cell_lt HRE.out.2)]; exact HRE.out.2⟩
                obtain ⟨f0, f1⟩ := HRF.out
                have f0' : ∀ o, (wF.alloc o).cell? ⟨wo.heap.size, 0, none⟩ = some (.int .u64 tk) := fun o => by rw [(below_alloc wF o).cell (p := ⟨wo.heap.size, 0, none⟩) (cell_lt f0)]; exact f0
                have f1' : ∀ o, (wF.alloc o).cell? ⟨wo.heap.size, 1, none⟩ = some (.float .f64 tx) := fun o => by rw [(below_alloc wF o).cell (p := ⟨wo.heap.size, 1, none⟩) (cell_lt f1)]; exact f1
                have hcn : ¬ cap = n := by have := HN1.out; omega
                have hsub : n1 - n = 1 := by have := HN1.out; omega
                have hnn1 : n ≤ n1 := by have := HN1.out; omega
                clear hlg hBF
                go_wp2_with fail
                go_region_with ((go_at_call 16; refine (lrecs_walk (l := [⟨tk, tx⟩]) (by simp) (HCUT.below (below_alloc_drew1 _ _)) (show Rl (wF.alloc (Obj.cells #[.int .u64 tk, .float .f64 tx] 34)) _ _ from rl_one wF _ rfl ⟨tk, tx⟩ _)).mono ?_; rintro e wG ⟨rfl, hBG⟩))
                all_goals go_wp2_with fail
                all_goals go_roundw
                all_goals first
                  | exact ⟨i + 1, hlt, by omega, by simp, ⟨D', S2, HSF.out.below (below_trans (below_alloc_drew1 _ _) hBG), HDD.out, HSL2.out.1, HSL2.out.2, below_trans (below_trans HBF.out (below_alloc_drew1 _ _)) hBG⟩⟩
                  | (simp [intOf]; omega)
              · have HSC : Hid (Src D wr (.pointer (some ⟨sb, 0, none⟩)) S) := HSW.out
                obtain ⟨s0, s1⟩ := HRC.out
                go_wp2_with fail
                refine (produce_walk (r := ⟨tk, tx⟩) HSC.out q HTK.out.2).mono ?_
                rintro e wD ⟨he, ⟨D', hS', hCh, hD'⟩, _⟩
                rw [HPR.out] at he hS'
                subst he
                obtain ⟨S2, hS2⟩ : ∃ S2, S2 = addS S q ⟨tk, tx⟩ (S.keys) := ⟨_, rfl⟩
                rw [← hS2] at hS'
                have HSD : Hid (Src D' wD (.pointer (some ⟨sb, 0, none⟩)) S2) := hS'
                have HBD : Hid (Below w.heap.size w wD) := HBW.out.trans (hCh.to_below HBW.out.size HDB.out)
                have HDD : Hid (∀ b, D' b → w.heap.size ≤ b) := fun b hb => by rcases hD' b hb with h | h; exact HDB.out b h; exact Nat.le_trans HBW.out.size h
                have HRD : Hid (wD.cell? ⟨wo.heap.size, 0, none⟩ = some (.int .u64 tk) ∧ wD.cell? ⟨wo.heap.size, 1, none⟩ = some (.float .f64 tx)) := by
                  have hb : wD.heap[wo.heap.size]? = wr.heap[wo.heap.size]? := hCh.block _ (cell_lt s0) HNR.out
                  exact ⟨by rw [World.cell?_of_block (w := wr) (a := ⟨wo.heap.size, 0, none⟩) hb]; exact s0, by rw [World.cell?_of_block (w := wr) (a := ⟨wo.heap.size, 1, none⟩) hb]; exact s1⟩
                have HLG : Hid (S2.logs q = S.logs q ++ [⟨tk, tx⟩]) := by show _ = _; rw [hS2]; exact upd_same _ _ _
                have HKS2 : Hid (S2.keys.length = m) := by show _ = _; rw [hS2]; exact HKY.out
                have HQ2 : Hid (hasS S2 q) := by show hasS S2 q; rw [hS2]; exact HQ.out
                have HSL2 : Hid (S2.list = l ∧ S2.np = 2) := by show _ ∧ _; rw [hS2]; exact ⟨HSL.out, HSN.out⟩
                have HLN2 : Hid (lenS S2 q = n1) := by show _ = _; unfold lenS; rw [if_pos HQ2.out]; show (S2.logs q).length = n1; rw [HLG.out, List.length_append, ← HN.out, HN1.out]; rfl
                have HLO2 : Hid (logS S2 q = S.logs q ++ [⟨tk, tx⟩]) := by show _ = _; unfold logS; rw [if_pos HQ2.out]; exact HLG.out
                clear hS' hCh hD' hS2 s0 s1
                go_wp2_with fail
                refine (keys_walk HSD.out).mono ?_
                rintro e wE ⟨kv2, rfl, hk2, hBE⟩
                obtain ⟨ko2, kc2, hkv2, hkl2⟩ := own_kl hk2
                subst hkv2
                rw [HKS2.out]
                have HSE : Hid (Src D' wE (.pointer (some ⟨sb, 0, none⟩)) S2) := HSD.out.below hBE
                have HBE : Hid (Below w.heap.size w wE) := below_trans HBD.out hBE
                have HRE : Hid (wE.cell? ⟨wo.heap.size, 0, none⟩ = some (.int .u64 tk) ∧ wE.cell? ⟨wo.heap.size, 1, none⟩ = some (.float .f64 tx)) := ⟨by rw [hBE.cell (p := ⟨wo.heap.size, 0, none⟩) (cell_lt HRD.out.1)]; exact HRD.out.1, by rw [hBE.cell (p := ⟨wo.heap.size, 1, none⟩) (cell_lt HRD.out.2)]; exact HRD.out.2⟩
                clear hk2 hkl2 hBE
                go_wp2_with (go_at_call 10; refine (len_walk HSE.out q).mono ?_; rw [HLN2.out]; rintro e w9 ⟨rfl, h9⟩; have h9 := h9.symm; subst h9)
                refine (log_walk HSE.out q).mono ?_
                rw [HLO2.out]
                rintro e wF ⟨lg, rfl, hlg, hBF⟩
                obtain ⟨g, cap, hlv, hnc, hcm, HCUT⟩ := last_cut hlg HN.out HN1.out HK.out HTK.out.2
                subst hlv
                have HSF : Hid (Src D' wF (.pointer (some ⟨sb, 0, none⟩)) S2) := HSE.out.below hBF
                have HBF : Hid (Below w.heap.size w wF) := below_trans HBE.out hBF
                have HRF : Hid (wF.cell? ⟨wo.heap.size, 0, none⟩ = some (.int .u64 tk) ∧ wF.cell? ⟨wo.heap.size, 1, none⟩ = some (.float .f64 tx)) := ⟨by rw [hBF.cell (p := ⟨wo.heap.size, 0, none⟩) (cell_lt HRE.out.1)]; exact HRE.out.1, by rw [hBF.cell (p := ⟨wo.heap.size, 1, none⟩) (cell_lt HRE.out.2)]; exact HRE.out.2⟩
                obtain ⟨f0, f1⟩ := HRF.out
                have f0' : ∀ o, (wF.alloc o).cell? ⟨wo.heap.size, 0, none⟩ = some (.int .u64 tk) := fun o => by rw [(below_alloc wF o).cell (p := ⟨wo.heap.size, 0, none⟩) (cell_lt f0)]; exact f0
                have f1' : ∀ o, (wF.alloc o).cell? ⟨wo.heap.size, 1, none⟩ = some (.float .f64 tx) := fun o => by rw [(below_alloc wF o).cell (p := ⟨wo.heap.size, 1, none⟩) (cell_lt f1)]; exact f1
                have hcn : ¬ cap = n := by have := HN1.out; omega
                have hsub : n1 - n = 1 := by have := HN1.out; omega
                have hnn1 : n ≤ n1 := by have := HN1.out; omega
                clear hlg hBF
                go_wp2_with fail
                go_region_with ((go_at_call 16; refine (lrecs_walk (l := [⟨tk, tx⟩]) (by simp) (HCUT.below (below_alloc_drew1 _ _)) (show Rl (wF.alloc (Obj.cells #[.int .u64 tk, .float .f64 tx] 34)) _ _ from rl_one wF _ rfl ⟨tk, tx⟩ _)).mono ?_; rintro e wG ⟨rfl, hBG⟩))
                all_goals go_wp2_with fail
                all_goals go_roundw
                all_goals first
                  | exact ⟨i + 1, hlt, by omega, by simp, ⟨D', S2, HSF.out.below (below_trans (below_alloc_drew1 _ _) hBG), HDD.out, HSL2.out.1, HSL2.out.2, below_trans (below_trans HBF.out (below_alloc_drew1 _ _)) hBG⟩⟩
                  | (simp [intOf]; omega)
            · have HKE1 : Hid (R.1 = 1) := by show R.1 = 1; have := HKP.out; simpa using this.symm
              cases kn
              · have HNI : Hid (¬ K ∈ S.keys) := by show ¬ K ∈ S.keys; have := HKN.out; exact of_decide_eq_false this.symm
                by_cases hm4 : m = 64
                · have HPR : Hid (prodS S q ⟨tk, tx⟩ = (62, S)) := prod_keys HQ.out HNF.out (by rw [HSL.out, ← HRR.out]; exact HKE1.out) (by rw [HSL.out, ← HRR.out, ← HKK.out]; exact HNI.out) (by rw [← HM.out]; omega)
                  have hmb : ((m : Int) == 64) = true := by simp [hm4]
                  clear hm4
                  have HSC : Hid (Src D wr (.pointer (some ⟨sb, 0, none⟩)) S) := HSW.out
                  obtain ⟨s0, s1⟩ := HRC.out
                  go_wp2_with fail
                  refine (produce_walk (r := ⟨tk, tx⟩) HSC.out q HTK.out.2).mono ?_
                  rintro e wD ⟨he, _, hq9⟩
                  rw [HPR.out] at he hq9
                  subst he
                  have hBD := hq9 (by simp)
                  have HSD : Hid (Src D wD (.pointer (some ⟨sb, 0, none⟩)) S) := HSC.out.below hBD
                  have HKD : Hid (Kl wD ko S.keys) := HKC.out.below hBD
                  have HBD : Hid (Below w.heap.size w wD) := below_trans HBW.out hBD
                  clear hBD hq9 s0 s1
                  go_wp2_with fail
                  refine (keys_walk HSD.out).mono ?_
                  rintro e wE ⟨kv2, rfl, hk2, hBE⟩
                  obtain ⟨ko2, kc2, hkv2, hkl2⟩ := own_kl hk2
                  subst hkv2
                  rw [← HM.out]
                  have HSE : Hid (Src D wE (.pointer (some ⟨sb, 0, none⟩)) S) := HSD.out.below hBE
                  have HKE : Hid (Kl wE ko S.keys ∧ Kl wE ko2 S.keys) := ⟨HKD.out.below hBE, hkl2⟩
                  have HBE : Hid (Below w.heap.size w wE) := below_trans HBD.out hBE
                  clear hk2 hkl2 hBE
                  go_wp2_with (go_at_call 10; refine (len_walk HSE.out q).mono ?_; rw [HLN.out, ← HN.out]; rintro e w9 ⟨rfl, h9⟩; have h9 := h9.symm; subst h9)
                  have hcall := kkeys_walk (ca := kc) (cb := kc2) (l := S.keys) (by have := HK.out.kl; omega) HKE.out.1 HKE.out.2
                  rw [← HM.out] at hcall
                  refine Calls.mono hcall ?_
                  clear hcall
                  rintro e wF ⟨rfl, hBF⟩
                  have HR' : Hid (Rf w (.pointer (some ⟨sb, 0, none⟩)) l wF) := ⟨D, S, HSE.out.below hBF, HDB.out, HSL.out, HSN.out, below_trans HBE.out hBF⟩
                  clear hBF
                  go_wp2_with fail
                  go_roundw
                  case rel => exact ⟨i + 1, hlt, by omega, by simp, HR'.out⟩
                  case measure => simp [intOf]; omega
                · have HPR : Hid (prodS S q ⟨tk, tx⟩ = (0, addS S q ⟨tk, tx⟩ (insK K S.keys))) := by have := prod_new (r := ⟨tk, tx⟩) HQ.out HNF.out (by rw [HSL.out, ← HRR.out]; exact HKE1.out) (by rw [← HM.out]; omega); rw [HSL.out, ← HRR.out, ← HKK.out] at this; exact this
                  have hmb : ((m : Int) == 64) = false := by simp; omega
                  have hmi : ¬ ((m : Int) = 64) := by omega
                  obtain ⟨m2, hm2⟩ : ∃ m2, m2 = m + 1 := ⟨_, rfl⟩
                  have HKY : Hid ((insK K S.keys).length = m2) := by show _ = _; rw [insK_len HNI.out, ← HM.out, hm2]
                  have hmm : ((m2 : Int) == (m : Int)) = false := by simp; omega
                  have hmmi : ¬ ((m2 : Int) = (m : Int)) := by omega
                  have hm2l : m2 ≤ 64 := by omega
                  clear hm2
                  have HSC : Hid (Src D wr (.pointer (some ⟨sb, 0, none⟩)) S) := HSW.out
                  obtain ⟨s0, s1⟩ := HRC.out
                  go_wp2_with fail
                  refine (produce_walk (r := ⟨tk, tx⟩) HSC.out q HTK.out.2).mono ?_
                  rintro e wD ⟨he, ⟨D', hS', hCh, hD'⟩, _⟩
                  rw [HPR.out] at he hS'
                  subst he
                  obtain ⟨S2, hS2⟩ : ∃ S2, S2 = addS S q ⟨tk, tx⟩ (insK K S.keys) := ⟨_, rfl⟩
                  rw [← hS2] at hS'
                  have HSD : Hid (Src D' wD (.pointer (some ⟨sb, 0, none⟩)) S2) := hS'
                  have HBD : Hid (Below w.heap.size w wD) := HBW.out.trans (hCh.to_below HBW.out.size HDB.out)
                  have HDD : Hid (∀ b, D' b → w.heap.size ≤ b) := fun b hb => by rcases hD' b hb with h | h; exact HDB.out b h; exact Nat.le_trans HBW.out.size h
                  have HRD : Hid (wD.cell? ⟨wo.heap.size, 0, none⟩ = some (.int .u64 tk) ∧ wD.cell? ⟨wo.heap.size, 1, none⟩ = some (.float .f64 tx)) := by
                    have hb : wD.heap[wo.heap.size]? = wr.heap[wo.heap.size]? := hCh.block _ (cell_lt s0) HNR.out
                    exact ⟨by rw [World.cell?_of_block (w := wr) (a := ⟨wo.heap.size, 0, none⟩) hb]; exact s0, by rw [World.cell?_of_block (w := wr) (a := ⟨wo.heap.size, 1, none⟩) hb]; exact s1⟩
                  have HLG : Hid (S2.logs q = S.logs q ++ [⟨tk, tx⟩]) := by show _ = _; rw [hS2]; exact upd_same _ _ _
                  have HKS2 : Hid (S2.keys.length = m2) := by show _ = _; rw [hS2]; exact HKY.out
                  have HQ2 : Hid (hasS S2 q) := by show hasS S2 q; rw [hS2]; exact HQ.out
                  have HSL2 : Hid (S2.list = l ∧ S2.np = 2) := by show _ ∧ _; rw [hS2]; exact ⟨HSL.out, HSN.out⟩
                  have HLN2 : Hid (lenS S2 q = n1) := by show _ = _; unfold lenS; rw [if_pos HQ2.out]; show (S2.logs q).length = n1; rw [HLG.out, List.length_append, ← HN.out, HN1.out]; rfl
                  have HLO2 : Hid (logS S2 q = S.logs q ++ [⟨tk, tx⟩]) := by show _ = _; unfold logS; rw [if_pos HQ2.out]; exact HLG.out
                  clear hS' hCh hD' hS2 s0 s1
                  go_wp2_with fail
                  refine (keys_walk HSD.out).mono ?_
                  rintro e wE ⟨kv2, rfl, hk2, hBE⟩
                  obtain ⟨ko2, kc2, hkv2, hkl2⟩ := own_kl hk2
                  subst hkv2
                  rw [HKS2.out]
                  have HSE : Hid (Src D' wE (.pointer (some ⟨sb, 0, none⟩)) S2) := HSD.out.below hBE
                  have HBE : Hid (Below w.heap.size w wE) := below_trans HBD.out hBE
                  have HRE : Hid (wE.cell? ⟨wo.heap.size, 0, none⟩ = some (.int .u64 tk) ∧ wE.cell? ⟨wo.heap.size, 1, none⟩ = some (.float .f64 tx)) := ⟨by rw [hBE.cell (p := ⟨wo.heap.size, 0, none⟩) (cell_lt HRD.out.1)]; exact HRD.out.1, by rw [hBE.cell (p := ⟨wo.heap.size, 1, none⟩) (cell_lt HRD.out.2)]; exact HRD.out.2⟩
                  clear hk2 hkl2 hBE
                  go_wp2_with (go_at_call 10; refine (len_walk HSE.out q).mono ?_; rw [HLN2.out]; rintro e w9 ⟨rfl, h9⟩; have h9 := h9.symm; subst h9)
                  refine (log_walk HSE.out q).mono ?_
                  rw [HLO2.out]
                  rintro e wF ⟨lg, rfl, hlg, hBF⟩
                  obtain ⟨g, cap, hlv, hnc, hcm, HCUT⟩ := last_cut hlg HN.out HN1.out HK.out HTK.out.2
                  subst hlv
                  have HSF : Hid (Src D' wF (.pointer (some ⟨sb, 0, none⟩)) S2) := HSE.out.below hBF
                  have HBF : Hid (Below w.heap.size w wF) := below_trans HBE.out hBF
                  have HRF : Hid (wF.cell? ⟨wo.heap.size, 0, none⟩ = some (.int .u64 tk) ∧ wF.cell? ⟨wo.heap.size, 1, none⟩ = some (.float .f64 tx)) := ⟨by rw [hBF.cell (p := ⟨wo.heap.size, 0, none⟩) (cell_lt HRE.out.1)]; exact HRE.out.1, by rw [hBF.cell (p := ⟨wo.heap.size, 1, none⟩) (cell_lt HRE.out.2)]; exact HRE.out.2⟩
                  obtain ⟨f0, f1⟩ := HRF.out
                  have f0' : ∀ o, (wF.alloc o).cell? ⟨wo.heap.size, 0, none⟩ = some (.int .u64 tk) := fun o => by rw [(below_alloc wF o).cell (p := ⟨wo.heap.size, 0, none⟩) (cell_lt f0)]; exact f0
                  have f1' : ∀ o, (wF.alloc o).cell? ⟨wo.heap.size, 1, none⟩ = some (.float .f64 tx) := fun o => by rw [(below_alloc wF o).cell (p := ⟨wo.heap.size, 1, none⟩) (cell_lt f1)]; exact f1
                  have hcn : ¬ cap = n := by have := HN1.out; omega
                  have hsub : n1 - n = 1 := by have := HN1.out; omega
                  have hnn1 : n ≤ n1 := by have := HN1.out; omega
                  clear hlg hBF
                  go_wp2_with fail
                  go_region_with ((go_at_call 16; refine (lrecs_walk (l := [⟨tk, tx⟩]) (by simp) (HCUT.below (below_alloc_drew1 _ _)) (show Rl (wF.alloc (Obj.cells #[.int .u64 tk, .float .f64 tx] 34)) _ _ from rl_one wF _ rfl ⟨tk, tx⟩ _)).mono ?_; rintro e wG ⟨rfl, hBG⟩))
                  all_goals go_wp2_with fail
                  all_goals go_roundw
                  all_goals first
                    | exact ⟨i + 1, hlt, by omega, by simp, ⟨D', S2, HSF.out.below (below_trans (below_alloc_drew1 _ _) hBG), HDD.out, HSL2.out.1, HSL2.out.2, below_trans (below_trans HBF.out (below_alloc_drew1 _ _)) hBG⟩⟩
                    | (simp [intOf]; omega)
              · have HNI : Hid (K ∈ S.keys) := by show K ∈ S.keys; have := HKN.out; exact of_decide_eq_true this.symm
                have HPR : Hid (prodS S q ⟨tk, tx⟩ = (0, addS S q ⟨tk, tx⟩ S.keys)) := prod_old HK.out HQ.out HNF.out (by rw [HSL.out, ← HRR.out]; exact HKE1.out) (by rw [HSL.out, ← HRR.out, ← HKK.out]; exact HNI.out)
                have HKY : Hid (S.keys.length = m) := HM.out.symm
                have hmm : ((m : Int) == (m : Int)) = true := by simp
                have HSC : Hid (Src D wr (.pointer (some ⟨sb, 0, none⟩)) S) := HSW.out
                obtain ⟨s0, s1⟩ := HRC.out
                go_wp2_with fail
                refine (produce_walk (r := ⟨tk, tx⟩) HSC.out q HTK.out.2).mono ?_
                rintro e wD ⟨he, ⟨D', hS', hCh, hD'⟩, _⟩
                rw [HPR.out] at he hS'
                subst he
                obtain ⟨S2, hS2⟩ : ∃ S2, S2 = addS S q ⟨tk, tx⟩ (S.keys) := ⟨_, rfl⟩
                rw [← hS2] at hS'
                have HSD : Hid (Src D' wD (.pointer (some ⟨sb, 0, none⟩)) S2) := hS'
                have HBD : Hid (Below w.heap.size w wD) := HBW.out.trans (hCh.to_below HBW.out.size HDB.out)
                have HDD : Hid (∀ b, D' b → w.heap.size ≤ b) := fun b hb => by rcases hD' b hb with h | h; exact HDB.out b h; exact Nat.le_trans HBW.out.size h
                have HRD : Hid (wD.cell? ⟨wo.heap.size, 0, none⟩ = some (.int .u64 tk) ∧ wD.cell? ⟨wo.heap.size, 1, none⟩ = some (.float .f64 tx)) := by
                  have hb : wD.heap[wo.heap.size]? = wr.heap[wo.heap.size]? := hCh.block _ (cell_lt s0) HNR.out
                  exact ⟨by rw [World.cell?_of_block (w := wr) (a := ⟨wo.heap.size, 0, none⟩) hb]; exact s0, by rw [World.cell?_of_block (w := wr) (a := ⟨wo.heap.size, 1, none⟩) hb]; exact s1⟩
                have HLG : Hid (S2.logs q = S.logs q ++ [⟨tk, tx⟩]) := by show _ = _; rw [hS2]; exact upd_same _ _ _
                have HKS2 : Hid (S2.keys.length = m) := by show _ = _; rw [hS2]; exact HKY.out
                have HQ2 : Hid (hasS S2 q) := by show hasS S2 q; rw [hS2]; exact HQ.out
                have HSL2 : Hid (S2.list = l ∧ S2.np = 2) := by show _ ∧ _; rw [hS2]; exact ⟨HSL.out, HSN.out⟩
                have HLN2 : Hid (lenS S2 q = n1) := by show _ = _; unfold lenS; rw [if_pos HQ2.out]; show (S2.logs q).length = n1; rw [HLG.out, List.length_append, ← HN.out, HN1.out]; rfl
                have HLO2 : Hid (logS S2 q = S.logs q ++ [⟨tk, tx⟩]) := by show _ = _; unfold logS; rw [if_pos HQ2.out]; exact HLG.out
                clear hS' hCh hD' hS2 s0 s1
                go_wp2_with fail
                refine (keys_walk HSD.out).mono ?_
                rintro e wE ⟨kv2, rfl, hk2, hBE⟩
                obtain ⟨ko2, kc2, hkv2, hkl2⟩ := own_kl hk2
                subst hkv2
                rw [HKS2.out]
                have HSE : Hid (Src D' wE (.pointer (some ⟨sb, 0, none⟩)) S2) := HSD.out.below hBE
                have HBE : Hid (Below w.heap.size w wE) := below_trans HBD.out hBE
                have HRE : Hid (wE.cell? ⟨wo.heap.size, 0, none⟩ = some (.int .u64 tk) ∧ wE.cell? ⟨wo.heap.size, 1, none⟩ = some (.float .f64 tx)) := ⟨by rw [hBE.cell (p := ⟨wo.heap.size, 0, none⟩) (cell_lt HRD.out.1)]; exact HRD.out.1, by rw [hBE.cell (p := ⟨wo.heap.size, 1, none⟩) (cell_lt HRD.out.2)]; exact HRD.out.2⟩
                clear hk2 hkl2 hBE
                go_wp2_with (go_at_call 10; refine (len_walk HSE.out q).mono ?_; rw [HLN2.out]; rintro e w9 ⟨rfl, h9⟩; have h9 := h9.symm; subst h9)
                refine (log_walk HSE.out q).mono ?_
                rw [HLO2.out]
                rintro e wF ⟨lg, rfl, hlg, hBF⟩
                obtain ⟨g, cap, hlv, hnc, hcm, HCUT⟩ := last_cut hlg HN.out HN1.out HK.out HTK.out.2
                subst hlv
                have HSF : Hid (Src D' wF (.pointer (some ⟨sb, 0, none⟩)) S2) := HSE.out.below hBF
                have HBF : Hid (Below w.heap.size w wF) := below_trans HBE.out hBF
                have HRF : Hid (wF.cell? ⟨wo.heap.size, 0, none⟩ = some (.int .u64 tk) ∧ wF.cell? ⟨wo.heap.size, 1, none⟩ = some (.float .f64 tx)) := ⟨by rw [hBF.cell (p := ⟨wo.heap.size, 0, none⟩) (cell_lt HRE.out.1)]; exact HRE.out.1, by rw [hBF.cell (p := ⟨wo.heap.size, 1, none⟩) (cell_lt HRE.out.2)]; exact HRE.out.2⟩
                obtain ⟨f0, f1⟩ := HRF.out
                have f0' : ∀ o, (wF.alloc o).cell? ⟨wo.heap.size, 0, none⟩ = some (.int .u64 tk) := fun o => by rw [(below_alloc wF o).cell (p := ⟨wo.heap.size, 0, none⟩) (cell_lt f0)]; exact f0
                have f1' : ∀ o, (wF.alloc o).cell? ⟨wo.heap.size, 1, none⟩ = some (.float .f64 tx) := fun o => by rw [(below_alloc wF o).cell (p := ⟨wo.heap.size, 1, none⟩) (cell_lt f1)]; exact f1
                have hcn : ¬ cap = n := by have := HN1.out; omega
                have hsub : n1 - n = 1 := by have := HN1.out; omega
                have hnn1 : n ≤ n1 := by have := HN1.out; omega
                clear hlg hBF
                go_wp2_with fail
                go_region_with ((go_at_call 16; refine (lrecs_walk (l := [⟨tk, tx⟩]) (by simp) (HCUT.below (below_alloc_drew1 _ _)) (show Rl (wF.alloc (Obj.cells #[.int .u64 tk, .float .f64 tx] 34)) _ _ from rl_one wF _ rfl ⟨tk, tx⟩ _)).mono ?_; rintro e wG ⟨rfl, hBG⟩))
                all_goals go_wp2_with fail
                all_goals go_roundw
                all_goals first
                  | exact ⟨i + 1, hlt, by omega, by simp, ⟨D', S2, HSF.out.below (below_trans (below_alloc_drew1 _ _) hBG), HDD.out, HSL2.out.1, HSL2.out.2, below_trans (below_trans HBF.out (below_alloc_drew1 _ _)) hBG⟩⟩
                  | (simp [intOf]; omega)
    · by_cases hl2 : i < items.length
      · have h46 : ¬ ((i : Int) < 4096) := by omega
        have hl2i : (i : Int) < (items.length : Int) := by omega
        obtain ⟨D, S, _, _, _, _, hB⟩ := HR.out
        go_wp2_with fail
        go_ret
        exact ⟨rfl, hB⟩
      · have hl2i : ¬ ((i : Int) < (items.length : Int)) := by omega
        obtain ⟨D, S, _, _, _, _, hB⟩ := HR.out
        go_wp2_with fail
        go_ret
        exact ⟨rfl, hB⟩
end Go.Proofs.Ytfgeabcdcepfdaa
