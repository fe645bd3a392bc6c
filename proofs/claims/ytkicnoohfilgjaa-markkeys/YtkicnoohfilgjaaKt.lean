/- Contract of the reference's Union. -/
import Derived.Test.YtkicnoohfilgjaaKj

import Derived.Test.YtkicnoohfilgjaaKi

import Derived.Deep.CutBlock

namespace Go.Proofs.Ytkicnoohfilgjaa

open Go.RowKit



def insF (t : List Nat) (k : Nat) : List Nat := insK k t
theorem ins_take {l : List Nat} {i : Nat} (t : List Nat) (hi : i < l.length) : (l.take (i + 1)).foldl insF t = insK l[i] ((l.take i).foldl insF t) := by
  rw [List.take_succ_eq_append_getElem hi, List.foldl_append]; rfl
theorem ins_len (l t : List Nat) : (l.foldl insF t).length ≤ t.length + l.length := by
  induction l generalizing t with
  | nil => simp
  | cons a l ih => have h1 := ih (insF t a); have h2 := @insK_le a t; simp only [List.foldl_cons, List.length_cons]; unfold insF at h1 ⊢; omega
theorem uni_two (la lb : List Nat) : lb.foldl insF (la.foldl insF []) = uniU (la ++ lb) := by unfold uniU; rw [List.foldl_append]; rfl
/-- Where a loop of the reference's Union stands. -/
def RUr (w : World) (l t0 : List Nat) (lv iv : Value) (wr : World) : Prop :=
  ∃ (i g cap : Nat) (t : List Nat), iv = .int .i64 i ∧ i ≤ l.length ∧ t = (l.take i).foldl insF t0 ∧ lv = .slice (some ⟨g, 0, none⟩) t.length cap ∧ Uw wr g cap t ∧ RiseK t ∧ w.heap.size ≤ g ∧ Below w.heap.size w wr
theorem uw_none (w : World) : Uw (w.alloc (.cells #[] 32)) w.heap.size 0 [] := ⟨⟨#[], heap_alloc_new w _, rfl, by simp⟩, by simp, by simp [maxLen]⟩
/-- What the reference's Union leaves. -/
def RUGot (l : List Nat) (w : World) (e : Ending) (w' : World) : Prop :=
  ∃ v, e = .returned v ∧ Kv w' v (uniU l) ∧ Below w.heap.size w w'


set_option maxRecDepth 100000 in
set_option maxHeartbeats 4000000 in
theorem runion_walk {w : World} {a b : Value} {la lb : List Nat} (ha : Kv w a la) (hb : Kv w b lb) (hla : la.length ≤ 4096) (hlb : lb.length ≤ 4096) :
    Calls Try.prog 13 #[a, b] w (RUGot (la ++ lb) w) := by
  have HA : Hid (Kv w a la) := ha
  have HB : Hid (Kv w b lb) := hb
  have HLA : Hid (la.length ≤ 4096) := hla
  have HLB : Hid (lb.length ≤ 4096) := hlb
  obtain ⟨aa, ac, hav, hal, ham⟩ := kv_form ha
  obtain ⟨ba, bc, hbv, hbl, hbm⟩ := kv_form hb
  obtain ⟨an, han⟩ : ∃ n, n = la.length := ⟨_, rfl⟩
  obtain ⟨bn, hbn⟩ : ∃ n, n = lb.length := ⟨_, rfl⟩
  rw [← han] at hav
  rw [← hbn] at hbv
  have HAN : Hid (an = la.length) := han
  have HBN : Hid (bn = lb.length) := hbn
  have hani : (an : Int) ≤ 4096 := by omega
  have hbni : (bn : Int) ≤ 4096 := by omega
  subst hav hbv
  have R0 : Hid (RUr w la [] (.slice (some ⟨w.heap.size, 0, none⟩) 0 0) (.int .i64 0) (w.alloc (.cells #[] 32))) :=
    ⟨0, w.heap.size, 0, [], rfl, by omega, rfl, rfl, uw_none w, List.Pairwise.nil, Nat.le_refl _, below_alloc _ _⟩
  clear ha hb hla hlb han hbn hal ham hbl hbm
  go_enter Try.func13, Try.ntmps13
  go_upto_block 0 with fail
  go_cut [5, 6] (fun lv iv wx => RUr w la [] lv (.int .i64 la.length) wx)
  case first =>
    go_wp2_with fail
    go_loopw [5, 6] (fun lv iv wr => RUr w la [] lv iv wr) (fun _ iv _ => la.length - (intOf iv).toNat)
    case atStart => exact R0.out
    case round =>
      clear R0
      obtain ⟨i, g, cap, t, rfl, hi, ht, rfl, hU, hR, hg, hB⟩ := hrel
      have HT : Hid (t = (la.take i).foldl insF []) := ht
      have HU : Hid (Uw wr g cap t) := hU
      have HR : Hid (RiseK t) := hR
      have HG : Hid (w.heap.size ≤ g) := hg
      have HBW : Hid (Below w.heap.size w wr) := hB
      clear ht hU hR hg hB
      by_cases hlt : i < la.length
      · obtain ⟨_, _, e0, _, _, _, hcel⟩ := HA.out.below HBW.out
        obtain ⟨b0, off, e1, m0⟩ := hcel i (by simpa [ib] using hlt)
        simp only [Value.slice.injEq] at e0
        have e2 := e0.1
        clear e0
        rw [← e2] at e1
        subst e1
        obtain ⟨y, hy⟩ : ∃ y, y = la[i] := ⟨_, rfl⟩
        have m1 : wr.cell? ⟨b0, off + i, none⟩ = some (.int .u64 (y : Nat)) := by rw [m0]; simp [ib, List.getD, hlt, hy]
        have hin : (i : Int) < (an : Int) := by have := HAN.out; omega
        have hid : decide (i < an) = true := decide_eq_true (by omega)
        have HNX : Hid (insK y t = (la.take (i + 1)).foldl insF []) := by show _ = _; rw [ins_take [] hlt, ← HT.out, hy]
        have HTL : Hid (t.length ≤ 8192) := by
          show _ ≤ _
          have h1 := ins_len (la.take i) []
          rw [← HT.out] at h1
          have h2 := HLA.out
          simp at h1
          omega
        clear hcel e2 m0 hy
        go_wp2_with fail
        refine (rwithk_walk (B := w.heap.size) wr HU.out HG.out HR.out HTL.out).mono ?_
        rintro e w3 ⟨g3, cap3, rfl, hU3, hg3, hB3⟩
        have HREL : Hid (RUr w la [] (.slice (some ⟨g3, 0, none⟩) (insK y t).length cap3) (.int .i64 ((i : Int) + 1)) w3) :=
          ⟨i + 1, g3, cap3, insK y t, rfl, hlt, HNX.out, rfl, hU3, rise_insK HR.out, hg3, HBW.out.trans hB3⟩
        clear hU3 hg3 hB3
        generalize (insK y t).length = tn at HREL ⊢
        go_wp2_with fail
        go_roundw
        case rel => exact HREL.out
        case measure => simp [intOf]; omega
      · have hin : ¬ (i : Int) < (an : Int) := by have := HAN.out; omega
        obtain rfl : i = la.length := by omega
        have HEND : Hid (RUr w la [] (.slice (some ⟨g, 0, none⟩) t.length cap) (.int .i64 la.length) wr) := ⟨la.length, g, cap, t, rfl, hi, HT.out, rfl, HU.out, HR.out, HG.out, HBW.out⟩
        go_wp2_with fail
        go_meet
        exact HEND.out
  case rest =>
    obtain ⟨i, g, cap, t, hie, hi, ht, rfl, hU, hR, hg, hB⟩ := hcut
    obtain rfl : i = la.length := by simp at hie; omega
    rw [List.take_length] at ht
    have HT0 : Hid (t = la.foldl insF []) := ht
    have R1 : Hid (RUr w lb t (.slice (some ⟨g, 0, none⟩) t.length cap) (.int .i64 0) wc) := ⟨0, g, cap, t, rfl, by omega, rfl, rfl, hU, hR, hg, hB⟩
    have HT1 : Hid (t.length ≤ 4096) := by show _ ≤ _; have h1 := ins_len la []; rw [← ht] at h1; have := HLA.out; simp at h1; omega
    clear R0 hie hi ht hU hR hg hB
    generalize htn : t.length = tn at R1 ⊢
    clear htn
    go_wp2_with fail
    go_loopw [5, 7] (fun lv iv wr => RUr w lb t lv iv wr) (fun _ iv _ => lb.length - (intOf iv).toNat)
    case atStart => exact R1.out
    case round =>
      clear R1
      obtain ⟨i, g, cap, s, rfl, hi, ht, rfl, hU, hR, hg, hB⟩ := hrel
      have HT : Hid (s = (lb.take i).foldl insF t) := ht
      have HU : Hid (Uw wr g cap s) := hU
      have HR : Hid (RiseK s) := hR
      have HG : Hid (w.heap.size ≤ g) := hg
      have HBW : Hid (Below w.heap.size w wr) := hB
      clear ht hU hR hg hB
      by_cases hlt : i < lb.length
      · obtain ⟨_, _, e0, _, _, _, hcel⟩ := HB.out.below HBW.out
        obtain ⟨b0, off, e1, m0⟩ := hcel i (by simpa [ib] using hlt)
        simp only [Value.slice.injEq] at e0
        have e2 := e0.1
        clear e0
        rw [← e2] at e1
        subst e1
        obtain ⟨y, hy⟩ : ∃ y, y = lb[i] := ⟨_, rfl⟩
        have m1 : wr.cell? ⟨b0, off + i, none⟩ = some (.int .u64 (y : Nat)) := by rw [m0]; simp [ib, List.getD, hlt, hy]
        have hin : (i : Int) < (bn : Int) := by have := HBN.out; omega
        have hid : decide (i < bn) = true := decide_eq_true (by omega)
        have HNX : Hid (insK y s = (lb.take (i + 1)).foldl insF t) := by show _ = _; rw [ins_take t hlt, ← HT.out, hy]
        have HTL : Hid (s.length ≤ 8192) := by
          show _ ≤ _
          have h1 := ins_len (lb.take i) t
          rw [← HT.out] at h1
          have h2 := HLB.out
          have h3 := HT1.out
          simp at h1
          omega
        clear hcel e2 m0 hy
        go_wp2_with fail
        refine (rwithk_walk (B := w.heap.size) wr HU.out HG.out HR.out HTL.out).mono ?_
        rintro e w3 ⟨g3, cap3, rfl, hU3, hg3, hB3⟩
        have HREL : Hid (RUr w lb t (.slice (some ⟨g3, 0, none⟩) (insK y s).length cap3) (.int .i64 ((i : Int) + 1)) w3) :=
          ⟨i + 1, g3, cap3, insK y s, rfl, hlt, HNX.out, rfl, hU3, rise_insK HR.out, hg3, HBW.out.trans hB3⟩
        clear hU3 hg3 hB3
        generalize (insK y s).length = sn at HREL ⊢
        go_wp2_with fail
        go_roundw
        case rel => exact HREL.out
        case measure => simp [intOf]; omega
      · have hin : ¬ (i : Int) < (bn : Int) := by have := HBN.out; omega
        obtain rfl : i = lb.length := by omega
        have HS : Hid (s = uniU (la ++ lb)) := by show _ = _; rw [HT.out, List.take_length, HT0.out, uni_two]
        have HK : Hid (Kv wr (.slice (some ⟨g, 0, none⟩) s.length cap) (uniU (la ++ lb))) := by
          have h := own_sv (l := ib s) (k := .u64) (by have := HU.out.own HG.out; rw [← ib_keys] at this; exact this)
          rw [HS.out] at h ⊢
          exact h
        generalize s.length = sn at HK ⊢
        go_wp2_with fail
        go_ret
        exact ⟨_, rfl, HK.out, HBW.out⟩
end Go.Proofs.Ytkicnoohfilgjaa


