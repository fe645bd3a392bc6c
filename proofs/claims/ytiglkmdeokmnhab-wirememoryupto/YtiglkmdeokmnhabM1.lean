/- The walk of the statement WireMemory. -/
import Derived.Test.YtiglkmdeokmnhabMo
import Derived.Deep.RegionHeld3
namespace Go.Proofs.Ytiglkmdeokmnhab
open Go.RowKit

theorem pv_form {w : World} {v : Value} {ls : List (List Nat)} (h : Pv w v ls) : ∃ ao cap, v = .slice ao ls.length cap := by
  obtain ⟨ao, cap, rfl, _⟩ := h
  exact ⟨ao, cap, rfl⟩

theorem pv_at {w : World} {ao : Option Addr} {n cap : Nat} {ls : List (List Nat)} (h : Pv w (.slice ao n cap) ls) (i : Nat) (hi : i < ls.length) :
    ∃ b off a c, ao = some ⟨b, off, none⟩ ∧ w.cell? ⟨b, off + i, none⟩ = some (.slice a (ls.getD i []).length c) ∧ Bv w (.slice a (ls.getD i []).length c) (ls.getD i []) := by
  obtain ⟨ao', cap', e, _, _, _, h4⟩ := h
  simp only [Value.slice.injEq] at e
  obtain ⟨rfl, _, _⟩ := e
  obtain ⟨b, off, u, e1, e2, e3⟩ := h4 i hi
  obtain ⟨a, c, rfl⟩ := bv_form e3
  exact ⟨b, off, a, c, e1, e2, e3⟩

theorem sv_form {k : IntKind} {w : World} {v : Value} {l : List Int} (h : Sv k w v l) : ∃ ao cap, v = .slice ao l.length cap := by
  obtain ⟨ao, cap, rfl, _⟩ := h
  exact ⟨ao, cap, rfl⟩

theorem below7 {wr w5 w6 w7 : World} {o : Obj} (h5 : wr.grownBy w5 none) (h6 : w5.grownBy w6 (some wr.heap.size)) (h7 : (w6.alloc o).grownBy w7 (some wr.heap.size)) (hlt : wr.heap.size < w5.heap.size) : Below wr.heap.size wr w7 := by
  have b5 : Below wr.heap.size wr w5 := (Below.refl _ _).grown h5 (Nat.le_refl _) (by simp)
  have b6 : Below wr.heap.size w5 w6 := (Below.refl _ _).grown h6 (by omega) (fun r hr => by cases hr; exact Nat.le_refl _)
  have b7 : Below wr.heap.size (w6.alloc o) w7 := (Below.refl _ _).grown h7 (by have := h6.size; simp; omega) (fun r hr => by cases hr; exact Nat.le_refl _)
  exact b5.trans (b6.trans (((below_alloc w6 o).mono (by have := h6.size; omega)).trans b7))

theorem one_cell (w : World) (u : Value) (e : TypeId) : ∀ j x, [u][j]? = some x → (w.alloc (.cells #[u] e)).cell? ((⟨w.heap.size, 0, none⟩ : Addr).add j) = some x := by
  intro j x hj
  have : j = 0 := by
    rcases Nat.eq_zero_or_pos j with h | h
    · exact h
    · rw [List.getElem?_eq_none (by simp; omega)] at hj; cases hj
  subst this
  simp at hj
  subst hj
  rw [WideShapes.add_plain]
  simp

theorem own7 {w : World} {H g : Nat} {s : List Nat} (h : w.ownsRow H 5 1 (.slice (some ⟨g, 0, none⟩) ((ib s).length + (ib tail8).length) (s.length + 8)) ((ib s).length + (ib tail8).length) ((ib s).map (Value.int .u8) ++ (ib tail8).map (Value.int .u8))) :
    w.ownsRow H 5 1 (.slice (some ⟨g, 0, none⟩) (s.length + 8) (s.length + 8)) (s.length + 8) ((ib (s ++ tail8)).map (Value.int .u8)) := by
  have e : (ib s).length + (ib tail8).length = s.length + 8 := by rw [ib_len]; rfl
  rw [e] at h
  rw [ib_append, List.map_append]
  exact h

theorem parts_lt {w : World} {v : Value} {ls : List (List Nat)} (h : Pv w v ls) : ∀ l ∈ ls, ∀ c ∈ l, c < 256 := by
  obtain ⟨ao, cap, rfl, _, _, _, h4⟩ := h
  intro l hl c hc
  obtain ⟨i, hi, rfl⟩ := List.getElem_of_mem hl
  obtain ⟨b, off, u, _, _, e3⟩ := h4 i hi
  have := e3.2
  simp [List.getD, List.getElem?_eq_getElem hi] at this
  exact this c hc

/-- Join's answer as a row of its own. -/
theorem joins_own {w : World} {v : Value} {ls : List (List Nat)} {t : List Nat} (h : Pv w v ls) (ht : t = ls.flatten) (hsz : t.length ≤ 140737488355328) : Calls Try.prog 5 #[v] w fun e w' =>
    ∃ ao cap, e = .returned (.slice ao t.length cap) ∧ w'.ownsRow w.heap.size 5 1 (.slice ao t.length cap) t.length ((ib t).map (Value.int .u8)) ∧ Below w.heap.size w w' := by
  subst ht
  refine (join_walk h hsz).mono ?_
  rintro e w' ⟨v', rfl, hown, hb⟩
  obtain ⟨ao, cap, rfl⟩ := own_form hown
  exact ⟨ao, cap, rfl, hown, hb⟩

theorem lit_four (w : World) : Sv .i64 (w.alloc (.cells #[.int .i64 1, .int .i64 2, .int .i64 3, .int .i64 4] 3)) (.slice (some ⟨w.heap.size, 0, none⟩) 4 4) [1, 2, 3, 4] :=
  sv_lit .i64 w _ [1, 2, 3, 4] (by simp [maxLen])

theorem pvx_at {w : World} {M n cap : Nat} {ls : List (List Nat)} (h : PvX w (.slice (some ⟨M, 0, none⟩) n cap) ls) (i : Nat) (hi : i < ls.length) :
    ∃ P, w.cell? ⟨M, i, none⟩ = some (.slice (some ⟨P, 0, none⟩) (ls.getD i []).length ((ls.getD i []).length + 8)) ∧ Bv w (.slice (some ⟨P, 0, none⟩) ((ls.getD i []).length + 8) ((ls.getD i []).length + 8)) (ls.getD i [] ++ tail8) := by
  obtain ⟨M', cap', e, _, _, h3⟩ := h
  simp only [Value.slice.injEq, Option.some.injEq, Addr.mk.injEq, and_true] at e
  obtain ⟨rfl, _, _⟩ := e
  obtain ⟨P, e1, e2⟩ := h3 i hi
  rw [Nat.zero_add] at e1
  rw [List.length_append] at e2
  exact ⟨P, e1, e2⟩

theorem cut_s {w : World} {P : Nat} {s : List Nat} (h : Bv w (.slice (some ⟨P, 0, none⟩) (s.length + 8) (s.length + 8)) (s ++ tail8)) : Bv w (.slice (some ⟨P, 0, none⟩) s.length (s.length + 8)) s := by
  have e : (s ++ tail8).length = s.length + 8 := by rw [List.length_append]; rfl
  have h' : Bv w (.slice (some ⟨P, 0, none⟩) (s ++ tail8).length (s.length + 8)) (s ++ tail8) := by rw [e]; exact h
  have := h'.cutTo (k := s.length) (by omega)
  rw [List.take_left] at this
  exact this

theorem cut_tail {w : World} {P : Nat} {s : List Nat} (h : Bv w (.slice (some ⟨P, 0, none⟩) (s.length + 8) (s.length + 8)) (s ++ tail8)) : Bv w (.slice (some ⟨P, s.length, none⟩) 8 8) tail8 := by
  have e : (s ++ tail8).length = s.length + 8 := by rw [List.length_append]; rfl
  have h' : Bv w (.slice (some ⟨P, 0, none⟩) (s ++ tail8).length (s.length + 8)) (s ++ tail8) := by rw [e]; exact h
  have := h'.cut s.length (s.length + 8) (by omega) (by omega) False (by simp)
  rw [List.drop_left, Nat.add_sub_cancel_left] at this
  simpa [WideShapes.add_plain, tail8] using this

theorem str_tail : str tail8 = ⟨#[91, 92, 93, 94, 95, 96, 97, 98]⟩ := by decide

theorem lit_tail (w : World) : Sv .u8 (w.alloc (.cells #[.int .u8 91, .int .u8 92, .int .u8 93, .int .u8 94, .int .u8 95, .int .u8 96, .int .u8 97, .int .u8 98] 5)) (.slice (some ⟨w.heap.size, 0, none⟩) 8 8) (ib tail8) :=
  sv_lit .u8 w _ (ib tail8) (by simp [maxLen, ib, tail8])

theorem part_le {ls : List (List Nat)} {k : Nat} {s : List Nat} (hk : k < ls.length) (hs : ls.getD k [] = s) : s.length ≤ ls.flatten.length := by
  have h1 := flat_take_le ls (k + 1)
  rw [flat_take_succ ls k hk, List.length_append, hs] at h1
  omega

set_option linter.unusedSimpArgs false in
set_option maxRecDepth 100000 in
set_option maxHeartbeats 8000000 in
theorem memory_walk (v u : Value) (ls : List (List Nat)) (l : List Int) (w : World) (hv : Pv w v ls) (hu : Sv .i64 w u l) (hsz : ls.flatten.length + ls.length ≤ 1048576) (hln : l.length ≤ 1048576) (hin : ∀ x ∈ l, x < 9223372036854775808) :
    Calls Try.prog 3 #[v, u] w fun e w' => e = .returned (.bool true) ∧ Below w.heap.size w w' := by
  have HV : Hid (Pv w v ls) := hv
  have HU : Hid (Sv .i64 w u l) := hu
  have HSZ : Hid (ls.flatten.length + ls.length ≤ 1048576) := hsz
  have HLN : Hid (l.length ≤ 1048576) := hln
  have HIN : Hid (∀ x ∈ l, x < 9223372036854775808) := hin
  have hnl : (ls.length : Int) ≤ 1048576 := by omega
  have hnl2 : (l.length : Int) ≤ 1048576 := by omega
  obtain ⟨a0, c0, rfl⟩ := pv_form hv
  obtain ⟨a1, c1, rfl⟩ := sv_form hu
  obtain ⟨ib0, hib, hbz0, hbz1, hbz2⟩ := info_parts info_bytes
  have HI0 : Hid (Try.prog.info? 25 = some ib0) := hib
  have HI1 : Hid (ib0.zero = some (.slice none 0 0)) := hbz0
  have HI2 : Hid (ib0.size = 1) := hbz1
  have HI3 : Hid (ib0.bytes = 24) := hbz2
  obtain ⟨iu0, hiu, huz0, huz1, huz2⟩ := info_parts info_u8
  have HJ0 : Hid (Try.prog.info? 5 = some iu0) := hiu
  have HJ1 : Hid (iu0.zero = some (.int .u8 0)) := huz0
  have HJ2 : Hid (iu0.size = 1) := huz1
  have HJ3 : Hid (iu0.bytes = 1) := huz2
  obtain ⟨ii0, hii, hiz0, hiz1, hiz2⟩ := info_parts info_i64
  have HK0 : Hid (Try.prog.info? 3 = some ii0) := hii
  have HK1 : Hid (ii0.zero = some (.int .i64 0)) := hiz0
  have HK2 : Hid (ii0.size = 1) := hiz1
  have HK3 : Hid (ii0.bytes = 8) := hiz2
  clear hii hiz0 hiz1 hiz2
  clear hv hu hsz hln hin hib hbz0 hbz1 hbz2 hiu huz0 huz1 huz2
  go_enter Try.func3, Try.ntmps3
  go_wp2_with fail
  refine (awake_walk w).mono ?_
  rintro e w1 ⟨rfl, B1⟩
  have HB1 : Hid (Below w.heap.size w w1) := B1
  have HV1 : Hid (Pv w1 (.slice a0 ls.length c0) ls) := HV.out.below B1
  clear B1
  go_wp2_with (at_make; refine wpList_make_own _ (by rfl) _ _ 22 (by rfl) w1.heap.size 25 ib0 (.slice none 0 0) 1 Try.underlying22 HI0.out HI1.out HI2.out .i64 .i64 _ (ls.length + 4) (by rfl) (by rfl) (by omega) (by rw [HI3.out]; have := HSZ.out; omega) (by have := HSZ.out; simp only [maxLen]; omega) (Nat.le_refl _) ?_; intro w2 hown hgrow)
  have HST : Hid (Mine1 ls (ls.length + 4) w1.heap.size w1 (.slice (some ⟨w1.heap.size, 0, none⟩) 0 (ls.length + 4)) (.int .i64 0) w2) :=
    ⟨0, [], Nat.zero_le _, rfl, rfl, hown, fun i hi => by omega, (hown.lt w1.heap.size rfl).2, (Below.refl _ _).grown hgrow (Nat.le_refl _) (by simp)⟩
  clear hown hgrow
  go_loopw [5, 6] (fun mv iv wr => Mine1 ls (ls.length + 4) w1.heap.size w1 mv iv wr) (fun _ iv _ => ls.length - (intOf iv).toNat)
  case atStart => exact HST.out
  case round =>
    obtain ⟨k, xs, hk, rfl, hmv, hown, heach, hMs, hbel⟩ := hrel
    subst hmv
    have HEA : Hid (Each wr ls k xs w1.heap.size wr.heap.size) := heach
    have HOW : Hid (wr.ownsRow w1.heap.size 25 1 (.slice (some ⟨w1.heap.size, 0, none⟩) k (ls.length + 4)) k xs) := hown
    have HBL : Hid (Below w1.heap.size w1 wr) := hbel
    have HVr : Hid (Pv wr (.slice a0 ls.length c0) ls) := HV1.out.below hbel
    clear HST heach hown hbel
    by_cases hlt : (k : Int) < (ls.length : Int)
    · obtain ⟨b, off, ap, cp, e1, hcell, hbp⟩ := pv_at HVr.out k (by omega)
      subst e1
      obtain ⟨s, hs⟩ : ∃ s, ls.getD k [] = s := ⟨_, rfl⟩
      rw [hs] at hcell hbp
      have HS : Hid (ls.getD k [] = s) := hs
      have HBP : Hid (Bv wr (.slice ap s.length cp) s) := hbp
      have HCL : Hid (wr.cell? ⟨b, off + k, none⟩ = some (.slice ap s.length cp)) := hcell
      have hsl : (s.length : Int) ≤ 1048576 := by have := part_le (show k < ls.length by omega) hs; have := HSZ.out; omega
      clear hs hbp
      go_wp2_with (first
        | (at_make; refine wpList_make_own _ (by rfl) _ _ 25 (by rfl) wr.heap.size 5 iu0 (.int .u8 0) 1 Try.underlying25 HJ0.out HJ1.out HJ2.out .i64 .i64 _ (s.length + 8) (by rfl) (by rfl) (by omega) (by rw [HJ3.out]; omega) (by simp only [maxLen]; omega) (Nat.le_refl _) ?_; intro w5 hp5 hg5; have B5 : Hid (Below wr.heap.size wr w5) := (Below.refl _ _).grown hg5 (Nat.le_refl _) (by simp); have hc5 : w5.cell? ⟨b, off + k, none⟩ = some (.slice ap s.length cp) := by rw [B5.out.cell (p := ⟨b, off + k, none⟩) (cell_lt HCL.out)]; exact HCL.out)
        | (at_builtin; refine wpList_append_fits_sv (by rfl) (.tmp 48) (.tmp 52) 25 (by rfl) wr.heap.size 5 .u8 1 Try.underlying25 info_u8 wr.heap.size 0 (s.length + 8) [] (by rfl) hp5 _ (ib s) (by rfl) (HBP.out.below B5.out).1 (by rw [ib_len]; omega) ?_; intro w6 hp6 hg6; simp only [Nat.zero_add, List.nil_append] at hp6)
        | (at_builtin; refine wpList_append_fits_sv (by rfl) (.tmp 54) (.tmp 55) 25 (by rfl) wr.heap.size 5 .u8 1 Try.underlying25 info_u8 wr.heap.size (ib s).length (s.length + 8) _ (by rfl) (hp6.alloc _) _ (ib tail8) (by rfl) (lit_tail w6) (by rw [ib_len, ib_len]; simp [tail8]) ?_; intro w7 hp7 hg7; have B7 : Hid (Below wr.heap.size wr w7) := below7 hg5 hg6 hg7 (hp5.lt _ rfl).2; have hc7 : w7.cell? ⟨b, off + k, none⟩ = some (.slice ap s.length cp) := by rw [B7.out.cell (p := ⟨b, off + k, none⟩) (cell_lt HCL.out)]; exact HCL.out)
        | (at_builtin; refine wpList_append_fits _ (by rfl) (.tmp 57) (.tmp 65) 22 (by rfl) w1.heap.size 25 ib0 1 Try.underlying22 HI0.out HI2.out w1.heap.size k (ls.length + 4) xs (by rfl) ((own_below HOW.out B7.out).alloc _) ⟨w7.heap.size, 0, none⟩ 1 1 [.slice (some ⟨wr.heap.size, 0, none⟩) s.length (s.length + 8)] (by rfl) (by simp) (one_cell w7 _ _) (by simp [Value.oneCell']) (by omega) ?_; intro w8 hm8 hg8))
      have R := mine_step (by omega) HS.out hMs HBL.out HEA.out (by have := HOW.out.1; omega) hg5 hg6 (by have h5 : wr.heap.size < w5.heap.size := (hp5.lt _ rfl).2; have := hg6.size; omega) hg7 (own7 hp7) hg8 hm8
      clear hm8 hg8 hp7 hg7 hp6 hg6 hp5 hg5 hc7 hc5
      go_roundw
      case rel => exact R
      case measure => simp [intOf]; omega
    · obtain rfl : k = ls.length := by omega
      obtain ⟨wR, hwR⟩ : ∃ wR, wR = wr := ⟨_, rfl⟩
      subst hwR
      have HMX : Hid (PvX wR (.slice (some ⟨w1.heap.size, 0, none⟩) ls.length (ls.length + 4)) ls) := mine_done rfl (by omega) (by have := HSZ.out; simp only [maxLen]; omega) HOW.out HEA.out (parts_lt HVr.out)
      have HBW : Hid (Below w.heap.size w wR) := below_trans HB1.out HBL.out
      clear HOW HEA HVr
      obtain ⟨t, ht⟩ : ∃ t, t = ls.flatten := ⟨_, rfl⟩
      have HT : Hid (t = ls.flatten) := ht
      have HTL : Hid (t.length ≤ 1048576) := by show _ ≤ _; rw [ht]; have := HSZ.out; omega
      clear ht
      go_wp2_with fail
      refine (joins_own HMX.out.pv HT.out (by have := HTL.out; omega)).mono ?_
      rintro e wa ⟨aa, ca, rfl, oa, Ba⟩
      have HOA : Hid (wa.ownsRow wR.heap.size 5 1 (.slice aa t.length ca) t.length ((ib t).map (Value.int .u8))) := oa
      have HMA : Hid (PvX wa (.slice (some ⟨w1.heap.size, 0, none⟩) ls.length (ls.length + 4)) ls) := HMX.out.below Ba
      have HBA : Hid (Below w.heap.size w wa) := below_trans HBW.out Ba
      have HsA : Hid (wR.heap.size ≤ wa.heap.size) := Ba.size
      have HRA : Hid (Below wR.heap.size wR wa) := Ba
      clear oa Ba
      go_wp2_with fail
      refine (joins_own HMA.out.pv HT.out (by have := HTL.out; omega)).mono ?_
      rintro e wb ⟨ab, cb, rfl, ob, Bb⟩
      have HOB : Hid (wb.ownsRow wa.heap.size 5 1 (.slice ab t.length cb) t.length ((ib t).map (Value.int .u8))) := ob
      have HBB : Hid (Below wa.heap.size wa wb) := Bb
      clear ob Bb
      go_wp2_with (first
        | (at_make; refine wpList_make_own _ (by rfl) _ _ 23 (by rfl) wb.heap.size 3 ii0 (.int .i64 0) 1 Try.underlying23 HK0.out HK1.out HK2.out .i64 .i64 _ (l.length + 4) (by rfl) (by rfl) (by omega) (by rw [HK3.out]; omega) (by simp only [maxLen]; omega) (Nat.le_refl _) ?_; intro x5 hp5 hg5; have B5 : Hid (Below wb.heap.size wb x5) := (Below.refl _ _).grown hg5 (Nat.le_refl _) (by simp); have HU5 : Hid (Sv .i64 x5 (.slice a1 l.length c1) l) := HU.out.below (below_trans HBA.out (below_trans HBB.out B5.out)))
        | (at_builtin; refine wpList_append_fits_sv (by rfl) (.tmp 76) (.tmp 77) 23 (by rfl) wb.heap.size 3 .i64 8 Try.underlying23 info_i64 wb.heap.size 0 (l.length + 4) [] (by rfl) hp5 _ l (by rfl) HU5.out (by omega) ?_; intro x6 hp6 hg6; simp only [Nat.zero_add, List.nil_append] at hp6)
        | (at_builtin; refine wpList_append_fits_sv (by rfl) (.tmp 79) (.tmp 80) 23 (by rfl) wb.heap.size 3 .i64 8 Try.underlying23 info_i64 wb.heap.size l.length (l.length + 4) _ (by rfl) (hp6.alloc _) _ [1, 2, 3, 4] (by rfl) (lit_four x6) (by simp) ?_; intro x7 hp7 hg7))
      have h5 : wb.heap.size < x5.heap.size := (hp5.lt _ rfl).2
      have HN7 : Hid (x7.ownsRow wb.heap.size 3 1 (.slice (some ⟨wb.heap.size, 0, none⟩) (l.length + 4) (l.length + 4)) (l.length + 4) ((l ++ [1, 2, 3, 4]).map (Value.int .i64))) := by
        show World.ownsRow _ _ _ _ _ _ _
        rw [List.map_append]; exact hp7
      have HB7 : Hid (Below wb.heap.size wb x7) := below7 hg5 hg6 hg7 h5
      clear hp7 hg7 hp6 hg6 hp5 hg5 B5 HU5 h5
      obtain ⟨q, er, hq⟩ : ∃ q er, numsA l = (q, er) := ⟨_, _, rfl⟩
      have HQ : Hid (numsA l = (q, er)) := hq
      have HQ1 : Hid (∀ c ∈ q, c < 256) := (numsA_lt hq (by have := HLN.out; omega) HIN.out).1
      have HQ2 : Hid (q.length ≤ 10 + 10 * l.length) := (numsA_lt hq (by have := HLN.out; omega) HIN.out).2
      clear hq
      refine (nums_own (own_sv HN7.out).cutTo (by have := HLN.out; omega) HIN.out HQ.out).mono ?_
      rintro e wc ⟨ac, cc, rfl, oc, Bc⟩
      have HOC : Hid (wc.ownsRow x7.heap.size 5 1 (.slice ac q.length cc) q.length ((ib q).map (Value.int .u8))) := oc
      have HBC : Hid (Below x7.heap.size x7 wc) := Bc
      have HNc : Hid (wc.ownsRow wb.heap.size 3 1 (.slice (some ⟨wb.heap.size, 0, none⟩) (l.length + 4) (l.length + 4)) (l.length + 4) ((l ++ [1, 2, 3, 4]).map (Value.int .i64))) := own_below HN7.out Bc
      clear oc Bc
      go_wp2_with fail
      refine (nums_own (own_sv HNc.out).cutTo (by have := HLN.out; omega) HIN.out HQ.out).mono ?_
      rintro e wd ⟨ad, cd, rfl, od, Bd⟩
      have HOD : Hid (wd.ownsRow wc.heap.size 5 1 (.slice ad q.length cd) q.length ((ib q).map (Value.int .u8))) := od
      have HBD : Hid (Below wc.heap.size wc wd) := Bd
      have HNd : Hid (wd.ownsRow wb.heap.size 3 1 (.slice (some ⟨wb.heap.size, 0, none⟩) (l.length + 4) (l.length + 4)) (l.length + 4) ((l ++ [1, 2, 3, 4]).map (Value.int .i64))) := own_below HNc.out Bd
      clear od Bd
      have Bbd : Hid (Below wb.heap.size wb wd) := below_trans HB7.out (below_trans HBC.out HBD.out)
      have HOBd : Hid (wd.ownsRow wa.heap.size 5 1 (.slice ab t.length cb) t.length ((ib t).map (Value.int .u8))) := own_below HOB.out Bbd.out
      have HTB : Hid (∀ c ∈ t, c < 256) := by
        show ∀ c ∈ t, c < 256
        rw [HT.out]
        intro c hc
        obtain ⟨l', hl', hcl⟩ := List.mem_flatten.1 hc
        exact parts_lt HMX.out.pv l' hl' c hcl
      have rb := str_of (own_bv HOBd.out HTB.out)
      have rd := str_of (own_bv HOD.out HQ1.out)
      have HINV : Hid (Inv wR.heap.size wa.heap.size x7.heap.size wc.heap.size wd (.slice aa t.length ca) t.length (.slice ac q.length cc) q.length wd) := by
        have h1 := own_below HOA.out (below_trans HBB.out Bbd.out)
        have h2 := own_below HOC.out HBD.out
        have s1 := HBB.out.size
        have s2 := HB7.out.size
        have s3 := HBC.out.size
        have hA := fun g hg => HOA.out.lt g hg
        have hC := fun g hg => HOC.out.lt g hg
        exact ⟨⟨_, h1⟩, ⟨_, own_base h2 (by have := HsA.out; omega)⟩, fun g hg => .inl (hA g hg), fun g hg => .inl (hC g hg), fun g hg hc => by have := hA g hg; have := hC g hc; omega, Apart.refl _ _ _ _ _⟩
      go_wp2_with fail
      clear rb rd
      go_loopw [18] (fun iv wq => ∃ k : Nat, k ≤ t.length ∧ iv = .int .i64 k ∧ Inv wR.heap.size wa.heap.size x7.heap.size wc.heap.size wd (.slice aa t.length ca) t.length (.slice ac q.length cc) q.length wq) (fun iv _ => t.length - (intOf iv).toNat)
      case atStart => exact ⟨0, Nat.zero_le _, rfl, HINV.out⟩
      case round =>
        obtain ⟨k, hk, rfl, hinv⟩ := hrel
        have HIV : Hid (Inv wR.heap.size wa.heap.size x7.heap.size wc.heap.size wd (.slice aa t.length ca) t.length (.slice ac q.length cc) q.length wr) := hinv
        clear hinv HINV
        by_cases hlt : (k : Int) < (t.length : Int)
        · obtain ⟨g, rfl⟩ := own_at HIV.out.a.choose_spec (by omega)
          obtain ⟨qv, hq1, hq2⟩ := HIV.out.cellA k (by omega)
          have R : Hid (Inv wR.heap.size wa.heap.size x7.heap.size wc.heap.size wd (.slice (some ⟨g, 0, none⟩) t.length ca) t.length (.slice ac q.length cc) q.length (wr.setCell ⟨g, k, none⟩ (.int .u8 85))) := HIV.out.storeA k _
          have htl : (t.length : Int) ≤ 1048576 := by have := HTL.out; omega
          go_wp2_with fail
          go_roundw
          case rel => exact ⟨k + 1, by omega, by go_num, R.out⟩
          case measure => simp [intOf]; omega
        · go_wp2_with fail
          go_loopw [19] (fun iv wq => ∃ k : Nat, k ≤ q.length ∧ iv = .int .i64 k ∧ Inv wR.heap.size wa.heap.size x7.heap.size wc.heap.size wd (.slice aa t.length ca) t.length (.slice ac q.length cc) q.length wq) (fun iv _ => q.length - (intOf iv).toNat)
          case atStart => exact ⟨0, Nat.zero_le _, rfl, HIV.out⟩
          case round =>
            obtain ⟨k, hk, rfl, hinv⟩ := hrel
            have HIV : Hid (Inv wR.heap.size wa.heap.size x7.heap.size wc.heap.size wd (.slice aa t.length ca) t.length (.slice ac q.length cc) q.length wr) := hinv
            clear hinv
            by_cases hlt : (k : Int) < (q.length : Int)
            · obtain ⟨g, rfl⟩ := own_at HIV.out.c.choose_spec (by omega)
              obtain ⟨qv, hq1, hq2⟩ := HIV.out.cellC k (by omega)
              have R : Hid (Inv wR.heap.size wa.heap.size x7.heap.size wc.heap.size wd (.slice aa t.length ca) t.length (.slice (some ⟨g, 0, none⟩) q.length cc) q.length (wr.setCell ⟨g, k, none⟩ (.int .u8 85))) := HIV.out.storeC k _
              have hql : (q.length : Int) ≤ 10485770 := by have := HQ2.out; have := HLN.out; omega
              go_wp2_with fail
              go_roundw
              case rel => exact ⟨k + 1, by omega, by go_num, R.out⟩
              case measure => simp [intOf]; omega
            · go_wp2_with fail
              go_loopw [8, 12, 20] (fun av cv iv wq => ∃ k : Nat, k ≤ 12 ∧ iv = .int .i64 k ∧ Inv wR.heap.size wa.heap.size x7.heap.size wc.heap.size wd av (t.length + k) cv (q.length + k) wq) (fun _ _ iv _ => 12 - (intOf iv).toNat)
              case atStart => exact ⟨0, Nat.zero_le _, rfl, HIV.out⟩
              case round =>
                obtain ⟨k, hk, rfl, hinv⟩ := hrel
                have HIV : Hid (Inv wR.heap.size wa.heap.size x7.heap.size wc.heap.size wd u8 (t.length + k) u12 (q.length + k) wr) := hinv
                have hsR : wR.heap.size ≤ wr.heap.size := by
                  have h1 := hinv.ap.size
                  have h2 := HBD.out.size
                  have h3 := HBC.out.size
                  have h4 := HB7.out.size
                  have h5 := HBB.out.size
                  have h6 := HsA.out
                  omega
                clear hinv
                by_cases hlt : (k : Int) < 12
                · obtain ⟨xa, hxa⟩ := HIV.out.a
                  go_wp2_with (first
                    | (at_builtin; refine wpList_append_at_one (by rfl) (.tmp 122) (.tmp 123) 25 (by rfl) wR.heap.size 5 .u8 1 Try.underlying25 info_u8 _ _ _ (by rfl) (hxa.alloc _) wr.heap.size 102 (by rfl) (by simp) (by have := HTL.out; simp only [maxLen]; omega) (by have := HTL.out; omega) (by simp; omega) ?_; intro v5 y5 h5 g5 l5; have I5 : Hid (Inv wR.heap.size wa.heap.size x7.heap.size wc.heap.size wd v5 (t.length + k + 1) u12 (q.length + k) y5) := (HIV.out.alloc _).growA h5 g5 l5; obtain ⟨xc, hxc⟩ := I5.out.c; have s5 : wR.heap.size ≤ y5.heap.size := by (have := g5.size; simp at this; omega))
                    | (at_builtin; refine wpList_append_at_one (by rfl) (.tmp 125) (.tmp 126) 25 (by rfl) wR.heap.size 5 .u8 1 Try.underlying25 info_u8 _ _ _ (by rfl) (hxc.alloc _) y5.heap.size 102 (by rfl) (by simp) (by have := HQ2.out; have := HLN.out; simp only [maxLen]; omega) (by have := HQ2.out; have := HLN.out; omega) (by simp; omega) ?_; intro v6 y6 h6 g6 l6))
                  have I6 : Hid (Inv wR.heap.size wa.heap.size x7.heap.size wc.heap.size wd v5 (t.length + (k + 1)) v6 (q.length + (k + 1)) y6) := (I5.out.alloc _).growC h6 g6 l6
                  clear h5 g5 l5 h6 g6 l6 hxa hxc
                  go_roundw
                  case rel => exact ⟨k + 1, by omega, by go_num, I6.out⟩
                  case measure => simp [intOf]; omega
                · obtain ⟨wZ, hwZ⟩ : ∃ wZ, wZ = wr := ⟨_, rfl⟩
                  subst hwZ
                  have AP : Hid (Apart wR.heap.size wa.heap.size x7.heap.size wc.heap.size wd wZ) := HIV.out.ap
                  have z1 := HsA.out
                  have z2 := HBB.out.size
                  have z3 := HB7.out.size
                  have z4 := HBC.out.size
                  have z5 := HBD.out.size
                  have z6 : wb.heap.size < x7.heap.size := (HN7.out.lt _ rfl).2
                  have HBZ : Hid (Below wR.heap.size wR wZ) := AP.out.below (below_trans HRA.out (below_trans HBB.out Bbd.out)) (by omega) (by omega)
                  have HMZ : Hid (PvX wZ (.slice (some ⟨w1.heap.size, 0, none⟩) ls.length (ls.length + 4)) ls) := HMX.out.below HBZ.out
                  have HWZ : Hid (Below w.heap.size w wZ) := below_trans HBW.out HBZ.out
                  have HVZ : Hid (Pv wZ (.slice a0 ls.length c0) ls) := HV.out.below HWZ.out
                  have HUZ : Hid (Sv .i64 wZ (.slice a1 l.length c1) l) := HU.out.below HWZ.out
                  have HOBz : Hid (wZ.ownsRow wa.heap.size 5 1 (.slice ab t.length cb) t.length ((ib t).map (Value.int .u8))) := AP.out.own HOBd.out (fun g hg => by have := HOB.out.lt g hg; omega)
                  have HODz : Hid (wZ.ownsRow wc.heap.size 5 1 (.slice ad q.length cd) q.length ((ib q).map (Value.int .u8))) := AP.out.own HOD.out (fun g hg => by have := HOD.out.lt g hg; omega)
                  have HNz : Hid (wZ.ownsRow wb.heap.size 3 1 (.slice (some ⟨wb.heap.size, 0, none⟩) (l.length + 4) (l.length + 4)) (l.length + 4) ((l ++ [1, 2, 3, 4]).map (Value.int .i64))) := AP.out.own HNd.out (fun g hg => by have e : wb.heap.size = g := Option.some.inj hg; omega)
                  have rb := str_of (own_bv HOBz.out HTB.out)
                  have rd := str_of (own_bv HODz.out HQ1.out)
                  clear z1 z2 z3 z4 z5 z6 HIV hsR
                  go_wp2_with fail
                  refine (ints_walk (own_sv HNz.out).cutTo HUZ.out).mono ?_
                  rintro e wE ⟨rfl, BE⟩
                  have HBE : Hid (Below wZ.heap.size wZ wE) := BE
                  have HNE : Hid (wE.ownsRow wb.heap.size 3 1 (.slice (some ⟨wb.heap.size, 0, none⟩) (l.length + 4) (l.length + 4)) (l.length + 4) ((l ++ [1, 2, 3, 4]).map (Value.int .i64))) := own_below HNz.out BE
                  clear BE rb rd
                  go_wp2_with fail
                  have HRS : Hid (Sv .i64 wE (.slice (some ⟨wb.heap.size, l.length, none⟩) 4 4) [1, 2, 3, 4]) := by have := (own_sv HNE.out).cutRest 4 rfl; rw [Nat.add_sub_cancel_left] at this; exact this
                  refine (ints_walk (HRS.out.below (below_alloc _ _)) (lit_four wE)).mono ?_
                  rintro e wF ⟨rfl, BF⟩
                  have HBF : Hid (Below wZ.heap.size wZ wF) := below_trans HBE.out (below_trans (below_alloc _ _) BF)
                  have HMF : Hid (PvX wF (.slice (some ⟨w1.heap.size, 0, none⟩) ls.length (ls.length + 4)) ls) := HMZ.out.below HBF.out
                  have HVF : Hid (Pv wF (.slice a0 ls.length c0) ls) := HVZ.out.below HBF.out
                  have HWF : Hid (Below w.heap.size w wF) := below_trans HWZ.out HBF.out
                  clear BF HRS HNE HBE
                  go_wp2_with fail
                  go_loopw [21] (fun iv wq => ∃ k : Nat, k ≤ ls.length ∧ iv = .int .i64 k ∧ Below wF.heap.size wF wq) (fun iv _ => ls.length - (intOf iv).toNat)
                  case atStart => exact ⟨0, Nat.zero_le _, rfl, Below.refl _ _⟩
                  case round =>
                    obtain ⟨k, hk, rfl, hbel⟩ := hrel
                    obtain ⟨wS, hwS⟩ : ∃ wS, wS = wr := ⟨_, rfl⟩
                    subst hwS
                    have HBS : Hid (Below wF.heap.size wF wS) := hbel
                    have HMS : Hid (PvX wS (.slice (some ⟨w1.heap.size, 0, none⟩) ls.length (ls.length + 4)) ls) := HMF.out.below hbel
                    have HVS : Hid (Pv wS (.slice a0 ls.length c0) ls) := HVF.out.below hbel
                    clear hbel
                    by_cases hlt5 : (k : Int) < (ls.length : Int)
                    · obtain ⟨b, off, ap, cp, e1, hcell, hbp⟩ := pv_at HVS.out k (by omega)
                      subst e1
                      obtain ⟨P, hcellM, hbm⟩ := pvx_at HMS.out k (by omega)
                      obtain ⟨s, hs⟩ : ∃ s, ls.getD k [] = s := ⟨_, rfl⟩
                      rw [hs] at hcell hbp hcellM hbm
                      have HSM : Hid (s.length + 10 ≤ 140737488355328) := by show _ ≤ _; have := part_le (show k < ls.length by omega) hs; have := HSZ.out; omega
                      have hsl : (s.length : Int) ≤ 1048576 := by have := part_le (show k < ls.length by omega) hs; have := HSZ.out; omega
                      have hs8 : (s.length : Int) ≤ (s.length : Int) + 8 := by omega
                      have HBP : Hid (Bv wS (.slice ap s.length cp) s) := hbp
                      have HBM : Hid (Bv wS (.slice (some ⟨P, 0, none⟩) (s.length + 8) (s.length + 8)) (s ++ tail8)) := hbm
                      have HB1' : Hid (Bv wS (.slice (some ⟨P, 0, none⟩) s.length (s.length + 8)) s) := cut_s hbm
                      have HB2' : Hid (Bv wS (.slice (some ⟨P, s.length, none⟩) 8 8) tail8) := cut_tail hbm
                      have HCP : Hid (wS.cell? ⟨b, off + k, none⟩ = some (.slice ap s.length cp)) := hcell
                      have HCM : Hid (wS.cell? ⟨w1.heap.size, k, none⟩ = some (.slice (some ⟨P, 0, none⟩) s.length (s.length + 8))) := hcellM
                      clear hs hbp hbm
                      go_wp2_with fail
                      refine wp_region_noPanic ?_
                      refine wp_region_held_drew (S := fun w' => w'.cell? ⟨b, off + k, none⟩ = some (.slice ap s.length cp) ∧ (convert 25 9 (.slice (some ⟨P, 0, none⟩) s.length (s.length + 8))).run Try.prog w' = .ok (.string (str s)) w' ∧ (convert 25 9 (.slice ap s.length cp)).run Try.prog w' = .ok (.string (str s)) w' ∧ (convert 25 9 (.slice (some ⟨P, s.length, none⟩) 8 8)).run Try.prog w' = .ok (.string ⟨#[91, 92, 93, 94, 95, 96, 97, 98]⟩) w') (by kernel_rfl) ?_ (fun hHeld => ?_)
                      · exact ⟨hcell, str_of (HB1'.out.below (below_drew wS)), str_of (HBP.out.below (below_drew wS)), str_lit (HB2'.out.below (below_drew wS)) str_tail⟩
                      refine wpAnyH_take (i := 0) (oi := ⟨some 179, _, _, _, _, _⟩) (v := ?_) rfl (by kernel_rfl) (by kernel_rfl) (by kernel_rfl) (fun _ _ _ h => h) (Or.inl ⟨by rfl, ?_⟩) (by assumption) ?_
                      rotate_left
                      · intro w hSw; (try dsimp only at hSw); go_simp; all_goals (with_reducible rfl)
                      try simp only [Act.put, List.setIfInBounds_toArray, List.set_cons_zero, List.set_cons_succ]
                      refine wpAnyH_take (i := 1) (oi := ⟨some 180, _, _, _, _, _⟩) (v := ?_) rfl (by kernel_rfl) (by kernel_rfl) (by kernel_rfl) (fun _ _ _ h => h) (Or.inl ⟨by rfl, ?_⟩) (by assumption) ?_
                      rotate_left
                      · intro w hSw; (try dsimp only at hSw); go_simp; all_goals (with_reducible rfl)
                      try simp only [Act.put, List.setIfInBounds_toArray, List.set_cons_zero, List.set_cons_succ]
                      refine wpAnyH_take (i := 2) (oi := ⟨some 181, _, _, _, _, _⟩) (v := ?_) rfl (by kernel_rfl) (by kernel_rfl) (by kernel_rfl) (fun _ _ _ h => h) (Or.inl ⟨by rfl, ?_⟩) (by assumption) ?_
                      rotate_left
                      · intro w hSw; (try dsimp only at hSw); go_simp; all_goals (with_reducible rfl)
                      try simp only [Act.put, List.setIfInBounds_toArray, List.set_cons_zero, List.set_cons_succ]
                      refine wpAnyH_take (i := 3) (oi := ⟨some 182, _, _, _, _, _⟩) (v := ?_) rfl (by kernel_rfl) (by kernel_rfl) (by kernel_rfl) (fun _ _ _ h => h) (Or.inl ⟨by rfl, ?_⟩) (by assumption) ?_
                      rotate_left
                      · intro w hSw; (try dsimp only at hSw); go_simp; all_goals (with_reducible rfl)
                      try simp only [Act.put, List.setIfInBounds_toArray, List.set_cons_zero, List.set_cons_succ]
                      refine wpAnyH_take (i := 4) (oi := ⟨some 183, _, _, _, _, _⟩) (v := ?_) rfl (by kernel_rfl) (by kernel_rfl) (by kernel_rfl) (fun _ _ _ h => h) (Or.inl ⟨by rfl, ?_⟩) (by assumption) ?_
                      rotate_left
                      · intro w hSw; (try dsimp only at hSw); go_simp; all_goals (with_reducible rfl)
                      try simp only [Act.put, List.setIfInBounds_toArray, List.set_cons_zero, List.set_cons_succ]
                      refine wpAnyH_take (i := 5) (oi := ⟨some 184, _, _, _, _, _⟩) (v := ?_) rfl (by kernel_rfl) (by kernel_rfl) (by kernel_rfl) (fun _ _ _ h => h) (Or.inl ⟨by rfl, ?_⟩) (by assumption) ?_
                      rotate_left
                      · intro w hSw; (try dsimp only at hSw); go_simp; all_goals (with_reducible rfl)
                      try simp only [Act.put, List.setIfInBounds_toArray, List.set_cons_zero, List.set_cons_succ]
                      refine wpAnyH_take (i := 6) (oi := ⟨some 185, _, _, _, _, _⟩) (v := ?_) rfl (by kernel_rfl) (by kernel_rfl) (by kernel_rfl) (fun _ _ _ h => h) (Or.inl ⟨by rfl, ?_⟩) (by assumption) ?_
                      rotate_left
                      · intro w hSw; (try dsimp only at hSw); go_simp; all_goals (with_reducible rfl)
                      try simp only [Act.put, List.setIfInBounds_toArray, List.set_cons_zero, List.set_cons_succ]
                      refine wpAnyH_take (i := 7) (oi := ⟨some 186, _, _, _, _, _⟩) (v := ?_) rfl (by kernel_rfl) (by kernel_rfl) (by kernel_rfl) (fun _ _ _ h => h) (Or.inl ⟨by rfl, ?_⟩) (by assumption) ?_
                      rotate_left
                      · intro w hSw; (try dsimp only at hSw); go_simp; all_goals (with_reducible rfl)
                      try simp only [Act.put, List.setIfInBounds_toArray, List.set_cons_zero, List.set_cons_succ]
                      refine wpAnyH_take (i := 8) (oi := ⟨some 187, _, _, _, _, _⟩) (v := ?_) rfl (by kernel_rfl) (by kernel_rfl) (by kernel_rfl) (fun _ _ _ h => h) (Or.inl ⟨by rfl, ?_⟩) (by assumption) ?_
                      rotate_left
                      · intro w hSw; (try dsimp only at hSw); go_simp; all_goals (with_reducible rfl)
                      try simp only [Act.put, List.setIfInBounds_toArray, List.set_cons_zero, List.set_cons_succ]
                      refine wpAnyH_take (i := 9) (oi := ⟨some 188, _, _, _, _, _⟩) (v := ?_) rfl (by kernel_rfl) (by kernel_rfl) (by kernel_rfl) (fun _ _ _ h => h) (Or.inl ⟨by rfl, ?_⟩) (by assumption) ?_
                      rotate_left
                      · intro w hSw; (try dsimp only at hSw); go_simp; all_goals (with_reducible rfl)
                      try simp only [Act.put, List.setIfInBounds_toArray, List.set_cons_zero, List.set_cons_succ]
                      refine wpAnyH_take (i := 10) (oi := ⟨some 189, _, _, _, _, _⟩) (v := ?_) rfl (by kernel_rfl) (by kernel_rfl) (by kernel_rfl) (fun _ _ _ h => h) (Or.inl ⟨by rfl, ?_⟩) (by assumption) ?_
                      rotate_left
                      · intro w hSw; (try dsimp only at hSw); go_simp; all_goals (with_reducible rfl)
                      try simp only [Act.put, List.setIfInBounds_toArray, List.set_cons_zero, List.set_cons_succ]
                      refine wpAnyH_take (i := 11) (oi := ⟨some 190, _, _, _, _, _⟩) (v := ?_) rfl (by kernel_rfl) (by kernel_rfl) (by kernel_rfl) (fun _ _ _ h => h) (Or.inl ⟨by rfl, ?_⟩) (by assumption) ?_
                      rotate_left
                      · intro w hSw; (try dsimp only at hSw); go_simp; all_goals (with_reducible rfl)
                      try simp only [Act.put, List.setIfInBounds_toArray, List.set_cons_zero, List.set_cons_succ]
                      refine wpAnyH_take (i := 12) (oi := ⟨some 191, _, _, _, _, _⟩) (v := ?_) rfl (by kernel_rfl) (by kernel_rfl) (by kernel_rfl) (fun _ _ _ h => h) (Or.inl ⟨by rfl, ?_⟩) (by assumption) ?_
                      rotate_left
                      · intro w hSw; (try dsimp only at hSw); go_simp; all_goals (with_reducible rfl)
                      try simp only [Act.put, List.setIfInBounds_toArray, List.set_cons_zero, List.set_cons_succ]
                      refine wpAnyH_take (i := 13) (oi := ⟨some 192, _, _, _, _, _⟩) (v := ?_) rfl (by kernel_rfl) (by kernel_rfl) (by kernel_rfl) (fun _ _ _ h => h) (Or.inl ⟨by rfl, ?_⟩) (by assumption) ?_
                      rotate_left
                      · intro w hSw; (try dsimp only at hSw); go_simp; all_goals (with_reducible rfl)
                      try simp only [Act.put, List.setIfInBounds_toArray, List.set_cons_zero, List.set_cons_succ]
                      refine wpAnyH_take (i := 14) (oi := ⟨some 193, _, _, _, _, _⟩) (v := ?_) rfl (by kernel_rfl) (by kernel_rfl) (by kernel_rfl) (fun _ _ _ h => h) (Or.inl ⟨by rfl, ?_⟩) (by assumption) ?_
                      rotate_left
                      · intro w hSw; (try dsimp only at hSw); go_simp; all_goals (with_reducible rfl)
                      try simp only [Act.put, List.setIfInBounds_toArray, List.set_cons_zero, List.set_cons_succ]
                      refine wpAnyH_take (i := 15) (oi := ⟨some 194, _, _, _, _, _⟩) (v := ?_) rfl (by kernel_rfl) (by kernel_rfl) (by kernel_rfl) (fun _ _ _ h => h) (Or.inl ⟨by rfl, ?_⟩) (by assumption) ?_
                      rotate_left
                      · intro w hSw; (try dsimp only at hSw); go_simp; all_goals (with_reducible rfl)
                      try simp only [Act.put, List.setIfInBounds_toArray, List.set_cons_zero, List.set_cons_succ]
                      refine wpAnyH_take (i := 16) (oi := ⟨some 195, _, _, _, _, _⟩) (v := ?_) rfl (by kernel_rfl) (by kernel_rfl) (by kernel_rfl) (fun _ _ _ h => h) (Or.inl ⟨by rfl, ?_⟩) (by assumption) ?_
                      rotate_left
                      · intro w hSw; (try dsimp only at hSw); go_simp; all_goals (with_reducible rfl)
                      try simp only [Act.put, List.setIfInBounds_toArray, List.set_cons_zero, List.set_cons_succ]
                      refine wpAnyH_done (by kernel_rfl) ?_ _
                      refine NoPanic.normal ?_
                      clear hHeld
                      obtain ⟨rs, hrs⟩ : ∃ rs, rs = runOf s := ⟨_, rfl⟩
                      have HRSs : Hid (rs = runOf s) := hrs
                      have HRL : Hid (rs.length ≤ 10 + s.length) := by show _ ≤ _; rw [hrs]; exact runOf_len s
                      have HRB : Hid (∀ c ∈ rs, c < 256) := by
                        show ∀ c ∈ rs, c < 256
                        rw [hrs]
                        intro c hc
                        rcases List.mem_append.1 hc with h | h
                        · exact Wm.enc_lt _ (by have := HSM.out; omega) c h
                        · exact HBP.out.2 c h
                      clear hrs
                      go_wp2_with fail
                      refine (run_walk (HB1'.out.below (below_drew wS)) HSM.out).mono ?_
                      rintro e wG ⟨vr, rfl, hor, Bg⟩
                      rw [← HRSs.out] at hor
                      obtain ⟨ar, cr, rfl⟩ := own_form hor
                      have HOR : Hid (wG.ownsRow wS.heap.size 5 1 (.slice ar rs.length cr) rs.length ((ib rs).map (Value.int .u8))) := hor
                      have HBG : Hid (Below wS.heap.size wS wG) := below_trans (below_drew wS) Bg
                      clear hor Bg
                      go_wp2_with fail
                      refine (takerun_own (own_bv HOR.out HRB.out) (by have := HRL.out; have := HSM.out; omega) HRSs.out).mono ?_
                      rintro e wH ⟨as_, cs, rfl, os_, Bh⟩
                      have HOS : Hid (wH.ownsRow wG.heap.size 5 1 (.slice as_ s.length cs) s.length ((ib s).map (Value.int .u8))) := os_
                      have HORh : Hid (wH.ownsRow wS.heap.size 5 1 (.slice ar rs.length cr) rs.length ((ib rs).map (Value.int .u8))) := own_below HOR.out Bh
                      have HBH : Hid (Below wS.heap.size wS wH) := below_trans HBG.out Bh
                      have hrl : (rs.length : Int) ≤ 1048586 := by have := HRL.out; omega
                      clear os_ Bh
                      go_wp2_with fail
                      go_loopw [28] (fun iv wq => ∃ j : Nat, j ≤ rs.length ∧ iv = .int .i64 j ∧ (∃ xs, wq.ownsRow wS.heap.size 5 1 (.slice ar rs.length cr) rs.length xs) ∧ wH.grownBy wq (Value.slice ar rs.length cr).ownBlock) (fun iv _ => rs.length - (intOf iv).toNat)
                      case atStart => exact ⟨0, Nat.zero_le _, rfl, ⟨_, HORh.out⟩, World.grownBy.refl _ _⟩
                      case round =>
                        obtain ⟨jj, hj, rfl, hxx, hgr⟩ := hrel
                        have HXX : Hid (∃ xs, wr.ownsRow wS.heap.size 5 1 (.slice ar rs.length cr) rs.length xs) := hxx
                        have HGR : Hid (wH.grownBy wr (Value.slice ar rs.length cr).ownBlock) := hgr
                        clear hxx hgr
                        by_cases hlt6 : (jj : Int) < (rs.length : Int)
                        · obtain ⟨xs6, hx6⟩ := HXX.out
                          obtain ⟨g, rfl⟩ := own_at hx6 (by omega)
                          have hq2 := hx6.frozenAt jj
                          have hq1 : ∃ q6, wr.cell? ⟨g, jj, none⟩ = some q6 := by
                            have hl := hx6.1
                            exact ⟨xs6[jj], by rw [hx6.cellAt jj (by omega), List.getElem?_eq_getElem (by omega)]⟩
                          obtain ⟨q6, hq1⟩ := hq1
                          have R1 := (hx6.stored jj (.int .u8 119)).1
                          have R2 : Hid (wH.grownBy (wr.setCell ⟨g, jj, none⟩ (.int .u8 119)) (Value.slice (some ⟨g, 0, none⟩) rs.length cr).ownBlock) := grown_trans HGR.out (hx6.stored jj (.int .u8 119)).2
                          have R : Hid (∃ xs, (wr.setCell ⟨g, jj, none⟩ (.int .u8 119)).ownsRow wS.heap.size 5 1 (.slice (some ⟨g, 0, none⟩) rs.length cr) rs.length xs) := ⟨_, R1⟩
                          clear R1 hx6
                          go_wp2_with fail
                          go_roundw
                          case rel => exact ⟨jj + 1, by omega, by go_num, R.out, R2.out⟩
                          case measure => simp [intOf]; omega
                        · obtain ⟨wY, hwY⟩ : ∃ wY, wY = wr := ⟨_, rfl⟩
                          subst hwY
                          have HBY : Hid (Below wS.heap.size wS wY) := HBH.out.grown HGR.out HBH.out.size (fun g hg => (HOR.out.lt g hg).1)
                          have HOSy : Hid (wY.ownsRow wG.heap.size 5 1 (.slice as_ s.length cs) s.length ((ib s).map (Value.int .u8))) := HOS.out.kept HGR.out (by
                            cases hb : (Value.slice as_ s.length cs).ownBlock with
                            | none => exact .inl rfl
                            | some g =>
                              refine .inr fun e => ?_
                              have h1 := (HOS.out.lt g hb).1
                              have h2 := (HOR.out.lt g e.symm).2
                              omega)
                          have hcellY : wY.cell? ⟨b, off + k, none⟩ = some (.slice ap s.length cp) := by rw [HBY.out.cell (p := ⟨b, off + k, none⟩) (cell_lt HCP.out)]; exact HCP.out
                          have hcellMY : wY.cell? ⟨w1.heap.size, k, none⟩ = some (.slice (some ⟨P, 0, none⟩) s.length (s.length + 8)) := by rw [HBY.out.cell (p := ⟨w1.heap.size, k, none⟩) (cell_lt HCM.out)]; exact HCM.out
                          have HYS : Hid (Bv wY (.slice as_ s.length cs) s) := own_bv HOSy.out HBP.out.2
                          have HYP : Hid (Bv wY (.slice ap s.length cp) s) := HBP.out.below HBY.out
                          have HYM : Hid (Bv wY (.slice (some ⟨P, 0, none⟩) (s.length + 8) (s.length + 8)) (s ++ tail8)) := HBM.out.below HBY.out
                          clear HXX HGR hcell hcellM
                          go_wp2_with fail
                          have hw8 : IntKind.i64.wrap ((s.length : Int) + 8) = (s.length : Int) + 8 := by rw [IntKind.wrap_i64]; omega
                          have ht8 : ((s.length : Int) + 8).toNat = s.length + 8 := by omega
                          have h08 : (0 : Int) ≤ (s.length : Int) + 8 := by omega
                          refine wp_region_noPanic ?_
                          refine wp_region_held_drew (S := fun w' => w'.cell? ⟨b, off + k, none⟩ = some (.slice ap s.length cp) ∧ w'.cell? ⟨w1.heap.size, k, none⟩ = some (.slice (some ⟨P, 0, none⟩) s.length (s.length + 8)) ∧ (convert 25 9 (.slice as_ s.length cs)).run Try.prog w' = .ok (.string (str s)) w' ∧ (convert 25 9 (.slice ap s.length cp)).run Try.prog w' = .ok (.string (str s)) w' ∧ (convert 25 9 (.slice (some ⟨P, 0, none⟩) (s.length + 8) (s.length + 8))).run Try.prog w' = .ok (.string (str (s ++ tail8))) w') (by kernel_rfl) ?_ (fun hHeld => ?_)
                          · exact ⟨hcellY, hcellMY, str_of (HYS.out.below (below_drew wY)), str_of (HYP.out.below (below_drew wY)), str_of (HYM.out.below (below_drew wY))⟩
                          refine wpAnyH_take (i := 0) (oi := ⟨some 216, _, _, _, _, _⟩) (v := ?_) rfl (by kernel_rfl) (by kernel_rfl) (by kernel_rfl) (fun _ _ _ h => h) (Or.inl ⟨by rfl, ?_⟩) (by assumption) ?_
                          rotate_left
                          · intro w hSw; (try dsimp only at hSw); go_simp; all_goals (with_reducible rfl)
                          try simp only [Act.put, List.setIfInBounds_toArray, List.set_cons_zero, List.set_cons_succ]
                          refine wpAnyH_take (i := 1) (oi := ⟨some 217, _, _, _, _, _⟩) (v := ?_) rfl (by kernel_rfl) (by kernel_rfl) (by kernel_rfl) (fun _ _ _ h => h) (Or.inl ⟨by rfl, ?_⟩) (by assumption) ?_
                          rotate_left
                          · intro w hSw; (try dsimp only at hSw); go_simp; all_goals (with_reducible rfl)
                          try simp only [Act.put, List.setIfInBounds_toArray, List.set_cons_zero, List.set_cons_succ]
                          refine wpAnyH_take (i := 2) (oi := ⟨some 218, _, _, _, _, _⟩) (v := ?_) rfl (by kernel_rfl) (by kernel_rfl) (by kernel_rfl) (fun _ _ _ h => h) (Or.inl ⟨by rfl, ?_⟩) (by assumption) ?_
                          rotate_left
                          · intro w hSw; (try dsimp only at hSw); go_simp; all_goals (with_reducible rfl)
                          try simp only [Act.put, List.setIfInBounds_toArray, List.set_cons_zero, List.set_cons_succ]
                          refine wpAnyH_take (i := 3) (oi := ⟨some 219, _, _, _, _, _⟩) (v := ?_) rfl (by kernel_rfl) (by kernel_rfl) (by kernel_rfl) (fun _ _ _ h => h) (Or.inl ⟨by rfl, ?_⟩) (by assumption) ?_
                          rotate_left
                          · intro w hSw; (try dsimp only at hSw); go_simp; all_goals (with_reducible rfl)
                          try simp only [Act.put, List.setIfInBounds_toArray, List.set_cons_zero, List.set_cons_succ]
                          refine wpAnyH_take (i := 4) (oi := ⟨some 220, _, _, _, _, _⟩) (v := ?_) rfl (by kernel_rfl) (by kernel_rfl) (by kernel_rfl) (fun _ _ _ h => h) (Or.inl ⟨by rfl, ?_⟩) (by assumption) ?_
                          rotate_left
                          · intro w hSw; (try dsimp only at hSw); go_simp; all_goals (with_reducible rfl)
                          try simp only [Act.put, List.setIfInBounds_toArray, List.set_cons_zero, List.set_cons_succ]
                          refine wpAnyH_take (i := 5) (oi := ⟨some 221, _, _, _, _, _⟩) (v := ?_) rfl (by kernel_rfl) (by kernel_rfl) (by kernel_rfl) (fun _ _ _ h => h) (Or.inl ⟨by rfl, ?_⟩) (by assumption) ?_
                          rotate_left
                          · intro w hSw; (try dsimp only at hSw); go_simp; all_goals (with_reducible rfl)
                          try simp only [Act.put, List.setIfInBounds_toArray, List.set_cons_zero, List.set_cons_succ]
                          refine wpAnyH_take (i := 6) (oi := ⟨some 222, _, _, _, _, _⟩) (v := ?_) rfl (by kernel_rfl) (by kernel_rfl) (by kernel_rfl) (fun _ _ _ h => h) (Or.inl ⟨by rfl, ?_⟩) (by assumption) ?_
                          rotate_left
                          · intro w hSw; (try dsimp only at hSw); go_simp; all_goals (with_reducible rfl)
                          try simp only [Act.put, List.setIfInBounds_toArray, List.set_cons_zero, List.set_cons_succ]
                          refine wpAnyH_take (i := 7) (oi := ⟨some 223, _, _, _, _, _⟩) (v := ?_) rfl (by kernel_rfl) (by kernel_rfl) (by kernel_rfl) (fun _ _ _ h => h) (Or.inl ⟨by rfl, ?_⟩) (by assumption) ?_
                          rotate_left
                          · intro w hSw; (try dsimp only at hSw); go_simp; all_goals (with_reducible rfl)
                          try simp only [Act.put, List.setIfInBounds_toArray, List.set_cons_zero, List.set_cons_succ]
                          refine wpAnyH_take (i := 8) (oi := ⟨some 224, _, _, _, _, _⟩) (v := ?_) rfl (by kernel_rfl) (by kernel_rfl) (by kernel_rfl) (fun _ _ _ h => h) (Or.inl ⟨by rfl, ?_⟩) (by assumption) ?_
                          rotate_left
                          · intro w hSw; (try dsimp only at hSw); go_simp; all_goals (with_reducible rfl)
                          try simp only [Act.put, List.setIfInBounds_toArray, List.set_cons_zero, List.set_cons_succ]
                          refine wpAnyH_take (i := 9) (oi := ⟨some 225, _, _, _, _, _⟩) (v := ?_) rfl (by kernel_rfl) (by kernel_rfl) (by kernel_rfl) (fun _ _ _ h => h) (Or.inl ⟨by rfl, ?_⟩) (by assumption) ?_
                          rotate_left
                          · intro w hSw; (try dsimp only at hSw); go_simp; all_goals (with_reducible rfl)
                          try simp only [Act.put, List.setIfInBounds_toArray, List.set_cons_zero, List.set_cons_succ]
                          refine wpAnyH_take (i := 10) (oi := ⟨some 226, _, _, _, _, _⟩) (v := ?_) rfl (by kernel_rfl) (by kernel_rfl) (by kernel_rfl) (fun _ _ _ h => h) (Or.inl ⟨by rfl, ?_⟩) (by assumption) ?_
                          rotate_left
                          · intro w hSw; (try dsimp only at hSw); go_simp; all_goals (with_reducible rfl)
                          try simp only [Act.put, List.setIfInBounds_toArray, List.set_cons_zero, List.set_cons_succ]
                          refine wpAnyH_take (i := 11) (oi := ⟨some 227, _, _, _, _, _⟩) (v := ?_) rfl (by kernel_rfl) (by kernel_rfl) (by kernel_rfl) (fun _ _ _ h => h) (Or.inl ⟨by rfl, ?_⟩) (by assumption) ?_
                          rotate_left
                          · intro w hSw; (try dsimp only at hSw); go_simp; all_goals (with_reducible rfl)
                          try simp only [Act.put, List.setIfInBounds_toArray, List.set_cons_zero, List.set_cons_succ]
                          refine wpAnyH_take (i := 12) (oi := ⟨some 228, _, _, _, _, _⟩) (v := ?_) rfl (by kernel_rfl) (by kernel_rfl) (by kernel_rfl) (fun _ _ _ h => h) (Or.inl ⟨by rfl, ?_⟩) (by assumption) ?_
                          rotate_left
                          · intro w hSw; (try dsimp only at hSw); go_simp; all_goals (with_reducible rfl)
                          try simp only [Act.put, List.setIfInBounds_toArray, List.set_cons_zero, List.set_cons_succ]
                          refine wpAnyH_take (i := 13) (oi := ⟨some 229, _, _, _, _, _⟩) (v := ?_) rfl (by kernel_rfl) (by kernel_rfl) (by kernel_rfl) (fun _ _ _ h => h) (Or.inl ⟨by rfl, ?_⟩) (by assumption) ?_
                          rotate_left
                          · intro w hSw; (try dsimp only at hSw); go_simp; all_goals (with_reducible rfl)
                          try simp only [Act.put, List.setIfInBounds_toArray, List.set_cons_zero, List.set_cons_succ]
                          refine wpAnyH_take (i := 14) (oi := ⟨some 230, _, _, _, _, _⟩) (v := ?_) rfl (by kernel_rfl) (by kernel_rfl) (by kernel_rfl) (fun _ _ _ h => h) (Or.inl ⟨by rfl, ?_⟩) (by assumption) ?_
                          rotate_left
                          · intro w hSw; (try dsimp only at hSw); go_simp; all_goals (with_reducible rfl)
                          try simp only [Act.put, List.setIfInBounds_toArray, List.set_cons_zero, List.set_cons_succ]
                          refine wpAnyH_take (i := 15) (oi := ⟨some 231, _, _, _, _, _⟩) (v := ?_) rfl (by kernel_rfl) (by kernel_rfl) (by kernel_rfl) (fun _ _ _ h => h) (Or.inl ⟨by rfl, ?_⟩) (by assumption) ?_
                          rotate_left
                          · intro w hSw; (try dsimp only at hSw); go_simp; all_goals (with_reducible rfl)
                          try simp only [Act.put, List.setIfInBounds_toArray, List.set_cons_zero, List.set_cons_succ]
                          refine wpAnyH_take (i := 16) (oi := ⟨some 232, _, _, _, _, _⟩) (v := ?_) rfl (by kernel_rfl) (by kernel_rfl) (by kernel_rfl) (fun _ _ _ h => h) (Or.inl ⟨by rfl, ?_⟩) (by assumption) ?_
                          rotate_left
                          · intro w hSw; (try dsimp only at hSw); go_simp; all_goals (with_reducible rfl)
                          try simp only [Act.put, List.setIfInBounds_toArray, List.set_cons_zero, List.set_cons_succ]
                          refine wpAnyH_take (i := 17) (oi := ⟨some 233, _, _, _, _, _⟩) (v := ?_) rfl (by kernel_rfl) (by kernel_rfl) (by kernel_rfl) (fun _ _ _ h => h) (Or.inl ⟨by rfl, ?_⟩) (by assumption) ?_
                          rotate_left
                          · intro w hSw; (try dsimp only at hSw); go_simp; all_goals (with_reducible rfl)
                          try simp only [Act.put, List.setIfInBounds_toArray, List.set_cons_zero, List.set_cons_succ]
                          refine wpAnyH_take (i := 18) (oi := ⟨some 234, _, _, _, _, _⟩) (v := ?_) rfl (by kernel_rfl) (by kernel_rfl) (by kernel_rfl) (fun _ _ _ h => h) (Or.inl ⟨by rfl, ?_⟩) (by assumption) ?_
                          rotate_left
                          · intro w hSw; (try dsimp only at hSw); go_simp; all_goals (with_reducible rfl)
                          try simp only [Act.put, List.setIfInBounds_toArray, List.set_cons_zero, List.set_cons_succ]
                          refine wpAnyH_take (i := 19) (oi := ⟨some 235, _, _, _, _, _⟩) (v := ?_) rfl (by kernel_rfl) (by kernel_rfl) (by kernel_rfl) (fun _ _ _ h => h) (Or.inl ⟨by rfl, ?_⟩) (by assumption) ?_
                          rotate_left
                          · intro w hSw; (try dsimp only at hSw); go_simp; all_goals (with_reducible rfl)
                          try simp only [Act.put, List.setIfInBounds_toArray, List.set_cons_zero, List.set_cons_succ]
                          refine wpAnyH_take (i := 20) (oi := ⟨some 236, _, _, _, _, _⟩) (v := ?_) rfl (by kernel_rfl) (by kernel_rfl) (by kernel_rfl) (fun _ _ _ h => h) (Or.inl ⟨by rfl, ?_⟩) (by assumption) ?_
                          rotate_left
                          · intro w hSw; (try dsimp only at hSw); go_simp; all_goals (with_reducible rfl)
                          try simp only [Act.put, List.setIfInBounds_toArray, List.set_cons_zero, List.set_cons_succ]
                          refine wpAnyH_take (i := 21) (oi := ⟨some 237, _, _, _, _, _⟩) (v := ?_) rfl (by kernel_rfl) (by kernel_rfl) (by kernel_rfl) (fun _ _ _ h => h) (Or.inl ⟨by rfl, ?_⟩) (by assumption) ?_
                          rotate_left
                          · intro w hSw; (try dsimp only at hSw); go_simp; all_goals (with_reducible rfl)
                          try simp only [Act.put, List.setIfInBounds_toArray, List.set_cons_zero, List.set_cons_succ]
                          refine wpAnyH_take (i := 22) (oi := ⟨some 238, _, _, _, _, _⟩) (v := ?_) rfl (by kernel_rfl) (by kernel_rfl) (by kernel_rfl) (fun _ _ _ h => h) (Or.inl ⟨by rfl, ?_⟩) (by assumption) ?_
                          rotate_left
                          · intro w hSw; (try dsimp only at hSw); go_simp; all_goals (with_reducible rfl)
                          try simp only [Act.put, List.setIfInBounds_toArray, List.set_cons_zero, List.set_cons_succ]
                          refine wpAnyH_take (i := 23) (oi := ⟨some 239, _, _, _, _, _⟩) (v := ?_) rfl (by kernel_rfl) (by kernel_rfl) (by kernel_rfl) (fun _ _ _ h => h) (Or.inl ⟨by rfl, ?_⟩) (by assumption) ?_
                          rotate_left
                          · intro w hSw; (try dsimp only at hSw); go_simp; all_goals (with_reducible rfl)
                          try simp only [Act.put, List.setIfInBounds_toArray, List.set_cons_zero, List.set_cons_succ]
                          refine wpAnyH_take (i := 24) (oi := ⟨some 240, _, _, _, _, _⟩) (v := ?_) rfl (by kernel_rfl) (by kernel_rfl) (by kernel_rfl) (fun _ _ _ h => h) (Or.inl ⟨by rfl, ?_⟩) (by assumption) ?_
                          rotate_left
                          · intro w hSw; (try dsimp only at hSw); go_simp; all_goals (with_reducible rfl)
                          try simp only [Act.put, List.setIfInBounds_toArray, List.set_cons_zero, List.set_cons_succ]
                          refine wpAnyH_take (i := 25) (oi := ⟨some 241, _, _, _, _, _⟩) (v := ?_) rfl (by kernel_rfl) (by kernel_rfl) (by kernel_rfl) (fun _ _ _ h => h) (Or.inl ⟨by rfl, ?_⟩) (by assumption) ?_
                          rotate_left
                          · intro w hSw; (try dsimp only at hSw); go_simp; all_goals (with_reducible rfl)
                          try simp only [Act.put, List.setIfInBounds_toArray, List.set_cons_zero, List.set_cons_succ]
                          refine wpAnyH_take (i := 26) (oi := ⟨some 242, _, _, _, _, _⟩) (v := ?_) rfl (by kernel_rfl) (by kernel_rfl) (by kernel_rfl) (fun _ _ _ h => h) (Or.inl ⟨by rfl, ?_⟩) (by assumption) ?_
                          rotate_left
                          · intro w hSw; (try dsimp only at hSw); go_simp; all_goals (with_reducible rfl)
                          try simp only [Act.put, List.setIfInBounds_toArray, List.set_cons_zero, List.set_cons_succ]
                          refine wpAnyH_take (i := 27) (oi := ⟨some 243, _, _, _, _, _⟩) (v := ?_) rfl (by kernel_rfl) (by kernel_rfl) (by kernel_rfl) (fun _ _ _ h => h) (Or.inl ⟨by rfl, ?_⟩) (by assumption) ?_
                          rotate_left
                          · intro w hSw; (try dsimp only at hSw); go_simp; all_goals (with_reducible rfl)
                          try simp only [Act.put, List.setIfInBounds_toArray, List.set_cons_zero, List.set_cons_succ]
                          refine wpAnyH_take (i := 28) (oi := ⟨some 244, _, _, _, _, _⟩) (v := ?_) rfl (by kernel_rfl) (by kernel_rfl) (by kernel_rfl) (fun _ _ _ h => h) (Or.inl ⟨by rfl, ?_⟩) (by assumption) ?_
                          rotate_left
                          · intro w hSw; (try dsimp only at hSw); go_simp; all_goals (with_reducible rfl)
                          try simp only [Act.put, List.setIfInBounds_toArray, List.set_cons_zero, List.set_cons_succ]
                          refine wpAnyH_take (i := 29) (oi := ⟨some 245, _, _, _, _, _⟩) (v := ?_) rfl (by kernel_rfl) (by kernel_rfl) (by kernel_rfl) (fun _ _ _ h => h) (Or.inl ⟨by rfl, ?_⟩) (by assumption) ?_
                          rotate_left
                          · intro w hSw; (try dsimp only at hSw); go_simp; all_goals (with_reducible rfl)
                          try simp only [Act.put, List.setIfInBounds_toArray, List.set_cons_zero, List.set_cons_succ]
                          refine wpAnyH_take (i := 30) (oi := ⟨some 246, _, _, _, _, _⟩) (v := ?_) rfl (by kernel_rfl) (by kernel_rfl) (by kernel_rfl) (fun _ _ _ h => h) (Or.inl ⟨by rfl, ?_⟩) (by assumption) ?_
                          rotate_left
                          · intro w hSw; (try dsimp only at hSw); go_simp; all_goals (with_reducible rfl)
                          try simp only [Act.put, List.setIfInBounds_toArray, List.set_cons_zero, List.set_cons_succ]
                          refine wpAnyH_done (by kernel_rfl) ?_ _
                          refine NoPanic.normal ?_
                          clear hHeld hcellY hcellMY hw8 ht8 h08
                          go_wp2_with fail
                          go_roundw
                          case rel => exact ⟨k + 1, by omega, by go_num, below_trans HBS.out (below_trans HBY.out (below_drew wY))⟩
                          case measure => simp [intOf]; omega
                    · go_wp2_with fail
                      go_ret
                      exact ⟨rfl, below_trans HWF.out HBS.out⟩
end Go.Proofs.Ytiglkmdeokmnhab
