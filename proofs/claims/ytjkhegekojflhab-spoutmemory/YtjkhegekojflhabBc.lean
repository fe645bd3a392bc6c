/- The reference's Keys. -/
import Derived.Test.YtjkhegekojflhabBb
import Derived.Test.YtjkhegekojflhabXv
namespace Go.Proofs.Ytjkhegekojflhab
open Ieee Go.RowKit

/-- The keys of the first p logs and of the first i records of the log p. -/
def Kg (S : Sc) (p i : Nat) (ks : List Nat) : Prop := RiseK ks ∧ ks.length ≤ p * 256 + i ∧ ∀ k, k ∈ ks ↔ (∃ q, q < p ∧ ∃ r ∈ S.logs q, (runS S.list r).1 = 1 ∧ (runS S.list r).2.k = k) ∨ ∃ r ∈ (S.logs p).take i, (runS S.list r).1 = 1 ∧ (runS S.list r).2.k = k
theorem kg_start (S : Sc) : Kg S 0 0 [] := ⟨by simp [RiseK], by simp, fun k => by simp⟩
set_option maxRecDepth 100000 in
theorem kg_next {S : Sc} {p i : Nat} {ks : List Nat} (h : Kg S p i ks) (hi : i = (S.logs p).length) (h6 : i ≤ 256) : Kg S (p + 1) 0 ks := by
  have h2 : ks.length ≤ p * 256 + i := h.2.1
  have h3 : ks.length ≤ (p + 1) * 256 + 0 := by omega
  refine ⟨h.1, h3, fun k => ?_⟩
  rw [h.2.2 k, hi, List.take_length]
  constructor
  · rintro (⟨q, hq, r⟩ | r)
    · exact .inl ⟨q, by omega, r⟩
    · exact .inl ⟨p, by omega, r⟩
  · rintro (⟨q, hq, r⟩ | ⟨r, hr, _⟩)
    · rcases Nat.lt_or_ge q p with h2 | h2
      · exact .inl ⟨q, h2, r⟩
      · obtain rfl : q = p := by omega
        exact .inr r
    · simp at hr
theorem kg_skip {S : Sc} {p i : Nat} {ks : List Nat} {r : Rcd} (h : Kg S p i ks) (hi : i < (S.logs p).length) (hr : r = (S.logs p)[i]) (hf : (runS S.list r).1 ≠ 1) : Kg S p (i + 1) ks := by
  refine ⟨h.1, by have := h.2.1; omega, fun k => ?_⟩
  rw [h.2.2 k, List.take_succ_eq_append_getElem hi, ← hr]
  constructor
  · rintro (h | ⟨x, hx, e⟩)
    · exact .inl h
    · exact .inr ⟨x, List.mem_append_left _ hx, e⟩
  · rintro (h | ⟨x, hx, e⟩)
    · exact .inl h
    · rcases List.mem_append.1 hx with hx | hx
      · exact .inr ⟨x, hx, e⟩
      · simp at hx; subst hx; exact absurd e.1 hf
theorem kg_keep {S : Sc} {p i : Nat} {ks : List Nat} {r : Rcd} (h : Kg S p i ks) (hi : i < (S.logs p).length) (hr : r = (S.logs p)[i]) (hf : (runS S.list r).1 = 1) : Kg S p (i + 1) (insK (runS S.list r).2.k ks) := by
  refine ⟨rise_insK h.1, by have := h.2.1; have := insK_le (k := (runS S.list r).2.k) (l := ks); omega, fun k => ?_⟩
  rw [mem_insK, h.2.2 k, List.take_succ_eq_append_getElem hi, ← hr]
  constructor
  · rintro (rfl | h | ⟨x, hx, e⟩)
    · exact .inr ⟨r, by simp, hf, rfl⟩
    · exact .inl h
    · exact .inr ⟨x, List.mem_append_left _ hx, e⟩
  · rintro (h | ⟨x, hx, e⟩)
    · exact .inr (.inl h)
    · rcases List.mem_append.1 hx with hx | hx
      · exact .inr (.inr ⟨x, hx, e⟩)
      · simp at hx; subst hx; exact .inl e.2.symm
theorem kg_end {S : Sc} {ks : List Nat} (h : Kg S S.np 0 ks) (hok : S.ok) : ks = S.keys := by
  refine rise_ext h.1 hok.kr (fun k => ?_)
  rw [h.2.2 k, hok.mem k]
  simp

/-- Where the loops of the reference's Keys stand. -/
def Kr (w : World) (S : Sc) (p i : Nat) (lv : Value) (wr : World) : Prop :=
  ∃ g cap ks, lv = .slice (some ⟨g, 0, none⟩) ks.length cap ∧ Uw wr g cap ks ∧ w.heap.size ≤ g ∧ Kg S p i ks ∧ Below w.heap.size w wr

theorem Rl.get {w : World} {ao : Option Addr} {l : List Rcd} (h : Rl w ao l) {i : Nat} (hi : i < l.length) : ∃ b off, ao = some ⟨b, off, none⟩ ∧ w.cell? ⟨b, off + i * 2, none⟩ = some (.int .u64 l[i].k) ∧ w.cell? ⟨b, off + i * 2 + 1, none⟩ = some (.float .f64 l[i].x) := h i hi

set_option maxRecDepth 100000 in
set_option maxHeartbeats 4000000 in
theorem rkeys_walk {D : Nat → Prop} {w : World} {v : Value} {S : Sc} (h : Rs D w v S) :
    Calls Try.prog 35 #[v] w fun e w' => ∃ g cap, e = .returned (.slice (some ⟨g, 0, none⟩) S.keys.length cap) ∧ Uw w' g cap S.keys ∧ w.heap.size ≤ g ∧ Below w.heap.size w w' := by
  have HW : Hid (Rs D w v S) := h
  obtain ⟨sb, gp, gq, lv, rv, rfl, h, hok⟩ := h
  have HS : Hid (RM D w sb gp gq lv rv S) := h
  have HK : Hid S.ok := hok
  have h4 := hok.np4
  clear h hok
  go_enter Try.func35, Try.ntmps35
  go_wp2_with fail
  have R0 : ∃ p : Nat, p ≤ S.np ∧ Value.int .i64 0 = .int .i64 p ∧ Kr w S p 0 (.slice (some ⟨w.heap.size, 0, none⟩) 0 0) (w.alloc (Obj.cells #[] 37)) :=
    ⟨0, Nat.zero_le _, rfl, w.heap.size, 0, [], rfl, ⟨⟨#[], heap_alloc_new w _, rfl, fun i hi => by simp at hi⟩, Nat.le_refl _, Nat.zero_le _⟩, Nat.le_refl _, kg_start S, below_alloc _ _⟩
  go_loopw [3, 4] (fun lv pv wr => ∃ p : Nat, p ≤ S.np ∧ pv = .int .i64 p ∧ Kr w S p 0 lv wr) (fun _ pv _ => S.np - (intOf pv).toNat)
  case atStart => exact R0
  case round =>
    clear R0
    obtain ⟨p, hp, rfl, g, cap, ks, rfl, hU, hg, hKg, hB⟩ := hrel
    have HKR : Hid (Kr w S p 0 (.slice (some ⟨g, 0, none⟩) ks.length cap) wr) := ⟨g, cap, ks, rfl, hU, hg, hKg, hB⟩
    have HUW : Hid (Uw wr g cap ks) := hU
    have HG : Hid (w.heap.size ≤ g) := hg
    have HKG : Hid (Kg S p 0 ks) := hKg
    have HB : Hid (Below w.heap.size w wr) := hB
    clear hU hg hKg hB
    by_cases hlt : p < S.np
    · have hli : (p : Int) < (S.np : Int) := by omega
      have hn := HK.out.len p
      obtain ⟨n, hne⟩ : ∃ n, n = (S.logs p).length := ⟨_, rfl⟩
      rw [← hne] at hn
      obtain ⟨ao, cp, hrv, _⟩ := row_form (HS.out.rows p hlt)
      rw [← hne] at hrv
      have HNE : Hid (n = (S.logs p).length) := hne
      have HRV : Hid (rv p = .slice ao n cp) := hrv
      clear hne hrv
      go_wp2_with (go_at_call 44; refine (rparts_walk (HW.out.below HB.out)).mono ?_; rintro e w9 ⟨rfl, h9⟩; have h9 := h9.symm; subst h9)
      go_loopw [3, 5] (fun lv iv wx => ∃ i : Nat, i ≤ n ∧ iv = .int .i64 i ∧ Kr w S p i lv wx) (fun _ iv _ => n - (intOf iv).toNat)
      case atStart => exact ⟨0, Nat.zero_le _, rfl, HKR.out⟩
      case round =>
        clear HKR HUW HG HKG HB
        obtain ⟨i, hi, hiv, g, cap, ks, hlv, hU, hg, hKg, hB⟩ := hrel
        subst hiv
        subst hlv
        have HUW : Hid (Uw wr g cap ks) := hU
        have HG : Hid (w.heap.size ≤ g) := hg
        have HKG : Hid (Kg S p i ks) := hKg
        have HB : Hid (Below w.heap.size w wr) := hB
        have HS1 : Hid (RM D wr sb gp gq lv rv S) := HS.out.below hB
        clear hU hg hKg hB
        have j0 : ∀ wx, Below wr.heap.size wr wx → wx.cell? ⟨sb, 0, none⟩ = some (.slice (some ⟨gp, 0, none⟩) S.np S.np) := fun wx hb => (HS1.out.below hb).c0
        have j1 : ∀ wx, Below wr.heap.size wr wx → wx.cell? ⟨sb, 2, none⟩ = some lv := fun wx hb => (HS1.out.below hb).c2
        have j2 : ∀ wx, Below wr.heap.size wr wx → wx.cell? ⟨gp, p, none⟩ = some (.slice ao n cp) := fun wx hb => by rw [(HS1.out.below hb).p0 hlt, HRV.out]
        have k0 := HS1.out.c0
        have k2 : wr.cell? ⟨gp, p, none⟩ = some (.slice ao n cp) := by rw [HS1.out.p0 hlt, HRV.out]
        by_cases hin : i < n
        · have hil : (i : Int) < (n : Int) := by omega
          have HIL : Hid (i < (S.logs p).length) := by show _ < _; rw [← HNE.out]; exact hin
          obtain ⟨⟨ao2, cp2, e2, _, _, _, hRl⟩, hrok⟩ := HS1.out.recs HK.out hlt
          rw [HRV.out] at e2
          simp only [Value.slice.injEq] at e2
          obtain ⟨e3, _, _⟩ := e2
          subst e3
          obtain ⟨b, off, hao, c0, c1⟩ := Rl.get hRl HIL.out
          subst hao
          have HRK : Hid ((S.logs p)[i]'HIL.out).ok := hrok _ (List.getElem_mem _)
          obtain ⟨r, hre⟩ : ∃ r, r = (S.logs p)[i]'HIL.out := ⟨_, rfl⟩
          rw [← hre] at c0 c1 HRK
          have HRE : Hid (r = (S.logs p)[i]'HIL.out) := hre
          have j3 : ∀ wx, Below wr.heap.size wr wx → wx.cell? ⟨b, off + i * 2, none⟩ = some (.int .u64 r.k) := fun wx hb => by rw [hb.cell (p := ⟨b, off + i * 2, none⟩) (cell_lt c0)]; exact c0
          have j4 : ∀ wx, Below wr.heap.size wr wx → wx.cell? ⟨b, off + i * 2 + 1, none⟩ = some (.float .f64 r.x) := fun wx hb => by rw [hb.cell (p := ⟨b, off + i * 2 + 1, none⟩) (cell_lt c1)]; exact c1
          obtain ⟨R, hR⟩ : ∃ R, R = runS S.list r := ⟨_, rfl⟩
          have HR : Hid (R = runS S.list r) := hR
          clear hR hre hRl hrok
          go_wp2_with fail
          go_cut [6, 7] (fun kv bv wx => kv = .int .u64 R.2.k ∧ bv = .bool (R.1 == 1) ∧ Below wr.heap.size wr wx)
          case first =>
            go_region_held3 (fun wx => Below wr.heap.size wr wx) (first | assumption | exact (Below.refl _ _).drew)
              (first | (go_at_call 34; refine (rkey_walk r HRK.out ((HS1.out.below (by assumption)).list)).mono ?_; rw [← HR.out]; rintro e w5 ⟨rfl, hB3⟩; have hS3 : Below wr.heap.size wr w5 := below_trans (by assumption) hB3))
            all_goals go_wp2_with fail
            all_goals go_meet
            all_goals exact ⟨rfl, rfl, by assumption⟩
          case rest =>
            obtain ⟨hkv, hbv, hBc⟩ := hcut
            subst hkv
            subst hbv
            have HBC : Hid (Below wr.heap.size wr wc) := hBc
            clear j0 j1 j2 j3 j4 k0 k2 c0 c1 hBc
            by_cases hf : R.1 = 1
            · have hfb : (R.1 == 1) = true := by simp [hf]
              have HF : Hid ((runS S.list r).1 = 1) := by show _ = _; rw [← HR.out]; exact hf
              rw [hfb]
              clear hf hfb
              have HL4 : Hid (ks.length ≤ 4096) := by have := HKG.out.2.1; show _ ≤ _; omega
              go_wp2_with fail
              refine (rwithk_walk (k := R.2.k) wc (HUW.out.below HBC.out) (HG.out) HKG.out.1 HL4.out).mono ?_
              rintro e w6 ⟨g', cap', rfl, hU6, hg6, hB6⟩
              have HR6 : Hid (Kr w S p (i + 1) (.slice (some ⟨g', 0, none⟩) (insK R.2.k ks).length cap') w6) := ⟨g', cap', _, rfl, hU6, hg6, by have := kg_keep HKG.out HIL.out HRE.out HF.out; rw [← HR.out] at this; exact this, (below_trans HB.out HBC.out).trans hB6⟩
              clear hU6 hg6 hB6
              go_wp2_with fail
              go_roundw
              case rel => exact ⟨i + 1, hin, by simp, HR6.out⟩
              case measure => simp [intOf]; omega
            · have hfb : (R.1 == 1) = false := by simpa using hf
              have HF : Hid ((runS S.list r).1 ≠ 1) := by show _ ≠ _; rw [← HR.out]; exact hf
              rw [hfb]
              clear hf hfb
              have HR6 : Hid (Kr w S p (i + 1) (.slice (some ⟨g, 0, none⟩) ks.length cap) wc) := ⟨g, cap, ks, rfl, HUW.out.below HBC.out, HG.out, kg_skip HKG.out HIL.out HRE.out HF.out, below_trans HB.out HBC.out⟩
              go_wp2_with fail
              go_roundw
              case rel => exact ⟨i + 1, hin, by simp, HR6.out⟩
              case measure => simp [intOf]; omega
        · have hil : ¬ ((i : Int) < (n : Int)) := by omega
          have HR6 : Hid (Kr w S (p + 1) 0 (.slice (some ⟨g, 0, none⟩) ks.length cap) wr) := ⟨g, cap, ks, rfl, HUW.out, HG.out, kg_next HKG.out (by rw [← HNE.out]; omega) (by omega), HB.out⟩
          go_wp2_with fail
          go_roundw
          case rel => exact ⟨p + 1, hlt, by simp, HR6.out⟩
          case measure => simp [intOf]; omega
    · have hli : ¬ ((p : Int) < (S.np : Int)) := by omega
      have hpe : p = S.np := by omega
      have HE : Hid (ks = S.keys) := kg_end (hpe ▸ HKG.out) HK.out
      clear hpe
      go_wp2_with (go_at_call 44; refine (rparts_walk (HW.out.below HB.out)).mono ?_; rintro e w9 ⟨rfl, h9⟩; have h9 := h9.symm; subst h9)
      go_ret
      exact ⟨g, cap, by rw [← HE.out]; rfl, by rw [← HE.out]; exact HUW.out, HG.out, HB.out⟩
end Go.Proofs.Ytjkhegekojflhab
