/- The records between ends, and how many are left: the program's and the reference's. -/
import Derived.Test.YtjkhegekojflhaaNc
import Derived.Test.YtjkhegekojflhaaBf
namespace Go.Proofs.Ytjkhegekojflhaa
open Ieee Go.RowKit

section
variable {D : Nat → Prop} {w : World} {v lv av bv : Value} {S : Sc} {l a b : List Int}

/-- A loop that gathers records between ends: round k, what is gathered, the world. -/
def Bw (w : World) (S : Sc) (a b : List Int) (rv iv : Value) (wr : World) : Prop :=
  ∃ k : Nat, k ≤ a.length ∧ iv = .int .i64 k ∧ wr.ownsRow w.heap.size 66 2 rv (betS S a b k).length (flatR (betS S a b k)) ∧ Below w.heap.size w wr

theorem own_below {w w' : World} {base e s n : Nat} {v : Value} {xs : List Value} (h : w.ownsRow base e s v n xs) (hb : Below w.heap.size w w') : w'.ownsRow base e s v n xs := row_keep h (fun x hx => hb.block x (h.lt x hx).2)

theorem bw_step {w' : World} {k : Nat} {rv : Value} {n : Nat} (hlt : k < a.length) (ho : w'.ownsRow w.heap.size 66 2 rv n (flatR (betS S a b k ++ ((S.logs k).drop (nth a k).toNat).take ((nth b k).toNat - (nth a k).toNat)))) (hB : Below w.heap.size w w') :
    Bw w S a b rv (.int .i64 ((k : Int) + 1)) w' := by
  refine ⟨k + 1, hlt, by simp, ?_, hB⟩
  have hn : n = (betS S a b (k + 1)).length := by have := ho.1; rw [flatR_len] at this; simp only [betS]; omega
  rw [← hn]
  exact ho

set_option maxRecDepth 100000 in
set_option maxHeartbeats 2000000 in
theorem between_walk (h : Src D w v S) (ha : Nv w av a) (hb : Nv w bv b) (hfa : Fit S a) (hfb : Fit S b) (hf : Fwd a b) :
    Calls Try.prog 33 #[v, av, bv] w fun e w' => ∃ r, e = .returned r ∧ w'.ownsRow w.heap.size 66 2 r (betS S a b a.length).length (flatR (betS S a b a.length)) ∧ Below w.heap.size w w' := by
  have HS : Hid (Src D w v S) := h
  have HA : Hid (Nv w av a) := ha
  have HB : Hid (Nv w bv b) := hb
  have HFA : Hid (Fit S a) := hfa
  have HFB : Hid (Fit S b) := hfb
  have HF : Hid (Fwd a b) := hf
  obtain ⟨ao, ca, rfl, hla, _⟩ := ha.form
  obtain ⟨bo, cb, rfl, hlb, _⟩ := hb.form
  have HK : Hid S.ok := h.good
  clear ha hb h hfa hfb hf
  go_enter Try.func33, Try.ntmps33
  go_wp2_with fail
  go_loopw [7, 11] (fun rv iv wr => Bw w S a b rv iv wr) (fun _ iv _ => a.length - (intOf iv).toNat)
  case atStart => exact ⟨0, Nat.zero_le _, rfl, World.ownsRow_nil _ _ _ _, below_same _⟩
  case round =>
    obtain ⟨k, hk, rfl, hO, hB⟩ := hrel
    have HW : Hid (Below w.heap.size w wr) := hB
    have HO : Hid (wr.ownsRow w.heap.size 66 2 u7 (betS S a b k).length (flatR (betS S a b k))) := hO
    clear hB hO
    by_cases hlt : k < a.length
    · have hltb : k < b.length := by have := HF.out.1; omega
      have hkn : k < S.np := by have := HFA.out.1; omega
      obtain ⟨g, off, rfl, c0⟩ := HA.out.at hlt
      obtain ⟨d, doff, rfl, d0⟩ := HB.out.at hltb
      obtain ⟨X, hX⟩ : ∃ X : Nat, (X : Int) = nth a k := ⟨(nth a k).toNat, by have := HFA.out.2 k hlt; omega⟩
      obtain ⟨Y, hY⟩ : ∃ Y : Nat, (Y : Int) = nth b k := ⟨(nth b k).toNat, by have := HFB.out.2 k hltb; omega⟩
      rw [← hX] at c0
      rw [← hY] at d0
      have hXY : X ≤ Y := by have := HF.out.2 k hlt; omega
      have hYn : Y ≤ (S.logs k).length := by have := (HFB.out.2 k hltb).2; rw [lenS_at hkn] at this; omega
      have HXY : Hid (X ≤ Y ∧ Y ≤ (S.logs k).length) := ⟨hXY, hYn⟩
      have HX : Hid ((X : Int) = nth a k) := hX
      have HY : Hid ((Y : Int) = nth b k) := hY
      have HLG : Hid (logS S k = S.logs k) := logS_at hkn
      have hl256 : (S.logs k).length ≤ 256 := HK.out.len k
      have hlti : (k : Int) < (a.length : Int) := by omega
      have hltbi : (k : Int) < (b.length : Int) := by omega
      have hXYi : (X : Int) ≤ (Y : Int) := by omega
      have j0 : ∀ wx, Below w.heap.size w wx → wx.cell? ⟨g, off + k, none⟩ = some (.int .i64 (X : Int)) := fun wx hb => by rw [hb.cell (p := ⟨g, off + k, none⟩) (cell_lt c0)]; exact c0
      have j1 : ∀ wx, Below w.heap.size w wx → wx.cell? ⟨d, doff + k, none⟩ = some (.int .i64 (Y : Int)) := fun wx hb => by rw [hb.cell (p := ⟨d, doff + k, none⟩) (cell_lt d0)]; exact d0
      have HBL : Hid ((betS S a b k).length ≤ 4 * 256) := by show _ ≤ _; have := betS_le HK.out a b k; have := HK.out.np4; omega
      have hSd : Below w.heap.size w wr.drew := HW.out.drew
      clear c0 d0 hX hY hXY hYn
      go_wp2_with fail
      go_region_held3 (fun wx => Below w.heap.size w wx) (assumption)
        (first
          | (go_at_call 48; refine (log_walk (HS.out.below (by assumption)) k).mono ?_; rw [HLG.out]; rintro e w5 ⟨lr, rfl, hlr, hB5⟩; have HR5 : Hid (Rv w5 lr (S.logs k)) := own_rv hlr (HK.out.rok k); obtain ⟨lo, lc, hlv, hnc, _⟩ := row_form hlr; subst hlv; clear hlr; have hYc : (Y : Int) ≤ (lc : Int) := (by have := HXY.out; omega); have hS5 : Below w.heap.size w w5 := below_trans (by assumption) hB5; have HO5 : Hid (w5.ownsRow w.heap.size 66 2 u7 (betS S a b k).length (flatR (betS S a b k))) := own_below HO.out (below_trans (below_drewN _ _) hB5))
          | (refine step_app_rv rfl (.tmp 14) (.tmp 26) 22 rfl w.heap.size 66 Try.underlying22 info_rec u7 _ (betS S a b k) (by simp [Act.eval]) HO5.out _ (((S.logs k).drop X).take (Y - X)) (by simp [Act.eval]) (cut_piece HR5.out HXY.out.1 HXY.out.2) (by (have := HBL.out); simp; omega) hS5.size ?_; intro v' w7 g1 g2; have hS7 : Below w.heap.size w w7 := hS5.grown g2 hS5.size (fun x hx => (HO5.out.lt x hx).1)))
      all_goals go_wp2_with fail
      all_goals go_roundw
      all_goals first
        | exact bw_step hlt (by rw [← HX.out, ← HY.out]; exact g1) hS7
        | (simp [intOf]; omega)
    · have hke : k = a.length := by omega
      have hnl : ¬ ((k : Int) < (a.length : Int)) := by omega
      have HKE : Hid (k = a.length) := hke
      clear hke
      go_wp2_with fail
      go_ret
      exact ⟨u7, rfl, HKE.out ▸ HO.out, HW.out⟩

set_option maxRecDepth 100000 in
set_option maxHeartbeats 2000000 in
theorem rbetween_walk (h : Rs D w v S) (ha : Nv w av a) (hb : Nv w bv b) (hfa : Fit S a) (hfb : Fit S b) (hf : Fwd a b) :
    Calls Try.prog 42 #[v, av, bv] w fun e w' => ∃ r, e = .returned r ∧ w'.ownsRow w.heap.size 66 2 r (betS S a b a.length).length (flatR (betS S a b a.length)) ∧ Below w.heap.size w w' := by
  have HS : Hid (Rs D w v S) := h
  have HA : Hid (Nv w av a) := ha
  have HB : Hid (Nv w bv b) := hb
  have HFA : Hid (Fit S a) := hfa
  have HFB : Hid (Fit S b) := hfb
  have HF : Hid (Fwd a b) := hf
  obtain ⟨ao, ca, rfl, hla, _⟩ := ha.form
  obtain ⟨bo, cb, rfl, hlb, _⟩ := hb.form
  have HK : Hid S.ok := h.good
  clear ha hb h hfa hfb hf
  go_enter Try.func42, Try.ntmps42
  go_wp2_with fail
  go_loopw [7, 8] (fun rv iv wr => Bw w S a b rv iv wr) (fun _ iv _ => a.length - (intOf iv).toNat)
  case atStart => exact ⟨0, Nat.zero_le _, rfl, World.ownsRow_made w #[] 0 (Nat.le_refl _) (by simp [maxLen]) (by simp), below_alloc _ _⟩
  case round =>
    obtain ⟨k, hk, rfl, hO, hB⟩ := hrel
    have HW : Hid (Below w.heap.size w wr) := hB
    have HO : Hid (wr.ownsRow w.heap.size 66 2 u7 (betS S a b k).length (flatR (betS S a b k))) := hO
    clear hB hO
    by_cases hlt : k < a.length
    · have hltb : k < b.length := by have := HF.out.1; omega
      have hkn : k < S.np := by have := HFA.out.1; omega
      obtain ⟨g, off, rfl, c0⟩ := HA.out.at hlt
      obtain ⟨d, doff, rfl, d0⟩ := HB.out.at hltb
      obtain ⟨X, hX⟩ : ∃ X : Nat, (X : Int) = nth a k := ⟨(nth a k).toNat, by have := HFA.out.2 k hlt; omega⟩
      obtain ⟨Y, hY⟩ : ∃ Y : Nat, (Y : Int) = nth b k := ⟨(nth b k).toNat, by have := HFB.out.2 k hltb; omega⟩
      rw [← hX] at c0
      rw [← hY] at d0
      have hXY : X ≤ Y := by have := HF.out.2 k hlt; omega
      have hYn : Y ≤ (S.logs k).length := by have := (HFB.out.2 k hltb).2; rw [lenS_at hkn] at this; omega
      have HXY : Hid (X ≤ Y ∧ Y ≤ (S.logs k).length) := ⟨hXY, hYn⟩
      have HX : Hid ((X : Int) = nth a k) := hX
      have HY : Hid ((Y : Int) = nth b k) := hY
      have HLG : Hid (logS S k = S.logs k) := logS_at hkn
      have hl256 : (S.logs k).length ≤ 256 := HK.out.len k
      have hlti : (k : Int) < (a.length : Int) := by omega
      have hltbi : (k : Int) < (b.length : Int) := by omega
      have hXYi : (X : Int) ≤ (Y : Int) := by omega
      have j0 : ∀ wx, Below w.heap.size w wx → wx.cell? ⟨g, off + k, none⟩ = some (.int .i64 (X : Int)) := fun wx hb => by rw [hb.cell (p := ⟨g, off + k, none⟩) (cell_lt c0)]; exact c0
      have j1 : ∀ wx, Below w.heap.size w wx → wx.cell? ⟨d, doff + k, none⟩ = some (.int .i64 (Y : Int)) := fun wx hb => by rw [hb.cell (p := ⟨d, doff + k, none⟩) (cell_lt d0)]; exact d0
      have HBL : Hid ((betS S a b k).length ≤ 4 * 256) := by show _ ≤ _; have := betS_le HK.out a b k; have := HK.out.np4; omega
      clear c0 d0 hX hY hXY hYn
      go_wp2_with fail
      refine (rlog_walk (HS.out.below HW.out) k).mono ?_
      rw [HLG.out]
      rintro e w5 ⟨lr, rfl, hlr, hB5⟩
      have HR5 : Hid (Rv w5 lr (S.logs k)) := own_rv hlr (HK.out.rok k)
      obtain ⟨lo, lc, hlv, hnc, _⟩ := row_form hlr
      subst hlv
      have hYc : (Y : Int) ≤ (lc : Int) := by have := HXY.out; omega
      have HS5 : Hid (Below w.heap.size w w5) := below_trans HW.out hB5
      have HO5 : Hid (w5.ownsRow w.heap.size 66 2 u7 (betS S a b k).length (flatR (betS S a b k))) := own_below HO.out hB5
      have hSd : Below w.heap.size w w5.drew := HS5.out.drew
      have HR6 : Hid (Rv w5.drew (.slice lo (S.logs k).length lc) (S.logs k)) := HR5.out.below (below_drewN _ _)
      have HO6 : Hid (w5.drew.ownsRow w.heap.size 66 2 u7 (betS S a b k).length (flatR (betS S a b k))) := own_below HO5.out (below_drewN _ _)
      clear hlr hB5
      go_wp2_with fail
      go_region_held3 (fun wx => Below w.heap.size w wx) (assumption)
        (first
          | (refine step_app_rv rfl (.tmp 20) (.tmp 30) 22 rfl w.heap.size 66 Try.underlying22 info_rec u7 _ (betS S a b k) (by simp [Act.eval]) HO6.out _ (((S.logs k).drop X).take (Y - X)) (by simp [Act.eval]) (cut_piece HR6.out HXY.out.1 HXY.out.2) (by (have := HBL.out); simp; omega) hSd.size ?_; intro v' w7 g1 g2; have hS7 : Below w.heap.size w w7 := hSd.grown g2 hSd.size (fun x hx => (HO6.out.lt x hx).1)))
      all_goals go_wp2_with fail
      all_goals go_roundw
      all_goals first
        | exact bw_step hlt (by rw [← HX.out, ← HY.out]; exact g1) hS7
        | (simp [intOf]; omega)
    · have hke : k = a.length := by omega
      have hnl : ¬ ((k : Int) < (a.length : Int)) := by omega
      have HKE : Hid (k = a.length) := hke
      clear hke
      go_wp2_with fail
      go_ret
      exact ⟨u7, rfl, HKE.out ▸ HO.out, HW.out⟩

theorem left_step {k : Nat} {L x : Int} {m : Nat} (hL : L = leftS S l k) (hx : x = nth l k) (hm : m = lenS S k) : L + ((m : Int) - x) = leftS S l (k + 1) := by
  subst hL hx hm; rfl

def leftI (S : Sc) (l : List Int) : Int := if fitB S l = true then 0 else 70
def leftN (S : Sc) (l : List Int) : Int := if fitB S l = true then leftS S l l.length else 0

set_option maxRecDepth 100000 in
theorem left_walk (h : Src D w v S) (hl : Nv w lv l) : Calls Try.prog 18 #[v, lv] w fun e w' => e = .returned (.tuple #[.int .i64 (leftN S l), .int .i64 (leftI S l)]) ∧ Below w.heap.size w w' := by
  have HS : Hid (Src D w v S) := h
  have HA : Hid (Nv w lv l) := hl
  have HK : Hid S.ok := h.good
  obtain ⟨ao, ca, rfl, hla, _⟩ := hl.form
  have hv : ∃ sb, v = .pointer (some ⟨sb, 0, none⟩) := by obtain ⟨sb, _, _, _, _, e, _⟩ := h; exact ⟨sb, e⟩
  obtain ⟨sb, rfl⟩ := hv
  clear hl h
  unfold leftN leftI
  by_cases hf : Fit S l
  · have HF : Hid (Fit S l) := hf
    have HD : Hid (fitB S l = true) := Fit.yes hf
    rw [if_pos hf.yes, if_pos hf.yes]
    clear hf
    go_enter Try.func18, Try.ntmps18
    go_wp2_with fail
    refine (fits_walk HS.out HA.out).mono ?_
    rw [HD.out]
    rintro e w1 ⟨rfl, hB1⟩
    have HW1 : Hid (Below w.heap.size w w1) := hB1
    clear hB1
    go_wp2_with fail
    go_loopw [6, 17] (fun nv iv wr => ∃ k : Nat, k ≤ l.length ∧ iv = .int .i64 k ∧ nv = .int .i64 (leftS S l k) ∧ Below w.heap.size w wr) (fun _ iv _ => l.length - (intOf iv).toNat)
    case atStart => exact ⟨0, Nat.zero_le _, rfl, rfl, HW1.out⟩
    case round =>
      obtain ⟨k, hk, rfl, rfl, hB⟩ := hrel
      have HW : Hid (Below w.heap.size w wr) := hB
      clear hB
      obtain ⟨L, hL⟩ : ∃ L, L = leftS S l k := ⟨_, rfl⟩
      have hLb := leftS_le HK.out HF.out k hk
      rw [← hL] at hLb
      rw [← hL]
      have HL : Hid (L = leftS S l k) := hL
      have hk4 : k ≤ 4 := by have := HF.out.1; have := HK.out.np4; omega
      have hLb2 : L ≤ 1024 := by omega
      obtain ⟨hL0, _⟩ := hLb
      clear hL
      by_cases hlt : k < l.length
      · obtain ⟨g, off, rfl, c0⟩ := (HA.out.below HW.out).at hlt
        obtain ⟨x, hx⟩ : ∃ x, x = nth l k := ⟨_, rfl⟩
        rw [← hx] at c0
        have HX : Hid (x = nth l k) := hx
        obtain ⟨m, hm⟩ : ∃ m, m = lenS S k := ⟨_, rfl⟩
        have HM : Hid (m = lenS S k) := hm
        have hxm := HF.out.2 k hlt
        rw [← hx, ← hm] at hxm
        obtain ⟨hx0, hxm⟩ := hxm
        have hm256 : m ≤ 256 := by rw [hm]; exact lenS_le HK.out _
        clear hx hm
        have hlti : (k : Int) < (l.length : Int) := by omega
        have r1 : IntKind.i64.wrap ((m : Int) - x) = (m : Int) - x := wrapU (by omega) (by omega)
        have r2 : IntKind.i64.wrap (L + ((m : Int) - x)) = L + ((m : Int) - x) := wrapU (by omega) (by omega)
        go_wp2_with (go_at_call 29; refine (len_walk (HS.out.below HW.out) k).mono ?_; rw [← HM.out]; rintro e w9 ⟨rfl, h9⟩; have h9 := h9.symm; subst h9)
        go_roundw
        case rel => exact ⟨k + 1, by omega, by go_num, by rw [left_step HL.out HX.out HM.out], HW.out⟩
        case measure => simp [intOf]; omega
      · have hke : k = l.length := by omega
        have HKE : Hid (leftS S l l.length = L) := by show _ = _; rw [HL.out, hke]
        have hnl : ¬ ((k : Int) < (l.length : Int)) := by omega
        clear hke
        go_wp2_with fail
        go_ret2
        exact ⟨HKE.out ▸ rfl, HW.out⟩
  · have HD : Hid (fitB S l = false) := Fit.no hf
    rw [if_neg (fun h => hf (Fit.of h)), if_neg (fun h => hf (Fit.of h))]
    clear hf
    go_enter Try.func18, Try.ntmps18
    go_wp2_with fail
    refine (fits_walk HS.out HA.out).mono ?_
    rw [HD.out]
    rintro e w1 ⟨rfl, hB1⟩
    go_wp2_with fail
    go_ret2
    exact ⟨rfl, hB1⟩

theorem left_nil (lv : Value) (w : World) : Calls Try.prog 18 #[.pointer none, lv] w fun e w' => e = .returned (.tuple #[.int .i64 0, .int .i64 2]) ∧ w' = w := by
  go_enter Try.func18, Try.ntmps18
  go_wp2_with fail
  go_ret2
  exact ⟨rfl, rfl⟩

set_option maxRecDepth 100000 in
theorem rleft_walk (h : Rs D w v S) (hl : Nv w lv l) : Calls Try.prog 20 #[v, lv] w fun e w' => e = .returned (.tuple #[.int .i64 (leftN S l), .int .i64 (leftI S l)]) ∧ Below w.heap.size w w' := by
  have HS : Hid (Rs D w v S) := h
  have HA : Hid (Nv w lv l) := hl
  have HK : Hid S.ok := h.good
  obtain ⟨ao, ca, rfl, hla, _⟩ := hl.form
  have hv : ∃ sb, v = .pointer (some ⟨sb, 0, none⟩) := by obtain ⟨sb, _, _, _, _, e, _⟩ := h; exact ⟨sb, e⟩
  obtain ⟨sb, rfl⟩ := hv
  clear hl h
  unfold leftN leftI
  by_cases hf : Fit S l
  · have HF : Hid (Fit S l) := hf
    have HD : Hid (fitB S l = true) := Fit.yes hf
    rw [if_pos hf.yes, if_pos hf.yes]
    clear hf
    go_enter Try.func20, Try.ntmps20
    go_wp2_with fail
    refine (rfits_walk HS.out HA.out).mono ?_
    rw [HD.out]
    rintro e w1 ⟨rfl, hB1⟩
    have HW1 : Hid (Below w.heap.size w w1) := hB1
    clear hB1
    go_wp2_with fail
    go_loopw [6, 7] (fun nv iv wr => ∃ k : Nat, k ≤ l.length ∧ iv = .int .i64 k ∧ nv = .int .i64 (leftS S l k) ∧ Below w.heap.size w wr) (fun _ iv _ => l.length - (intOf iv).toNat)
    case atStart => exact ⟨0, Nat.zero_le _, rfl, rfl, HW1.out⟩
    case round =>
      obtain ⟨k, hk, rfl, rfl, hB⟩ := hrel
      have HW : Hid (Below w.heap.size w wr) := hB
      clear hB
      obtain ⟨L, hL⟩ : ∃ L, L = leftS S l k := ⟨_, rfl⟩
      have hLb := leftS_le HK.out HF.out k hk
      rw [← hL] at hLb
      rw [← hL]
      have HL : Hid (L = leftS S l k) := hL
      have hk4 : k ≤ 4 := by have := HF.out.1; have := HK.out.np4; omega
      have hLb2 : L ≤ 1024 := by omega
      obtain ⟨hL0, _⟩ := hLb
      clear hL
      by_cases hlt : k < l.length
      · obtain ⟨g, off, rfl, c0⟩ := (HA.out.below HW.out).at hlt
        obtain ⟨x, hx⟩ : ∃ x, x = nth l k := ⟨_, rfl⟩
        rw [← hx] at c0
        have HX : Hid (x = nth l k) := hx
        obtain ⟨m, hm⟩ : ∃ m, m = lenS S k := ⟨_, rfl⟩
        have HM : Hid (m = lenS S k) := hm
        have hxm := HF.out.2 k hlt
        rw [← hx, ← hm] at hxm
        obtain ⟨hx0, hxm⟩ := hxm
        have hm256 : m ≤ 256 := by rw [hm]; exact lenS_le HK.out _
        clear hx hm
        have hlti : (k : Int) < (l.length : Int) := by omega
        have r1 : IntKind.i64.wrap (L + (m : Int)) = L + (m : Int) := wrapU (by omega) (by omega)
        have r2 : IntKind.i64.wrap (L + (m : Int) - x) = L + (m : Int) - x := wrapU (by omega) (by omega)
        go_wp2_with fail
        go_quiet ((go_at_call 41; exact Calls.quiet_of_same (HM.out ▸ rlen_walk ((HS.out.below HW.out).below (below_drewN _ _)) k)))
        go_wp2_with fail
        go_roundw
        case rel => exact ⟨k + 1, by omega, by go_num, by rw [← left_step HL.out HX.out HM.out, Int.add_sub_assoc], below_trans HW.out (below_drewN _ _)⟩
        case measure => simp [intOf]; omega
      · have hke : k = l.length := by omega
        have HKE : Hid (leftS S l l.length = L) := by show _ = _; rw [HL.out, hke]
        have hnl : ¬ ((k : Int) < (l.length : Int)) := by omega
        clear hke
        go_wp2_with fail
        go_ret2
        exact ⟨HKE.out ▸ rfl, HW.out⟩
  · have HD : Hid (fitB S l = false) := Fit.no hf
    rw [if_neg (fun h => hf (Fit.of h)), if_neg (fun h => hf (Fit.of h))]
    clear hf
    go_enter Try.func20, Try.ntmps20
    go_wp2_with fail
    refine (rfits_walk HS.out HA.out).mono ?_
    rw [HD.out]
    rintro e w1 ⟨rfl, hB1⟩
    go_wp2_with fail
    go_ret2
    exact ⟨rfl, hB1⟩

end
end Go.Proofs.Ytjkhegekojflhaa
