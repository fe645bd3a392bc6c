/- SourceKeys, walked. -/
import Derived.Test.YtfgeabcdcepfdaaVk
namespace Go.Proofs.Ytfgeabcdcepfdaa
open Ieee Go.RowKit
attribute [local go_sem] run_store_float

set_option maxRecDepth 100000 in
theorem keys_bad {lv iv : Value} {l : List Stp} {w : World} (ho : Ov w lv l) (hc : checkB l = false) :
    Calls Try.prog 5 #[lv, iv] w fun e w' => e = .returned (.bool true) ∧ Below w.heap.size w w' := by
  have HO : Hid (Ov w lv l) := ho
  have HC : Hid (chkI l = 30) := by show _ = _; unfold chkI; rw [hc]; rfl
  clear ho
  go_enter Try.func5, Try.ntmps5
  go_wp2_with fail
  refine (awake_walk _).mono ?_
  rintro e w1 ⟨rfl, hB1⟩
  have HB1 : Hid (Below w.heap.size w w1) := hB1
  clear hB1
  go_wp2_with fail
  refine (filled_bad (HO.out.below HB1.out) hc).mono ?_
  rintro e w2 ⟨rfl, hB2⟩
  have HB2 : Hid (Below w.heap.size w w2) := below_trans HB1.out hB2
  clear hB2
  go_wp2_with fail
  obtain ⟨⟨ao, cap, hv, g1, g2, g3, g4⟩, g5⟩ := HO.out.below HB2.out
  subst hv
  refine (check_walk (Nat.le_trans g1 g2) g4).mono ?_
  rw [HC.out]
  rintro e w3 ⟨rfl, hB3⟩
  have HB3 : Hid (Below w.heap.size w w3) := below_trans HB2.out hB3
  clear hB3 g1 g2 g3 g4 g5
  go_wp2_with fail
  go_ret
  exact ⟨rfl, HB3.out⟩

/-- Block g is a row of m answers. -/
def Wm (w : World) (g m : Nat) (f : Nat → Bool) : Prop := ∃ cur, w.heap[g]? = some (.cells cur 4 (0, 0)) ∧ cur.size = m ∧ ∀ j, j < m → cur[j]? = some (.bool (f j))
theorem Wm.keep {w w' : World} {g m : Nat} {f : Nat → Bool} (h : Wm w g m f) (e : w'.heap[g]? = w.heap[g]?) : Wm w' g m f := by
  obtain ⟨cur, h1, h2⟩ := h
  exact ⟨cur, by rw [e]; exact h1, h2⟩
theorem Wm.lt {w : World} {g m : Nat} {f : Nat → Bool} (h : Wm w g m f) : g < w.heap.size := by obtain ⟨cur, h1, _⟩ := h; exact (Array.getElem?_eq_some_iff.1 h1).1
theorem Wm.below {w w' : World} {g m : Nat} {f : Nat → Bool} (h : Wm w g m f) (hb : Below w.heap.size w w') : Wm w' g m f := h.keep (hb.block g h.lt)
theorem Wm.cell {w : World} {g m : Nat} {f : Nat → Bool} (h : Wm w g m f) {j : Nat} (hj : j < m) : w.cell? ⟨g, j, none⟩ = some (.bool (f j)) := by
  obtain ⟨cur, h1, h2, h3⟩ := h
  rw [cell_of_row w g j cur _ (0, 0) h1]; exact h3 j hj
theorem Wm.soft {w : World} {g m : Nat} {f : Nat → Bool} (h : Wm w g m f) (j : Nat) : w.frozen? ⟨g, j, none⟩ = false := by obtain ⟨cur, h1, _⟩ := h; simp [World.frozen?, h1]
theorem Wm.set {w : World} {g m : Nat} {f : Nat → Bool} (h : Wm w g m f) {a : Nat} (ha : a < m) (b : Bool) : Wm (w.setCell ⟨g, a, none⟩ (.bool b)) g m (upd f a b) := by
  obtain ⟨cur, h1, h2, h3⟩ := h
  refine ⟨cur.setIfInBounds a (.bool b), ?_, by simpa using h2, fun j hj => ?_⟩
  · rw [Sort.setCell_eq]
    simp [Sort.mapBlock, Array.getElem?_modify, h1, Sort.onCells]
  · rw [Array.getElem?_setIfInBounds]
    by_cases e : a = j
    · subst e
      rw [if_pos rfl, if_pos (by omega), upd_same]
    · rw [if_neg e, h3 j hj, upd_other _ _ (fun h => e h.symm)]
theorem wm_made (w : World) (m : Nat) : Wm (w.alloc (.cells (madeCells #[.bool false] m) 4)) w.heap.size m (fun _ => false) := by
  refine ⟨_, heap_alloc_new w _, size_madeCells _ _, fun j hj => ?_⟩
  unfold madeCells
  simp [hj, Nat.mod_one]

theorem info_bool : (Try.prog.info? 4).map (fun i => (i.zero, i.size, i.bytes)) = some (some (.bool false), 1, 1) := by kernel_rfl

/-- Where a key stands. -/
theorem pos_key {t : List Nat} {K a : Nat} (h : RiseK t) (hK : K ∈ t) (ha : ∀ j, (hj : j < t.length) → j < a → t[j] < K) (hn : ∀ hl : a < t.length, ¬ t[a] < K) : ∃ hl : a < t.length, t[a] = K := by
  obtain ⟨j, hj, e⟩ := List.getElem_of_mem hK
  have h1 : a ≤ j := by
    rcases Nat.lt_or_ge j a with h | h
    · have := ha j hj h; omega
    · exact h
  have hl : a < t.length := by omega
  refine ⟨hl, ?_⟩
  rcases Nat.lt_or_ge a j with h2 | h2
  · have := List.pairwise_iff_getElem.1 h a j hl hj h2
    have := hn hl
    omega
  · obtain rfl : a = j := by omega
    exact e

/-- What has been met: the keys of the records of the partitions ahead of p, and of the first i of p. -/
def Mt (S : Sc) (p i : Nat) (f : Nat → Bool) : Prop :=
  ∀ j (hj : j < S.keys.length), ((∃ p', p' < p ∧ ∃ r ∈ S.logs p', (runS S.list r).1 = 1 ∧ (runS S.list r).2.k = S.keys[j]) ∨ (∃ r ∈ (S.logs p).take i, (runS S.list r).1 = 1 ∧ (runS S.list r).2.k = S.keys[j])) → f j = true

theorem mt_next {S : Sc} {p i : Nat} {f : Nat → Bool} (h : Mt S p i f) (hi : (S.logs p).length ≤ i) : Mt S (p + 1) 0 f := by
  intro j hj hx
  refine h j hj ?_
  rcases hx with ⟨p', hp', r, hr, h1, h2⟩ | ⟨r, hr, _⟩
  · rcases Nat.lt_or_ge p' p with hl | hl
    · exact .inl ⟨p', hl, r, hr, h1, h2⟩
    · obtain rfl : p' = p := by omega
      exact .inr ⟨r, by rw [List.take_of_length_le hi]; exact hr, h1, h2⟩
  · simp at hr
theorem mt_skip {S : Sc} {p i : Nat} {f : Nat → Bool} {r : Rcd} (h : Mt S p i f) (hi : i < (S.logs p).length) (hr : r = (S.logs p)[i]) (hk : (runS S.list r).1 ≠ 1) : Mt S p (i + 1) f := by
  intro j hj hx
  refine h j hj ?_
  rcases hx with hx | ⟨x, hx, h1, h2⟩
  · exact .inl hx
  · rw [List.take_succ_eq_append_getElem hi, List.mem_append, List.mem_singleton, ← hr] at hx
    rcases hx with hx | rfl
    · exact .inr ⟨x, hx, h1, h2⟩
    · exact absurd h1 hk
theorem mt_meet {S : Sc} {p i a : Nat} {f : Nat → Bool} {r : Rcd} (hk : RiseK S.keys) (h : Mt S p i f) (hi : i < (S.logs p).length) (hr : r = (S.logs p)[i]) (ha : ∃ hl : a < S.keys.length, S.keys[a] = (runS S.list r).2.k) : Mt S p (i + 1) (upd f a true) := by
  obtain ⟨hl, ha⟩ := ha
  intro j hj hx
  by_cases e : j = a
  · subst e; exact upd_same _ _ _
  · rw [upd_other _ _ e]
    refine h j hj ?_
    rcases hx with hx | ⟨x, hx, h1, h2⟩
    · exact .inl hx
    · rw [List.take_succ_eq_append_getElem hi, List.mem_append, List.mem_singleton, ← hr] at hx
      rcases hx with hx | rfl
      · exact .inr ⟨x, hx, h1, h2⟩
      · exfalso
        rw [← ha] at h2
        have hp := List.pairwise_iff_getElem.1 hk
        rcases Nat.lt_or_gt_of_ne e with h3 | h3
        · have := hp j a hj hl h3; omega
        · have := hp a j hl hj h3; omega
theorem mt_all {S : Sc} {f : Nat → Bool} (hok : S.ok) (hn : S.np = 2) (h : Mt S 2 0 f) : ∀ j, j < S.keys.length → f j = true := by
  intro j hj
  obtain ⟨p, hp, r, hr, h1, h2⟩ := (hok.mem _).1 (List.getElem_mem hj)
  exact h j hj (.inl ⟨p, by omega, r, hr, h1, h2⟩)

set_option maxRecDepth 100000 in
set_option maxHeartbeats 2000000 in
theorem skeys_walk {lv : Value} {l : List Stp} {io : Option Addr} {ic : Nat} {items : List It} {w : World} (ho : Ov w lv l) (hi : Il w io items) (hik : ∀ t ∈ items, t.ok) (hil : items.length ≤ maxLen) (hc : checkB l = true) :
    Calls Try.prog 5 #[lv, .slice io items.length ic] w fun e w' => e = .returned (.bool true) ∧ Below w.heap.size w w' := by
  have HO : Hid (Ov w lv l) := ho
  have HI : Hid (Il w io items) := hi
  have HIK : Hid (∀ t ∈ items, t.ok) := hik
  have HIL : Hid (items.length ≤ maxLen) := hil
  clear ho hi hik hil
  go_enter Try.func5, Try.ntmps5
  go_wp2_with fail
  refine (awake_walk _).mono ?_
  rintro e w0 ⟨rfl, hB0⟩
  have HB0 : Hid (Below w.heap.size w w0) := hB0
  clear hB0
  go_wp2_with fail
  refine (filled_walk (HO.out.below HB0.out) (HI.out.below HB0.out (Nat.le_refl _)) HIK.out HIL.out hc).mono ?_
  obtain ⟨S, hS⟩ : ∃ S, S = fillS (newS 2 l) (items.take 4096) := ⟨_, rfl⟩
  rw [← hS]
  have HNP : Hid (S.np = 2) := by show _ = _; rw [hS]; exact (fill_list _ _).2.1
  have HSL : Hid (S.list = l) := by show _ = _; rw [hS]; exact (fill_list _ _).1
  clear hS
  rintro e w1 ⟨v, rfl, hSb, hB⟩
  obtain ⟨sb, rfl⟩ := hSb.form
  have HS1 : Hid (Sb w.heap.size w1 (.pointer (some ⟨sb, 0, none⟩)) S) := hSb.mono HB0.out.size
  have HB1 : Hid (Below w.heap.size w w1) := below_trans HB0.out hB
  have HK : Hid S.ok := hSb.good
  clear hSb hB
  go_wp2_with fail
  refine (keysB HS1.out).mono ?_
  rintro e wK ⟨kv, rfl, hk, hBK⟩
  obtain ⟨ko, kc, hkv, hkl⟩ := own_kl hk
  subst hkv
  obtain ⟨m, hm⟩ : ∃ m, m = S.keys.length := ⟨_, rfl⟩
  rw [← hm]
  have HM : Hid (m = S.keys.length) := hm
  have hm64 : m ≤ 64 := by rw [hm]; exact HK.out.kl
  have HKL : Hid (Kl wK ko S.keys) := hkl
  have HSK : Hid (Sb w.heap.size wK (.pointer (some ⟨sb, 0, none⟩)) S) := HS1.out.below hBK
  have HBK : Hid (Below w.heap.size w wK) := below_trans HB1.out hBK
  clear hk hkl hBK hm HS1 HB1
  obtain ⟨i0, hi0, hz0, hz1, hz2⟩ := info_partsV info_bool
  have hmk : ∀ wx, (Instr.makeSlice 54 (.int .i64 m) (.int .i64 m)).run Try.prog wx = .ok (.slice (some ⟨wx.heap.size, 0, none⟩) m m) (wx.alloc (.cells (madeCells #[.bool false] m) 4)) := fun wx => by
    have := run_make (P := Try.prog) wx 54 4 i0 (.bool false) Try.underlying54 hi0 hz0 .i64 .i64 m m (by omega) (Int.le_refl _) (by rw [hz2]; omega) (by omega)
    rw [hz1] at this
    simp only [Int.toNat_natCast, Nat.mul_one] at this
    exact this
  clear hi0 hz0 hz1 hz2
  go_wp2_with fail
  generalize hwM : wK.alloc (.cells (madeCells #[.bool false] m) 4) = wM
  have HWM : Hid (Wm wM wK.heap.size m (fun _ => false)) := by show Wm _ _ _ _; rw [← hwM]; exact wm_made wK m
  have HBM : Hid (Below wK.heap.size wK wM) := by show Below _ _ _; rw [← hwM]; exact below_alloc _ _
  clear hwM hmk
  go_loopw [8] (fun iv wr => ∃ i : Nat, 1 ≤ i ∧ i ≤ m + 1 ∧ iv = .int .i64 i ∧ Wm wr wK.heap.size m (fun _ => false) ∧ Below wK.heap.size wK wr) (fun iv _ => m + 1 - (intOf iv).toNat)
  case atStart => exact ⟨1, by omega, by omega, rfl, HWM.out, HBM.out⟩
  case round =>
    clear HWM HBM
    obtain ⟨i, h1, h2, rfl, hW, hB⟩ := hrel
    have HW : Hid (Wm wr wK.heap.size m (fun _ => false)) := hW
    have HB : Hid (Below wK.heap.size wK wr) := hB
    clear hW hB
    by_cases hlt : i < m
    · obtain ⟨b, off, e1, c0⟩ := HKL.out.below HB.out i (by rw [← HM.out]; exact hlt)
      obtain ⟨b', off', e2, c1⟩ := HKL.out.below HB.out (i - 1) (by rw [← HM.out]; omega)
      rw [e1] at e2
      cases e2
      subst e1
      have hrise := List.pairwise_iff_getElem.1 HK.out.kr (i - 1) i (by rw [← HM.out]; omega) (by rw [← HM.out]; exact hlt) (by omega)
      obtain ⟨X, hX⟩ : ∃ X, X = S.keys[i]'(by rw [← HM.out]; exact hlt) := ⟨_, rfl⟩
      obtain ⟨Y, hY⟩ : ∃ Y, Y = S.keys[i - 1]'(by rw [← HM.out]; omega) := ⟨_, rfl⟩
      rw [← hX] at c0
      rw [← hY] at c1
      have hYX : ¬ ((X : Int) ≤ (Y : Int)) := by rw [hX, hY]; omega
      clear hX hY hrise
      have c1' : wr.cell? ⟨b, off + (i - 1), none⟩ = some (.int .u64 (Y : Nat)) := c1
      go_wp2_with fail
      go_quiet (fail)
      go_wp2_with fail
      go_roundw
      case rel => exact ⟨i + 1, by omega, by omega, by simp, HW.out.below (below_drewN _ _), below_trans HB.out (below_drewN _ _)⟩
      case measure => simp [intOf]; omega
    · go_wp2_with fail
      go_loopw [9] (fun pv wr => ∃ (p : Nat) (f : Nat → Bool), p ≤ 2 ∧ pv = .int .i64 p ∧ Wm wr wK.heap.size m f ∧ Below wK.heap.size wK wr ∧ Mt S p 0 f) (fun pv _ => 2 - (intOf pv).toNat)
      case atStart => exact ⟨0, fun _ => false, by omega, rfl, HW.out, HB.out, fun j hj hx => by rcases hx with ⟨p', hp', _⟩ | ⟨r, hr, _⟩; omega; simp at hr⟩
      case round =>
        clear HW HB
        obtain ⟨p, f, hp, rfl, hW, hB, hMt⟩ := hrel
        obtain ⟨wo, hwo⟩ : ∃ wo, wo = wr := ⟨_, rfl⟩
        subst hwo
        have HW : Hid (Wm wo wK.heap.size m f) := hW
        have HB : Hid (Below wK.heap.size wK wo) := hB
        have HMt : Hid (Mt S p 0 f) := hMt
        clear hW hB hMt
        by_cases hp2 : p < 2
        · have HQ : Hid (hasS S p) := by show hasS S p; unfold hasS; rw [HNP.out]; omega
          have HLO : Hid (logS S p = S.logs p) := by show _ = _; unfold logS; rw [if_pos HQ.out]; rfl
          obtain ⟨n, hn⟩ : ∃ n, n = (S.logs p).length := ⟨_, rfl⟩
          have HN : Hid (n = (S.logs p).length) := hn
          have hn256 : n ≤ 256 := by rw [hn]; exact HK.out.len p
          clear hn
          go_wp2_with fail
          refine (logB (HSK.out.below HB.out) p).mono ?_
          rw [HLO.out]
          rintro e wL ⟨lg, rfl, hlg, hBL⟩
          obtain ⟨lo, lc, hlv, hRd⟩ := rd_new (D := fun x => x = wK.heap.size) hlg (HK.out.rok p) (fun x hx => by rw [hx]; exact HW.out.lt)
          subst hlv
          rw [← HN.out]
          have HL : Hid (Rd (fun x => x = wK.heap.size) wL lo (S.logs p)) := hRd
          have HWL : Hid (Wm wL wK.heap.size m f) := HW.out.below hBL
          have HBL : Hid (Below wK.heap.size wK wL) := below_trans HB.out hBL
          clear hlg hRd hBL
          go_wp2_with fail
          go_loopw [11] (fun iv wr => ∃ (i : Nat) (f : Nat → Bool), i ≤ n ∧ iv = .int .i64 i ∧ Wm wr wK.heap.size m f ∧ Ch (fun x => x = wK.heap.size) wL wr ∧ Mt S p i f) (fun iv _ => n - (intOf iv).toNat)
          case atStart => exact ⟨0, f, Nat.zero_le _, rfl, HWL.out, Ch.refl _ _, HMt.out⟩
          case round =>
            clear HWL HMt HW HB f
            obtain ⟨i, f, hi, rfl, hW, hC, hMt⟩ := hrel
            obtain ⟨wp, hwp⟩ : ∃ wp, wp = wr := ⟨_, rfl⟩
            subst hwp
            have HW : Hid (Wm wp wK.heap.size m f) := hW
            have HC : Hid (Ch (fun x => x = wK.heap.size) wL wp) := hC
            have HMt : Hid (Mt S p i f) := hMt
            have HB : Hid (Below wK.heap.size wK wp) := HBL.out.trans (hC.to_below HBL.out.size (fun x hx => by rw [hx]; exact Nat.le_refl _))
            clear hW hC hMt
            by_cases hin : i < n
            · have hil : i < (S.logs p).length := by rw [← HN.out]; exact hin
              obtain ⟨b, off, rfl, c0, c1⟩ := (HL.out.ch HC.out).1 i hil
              obtain ⟨r, hr⟩ : ∃ r, r = (S.logs p)[i] := ⟨_, rfl⟩
              rw [← hr] at c0 c1
              have HR : Hid (r = (S.logs p)[i]) := hr
              have HRK : Hid r.ok := by rw [hr]; exact HK.out.rok p _ (List.getElem_mem hil)
              obtain ⟨R, hRr⟩ : ∃ R, R = runS l r := ⟨_, rfl⟩
              have HRR : Hid (R = runS l r) := hRr
              clear hr hRr
              go_wp2_with fail
              refine (key_walk r HRK.out (HO.out.below (below_trans HBK.out HB.out))).mono ?_
              rw [← HRR.out]
              rintro e wC ⟨rfl, hBC⟩
              have HWC : Hid (Wm wC wK.heap.size m f) := HW.out.below hBC
              have HBC : Hid (Below wK.heap.size wK wC) := below_trans HB.out hBC
              have HCC : Hid (Ch (fun x => x = wK.heap.size) wL wC) := HC.out.trans (Ch.of_below hBC) (fun x hx => .inl hx)
              have HKC : Hid (Kl wC ko S.keys) := HKL.out.below HBC.out
              clear hBC c0 c1
              obtain ⟨kp, hkp⟩ : ∃ kp, kp = (R.1 == 1) := ⟨_, rfl⟩
              rw [← hkp]
              have HKP : Hid (kp = (R.1 == 1)) := hkp
              clear hkp
              obtain ⟨K, hKK⟩ : ∃ K, K = R.2.k := ⟨_, rfl⟩
              rw [← hKK]
              have HKK : Hid (K = R.2.k) := hKK
              clear hKK
              go_wp2_with fail
              go_loopw [14] (fun av w2 => ∃ a : Nat, a ≤ m ∧ av = .int .i64 a ∧ (∀ j, (hj : j < S.keys.length) → j < a → S.keys[j] < K) ∧ w2 = wC) (fun av _ => m - (intOf av).toNat)
              case atStart => exact ⟨0, Nat.zero_le _, rfl, fun j hj h => by omega, rfl⟩
              case round =>
                obtain ⟨a, ha, rfl, hall, hw2⟩ := hrel
                have HA : Hid (∀ j, (hj : j < S.keys.length) → j < a → S.keys[j] < K) := hall
                clear hall
                subst hw2
                by_cases ham : a < m
                · have hak : a < S.keys.length := by rw [← HM.out]; exact ham
                  obtain ⟨b2, off2, e2, d0⟩ := HKC.out a hak
                  subst e2
                  obtain ⟨X, hX⟩ : ∃ X, X = S.keys[a] := ⟨_, rfl⟩
                  rw [← hX] at d0
                  have HX : Hid (X = S.keys[a]) := hX
                  clear hX
                  by_cases hXK : X < K
                  · have HA' : Hid (∀ j, (hj : j < S.keys.length) → j < a + 1 → S.keys[j] < K) := fun j hj hja => by
                      rcases Nat.lt_or_ge j a with h | h
                      · exact HA.out j hj h
                      · obtain rfl : j = a := by omega
                        rw [← HX.out]; exact hXK
                    have hXKi : (X : Int) < (K : Int) := by omega
                    clear hXK
                    go_wp2_with fail
                    go_roundw
                    case rel => exact ⟨a + 1, by omega, by simp, HA'.out, trivial⟩
                    case measure => simp [intOf]; omega
                  · have hXKi : ¬ ((X : Int) < (K : Int)) := by omega
                    cases kp
                    · have HNX : Hid (Mt S p (i + 1) f) := mt_skip HMt.out hil HR.out (by rw [HSL.out, ← HRR.out]; have := HKP.out; simpa using this.symm)
                      clear hXK
                      go_wp2_with fail
                      go_roundw
                      case rel => exact ⟨i + 1, f, hin, by simp, HWC.out, HCC.out, HNX.out⟩
                      case measure => simp [intOf]; omega
                    · have HKI : Hid (K ∈ S.keys) := (HK.out.mem K).2 ⟨p, by rw [HNP.out]; exact hp2, r, by rw [HR.out]; exact List.getElem_mem hil, by rw [HSL.out, ← HRR.out]; have := HKP.out; simpa using this.symm, by rw [HSL.out, ← HRR.out, HKK.out]⟩
                      have HPOS := pos_key HK.out.kr HKI.out HA.out (fun _ => by rw [← HX.out]; exact hXK)
                      have hXe : X = K := by rw [HX.out]; exact HPOS.2
                      have hne : ((X : Int) != (K : Int)) = false := by simp [hXe]
                      have hae : ((a : Int) == (m : Int)) = false := by simp; omega
                      have haei : ¬ ((a : Int) = (m : Int)) := by omega
                      have HNX : Hid (Mt S p (i + 1) (upd f a true)) := mt_meet HK.out.kr HMt.out hil HR.out ⟨hak, by rw [HSL.out, ← HRR.out, ← HKK.out]; exact HPOS.2⟩
                      have q0 := HWC.out.cell ham
                      have q1 := HWC.out.soft a
                      clear hXK HPOS
                      subst hXe
                      go_wp2_with fail
                      go_roundw
                      case rel => exact ⟨i + 1, upd f a true, hin, by simp, HWC.out.set ham true, HCC.out.trans (Ch.of_grown (grown_set _ _ _ _) (fun x hx => by cases hx; rfl)) (fun x hx => .inl hx), HNX.out⟩
                      case measure => simp [intOf]; omega
                · obtain rfl : m = a := by omega
                  cases kp
                  · have HNX : Hid (Mt S p (i + 1) f) := mt_skip HMt.out hil HR.out (by rw [HSL.out, ← HRR.out]; have := HKP.out; simpa using this.symm)
                    go_wp2_with fail
                    go_roundw
                    case rel => exact ⟨i + 1, f, hin, by simp, HWC.out, HCC.out, HNX.out⟩
                    case measure => simp [intOf]; omega
                  · exfalso
                    have HKI : K ∈ S.keys := (HK.out.mem K).2 ⟨p, by rw [HNP.out]; exact hp2, r, by rw [HR.out]; exact List.getElem_mem hil, by rw [HSL.out, ← HRR.out]; have := HKP.out; simpa using this.symm, by rw [HSL.out, ← HRR.out, HKK.out]⟩
                    obtain ⟨j, hj, e⟩ := List.getElem_of_mem HKI
                    have := HA.out j hj (by rw [HM.out]; exact hj)
                    omega
            · have HNX : Hid (Mt S (p + 1) 0 f) := mt_next HMt.out (by rw [← HN.out]; omega)
              go_wp2_with fail
              go_roundw
              case rel => exact ⟨p + 1, f, by omega, by simp, HW.out, HB.out, HNX.out⟩
              case measure => simp [intOf]; omega
        · obtain rfl : p = 2 := by omega
          have HF : Hid (∀ j, j < m → f j = true) := fun j hj => mt_all HK.out HNP.out HMt.out j (by rw [← HM.out]; exact hj)
          have hz : ((2 : Nat) : Int) = 2 := rfl
          rw [hz]
          clear hz
          go_wp2_with fail
          go_loopw [15] (fun iv w2 => ∃ i : Nat, i ≤ m ∧ iv = .int .i64 i ∧ w2 = wo) (fun iv _ => m - (intOf iv).toNat)
          case atStart => exact ⟨0, Nat.zero_le _, rfl, rfl⟩
          case round =>
            obtain ⟨i, hi, rfl, hw2⟩ := hrel
            subst hw2
            by_cases him : i < m
            · have q0 := HW.out.cell him
              rw [HF.out i him] at q0
              go_wp2_with fail
              go_roundw
              case rel => exact ⟨i + 1, him, by simp, trivial⟩
              case measure => simp [intOf]; omega
            · go_wp2_with fail
              go_ret
              exact ⟨rfl, below_trans HBK.out HB.out⟩
end Go.Proofs.Ytfgeabcdcepfdaa
