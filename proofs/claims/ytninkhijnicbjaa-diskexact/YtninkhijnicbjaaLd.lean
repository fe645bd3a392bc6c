/- DiskExact's walk. -/
import Derived.Test.YtninkhijnicbjaaEf
namespace Go.Proofs.Ytninkhijnicbjaa
open Go.RowKit

/-- Where a world stands in the script's region. -/
structure Sz (w : World) (hb wb : Nat) (A X : Nat → Value) (wx : World) : Prop where
  hv : ∀ k, k < 3 → wx.cell? ⟨hb, k, none⟩ = some (A k)
  wt : ∀ k, k < 3 → wx.cell? ⟨wb, k, none⟩ = some (X k)
  below : Below w.heap.size w wx
theorem Sx.sz {w : World} {hb wb : Nat} {A X : Nat → Value} {Ds Es : Nat → Nat → Prop} {os : Nat → Option Dk} {i : Nat} {wr : World} (h : Sx w hb wb A X Ds Es os i wr) : Sz w hb wb A X wr := ⟨h.hv, h.wt, h.below⟩
theorem Sx.bx {w : World} {hb wb : Nat} {A X : Nat → Value} {Ds Es : Nat → Nat → Prop} {os : Nat → Option Dk} {i k : Nat} {wr : World} {u : Value} {b : List Nat} (h : Sx w hb wb A X Ds Es os i wr) (hk : k < 3) (hu : Bv w u b) : Bx (fun x => Ds k x ∨ Es k x) wr u b :=
  (hu.bx.below h.below).mono (fun x hx => (h.off k x hk hx).2.2)
theorem Sx.lows {w : World} {hb wb : Nat} {A X : Nat → Value} {Ds Es : Nat → Nat → Prop} {os : Nat → Option Dk} {i k : Nat} {wr : World} (h : Sx w hb wb A X Ds Es os i wr) (hk : k < 3) (hi : i < 9223372036854775807) : Low (os k) := ⟨Nat.lt_of_le_of_lt (h.low k hk).1 hi, Nat.lt_of_le_of_lt (h.low k hk).2 hi⟩
/-- One call of the script. -/
theorem right_sx {w : World} {hb wb : Nat} {A X : Nat → Value} {Ds Es : Nat → Nat → Prop} {os : Nat → Option Dk} {i k : Nat} {wr : World} {u : Value} {c : Cc} (h : Sx w hb wb A X Ds Es os i wr) (hk : k < 3) (hu : Bv w u c.b) (hi : i < 9223372036854775807) (hI : c.I < 9223372036854775808) :
    Calls Try.prog 13 #[A k, X k, .agg #[.int .i64 c.K, .int .i64 c.On, .int .i64 c.I, u]] wr fun e w' => e = .returned (.bool true) ∧ ∃ Ds' Es' os', Sx w hb wb A X Ds' Es' os' (i + 1) w' :=
  (right_walk (h.pair k hk) (h.bx hk hu) (h.lows hk hi) hI).mono fun _ _ hr => sx_step h hk hr

set_option maxRecDepth 100000 in
set_option maxHeartbeats 8000000 in
theorem exact_walk {iv sv : Value} {ls : List (List Nat)} {cs : List Cc} {blocks : Int} {w : World} (hv : Pv w iv ls) (hs : Zv w sv cs) :
    Calls Try.prog 3 #[.int .i64 blocks, iv, sv] w fun e w' => e = .returned (.bool true) ∧ Below w.heap.size w w' := by
  have HI : Hid (Pv w iv ls) := hv
  have HZV : Hid (Zv w sv cs) := hs
  obtain ⟨io, ic, rfl, hs1, hs2⟩ := hs.form
  have HIL : Hid (cs.length ≤ 9223372036854775807) := by simp only [maxLen] at hs2; show _ ≤ _; omega
  have hli : (cs.length : Int) ≤ 9223372036854775807 := by have := HIL.out; omega
  clear hv hs hs1 hs2
  go_enter Try.func3, Try.ntmps3
  go_wp2_with fail
  refine (awake_walk w).mono ?_
  rintro e w1 ⟨rfl, hB1⟩
  have HB1 : Hid (Below w.heap.size w w1) := hB1
  clear hB1
  go_wp2_with fail
  refine (znew (n := blocks)).mono ?_
  rintro e w2 ⟨av, D1, rfl, hS1, hB2, hD1, hL1⟩
  have HS1 : Hid (DO 59 D1 w2 av (newO blocks)) := hS1
  have HB2 : Hid (Below w.heap.size w w2) := below_trans HB1.out hB2
  have HD1 : Hid ((∀ x, D1 x → w1.heap.size ≤ x) ∧ ∀ x, D1 x → x < w2.heap.size) := ⟨hD1, hL1⟩
  clear hS1 hB2 hD1 hL1
  obtain ⟨N, hN⟩ : ∃ N, N = newI blocks := ⟨_, rfl⟩
  rw [← hN]
  have HN : Hid (N = newI blocks) := hN
  clear hN
  go_wp2_with fail
  refine (ynew (n := blocks)).mono ?_
  rintro e w3 ⟨xv, D2, rfl, hS2, hB3, hD2, hL2⟩
  have HS2 : Hid (DO 61 D2 w3 xv (newO blocks)) := hS2
  have HB3 : Hid (Below w.heap.size w w3) := below_trans HB2.out hB3
  have HB23 : Hid (Below w2.heap.size w2 w3) := hB3
  have HD2 : Hid ((∀ x, D2 x → w2.heap.size ≤ x) ∧ ∀ x, D2 x → x < w3.heap.size) := ⟨hD2, hL2⟩
  clear hS2 hB3 hD2 hL2
  rw [← HN.out]
  go_wp2_with fail
  refine (zload (HI.out.below HB3.out)).mono ?_
  rintro e w4 ⟨bv, D3, rfl, hS3, hB4, hD3, hL3⟩
  have HS3 : Hid (DO 59 D3 w4 bv (ldO ls)) := hS3
  have HB4 : Hid (Below w.heap.size w w4) := below_trans HB3.out hB4
  have HB34 : Hid (Below w3.heap.size w3 w4) := hB4
  have HD3 : Hid ((∀ x, D3 x → w3.heap.size ≤ x) ∧ ∀ x, D3 x → x < w4.heap.size) := ⟨hD3, hL3⟩
  clear hS3 hB4 hD3 hL3
  obtain ⟨M, hM⟩ : ∃ M, M = ldI ls := ⟨_, rfl⟩
  rw [← hM]
  have HM : Hid (M = ldI ls) := hM
  clear hM
  go_wp2_with fail
  refine (yload (HI.out.below HB4.out)).mono ?_
  rintro e w5 ⟨yv, D4, rfl, hS4, hB5, hD4, hL4⟩
  have HS4 : Hid (DO 61 D4 w5 yv (ldO ls)) := hS4
  have HB5 : Hid (Below w.heap.size w w5) := below_trans HB4.out hB5
  have HB45 : Hid (Below w4.heap.size w4 w5) := hB5
  have HD4 : Hid ((∀ x, D4 x → w4.heap.size ≤ x) ∧ ∀ x, D4 x → x < w5.heap.size) := ⟨hD4, hL4⟩
  clear hS4 hB5 hD4 hL4
  rw [← HM.out]
  obtain ⟨pa, hpa, na⟩ := HS1.out.ptr
  obtain ⟨px, hpx, nx⟩ := HS2.out.ptr
  obtain ⟨pb, hpb, nb⟩ := HS3.out.ptr
  obtain ⟨py, hpy, ny⟩ := HS4.out.ptr
  have HNN : Hid (pa.isNone = px.isNone ∧ pb.isNone = py.isNone) := ⟨na.trans nx.symm, nb.trans ny.symm⟩
  subst hpa
  subst hpx
  subst hpb
  subst hpy
  clear na nx nb ny
  go_upto_region 7 with (fail)
  go_cut [64] (fun c wx => c = .bool false ∧ wx = w5)
  case first =>
    cases pa with
    | none =>
      cases px with
      | none =>
        cases pb with
        | none =>
          cases py with
          | none => go_wp2_with fail; go_meet; exact ⟨rfl, rfl⟩
          | some b => exact absurd HNN.out.2 (by simp)
        | some a =>
          cases py with
          | none => exact absurd HNN.out.2 (by simp)
          | some b => go_wp2_with fail; go_meet; exact ⟨rfl, rfl⟩
      | some b => exact absurd HNN.out.1 (by simp)
    | some a =>
      cases px with
      | none => exact absurd HNN.out.1 (by simp)
      | some b =>
        cases pb with
        | none =>
          cases py with
          | none => go_wp2_with fail; go_meet; exact ⟨rfl, rfl⟩
          | some b => exact absurd HNN.out.2 (by simp)
        | some a =>
          cases py with
          | none => exact absurd HNN.out.2 (by simp)
          | some b => go_wp2_with fail; go_meet; exact ⟨rfl, rfl⟩
  case rest =>
    obtain ⟨hc, hwc⟩ := hcut
    subst hc
    replace hwc := hwc.symm
    subst hwc
    go_wp2_with fail
    have HX : Hid (Sx w w5.heap.size (w5.heap.size + 1) (arr3 (.pointer pa) (.pointer pb) (.pointer none)) (arr3 (.pointer px) (.pointer py) (.pointer none)) (dom3 D1 D3) (dom3 D2 D4) (opt3 (newO blocks) (ldO ls)) 0 ((w5.alloc (Obj.cells #[.pointer pa, .pointer pb, .pointer none] 34)).alloc (Obj.cells #[.pointer px, .pointer py, .pointer none] 35))) := by
      have q1 := HB1.out.size
      have q2 := HB2.out.size
      have q3 := HB3.out.size
      have q4 := HB4.out.size
      have q23 := HB23.out.size
      have q34 := HB34.out.size
      have q45 := HB45.out.size
      refine sx_start HB5.out ⟨((HS1.out.below HB23.out).below HB34.out).below HB45.out, (HS2.out.below HB34.out).below HB45.out, fun x h1 h2 => ?_, fun x hx => ?_⟩ ⟨HS3.out.below HB45.out, HS4.out, fun x h1 h2 => ?_, fun x hx => ?_⟩ (fun x h1 h2 => ?_) (fun x h => ?_) (new_low _) (ld_low _)
      · have := HD1.out.2 x h1; have := HD2.out.1 x h2; omega
      · rcases hx with h | h
        · have := HD1.out.2 x h; omega
        · have := HD2.out.2 x h; omega
      · have := HD3.out.2 x h1; have := HD4.out.1 x h2; omega
      · rcases hx with h | h
        · have := HD3.out.2 x h; omega
        · have := HD4.out.2 x h; omega
      · have a : x < w3.heap.size := by
          rcases h1 with h | h
          · have := HD1.out.2 x h; omega
          · exact HD2.out.2 x h
        rcases h2 with h | h
        · have := HD3.out.1 x h; omega
        · have := HD4.out.1 x h; omega
      · rcases h with (h | h) | h | h
        · have := HD1.out.1 x h; omega
        · have := HD2.out.1 x h; omega
        · have := HD3.out.1 x h; omega
        · have := HD4.out.1 x h; omega
    obtain ⟨hb, hhb⟩ : ∃ hb, hb = w5.heap.size := ⟨_, rfl⟩
    obtain ⟨wb, hwb⟩ : ∃ wb, wb = w5.heap.size + 1 := ⟨_, rfl⟩
    rw [← hwb, ← hhb] at HX
    rw [← hwb, ← hhb]
    clear hhb hwb HS1 HS2 HS3 HS4 HD1 HD2 HD3 HD4 HB1 HB2 HB3 HB4 HB5 HB23 HB34 HB45 HNN HN HM HI
    obtain ⟨A, hA⟩ : ∃ A, A = arr3 (.pointer pa) (.pointer pb) (.pointer none) := ⟨_, rfl⟩
    obtain ⟨X, hXX⟩ : ∃ X, X = arr3 (.pointer px) (.pointer py) (.pointer none) := ⟨_, rfl⟩
    rw [← hA, ← hXX] at HX
    clear hA hXX
    go_loopw [17, 18] (fun nv iv wr => ∃ (z : Int) (i : Nat) (Ds Es : Nat → Nat → Prop) (os : Nat → Option Dk), i ≤ cs.length ∧ nv = .int .i64 z ∧ iv = .int .i64 i ∧ Sx w hb wb A X Ds Es os i wr) (fun _ iv _ => cs.length - (intOf iv).toNat)
    case atStart => exact ⟨0, 0, _, _, _, Nat.zero_le _, rfl, rfl, HX.out⟩
    case round =>
      clear HX
      obtain ⟨z, i, Ds, Es, os, hi, hnv, hiv, hX⟩ := hrel
      subst hnv
      subst hiv
      have HX : Hid (Sx w hb wb A X Ds Es os i wr) := hX
      have hB := hX.below
      have HB : Hid (Below w.heap.size w wr) := hB
      clear hX
      by_cases hin : i < cs.length
      · have hil : (i : Int) < (cs.length : Int) := by omega
        obtain ⟨⟨ao, cap, e0, q1, q2, q3, q4⟩, q5⟩ := HZV.out
        simp only [Value.slice.injEq] at e0
        obtain ⟨b0, off0, u, e1, c0, c1, c2, c3, hbv⟩ := q4 i hin
        have HCI : Hid (cs[i].I < 9223372036854775808) := (q5 _ (List.getElem_mem _)).2
        obtain ⟨c, hce⟩ : ∃ c, c = cs[i] := ⟨_, rfl⟩
        rw [← hce] at c0 c1 c2 hbv HCI
        have e2 : io = some ⟨b0, off0, none⟩ := e0.1.trans e1
        clear e0 q1 q2 q3 q4 q5 e1 hce
        subst e2
        have HLW : Hid (Bv w u c.b) := hbv
        obtain ⟨l, hl⟩ : ∃ l, l = c.b := ⟨_, rfl⟩
        have hbv2 : Bv w u l := by rw [hl]; exact hbv
        have HLE : Hid (l = c.b) := hl
        obtain ⟨lo, lc, rfl, _, _⟩ := bv_form hbv2
        have d0 : ∀ wx, Sz w hb wb A X wx → wx.cell? ⟨b0, off0 + i * 4, none⟩ = some (.int .i64 c.K) := fun wx h => by rw [h.below.cell (p := ⟨b0, off0 + i * 4, none⟩) (cell_lt c0)]; exact c0
        have d1 : ∀ wx, Sz w hb wb A X wx → wx.cell? ⟨b0, off0 + i * 4 + 1, none⟩ = some (.int .i64 c.On) := fun wx h => by rw [h.below.cell (p := ⟨b0, off0 + i * 4 + 1, none⟩) (cell_lt c1)]; exact c1
        have d2 : ∀ wx, Sz w hb wb A X wx → wx.cell? ⟨b0, off0 + i * 4 + 2, none⟩ = some (.int .i64 c.I) := fun wx h => by rw [h.below.cell (p := ⟨b0, off0 + i * 4 + 2, none⟩) (cell_lt c2)]; exact c2
        have d3 : ∀ wx, Sz w hb wb A X wx → wx.cell? ⟨b0, off0 + i * 4 + 3, none⟩ = some (.slice lo l.length lc) := fun wx h => by rw [h.below.cell (p := ⟨b0, off0 + i * 4 + 3, none⟩) (cell_lt c3)]; exact c3
        have x1 := d1 _ HX.out.sz
        have x3 := d3 _ HX.out.sz
        obtain ⟨r, hr⟩ : ∃ r, IntKind.i64.wrap ((l.length : Int) + 1) = r := ⟨_, rfl⟩
        obtain ⟨n1, hn1⟩ : ∃ n1, IntKind.i64.wrap (z + r) = n1 := ⟨_, rfl⟩
        obtain ⟨kk, hk3, hke⟩ := third c.On
        have hki : (kk : Int) < 3 := by omega
        have hSd : Sz w hb wb A X wr.drew := (HX.out.go (below_drewN _ _)).sz
        have j0 : ∀ wx, Sz w hb wb A X wx → wx.cell? ⟨hb, kk, none⟩ = some (A kk) := fun wx h => h.hv kk hk3
        have j1 : ∀ wx, Sz w hb wb A X wx → wx.cell? ⟨wb, kk, none⟩ = some (X kk) := fun wx h => h.wt kk hk3
        have HI9 : Hid (i < 9223372036854775807) := by have := HIL.out; show _ < _; omega
        clear c0 c1 c2 c3 hbv hbv2 hl hB
        by_cases hbig : 4194304 < n1
        · go_wp2_with fail
          go_ret
          exact ⟨rfl, HB.out⟩
        · have hbig2 : n1 ≤ 4194304 := by omega
          have hbig3 : decide ((4194304 : Int) < n1) = false := decide_eq_false hbig
          go_wp2_with fail
          go_region_held3 (fun wx => Sz w hb wb A X wx) (first | assumption)
            (first
              | (go_at_call 13; refine (right_sx (c := c) (HX.out.go (below_drewN _ _)) hk3 (u := .slice lo l.length lc) HLW.out HI9.out HCI.out).mono ?_; rintro e w6 ⟨rfl, Ds', Es', os', hX6⟩; have hS6 : Sz w hb wb A X w6 := hX6.sz))
          all_goals go_wp2_with fail
          all_goals go_roundw
          case rel => exact ⟨n1, i + 1, Ds', Es', os', hin, rfl, by simp, hX6⟩
          case measure => simp [intOf]; omega
      · have hil : (cs.length : Int) ≤ (i : Int) := by omega
        clear hB
        go_wp2_with fail
        go_loopw [20] (fun iv wy => ∃ k : Nat, k ≤ 3 ∧ iv = .int .i64 k ∧ Sx w hb wb A X Ds Es os i wy) (fun iv _ => 3 - (intOf iv).toNat)
        case atStart => exact ⟨0, by omega, rfl, HX.out⟩
        case round =>
          clear HX HB
          obtain ⟨k, hk, hkv, hX⟩ := hrel
          subst hkv
          have HX : Hid (Sx w hb wb A X Ds Es os i wr) := hX
          clear hX
          by_cases hk3 : k < 3
          · have j0 : ∀ wx, Sx w hb wb A X Ds Es os i wx → wx.cell? ⟨hb, k, none⟩ = some (A k) := fun wx h => h.hv k hk3
            have j1 : ∀ wx, Sx w hb wb A X Ds Es os i wx → wx.cell? ⟨wb, k, none⟩ = some (X k) := fun wx h => h.wt k hk3
            have hki : (k : Int) < 3 := by omega
            have hSd : Sx w hb wb A X Ds Es os i wr.drew := HX.out.go (below_drewN _ _)
            go_wp2_with fail
            go_region_held3 (fun wx => Sx w hb wb A X Ds Es os i wx) (first | assumption)
              (first
                | (go_at_call 15; refine (zimage (Sx.pair (by assumption) k hk3).a).mono ?_; rintro e w6 ⟨r6, rfl, hP6, hB6⟩; have hS6 : Sx w hb wb A X Ds Es os i w6 := Sx.go (by assumption) hB6; obtain ⟨ao6, ca6, hr6, _⟩ := hP6.form; subst hr6)
                | (go_at_call 16; refine (yimage (Sx.pair (by assumption) k hk3).b).mono ?_; rintro e w7 ⟨r7, rfl, hP7, hB7⟩; have hS7 : Sx w hb wb A X Ds Es os i w7 := Sx.go (by assumption) hB7; obtain ⟨ao7, ca7, hr7, _⟩ := hP7.form; subst hr7)
                | (go_at_call 14; refine (images_walk (hP6.below hB7) hP7).mono ?_; rintro e w8 ⟨rfl, hB8⟩; rw [decide_eq_true rfl]; have hS8 : Sx w hb wb A X Ds Es os i w8 := Sx.go (by assumption) hB8))
            all_goals go_wp2_with fail
            all_goals go_roundw
            case rel => exact ⟨k + 1, hk3, by simp, by assumption⟩
            case measure => simp [intOf]; omega
          · have hki : (3 : Int) ≤ (k : Int) := by omega
            go_wp2_with fail
            go_ret
            exact ⟨rfl, HX.out.below⟩
end Go.Proofs.Ytninkhijnicbjaa
