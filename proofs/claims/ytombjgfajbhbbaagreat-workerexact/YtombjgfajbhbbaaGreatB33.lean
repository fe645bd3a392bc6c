/- The statements' comparisons; Held. -/
import Derived.Test.YtombjgfajbhbbaaGreatB32
import Derived.Shelf.SlIterI.Nil
import Derived.Shelf.SortM.Plain
import Derived.Shelf.SortM.SortNone
set_option maxRecDepth 100000
set_option maxHeartbeats 16000000
namespace Go.Proofs.YtombjgfajbhbbaaGreat
open Go.RowKit
section
open Go.Shelf

def laysk_ren : Go.Shelf.Ren := ⟨fun | 7 => 45 | 10 => 89 | n => n, fun | 23 => 71 | 26 => 3 | 3 => 113 | 28 => 111 | 0 => 0 | 27 => 110 | 33 => 106 | 4 => 4 | n => n, fun | n => n⟩

theorem laysk : Go.Proofs.SlLaysZI.n7 Tryz.prog laysk_ren := {
  mixed := by kernel_rfl
  f7 := ⟨Tryz.f45.name, by decide, Tryz.func45.trans (congrArg some (by kernel_rfl))⟩
  f10 := ⟨Tryz.f89.name, by decide, Tryz.func89.trans (congrArg some (by kernel_rfl))⟩
  t0 := Tryz.underlying0
  a0 := Tryz.isAgg0
  z0 := Tryz.sizeOf0
  v0 := Tryz.zeroValue0
  t4 := Tryz.underlying4
  a4 := Tryz.isAgg4
  z4 := Tryz.sizeOf4
  v4 := Tryz.zeroValue4
  t23 := Tryz.underlying71
  a23 := Tryz.isAgg71
  z23 := Tryz.sizeOf71
  v23 := Tryz.zeroValue71
  t26 := Tryz.underlying3
  a26 := Tryz.isAgg3
  z26 := Tryz.sizeOf3
  v26 := Tryz.zeroValue3
  t27 := Tryz.underlying110
  a27 := Tryz.isAgg110
  z27 := Tryz.sizeOf110
  v27 := Tryz.zeroValue110
  t28 := Tryz.underlying111
  a28 := Tryz.isAgg111
  z28 := Tryz.sizeOf111
  v28 := Tryz.zeroValue111
  t33 := Tryz.underlying106
  a33 := Tryz.isAgg106
  z33 := Tryz.sizeOf106
  v33 := Tryz.zeroValue106 }

def layss_ren : Go.Shelf.Ren := ⟨fun | 6 => 44 | 8 => 87 | 9 => 88 | 11 => 112 | 13 => 114 | 12 => 113 | 23 => 153 | 24 => 154 | 14 => 144 | 15 => 145 | 16 => 146 | 17 => 147 | 18 => 148 | 19 => 149 | 20 => 150 | 21 => 151 | 22 => 152 | 25 => 171 | 26 => 172 | 27 => 173 | 28 => 174 | 29 => 175 | 30 => 176 | 31 => 187 | n => n, fun | 26 => 3 | 28 => 111 | 24 => 44 | 0 => 0 | 3 => 3 | 37 => 162 | 48 => 192 | 50 => 40 | 4 => 4 | 40 => 185 | 39 => 184 | 45 => 189 | 5 => 5 | 9 => 9 | 51 => 201 | 55 => 205 | 57 => 211 | 58 => 212 | 33 => 106 | n => n, fun | n => n⟩

theorem layss : Go.Proofs.SlLaysZI.n6 Tryz.prog layss_ren := {
  mixed := by kernel_rfl
  f6 := ⟨Tryz.f44.name, by decide, Tryz.func44.trans (congrArg some (by kernel_rfl))⟩
  f8 := ⟨Tryz.f87.name, by decide, Tryz.func87.trans (congrArg some (by kernel_rfl))⟩
  f11 := ⟨Tryz.f112.name, by decide, Tryz.func112.trans (congrArg some (by kernel_rfl))⟩
  t0 := Tryz.underlying0
  a0 := Tryz.isAgg0
  z0 := Tryz.sizeOf0
  v0 := Tryz.zeroValue0
  t24 := Tryz.underlying44
  a24 := Tryz.isAgg44
  z24 := Tryz.sizeOf44
  v24 := Tryz.zeroValue44
  t26 := Tryz.underlying3
  a26 := Tryz.isAgg3
  z26 := Tryz.sizeOf3
  v26 := Tryz.zeroValue3
  t28 := Tryz.underlying111
  a28 := Tryz.isAgg111
  z28 := Tryz.sizeOf111
  v28 := Tryz.zeroValue111
  i26 := by kernel_rfl }

def layst_ren : Go.Shelf.Ren := ⟨fun | 5 => 88 | 8 => 114 | 7 => 113 | 19 => 153 | 20 => 154 | 10 => 144 | 11 => 145 | 12 => 146 | 13 => 147 | 14 => 148 | 15 => 149 | 16 => 150 | 17 => 151 | 18 => 152 | 30 => 171 | 31 => 172 | 32 => 173 | 33 => 174 | 34 => 175 | 35 => 176 | 40 => 187 | n => n, fun | 23 => 44 | 25 => 3 | 3 => 3 | 32 => 162 | 22 => 44 | 0 => 0 | 44 => 192 | 46 => 40 | 4 => 4 | 36 => 185 | 35 => 184 | 41 => 189 | 5 => 5 | 9 => 9 | 53 => 201 | 57 => 205 | 63 => 211 | 64 => 212 | n => n, fun | n => n⟩

theorem layst : Go.Proofs.SlLaysM.n5 Tryz.prog layst_ren := {
  mixed := by kernel_rfl
  f5 := ⟨Tryz.f88.name, by decide, Tryz.func88.trans (congrArg some (by kernel_rfl))⟩
  f7 := ⟨Tryz.f113.name, by decide, Tryz.func113.trans (congrArg some (by kernel_rfl))⟩
  f8 := Tryz.func114.trans (congrArg some (by kernel_rfl))
  f10 := ⟨Tryz.f144.name, by decide, Tryz.func144.trans (congrArg some (by kernel_rfl))⟩
  f11 := ⟨Tryz.f145.name, by decide, Tryz.func145.trans (congrArg some (by kernel_rfl))⟩
  f12 := ⟨Tryz.f146.name, by decide, Tryz.func146.trans (congrArg some (by kernel_rfl))⟩
  f13 := ⟨Tryz.f147.name, by decide, Tryz.func147.trans (congrArg some (by kernel_rfl))⟩
  f14 := ⟨Tryz.f148.name, by decide, Tryz.func148.trans (congrArg some (by kernel_rfl))⟩
  f15 := ⟨Tryz.f149.name, by decide, Tryz.func149.trans (congrArg some (by kernel_rfl))⟩
  f16 := ⟨Tryz.f150.name, by decide, Tryz.func150.trans (congrArg some (by kernel_rfl))⟩
  f17 := ⟨Tryz.f151.name, by decide, Tryz.func151.trans (congrArg some (by kernel_rfl))⟩
  f18 := ⟨Tryz.f152.name, by decide, Tryz.func152.trans (congrArg some (by kernel_rfl))⟩
  f19 := Tryz.func153.trans (congrArg some (by kernel_rfl))
  f20 := Tryz.func154.trans (congrArg some (by kernel_rfl))
  f30 := ⟨Tryz.f171.name, by decide, Tryz.func171.trans (congrArg some (by kernel_rfl))⟩
  f31 := Tryz.func172.trans (congrArg some (by kernel_rfl))
  f32 := Tryz.func173.trans (congrArg some (by kernel_rfl))
  f33 := ⟨Tryz.f174.name, by decide, Tryz.func174.trans (congrArg some (by kernel_rfl))⟩
  f34 := ⟨Tryz.f175.name, by decide, Tryz.func175.trans (congrArg some (by kernel_rfl))⟩
  f35 := ⟨Tryz.f176.name, by decide, Tryz.func176.trans (congrArg some (by kernel_rfl))⟩
  f40 := ⟨Tryz.f187.name, by decide, Tryz.func187.trans (congrArg some (by kernel_rfl))⟩
  t0 := Tryz.underlying0
  a0 := Tryz.isAgg0
  z0 := Tryz.sizeOf0
  v0 := Tryz.zeroValue0
  t3 := Tryz.underlying3
  a3 := Tryz.isAgg3
  z3 := Tryz.sizeOf3
  v3 := Tryz.zeroValue3
  t4 := Tryz.underlying4
  a4 := Tryz.isAgg4
  z4 := Tryz.sizeOf4
  v4 := Tryz.zeroValue4
  t5 := Tryz.underlying5
  a5 := Tryz.isAgg5
  z5 := Tryz.sizeOf5
  v5 := Tryz.zeroValue5
  t9 := Tryz.underlying9
  a9 := Tryz.isAgg9
  z9 := Tryz.sizeOf9
  v9 := Tryz.zeroValue9
  t22 := Tryz.underlying44
  a22 := Tryz.isAgg44
  z22 := Tryz.sizeOf44
  v22 := Tryz.zeroValue44
  t23 := Tryz.underlying44
  a23 := Tryz.isAgg44
  z23 := Tryz.sizeOf44
  v23 := Tryz.zeroValue44
  t25 := Tryz.underlying3
  a25 := Tryz.isAgg3
  z25 := Tryz.sizeOf3
  v25 := Tryz.zeroValue3
  t32 := Tryz.underlying162
  a32 := Tryz.isAgg162
  z32 := Tryz.sizeOf162
  v32 := Tryz.zeroValue162
  t35 := Tryz.underlying184
  a35 := Tryz.isAgg184
  z35 := Tryz.sizeOf184
  v35 := Tryz.zeroValue184
  t36 := Tryz.underlying185
  a36 := Tryz.isAgg185
  z36 := Tryz.sizeOf185
  v36 := Tryz.zeroValue185
  t41 := Tryz.underlying189
  a41 := Tryz.isAgg189
  z41 := Tryz.sizeOf189
  v41 := Tryz.zeroValue189
  t44 := Tryz.underlying192
  a44 := Tryz.isAgg192
  z44 := Tryz.sizeOf192
  v44 := Tryz.zeroValue192
  t46 := Tryz.underlying40
  a46 := Tryz.isAgg40
  z46 := Tryz.sizeOf40
  v46 := Tryz.zeroValue40
  t53 := Tryz.underlying201
  a53 := Tryz.isAgg201
  z53 := Tryz.sizeOf201
  v53 := Tryz.zeroValue201
  t57 := Tryz.underlying205
  a57 := Tryz.isAgg205
  z57 := Tryz.sizeOf205
  v57 := Tryz.zeroValue205
  t63 := Tryz.underlying211
  a63 := Tryz.isAgg211
  z63 := Tryz.sizeOf211
  v63 := Tryz.zeroValue211
  t64 := Tryz.underlying212
  a64 := Tryz.isAgg212
  z64 := Tryz.sizeOf212
  v64 := Tryz.zeroValue212 }
end
section
open Go.RowKit Go.Maps Go.Sort Go.Shelf

theorem ints17 {w : World} {av bv : Value} {a b : List Int} (ha : Nv w av a) (hb : Nv w bv b) :
  Calls Tryz.prog 34 #[av, bv] w fun e w' => e = .returned (.bool (decide (a = b))) ∧ Below w.heap.size w w' := by
 have HA : Hid (Nv w av a) := ha;have HB : Hid (Nv w bv b) := hb;obtain ⟨ao, ca, rfl, hla, _⟩ := ha.form;obtain ⟨bo, cb, rfl, hlb, _⟩ := hb.form;clear ha hb;by_cases hl : a.length = b.length
 ·have hln : ((a.length : Int) != (b.length : Int)) = false := by simp [hl]
  have HL : Hid (a.length = b.length) := hl;clear hl;go_in;go_wp2_with fail;go_loopw [5] (fun iv wr => ∃ k : Nat, k ≤ a.length ∧ iv = .int .i64 k ∧ (∀ i, i < k → nth a i = nth b i) ∧ Below w.heap.size w wr) (fun iv _ => a.length - (intOf iv).toNat)
  case atStart => exact ⟨0, Nat.zero_le _, rfl, fun i hi => by omega, below_same _⟩
  case round =>
   obtain ⟨k, hk, rfl, hall, hB⟩ := hrel;have HALL : Hid (∀ i, i < k → nth a i = nth b i) := hall;have HW := hidH hB;clear hB hall;by_cases hlt : k < a.length
   ·have hltb : k < b.length := by have := HL.out; omega
    obtain ⟨g, off, rfl, c0⟩ := (HA.out.below HW.out).at hlt;obtain ⟨d, doff, rfl, d0⟩ := (HB.out.below HW.out).at hltb;obtain ⟨x, hx⟩ : ∃ x, x = nth a k := ⟨_, rfl⟩;obtain ⟨y, hy⟩ : ∃ y, y = nth b k := ⟨_, rfl⟩;rw [← hx] at c0;rw [← hy] at d0;have HX : Hid (x = nth a k) := hx;have HY : Hid (y = nth b k) := hy;clear hx hy;have hlti : (k : Int) < (a.length : Int) := by omega
    have hltbi : (k : Int) < (b.length : Int) := by omega
    by_cases hle : x = y
    ·have hq : (x != y) = false := by simp [hle]
     have HXY : Hid (x = y) := hle;clear hle;go_wp2_with fail;go_quiet (fail);go_wp2_with fail;go_roundw
     case rel =>
      refine ⟨k + 1, by omega, by go_num, fun i hi => ?_, below_trans HW.out (below_drewN _ _)⟩;by_cases hik : i = k
      ·subst hik; rw [← HX.out, ← HY.out]; exact HXY.out
      ·exact HALL.out i (by omega)
     case measure => simp [intOf]; omega
    ·have hq : (x != y) = true := by simp [hle]
     have HD : Hid (decide (a = b) = false) := by
      show _ = _;refine decide_eq_false fun h => hle ?_;rw [HX.out, HY.out, h]
     go_wp2_with fail;go_quiet (fail);go_wp2_with fail;go_ret;exact ⟨HD.out ▸ rfl, below_trans HW.out (below_drewN _ _)⟩
   ·have hnl : ¬ ((k : Int) < (a.length : Int)) := by omega
    have HD : Hid (decide (a = b) = true) := decide_eq_true (nth_ext HL.out fun i hi => HALL.out i (by omega));go_wp2_with fail;go_ret;exact ⟨HD.out ▸ rfl, HW.out⟩
 ·have hln : ((a.length : Int) != (b.length : Int)) = true := by simp; omega
  have HD : Hid (decide (a = b) = false) := decide_eq_false fun h => hl (by rw [h]);clear hl;go_in;go_wp2_with fail;go_ret;exact ⟨HD.out ▸ rfl, below_same _⟩
theorem keys17 {ao bo : Option Addr} {ca cb : Nat} {l : List Nat} {w : World} (hl : l.length ≤ 1048576) (ha : Kl w ao l) (hb : Kl w bo l) :
  Calls Tryz.prog 35 #[.slice ao l.length ca, .slice bo l.length cb] w fun e w' => e = .returned (.bool true) ∧ Below w.heap.size w w' := by
 have HA : Hid (Kl w ao l) := ha;have HB : Hid (Kl w bo l) := hb;clear ha hb;go_in;go_wp2_with fail;go_loopw [5] (fun iv wr => ∃ k : Nat, k ≤ l.length ∧ iv = .int .i64 k ∧ Below w.heap.size w wr) (fun iv _ => l.length - (intOf iv).toNat)
 case atStart => exact ⟨0, Nat.zero_le _, rfl, below_same _⟩
 case round =>
  obtain ⟨k, hk, rfl, hB⟩ := hrel;have HW := hidH hB;clear hB;by_cases hlt : k < l.length
  ·obtain ⟨b, off, rfl, c0⟩ := HA.out.below HW.out k hlt;obtain ⟨d, doff, rfl, d0⟩ := HB.out.below HW.out k hlt;obtain ⟨o, hoe⟩ : ∃ o, o = l[k] := ⟨_, rfl⟩;rw [← hoe] at c0 d0;have hn : ((o : Int) != (o : Int)) = false := by simp
   clear hoe;go_wp2_with fail;go_quiet (fail);go_wp2_with fail;go_roundw
   case rel => exact ⟨k + 1, by omega, by go_num, below_trans HW.out (below_drewN _ _)⟩
   case measure => simp [intOf]; omega
  ·go_wp2_with fail;go_ret;exact ⟨rfl, HW.out⟩
theorem pairs17 {ao bo : Option Addr} {ca cb : Nat} {l : List Pr} {w : World} (hl : l.length ≤ maxLen) (ha : Ql w ao l) (hb : Ql w bo l) :
  Calls Tryz.prog 36 #[.slice ao l.length ca, .slice bo l.length cb] w fun e w' => e = .returned (.bool true) ∧ Below w.heap.size w w' := by
 have hli : (l.length : Int) ≤ 9223372036854775807 := by simp only [maxLen] at hl; omega
 have HA : Hid (Ql w ao l) := ha;have HB : Hid (Ql w bo l) := hb;have hgd := guard_pair;clear ha hb hl;go_in;go_wp2_with fail;go_loopw [5] (fun iv wr => ∃ k : Nat, k ≤ l.length ∧ iv = .int .i64 k ∧ Below w.heap.size w wr) (fun iv _ => l.length - (intOf iv).toNat)
 case atStart => exact ⟨0, Nat.zero_le _, rfl, below_same _⟩
 case round =>
  obtain ⟨k, hk, rfl, hB⟩ := hrel;have HW := hidH hB;clear hB;by_cases hlt : k < l.length
  ·obtain ⟨b, off, rfl, c0, c1, c2⟩ := HA.out.below HW.out k hlt;obtain ⟨d, doff, rfl, d0, d1, d2⟩ := HB.out.below HW.out k hlt;obtain ⟨o, hoe⟩ : ∃ o, o = l[k] := ⟨_, rfl⟩;rw [← hoe] at c0 c1 c2 d0 d1 d2;have hn := neq_pair o;clear hoe;go_wp2_with fail;go_quiet (fail);go_wp2_with fail;go_roundw
   case rel => exact ⟨k + 1, by omega, by go_num, below_trans HW.out (below_drewN _ _)⟩
   case measure => simp [intOf]; omega
  ·go_wp2_with fail;go_ret;exact ⟨rfl, HW.out⟩
theorem keys_ok17 {w : World} {lo lo' : Nat} {u v : Value} {l : List Nat} (hu : w.ownsRow lo 40 1 u l.length (l.map fun k : Nat => Value.int .u64 (k : Int))) (hv : w.ownsRow lo' 40 1 v l.length (l.map fun k : Nat => Value.int .u64 (k : Int))) (hl : l.length ≤ 1048576) :
  Calls Tryz.prog 35 #[u, v] w fun e w' => e = .returned (.bool true) ∧ Below w.heap.size w w' := by
 obtain ⟨ua, uc, rfl, h1⟩ := own_kl hu;obtain ⟨va, vc, rfl, h2⟩ := own_kl hv;exact keys17 hl h1 h2
theorem pairs_ok17 {w : World} {u v : Value} {l : List Pr} (hu : Qv w u l) (hv : Qv w v l) : Calls Tryz.prog 36 #[u, v] w fun e w' => e = .returned (.bool true) ∧ Below w.heap.size w w' := by
 obtain ⟨ua, uc, rfl, h0, h1⟩ := hu.form;obtain ⟨va, vc, rfl, _, h2⟩ := hv.form;exact pairs17 h0 h1 h2
theorem mr_at {w : World} {lo n cap : Nat} {ao : Option Addr} {M : List Tq} (h : Mr w lo (.slice ao n cap) M) {i : Nat} (hi : i < M.length) : ∃ g, ao = some ⟨g, 0, none⟩ ∧ ∀ j u, (cellsT M[i])[j]? = some u → w.cell? ⟨g, i * 9 + j, none⟩ = some u := by
 obtain ⟨g, cap', hg, _⟩ := row_formN h.own (by omega);simp only [Value.slice.injEq] at hg;refine ⟨g, hg.1, fun j u hj => ?_⟩;have hr := h.own;rw [hg.1, hg.2.1] at hr
 have hj9 : j < 9 := by
  rcases Nat.lt_or_ge j 9 with q | q
  ·exact q
  ·rw [List.getElem?_eq_none (by simpa [cellsT] using q)] at hj; cases hj
 exact (own_cellN hr (j := i * 9 + j) (u := u) (by rw [flatT_get M i j hi hj9]; exact hj)).1
structure MXo (w : World) (g off : Nat) (x : Tq) : Prop where
 c0 : w.cell? ⟨g, off, none⟩ = some (.int .i64 x.m.K)
 c1 : w.cell? ⟨g, off + 1, none⟩ = some (.int .i64 x.m.F)
 c2 : w.cell? ⟨g, off + 2, none⟩ = some (.int .i64 x.m.T)
 c3 : w.cell? ⟨g, off + 3, none⟩ = some (.int .i64 x.m.B)
 c4 : w.cell? ⟨g, off + 4, none⟩ = some (.int .i64 x.m.A)
 c5 : w.cell? ⟨g, off + 5, none⟩ = some (.int .i64 x.m.C)
 c6 : w.cell? ⟨g, off + 6, none⟩ = some x.e
 c7 : w.cell? ⟨g, off + 7, none⟩ = some x.q
 c8 : w.cell? ⟨g, off + 8, none⟩ = some x.p
theorem mr_mx {w : World} {lo n cap : Nat} {ao : Option Addr} {M : List Tq} (h : Mr w lo (.slice ao n cap) M) {i : Nat} (hi : i < M.length) : ∃ g, ao = some ⟨g, 0, none⟩ ∧ MXo w g (i * 9) M[i] := by
 obtain ⟨g, hg, hc⟩ := mr_at h hi;exact ⟨g, hg, hc 0 _ rfl, hc 1 _ rfl, hc 2 _ rfl, hc 3 _ rfl, hc 4 _ rfl, hc 5 _ rfl, hc 6 _ rfl, hc 7 _ rfl, hc 8 _ rfl⟩
theorem MXo.below {w w' : World} {g off : Nat} {x : Tq} (h : MXo w g off x) (hb : Below w.heap.size w w') : MXo w' g off x := by
 have hl : g < w.heap.size := cell_lt h.c0;have k : ∀ j u, w.cell? ⟨g, j, none⟩ = some u → w'.cell? ⟨g, j, none⟩ = some u := fun j u hu => by rw [hb.cell (p := ⟨g, j, none⟩) hl]; exact hu
 exact ⟨k _ _ h.c0, k _ _ h.c1, k _ _ h.c2, k _ _ h.c3, k _ _ h.c4, k _ _ h.c5, k _ _ h.c6, k _ _ h.c7, k _ _ h.c8⟩
theorem to_form {w : World} {lo : Nat} {x : Tq} (h : To w lo x) : ∃ ea ec qa qc pa pc, x.e = .slice ea x.m.E.length ec ∧ x.q = .slice qa x.m.Q.length qc ∧ x.p = .slice pa x.m.P.length pc := by
 obtain ⟨ea, ec, e1⟩ := own_formN h.e;obtain ⟨qa, qc, e2⟩ := own_formN h.q;obtain ⟨pa, pc, e3⟩ := own_formN h.p;exact ⟨_, _, _, _, _, _, e1, e2, e3⟩
theorem msgs17 {w : World} {lo lo' : Nat} {a b : Value} {F G : List Tq} (ha : Mr w lo a F) (hb : Mr w lo' b G) (hnm : F.map (·.m) = G.map (·.m)) (hq : ∀ x ∈ F, x.m.Q.length ≤ 1048576) : Calls Tryz.prog 11 #[a, b] w fun e w' => e = .returned (.bool true) ∧ Below w.heap.size w w' := by
 have HA : Hid (Mr w lo a F) := ha;have HB : Hid (Mr w lo' b G) := hb;have HQQ := hidH hq;have HM : Hid (F.map (·.m) = G.map (·.m)) := hnm;obtain ⟨ao, ac, rfl⟩ := own_formN ha.own;obtain ⟨bo, bc, rfl⟩ := own_formN hb.own;have HLE : Hid (G.length = F.length) := by have h := congrArg List.length hnm; simp only [List.length_map] at h; exact h.symm
 have hle := HLE.out;have hal : F.length ≤ maxLen := by obtain ⟨a1, a2, e, h1, h2⟩ := row_form ha.own; omega
 rw [hle] at HB ⊢;have hli : (F.length : Int) ≤ 9223372036854775807 := by unfold maxLen at hal; omega
 have hne : ((F.length : Int) != (F.length : Int)) = false := by simp
 clear ha hb hnm hal hle hq;go_in;go_upto_region 4 with fail
 clear hne;go_loopw [5] (fun iv wr => ∃ i : Nat, iv = .int .i64 i ∧ i ≤ F.length ∧ Below w.heap.size w wr) (fun iv _ => F.length - (intOf iv).toNat)
 case atStart => exact ⟨0, rfl, Nat.zero_le _, Below.refl _ _⟩
 case round =>
  obtain ⟨i, rfl, hil, hbel⟩ := hrel;have HR := hidH hbel;clear hbel;by_cases hlt : i < F.length
  ·have hlti : (i : Int) < (F.length : Int) := by omega
   have hlg : i < G.length := by rw [HLE.out]; exact hlt
   obtain ⟨gb, rfl, hfa⟩ := mr_mx (HA.out.below HR.out) hlt;obtain ⟨kb, rfl, hfb⟩ := mr_mx (HB.out.below HR.out) hlg
   have hxe : F[i].m = G[i].m := by
    have h := congrArg (fun l => l[i]?) HM.out;simp only [List.getElem?_map, List.getElem?_eq_getElem hlt, List.getElem?_eq_getElem hlg, Option.map_some, Option.some.injEq] at h;exact h
   have hma := (HA.out.below HR.out).ent F[i] (List.getElem_mem _);have hmb := (HB.out.below HR.out).ent G[i] (List.getElem_mem _);have hqq := HQQ.out F[i] (List.getElem_mem _);obtain ⟨x, hx⟩ : ∃ x, x = F[i] := ⟨_, rfl⟩;obtain ⟨y, hy⟩ : ∃ y, y = G[i] := ⟨_, rfl⟩;rw [← hx] at hfa hma hxe hqq;rw [← hy] at hfb hmb hxe;obtain ⟨xm, xe, xq, xp⟩ := x;obtain ⟨ym, ye, yq, yp⟩ := y;simp only at hxe;subst hxe;obtain ⟨ea, ec, qa, qc, pa, pc, e1, e2, e3⟩ := to_form hma;obtain ⟨fa, fc, ra, rc, sa, sc, f1, f2, f3⟩ := to_form hmb;simp only at e1 e2 e3 f1 f2 f3;subst e1 e2 e3 f1 f2 f3;have HFA : Hid _ := hfa;have HFB : Hid _ := hfb;have HMA : Hid _ := hma;have HMB : Hid _ := hmb;have HQ1 := hidH hqq;have HLT : Hid (i < F.length) := hlt;clear hfa hfb hma hmb hx hy hlt hlg hqq;have k0 := HFA.out.c0;have k1 := HFA.out.c1;have k2 := HFA.out.c2;have k3 := HFA.out.c3;have k4 := HFA.out.c4;have k5 := HFA.out.c5;have k6 := HFA.out.c6;have k7 := HFA.out.c7;have k8 := HFA.out.c8;simp only at k0 k1 k2 k3 k4 k5 k6 k7 k8;go_upto_region 7 with fail
   have HX1 : Hid _ := mx_new wr xm (.slice ea xm.E.length ec) (.slice qa xm.Q.length qc) (.slice pa xm.P.length pc);have HB1 : Hid _ := below_alloc wr (Obj.cells #[.int .i64 xm.K, .int .i64 xm.F, .int .i64 xm.T, .int .i64 xm.B, .int .i64 xm.A, .int .i64 xm.C, .slice ea xm.E.length ec, .slice qa xm.Q.length qc, .slice pa xm.P.length pc] 48);have HF1 : Hid _ := HFB.out.below HB1.out;obtain ⟨X, hX⟩ : ∃ X, X = wr.heap.size := ⟨_, rfl⟩;rw [← hX] at HX1 ⊢;clear hX;generalize wr.alloc (Obj.cells #[.int .i64 xm.K, .int .i64 xm.F, .int .i64 xm.T, .int .i64 xm.B, .int .i64 xm.A, .int .i64 xm.C, .slice ea xm.E.length ec, .slice qa xm.Q.length qc, .slice pa xm.P.length pc] 48) = w1 at HX1 HB1 HF1 ⊢;clear k0 k1 k2 k3 k4 k5 k6 k7 k8;have k0 := HF1.out.c0;have k1 := HF1.out.c1;have k2 := HF1.out.c2;have k3 := HF1.out.c3;have k4 := HF1.out.c4;have k5 := HF1.out.c5;have k6 := HF1.out.c6;have k7 := HF1.out.c7;have k8 := HF1.out.c8;simp only at k0 k1 k2 k3 k4 k5 k6 k7 k8;go_upto_region 8 with fail
   have HY2 : Hid _ := mx_new w1 xm (.slice fa xm.E.length fc) (.slice ra xm.Q.length rc) (.slice sa xm.P.length sc);have HB2 : Hid _ := below_alloc w1 (Obj.cells #[.int .i64 xm.K, .int .i64 xm.F, .int .i64 xm.T, .int .i64 xm.B, .int .i64 xm.A, .int .i64 xm.C, .slice fa xm.E.length fc, .slice ra xm.Q.length rc, .slice sa xm.P.length sc] 48);have HX2 : Hid _ := HX1.out.keep HB2.out;obtain ⟨Y, hY⟩ : ∃ Y, Y = w1.heap.size := ⟨_, rfl⟩;rw [← hY] at HY2 ⊢;clear hY;generalize w1.alloc (Obj.cells #[.int .i64 xm.K, .int .i64 xm.F, .int .i64 xm.T, .int .i64 xm.B, .int .i64 xm.A, .int .i64 xm.C, .slice fa xm.E.length fc, .slice ra xm.Q.length rc, .slice sa xm.P.length sc] 48) = w2 at HY2 HB2 HX2 ⊢;clear k0 k1 k2 k3 k4 k5 k6 k7 k8;have HB12 := hidH (below_trans HB1.out HB2.out);have x0 := HX2.out.c0;have x1 := HX2.out.c1;have x2 := HX2.out.c2;have x3 := HX2.out.c3;have x4 := HX2.out.c4;have x5 := HX2.out.c5;have x6 := HX2.out.c6;have x7 := HX2.out.c7;have x8 := HX2.out.c8;have y0 := HY2.out.c0;have y1 := HY2.out.c1;have y2 := HY2.out.c2;have y3 := HY2.out.c3;have y4 := HY2.out.c4;have y5 := HY2.out.c5;have y6 := HY2.out.c6;have y7 := HY2.out.c7;have y8 := HY2.out.c8;have hk : ∀ z : Int, (z != z) = false := fun z => by simp
   go_wp2_with fail;refine (ints17 ((HMA.out.below HB12.out).nv) ((HMB.out.below HB12.out).nv)).mono ?_;rintro e w3 ⟨he, hB3⟩;have he1 : e = .returned (.bool true) := by rw [he]; simp
   clear he;subst he1;have HB3 := hidH (below_trans HB12.out hB3);have HX3 : Hid _ := HX2.out.keep hB3;have HY3 : Hid _ := HY2.out.keep hB3;clear hB3 x0 x1 x2 x3 x4 x5 x6 x7 x8 y0 y1 y2 y3 y4 y5 y6 y7 y8 HX2 HY2;have x0 := HX3.out.c0;have x1 := HX3.out.c1;have x2 := HX3.out.c2;have x3 := HX3.out.c3;have x4 := HX3.out.c4;have x5 := HX3.out.c5;have x6 := HX3.out.c6;have x7 := HX3.out.c7;have x8 := HX3.out.c8;have y0 := HY3.out.c0;have y1 := HY3.out.c1;have y2 := HY3.out.c2;have y3 := HY3.out.c3;have y4 := HY3.out.c4;have y5 := HY3.out.c5;have y6 := HY3.out.c6;have y7 := HY3.out.c7;have y8 := HY3.out.c8;go_wp2_with fail;refine (keys_ok17 (HMA.out.below HB3.out).q (HMB.out.below HB3.out).q HQ1.out).mono ?_;rintro e w4 ⟨rfl, hB4⟩;have HB4 := hidH (below_trans HB3.out hB4);have HX4 : Hid _ := HX3.out.keep hB4;have HY4 : Hid _ := HY3.out.keep hB4;clear hB4 x0 x1 x2 x3 x4 x5 x6 x7 x8 y0 y1 y2 y3 y4 y5 y6 y7 y8 HX3 HY3;have x0 := HX4.out.c0;have x1 := HX4.out.c1;have x2 := HX4.out.c2;have x3 := HX4.out.c3;have x4 := HX4.out.c4;have x5 := HX4.out.c5;have x6 := HX4.out.c6;have x7 := HX4.out.c7;have x8 := HX4.out.c8;have y0 := HY4.out.c0;have y1 := HY4.out.c1;have y2 := HY4.out.c2;have y3 := HY4.out.c3;have y4 := HY4.out.c4;have y5 := HY4.out.c5;have y6 := HY4.out.c6;have y7 := HY4.out.c7;have y8 := HY4.out.c8;go_wp2_with fail;refine (pairs_ok17 (own_qv (HMA.out.below HB4.out).p HMA.out.ok.P) (own_qv (HMB.out.below HB4.out).p HMB.out.ok.P)).mono ?_;rintro e w5 ⟨rfl, hB5⟩;have HB5 := hidH (below_trans HB4.out hB5);clear hB5 x0 x1 x2 x3 x4 x5 x6 x7 x8 y0 y1 y2 y3 y4 y5 y6 y7 y8 HX4 HY4 hk;go_wp2_with fail;go_roundw
   case rel => exact ⟨i + 1, by go_num, HLT.out, below_trans HR.out HB5.out⟩
   case measure => have := HLT.out; simp [intOf]; omega
  ·have hlti : ¬ (i : Int) < (F.length : Int) := by omega
   go_wp2_with fail;go_ret;exact ⟨rfl, HR.out⟩
end
end Go.Proofs.YtombjgfajbhbbaaGreat
