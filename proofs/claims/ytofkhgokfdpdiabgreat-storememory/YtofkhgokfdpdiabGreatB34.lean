/- The sorted table of a map. -/
import Derived.Test.YtofkhgokfdpdiabGreatB04
import Derived.Shelf.SlSortCmp.WholeK
import Derived.Shelf.SlSortCmp.NoneTotal
import Derived.Test.YtofkhgokfdpdiabGreatProg
import Derived.Test.YtofkhgokfdpdiabGreatB02
import Derived.Test.YtofkhgokfdpdiabGreatB05
set_option maxRecDepth 100000
set_option maxHeartbeats 16000000
namespace Go.Proofs.YtofkhgokfdpdiabGreat
section
open Ieee Go.RowKit

def encP (p : Pr) : List Value := [.int .u64 p.k, .bool p.v.h, .int .u64 p.v.b]
def cmpN (a b : Nat) : Int := if a < b then -1 else if b < a then 1 else 0
def cfP (a b : Pr) : Int := cmpN a.k b.k
theorem ltP (a b : Pr) : ltOf cfP a b = decide (a.k < b.k) := by
 unfold ltOf cfP cmpN
 by_cases h1 : a.k < b.k
 ·simp [h1]
 ·by_cases h2 : b.k < a.k <;> simp [h1, h2]
theorem swoP : Sort.SWO (ltOf cfP) where
 irrefl x := by rw [ltP]; simp
 trans x y z h1 h2 := by rw [ltP] at *; simp at *; omega
 ntrans x y z h1 h2 := by rw [ltP] at *; simp at *; omega
theorem holds_of_mq [Inhabited Pr] {w : World} {g : Nat} {m : List Pr} (h : Mq w g m) : Sort.HoldsK encP 3 w g 0 m.toArray := by
 intro j hj
 rw [Sort.size_flatK] at hj
 have hjl : j < m.length * 3 := by simpa using hj
 rw [Sort.get_flatK _ _ _ _ hj]
 obtain ⟨⟨a, b, c⟩, d, e, f⟩ := h (j / 3) (by omega)
 have e0 : m.toArray[j / 3]! = m[j / 3] := by
  have h3 : j / 3 < m.length := by omega
  rw [getElem!_pos m.toArray (j / 3) (by simpa using h3)]; simp
 rw [e0]
 have hmod : j % 3 = 0 ∨ j % 3 = 1 ∨ j % 3 = 2 := by omega
 rcases hmod with hm | hm | hm
 ·have e2 : j / 3 * 3 = j := by omega
  rw [e2] at a d
  rw [hm, Nat.zero_add]; exact ⟨a, d⟩
 ·have e2 : j / 3 * 3 + 1 = j := by omega
  rw [e2] at b e
  rw [hm, Nat.zero_add]; exact ⟨b, e⟩
 ·have e2 : j / 3 * 3 + 2 = j := by omega
  rw [e2] at c f
  rw [hm, Nat.zero_add]; exact ⟨c, f⟩
theorem mq_of_holds [Inhabited Pr] {w : World} {g : Nat} {d : Array Pr} (h : Sort.HoldsK encP 3 w g 0 d) : Mq w g d.toList := by
 intro i hi
 have hi' : i < d.size := by simpa using hi
 have e0 : d[i]! = d.toList[i] := by rw [getElem!_pos d i hi']; simp
 obtain ⟨a, x⟩ := h.cell hi' (show 0 < 3 by omega)
 obtain ⟨b, y⟩ := h.cell hi' (show 1 < 3 by omega)
 obtain ⟨c, z⟩ := h.cell hi' (show 2 < 3 by omega)
 rw [e0] at a b c
 simp only [Nat.zero_add, Nat.add_zero] at a b c x y z
 exact ⟨⟨a, b, c⟩, x, y, z⟩
theorem grown_sortK [Inhabited Pr] {w : World} {g n : Nat} {os : Array Obj} (d : Array Pr) : w.grownBy (sortWorldK encP 3 w g 0 n d os) (some g) := by
 refine ⟨rfl, rfl, rfl, by simp [sortWorldK, Sort.putRowK], fun k hk hne => ?_⟩
 unfold sortWorldK
 rw [Sort.heap_grow_old _ _ (by simpa [Sort.putRowK] using hk)]
 have : g ≠ k := fun e => hne (by rw [e])
 simp [Sort.putRowK, Sort.putRow, Sort.mapBlock, Sort.ahead, Array.getElem?_modify, this]
theorem sorted_end [Inhabited Pr] {t m : List Pr} (rt : Rise t) (hp : m.Perm t) {d' : Array Pr} (h1 : Sort.PermIn 0 m.toArray.size m.toArray d') (h2 : Sort.SortedIn (ltOf cfP) 0 m.toArray.size d') : d'.toList = t := by
 obtain ⟨hs, _, hperm⟩ := h1
 have hsz : d'.size = m.length := by simpa using hs
 have hp' : d'.toList.Perm m := by
  have e1 : (d'.extract 0 m.toArray.size).toList = d'.toList := by
   rw [← hs]; simp
  have e2 : (m.toArray.extract 0 m.toArray.size).toList = m := by simp
  rw [e1, e2] at hperm; exact hperm
 refine sorted_is rt (hp'.trans hp) ?_
 rw [List.pairwise_iff_getElem]
 intro i j hi hj hij
 have hi' : i < d'.size := by simpa using hi
 have hj' : j < d'.size := by simpa using hj
 have h := h2 i j (Nat.zero_le _) hij (by rw [← hs]; exact hj')
 rw [ltP, getElem!_pos d' i hi', getElem!_pos d' j hj'] at h
 simpa using h
theorem mq_sorted [Inhabited Pr] {w : World} {g n : Nat} {os : Array Obj} {m t : List Pr} {d' : Array Pr} (hM : Mq w g m) (hg : g < w.heap.size) (hs : d'.size = m.length) (ht : d'.toList = t) : Mq (sortWorldK encP 3 w g 0 n d' os) g t := by
 rw [← ht]
 refine mq_of_holds ?_
 exact holdsK_sortWorldK_c encP 3 w g 0 m.toArray d' n os (holds_of_mq hM) hg (by simpa using hs)
end
section
open Go.Shelf

def lays6_ren : Go.Shelf.Ren := ⟨fun | 6 => 102 | 15 => 106 | 14 => 148 | 28 => 158 | 29 => 159 | 20 => 182 | 21 => 183 | 22 => 184 | 23 => 185 | 24 => 186 | 25 => 187 | 26 => 188 | 27 => 189 | 46 => 205 | 47 => 191 | 48 => 192 | 49 => 206 | 50 => 207 | 57 => 214 | n => n, fun | 22 => 29 | 24 => 60 | 25 => 174 | 3 => 3 | 39 => 37 | 0 => 0 | 53 => 227 | 55 => 33 | 4 => 4 | 46 => 220 | 45 => 219 | 50 => 153 | 5 => 5 | 9 => 9 | 66 => 250 | 70 => 253 | 76 => 263 | 77 => 264 | n => n, fun | n => n⟩

theorem lays6 : Go.Proofs.SlLaysF0.n6 Tryz.prog lays6_ren := {
  mixed := by kernel_rfl
  f6 := ⟨Tryz.f102.name, by decide, Tryz.func102.trans (congrArg some (by kernel_rfl))⟩
  f14 := ⟨Tryz.f148.name, by decide, Tryz.func148.trans (congrArg some (by kernel_rfl))⟩
  f15 := Tryz.func106.trans (congrArg some (by kernel_rfl))
  f20 := ⟨Tryz.f182.name, by decide, Tryz.func182.trans (congrArg some (by kernel_rfl))⟩
  f21 := ⟨Tryz.f183.name, by decide, Tryz.func183.trans (congrArg some (by kernel_rfl))⟩
  f22 := ⟨Tryz.f184.name, by decide, Tryz.func184.trans (congrArg some (by kernel_rfl))⟩
  f23 := ⟨Tryz.f185.name, by decide, Tryz.func185.trans (congrArg some (by kernel_rfl))⟩
  f24 := ⟨Tryz.f186.name, by decide, Tryz.func186.trans (congrArg some (by kernel_rfl))⟩
  f25 := ⟨Tryz.f187.name, by decide, Tryz.func187.trans (congrArg some (by kernel_rfl))⟩
  f26 := ⟨Tryz.f188.name, by decide, Tryz.func188.trans (congrArg some (by kernel_rfl))⟩
  f27 := ⟨Tryz.f189.name, by decide, Tryz.func189.trans (congrArg some (by kernel_rfl))⟩
  f28 := Tryz.func158.trans (congrArg some (by kernel_rfl))
  f29 := Tryz.func159.trans (congrArg some (by kernel_rfl))
  f46 := ⟨Tryz.f205.name, by decide, Tryz.func205.trans (congrArg some (by kernel_rfl))⟩
  f47 := Tryz.func191.trans (congrArg some (by kernel_rfl))
  f48 := Tryz.func192.trans (congrArg some (by kernel_rfl))
  f49 := ⟨Tryz.f206.name, by decide, Tryz.func206.trans (congrArg some (by kernel_rfl))⟩
  f50 := ⟨Tryz.f207.name, by decide, Tryz.func207.trans (congrArg some (by kernel_rfl))⟩
  f57 := ⟨Tryz.f214.name, by decide, Tryz.func214.trans (congrArg some (by kernel_rfl))⟩
  t0 := Tryz.underlying0
  a0 := Tryz.isAgg0
  z0 := Tryz.sizeOf0
  v0 := Tryz.zeroValue0
  t3 := Tryz.underlying3
  a3 := Tryz.isAgg3
  z3 := Tryz.sizeOf3
  v3 := Tryz.zeroValue3
  t4 := Tryz.underlying4
  a4 := Tryz.isAgg4
  z4 := Tryz.sizeOf4
  v4 := Tryz.zeroValue4
  t5 := Tryz.underlying5
  a5 := Tryz.isAgg5
  z5 := Tryz.sizeOf5
  v5 := Tryz.zeroValue5
  t9 := Tryz.underlying9
  a9 := Tryz.isAgg9
  z9 := Tryz.sizeOf9
  v9 := Tryz.zeroValue9
  t22 := Tryz.underlying29
  a22 := Tryz.isAgg29
  z22 := Tryz.sizeOf29
  v22 := Tryz.zeroValue29
  t25 := Tryz.underlying174
  a25 := Tryz.isAgg174
  z25 := Tryz.sizeOf174
  v25 := Tryz.zeroValue174
  t39 := Tryz.underlying37
  a39 := Tryz.isAgg37
  z39 := Tryz.sizeOf37
  v39 := Tryz.zeroValue37
  t45 := Tryz.underlying219
  a45 := Tryz.isAgg219
  z45 := Tryz.sizeOf219
  v45 := Tryz.zeroValue219
  t46 := Tryz.underlying220
  a46 := Tryz.isAgg220
  z46 := Tryz.sizeOf220
  v46 := Tryz.zeroValue220
  t50 := Tryz.underlying153
  a50 := Tryz.isAgg153
  z50 := Tryz.sizeOf153
  v50 := Tryz.zeroValue153
  t53 := Tryz.underlying227
  a53 := Tryz.isAgg227
  z53 := Tryz.sizeOf227
  v53 := Tryz.zeroValue227
  t55 := Tryz.underlying33
  a55 := Tryz.isAgg33
  z55 := Tryz.sizeOf33
  v55 := Tryz.zeroValue33
  t66 := Tryz.underlying250
  a66 := Tryz.isAgg250
  z66 := Tryz.sizeOf250
  v66 := Tryz.zeroValue250
  t70 := Tryz.underlying253
  a70 := Tryz.isAgg253
  z70 := Tryz.sizeOf253
  v70 := Tryz.zeroValue253
  t76 := Tryz.underlying263
  a76 := Tryz.isAgg263
  z76 := Tryz.sizeOf263
  v76 := Tryz.zeroValue263
  t77 := Tryz.underlying264
  a77 := Tryz.isAgg264
  z77 := Tryz.sizeOf264
  v77 := Tryz.zeroValue264 }

def lays6c_ren : Go.Shelf.Ren := ⟨fun | 6 => 66 | 15 => 106 | 14 => 113 | 28 => 158 | 29 => 159 | 20 => 162 | 21 => 163 | 22 => 164 | 23 => 165 | 24 => 166 | 25 => 167 | 26 => 168 | 27 => 169 | 46 => 196 | 47 => 191 | 48 => 192 | 49 => 197 | 50 => 198 | 57 => 209 | n => n, fun | 22 => 46 | 24 => 63 | 25 => 135 | 3 => 3 | 39 => 37 | 0 => 0 | 53 => 227 | 55 => 33 | 4 => 4 | 46 => 220 | 45 => 219 | 50 => 153 | 5 => 5 | 9 => 9 | 66 => 250 | 70 => 253 | 76 => 263 | 77 => 264 | n => n, fun | n => n⟩

theorem lays6c : Go.Proofs.SlLaysF0.n6 Tryz.prog lays6c_ren := {
  mixed := by kernel_rfl
  f6 := ⟨Tryz.f66.name, by decide, Tryz.func66.trans (congrArg some (by kernel_rfl))⟩
  f14 := ⟨Tryz.f113.name, by decide, Tryz.func113.trans (congrArg some (by kernel_rfl))⟩
  f15 := Tryz.func106.trans (congrArg some (by kernel_rfl))
  f20 := ⟨Tryz.f162.name, by decide, Tryz.func162.trans (congrArg some (by kernel_rfl))⟩
  f21 := ⟨Tryz.f163.name, by decide, Tryz.func163.trans (congrArg some (by kernel_rfl))⟩
  f22 := ⟨Tryz.f164.name, by decide, Tryz.func164.trans (congrArg some (by kernel_rfl))⟩
  f23 := ⟨Tryz.f165.name, by decide, Tryz.func165.trans (congrArg some (by kernel_rfl))⟩
  f24 := ⟨Tryz.f166.name, by decide, Tryz.func166.trans (congrArg some (by kernel_rfl))⟩
  f25 := ⟨Tryz.f167.name, by decide, Tryz.func167.trans (congrArg some (by kernel_rfl))⟩
  f26 := ⟨Tryz.f168.name, by decide, Tryz.func168.trans (congrArg some (by kernel_rfl))⟩
  f27 := ⟨Tryz.f169.name, by decide, Tryz.func169.trans (congrArg some (by kernel_rfl))⟩
  f28 := Tryz.func158.trans (congrArg some (by kernel_rfl))
  f29 := Tryz.func159.trans (congrArg some (by kernel_rfl))
  f46 := ⟨Tryz.f196.name, by decide, Tryz.func196.trans (congrArg some (by kernel_rfl))⟩
  f47 := Tryz.func191.trans (congrArg some (by kernel_rfl))
  f48 := Tryz.func192.trans (congrArg some (by kernel_rfl))
  f49 := ⟨Tryz.f197.name, by decide, Tryz.func197.trans (congrArg some (by kernel_rfl))⟩
  f50 := ⟨Tryz.f198.name, by decide, Tryz.func198.trans (congrArg some (by kernel_rfl))⟩
  f57 := ⟨Tryz.f209.name, by decide, Tryz.func209.trans (congrArg some (by kernel_rfl))⟩
  t0 := Tryz.underlying0
  a0 := Tryz.isAgg0
  z0 := Tryz.sizeOf0
  v0 := Tryz.zeroValue0
  t3 := Tryz.underlying3
  a3 := Tryz.isAgg3
  z3 := Tryz.sizeOf3
  v3 := Tryz.zeroValue3
  t4 := Tryz.underlying4
  a4 := Tryz.isAgg4
  z4 := Tryz.sizeOf4
  v4 := Tryz.zeroValue4
  t5 := Tryz.underlying5
  a5 := Tryz.isAgg5
  z5 := Tryz.sizeOf5
  v5 := Tryz.zeroValue5
  t9 := Tryz.underlying9
  a9 := Tryz.isAgg9
  z9 := Tryz.sizeOf9
  v9 := Tryz.zeroValue9
  t22 := Tryz.underlying46
  a22 := Tryz.isAgg46
  z22 := Tryz.sizeOf46
  v22 := Tryz.zeroValue46
  t25 := Tryz.underlying135
  a25 := Tryz.isAgg135
  z25 := Tryz.sizeOf135
  v25 := Tryz.zeroValue135
  t39 := Tryz.underlying37
  a39 := Tryz.isAgg37
  z39 := Tryz.sizeOf37
  v39 := Tryz.zeroValue37
  t45 := Tryz.underlying219
  a45 := Tryz.isAgg219
  z45 := Tryz.sizeOf219
  v45 := Tryz.zeroValue219
  t46 := Tryz.underlying220
  a46 := Tryz.isAgg220
  z46 := Tryz.sizeOf220
  v46 := Tryz.zeroValue220
  t50 := Tryz.underlying153
  a50 := Tryz.isAgg153
  z50 := Tryz.sizeOf153
  v50 := Tryz.zeroValue153
  t53 := Tryz.underlying227
  a53 := Tryz.isAgg227
  z53 := Tryz.sizeOf227
  v53 := Tryz.zeroValue227
  t55 := Tryz.underlying33
  a55 := Tryz.isAgg33
  z55 := Tryz.sizeOf33
  v55 := Tryz.zeroValue33
  t66 := Tryz.underlying250
  a66 := Tryz.isAgg250
  z66 := Tryz.sizeOf250
  v66 := Tryz.zeroValue250
  t70 := Tryz.underlying253
  a70 := Tryz.isAgg253
  z70 := Tryz.sizeOf253
  v70 := Tryz.zeroValue253
  t76 := Tryz.underlying263
  a76 := Tryz.isAgg263
  z76 := Tryz.sizeOf263
  v76 := Tryz.zeroValue263
  t77 := Tryz.underlying264
  a77 := Tryz.isAgg264
  z77 := Tryz.sizeOf264
  v77 := Tryz.zeroValue264 }
end
section
open Ieee Go.RowKit

theorem nan_u64 (a : Nat) (w : World) :
  Calls Tryz.prog 114 #[.int .u64 a] w fun e w' => e = .returned (.bool false) ∧ w' = w := by
 go_in
 go_wp2
 go_ret
 exact ⟨ret_bool (by simp), rfl⟩
theorem compare_walk (a b : Nat) (w : World) :
  Calls Tryz.prog 68 #[.int .u64 a, .int .u64 b] w fun e w' => e = .returned (.int .i64 (cmpN a b)) ∧ w' = w := by
 by_cases h1 : a < b
 ·have e : cmpN a b = -1 := if_pos h1
  rw [e]
  have h1' : (a : Int) < b := by omega
  go_in
  go_wp2_with (go_at_call 114; refine (nan_u64 _ _).mono ?_; rintro e w' ⟨rfl, rfl⟩)
  go_ret
  exact ⟨rfl, rfl⟩
 by_cases h2 : b < a
 ·have e : cmpN a b = 1 := by unfold cmpN; rw [if_neg h1, if_pos h2]
  rw [e]
  have h1' : ¬ ((a : Int) < b) := by omega
  have h2' : (b : Int) < a := by omega
  go_in
  go_wp2_with (go_at_call 114; refine (nan_u64 _ _).mono ?_; rintro e w' ⟨rfl, rfl⟩)
  go_ret
  exact ⟨rfl, rfl⟩
 ·have e : cmpN a b = 0 := by unfold cmpN; rw [if_neg h1, if_neg h2]
  rw [e]
  have h1' : ¬ ((a : Int) < b) := by omega
  have h2' : ¬ ((b : Int) < a) := by omega
  go_in
  go_wp2_with (go_at_call 114; refine (nan_u64 _ _).mono ?_; rintro e w' ⟨rfl, rfl⟩)
  go_ret
  exact ⟨rfl, rfl⟩
theorem closure_walk (x y : Pr) (W : World) :
  Calls Tryz.prog 103 #[.agg #[.int .u64 x.k, .bool x.v.h, .int .u64 x.v.b], .agg #[.int .u64 y.k, .bool y.v.h, .int .u64 y.v.b]] W fun e w' => e = .returned (.int .i64 (cfP x y)) ∧ ∃ q os', w' = Sort.grow (W.drewN q) os' := by
 unfold cfP
 generalize hr : cmpN x.k y.k = r
 have hcon := fun W' => compare_walk x.k y.k W'
 rw [hr] at hcon
 clear hr
 go_in
 go_wp2_with (go_at_call 68; refine (hcon _).mono ?_; rintro e w' ⟨rfl, rfl⟩)
 go_ret
 exact ⟨rfl, 0, _, by rw [Sort.alloc_eq_grow, Sort.alloc_eq_grow, Sort.grow_grow]; rfl⟩
theorem cmpLays [Inhabited Pr] (blk off size : Nat) (w : World) : CmpLays Tryz.prog 103 #[] encP 3 cfP blk off size w :=
 fun _ _ _ _ x y => closure_walk x y _
theorem sortFunc_walk {g cap : Nat} {m : List Pr} {w : World} (hM : Mq w g m) (hg : g < w.heap.size) (hl : m.length < 4611686018427387904) {t : List Pr} (rt : Rise t) (hp : m.Perm t) :
  Calls Tryz.prog 102 #[.slice (some ⟨g, 0, none⟩) m.length cap, .func (.func 103) #[] #[]] w fun e w' => e = .returned (.tuple #[]) ∧ Mq w' g t ∧ w.grownBy w' (some g) := by
 have eg : ∀ args w, (callFunc 103 args).run Tryz.prog w = .ok (.enter 103 args) w := enters_of Tryz.func103 (by kernel_rfl) rfl
 haveI : Inhabited Pr := ⟨⟨0, noV⟩⟩
 have hcon := AnyQ.slices_SortFunc lays6 3 Tryz.isAgg60 Tryz.sizeOf60 encP (fun _ => rfl) (fun x v hv => by simp [encP] at hv; rcases hv with rfl | rfl | rfl <;> rfl) cfP swoP 103 #[] g 0 cap m.toArray w eg (cmpLays g 0 _ w) (holds_of_mq hM) hg (by simpa using hl)
 refine hcon.mono ?_
 rintro e w' ⟨rfl, d', n, os, h1, h2, rfl⟩
 exact ⟨rfl, mq_sorted hM hg (by simpa using h1.1) (sorted_end rt hp h1 h2), grown_sortK d'⟩
theorem law_u : Maps.Keyed Tryz.prog 33 := Maps.int_keyed Tryz.underlying33
def Mp (w : World) (b n : Nat) (t : List Pr) : Prop := w.ownsMap Tryz.prog 33 valElem b n (dT t)
theorem key_u {k : Nat} (hk : k < 18446744073709551616) : keyOf Tryz.prog 33 (.int .u64 k) = some (kL k) := by
 refine Maps.keyOf_int_mk Tryz.underlying33 ?_
 simp [Lit.wf, IntKind.min, IntKind.max, IntKind.signed, IntKind.bits]
 omega
theorem look_T {w : World} {b n : Nat} {t : List Pr} (h : Mp w b n t) {k : Nat} (hk : k < 18446744073709551616) :
  (Instr.lookup 116 (.map (some b)) (.int .u64 k) false).run Tryz.prog w = .ok (.agg #[.bool (getT k t).h, .int .u64 (getT k t).b]) w := by
 have hz : (zeroValue 58).run Tryz.prog w = .ok (valV noV) w := Tryz.zeroValue58 w
 obtain ⟨v, ps, hrun, hv⟩ := World.ownsMap.lookup h law_u Tryz.underlying116 hz (valElem_mk noV_ok) (key_u hk)
 obtain ⟨u, rfl, _, hu⟩ := valElem_inv hv
 rw [atKey_T] at hu
 simp only [Prod.mk.injEq] at hu
 have := dV_inj hu.1
 rw [this]
 exact hrun
theorem grown_of_below {w w' : World} (h : Below w.heap.size w w') : w.grownBy w' none := ⟨h.os, h.tape, h.output, h.size, fun i hi _ => h.block i hi⟩
theorem put_walkF (kind : Int) {b n : Nat} {t : List Pr} {k : Nat} {v : Vl} (w : World) (hM : Mp w b n t) (hr : Rise t) (ho : okT t) (hn : n < maxLen) (hk : k < 18446744073709551616) (hv : v.ok) :
  Calls Tryz.prog 54 #[.int .i64 kind, .map (some b), .int .u64 k, .agg #[.bool v.h, .int .u64 v.b]] w fun e w' => e = .returned (.tuple #[]) ∧ Mp w' b (n + 1) (withT kind k v t) ∧ w.grownBy w' (some b) := by
 have HM : Hid (Mp w b n t) := hM
 have HR : Hid (Rise t) := hr
 have HO : Hid (okT t) := ho
 have HN : Hid (n < maxLen) := hn
 have HK := hidH hk
 have HV : Hid v.ok := hv
 have hlk := look_T (World.ownsMap.alloc hM (Obj.cells #[.bool v.h, .int .u64 v.b] 58)) hk
 clear hM hr ho hn hk hv
 go_in
 go_wp2_with (first
  | (go_at_call 99; refine (merge_walk kind (get_ok HO.out k) HV.out _).mono ?_; rintro e w2 ⟨rfl, hB⟩)
  | (at_mapUpdate; refine wpList_mapUpdate_own _ rfl _ _ _ 116 rfl 33 58 law_u Tryz.underlying116 valElem b n (dT t) rfl ((World.ownsMap.alloc HM.out _).kept (grown_of_below hB) (by simp)) HN.out _ _ (kL k) rfl rfl (key_u HK.out) (dV (mergeV kind (getT k t) v)) [] (valElem_mk (mergeV_ok kind (get_ok HO.out k) HV.out)) ?_; intro w3 hown3 hg3; go_frame))
 go_end0
 refine ⟨rfl, ?_, ?_⟩
 ·rw [put_T HR.out] at hown3; exact hown3
 ·exact (((World.grownBy_alloc w _ none).andThen (grown_of_below hB) (by simp)).but _).andThen hg3 (fun j hj => Or.inr hj)
end
section
open Ieee Go.RowKit

theorem info_pair : (Tryz.prog.info? 60).map (fun i => (i.zero, i.size, i.bytes)) = some (some (.agg #[.int .u64 0, .bool false, .int .u64 0]), 3, 24) := by kernel_rfl
theorem qv_one (w : World) (p : Pr) (hp : p.ok) (t : TypeId) : Qv (w.alloc (Obj.cells #[.int .u64 p.k, .bool p.v.h, .int .u64 p.v.b] t)) (.slice (some ⟨w.heap.size, 0, none⟩) 1 1) [p] := by
 refine ⟨⟨_, 1, rfl, by simp, by simp [maxLen], by simp, fun i hi => ?_⟩, by simpa using hp⟩
 have : i = 0 := by simpa using hi
 subst this
 refine ⟨_, _, rfl, ?_, ?_, ?_⟩ <;> simp [go_sem]
theorem qv_at (w : World) (p : Pr) (hp : p.ok) (t : TypeId) (g : Nat) (hg : g = w.heap.size) : Qv (w.alloc (Obj.cells #[.int .u64 p.k, .bool p.v.h, .int .u64 p.v.b] t)) (.slice (some ⟨g, 0, none⟩) 1 1) [p] := by
 subst hg; exact qv_one w p hp t
theorem wpList_next_T {w : World} {ops : Array Oper} {rest : List Oper} {o : Oper} {a : Act} {Q : Exit → Act → World → Prop} (hg : o.guard = none) (it : Operand) (hop : o.op = Op.next it false)
  (b r n : Nat) (t : List Pr) (left : Lit → Bool) (cnt : Nat) (hit : a.eval it = .pointer (some ⟨r, 0, none⟩)) (h : w.ranges Tryz.prog 33 valElem b r n (dT t) left cnt) (rt : Rise t)
  (hDone : (∀ kl, left kl = false) → wpList Tryz.prog ops Q rest (a.put o.dst (.tuple #[.bool false])) w)
  (hMore : ∀ (p : Pr) (w' : World) (cnt' : Nat), p ∈ t → left (kL p.k) = true → w'.ranges Tryz.prog 33 valElem b r n (dT t) (fun z => left z && !z.sameKey (kL p.k)) cnt' → cnt' < cnt → w.grownBy w' (some r) → w'.heap.size = w.heap.size →
   (Instr.entry (.pointer (some ⟨r, 0, none⟩))).run Tryz.prog w' = .ok (.tuple #[.int .u64 p.k, .agg #[.bool p.v.h, .int .u64 p.v.b]]) w' →
   wpList Tryz.prog ops Q rest (a.put o.dst (.tuple #[.bool true, .int .u64 p.k, .agg #[.bool p.v.h, .int .u64 p.v.b]])) w') :
  wpList Tryz.prog ops Q (o :: rest) a w := by
 refine wpList_next_ranges w hg it hop 33 law_u valElem (fun x : Int => Value.int .u64 x) valV (fun key kl hkey => ?_) (fun v y hv => ?_) b r n (dT t) left cnt hit h (fun _ hl => hDone hl) (fun x c kl y w' cnt' hkey hlk hv hat hrg hlt hgr hsz hen => ?_)
 ·obtain ⟨x, rfl, _⟩ := Maps.keyOf_int_inv Tryz.underlying33 hkey; exact ⟨x, rfl⟩
 ·obtain ⟨u, rfl, _⟩ := valElem_inv hv; exact ⟨u, rfl⟩
 ·obtain ⟨x', ex, rfl, hwx⟩ := Maps.keyOf_int_inv Tryz.underlying33 hkey
  cases ex
  obtain ⟨u, eu, _, rfl⟩ := valElem_inv hv
  have hcu : c = u := by
   unfold valV at eu
   simp at eu
   obtain ⟨ch, cb⟩ := c
   obtain ⟨uh, ub⟩ := u
   simp only at eu
   rw [eu.1, show cb = ub by omega]
  subst hcu
  have h0 : 0 ≤ x := by
   have : 0 ≤ x ∧ x ≤ 18446744073709551615 := by simpa [Lit.wf, IntKind.min, IntKind.max, IntKind.signed, IntKind.bits] using hwx
   omega
  obtain ⟨k, rfl⟩ : ∃ k : Nat, x = k := ⟨x.toNat, by omega⟩
  obtain ⟨p, hp, rfl⟩ := (has_T t k).1 (Maps.has_true_of_atKey hat)
  have hc : c = p.v := by
   have h1 := hat (dV noV)
   rw [show Lit.int .u64 (p.k : Int) = kL p.k from rfl, atKey_T, get_mem rt hp] at h1
   exact (dV_inj h1).symm
  subst hc
  exact hMore p w' cnt' hp hlk hrg hlt hgr hsz hen
def Srt (w : World) (g r b n : Nat) (t : List Pr) (mv : Value) (wr : World) : Prop :=
 ∃ (left : Lit → Bool) (cnt : Nat) (m : List Pr), wr.ranges Tryz.prog 33 valElem b r n (dT t) left cnt ∧ m.Perm (t.filter fun q => !left (kL q.k)) ∧ m.length + cnt ≤ t.length ∧
  mv = .slice (some ⟨g, 0, none⟩) m.length t.length ∧ wr.ownsRow g 60 3 (.slice (some ⟨g, 0, none⟩) m.length t.length) m.length (flatQ m) ∧ Below w.heap.size w wr
theorem perm_end {t m : List Pr} {left : Lit → Bool} (h : m.Perm (t.filter fun q => !left (kL q.k))) (hl : ∀ kl, left kl = false) : m.Perm t := by
 have : t.filter (fun q => !left (kL q.k)) = t := List.filter_eq_self.2 fun q _ => by simp [hl]
 rw [this] at h; exact h
theorem perm_start (t : List Pr) : ([] : List Pr).Perm (t.filter fun q => !Maps.has (dT t) (kL q.k)) := by
 have : t.filter (fun q => !Maps.has (dT t) (kL q.k)) = [] := List.filter_eq_nil_iff.2 fun q hq => by simp [(has_T t q.k).2 ⟨q, hq, rfl⟩]
 rw [this]
theorem sorted_walk {b n : Nat} {t : List Pr} (w : World) (hM : Mp w b n t) (rt : Rise t) (ho : okT t) (hl : t.length * 24 ≤ 281474976710656) :
  Calls Tryz.prog 56 #[.map (some b)] w fun e w' => e = .returned (.slice (some ⟨w.heap.size, 0, none⟩) t.length t.length) ∧ Mq w' w.heap.size t ∧ Below w.heap.size w w' ∧ w.heap.size < w'.heap.size := by
 have HM : Hid (Mp w b n t) := hM
 have HBL : Hid (b < w.heap.size) := World.ownsMap.lt hM
 have HR : Hid (Rise t) := rt
 have HO : Hid (okT t) := ho
 have HL := hidH hl
 have HMX : Hid (t.length ≤ maxLen) := by show _ ≤ _; simp only [maxLen]; omega
 obtain ⟨i0, hi0, hz0, hz1, hz2⟩ := info_partsQ info_pair
 have HI0 : Hid (Tryz.prog.info? 60 = some i0) := hi0
 have HI1 : Hid (i0.zero = some (.agg #[.int .u64 0, .bool false, .int .u64 0])) := hz0
 have HI2 : Hid (i0.size = 3) := hz1
 have HI3 : Hid (i0.bytes = 24) := hz2
 have hln := World.ownsMap.len (w := w) hM Tryz.underlying116 3
 rw [size_T] at hln
 clear hM rt ho hl hi0 hz0 hz1 hz2
 go_in
 go_wp2_with (first
  | (at_make; refine wpList_make_own _ (by rfl) _ _ 29 (by rfl) w.heap.size 60 i0 (.agg #[.int .u64 0, .bool false, .int .u64 0]) 3 Tryz.underlying29 HI0.out HI1.out HI2.out .i64 .i64 _ t.length (by rfl) (by rfl) (by rfl) (by rw [HI3.out]; have := HL.out; omega) HMX.out (Nat.le_refl _) ?_; intro w2 hown hgrow)
  | (at_range; refine wpList_range_own _ rfl _ 116 rfl 33 58 law_u Tryz.underlying116 valElem b n (dT t) rfl (World.ownsMap.kept HM.out hgrow (by simp)) ?_; intro w3 hrg0 hg3 hs3))
 go_frame
 have R0 : Srt w w.heap.size w2.heap.size b n t (.slice (some ⟨w.heap.size, 0, none⟩) 0 t.length) w3 :=
  ⟨_, _, [], hrg0, perm_start t, by rw [size_T]; simp, rfl, hown.kept hg3 (Or.inr (by simp [Value.ownBlock])), ((Below.refl _ _).grown hgrow (Nat.le_refl _) (by simp)).grown hg3 (Nat.le_of_lt (hown.lt w.heap.size rfl).2) (by simp)⟩
 have HGR : Hid (w.heap.size < w2.heap.size) := (hown.lt w.heap.size rfl).2
 clear hown hgrow hrg0 hg3 hs3 hln
 go_loopw [3] (fun mv wr => Srt w w.heap.size w2.heap.size b n t mv wr) (fun _ wr => wr.rangeLeft b w2.heap.size)
 case atStart => exact R0
 case round =>
  clear R0
  obtain ⟨left, cnt, m, hrg, hpm, hmc, rfl, hown, hB⟩ := hrel
  have HRG := hidH hrg
  have HPM := hidH hpm
  have HMC := hidH hmc
  have HOW := hidH hown
  have HB := hidH hB
  clear hrg hpm hmc hown hB
  go_wp2_with (at_next; refine wpList_next_T (by rfl) _ rfl b w2.heap.size n t left cnt rfl HRG.out HR.out ?_ ?_)
  ·intro hleft
   have HP : Hid (m.Perm t) := perm_end HPM.out hleft
   have HML : Hid (m.length = t.length) := HP.out.length_eq
   clear hleft
   go_wp2_with fail
   refine (sortFunc_walk (own_mq HOW.out) (HOW.out.lt w.heap.size rfl).2 (by have := HL.out; have := HML.out; omega) HR.out HP.out).mono ?_
   rintro e w5 ⟨rfl, hM5, hg5⟩
   go_wp2_with fail
   go_ret
   exact ⟨by rw [HML.out]; rfl, hM5, HB.out.grown hg5 HB.out.size (by simp), Nat.lt_of_lt_of_le (HOW.out.lt w.heap.size rfl).2 hg5.size⟩
  ·intro p w4 cnt1 hp hlx hrg1 hlt hg1 hs1 hen
   have HP : Hid (p ∈ t) := hp
   have HLX : Hid (left (kL p.k) = true) := hlx
   have HRG1 := hidH hrg1
   have HG1 := hidH hg1
   have HLT : Hid (cnt1 < cnt) := hlt
   clear hp hlx hrg1 hlt hg1 hs1
   have HOW1 : Hid (w4.ownsRow w.heap.size 60 3 (.slice (some ⟨w.heap.size, 0, none⟩) m.length t.length) m.length (flatQ m)) := HOW.out.kept HG1.out (Or.inr (by have := HGR.out; simp [Value.ownBlock]; omega))
   have hfit : m.length + 1 ≤ t.length := by have := HMC.out; have := HLT.out; omega
   go_wp2_with (at_builtin; refine wpList_append_qv (by rfl) _ _ 29 (by rfl) w.heap.size 60 i0 Tryz.underlying29 HI0.out HI2.out w.heap.size m.length t.length m (by rfl) ((HOW1.out.alloc _).alloc _) _ [p] (by rfl) (qv_at _ p (HO.out p HP.out) _ _ (by simp)) (by simpa using hfit) ?_; intro w6 hown6 hgrow6)
   have hg6 : w4.grownBy w6 (some w.heap.size) := (((World.grownBy_alloc w4 _ none).andThen (World.grownBy_alloc _ _ none) (by simp)).but _).andThen hgrow6 (fun j hj => Or.inr hj)
   have hrg6 := HRG1.out.kept hg6 (by have := HBL.out; simp; omega) (by have := HGR.out; simp; omega)
   have R' : Srt w w.heap.size w2.heap.size b n t (.slice (some ⟨w.heap.size, 0, none⟩) (m.length + 1) t.length) w6 :=
    ⟨_, cnt1, m ++ [p], hrg6, left_step HR.out HP.out left HLX.out HPM.out, by have := HMC.out; have := HLT.out; simp; omega, by simp, by simpa using hown6,
     (HB.out.grown HG1.out HB.out.size (by have := HGR.out; simp; omega)).grown hg6 (Nat.le_trans HB.out.size HG1.out.size) (by simp)⟩
   have hms : w6.rangeLeft b w2.heap.size < wr.rangeLeft b w2.heap.size := by rw [hrg6.left_eq, HRG.out.left_eq]; exact HLT.out
   clear hown6 hgrow6 hg6 hrg6
   go_wp2_with fail
   go_roundw
   case rel => exact R'
   case measure => exact hms
end
end Go.Proofs.YtofkhgokfdpdiabGreat
