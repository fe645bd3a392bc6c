/- A store that is right, its power armed or not; cells of a store. -/
import Derived.Test.YtofkhgokfdpdiabGreatB03
import Derived.Test.YtofkhgokfdpdiabGreatB47
import Derived.SizedLaws
import Derived.Test.YtofkhgokfdpdiabGreatB02
import Derived.Test.YtofkhgokfdpdiabGreatB36
import Derived.Test.YtofkhgokfdpdiabGreatB34
import Derived.Test.YtofkhgokfdpdiabGreatB39
import Derived.Test.YtofkhgokfdpdiabGreatB40
set_option maxRecDepth 100000
set_option maxHeartbeats 16000000
namespace Go.Proofs.YtofkhgokfdpdiabGreat
section
open Go.ChangeShapes Go.WideShapes Go.ChangeAt Go.RowKit

theorem cells_boolS : Tryz.prog.cellsOf 4 = 1 := by kernel_rfl
section

variable {H : Type} {enc : TypeId × Value → H} {W : World} {sp : Nat → Bool} {held : Bool} {base : Nat}

theorem cell_boolS {n : Nat} {v : Value} {x : DataW H × List MemPlace} (h : DataW.trod enc Tryz.prog W base sp held n 4 [v] = some x) : ∃ b : Bool, v = .bool b := by
 cases n with
 | zero => simp [DataW.trod] at h
 | succ n =>
  simp only [DataW.trod, Tryz.underlying4] at h
  cases v <;> simp at h
  exact ⟨_, rfl⟩
end

def Szd {H : Type} {α : Type} (d : DataW H) (l : List α) : Prop := (d = .nil ∧ l = []) ∨ ∃ elems spare, d = .slice elems spare ∧ elems.length = l.length
theorem core_rv {H : Type} {enc : TypeId × Value → H} {W : World} {cs : List Value} {fuel : Nat} {y : DataW H × List MemPlace} (hf : DataW.trod enc Tryz.prog W 0 (fun _ => true) true fuel 38 cs = some y) :
  ∃ (v : Value) (l : List Rcd), cs = [v] ∧ Rv W v l ∧ ((y.1 = .nil ∧ l = []) ∨ ∃ elems spare, y.1 = .slice elems spare ∧ elems.length = l.length) := by
 rcases Go.Deep.open_slice Tryz.underlying38 hf with ⟨hcs, hx⟩ | ⟨a, len, cap, m, n, D, Pl, hcs, _, hl, hm, hmm, hx, hel⟩
 ·subst hcs
  exact ⟨_, [], rfl, ⟨⟨none, 0, rfl, by simp, by simp [maxLen], by simp, fun i hi => by simp at hi⟩, by simp⟩, .inl ⟨by rw [hx], rfl⟩⟩
 ·subst hcs
  simp only [if_true] at hmm
  have each : ∀ i, ∃ o : Rcd, i < len → (W.cell? (a.add (i * 2)) = some (.int .u64 o.k) ∧ W.cell? (a.add (i * 2 + 1)) = some (.float .f64 o.x)) ∧ o.ok := by
   intro i
   by_cases hi : i < len
   ·obtain ⟨cs', h1, h2⟩ := hel i (by omega)
    rw [cells_rec] at h1
    obtain ⟨_, hlen, hcell⟩ := World.cells?_some h1
    obtain ⟨o, rfl, hok⟩ := cells_of_rec hlen h2
    have e0 := hcell 0 (by omega)
    have e1 := hcell 1 (by omega)
    rw [Go.Deep.add_add] at e0 e1
    exact ⟨o, fun _ => ⟨⟨by simpa using e0, by simpa using e1⟩, hok⟩⟩
   ·exact ⟨⟨0, 0⟩, fun h => absurd h hi⟩
  obtain ⟨X, hX⟩ : ∃ X : Nat → Rcd, ∀ i, i < len → (W.cell? (a.add (i * 2)) = some (.int .u64 (X i).k) ∧ W.cell? (a.add (i * 2 + 1)) = some (.float .f64 (X i).x)) ∧ (X i).ok := ⟨fun i => (each i).choose, fun i => (each i).choose_spec⟩
  clear each hel
  refine ⟨_, (List.range len).map X, rfl, ⟨⟨some a, cap, by simp, by simpa using hl, hm, by simp, ?_⟩, ?_⟩, .inr ⟨_, _, by rw [hx], by simp⟩⟩
  ·intro i hi
   simp at hi
   obtain ⟨⟨h0, _⟩, _⟩ := hX 0 (by omega)
   obtain ⟨⟨g0, g1⟩, _⟩ := hX i hi
   obtain ⟨b, off, spot⟩ := a
   have hs1 : spot = none := by simpa [Addr.add] using World.cell?_spot h0
   subst hs1
   rw [WideShapes.add_plain] at g0 g1
   exact ⟨b, off, rfl, by simpa using g0, by simpa [Nat.add_assoc] using g1⟩
  ·intro o ho
   simp only [List.mem_map, List.mem_range] at ho
   obtain ⟨i, hi, rfl⟩ := ho
   exact (hX i hi).2
theorem core_kv {H : Type} {enc : TypeId × Value → H} {W : World} {cs : List Value} {fuel : Nat} {y : DataW H × List MemPlace} (hf : DataW.trod enc Tryz.prog W 0 (fun _ => true) true fuel 30 cs = some y) :
  ∃ (v : Value) (l : List Nat), cs = [v] ∧ (Kv W v l ∧ keysOk l) ∧ Szd y.1 l := by
 rcases Go.Deep.open_slice Tryz.underlying30 hf with ⟨hcs, hx⟩ | ⟨a, len, cap, m, n, D, Pl, hcs, _, hl, hm, hmm, hx, hel⟩
 ·subst hcs
  exact ⟨_, [], rfl, ⟨⟨none, 0, rfl, Nat.le_refl _, by simp, by simp, fun i hi => absurd hi (by simp [ib])⟩, by intro x hx; simp at hx⟩, .inl ⟨by rw [hx], rfl⟩⟩
 ·subst hcs
  simp only [if_true] at hmm
  have each : ∀ i, ∃ x : Nat, i < len → W.cell? (a.add i) = some (.int .u64 x) ∧ x < 18446744073709551616 := by
   intro i
   by_cases hi : i < len
   ·obtain ⟨cs', h1, h2⟩ := hel i (by omega)
    rw [cells_u64] at h1
    obtain ⟨_, hlen, hcell⟩ := World.cells?_some h1
    match cs', hlen with
    | [c], _ =>
     obtain ⟨x, rfl, hx⟩ := cell_u64 h2
     have e0 := hcell 0 (by omega)
     rw [Go.Deep.add_add] at e0
     exact ⟨x, fun _ => ⟨by simpa using e0, hx⟩⟩
   ·exact ⟨0, fun h => absurd h hi⟩
  obtain ⟨X, hX⟩ : ∃ X : Nat → Nat, ∀ i, i < len → W.cell? (a.add i) = some (.int .u64 (X i)) ∧ X i < 18446744073709551616 := ⟨fun i => (each i).choose, fun i => (each i).choose_spec⟩
  clear each hel
  refine ⟨_, (List.range len).map X, rfl, ⟨⟨some a, cap, by simp [ib], by simpa [ib] using hl, hm, by simp, ?_⟩, ?_⟩, .inr ⟨_, _, by rw [hx], by simp⟩⟩
  ·intro i hi
   have hil : i < len := by simpa [ib] using hi
   obtain ⟨h0, _⟩ := hX 0 (by omega)
   obtain ⟨g0, _⟩ := hX i hil
   obtain ⟨b, off, spot⟩ := a
   have hs1 : spot = none := by simpa [Addr.add] using World.cell?_spot h0
   subst hs1
   rw [WideShapes.add_plain] at g0
   exact ⟨b, off, rfl, by rw [g0]; simp [ib, List.getElem?_range hil]⟩
  ·intro x hx
   simp only [List.mem_map, List.mem_range] at hx
   obtain ⟨i, hi, rfl⟩ := hx
   exact (hX i hi).2
theorem cells_jobS : Tryz.prog.cellsOf 40 = 4 := by kernel_rfl
theorem cells_recsS : Tryz.prog.cellsOf 38 = 1 := by kernel_rfl
theorem cells_keysS : Tryz.prog.cellsOf 30 = 1 := by kernel_rfl
theorem cells_of_job {H : Type} {enc : TypeId × Value → H} {W : World} {cs : List Value} {fuel : Nat} {y : DataW H × List MemPlace} (hl : cs.length = 4) (hf : DataW.trod enc Tryz.prog W 0 (fun _ => true) true fuel 40 cs = some y) :
  ∃ (rv mv : Value) (j : Jb), cs = [rv, mv, .bool j.f, .bool j.s] ∧ Rv W rv j.r ∧ Kv W mv j.m := by
 obtain ⟨y0, y1, y2, y3, m, hx, _, h0, h1, h2, h3⟩ := Go.Joins.trod_struct4 Tryz.underlying40 hf
 match cs, hl with
 | [c0, c1, c2, c3], _ =>
  simp only [cells_recsS, cells_keysS, cells_boolS, List.drop_zero, List.drop_succ_cons, List.take_succ_cons, List.take_zero] at h0 h1 h2 h3
  obtain ⟨rv, recs, e0, hr, _⟩ := core_rv h0
  obtain ⟨mv, more, e1, hm, _⟩ := core_kv h1
  obtain ⟨a, rfl⟩ := cell_boolS h2
  obtain ⟨b, rfl⟩ := cell_boolS h3
  simp only [List.cons.injEq, and_true] at e0 e1
  subst e0
  subst e1
  exact ⟨c0, c1, ⟨recs, more, a, b⟩, rfl, hr, hm.1⟩
theorem open_job13 {H : Type} {enc : TypeId × Value → H} {W : World} {v : Value} {d : DataW H} {p : List MemPlace} {base : Nat}
  (hv : Value.okWide Tryz.prog W .any base 40 v) (h : DataW.Trod enc Tryz.prog W 0 (fun _ => true) true 40 v d p) :
  ∃ (rv mv : Value) (j : Jb), v = .agg #[rv, mv, .bool j.f, .bool j.s] ∧ Rv W rv j.r ∧ Kv W mv j.m := by
 obtain ⟨cs, rfl, hsz⟩ := okWide_struct Tryz.underlying40 hv
 obtain ⟨fuel, hf⟩ := h
 have h4 : cs.size = 4 := by simpa [Value.cells, cells_jobS] using hsz
 obtain ⟨c0, c1, c2, c3, rfl⟩ := Go.Joins.array4 h4
 obtain ⟨rv, mv, j, e, hr, hm⟩ := cells_of_job (cs := [c0, c1, c2, c3]) rfl (by simpa [Value.cells] using hf)
 simp only [List.cons.injEq, and_true] at e
 obtain ⟨rfl, rfl, rfl, rfl⟩ := e
 exact ⟨c0, c1, j, rfl, hr, hm⟩
theorem open_jobs {H : Type} {enc : TypeId × Value → H} {W : World} {v : Value} {d : DataW H} {p : List MemPlace} {base : Nat}
  (hv : Value.okWide Tryz.prog W .any base 22 v) (h : DataW.Trod enc Tryz.prog W 0 (fun _ => true) true 22 v d p) :
  ∃ l : List Jb, Jv W v l := by
 obtain ⟨ao, len0, cap0, rfl⟩ := okWide_slice Tryz.underlying22 hv
 obtain ⟨fuel, hf⟩ := h
 rcases Go.Deep.open_slice Tryz.underlying22 hf with ⟨hcs, hx⟩ | ⟨a, len, cap, m, n, D, Pl, hcs, _, hl, hm, hmm, hx, hel⟩
 ·simp [Value.cells] at hcs
  obtain ⟨rfl, rfl, rfl⟩ := hcs
  exact ⟨[], none, 0, rfl, by simp, by simp [maxLen], fun i hi => by simp at hi⟩
 ·simp [Value.cells] at hcs
  obtain ⟨rfl, rfl, rfl⟩ := hcs
  simp only [if_true] at hmm
  have each : ∀ i, ∃ o : Value × Value × Jb, i < len0 → W.cell? (a.add (i * 4)) = some o.1 ∧ W.cell? (a.add (i * 4 + 1)) = some o.2.1 ∧ W.cell? (a.add (i * 4 + 2)) = some (.bool o.2.2.f) ∧ W.cell? (a.add (i * 4 + 3)) = some (.bool o.2.2.s) ∧ Rv W o.1 o.2.2.r ∧ Kv W o.2.1 o.2.2.m := by
   intro i
   by_cases hi : i < len0
   ·obtain ⟨cs', h1, h2⟩ := hel i (by omega)
    rw [cells_jobS] at h1
    obtain ⟨_, hlen, hcell⟩ := World.cells?_some h1
    obtain ⟨rv, mv, j, rfl, hr, hk⟩ := cells_of_job hlen h2
    have e0 := hcell 0 (by omega)
    have e1 := hcell 1 (by omega)
    have e2 := hcell 2 (by omega)
    have e3 := hcell 3 (by omega)
    rw [Go.Deep.add_add] at e0 e1 e2 e3
    exact ⟨⟨rv, mv, j⟩, fun _ => ⟨by simpa using e0, by simpa using e1, by simpa using e2, by simpa using e3, hr, hk⟩⟩
   ·exact ⟨⟨undef, undef, ⟨[], [], false, false⟩⟩, fun h => absurd h hi⟩
  obtain ⟨X, hX⟩ : ∃ X : Nat → Value × Value × Jb, ∀ i, i < len0 → W.cell? (a.add (i * 4)) = some (X i).1 ∧ W.cell? (a.add (i * 4 + 1)) = some (X i).2.1 ∧ W.cell? (a.add (i * 4 + 2)) = some (.bool (X i).2.2.f) ∧ W.cell? (a.add (i * 4 + 3)) = some (.bool (X i).2.2.s) ∧ Rv W (X i).1 (X i).2.2.r ∧ Kv W (X i).2.1 (X i).2.2.m := ⟨fun i => (each i).choose, fun i => (each i).choose_spec⟩
  clear each hel
  refine ⟨(List.range len0).map (fun i => (X i).2.2), some a, cap0, by simp, by simpa using hl, hm, ?_⟩
  intro i hi
  simp at hi
  obtain ⟨h0, _⟩ := hX 0 (by omega)
  obtain ⟨g0, g1, g2, g3, g4, g5⟩ := hX i hi
  obtain ⟨b, off, spot⟩ := a
  have hs1 : spot = none := by simpa [Addr.add] using World.cell?_spot h0
  subst hs1
  rw [WideShapes.add_plain] at g0 g1 g2 g3
  exact ⟨b, off, (X i).1, (X i).2.1, rfl, by simpa using g0, by simpa [Nat.add_assoc] using g1, by simpa [Nat.add_assoc] using g2, by simpa [Nat.add_assoc] using g3, by simpa using g4, by simpa using g5⟩
end
section
open Ieee Go.RowKit

def cfC (a b : Cl) : Int := cmpN a.k b.k
theorem ltCl (a b : Cl) : ltOf cfC a b = decide (a.k < b.k) := by
 unfold ltOf cfC cmpN
 by_cases h1 : a.k < b.k
 ·simp [h1]
 ·by_cases h2 : b.k < a.k <;> simp [h1, h2]
theorem swoC : Sort.SWO (ltOf cfC) where
 irrefl x := by rw [ltCl]; simp
 trans x y z h1 h2 := by rw [ltCl] at *; simp at *; omega
 ntrans x y z h1 h2 := by rw [ltCl] at *; simp at *; omega
def Mc (w : World) (g : Nat) (m : List Cl) : Prop := ∀ i j, (h : i < m.length) → j < 6 → w.cell? ⟨g, i * 6 + j, none⟩ = (clF m[i])[j]? ∧ w.frozen? ⟨g, i * 6 + j, none⟩ = false
theorem clF_some (c : Cl) {j : Nat} (hj : j < 6) : (clF c)[j]? = some (clF c)[j]! := by
 have h : j < (clF c).length := by rw [clF_len]; exact hj
 rw [List.getElem?_eq_getElem h, getElem!_pos (clF c) j h]
theorem mc_own {w : World} {base n g cap : Nat} {m : List Cl} (h : w.ownsRow base 63 6 (.slice (some ⟨g, 0, none⟩) n cap) n (flatC m)) (hn : n = m.length) : Mc w g m := by
 intro i j hi hj
 rcases h.2 with ⟨e, _⟩ | ⟨g', cap', cur, hv, hg, hh, hnc, hcm, hcs, htk⟩
 ·cases e
 ·cases hv
  have hlt : i * 6 + j < n * 6 := by omega
  have e1 : w.cell? ⟨g, i * 6 + j, none⟩ = cur[i * 6 + j]? := by rw [cell_of_row w g (i * 6 + j) cur 63 (0, 0) hh]
  refine ⟨?_, by simp [World.frozen?, hh]⟩
  rw [e1, ← flatC_get m i j hi hj, ← htk]
  simp [hlt]
theorem holds_of_mc [Inhabited Cl] {w : World} {g : Nat} {m : List Cl} (h : Mc w g m) : Sort.HoldsK clF 6 w g 0 m.toArray := by
 intro j hj
 rw [Sort.size_flatK] at hj
 have hjl : j < m.length * 6 := by simpa using hj
 rw [Sort.get_flatK _ _ _ _ hj]
 have h3 : j / 6 < m.length := by omega
 obtain ⟨a, b⟩ := h (j / 6) (j % 6) h3 (by omega)
 have e0 : m.toArray[j / 6]! = m[j / 6] := by rw [getElem!_pos m.toArray (j / 6) (by simpa using h3)]; simp
 rw [e0]
 rw [show j / 6 * 6 + j % 6 = j by omega] at a b
 rw [Nat.zero_add]
 refine ⟨?_, b⟩
 rw [a, clF_some _ (by omega)]
 rfl
theorem mc_of_holds [Inhabited Cl] {w : World} {g : Nat} {d : Array Cl} (h : Sort.HoldsK clF 6 w g 0 d) : Mc w g d.toList := by
 intro i j hi hj
 have hi' : i < d.size := by simpa using hi
 have e0 : d[i]! = d.toList[i] := by rw [getElem!_pos d i hi']; simp
 obtain ⟨a, x⟩ := h.cell hi' hj
 rw [e0] at a
 simp only [Nat.zero_add] at a x
 exact ⟨a.trans (clF_some _ hj).symm, x⟩
theorem cclosure_walk (x y : Cl) (W : World) :
  Calls Tryz.prog 67 #[.agg #[.int .u64 x.k, .bool x.p.h, .int .u64 x.p.b, .bool x.c.h, .int .u64 x.c.b, .int .i64 x.n], .agg #[.int .u64 y.k, .bool y.p.h, .int .u64 y.p.b, .bool y.c.h, .int .u64 y.c.b, .int .i64 y.n]] W fun e w' => e = .returned (.int .i64 (cfC x y)) ∧ ∃ q os', w' = Sort.grow (W.drewN q) os' := by
 unfold cfC
 generalize hr : cmpN x.k y.k = r
 have hcon := fun W' => compare_walk x.k y.k W'
 rw [hr] at hcon
 clear hr
 go_in
 go_wp2_with (go_at_call 68; refine (hcon _).mono ?_; rintro e w' ⟨rfl, rfl⟩)
 go_ret
 exact ⟨rfl, 0, _, by rw [Sort.alloc_eq_grow, Sort.alloc_eq_grow, Sort.grow_grow]; rfl⟩
theorem cmpLaysC [Inhabited Cl] (blk off size : Nat) (w : World) : CmpLays Tryz.prog 67 #[] clF 6 cfC blk off size w :=
 fun _ _ _ _ x y => cclosure_walk x y _
theorem grown_sortC [Inhabited Cl] {w : World} {g n : Nat} {os : Array Obj} (d : Array Cl) : w.grownBy (sortWorldK clF 6 w g 0 n d os) (some g) := by
 refine ⟨rfl, rfl, rfl, by simp [sortWorldK, Sort.putRowK], fun k hk hne => ?_⟩
 unfold sortWorldK
 rw [Sort.heap_grow_old _ _ (by simpa [Sort.putRowK] using hk)]
 have : g ≠ k := fun e => hne (by rw [e])
 simp [Sort.putRowK, Sort.putRow, Sort.mapBlock, Sort.ahead, Array.getElem?_modify, this]
def SrtOf (m d : List Cl) : Prop := d.Perm m ∧ d.Pairwise (fun a b => a.k ≤ b.k)
theorem csorted_end [Inhabited Cl] {m : List Cl} {d' : Array Cl} (h1 : Sort.PermIn 0 m.toArray.size m.toArray d') (h2 : Sort.SortedIn (ltOf cfC) 0 m.toArray.size d') : SrtOf m d'.toList := by
 obtain ⟨hs, _, hperm⟩ := h1
 have hsz : d'.size = m.length := by simpa using hs
 constructor
 ·have e1 : (d'.extract 0 m.toArray.size).toList = d'.toList := by
   rw [← hs]; simp
  have e2 : (m.toArray.extract 0 m.toArray.size).toList = m := by simp
  rw [e1, e2] at hperm; exact hperm
 ·rw [List.pairwise_iff_getElem]
  intro i j hi hj hij
  have hi' : i < d'.size := by simpa using hi
  have hj' : j < d'.size := by simpa using hj
  have h := h2 i j (Nat.zero_le _) hij (by rw [← hs]; exact hj')
  rw [ltCl, getElem!_pos d' i hi', getElem!_pos d' j hj'] at h
  simpa using h
theorem csort_walk {g cap : Nat} {m : List Cl} {w : World} (hM : Mc w g m) (hg : g < w.heap.size) (hl : m.length < 4611686018427387904) :
  Calls Tryz.prog 66 #[.slice (some ⟨g, 0, none⟩) m.length cap, .func (.func 67) #[] #[]] w fun e w' => e = .returned (.tuple #[]) ∧ ∃ d, Mc w' g d ∧ SrtOf m d ∧ w.grownBy w' (some g) := by
 have eg : ∀ args w, (callFunc 67 args).run Tryz.prog w = .ok (.enter 67 args) w := enters_of Tryz.func67 (by kernel_rfl) rfl
 haveI : Inhabited Cl := ⟨zeroC⟩
 have hcon := AnyQ.slices_SortFunc lays6c 6 Tryz.isAgg63 Tryz.sizeOf63 clF (fun _ => rfl) (fun x v hv => by simp [clF] at hv; rcases hv with rfl | rfl | rfl | rfl | rfl | rfl <;> rfl) cfC swoC 67 #[] g 0 cap m.toArray w eg (cmpLaysC g 0 _ w) (holds_of_mc hM) hg (by simpa using hl)
 refine hcon.mono ?_
 rintro e w' ⟨rfl, d', n, os, h1, h2, rfl⟩
 exact ⟨rfl, d'.toList, mc_of_holds (holdsK_sortWorldK_c clF 6 w g 0 m.toArray d' n os (holds_of_mc hM) hg (by simpa using h1.1)), csorted_end h1 h2, grown_sortC d'⟩
theorem csort_none (p : Option Addr) (cap : Nat) (w : World) :
  Calls Tryz.prog 66 #[.slice p 0 cap, .func (.func 67) #[] #[]] w fun e w' => e = .returned (.tuple #[]) ∧ w' = w :=
 AnyF.slices_SortFunc_none lays6c p cap _ w
def CsGot (m : List Cl) (w : World) (e : Ending) (w' : World) : Prop :=
 ∃ ao cap d, e = .returned (.slice ao d.length cap) ∧ d.length ≤ cap ∧ cap ≤ maxLen ∧ SrtOf m d ∧ (d ≠ [] → ∃ g, ao = some ⟨g, 0, none⟩ ∧ w.heap.size ≤ g ∧ g < w'.heap.size ∧ Mc w' g d) ∧ (ao = none → cap = 0) ∧ Below w.heap.size w w'
theorem flat_step {Ls : List (List Cl)} {i : Nat} (hi : i < Ls.length) : (Ls.take (i + 1)).flatten = (Ls.take i).flatten ++ pgc Ls i := by
 rw [List.take_succ_eq_append_getElem hi, List.flatten_append, pgc_get hi]; simp
theorem flat_len {Ls : List (List Cl)} (h : ∀ i, i < 6 → (pgc Ls i).length ≤ 16) (h6 : Ls.length = 6) : ∀ i, i ≤ 6 → (Ls.take i).flatten.length ≤ 16 * i := by
 intro i
 induction i with
 | zero => intro _; simp
 | succ i ih =>
  intro hi
  rw [flat_step (by omega), List.length_append]
  have h1 := ih (by omega)
  have h2 := h i (by omega)
  omega
def CsR (w : World) (Ls : List (List Cl)) (lv iv : Value) (wr : World) : Prop :=
 ∃ i : Nat, iv = .int .i64 i ∧ i ≤ 6 ∧ wr.ownsRow w.heap.size 63 6 lv (Ls.take i).flatten.length (flatC (Ls.take i).flatten) ∧ Below w.heap.size w wr
theorem sorted_walkS {w : World} {Q : Nat} {f : Nat → Value} {Ls : List (List Cl)} (h : SH w Q f Ls) (hle : ∀ i, i < 6 → (pgc Ls i).length ≤ 16) :
  Calls Tryz.prog 31 #[.pointer (some ⟨Q, 0, none⟩)] w (CsGot Ls.flatten w) := by
 have HSH : Hid (SH w Q f Ls) := h
 have HLE := hidH hle
 have HLN : Hid (Ls.length = 6) := h.len
 have HQW : Hid (Q < w.heap.size) := h.lt
 have HO0 : Hid ((w.alloc (Obj.cells #[] 63)).ownsRow w.heap.size 63 6 (.slice (some ⟨w.heap.size, 0, none⟩) 0 0) 0 []) := World.ownsRow_made w #[] 0 (Nat.le_refl _) (by simp [maxLen]) rfl
 have HBA : Hid (Below w.heap.size w (w.alloc (Obj.cells #[] 63))) := below_alloc _ _
 clear h hle
 go_in
 go_upto_region 2 with fail
 generalize w.alloc (Obj.cells #[] 63) = wa at HO0 HBA ⊢
 have HR0 : Hid (CsR w Ls (.slice (some ⟨w.heap.size, 0, none⟩) 0 0) (.int .i64 0) wa) := ⟨0, rfl, by omega, by simpa [flatC] using HO0.out, HBA.out⟩
 generalize Value.slice (some ⟨w.heap.size, 0, none⟩) 0 0 = lv0 at HR0 ⊢
 clear HO0 HBA
 go_wp2_with fail
 go_loopw [3, 6] (fun lv iv wr => CsR w Ls lv iv wr) (fun _ iv _ => 6 - (intOf iv).toNat)
 case atStart => exact HR0.out
 case round =>
  obtain ⟨i, rfl, hi6, hown, hB⟩ := hrel
  have HOW := hidH hown
  have HB := hidH hB
  clear hown hB HR0
  by_cases hlt : i < 6
  rotate_left
  ·have hlti : ¬ (i : Int) < 6 := by omega
   have hi : i = 6 := by omega
   subst hi
   obtain ⟨m, hm⟩ : ∃ m, m = Ls.flatten := ⟨_, rfl⟩
   have e6 : (Ls.take 6).flatten = m := by rw [hm, List.take_of_length_le (by rw [HLN.out]; exact Nat.le_refl _)]
   rw [e6] at HOW
   have HM : Hid (m = Ls.flatten) := hm
   have HML : Hid (m.length ≤ 96) := by have h := flat_len HLE.out HLN.out 6 (Nat.le_refl _); rw [e6] at h; exact h
   clear hm e6
   by_cases hm0 : m = []
   ·subst hm0
    obtain ⟨ao, cap, hv, hcap, hnone⟩ : ∃ ao cap, u3 = .slice ao 0 cap ∧ cap ≤ maxLen ∧ (ao = none → cap = 0) := by
     rcases HOW.out.2 with ⟨e, _⟩ | ⟨g, cap, cur, hv, hg, hh, hnc, hcm, hcs, htk⟩
     ·exact ⟨none, 0, e, by simp [maxLen], fun _ => rfl⟩
     ·exact ⟨_, cap, hv, hcm, fun e => by cases e⟩
    subst hv
    have HCM : Hid (cap ≤ maxLen) := hcap
    have HNN : Hid (ao = none → cap = 0) := hnone
    clear hcap hnone
    go_wp2_with fail
    refine (csort_none ao cap wr).mono ?_
    rintro e w2 ⟨rfl, hw2⟩
    replace hw2 := hw2.symm
    subst hw2
    go_wp2_with fail
    go_ret
    rw [← HM.out]
    exact ⟨ao, cap, [], rfl, Nat.zero_le _, HCM.out, ⟨List.Perm.refl _, List.Pairwise.nil⟩, fun e => absurd rfl e, HNN.out, HB.out⟩
   ·obtain ⟨g, cap, hv, hg, hgl, hnc, hcm⟩ : ∃ g cap, u3 = .slice (some ⟨g, 0, none⟩) m.length cap ∧ w.heap.size ≤ g ∧ g < wr.heap.size ∧ m.length ≤ cap ∧ cap ≤ maxLen := by
     rcases HOW.out.2 with ⟨_, h0⟩ | ⟨g, cap, cur, hv, hg, hh, hnc, hcm, hcs, htk⟩
     ·exact absurd (List.eq_nil_of_length_eq_zero h0) hm0
     ·exact ⟨g, cap, hv, hg, (Array.getElem?_eq_some_iff.1 hh).1, hnc, hcm⟩
    subst hv
    have HMC : Hid (Mc wr g m) := mc_own HOW.out rfl
    have HG : Hid (w.heap.size ≤ g ∧ g < wr.heap.size ∧ m.length ≤ cap ∧ cap ≤ maxLen) := ⟨hg, hgl, hnc, hcm⟩
    clear hg hgl hnc hcm
    go_wp2_with fail
    refine (csort_walk HMC.out HG.out.2.1 (by have := HML.out; omega)).mono ?_
    rintro e w2 ⟨rfl, d, hmc, hsr, hgr⟩
    have HD : Hid (Mc w2 g d ∧ SrtOf m d) := ⟨hmc, hsr⟩
    have HB2 : Hid (Below w.heap.size w w2) := HB.out.grown hgr HB.out.size (by simp; exact HG.out.1)
    have HSZ : Hid (wr.heap.size ≤ w2.heap.size) := hgr.size
    have hdl : m.length = d.length := hsr.1.length_eq.symm
    rw [hdl] at HG ⊢
    clear hmc hsr hgr hdl
    go_wp2_with fail
    go_ret
    rw [← HM.out]
    exact ⟨_, cap, d, rfl, HG.out.2.2.1, HG.out.2.2.2, HD.out.2, fun _ => ⟨g, rfl, HG.out.1, Nat.lt_of_lt_of_le HG.out.2.1 HSZ.out, HD.out.1⟩, fun e => (by cases e), HB2.out⟩
  ·have hlti : (i : Int) < 6 := by omega
   have HL2 : Hid (i < Ls.length) := by rw [HLN.out]; exact hlt
   have HSR : Hid (SH wr Q f Ls) := HSH.out.below HB.out
   obtain ⟨l, hl⟩ : ∃ l, l = pgc Ls i := ⟨_, rfl⟩
   have HL : Hid (l = pgc Ls i) := hl
   have hcv := HSR.out.cv i hlt
   rw [← hl] at hcv
   obtain ⟨pa, pc, hpv⟩ := hcv.form
   obtain ⟨pn, hpn⟩ : ∃ pn, pn = l.length := ⟨_, rfl⟩
   rw [← hpn] at hpv
   rw [hpv] at hcv
   have HCV := hidH hcv
   have m0 := HSR.out.c i hlt
   rw [hpv] at m0
   have HLB : Hid ((Ls.take i).flatten.length + l.length ≤ 112) := by
    have h1 := flat_len HLE.out HLN.out i (by omega)
    have h2 := HLE.out i hlt
    show _ ≤ _
    rw [hl]; omega
   clear hl hcv hpv hpn
   go_upto_region 6 with (at_builtin; refine wpList_append_cv (by rfl) (.tmp 9) (.tmp 14) (by rfl) w.heap.size _ _ _ (by rfl) HOW.out _ l (by rfl) HCV.out (by have := HLB.out; simp only [maxLen]; omega) (by have := HLB.out; omega) HB.out.size ?_; intro v6 w6 hown hgrow)
   have HB6 : Hid (Below w.heap.size w w6) := HB.out.trans (grown_belowC HOW.out hgrow HB.out.size)
   have HO6 : Hid (w6.ownsRow w.heap.size 63 6 v6 (Ls.take (i + 1)).flatten.length (flatC (Ls.take (i + 1)).flatten)) := by show World.ownsRow _ _ _ _ _ _ _; rw [flat_step HL2.out, List.length_append, flatC_append, ← HL.out]; exact hown
   clear hown hgrow m0
   go_wp2_with fail
   go_roundw
   case rel => exact ⟨i + 1, by go_num, hlt, HO6.out, HB6.out⟩
   case measure => simp [intOf]; omega
end
section
open Go.RowKit

section

variable {A : Nat → Prop} {w w' : World} {sv dv : Value} {k : Int} {P : Bo} {S : Dk}

def CeGot (A : Nat → Prop) (w : World) (sv dv : Value) (k : Int) (P : Bo) (S : Dk) (Ls : List (List Cl)) (e : Ending) (w' : World) : Prop :=
 ∃ S', ST A w' sv dv k (getB P S) S' ∧ Rdd 6 S S' ∧ Ch A w w' ∧
  ((shutB P S = true ∧ e = .returned (.tuple #[.slice none 0 0, .int .i64 80])) ∨
   (shutB P S = false ∧ ∃ ao cap d, e = .returned (.tuple #[.slice ao d.length cap, .int .i64 0]) ∧ d.length ≤ cap ∧ cap ≤ maxLen ∧ SrtOf Ls.flatten d ∧ (d ≠ [] → ∃ g, ao = some ⟨g, 0, none⟩ ∧ w.heap.size ≤ g ∧ g < w'.heap.size ∧ Mc w' g d) ∧ (ao = none → cap = 0)))
theorem scells_walk (h : ST A w sv dv k P S) {Ls : List (List Cl)} (hD : shutB P S = false → decP P S 6 = some Ls) (hle : ∀ i, i < 6 → (pgc Ls i).length ≤ 16) (hrd : S.rd < 4611686018427387904) :
  Calls Tryz.prog 10 #[sv] w (CeGot A w sv dv k P S Ls) := by
 have HD : Hid (shutB P S = false → decP P S 6 = some Ls) := hD
 have HLE := hidH hle
 have HRD := hidH hrd
 have HT0 : Hid (ST A w sv dv k P S) := h
 clear h hD hrd hle
 go_in
 go_wp2_with fail
 refine (cells_walk HT0.out HRD.out).mono ?_
 rintro e w1 ⟨c, f, S1, rfl, hform, hfr, hcase, hst1, hrdd1, hch1⟩
 have HT1 := hidH hst1
 have HR1 : Hid (Rdd 6 S S1) := hrdd1
 have HC1 : Hid (Ch A w w1) := hch1
 have HCASE : Hid ((c = 80 ∧ shutB P S = true) ∨ (c = 0 ∧ shutB P S = false ∧ Ls.length = 6 ∧ ∀ j, j < 6 → Cv w1 (f j) (pgc Ls j))) := by
  rcases hcase with h | ⟨_, h1, h2⟩ | ⟨h1, h2, L', h3, h4⟩
  ·exact .inl h
  ·rw [HD.out h1] at h2; cases h2
  ·have e := HD.out h2
   rw [e] at h3
   cases h3
   exact .inr ⟨h1, h2, decP_len e, h4⟩
 obtain ⟨a0, n0, p0, e0⟩ := hform 0 (by omega)
 obtain ⟨a1, n1, p1, e1⟩ := hform 1 (by omega)
 obtain ⟨a2, n2, p2, e2⟩ := hform 2 (by omega)
 obtain ⟨a3, n3, p3, e3⟩ := hform 3 (by omega)
 obtain ⟨a4, n4, p4, e4⟩ := hform 4 (by omega)
 obtain ⟨a5, n5, p5, e5⟩ := hform 5 (by omega)
 have HE : Hid (f 0 = .slice a0 n0 p0 ∧ f 1 = .slice a1 n1 p1 ∧ f 2 = .slice a2 n2 p2 ∧ f 3 = .slice a3 n3 p3 ∧ f 4 = .slice a4 n4 p4 ∧ f 5 = .slice a5 n5 p5) := ⟨e0, e1, e2, e3, e4, e5⟩
 rw [e0, e1, e2, e3, e4, e5]
 clear hform hfr hcase hst1 hrdd1 hch1 e0 e1 e2 e3 e4 e5
 go_upto_region 2 with fail
 have HB2 : Hid (Below w1.heap.size w1 (w1.alloc (Obj.cells #[.slice a0 n0 p0, .slice a1 n1 p1, .slice a2 n2 p2, .slice a3 n3 p3, .slice a4 n4 p4, .slice a5 n5 p5] 83))) := below_alloc _ _
 have HSL : Hid (∀ L : List (List Cl), L.length = 6 → (∀ j, j < 6 → Cv w1 (f j) (pgc L j)) → SH (w1.alloc (Obj.cells #[.slice a0 n0 p0, .slice a1 n1 p1, .slice a2 n2 p2, .slice a3 n3 p3, .slice a4 n4 p4, .slice a5 n5 p5] 83)) w1.heap.size f L) := fun L h1 h2 => by
  have h := sh_lit w1 f h1 h2
  obtain ⟨e0, e1, e2, e3, e4, e5⟩ := HE.out
  rw [e0, e1, e2, e3, e4, e5] at h
  exact h
 obtain ⟨T8, hT8⟩ : ∃ T8, T8 = w1.heap.size := ⟨_, rfl⟩
 rw [← hT8] at HSL ⊢
 clear hT8
 generalize w1.alloc (Obj.cells #[.slice a0 n0 p0, .slice a1 n1 p1, .slice a2 n2 p2, .slice a3 n3 p3, .slice a4 n4 p4, .slice a5 n5 p5] 83) = w2 at HB2 HSL ⊢
 have HT2 := hidH (HT1.out.below HB2.out)
 have HC2 : Hid (Ch A w w2) := HC1.out.self (Ch.of_below HB2.out)
 rcases HCASE.out with ⟨rfl, h2⟩ | ⟨rfl, h2, h3, h4⟩
 ·have HS : Hid (shutB P S = true) := h2
  clear h2
  go_wp2_with fail
  go_ret2
  exact ⟨S1, HT2.out, HR1.out, HC2.out, .inl ⟨HS.out, rfl⟩⟩
 ·have HS : Hid (shutB P S = false) := h2
  have HSH : Hid (SH w2 T8 f Ls) := HSL.out Ls h3 h4
  clear h2 h3 h4
  go_wp2_with fail
  refine (sorted_walkS HSH.out HLE.out).mono ?_
  rintro e w3 ⟨ao, cap, d, rfl, hdc, hcm, hsr, hmc, hnn, hB3⟩
  have HX : Hid (d.length ≤ cap ∧ cap ≤ maxLen ∧ SrtOf Ls.flatten d ∧ (ao = none → cap = 0)) := ⟨hdc, hcm, hsr, hnn⟩
  have HMC : Hid (d ≠ [] → ∃ g, ao = some ⟨g, 0, none⟩ ∧ w.heap.size ≤ g ∧ g < w3.heap.size ∧ Mc w3 g d) := fun hd => by
   obtain ⟨g, h1, h2, h3, h4⟩ := hmc hd
   exact ⟨g, h1, Nat.le_trans HC2.out.size h2, h3, h4⟩
  have HT3 := hidH (HT2.out.below hB3)
  have HC3 : Hid (Ch A w w3) := HC2.out.self (Ch.of_below hB3)
  clear hdc hcm hsr hmc hnn hB3
  obtain ⟨dn, hdn⟩ : ∃ dn, dn = d.length := ⟨_, rfl⟩
  rw [← hdn]
  have HDN : Hid (dn = d.length) := hdn
  clear hdn
  go_wp2_with fail
  go_ret2
  exact ⟨S1, HT3.out, HR1.out, HC3.out, .inr ⟨HS.out, ao, cap, d, by rw [HDN.out]; rfl, HX.out.1, HX.out.2.1, HX.out.2.2.1, HMC.out, HX.out.2.2.2⟩⟩
end
end
section
open Go.RowKit

theorem ins_flat {Ls : List (List Cl)} {c : Cl} (h6 : Ls.length = 6) (h : c ∈ Ls.flatten) : InS Ls c := by
 obtain ⟨l, hl, hc⟩ := List.mem_flatten.1 h
 obtain ⟨i, hi, rfl⟩ := List.mem_iff_getElem.1 hl
 exact ⟨i, by omega, by rw [pgc_get hi]; exact hc⟩
theorem flat_ne {Ls : List (List Cl)} (h6 : Ls.length = 6) (h : Lk Ls) : Ls.flatten.Pairwise (fun a b => a.k ≠ b.k) := by
 rw [List.pairwise_flatten]
 refine ⟨fun l hl => ?_, List.pairwise_iff_getElem.2 fun i j hi hj hij x hx y hy => ?_⟩
 ·obtain ⟨i, hi, rfl⟩ := List.mem_iff_getElem.1 hl
  have := h.srt i (by omega)
  rw [pgc_get hi] at this
  exact this.imp (fun h => by omega)
 ·exact h.dis i j x y (by omega) (by omega) (by omega) (by rw [pgc_get hi]; exact hx) (by rw [pgc_get hj]; exact hy)
theorem srt_ne {Ls : List (List Cl)} {d : List Cl} (h6 : Ls.length = 6) (h : Lk Ls) (hd : SrtOf Ls.flatten d) {i : Nat} (hi : i + 1 < d.length) : d[i].k ≠ d[i + 1].k :=
 List.pairwise_iff_getElem.1 ((hd.1.pairwise_iff (fun h => Ne.symm h)).2 (flat_ne h6 h)) i (i + 1) (by omega) hi (by omega)
theorem mc_cells {w : World} {g : Nat} {d : List Cl} (h : Mc w g d) {i : Nat} (hi : i < d.length) : w.cell? ⟨g, i * 6, none⟩ = some (.int .u64 d[i].k) ∧ w.cell? ⟨g, i * 6 + 1, none⟩ = some (.bool d[i].p.h) ∧ w.cell? ⟨g, i * 6 + 2, none⟩ = some (.int .u64 d[i].p.b) ∧ w.cell? ⟨g, i * 6 + 3, none⟩ = some (.bool d[i].c.h) ∧ w.cell? ⟨g, i * 6 + 4, none⟩ = some (.int .u64 d[i].c.b) ∧ w.cell? ⟨g, i * 6 + 5, none⟩ = some (.int .i64 d[i].n) :=
 ⟨(h i 0 hi (by omega)).1, (h i 1 hi (by omega)).1, (h i 2 hi (by omega)).1, (h i 3 hi (by omega)).1, (h i 4 hi (by omega)).1, (h i 5 hi (by omega)).1⟩
theorem mc_below {w w' : World} {g : Nat} {d : List Cl} (h : Mc w g d) (hb : Below w.heap.size w w') (hg : g < w.heap.size) : Mc w' g d := fun i j hi hj => by
 rw [hb.cell (p := ⟨g, i * 6 + j, none⟩) hg, hb.frozen (p := ⟨g, i * 6 + j, none⟩) hg]
 exact h i j hi hj
structure RSX (A : Nat → Prop) (w : World) (sv dv : Value) (k : Int) (P : Bo) (S : Dk) (m : Mk) (Ls : List (List Cl)) : Prop where
 st : ST A w sv dv k P S
 iw : Iw P S (pagesW m Ls)
 gk : Gk k m Ls
theorem smark_rsx {A : Nat → Prop} {w : World} {sv dv : Value} {k : Int} {P : Bo} {S : Dk} {m : Mk} {Ls : List (List Cl)} (h : RSX A w sv dv k P S m Ls) (hN : S.rd < 4000000000) :
  Calls Tryz.prog 9 #[sv] w fun e w' => ∃ v, e = .returned (.tuple #[.agg #[.int .i64 m.b, .int .i64 m.a, v], .int .i64 0]) ∧ w'.ownsRow w.heap.size 33 1 v m.k.length ((ib m.k).map (Value.int .u64)) ∧ ∃ S', ST A w' sv dv k P S' ∧ Rdd 1 S S' ∧ Ch A w w' := by
 refine (smark_walk h.st (by omega)).mono ?_
 rintro e w1 ⟨c, m1, v, S', rfl, ho, hh, hst, hr, hc⟩
 rw [getB_ok h.iw.shut] at hst
 have hm := hd_mark h.gk.gd h.iw
 rcases hh with ⟨_, q, _⟩ | ⟨_, _, q, _⟩ | ⟨rfl, _, q⟩
 ·rw [h.iw.shut] at q; cases q
 ·rw [hm] at q; simp at q
 ·rw [hm] at q
  cases q
  exact ⟨v, rfl, ho, S', hst, hr, hc⟩
theorem frozen_ch {D : Nat → Prop} {w w' : World} (hc : Ch D w w') {p : Addr} (hl : p.block < w.heap.size) (hd : ¬ D p.block) : w'.frozen? p = w.frozen? p := by
 have e := hc.block _ hl hd
 unfold World.frozen?
 rw [e]
end
end Go.Proofs.YtofkhgokfdpdiabGreat
