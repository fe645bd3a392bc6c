/- Pairs sorted by their keys: the library's SortFunc, and what lies in the row behind it. -/
import Derived.Test.YtfcpooihihklaabKc
import Derived.Shelf.SlSortCmp.WholeK
namespace Go.Proofs.Ytfcpooihihklaab
open Ieee Go.RowKit

def encP (p : Pr) : List Value := [.int .u64 p.k, .bool p.v.h, .int .u64 p.v.b]
def cmpN (a b : Nat) : Int := if a < b then -1 else if b < a then 1 else 0
def cfP (a b : Pr) : Int := cmpN a.k b.k

theorem ltP (a b : Pr) : ltOf cfP a b = decide (a.k < b.k) := by
  unfold ltOf cfP cmpN
  by_cases h1 : a.k < b.k
  · simp [h1]
  · by_cases h2 : b.k < a.k <;> simp [h1, h2]

theorem swoP : Sort.SWO (ltOf cfP) where
  irrefl x := by rw [ltP]; simp
  trans x y z h1 h2 := by rw [ltP] at *; simp at *; omega
  ntrans x y z h1 h2 := by rw [ltP] at *; simp at *; omega

theorem holds_of_mq [Inhabited Pr] {w : World} {g : Nat} {m : List Pr} (h : Mq w g m) : Sort.HoldsK encP 3 w g 0 m.toArray := by
  intro j hj
  rw [Sort.size_flatK] at hj
  have hjl : j < m.length * 3 := by simpa using hj
  rw [Sort.get_flatK _ _ _ _ hj]
  obtain ⟨⟨a, b, c⟩, d, e, f⟩ := h (j / 3) (by omega)
  have e0 : m.toArray[j / 3]! = m[j / 3] := by
    have h3 : j / 3 < m.length := by omega
    rw [getElem!_pos m.toArray (j / 3) (by simpa using h3)]; simp
  rw [e0]
  have hmod : j % 3 = 0 ∨ j % 3 = 1 ∨ j % 3 = 2 := by omega
  rcases hmod with hm | hm | hm
  · have e2 : j / 3 * 3 = j := by omega
    rw [e2] at a d
    rw [hm, Nat.zero_add]; exact ⟨a, d⟩
  · have e2 : j / 3 * 3 + 1 = j := by omega
    rw [e2] at b e
    rw [hm, Nat.zero_add]; exact ⟨b, e⟩
  · have e2 : j / 3 * 3 + 2 = j := by omega
    rw [e2] at c f
    rw [hm, Nat.zero_add]; exact ⟨c, f⟩

theorem mq_of_holds [Inhabited Pr] {w : World} {g : Nat} {d : Array Pr} (h : Sort.HoldsK encP 3 w g 0 d) : Mq w g d.toList := by
  intro i hi
  have hi' : i < d.size := by simpa using hi
  have e0 : d[i]! = d.toList[i] := by rw [getElem!_pos d i hi']; simp
  obtain ⟨a, x⟩ := h.cell hi' (show 0 < 3 by omega)
  obtain ⟨b, y⟩ := h.cell hi' (show 1 < 3 by omega)
  obtain ⟨c, z⟩ := h.cell hi' (show 2 < 3 by omega)
  rw [e0] at a b c
  simp only [Nat.zero_add, Nat.add_zero] at a b c x y z
  exact ⟨⟨a, b, c⟩, x, y, z⟩

theorem grown_sortK [Inhabited Pr] {w : World} {g n : Nat} {os : Array Obj} (d : Array Pr) : w.grownBy (sortWorldK encP 3 w g 0 n d os) (some g) := by
  refine ⟨rfl, rfl, rfl, by simp [sortWorldK, Sort.putRowK], fun k hk hne => ?_⟩
  unfold sortWorldK
  rw [Sort.heap_grow_old _ _ (by simpa [Sort.putRowK] using hk)]
  have : g ≠ k := fun e => hne (by rw [e])
  simp [Sort.putRowK, Sort.putRow, Sort.mapBlock, Sort.ahead, Array.getElem?_modify, this]

theorem sorted_end [Inhabited Pr] {t m : List Pr} (rt : Rise t) (hp : m.Perm t) {d' : Array Pr} (h1 : Sort.PermIn 0 m.toArray.size m.toArray d') (h2 : Sort.SortedIn (ltOf cfP) 0 m.toArray.size d') : d'.toList = t := by
  obtain ⟨hs, _, hperm⟩ := h1
  have hsz : d'.size = m.length := by simpa using hs
  have hp' : d'.toList.Perm m := by
    have e1 : (d'.extract 0 m.toArray.size).toList = d'.toList := by
      rw [← hs]; simp
    have e2 : (m.toArray.extract 0 m.toArray.size).toList = m := by simp
    rw [e1, e2] at hperm; exact hperm
  refine sorted_is rt (hp'.trans hp) ?_
  rw [List.pairwise_iff_getElem]
  intro i j hi hj hij
  have hi' : i < d'.size := by simpa using hi
  have hj' : j < d'.size := by simpa using hj
  have h := h2 i j (Nat.zero_le _) hij (by rw [← hs]; exact hj')
  rw [ltP, getElem!_pos d' i hi', getElem!_pos d' j hj'] at h
  simpa using h

theorem mq_sorted [Inhabited Pr] {w : World} {g n : Nat} {os : Array Obj} {m t : List Pr} {d' : Array Pr} (hM : Mq w g m) (hg : g < w.heap.size) (hs : d'.size = m.length) (ht : d'.toList = t) : Mq (sortWorldK encP 3 w g 0 n d' os) g t := by
  rw [← ht]
  refine mq_of_holds ?_
  exact holdsK_sortWorldK_c encP 3 w g 0 m.toArray d' n os (holds_of_mq hM) hg (by simpa using hs)
end Go.Proofs.Ytfcpooihihklaab
