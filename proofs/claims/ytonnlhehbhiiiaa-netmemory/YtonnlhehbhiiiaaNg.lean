/- The numbers of the messages on their way, sorted. -/
import Derived.Test.YtonnlhehbhiiiaaNf

import Derived.Test.YtonnlhehbhiiiaaSh

namespace Go.Proofs.Ytonnlhehbhiiiaa

open Go.RowKit Go.Maps Go.Sort Go.Shelf



theorem sorts_in (m : Nat) : AnyZI.SortsIn Try.prog layss_ren Fence.wide m :=
  ⟨fun blk off cap ss W hH hblk hsz => callsIn_wide.2 (AnyM.slices_Sort_int layst blk off cap ss W hH hblk hsz),
   fun p cap W => callsIn_wide.2 (AnyM.slices_Sort_int_none layst p cap W)⟩
theorem keys_walk (mb : Option Nat) (W : World) : Calls Try.prog 28 #[.map mb] W fun e w' => e = .returned (.func (.func 46) #[] #[.pointer (some ⟨W.heap.size, 0, none⟩)]) ∧ w' = W.alloc (.cells #[.map mb] 63) :=
  (callsIn_wide (n := 5)).1 (AnyZI.keys_in laysk Fence.wide 5 trivial rfl mb W)
theorem sort_nums {L : List En} (hr : RiseE L) {ss : List Int} (h : ss.Perm (intKeys (dM L))) : ss.mergeSort (fun x y => decide (x ≤ y)) = L.map fun x => (x.n : Int) := by
  have e : intKeys (dM L) = L.map fun x => (x.n : Int) := by
    show (L.map entM).map (fun p => Go.intOf p.1) = _
    rw [List.map_map]
    rfl
  rw [e] at h
  refine (mergeSort_of_perm_i h).trans (List.mergeSort_of_pairwise ?_)
  refine List.pairwise_map.2 (hr.imp fun {a b} hab => ?_)
  simp [leI]; omega
set_option maxHeartbeats 1000000 in
theorem sorted_walk {w : World} {b nn : Nat} {L : List En} (hown : w.ownsMap Try.prog 3 heldE b nn (dM L)) (hl : L.length ≤ 4096) (hr : RiseE L) :
    Calls Try.prog 27 #[.func (.func 46) #[] #[.pointer (some ⟨w.heap.size, 0, none⟩)]] (w.alloc (.cells #[.map (some b)] 63))
      fun e w' => ∃ v, e = .returned v ∧ w'.ownsRow w.heap.size 3 1 v L.length ((L.map fun x => (x.n : Int)).map (Value.int .i64)) ∧ Below w.heap.size w w' := by
  have hbl := World.ownsMap.lt hown
  have hmax : Maps.size (dM L) ≤ maxLen := by rw [size_M]; unfold maxLen; omega
  have hbytes : Maps.size (dM L) * 8 ≤ 140737488355328 := by rw [size_M]; omega
  have hseq : SeqGives Fence.wide 2 Try.prog 46 #[.pointer (some ⟨w.heap.size, 0, none⟩)] encZ (fun ss => ss.Perm (intKeys (dM L))) (Maps.size (dM L)) (w.alloc (.cells #[.map (some b)] 63)) :=
    AnyZI.keys_gives (ρ := laysk_ren) { laysk with } Fence.wide _ trivial rfl (by omega) w.heap.size b nn (dM L) _ (by simp) (by simp) (by
      obtain ⟨es, clock, hb, Ft, hs, hD⟩ := hown
      exact ⟨es, clock, (Below.heap_alloc _ _ b hbl).trans hb, Ft, hs, hD⟩)
  have cS := AnyZI.sorted_in layss Fence.wide 5 trivial trivial trivial trivial rfl (by omega) (sorts_in _) (enters_of Try.func45 (by kernel_rfl) rfl) 46 #[.pointer (some ⟨w.heap.size, 0, none⟩)] trivial (enters_of Try.func46 (by kernel_rfl) rfl) _ _ hmax hbytes _ hseq
  refine ((callsIn_wide (n := 5)).1 cS).mono ?_
  rintro e w' ⟨v, ss, rfl, hS, hrow, hnil, hb⟩
  have hlen : ss.length = L.length := by rw [hS.length_eq]; simp [intKeys, dM]
  rw [sort_nums hr hS, hlen] at hrow
  refine ⟨v, rfl, own_baseC hrow (by rw [size_allocC]; omega), ?_⟩
  exact ((Below.refl _ w).alloc (Nat.le_refl _) _).trans (hb.mono (by rw [size_allocC]; omega))
end Go.Proofs.Ytonnlhehbhiiiaa


