/- The walk of the statement WireForm. -/
import Derived.Test.YtiglkmdeokmnhabL6
import Derived.Deep.RegionHeld3
namespace Go.Proofs.Ytiglkmdeokmnhab
open Go.RowKit

theorem Bv.cutTo {w : World} {ao : Option Addr} {cap k : Nat} {l : List Nat} (h : Bv w (.slice ao l.length cap) l) (hk : k ≤ l.length) : Bv w (.slice ao k cap) (l.take k) := by
  obtain ⟨⟨ao', cap', e, h1, h2, h3, h4⟩, h5⟩ := h
  simp only [Value.slice.injEq, ib_len] at e
  obtain ⟨rfl, _, rfl⟩ := e
  rw [ib_len] at h1
  refine ⟨⟨ao, cap, ?_, ?_, h2, h3, ?_⟩, fun c hc => h5 c (List.mem_of_mem_take hc)⟩
  · rw [ib_len, List.length_take, Nat.min_eq_left hk]
  · rw [ib_len, List.length_take]; omega
  · intro i hi
    rw [ib_len, List.length_take] at hi
    obtain ⟨b, off, e1, e2⟩ := h4 i (by rw [ib_len]; omega)
    refine ⟨b, off, e1, ?_⟩
    rw [e2]
    simp [ib, List.getD, show i < k by omega]

theorem Bv.le_cap {w : World} {ao : Option Addr} {cap : Nat} {l : List Nat} (h : Bv w (.slice ao l.length cap) l) : l.length ≤ cap := by
  obtain ⟨⟨ao', cap', e, h1, _⟩, _⟩ := h
  simp only [Value.slice.injEq] at e
  obtain ⟨_, _, rfl⟩ := e
  rwa [ib_len] at h1
end Go.Proofs.Ytiglkmdeokmnhab
