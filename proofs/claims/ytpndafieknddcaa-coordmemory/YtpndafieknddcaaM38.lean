/- Hi Hj -/
import Derived.Test.YtpndafieknddcaaHe
import Derived.Test.YtpndafieknddcaaHg
import Derived.Test.YtpndafieknddcaaHh
namespace Go.Proofs.Ytpndafieknddcaa

open Ieee Go.RowKit

section

variable {wz w w' : World} {Z : Nat → Prop} {WB i : Nat} {c : Cs} {p : Pn} {ov onv : Value} {M : List Ms} {k k0 : Int} {on : List Int}

/-- What is so behind an act. -/
def AcR (wz : World) (Z : Nat → Prop) (WB : Nat) (p : Pn) (ov : Value) (i : Nat) (c : Cs) (M : List Ms) (w : World) (e : Ending) (w' : World) : Prop := ∃ c' M' mo, (Ai p (i + 1) c' ∧ Ao p c c' mo) ∧ M'.length ≤ M.length + 1 ∧ AcG wz Z WB p ov c' M' mo w e w'
end

end Go.Proofs.Ytpndafieknddcaa

namespace Go.Proofs.Ytpndafieknddcaa

open Ieee Go.RowKit

structure Ac0 where
  kd : Int
  kk : Int
  on : List Int
def ath (l : List Ac0) (i : Nat) : Ac0 := l.getD i ⟨0, 0, []⟩
def Acl (w : World) (v : Value) (l : List Ac0) : Prop := ∃ ao cap, v = .slice ao l.length cap ∧ l.length ≤ cap ∧ cap ≤ maxLen ∧ ∀ i, i < l.length → ∃ b off ov, ao = some ⟨b, off, none⟩ ∧ w.cell? ⟨b, off + i * 3, none⟩ = some (.int .i64 (ath l i).kd) ∧ w.cell? ⟨b, off + i * 3 + 1, none⟩ = some (.int .i64 (ath l i).kk) ∧ w.cell? ⟨b, off + i * 3 + 2, none⟩ = some ov ∧ Nv w ov (ath l i).on
theorem Acl.below {w w' : World} {v : Value} {l : List Ac0} (h : Acl w v l) (hb : Below w.heap.size w w') : Acl w' v l := by
  obtain ⟨ao, cap, h1, h2, h3, h4⟩ := h
  refine ⟨ao, cap, h1, h2, h3, fun i hi => ?_⟩
  obtain ⟨b, off, ov, k1, k2, k3, k4, k5⟩ := h4 i hi
  have hl : b < w.heap.size := by
    by_cases q : b < w.heap.size
    · exact q
    · have : w.heap[b]? = none := by simp; omega
      simp [World.cell?, this] at k2
  exact ⟨b, off, ov, k1, cell_bel hb hl k2, cell_bel hb hl k3, cell_bel hb hl k4, k5.below hb⟩
theorem acl_at {w : World} {ao : Option Addr} {cap i : Nat} {l : List Ac0} (h : Acl w (.slice ao l.length cap) l) (hi : i < l.length) : ∃ b off onv, ao = some ⟨b, off, none⟩ ∧ ∀ w', Below w.heap.size w w' → w'.cell? ⟨b, off + i * 3, none⟩ = some (.int .i64 (ath l i).kd) ∧ w'.cell? ⟨b, off + i * 3 + 1, none⟩ = some (.int .i64 (ath l i).kk) ∧ w'.cell? ⟨b, off + i * 3 + 2, none⟩ = some onv ∧ Nv w' onv (ath l i).on := by
  obtain ⟨ao', cap', h1, h2, h3, h4⟩ := h
  cases h1
  obtain ⟨b, off, ov, k1, k2, k3, k4, k5⟩ := h4 i hi
  have hl : b < w.heap.size := by
    by_cases q : b < w.heap.size
    · exact q
    · have : w.heap[b]? = none := by simp; omega
      simp [World.cell?, this] at k2
  exact ⟨b, off, ov, k1, fun w' hb => ⟨cell_bel hb hl k2, cell_bel hb hl k3, cell_bel hb hl k4, k5.below hb⟩⟩
theorem rgt_in64 {n : Nt} {q : Int} (h : Rgt n q) : In64 n.p ∧ In64 n.c := by
  have hr := h.r
  have hf : Fwd n.p n.c := hr.2.1
  refine ⟨fun v hv => ?_, fun v hv => ?_⟩
  · obtain ⟨i, hi, rfl⟩ := nth_memF hv
    have h1 := hf.2 i hi
    have hi2 : i < n.c.length := by rw [← hf.1]; exact hi
    have h2 := (hr.2.2 i hi2).1
    have h3 := h.f i hi2
    have h4 : nth n.p i = nth n.tp.p i := rfl
    omega
  · obtain ⟨i, hi, rfl⟩ := nth_memF hv
    have hi2 : i < n.p.length := by rw [hf.1]; exact hi
    have h1 := hf.2 i hi2
    have h2 := (hr.2.2 i hi).1
    have h3 := h.f i hi
    have h4 : nth n.p i = nth n.tp.p i := rfl
    omega
/-- A note in block NB, its lists in blocks of K. -/
structure Nk (K : Nat → Prop) (NB : Nat) (n : Nt) (w : World) : Prop where
  ex : ∃ pa pc ca cc, w.heap[NB]? = some (.cells #[.int .i64 n.b, .slice pa n.p.length pc, .slice ca n.c.length cc, .int .i64 n.a] 53 (0, 0)) ∧ OwN 0 w (.slice pa n.p.length pc) n.p ∧ OwN 0 w (.slice ca n.c.length cc) n.c ∧ (∀ b, (Value.slice pa n.p.length pc).ownBlock = some b → K b) ∧ ∀ b, (Value.slice ca n.c.length cc).ownBlock = some b → K b
  kb : K NB
theorem Nk.keep {K : Nat → Prop} {NB : Nat} {n : Nt} {w w' : World} (h : Nk K NB n w) (hk : ∀ b, K b → w'.heap[b]? = w.heap[b]?) : Nk K NB n w' := by
  obtain ⟨pa, pc, ca, cc, h1, h2, h3, h4, h5⟩ := h.ex
  exact ⟨⟨pa, pc, ca, cc, by rw [hk _ h.kb]; exact h1, row_keep h2 fun b hb => hk b (h4 b hb), row_keep h3 fun b hb => hk b (h5 b hb), h4, h5⟩, h.kb⟩
theorem Nk.mono {K K' : Nat → Prop} {NB : Nat} {n : Nt} {w : World} (h : Nk K NB n w) (hk : ∀ b, K b → K' b) : Nk K' NB n w := by
  obtain ⟨pa, pc, ca, cc, h1, h2, h3, h4, h5⟩ := h.ex
  exact ⟨⟨pa, pc, ca, cc, h1, h2, h3, fun b hb => hk b (h4 b hb), fun b hb => hk b (h5 b hb)⟩, hk _ h.kb⟩
theorem fr_ai {p : Pn} (h : p.is = true) : Ai p 0 (frC p) := by
  obtain ⟨h1, h2, h3, h4, h5⟩ := fr_gd h
  obtain ⟨_, _, _, _, _, ⟨hN, _⟩, _⟩ := Pn.is_num h
  refine ⟨rfl, ⟨_, h1, .inl rfl⟩, rfl, by omega, by omega, by omega, by rw [h4]; exact Int.le_refl _, by rw [h4]; exact Int.le_refl _, trivial, fun y hy => (List.not_mem_nil hy).elim, ?_⟩
  show ((0 : Nat) : Int) ≤ p.N
  omega
/-- The world, just laid. -/
theorem aw_laid {w1 w2 w3 : World} {p : Pn} {ov : Value} {sb cb : Nat} (h : CW w1 (fun _ => False) sb cb (frC p) w2) (h3 : w3 = w2.alloc (Obj.cells (wC p ov sb cb (.slice none 0 0)) 31)) : AW w1 (fun _ => False) w2.heap.size p ov (frC p) [] w3 := by
  have hb : Below w2.heap.size w2 w3 := by rw [h3]; exact below_alloc _ _
  have hz := h.bel.size
  have hs : w3.heap.size = w2.heap.size + 1 := by rw [h3]; simp
  refine ⟨⟨fun x => x = w2.heap.size, sb, cb, .slice none 0 0, [], fun x hx => ⟨by rw [hx]; exact hz, fun h => h⟩, (h.more hb).less ?_, by rw [h3]; exact alloc_at rfl, rfl, Sn.nil _ _, rfl⟩⟩
  rintro x (h9 | h9)
  · exact h9.elim
  · exact .inr (by omega)
end Go.Proofs.Ytpndafieknddcaa
