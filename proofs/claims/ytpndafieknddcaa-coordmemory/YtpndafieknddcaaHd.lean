/- act: a message that was answered already comes again. -/
import Derived.Test.YtpndafieknddcaaHc
namespace Go.Proofs.Ytpndafieknddcaa

open Ieee Go.RowKit

section

variable {wz w w' w2 : World} {A A' E B Z : Nat → Prop} {sb cb WB : Nat} {c c' : Cs} {p : Pn} {ov sv v onv : Value} {V : List Tq} {M : List Ms} {mo : Option Ms} {k : Int} {on : List Int}

structure MsgAt (w : World) (g o : Nat) (m : Ms) (ev : Value) : Prop where
  c0 : w.cell? ⟨g, o, none⟩ = some (.int .i64 m.K)
  c1 : w.cell? ⟨g, o + 1, none⟩ = some (.int .i64 m.F)
  c2 : w.cell? ⟨g, o + 2, none⟩ = some (.int .i64 m.T)
  c3 : w.cell? ⟨g, o + 3, none⟩ = some (.int .i64 m.B)
  c4 : w.cell? ⟨g, o + 4, none⟩ = some (.int .i64 m.A)
  c5 : w.cell? ⟨g, o + 5, none⟩ = some (.int .i64 m.C)
  c6 : w.cell? ⟨g, o + 6, none⟩ = some ev
  c7 : w.cell? ⟨g, o + 7, none⟩ = some (.slice none 0 0)
  c8 : w.cell? ⟨g, o + 8, none⟩ = some (.slice none 0 0)
theorem sn_cells {g cap j : Nat} (h : Sn A w (.slice (some ⟨g, 0, none⟩) V.length cap) V) (hj : j < V.length) : MsgAt w g (j * 9) V[j].m V[j].e := by
  obtain ⟨n1, n2⟩ := h.nl _ (List.getElem_mem hj)
  have hc : ∀ i (hi : i < 9) u, (cellsT V[j])[i]? = some u → w.cell? ⟨g, j * 9 + i, none⟩ = some u := fun i hi u hu => (own_cellY (j := j * 9 + i) h.row (by rw [flatT_get V j i hj hi]; exact hu)).1
  exact ⟨hc 0 (by omega) _ rfl, hc 1 (by omega) _ rfl, hc 2 (by omega) _ rfl, hc 3 (by omega) _ rfl, hc 4 (by omega) _ rfl, hc 5 (by omega) _ rfl, hc 6 (by omega) _ rfl, by rw [← n1]; exact hc 7 (by omega) _ rfl, by rw [← n2]; exact hc 8 (by omega) _ rfl⟩
theorem ml_sn {m : Ms} {ev : Value} (h : OwN 0 w ev m.E) (hl : In64 m.E) (hA : ∀ x, ev.ownBlock = some x → A x) (hq : m.Q = []) (hp : m.P = []) : ∀ w', ChA wz A w w' → ML w' m ev (.slice none 0 0) (.slice none 0 0) := fun _ hc =>
  ⟨nv_sv (own_nv (row_keep h fun x hx => hc.block x (h.lt x hx).2 (fun h => h.2 (hA x hx))) hl), by rw [hq]; exact kv_nil _, by rw [hp]; exact qv_nil _⟩
end

end Go.Proofs.Ytpndafieknddcaa
