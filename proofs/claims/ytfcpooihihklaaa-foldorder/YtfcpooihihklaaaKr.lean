/- Slices of records that a call itself makes: as cells in a row; append of one record. -/
import Derived.Test.YtfcpooihihklaaaKm
namespace Go.Proofs.Ytfcpooihihklaaa
open Ieee Go.RowKit

theorem info_rec : (Try.prog.info? 52).map (fun i => (i.zero, i.size, i.bytes)) = some (some (.agg #[.int .u64 0, .float .f64 0]), 2, 16) := by kernel_rfl

def flatR (l : List Rcd) : List Value := l.flatMap fun r => [.int .u64 r.k, .float .f64 r.x]
theorem flatR_len (l : List Rcd) : (flatR l).length = l.length * 2 := by
  unfold flatR
  induction l with
  | nil => rfl
  | cons o l ih => rw [List.flatMap_cons, List.length_append, ih]; simp; omega
theorem flatR_snoc (l : List Rcd) (r : Rcd) : flatR (l ++ [r]) = flatR l ++ [.int .u64 r.k, .float .f64 r.x] := by unfold flatR; rw [List.flatMap_append]; rfl
theorem flatR_get (l : List Rcd) : ∀ (i : Nat) (h : i < l.length), (flatR l)[i * 2]? = some (.int .u64 l[i].k) ∧ (flatR l)[i * 2 + 1]? = some (.float .f64 l[i].x) := by
  induction l with
  | nil => intro i h; simp at h
  | cons o l ih =>
    intro i h
    have e : flatR (o :: l) = .int .u64 o.k :: .float .f64 o.x :: flatR l := rfl
    rw [e]
    cases i with
    | zero => simp
    | succ i =>
      have := ih i (by simpa using h)
      rw [show (i + 1) * 2 = i * 2 + 1 + 1 by omega]
      simpa using this

/-- What a row of the call's own holds. -/
theorem own_rv {w : World} {base e n : Nat} {v : Value} {l : List Rcd} (h : w.ownsRow base e 2 v n (flatR l)) (hok : ∀ r ∈ l, r.ok) : Rv w v l := by
  obtain ⟨h1, h2⟩ := h
  rw [flatR_len] at h1
  have hn : n = l.length := by omega
  subst hn
  refine ⟨?_, hok⟩
  rcases h2 with ⟨rfl, h0⟩ | ⟨g, cap, cur, rfl, hb, hg, hnc, hcm, hcs, htake⟩
  · have : l = [] := List.eq_nil_of_length_eq_zero h0
    subst this
    exact ⟨none, 0, rfl, by simp, by simp [maxLen], by simp, fun i hi => by simp at hi⟩
  · have key : ∀ j u, j < l.length * 2 → (flatR l)[j]? = some u → w.cell? ⟨g, j, none⟩ = some u := by
      intro j u hj hu
      rw [cell_of_row w g j cur e (0, 0) hg, ← Array.getElem?_toList]
      rw [← htake, List.getElem?_take, if_pos hj] at hu
      exact hu
    refine ⟨_, cap, rfl, hnc, hcm, by simp, fun i hi => ?_⟩
    obtain ⟨a, b⟩ := flatR_get l i hi
    exact ⟨g, 0, rfl, by simpa using key _ _ (by omega) a, by simpa using key _ _ (by omega) b⟩

theorem one_cells {w : World} {g : Nat} {r : Rcd} (h0 : w.cell? ⟨g, 0, none⟩ = some (.int .u64 r.k)) (h1 : w.cell? ⟨g, 1, none⟩ = some (.float .f64 r.x)) :
    ∀ (j : Nat) (u : Value), ([.int .u64 r.k, .float .f64 r.x] : List Value)[j]? = some u → w.cell? ((⟨g, 0, none⟩ : Addr).add j) = some u := by
  intro j u hj
  have : j = 0 ∨ j = 1 ∨ 2 ≤ j := by omega
  rcases this with rfl | rfl | h
  · simp at hj; subst hj; simpa [WideShapes.add_plain] using h0
  · simp at hj; subst hj; simpa [WideShapes.add_plain] using h1
  · rw [List.getElem?_eq_none (by simpa using h)] at hj; cases hj

/-- A record onto a row that has room for it. -/
theorem wpList_append_rf {P : Program} {w : World} {ops : Array Oper} {rest : List Oper} {o : Oper} {a : Act} {Q : Exit → Act → World → Prop} (hgd : o.guard = none) (s x : Operand) (t : TypeId)
    (ho : o.op = .call { callee := .builtin .append, args := #[s, x], argTypes := #[t, t] })
    (base : Nat) (e : TypeId) (i0 : TypeInfo) (ht : P.underlying t = some (.slice e)) (hi : P.info? e = some i0) (hz1 : i0.size = 2)
    (g n cap : Nat) (m : List Rcd) (hs : a.eval s = .slice (some ⟨g, 0, none⟩) n cap) (hown : w.ownsRow base e 2 (.slice (some ⟨g, 0, none⟩) n cap) n (flatR m))
    (q : Nat) (r : Rcd) (hx : a.eval x = .slice (some ⟨q, 0, none⟩) 1 1) (h0 : w.cell? ⟨q, 0, none⟩ = some (.int .u64 r.k)) (h1 : w.cell? ⟨q, 1, none⟩ = some (.float .f64 r.x)) (hfit : n + 1 ≤ cap)
    (h : ∀ w', w'.ownsRow base e 2 (.slice (some ⟨g, 0, none⟩) (n + 1) cap) (n + 1) (flatR (m ++ [r])) → w.grownBy w' (some g) → wpList P ops Q rest (a.put o.dst (.slice (some ⟨g, 0, none⟩) (n + 1) cap)) w') : wpList P ops Q (o :: rest) a w := by
  refine wpList_append_fits w hgd s x t ho base e i0 2 ht hi hz1 g n cap (flatR m) hs hown ⟨q, 0, none⟩ 1 1 [.int .u64 r.k, .float .f64 r.x] hx rfl (one_cells h0 h1) ?_ hfit (by rw [← flatR_snoc]; exact h)
  intro u hu
  simp at hu
  rcases hu with rfl | rfl <;> rfl

/-- A record onto a row that may have to grow. -/
theorem wpList_append_rg {P : Program} {w : World} {ops : Array Oper} {rest : List Oper} {o : Oper} {a : Act} {Q : Exit → Act → World → Prop} (hgd : o.guard = none) (s x : Operand) (t : TypeId)
    (ho : o.op = .call { callee := .builtin .append, args := #[s, x], argTypes := #[t, t] })
    (base : Nat) (e : TypeId) (i0 : TypeInfo) (ht : P.underlying t = some (.slice e)) (hi : P.info? e = some i0) (hz0 : i0.zero = some (.agg #[.int .u64 0, .float .f64 0])) (hz1 : i0.size = 2) (hz2 : i0.bytes = 16)
    (v : Value) (n : Nat) (m : List Rcd) (hs : a.eval s = v) (hown : w.ownsRow base e 2 v n (flatR m))
    (q : Nat) (r : Rcd) (hx : a.eval x = .slice (some ⟨q, 0, none⟩) 1 1) (h0 : w.cell? ⟨q, 0, none⟩ = some (.int .u64 r.k)) (h1 : w.cell? ⟨q, 1, none⟩ = some (.float .f64 r.x)) (h63 : n + 1 ≤ maxLen) (hb : (n + 1) * 16 ≤ 140737488355328) (hbase : base ≤ w.heap.size)
    (h : ∀ v' w', w'.ownsRow base e 2 v' (n + 1) (flatR (m ++ [r])) → w.grownBy w' v.ownBlock → wpList P ops Q rest (a.put o.dst v') w') : wpList P ops Q (o :: rest) a w := by
  refine wpList_append_own w hgd s x t ho base e i0 (.agg #[.int .u64 0, .float .f64 0]) 2 16 ht hi hz0 hz1 hz2 rfl (by decide) v n (flatR m) hs hown ⟨q, 0, none⟩ 1 1 [.int .u64 r.k, .float .f64 r.x] hx rfl (one_cells h0 h1) ?_ h63 hb hbase
    (fun v' w' h1 h2 _ => h v' w' (by rw [flatR_snoc]; exact h1) h2)
  intro u hu
  simp at hu
  rcases hu with rfl | rfl <;> rfl
end Go.Proofs.Ytfcpooihihklaaa
