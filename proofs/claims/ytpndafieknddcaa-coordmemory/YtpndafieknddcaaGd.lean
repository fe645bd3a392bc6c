/- CoordMemory: rows of one's own. -/
import Derived.Test.YtpndafieknddcaaHm
namespace Go.Proofs.Ytpndafieknddcaa

open Ieee Go.RowKit

theorem one_ofG {W : List Ye} {y : Yt} (h : W.map Ye.y = [y]) : ∃ x, W = [x] ∧ x.y = y := by
  cases W with
  | nil => cases h
  | cons a t =>
    have h1 := List.cons.inj h
    have h2 : t = [] := List.map_eq_nil_iff.1 h1.2
    exact ⟨a, by rw [h2], h1.1⟩
theorem made_own {w : World} (q : Nat) (hq : q ≤ 4) : OwN w.heap.size (w.alloc (.cells (madeCells #[.int .i64 0] (q * 1)) 3)) (.slice (some ⟨w.heap.size, 0, none⟩) q q) (zeros q) := by
  have := own_made w hq (Z := madeCells #[.int .i64 0] (q * 1)) rfl
  show World.ownsRow _ _ _ _ _ (zeros q).length _
  rw [zeros_len]; exact this
theorem made_nv {w : World} (q : Nat) (hq : q ≤ 4) : Nv (w.alloc (.cells (madeCells #[.int .i64 0] (q * 1)) 3)) (.slice (some ⟨w.heap.size, 0, none⟩) q q) (zeros q) := own_nv (made_own q hq) (fun v hv => by rw [(List.mem_replicate.1 hv).2]; omega)
theorem made_nvd {w : World} (q : Nat) (hq : q ≤ 4) : Nv (w.alloc (.cells (madeCells #[.int .i64 0] q) 3)).drew (.slice (some ⟨w.heap.size, 0, none⟩) q q) (zeros q) := by
  have h := made_nv (w := w) q hq
  rw [Nat.mul_one] at h
  exact h.below (below_drewN _ 1)


theorem made_nvq {w : World} (q : Nat) (hq : q ≤ 4) : Nv (w.alloc (.cells (madeCells #[.int .i64 0] q) 3)) (.slice (some ⟨w.heap.size, 0, none⟩) q q) (zeros q) := by
  have h := made_nv (w := w) q hq
  rw [Nat.mul_one] at h
  exact h
theorem zeros_m (q : Nat) : ∀ v ∈ zeros q, 0 ≤ v ∧ v ≤ 256 := fun v hv => by rw [(List.mem_replicate.1 hv).2]; omega
section

variable {w w' : World} {p : Nat}

theorem zw_take {g cap : Nat} {l : List Int} {m : List Int} (h : Zw w g cap l) (hm : ∀ i, i < m.length → nth l i = nth m i) (hl : m.length ≤ l.length) (h64 : In64 m) : Nv w (.slice (some ⟨g, 0, none⟩) m.length cap) m := by
  obtain ⟨⟨cur, h1, h2, h3⟩, h4, h5⟩ := h
  refine ⟨⟨_, cap, rfl, by omega, h5, by simp, fun i hi => ⟨g, 0, rfl, ?_⟩⟩, h64⟩
  rw [Nat.zero_add, cell_of_row w g i cur _ (0, 0) h1, h3 i (by omega), hm i hi]
theorem nth_left {l : List Int} {x : Int} {i : Nat} (hi : i < l.length) : nth (l ++ [x]) i = nth l i := by
  rw [nth_at (by simp; omega), nth_at hi, List.getElem_append_left hi]
theorem nth_end {l : List Int} {x : Int} {n : Nat} (h : l.length = n) : nth (l ++ [x]) n = x := by
  subst h
  rw [nth_at (by simp)]
  simp
theorem app_row {w8 : World} {B : Nat} {v2 : Value} {L : List Int} {x : Int} (ho2 : w8.ownsRow B 3 1 v2 (0 + L.length + [x].length) (cellsN ([] ++ L ++ [x]))) (hl : L.length = p) : ∃ g gc, v2 = .slice (some ⟨g, 0, none⟩) (p + 1) gc ∧ B ≤ g ∧ p + 1 ≤ gc ∧ Zw w8 g gc (L ++ [x]) := by
  have hn : 0 + L.length + [x].length = p + 1 := by simp [hl]
  rw [hn, List.nil_append] at ho2
  rcases id ho2.2 with ⟨_, h0⟩ | ⟨g, cap, cur, e, hb, hg, hnc, _⟩
  · omega
  · subst e
    exact ⟨g, cap, rfl, hb, hnc, (own_zw ho2).1⟩
end

theorem step_app_sv {ops : Array Oper} {o : Oper} {a : Act} {w : World} {K : Act → World → Prop} {Q : Exit → Act → World → Prop} {E : Prop}
    (hg : o.guard = none) (s x : Operand) (t : TypeId) (hop : o.op = Op.call { callee := Callee.builtin Builtin.append, args := #[s, x], argTypes := #[t, t] })
    (base : Nat) (e : TypeId) (k : IntKind) (ht : Try.prog.underlying t = some (.slice e)) (hinf : (Try.prog.info? e).map (fun i => (i.zero, i.size, i.bytes)) = some (some (.int k 0), 1, 8))
    (v : Value) (n : Nat) (xs : List Value) (hs : a.eval s = v) (hown : w.ownsRow base e 1 v n xs)
    (y : Value) (l : List Int) (hx : a.eval x = y) (hy : Sv k w y l) (h63 : (n + l.length) * 8 ≤ 140737488355328) (hbase : base ≤ w.heap.size)
    (hK : ∀ v' w', w'.ownsRow base e 1 v' (n + l.length) (xs ++ l.map (Value.int k)) → w.grownBy w' v.ownBlock → (v'.ownBlock = v.ownBlock ∨ v'.ownBlock = some w.heap.size) → K (a.put o.dst v') w') :
    if Region.wanted o (yielded ops a.tmps) = true then Oper.wp Try.prog o a w K Q else E := by
  have hw : Region.wanted o (yielded ops a.tmps) = true := by simp [Region.wanted, hg]
  rw [if_pos hw]
  obtain ⟨i0, hi, hz0, hz1, hz2⟩ := info_partsY hinf
  obtain ⟨ao, cap, rfl, hc1, hc2, hnone, hcells⟩ := hy
  cases ao with
  | none =>
    obtain rfl := hnone rfl
    have hl0 : l.length = 0 := by omega
    have hl : l = [] := List.eq_nil_of_length_eq_zero hl0
    subst hl
    have hrun := run_append_owned_none (P := Try.prog) (w := w) base t o.type e i0 1 ht hi v n xs hown
    have hx' : a.eval x = .slice none 0 0 := hx
    unfold Oper.wp
    simp [execOp, hop, resolve, invoke, builtin, hs, hx', hrun, Result.andThen]
    exact hK v w (by simpa using hown) ⟨rfl, rfl, rfl, Nat.le_refl _, fun _ _ _ => rfl⟩ (.inl rfl)
  | some p =>
    obtain ⟨v', w', hrun, r1, r2, _, r4⟩ := run_append_own_at (P := Try.prog) w base t o.type e i0 (.int k 0) 1 8 ht hi hz0 hz1 hz2 rfl (by decide) v n xs hown p l.length cap (l.map (Value.int k)) (by simp) (fun j u hj => by
      have hjl : j < l.length := by
        rcases Nat.lt_or_ge j l.length with h | h
        · exact h
        · simp [List.getElem?_eq_none (show (l.map (Value.int k)).length ≤ j by simpa using h)] at hj
      obtain ⟨b, off, e1, e2⟩ := hcells j hjl
      cases e1
      rw [WideShapes.add_plain, e2]
      simp [List.getElem?_eq_getElem hjl] at hj
      simp [List.getD, List.getElem?_eq_getElem hjl, hj]) (fun u hu => by obtain ⟨z, _, rfl⟩ := List.mem_map.1 hu; rfl) (by unfold maxLen; omega) h63 hbase
    unfold Oper.wp
    simp [execOp, hop, resolve, invoke, builtin, hs, hx, hrun, Result.andThen]
    exact hK v' w' r1 r2 r4
section

variable {w w' : World}

def Zr (w : World) (g cap n : Nat) : Prop := ∃ l, Zw w g cap l ∧ l.length = n
theorem Zr.keep {g cap n : Nat} (h : Zr w g cap n) (hk : w'.heap[g]? = w.heap[g]?) : Zr w' g cap n := by
  obtain ⟨l, h1, h2⟩ := h
  exact ⟨l, h1.keep hk, h2⟩
theorem Zr.set {g cap n x j : Nat} (h : Zr w g cap n) (hj : j < n) (y : Int) : Zr (w.setCell ⟨x, j, none⟩ (.int .i64 y)) g cap n := by
  obtain ⟨l, h1, h2⟩ := h
  by_cases e : g = x
  · subst e
    exact ⟨l.set j y, h1.set (by omega) y, by rw [List.length_set]; exact h2⟩
  · exact ⟨l, h1.keep (set_other _ _ e), h2⟩
theorem Zr.cell {g cap n j : Nat} (h : Zr w g cap n) (hj : j < n) : ∃ y : Int, w.cell? ⟨g, j, none⟩ = some (.int .i64 y) := by
  obtain ⟨l, h1, h2⟩ := h
  exact ⟨_, h1.cell (by omega)⟩
theorem Zr.soft {g cap n : Nat} (h : Zr w g cap n) (j : Nat) : w.frozen? ⟨g, j, none⟩ = false := by
  obtain ⟨l, h1, h2⟩ := h
  exact h1.soft j
theorem Zr.lt {g cap n : Nat} (h : Zr w g cap n) : g < w.heap.size := by
  obtain ⟨l, h1, h2⟩ := h
  exact h1.lt
end

/-- A try's cells, behind a word of its own. -/
def CeY (w : World) (g : Nat) (x : Ye) : Prop := ∀ q (hq : q < 7), w.cell? ⟨g, q, none⟩ = some ((cellsY x)[q]'(by simpa [cellsY] using hq))
theorem nameW {K : Act → World → Prop} {a : Act} {w : World} (h : ∀ w', w' = w → K a w') : K a w := h w rfl
end Go.Proofs.Ytpndafieknddcaa
