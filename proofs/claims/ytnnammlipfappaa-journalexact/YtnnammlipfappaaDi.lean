/- What the statements hand in: writes, flags; numbers modulo. A disk beside a row of what is wanted. -/
import Derived.Test.YtnnammlipfappaaDh

namespace Go.Proofs.Ytnnammlipfappaa

open Go.RowKit



/-- The value v is a slice of writes ps. -/
def Tv (w : World) (v : Value) (ps : List (Int × List Nat)) : Prop :=
  (∃ ao cap, v = .slice ao ps.length cap ∧ ps.length ≤ cap ∧ cap ≤ maxLen ∧ (ao = none → cap = 0) ∧
    ∀ i (h : i < ps.length), ∃ b off u, ao = some ⟨b, off, none⟩ ∧ w.cell? ⟨b, off + i * 2, none⟩ = some (.int .i64 ps[i].1) ∧ w.cell? ⟨b, off + i * 2 + 1, none⟩ = some u ∧ Bv w u ps[i].2) ∧
  ∀ p ∈ ps, -9223372036854775808 ≤ p.1 ∧ p.1 < 9223372036854775808
/-- The value v is a slice of flags bs. -/
def Fv (w : World) (v : Value) (bs : List Bool) : Prop :=
  ∃ ao cap, v = .slice ao bs.length cap ∧ bs.length ≤ cap ∧ cap ≤ maxLen ∧ (ao = none → cap = 0) ∧ ∀ i (h : i < bs.length), ∃ b off, ao = some ⟨b, off, none⟩ ∧ w.cell? ⟨b, off + i, none⟩ = some (.bool bs[i])
theorem Tv.below {w w' : World} {v : Value} {ps : List (Int × List Nat)} (h : Tv w v ps) (hb : Below w.heap.size w w') : Tv w' v ps := by
  obtain ⟨⟨ao, cap, e, h1, h2, h3, h4⟩, h5⟩ := h
  refine ⟨⟨ao, cap, e, h1, h2, h3, fun i hi => ?_⟩, h5⟩
  obtain ⟨b, off, u, e1, c0, c1, hv⟩ := h4 i hi
  exact ⟨b, off, u, e1, by rw [hb.cell (p := ⟨b, off + i * 2, none⟩) (cell_lt c0)]; exact c0, by rw [hb.cell (p := ⟨b, off + i * 2 + 1, none⟩) (cell_lt c1)]; exact c1, hv.below hb⟩
theorem Fv.below {w w' : World} {v : Value} {bs : List Bool} (h : Fv w v bs) (hb : Below w.heap.size w w') : Fv w' v bs := by
  obtain ⟨ao, cap, e, h1, h2, h3, h4⟩ := h
  refine ⟨ao, cap, e, h1, h2, h3, fun i hi => ?_⟩
  obtain ⟨b, off, e1, c0⟩ := h4 i hi
  exact ⟨b, off, e1, by rw [hb.cell (p := ⟨b, off + i, none⟩) (cell_lt c0)]; exact c0⟩
theorem Tv.form {w : World} {v : Value} {ps : List (Int × List Nat)} (h : Tv w v ps) : ∃ ao cap, v = .slice ao ps.length cap ∧ ps.length ≤ cap ∧ cap ≤ maxLen := by
  obtain ⟨⟨ao, cap, e, h1, h2, _⟩, _⟩ := h
  exact ⟨ao, cap, e, h1, h2⟩
theorem Fv.form {w : World} {v : Value} {bs : List Bool} (h : Fv w v bs) : ∃ ao cap, v = .slice ao bs.length cap ∧ bs.length ≤ cap ∧ cap ≤ maxLen := by
  obtain ⟨ao, cap, e, h1, h2, _⟩ := h
  exact ⟨ao, cap, e, h1, h2⟩


/-- uint(x) % n. -/
def modN (x : Int) (n : Nat) : Nat := ((IntKind.u64.wrap x).tmod n).toNat
theorem mod_lt (x : Int) {n : Nat} (h0 : 0 < n) : modN x n < n := by
  have hw : 0 ≤ IntKind.u64.wrap x := by rw [IntKind.wrap_u64]; omega
  unfold modN
  have h1 := Int.tmod_lt_of_pos (IntKind.u64.wrap x) (show (0 : Int) < n by omega)
  have h2 := Int.tmod_nonneg (n : Int) hw
  omega
theorem mod_eq (x : Int) {n : Nat} : (IntKind.u64.wrap x).tmod (n : Int) = (modN x n : Int) := by
  have hw : 0 ≤ IntKind.u64.wrap x := by rw [IntKind.wrap_u64]; omega
  unfold modN
  have h2 := Int.tmod_nonneg (n : Int) hw
  omega


section

variable {T : TypeId} {D D' : Nat → Prop} {w w' : World} {v : Value} {g i : Nat} {u : Value} {S : Dk} {ls : List (List Nat)} {b : List Nat}

/-- A row beside the disk is written into. -/
theorem Dsk.beside (h : Dsk T D w v S) (hg : ¬ D g) : Dsk T D (w.setCell ⟨g, i, none⟩ u) v S :=
  h.ch (E := fun x => x = g) (Ch.of_grown (grown_set w g i u) (fun x hx => by cases hx; rfl)) (fun x hx e => hg (e ▸ hx))
theorem put_bk {k : Nat} (hk : k < S.bl.length) : bk (putS S k b).bl k = b := by
  show bk (S.bl.set k b) k = b
  rw [bk_set hk, if_pos rfl]
theorem ref_in {k : Nat} (hd : S.down = false) (hk : k < S.bl.length) : refI S k = 0 := by unfold refI; rw [hd, if_neg (by simp), if_neg (by omega)]
theorem write_in {k : Nat} (hd : S.down = false) (hk : k < S.bl.length) (hl : S.left ≠ 0) (hb : b.length ≤ 1024) : writeI S k b = 0 ∧ writeS S k b = putS S k b := by
  have hr := ref_in hd hk
  exact ⟨by unfold writeI; rw [if_neg (fun e => e hr), if_neg (by omega), if_neg hl], by unfold writeS; rw [if_neg (fun e => e hr), if_neg (by omega), if_neg hl]; simp⟩
theorem read_in {k : Nat} (hd : S.down = false) (hk : k < S.bl.length) : refI S k = 0 ∧ readL S k = bk S.bl k ∧ readS S k = { S with rd := S.rd + 1 } := by
  have hr := ref_in hd hk
  exact ⟨hr, by unfold readL; rw [if_pos hr]; simp, by unfold readS; rw [if_pos hr]⟩
theorem write_off {i : Int} (hd : S.down = true) : writeI S i b = 80 ∧ writeS S i b = S := by
  have hr : refI S i = 80 := by unfold refI; rw [if_pos hd]
  exact ⟨by unfold writeI; rw [if_pos (by omega), hr], by unfold writeS; rw [if_pos (by omega)]⟩
theorem on_off (hd : S.down = false) (hl : S.left = -1) : onS (offS S) = S := by
  obtain ⟨bl, down, left, rd, wr⟩ := S
  simp only at hd hl
  subst hd; subst hl; rfl
end

end Go.Proofs.Ytnnammlipfappaa


