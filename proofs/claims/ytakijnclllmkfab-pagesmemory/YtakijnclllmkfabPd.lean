/- takeRoot; write, that gives up by panic. -/
import Derived.Test.YtakijnclllmkfabPc

namespace Go.Proofs.Ytakijnclllmkfab

open Go.RowKit



/-- What takeRoot answers. -/
def Tk (w : World) (b : List Nat) (B : Nat) (e : Ending) (w' : World) : Prop :=
  (rootOf b B = none → e = .returned (.tuple #[.agg #[.int .u64 0, .slice none 0 0], .bool false])) ∧
  (∀ g t, rootOf b B = some (g, t) → ∃ ao cap, e = .returned (.tuple #[.agg #[.int .u64 g, .slice ao t.length cap], .bool true]) ∧ Tw w' (.slice ao t.length cap) t ∧ ∀ x, (Value.slice ao t.length cap).ownBlock = some x → w.heap.size ≤ x) ∧
  Below w.heap.size w w'
theorem tk_no {w w' : World} {b : List Nat} {B : Nat} (h : rootOf b B = none) (hB : Below w.heap.size w w') : Tk w b B (.returned (.tuple #[.agg #[.int .u64 0, .slice none 0 0], .bool false])) w' :=
  ⟨fun _ => rfl, fun g t e => (by rw [h] at e; cases e), hB⟩
theorem tk_yes {w w' : World} {b t : List Nat} {B g : Nat} {ao : Option Addr} {cap : Nat} (h : rootOf b B = some (g, t)) (hT : Tw w' (.slice ao t.length cap) t) (hn : ∀ x, (Value.slice ao t.length cap).ownBlock = some x → w.heap.size ≤ x) (hB : Below w.heap.size w w') :
    Tk w b B (.returned (.tuple #[.agg #[.int .u64 g, .slice ao t.length cap], .bool true])) w' :=
  ⟨fun e => (by rw [h] at e; cases e), fun g' t' e => (by rw [h] at e; simp only [Option.some.injEq, Prod.mk.injEq] at e; obtain ⟨rfl, rfl⟩ := e; exact ⟨ao, cap, rfl, hT, hn⟩), hB⟩


/-- The answer's own cell. -/
structure Rc (w : World) (wx : World) : Prop where
  below : Below w.heap.size w wx
  z : ∀ j, j < 2 → (∃ u, wx.cell? ⟨w.heap.size, j, none⟩ = some u) ∧ wx.frozen? ⟨w.heap.size, j, none⟩ = false
  lt : w.heap.size < wx.heap.size
theorem Rc.go {w wx w' : World} (h : Rc w wx) (hb : Below wx.heap.size wx w') : Rc w w' := by
  refine ⟨below_trans h.below hb, fun j hj => ?_, Nat.lt_of_lt_of_le h.lt hb.size⟩
  obtain ⟨⟨u, h1⟩, h2⟩ := h.z j hj
  exact ⟨⟨u, by rw [hb.cell (p := ⟨w.heap.size, j, none⟩) (cell_lt h1)]; exact h1⟩, by rw [hb.frozen (p := ⟨w.heap.size, j, none⟩) (cell_lt h1)]; exact h2⟩
theorem Rc.two {w wx : World} (h : Rc w wx) (a b : Value) : Below w.heap.size w ((wx.setCell ⟨w.heap.size, 0, none⟩ a).setCell ⟨w.heap.size, 1, none⟩ b) :=
  (h.below.setCell (p := ⟨w.heap.size, 0, none⟩) (by simp) _).setCell (p := ⟨w.heap.size, 1, none⟩) (by simp) _
theorem Tw.ch {w w' : World} {ao : Option Addr} {n cap : Nat} {t : List Nat} (h : Tw w (.slice ao n cap) t) (hk : ∀ x, (Value.slice ao n cap).ownBlock = some x → w'.heap[x]? = w.heap[x]?) : Tw w' (.slice ao n cap) t := by
  obtain ⟨ao', cap', e, h1, h2, h3, h4⟩ := h
  simp only [Value.slice.injEq] at e
  obtain ⟨e1, e2, e3⟩ := e
  subst e1 e3
  refine ⟨ao, cap, by rw [e2], h1, h2, h3, fun i hi => ?_⟩
  obtain ⟨b, off, rfl, c⟩ := h4 i hi
  exact ⟨b, off, rfl, by rw [World.cell?_of_block (w := w) (a := ⟨b, off + i, none⟩) (hk b rfl)]; exact c⟩




section

variable {T : TypeId} {D : Nat → Prop} {w : World} {v bv : Value} {S : Dk} {b : List Nat}

/-- What a write leaves on the disk. -/
def Wl (T : TypeId) (D : Nat → Prop) (w : World) (v : Value) (S : Dk) (w' : World) : Prop := (∃ D' : Nat → Prop, Dsk T D' w' v S ∧ ∀ x, D' x → D x ∨ w.heap.size ≤ x) ∧ Ch D w w'
theorem wr_ok (h : Dsk 62 D w v S) (i : Int) (hb : Bv w bv b) (hwr : S.wr < 9223372036854775807) (hI : writeI S i b = 0) :
    Calls Try.prog 22 #[v, .int .i64 i, bv] w fun e w' => e = .returned (.tuple #[]) ∧ Wl 62 D w v (writeS S i b) w' := by
  have HD : Hid (Dsk 62 D w v S) := h
  have HB : Hid (Bv w bv b) := hb
  have HW : Hid (S.wr < 9223372036854775807) := hwr
  have HI : Hid (writeI S i b = 0) := hI
  clear h hb hwr hI
  go_enter Try.func22, Try.ntmps22
  go_wp2_with fail
  refine (write_walk HD.out i HB.out HW.out).mono ?_
  rintro e w1 ⟨rfl, hD, hC⟩
  rw [HI.out]
  go_wp2_with fail
  refine bodyPost_end (results_none rfl _ _ _) rfl ?_
  exact ⟨rfl, hD, hC⟩
theorem wr_bad (h : Dsk 62 D w v S) (i : Int) (hb : Bv w bv b) (hwr : S.wr < 9223372036854775807) (hI : writeI S i b ≠ 0) :
    Calls Try.prog 22 #[v, .int .i64 i, bv] w fun e w' => (∃ u pv, e = .panicked [{ v := .iface u pv, recovered := false }]) ∧ Wl 62 D w v (writeS S i b) w' := by
  have HD : Hid (Dsk 62 D w v S) := h
  have HB : Hid (Bv w bv b) := hb
  have HW : Hid (S.wr < 9223372036854775807) := hwr
  obtain ⟨q, hq⟩ : ∃ q, q = writeI S i b := ⟨_, rfl⟩
  have HI : Hid (q = writeI S i b) := hq
  rw [← hq] at hI
  have hqb : (q != 0) = true := by simpa using hI
  clear h hb hwr hq
  go_enter Try.func22, Try.ntmps22
  go_wp2_with fail
  refine (write_walk HD.out i HB.out HW.out).mono ?_
  rintro e w1 ⟨rfl, hD, hC⟩
  rw [← HI.out]
  go_wp2_with fail
  exact ⟨rfl, ⟨_, _, rfl⟩, hD, hC⟩
end

end Go.Proofs.Ytakijnclllmkfab


