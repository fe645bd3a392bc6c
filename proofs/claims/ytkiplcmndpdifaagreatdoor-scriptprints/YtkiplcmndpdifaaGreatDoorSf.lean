/- A float's digits read; the reader: refuse, ahead, argument, begin, number, key, float. -/
import Derived.Test.YtkiplcmndpdifaaGreatDoorSe

namespace Go.Proofs.YtkiplcmndpdifaaGreatDoor

open Go.RowKit



set_option maxRecDepth 20000 in
theorem ipflt_walk (l : Bs) (hl : l.length ≤ 281474976710656) (w : World) :
    Calls Tryz.prog 96 #[S l, .int .i64 16, .int .i64 64] w fun e w' => (∃ x : Nat, x < 18446744073709551616 ∧ ((e = .returned (.tuple #[.int .u64 x, .nilIface]) ∧ ∀ y, y < 18446744073709551616 → l = hexRow y 16 → x = y) ∨ ((e = .returned (.tuple #[.int .u64 x, .iface 159 (.int .i64 1)]) ∨ e = .returned (.tuple #[.int .u64 x, .iface 159 (.int .i64 2)])) ∧ ∀ y, y < 18446744073709551616 → l ≠ hexRow y 16))) ∧ Below w.heap.size w w' := by
  by_cases hg : ∃ y, y < 18446744073709551616 ∧ l = hexRow y 16
  · obtain ⟨y, hy, rfl⟩ := hg
    refine (ipu_good y hy w).mono ?_
    rintro e w' ⟨rfl, hB⟩
    refine ⟨⟨y, hy, .inl ⟨rfl, fun z hz e => ?_⟩⟩, hB⟩
    have h1 := (fltP_iff (hexRow y 16) y).2 ⟨hy, rfl⟩
    have h2 := (fltP_iff (hexRow y 16) z).2 ⟨hz, e⟩
    rw [h1] at h2
    exact Option.some.inj h2
  · have hno : ∀ y, y < 18446744073709551616 → l ≠ hexRow y 16 := fun y hy e => hg ⟨y, hy, e⟩
    have hsz : (⟨l.toArray⟩ : ByteArray).size = l.length := size_mk l
    by_cases h0 : l = []
    · subst h0
      go_enter Tryz.func96, Tryz.ntmps96
      go_wp2
      go_ret2
      exact ⟨⟨0, by omega, .inr ⟨.inr rfl, hno⟩⟩, Below.refl _ _⟩
    · refine (ipu_any ⟨l.toArray⟩ (by rw [hsz]; exact hl) (by rw [hsz]; intro h; exact h0 (List.eq_nil_of_length_eq_zero h)) w).mono ?_
      rintro e w' ⟨⟨x, hx, h⟩, hB⟩
      refine ⟨⟨x, hx, ?_⟩, hB⟩
      rcases h with h | h | h
      · exact .inl ⟨h, fun y hy e => absurd e (hno y hy)⟩
      · exact .inr ⟨.inl h, hno⟩
      · exact .inr ⟨.inr h, hno⟩


set_option maxHeartbeats 2000000 in
theorem pflt_walk (l : Bs) (hl : l.length ≤ 281474976710656) (w : World) (ht : Tb w) :
    Calls Tryz.prog 78 #[S l, .int .i64 16, .int .i64 64] w (KeGot w (fun y => hexRow y 16) l) := by
  have HT : Hid (Tb w) := ht
  have HL : Hid (l.length ≤ 281474976710656) := hl
  clear ht hl
  go_enter Tryz.func78, Tryz.ntmps78
  go_wp2_with fail
  refine (ipflt_walk l HL.out w).mono ?_
  rintro e w1 ⟨⟨x, hx, ⟨rfl, hu⟩ | ⟨rfl | rfl, hno⟩⟩, hB⟩
  · have HX : Hid (x < 18446744073709551616 ∧ ∀ y, y < 18446744073709551616 → l = hexRow y 16 → x = y) := ⟨hx, hu⟩
    clear hx hu
    go_wp2_with fail
    go_ret2
    exact ⟨x, _, HX.out.1, rfl, hB, .inl ⟨rfl, HX.out.2⟩⟩
  · have HX : Hid (x < 18446744073709551616 ∧ ∀ y, y < 18446744073709551616 → l ≠ hexRow y 16) := ⟨hx, hno⟩
    have HB : Hid (Below w.heap.size w w1) := hB
    obtain ⟨tr, pr, her⟩ := (HT.out.below hB).er
    have HE : Hid (w1.cell? ⟨5, 0, none⟩ = some (.iface tr pr)) := her
    clear hx hno hB her
    go_wp2_with fail
    refine (Any.strconv_toError_range laysC245 _ ⟨l.toArray⟩ 16 64 _ w1 (by rw [size_mk]; exact HL.out) HE.out (.inr ⟨_, _, rfl⟩)).mono ?_
    rintro e w2 ⟨N, rfl, _, _, hB2⟩
    go_wp2_with fail
    go_ret2
    exact ⟨x, _, HX.out.1, rfl, below_trans HB.out hB2, .inr ⟨⟨_, _, rfl⟩, HX.out.2⟩⟩
  · have HX : Hid (x < 18446744073709551616 ∧ ∀ y, y < 18446744073709551616 → l ≠ hexRow y 16) := ⟨hx, hno⟩
    have HB : Hid (Below w.heap.size w w1) := hB
    obtain ⟨tr, pr, her⟩ := (HT.out.below hB).es
    have HE : Hid (w1.cell? ⟨4, 0, none⟩ = some (.iface tr pr)) := her
    clear hx hno hB her
    go_wp2_with fail
    refine (Any.strconv_toError_syntax laysC245 _ ⟨l.toArray⟩ 16 64 _ w1 (by rw [size_mk]; exact HL.out) HE.out (.inr ⟨_, _, rfl⟩)).mono ?_
    rintro e w2 ⟨N, rfl, _, _, hB2⟩
    go_wp2_with fail
    go_ret2
    exact ⟨x, _, HX.out.1, rfl, below_trans HB.out hB2, .inr ⟨⟨_, _, rfl⟩, HX.out.2⟩⟩

/-! ### The reader in memory -/
structure Ch (D : Nat → Prop) (w w' : World) : Prop where
  os : w'.os = w.os
  tape : w'.tape = w.tape
  output : w'.output = w.output
  size : w.heap.size ≤ w'.heap.size
  block : ∀ k, k < w.heap.size → ¬ D k → w'.heap[k]? = w.heap[k]?
theorem Ch.refl (D : Nat → Prop) (w : World) : Ch D w w := ⟨rfl, rfl, rfl, Nat.le_refl _, fun _ _ _ => rfl⟩
theorem Ch.trans {D E : Nat → Prop} {a b c : World} (h : Ch D a b) (k : Ch E b c) (he : ∀ x, E x → D x ∨ a.heap.size ≤ x) : Ch D a c :=
  ⟨k.os.trans h.os, k.tape.trans h.tape, k.output.trans h.output, Nat.le_trans h.size k.size, fun x hx hd => by
    rw [k.block x (Nat.lt_of_lt_of_le hx h.size) (fun e => by rcases he x e with q | q; exact hd q; omega), h.block x hx hd]⟩
theorem Ch.self {D : Nat → Prop} {a b c : World} (h : Ch D a b) (k : Ch D b c) : Ch D a c := h.trans k (fun _ hx => .inl hx)
theorem Ch.le {D E : Nat → Prop} {w w' : World} (h : Ch D w w') (hE : ∀ x, D x → E x) : Ch E w w' := (Ch.refl E w).trans h (fun x hx => .inl (hE x hx))
theorem Ch.of_below {D : Nat → Prop} {w w' : World} (h : Below w.heap.size w w') : Ch D w w' := ⟨h.os, h.tape, h.output, h.size, fun k hk _ => h.block k hk⟩
theorem Ch.to_below {D : Nat → Prop} {w w' : World} {B : Nat} (h : Ch D w w') (hB : B ≤ w.heap.size) (hd : ∀ x, D x → B ≤ x) : Below B w w' := ⟨h.os, h.tape, h.output, h.size, fun k hk => h.block k (by omega) (fun e => by have := hd k e; omega)⟩
theorem Ch.of_grown {D : Nat → Prop} {w w' : World} {r : Option Nat} (h : w.grownBy w' r) (hr : ∀ x, r = some x → D x) : Ch D w w' := ⟨h.os, h.tape, h.output, h.size, fun k hk hd => h.block k hk (fun e => hd (hr k e.symm))⟩
theorem grown_setK (w : World) (g i : Nat) (u : Value) : w.grownBy (w.setCell ⟨g, i, none⟩ u) (some g) :=
  ⟨rfl, rfl, rfl, by simp [go_sem], fun k hk hne => by rw [Below.heap_setCell w _ _ k (by rintro rfl; exact hne rfl)]⟩
theorem ch_set (w : World) (g i : Nat) (u : Value) : Ch (fun x => x = g) w (w.setCell ⟨g, i, none⟩ u) := Ch.of_grown (grown_setK w g i u) (fun x hx => by cases hx; rfl)
theorem Ch.cell {D : Nat → Prop} {w w' : World} {p : Addr} {u : Value} (h : Ch D w w') (hp : w.cell? p = some u) (hd : ¬ D p.block) : w'.cell? p = some u := by
  have := h.block p.block (cell_lt hp) hd
  have e : w'.cell? p = w.cell? p := by simp only [World.cell?, this]
  rw [e, hp]


theorem alloc_at {w : World} {o : Obj} {k : Nat} (hk : k = w.heap.size) : (w.alloc o).heap[k]? = some o := by subst hk; show (w.heap.push o)[w.heap.size]? = _; simp
theorem alloc_old {w : World} {o p : Obj} {x : Nat} (h : w.heap[x]? = some p) : (w.alloc o).heap[x]? = some p := by rw [(below_alloc w o).block x (Array.getElem?_eq_some_iff.1 h).1]; exact h
theorem blk_cell {w : World} {g : Nat} {cur : Array Value} {t : TypeId} (h : w.heap[g]? = some (.cells cur t (0, 0))) (i : Nat) : w.cell? ⟨g, i, none⟩ = cur[i]? := cell_of_row w g i cur t (0, 0) h
theorem blk_soft {w : World} {g : Nat} {cur : Array Value} {t : TypeId} (h : w.heap[g]? = some (.cells cur t (0, 0))) (i : Nat) : w.frozen? ⟨g, i, none⟩ = false := by simp [World.frozen?, h]
theorem blk_lt {w : World} {g : Nat} {o : Obj} (h : w.heap[g]? = some o) : g < w.heap.size := (Array.getElem?_eq_some_iff.1 h).1
theorem blk_below {w w' : World} {g : Nat} {o : Obj} (h : w.heap[g]? = some o) (hb : Below w.heap.size w w') : w'.heap[g]? = some o := by rw [hb.block g (blk_lt h)]; exact h
theorem blk_ch {D : Nat → Prop} {w w' : World} {g : Nat} {o : Obj} (h : w.heap[g]? = some o) (hb : Ch D w w') (hd : ¬ D g) : w'.heap[g]? = some o := by rw [hb.block g (blk_lt h) hd]; exact h
theorem set_row {w : World} {g i : Nat} {u : Value} {cur : Array Value} {t : TypeId} (h : w.heap[g]? = some (.cells cur t (0, 0))) : (w.setCell ⟨g, i, none⟩ u).heap[g]? = some (.cells (cur.setIfInBounds i u) t (0, 0)) := by
  simp only [World.setCell, Array.getElem?_modify, h]
  simp
theorem set_other {w : World} {g i x : Nat} (u : Value) (hx : x ≠ g) : (w.setCell ⟨g, i, none⟩ u).heap[x]? = w.heap[x]? := Below.heap_setCell w _ _ x hx


/-- The tables' blocks lie below n. -/
def Gs (n : Nat) : Prop := 3 < n ∧ 7 < n ∧ 4 < n ∧ 5 < n ∧ 1 < n


theorem Tb.gs {w : World} (h : Tb w) : Gs w.heap.size := by
  obtain ⟨ts, ps, h1⟩ := h.es
  obtain ⟨tr, pr, h2⟩ := h.er
  refine ⟨?_, cell_lt h.deb, cell_lt h1, cell_lt h2, (let ⟨_, _, h3⟩ := h.fm; (Array.getElem?_eq_some_iff.1 h3).1)⟩
  exact cell_lt (h.pow.cell (show Tryz.prog.globalNamed "internal/strconv.uint64pow10" = some 3 by kernel_rfl) 0 (by decide))


theorem Tb.blocks {w w' : World} {n : Nat} (h : Tb w) (hg : Gs n) (hb : ∀ k, k < n → w'.heap[k]? = w.heap[k]?) : Tb w' := by
  obtain ⟨g1, g2, g3, g4, g5⟩ := hg
  obtain ⟨ts, ps, h1⟩ := h.es
  obtain ⟨tr, pr, h2⟩ := h.er
  have hc : ∀ (g i : Nat), g < n → w'.cell? ⟨g, i, none⟩ = w.cell? ⟨g, i, none⟩ := fun g i hg => by simp only [World.cell?, hb g hg]
  refine ⟨?_, by rw [hc _ _ g2]; exact h.deb, ⟨ts, ps, by rw [hc _ _ g3]; exact h1⟩, ⟨tr, pr, by rw [hc _ _ g4]; exact h2⟩, (let ⟨t, fr, h3⟩ := h.fm; ⟨t, fr, by rw [hb _ g5]; exact h3⟩)⟩
  have hp := h.pow
  have hn : Tryz.prog.globalNamed "internal/strconv.uint64pow10" = some 3 := by kernel_rfl
  simp only [Lib.TabIs, World.var?, hn, Option.bind_some] at hp ⊢
  rw [hb _ g1]
  exact hp


theorem bl_ne {a b : ByteArray} (h : a ≠ b) : (a.toList == b.toList) = false := by
  rw [ByteArray.toList_eq, ByteArray.toList_eq, beq_eq_false_iff_ne]
  exact fun e => h (ByteArray.ext (Array.toList_inj.mp e))


theorem run_bits (x : Nat) (w : World) : (callFunc 34 #[.float .f64 x]).run Tryz.prog w = .ok (.value (.int .u64 x)) w := by
  rw [run_callFunc_extern (e := Extern.MathFloatBits.float64bits) Tryz.func34 (by kernel_rfl) (by kernel_rfl) (by kernel_rfl) (by kernel_rfl)]
  rfl


theorem run_frombits (x : Int) (w : World) : (callFunc 64 #[.int .u64 x]).run Tryz.prog w = .ok (.value (.float .f64 x.toNat)) w := by
  rw [run_callFunc_extern (e := Extern.MathFloatBits.float64frombits) Tryz.func64 (by kernel_rfl) (by kernel_rfl) (by kernel_rfl) (by kernel_rfl)]
  rfl
end Go.Proofs.YtkiplcmndpdifaaGreatDoor


