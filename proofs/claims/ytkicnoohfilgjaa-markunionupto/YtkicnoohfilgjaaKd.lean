/- The reader of a mark's bytes in memory; contracts of refuse, number. -/
import Derived.Test.YtkicnoohfilgjaaKc

import Derived.Test.YtkicnoohfilgjaaWt

namespace Go.Proofs.Ytkicnoohfilgjaa

open Go.RowKit



/-- Nothing but the blocks of D has turned. -/
structure Ch (D : Nat → Prop) (w w' : World) : Prop where
  os : w'.os = w.os
  tape : w'.tape = w.tape
  output : w'.output = w.output
  size : w.heap.size ≤ w'.heap.size
  block : ∀ k, k < w.heap.size → ¬ D k → w'.heap[k]? = w.heap[k]?
theorem Ch.refl (D : Nat → Prop) (w : World) : Ch D w w := ⟨rfl, rfl, rfl, Nat.le_refl _, fun _ _ _ => rfl⟩
theorem Ch.trans {D E : Nat → Prop} {a b c : World} (h : Ch D a b) (k : Ch E b c) (he : ∀ x, E x → D x ∨ a.heap.size ≤ x) : Ch D a c :=
  ⟨k.os.trans h.os, k.tape.trans h.tape, k.output.trans h.output, Nat.le_trans h.size k.size, fun x hx hd => by
    rw [k.block x (Nat.lt_of_lt_of_le hx h.size) (fun e => by rcases he x e with q | q; exact hd q; omega), h.block x hx hd]⟩
theorem Ch.self {D : Nat → Prop} {a b c : World} (h : Ch D a b) (k : Ch D b c) : Ch D a c := h.trans k (fun _ hx => .inl hx)
theorem Ch.of_below {D : Nat → Prop} {w w' : World} (h : Below w.heap.size w w') : Ch D w w' := ⟨h.os, h.tape, h.output, h.size, fun k hk _ => h.block k hk⟩
theorem Ch.to_below {D : Nat → Prop} {w w' : World} {B : Nat} (h : Ch D w w') (hB : B ≤ w.heap.size) (hd : ∀ x, D x → B ≤ x) : Below B w w' := ⟨h.os, h.tape, h.output, h.size, fun k hk => h.block k (by omega) (fun e => by have := hd k e; omega)⟩
theorem Ch.of_grown {D : Nat → Prop} {w w' : World} {r : Option Nat} (h : w.grownBy w' r) (hr : ∀ x, r = some x → D x) : Ch D w w' := ⟨h.os, h.tape, h.output, h.size, fun k hk hd => h.block k hk (fun e => hd (hr k e.symm))⟩
theorem grown_setK (w : World) (g i : Nat) (u : Value) : w.grownBy (w.setCell ⟨g, i, none⟩ u) (some g) :=
  ⟨rfl, rfl, rfl, by simp [go_sem], fun k hk hne => by rw [Below.heap_setCell w _ _ k (by rintro rfl; exact hne rfl)]⟩
theorem ch_set (w : World) (g i : Nat) (u : Value) : Ch (fun x => x = g) w (w.setCell ⟨g, i, none⟩ u) := Ch.of_grown (grown_setK w g i u) (fun x hx => by cases hx; rfl)
theorem Ch.cell {D : Nat → Prop} {w w' : World} {p : Addr} {u : Value} (h : Ch D w w') (hp : w.cell? p = some u) (hd : ¬ D p.block) : w'.cell? p = some u := by
  have := h.block p.block (cell_lt hp) hd
  have e : w'.cell? p = w.cell? p := by simp only [World.cell?, this]
  rw [e, hp]


/-- A write over what is no byte leaves bytes as they are. -/
theorem Bv.set {w : World} {v : Value} {l : List Nat} (h : Bv w v l) {p : Addr} {u : Value} (hp : w.cell? p = some u) (hu : ∀ x, u ≠ .int .u8 x) (u' : Value) : Bv (w.setCell p u') v l := by
  obtain ⟨⟨ao, cap, e, h1, h2, h3, h4⟩, h5⟩ := h
  refine ⟨⟨ao, cap, e, h1, h2, h3, fun i hi => ?_⟩, h5⟩
  obtain ⟨b, off, e1, e2⟩ := h4 i hi
  refine ⟨b, off, e1, ?_⟩
  rw [World.cell?_setCell_other _ _ _ _ (by rintro rfl; rw [e2] at hp; exact hu _ (Option.some.inj hp).symm)]
  exact e2
/-- So does a turn of blocks that hold none of its cells. -/
theorem Bv.ch {D : Nat → Prop} {w w' : World} {v : Value} {l : List Nat} (h : Bv w v l) (hc : Ch D w w') (hd : ∀ x y j, D x → w.cell? ⟨x, j, none⟩ ≠ some (.int .u8 y)) : Bv w' v l := by
  obtain ⟨⟨ao, cap, e, h1, h2, h3, h4⟩, h5⟩ := h
  refine ⟨⟨ao, cap, e, h1, h2, h3, fun i hi => ?_⟩, h5⟩
  obtain ⟨b, off, e1, e2⟩ := h4 i hi
  exact ⟨b, off, e1, hc.cell e2 (fun hx => hd b _ _ hx e2)⟩


/-- A reader in memory: block R, the bytes left, the fault. -/
structure RD (M : Nat) (w : World) (R : Nat) (v : Value) (l : List Nat) (f : Nat) : Prop where
  c0 : w.cell? ⟨R, 0, none⟩ = some v
  c1 : w.cell? ⟨R, 1, none⟩ = some (.int .i64 f)
  z : ∀ j, w.frozen? ⟨R, j, none⟩ = false
  bv : Bv w v l
  m : ∀ x, v.ownBlock = some x → l ≠ [] → x < M


theorem own_cut0 {ao : Option Addr} {n c n' c' : Nat} : (Value.slice ao n c).ownBlock = (Value.slice ao n' c').ownBlock := by rcases ao with _ | ⟨b, o, _ | s⟩ <;> rfl
theorem own_cutm {ao : Option Addr} {k n c n' c' : Nat} : (Value.slice (ao.map fun a => a.add k) n c).ownBlock = (Value.slice ao n' c').ownBlock := by
  cases ao with
  | none => rfl
  | some a => simp only [Option.map_some, Value.ownBlock, Addr.add]; split <;> rfl
variable {M : Nat}

theorem bv_notu8 {w : World} {v : Value} {l : List Nat} (h : Bv w v l) : ∀ x, v ≠ .int .u8 x := by
  obtain ⟨⟨ao, cap, rfl, _⟩, _⟩ := h
  intro x e; cases e
theorem RD.set1 {w : World} {R : Nat} {v : Value} {l : List Nat} {f : Nat} (h : RD M w R v l f) (e : Nat) : RD M (w.setCell ⟨R, 1, none⟩ (.int .i64 e)) R v l e :=
  ⟨by rw [World.cell?_setCell_other _ _ _ _ (by rintro ⟨⟩)]; exact h.c0, by simp [go_sem, h.c1], fun j => by simpa [go_sem] using h.z j, h.bv.set h.c1 (by intro x e; cases e) _, h.m⟩
theorem RD.set0 {w : World} {R : Nat} {v v' : Value} {l l' : List Nat} {f : Nat} (h : RD M w R v l f) (hb : Bv w v' l') (hm : v'.ownBlock = v.ownBlock) (hl : ∃ k, l' = l.drop k := by exact ⟨_, rfl⟩) : RD M (w.setCell ⟨R, 0, none⟩ v') R v' l' f :=
  ⟨by simp [go_sem, h.c0], by rw [World.cell?_setCell_other _ _ _ _ (by rintro ⟨⟩)]; exact h.c1, fun j => by simpa [go_sem] using h.z j, hb.set h.c0 (bv_notu8 h.bv) _, fun x hx hne => h.m x (by rw [← hm]; exact hx) (fun e => hne (by obtain ⟨k, rfl⟩ := hl; rw [e]; simp))⟩
theorem RD.below {w w' : World} {R : Nat} {v : Value} {l : List Nat} {f : Nat} (h : RD M w R v l f) (hb : Below w.heap.size w w') : RD M w' R v l f := by
  have hR : R < w.heap.size := cell_lt h.c0
  exact ⟨by rw [hb.cell (p := ⟨R, 0, none⟩) hR]; exact h.c0, by rw [hb.cell (p := ⟨R, 1, none⟩) hR]; exact h.c1, fun j => by rw [hb.frozen (p := ⟨R, j, none⟩) hR]; exact h.z j, h.bv.below hb, h.m⟩


/-- A reader stays where nothing of its own turns. -/
theorem RD.ch {D : Nat → Prop} {w w' : World} {R : Nat} {v : Value} {l : List Nat} {f : Nat} (h : RD M w R v l f) (hc : Ch D w w') (hd : ¬ D R) (hM : ∀ x, D x → M ≤ x) : RD M w' R v l f := by
  have hz : ∀ j, w'.frozen? ⟨R, j, none⟩ = w.frozen? ⟨R, j, none⟩ := fun j => by
    have := hc.block R (cell_lt h.c0) hd
    simp only [World.frozen?, this]
  refine ⟨hc.cell h.c0 hd, hc.cell h.c1 hd, fun j => by rw [hz j]; exact h.z j, ?_, h.m⟩
  obtain ⟨⟨ao, cap, e, h1, h2, h3, h4⟩, h5⟩ := h.bv
  refine ⟨⟨ao, cap, e, h1, h2, h3, fun i hi => ?_⟩, h5⟩
  obtain ⟨b, off, e1, e2⟩ := h4 i hi
  have hb : b < M := h.m b (by rw [e, e1]; rfl) (fun e0 => by simp [e0, ib] at hi)
  exact ⟨b, off, e1, hc.cell e2 (fun hx => by have := hM b hx; omega)⟩


def refu (g : Bool) (e f : Nat) : Nat := if g = true ∧ f = 0 then e else f
theorem refu_no (e f : Nat) : refu false e f = f := by simp [refu]
theorem refu_yes (e : Nat) : refu true e 0 = e := by simp [refu]
theorem refu_old {g : Bool} {e f : Nat} (h : f ≠ 0) : refu g e f = f := by simp [refu, h]


theorem refuse_walk {w : World} {R : Nat} {v : Value} {l : List Nat} {f : Nat} (h : RD M w R v l f) (g : Bool) (e : Nat) :
    Calls Try.prog 24 #[.pointer (some ⟨R, 0, none⟩), .bool g, .int .i64 e] w fun en w' => en = .returned (.tuple #[]) ∧ RD M w' R v l (refu g e f) ∧ Ch (fun x => x = R) w w' := by
  have HR : Hid (RD M w R v l f) := h
  have c1 := h.c1
  have z1 := h.z 1
  clear h
  cases g
  · rw [refu_no]
    go_enter Try.func24, Try.ntmps24
    go_wp2_with fail
    refine bodyPost_end (results_none rfl _ _ _) rfl ?_
    exact ⟨rfl, HR.out, Ch.refl _ _⟩
  · by_cases hf : f = 0
    · subst hf
      rw [refu_yes]
      go_enter Try.func24, Try.ntmps24
      go_wp2_with fail
      refine bodyPost_end (results_none rfl _ _ _) rfl ?_
      exact ⟨rfl, HR.out.set1 e, ch_set _ _ _ _⟩
    · rw [refu_old hf]
      have hfi : ((f : Int) == 0) = false := by rw [beq_eq_false_iff_ne]; omega
      go_enter Try.func24, Try.ntmps24
      go_wp2_with fail
      refine bodyPost_end (results_none rfl _ _ _) rfl ?_
      exact ⟨rfl, HR.out, Ch.refl _ _⟩


theorem cut_any {w : World} {v : Value} {l : List Nat} {ao : Option Addr} {cap : Nat} (h : Bv w v l) (hv : v = .slice ao l.length cap) (n : Nat) (hn : n ≤ l.length) (hc : ¬ cap = n) : Bv w (.slice (ao.map fun a => a.add n) (l.length - n) (cap - n)) (l.drop n) := by
  subst hv
  have := h.cut n l.length hn (Nat.le_refl _) False (by simp [hc])
  rw [List.take_of_length_le (by rw [List.length_drop]; omega)] at this
  simpa using this
theorem cut_end {w : World} {ao : Option Addr} {l : List Nat} {p : Nat} (hp : l.length ≤ p) : Bv w (.slice ao 0 0) (l.drop p) := by
  rw [List.drop_eq_nil_of_le hp]
  exact ⟨⟨ao, 0, rfl, Nat.le_refl _, by simp [maxLen], fun _ => rfl, fun i hi => by simp [ib] at hi⟩, by simp⟩
theorem bv_le {w : World} {ao : Option Addr} {n cap : Nat} {l : List Nat} (h : Bv w (.slice ao n cap) l) : n = l.length ∧ l.length ≤ cap ∧ cap ≤ maxLen := by
  obtain ⟨⟨ao', cap', e, h1, h2, _⟩, _⟩ := h
  rw [ib_len] at e h1
  cases e
  exact ⟨rfl, h1, h2⟩
theorem t3_litB {r : Nat × Nat × Nat} {a b c : Nat} (h : r = (a, b, c)) : t3 r = .tuple #[.int .u64 a, .int .i64 b, .int .i64 c] := by subst h; rfl


def numF (l : List Nat) (f : Nat) : Nat := refu (decide ((Wm.take l).2.2 ≠ 0)) (Wm.take l).2.2 f
def numL (l : List Nat) : List Nat := l.drop (Wm.take l).2.1


set_option maxHeartbeats 1000000 in
theorem number_walk {w : World} {R : Nat} {v : Value} {l : List Nat} {f : Nat} (h : RD M w R v l f) :
    Calls Try.prog 37 #[.pointer (some ⟨R, 0, none⟩)] w fun e w' => e = .returned (.int .u64 ((Wm.take l).1 : Nat)) ∧ (∃ v', RD M w' R v' (numL l) (numF l f)) ∧ Ch (fun x => x = R) w w' := by
  have HR : Hid (RD M w R v l f) := h
  obtain ⟨ao, n, cap, hv⟩ : ∃ a n q, v = .slice a n q := by
    obtain ⟨⟨ao, cap, e, _⟩, _⟩ := h.bv
    exact ⟨ao, _, cap, e⟩
  subst hv
  obtain ⟨hn, hle, hmx⟩ := bv_le h.bv
  subst hn
  have c0 := h.c0
  have HLE : Hid (l.length ≤ cap) := hle
  unfold maxLen at hmx
  have hci : (cap : Int) ≤ 9223372036854775807 := by omega
  have hli : (l.length : Int) ≤ (cap : Int) := by omega
  have hT := Wm.take_form l h.bv.2
  clear h hle hmx
  rcases hT with ⟨e, ht, h34⟩ | ⟨x, n, ht, hx, hn1, hn2, hn3⟩
  · have e1 : (Wm.take l).1 = 0 := by rw [ht]
    have e2 : numL l = l.drop 0 := by unfold numL; rw [ht]
    have e3 : numF l f = refu true e f := by unfold numF; rw [ht]; have : e ≠ 0 := by omega
                                             simp [this]
    have HT : Hid (Wm.take l = (0, 0, e)) := ht
    rw [e1, e2, e3]
    have hne : ((e : Int) != 0) = true := by rw [bne_iff_ne]; omega
    clear e1 e2 e3 ht h34
    go_enter Try.func37, Try.ntmps37
    go_wp2_with fail
    refine (take_walk HR.out.bv).mono ?_
    rw [t3_litB HT.out]
    rintro e9 w9 ⟨rfl, rfl⟩
    go_wp2_with fail
    refine (refuse_walk HR.out true e).mono ?_
    rintro e9 w2 ⟨rfl, hR2, hC2⟩
    have HR2 : Hid (RD M w2 R (.slice ao l.length cap) l (refu true e f)) := hR2
    have HC2 : Hid (Ch (fun x => x = R) w9 w2) := hC2
    have d0 := hR2.c0
    have z0 := hR2.z 0
    clear hR2 hC2 c0
    by_cases hc0 : cap = 0
    · have hl0 : l.length = 0 := by have := HLE.out; omega
      have HL0 : Hid (l.length ≤ 0) := by show _ ≤ _; omega
      subst hc0
      rw [hl0] at d0 ⊢
      go_wp2_with fail
      go_ret
      exact ⟨rfl, ⟨_, HR2.out.set0 (cut_end HL0.out) (own_cut0)⟩, HC2.out.self (ch_set _ _ _ _)⟩
    · go_wp2_with fail
      go_ret
      have hz : Bv w2 (.slice (ao.map fun a => a.add 0) l.length cap) (l.drop 0) := by simpa using cut_any HR2.out.bv rfl 0 (Nat.zero_le _) hc0
      first
        | exact ⟨rfl, ⟨_, HR2.out.set0 hz own_cutm⟩, HC2.out.self (ch_set _ _ _ _)⟩
        | exact ⟨rfl, ⟨_, HR2.out.set0 (v' := .slice ao l.length cap) (by simpa using HR2.out.bv) own_cut0⟩, HC2.out.self (ch_set _ _ _ _)⟩
  · have e1 : (Wm.take l).1 = x := by rw [ht]
    have e2 : numL l = l.drop n := by unfold numL; rw [ht]
    have e3 : numF l f = refu false 0 f := by unfold numF; rw [ht]; rfl
    have HT : Hid (Wm.take l = (x, n, 0)) := ht
    rw [e1, e2, e3]
    have HN : Hid (n ≤ l.length) := hn2
    have hni : (n : Int) ≤ (l.length : Int) := by omega
    have hnc : (n : Int) ≤ (cap : Int) := by omega
    clear e1 e2 e3 ht hn3 hn1 hn2
    go_enter Try.func37, Try.ntmps37
    go_wp2_with fail
    refine (take_walk HR.out.bv).mono ?_
    rw [t3_litB HT.out]
    rintro e9 w9 ⟨rfl, rfl⟩
    go_wp2_with fail
    refine (refuse_walk HR.out false 0).mono ?_
    rintro e9 w2 ⟨rfl, hR2, hC2⟩
    have HR2 : Hid (RD M w2 R (.slice ao l.length cap) l (refu false 0 f)) := hR2
    have HC2 : Hid (Ch (fun x => x = R) w9 w2) := hC2
    have d0 := hR2.c0
    have z0 := hR2.z 0
    clear hR2 hC2 c0
    by_cases hcp : cap = n
    · have hlp : l.length = n := by have := HLE.out; have := HN.out; omega
      have HLP : Hid (l.length ≤ n) := by show _ ≤ _; omega
      subst hcp
      go_wp2_with fail
      go_ret
      exact ⟨rfl, ⟨_, HR2.out.set0 (cut_end HLP.out) own_cut0⟩, HC2.out.self (ch_set _ _ _ _)⟩
    · go_wp2_with fail
      go_ret
      exact ⟨rfl, ⟨_, HR2.out.set0 (cut_any HR2.out.bv rfl n HN.out hcp) own_cutm⟩, HC2.out.self (ch_set _ _ _ _)⟩
theorem RD.setB {w : World} {R B j : Nat} {v u : Value} {l : List Nat} {f : Nat} (h : RD M w R v l f) (hne : B ≠ R) (hp : w.cell? ⟨B, j, none⟩ = some u) (hu : ∀ x, u ≠ .int .u8 x) (u' : Value) : RD M (w.setCell ⟨B, j, none⟩ u') R v l f :=
  ⟨by rw [World.cell?_setCell_other _ _ _ _ (by rintro ⟨⟩; exact hne rfl)]; exact h.c0, by rw [World.cell?_setCell_other _ _ _ _ (by rintro ⟨⟩; exact hne rfl)]; exact h.c1, fun k => by simpa [go_sem] using h.z k, h.bv.set hp hu _, h.m⟩
end Go.Proofs.Ytkicnoohfilgjaa


