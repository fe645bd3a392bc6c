/- A script of messages, records, switches in memory; a plan and a script among the arguments, opened. -/
import Derived.Test.YtombjgfajbhbbaaGreatB47
import Derived.Deep.Strs
set_option maxRecDepth 100000
set_option maxHeartbeats 16000000
namespace Go.Proofs.YtombjgfajbhbbaaGreat
open Go.RowKit
section
open Go.ChangeShapes Go.WideShapes Go.ChangeAt Go.RowKit

structure Ow17 where
 k : Int
 p : Int
 f : Bool
 r : Rcd
 m : Ms
 e : Value
 q : Value
 v : Value
def cellsW (x : Ow17) : List Value := [.int .i64 x.k, .int .i64 x.p, .bool x.f, .int .u64 x.r.k, .float .f64 x.r.x, .int .i64 x.m.K, .int .i64 x.m.F, .int .i64 x.m.T, .int .i64 x.m.B, .int .i64 x.m.A, .int .i64 x.m.C, x.e, x.q, x.v]
structure Ow17.ok (x : Ow17) : Prop where
 k : in64 x.k
 p : in64 x.p
 r : x.r.ok
 m : x.m.ok
structure Sw (w : World) (v : Value) (l : List Ow17) : Prop where
 form : ∃ ao cap, v = .slice ao l.length cap ∧ l.length ≤ maxLen ∧ ∀ i, (h : i < l.length) → ∃ b off, ao = some ⟨b, off, none⟩ ∧ ∀ j u, (cellsW l[i])[j]? = some u → w.cell? ⟨b, off + i * 14 + j, none⟩ = some u
 ml : ∀ x ∈ l, ML w x.m x.e x.q x.v
 ok : ∀ x ∈ l, x.ok
theorem sw_at {w : World} {ao : Option Addr} {n cap : Nat} {l : List Ow17} (h : Sw w (.slice ao n cap) l) {i : Nat} (hi : i < l.length) : ∃ b off, ao = some ⟨b, off, none⟩ ∧ ∀ j u, (cellsW l[i])[j]? = some u → w.cell? ⟨b, off + i * 14 + j, none⟩ = some u := by
 obtain ⟨ao', cap', e, _, h4⟩ := h.form;simp only [Value.slice.injEq] at e;obtain ⟨b, off, e1, e2⟩ := h4 i hi;exact ⟨b, off, by rw [e.1, e1], e2⟩
theorem open_sv_raw {H : Type} {enc : TypeId × Value → H} {W : World} {v : Value} {d : DataW H} {p : List MemPlace} {t e : TypeId} {k : IntKind} {fuel : Nat} (ht : Tryz.prog.underlying t = some (.slice e)) (he : Tryz.prog.underlying e = some (.int k))
  (hc : Tryz.prog.cellsOf e = 1) (hf : DataW.trod enc Tryz.prog W 0 (fun _ => true) true fuel t [v] = some (d, p)) :
  ∃ l : List Int, Sv k W v l ∧ (∀ x ∈ l, (Lit.int k x).wf = true) ∧ ((d = .nil ∧ l = []) ∨ ∃ elems spare, d = .slice elems spare ∧ elems.length = l.length) := by
 rcases Go.Deep.open_slice1 ht hc hf with ⟨hcs, hx⟩ | ⟨a, len, cap, m, n, V, D, Pl, hcs, _, hl, hm, hmm, hx, hel⟩
 ·simp only [List.cons.injEq, and_true] at hcs;subst hcs;simp only [Prod.mk.injEq] at hx;exact ⟨[], Sv.nil k W, by simp, .inl ⟨hx.1, rfl⟩⟩
 ·simp only [List.cons.injEq, and_true] at hcs;subst hcs;simp only [if_true] at hmm;simp only [Prod.mk.injEq] at hx
  have each : ∀ i, ∃ x, i < len → W.cell? (a.add i) = some (.int k x) ∧ (Lit.int k x).wf = true := by
   intro i;by_cases hi : i < len
   ·obtain ⟨h1, h2⟩ := hel i (by omega)
    cases n with
    | zero => simp [DataW.trod] at h2
    | succ n =>
     rw [h1];simp only [DataW.trod, he] at h2;generalize V i = v at *
     cases v <;> simp at h2
     rename_i k' x
     obtain ⟨⟨rfl, hw⟩, _⟩ := h2;exact ⟨x, fun _ => ⟨rfl, hw⟩⟩
   ·exact ⟨0, fun h => absurd h hi⟩
  obtain ⟨X, hX⟩ : ∃ X : Nat → Int, ∀ i, i < len → W.cell? (a.add i) = some (.int k (X i)) ∧ (Lit.int k (X i)).wf = true := ⟨fun i => (each i).choose, fun i => (each i).choose_spec⟩;clear each hel;refine ⟨(List.range len).map X, ⟨some a, cap, by simp, by simpa using hl, hm, by simp, ?_⟩, ?_, .inr ⟨_, _, hx.1, by simp⟩⟩
  ·intro i hi;simp at hi;have h0 := (hX 0 (by omega)).1;obtain ⟨h1, h2⟩ := hX i hi;obtain ⟨b, off, spot⟩ := a;have hs1 : spot = none := by simpa [Addr.add] using World.cell?_spot h0
   subst hs1;refine ⟨b, off, rfl, ?_⟩;rw [WideShapes.add_plain] at h1;rw [h1];simp [List.getD, hi]
  ·intro x hx;simp only [List.mem_map, List.mem_range] at hx;obtain ⟨i, hi, rfl⟩ := hx;exact (hX i hi).2
def Szd {H : Type} {α : Type} (d : DataW H) (l : List α) : Prop := (d = .nil ∧ l = []) ∨ ∃ elems spare, d = .slice elems spare ∧ elems.length = l.length
theorem core_ov {H : Type} {enc : TypeId × Value → H} {W : World} {cs : List Value} {fuel : Nat} {y : DataW H × List MemPlace} (hf : DataW.trod enc Tryz.prog W 0 (fun _ => true) true fuel 22 cs = some y) :
  ∃ (v : Value) (l : List Stp), cs = [v] ∧ Ov W v l ∧ ((y.1 = .nil ∧ l = []) ∨ ∃ elems spare, y.1 = .slice elems spare ∧ elems.length = l.length) := by
 rcases Go.Deep.open_slice Tryz.underlying22 hf with ⟨hcs, hx⟩ | ⟨a, len, cap, m, n, D, Pl, hcs, _, hl, hm, hmm, hx, hel⟩
 ·subst hcs;exact ⟨_, [], rfl, ⟨⟨none, 0, rfl, by simp, by simp [maxLen], by simp, fun i hi => by simp at hi⟩, by simp⟩, .inl ⟨by rw [hx], rfl⟩⟩
 ·subst hcs;simp only [if_true] at hmm
  have each : ∀ i, ∃ o : Stp, i < len → (W.cell? (a.add (i * 3)) = some (.int .i64 o.K) ∧ W.cell? (a.add (i * 3 + 1)) = some (.int .i64 o.N) ∧ W.cell? (a.add (i * 3 + 2)) = some (.float .f64 o.X)) ∧ o.ok := by
   intro i;by_cases hi : i < len
   ·obtain ⟨cs', h1, h2⟩ := hel i (by omega);rw [cells_op] at h1;obtain ⟨_, hlen, hcell⟩ := World.cells?_some h1;obtain ⟨o, rfl, hok⟩ := cells_of_op hlen h2;have e0 := hcell 0 (by omega);have e1 := hcell 1 (by omega);have e2 := hcell 2 (by omega);rw [Go.Deep.add_add] at e0 e1 e2;exact ⟨o, fun _ => ⟨⟨by simpa using e0, by simpa using e1, by simpa using e2⟩, hok⟩⟩
   ·exact ⟨⟨0, 0, 0⟩, fun h => absurd h hi⟩
  obtain ⟨X, hX⟩ : ∃ X : Nat → Stp, ∀ i, i < len → (W.cell? (a.add (i * 3)) = some (.int .i64 (X i).K) ∧ W.cell? (a.add (i * 3 + 1)) = some (.int .i64 (X i).N) ∧ W.cell? (a.add (i * 3 + 2)) = some (.float .f64 (X i).X)) ∧ (X i).ok := ⟨fun i => (each i).choose, fun i => (each i).choose_spec⟩;clear each hel;refine ⟨_, (List.range len).map X, rfl, ⟨⟨some a, cap, by simp, by simpa using hl, hm, by simp, ?_⟩, ?_⟩, .inr ⟨_, _, by rw [hx], by simp⟩⟩
  ·intro i hi;simp at hi;obtain ⟨⟨h0, _, _⟩, _⟩ := hX 0 (by omega);obtain ⟨⟨g0, g1, g2⟩, _⟩ := hX i hi;obtain ⟨b, off, spot⟩ := a;have hs1 : spot = none := by simpa [Addr.add] using World.cell?_spot h0
   subst hs1;rw [WideShapes.add_plain] at g0 g1 g2;exact ⟨b, off, rfl, by simpa using g0, by simpa [Nat.add_assoc] using g1, by simpa [Nat.add_assoc] using g2⟩
  ·intro o ho;simp only [List.mem_map, List.mem_range] at ho;obtain ⟨i, hi, rfl⟩ := ho;exact (hX i hi).2
theorem cells_plan : Tryz.prog.cellsOf 24 = 8 := by kernel_rfl
theorem cells_ops : Tryz.prog.cellsOf 22 = 1 := by kernel_rfl
theorem trod_struct8 {H : Type} {enc : TypeId × Value → H} {P : Program} {w : World} {base : Nat} {spare : Nat → Bool} {held : Bool} {t : TypeId} {f0 f1 f2 f3 f4 f5 f6 f7 : Field} {fuel : Nat} {cs : List Value} {x : DataW H × List MemPlace} (ht : P.underlying t = some (.struct #[f0, f1, f2, f3, f4, f5, f6, f7])) (h : DataW.trod enc P w base spare held fuel t cs = some x) :
  ∃ y0 y1 y2 y3 y4 y5 y6 y7 n, DataW.trod enc P w base spare held n f0.type ((cs.drop f0.offset).take (P.cellsOf f0.type)) = some y0 ∧
   DataW.trod enc P w base spare held n f1.type ((cs.drop f1.offset).take (P.cellsOf f1.type)) = some y1 ∧
   DataW.trod enc P w base spare held n f2.type ((cs.drop f2.offset).take (P.cellsOf f2.type)) = some y2 ∧
   DataW.trod enc P w base spare held n f3.type ((cs.drop f3.offset).take (P.cellsOf f3.type)) = some y3 ∧
   DataW.trod enc P w base spare held n f4.type ((cs.drop f4.offset).take (P.cellsOf f4.type)) = some y4 ∧
   DataW.trod enc P w base spare held n f5.type ((cs.drop f5.offset).take (P.cellsOf f5.type)) = some y5 ∧
   DataW.trod enc P w base spare held n f6.type ((cs.drop f6.offset).take (P.cellsOf f6.type)) = some y6 ∧
   DataW.trod enc P w base spare held n f7.type ((cs.drop f7.offset).take (P.cellsOf f7.type)) = some y7 := by
 obtain ⟨xs, n, _, _, _, hlen, hf⟩ := DataW.trod_struct ht h
 match xs, hlen with
 | [y0, y1, y2, y3, y4, y5, y6, y7], _ => exact ⟨y0, y1, y2, y3, y4, y5, y6, y7, n, by simpa using hf 0 f0 rfl, by simpa using hf 1 f1 rfl, by simpa using hf 2 f2 rfl, by simpa using hf 3 f3 rfl, by simpa using hf 4 f4 rfl, by simpa using hf 5 f5 rfl, by simpa using hf 6 f6 rfl, by simpa using hf 7 f7 rfl⟩
theorem cells_ints : Tryz.prog.cellsOf 44 = 1 := by kernel_rfl
theorem cells_keys : Tryz.prog.cellsOf 45 = 1 := by kernel_rfl
theorem cells_pairs : Tryz.prog.cellsOf 46 = 1 := by kernel_rfl
theorem cells_pair : Tryz.prog.cellsOf 66 = 3 := by kernel_rfl
theorem cells_msg : Tryz.prog.cellsOf 48 = 9 := by kernel_rfl
theorem cells_boolF : Tryz.prog.cellsOf 4 = 1 := by kernel_rfl
section

variable {H : Type} {enc : TypeId × Value → H} {W : World} {base : Nat} {sp : Nat → Bool} {held : Bool}

theorem cell_bool {n : Nat} {v : Value} {x : DataW H × List MemPlace} (h : DataW.trod enc Tryz.prog W base sp held n 4 [v] = some x) : ∃ b : Bool, v = .bool b := by
 cases n with
 | zero => simp [DataW.trod] at h
 | succ n =>
  simp only [DataW.trod, Tryz.underlying4] at h
  cases v <;> simp at h
  exact ⟨_, rfl⟩
theorem cells_of_value {n : Nat} {cs : List Value} {x : DataW H × List MemPlace} (hl : cs.length = 2) (h : DataW.trod enc Tryz.prog W base sp held n 64 cs = some x) :
  ∃ v : Vl, cs = [.bool v.h, .int .u64 v.b] ∧ v.ok := by
 obtain ⟨y0, y1, m, _, _, h0, h1⟩ := trod_struct2 Tryz.underlying64 h
 match cs, hl with
 | [a, b], _ =>
  simp only [cells_boolF, cells_u64, List.drop_zero, List.drop_succ_cons, List.take_succ_cons, List.take_zero] at h0 h1;obtain ⟨g, rfl⟩ := cell_bool h0;obtain ⟨u, rfl, hu⟩ := cell_u64 h1;exact ⟨⟨g, u⟩, rfl, hu⟩
theorem cells_of_pair {n : Nat} {cs : List Value} {x : DataW H × List MemPlace} (hl : cs.length = 3) (h : DataW.trod enc Tryz.prog W base sp held n 66 cs = some x) :
  ∃ p : Pr, cs = [.int .u64 p.k, .bool p.v.h, .int .u64 p.v.b] ∧ p.ok := by
 obtain ⟨y0, y1, m, _, _, h0, h1⟩ := trod_struct2 Tryz.underlying66 h
 match cs, hl with
 | [a, b, c], _ =>
  simp only [cells_u64, cells_value, List.drop_zero, List.drop_succ_cons, List.take_succ_cons, List.take_zero] at h0 h1;obtain ⟨k, rfl, hk⟩ := cell_u64 h0;obtain ⟨v, hv, ho⟩ := cells_of_value rfl h1;simp only [List.cons.injEq, and_true] at hv;obtain ⟨rfl, rfl⟩ := hv;exact ⟨⟨k, v⟩, rfl, hk, ho⟩
end

theorem core_kv {H : Type} {enc : TypeId × Value → H} {W : World} {cs : List Value} {fuel : Nat} {y : DataW H × List MemPlace} (hf : DataW.trod enc Tryz.prog W 0 (fun _ => true) true fuel 45 cs = some y) :
  ∃ (v : Value) (l : List Nat), cs = [v] ∧ (Kv W v l ∧ keysOk l) ∧ Szd y.1 l := by
 rcases Go.Deep.open_slice Tryz.underlying45 hf with ⟨hcs, hx⟩ | ⟨a, len, cap, m, n, D, Pl, hcs, _, hl, hm, hmm, hx, hel⟩
 ·subst hcs;exact ⟨_, [], rfl, ⟨⟨none, 0, rfl, Nat.le_refl _, by simp, by simp, fun i hi => absurd hi (by simp [ib])⟩, by intro x hx; simp at hx⟩, .inl ⟨by rw [hx], rfl⟩⟩
 ·subst hcs;simp only [if_true] at hmm
  have each : ∀ i, ∃ x : Nat, i < len → W.cell? (a.add i) = some (.int .u64 x) ∧ x < 18446744073709551616 := by
   intro i;by_cases hi : i < len
   ·obtain ⟨cs', h1, h2⟩ := hel i (by omega);rw [cells_u64] at h1;obtain ⟨_, hlen, hcell⟩ := World.cells?_some h1
    match cs', hlen with
    | [c], _ =>
     obtain ⟨x, rfl, hx⟩ := cell_u64 h2;have e0 := hcell 0 (by omega);rw [Go.Deep.add_add] at e0;exact ⟨x, fun _ => ⟨by simpa using e0, hx⟩⟩
   ·exact ⟨0, fun h => absurd h hi⟩
  obtain ⟨X, hX⟩ : ∃ X : Nat → Nat, ∀ i, i < len → W.cell? (a.add i) = some (.int .u64 (X i)) ∧ X i < 18446744073709551616 := ⟨fun i => (each i).choose, fun i => (each i).choose_spec⟩;clear each hel;refine ⟨_, (List.range len).map X, rfl, ⟨⟨some a, cap, by simp [ib], by simpa [ib] using hl, hm, by simp, ?_⟩, ?_⟩, .inr ⟨_, _, by rw [hx], by simp⟩⟩
  ·intro i hi;have hil : i < len := by simpa [ib] using hi
   obtain ⟨h0, _⟩ := hX 0 (by omega);obtain ⟨g0, _⟩ := hX i hil;obtain ⟨b, off, spot⟩ := a;have hs1 : spot = none := by simpa [Addr.add] using World.cell?_spot h0
   subst hs1;rw [WideShapes.add_plain] at g0;exact ⟨b, off, rfl, by rw [g0]; simp [ib, List.getElem?_range hil]⟩
  ·intro x hx;simp only [List.mem_map, List.mem_range] at hx;obtain ⟨i, hi, rfl⟩ := hx;exact (hX i hi).2
theorem core_qv {H : Type} {enc : TypeId × Value → H} {W : World} {cs : List Value} {fuel : Nat} {y : DataW H × List MemPlace} (hf : DataW.trod enc Tryz.prog W 0 (fun _ => true) true fuel 46 cs = some y) :
  ∃ (v : Value) (l : List Pr), cs = [v] ∧ Qv W v l ∧ ((y.1 = .nil ∧ l = []) ∨ ∃ elems spare, y.1 = .slice elems spare ∧ elems.length = l.length) := by
 rcases Go.Deep.open_slice Tryz.underlying46 hf with ⟨hcs, hx⟩ | ⟨a, len, cap, m, n, D, Pl, hcs, _, hl, hm, hmm, hx, hel⟩
 ·subst hcs;exact ⟨_, [], rfl, ⟨⟨none, 0, rfl, by simp, by simp [maxLen], by simp, fun i hi => by simp at hi⟩, by simp⟩, .inl ⟨by rw [hx], rfl⟩⟩
 ·subst hcs;simp only [if_true] at hmm
  have each : ∀ i, ∃ o : Pr, i < len → (W.cell? (a.add (i * 3)) = some (.int .u64 o.k) ∧ W.cell? (a.add (i * 3 + 1)) = some (.bool o.v.h) ∧ W.cell? (a.add (i * 3 + 2)) = some (.int .u64 o.v.b)) ∧ o.ok := by
   intro i;by_cases hi : i < len
   ·obtain ⟨cs', h1, h2⟩ := hel i (by omega);rw [cells_pair] at h1;obtain ⟨_, hlen, hcell⟩ := World.cells?_some h1;obtain ⟨o, rfl, hok⟩ := cells_of_pair hlen h2;have e0 := hcell 0 (by omega);have e1 := hcell 1 (by omega);have e2 := hcell 2 (by omega);rw [Go.Deep.add_add] at e0 e1 e2;exact ⟨o, fun _ => ⟨⟨by simpa using e0, by simpa using e1, by simpa using e2⟩, hok⟩⟩
   ·exact ⟨⟨0, ⟨false, 0⟩⟩, fun h => absurd h hi⟩
  obtain ⟨X, hX⟩ : ∃ X : Nat → Pr, ∀ i, i < len → (W.cell? (a.add (i * 3)) = some (.int .u64 (X i).k) ∧ W.cell? (a.add (i * 3 + 1)) = some (.bool (X i).v.h) ∧ W.cell? (a.add (i * 3 + 2)) = some (.int .u64 (X i).v.b)) ∧ (X i).ok := ⟨fun i => (each i).choose, fun i => (each i).choose_spec⟩;clear each hel;refine ⟨_, (List.range len).map X, rfl, ⟨⟨some a, cap, by simp, by simpa using hl, hm, by simp, ?_⟩, ?_⟩, .inr ⟨_, _, by rw [hx], by simp⟩⟩
  ·intro i hi;simp at hi;obtain ⟨⟨h0, _, _⟩, _⟩ := hX 0 (by omega);obtain ⟨⟨g0, g1, g2⟩, _⟩ := hX i hi;obtain ⟨b, off, spot⟩ := a;have hs1 : spot = none := by simpa [Addr.add] using World.cell?_spot h0
   subst hs1;rw [WideShapes.add_plain] at g0 g1 g2;exact ⟨b, off, rfl, by simpa using g0, by simpa [Nat.add_assoc] using g1, by simpa [Nat.add_assoc] using g2⟩
  ·intro o ho;simp only [List.mem_map, List.mem_range] at ho;obtain ⟨i, hi, rfl⟩ := ho;exact (hX i hi).2
theorem trod_struct9 {H : Type} {enc : TypeId × Value → H} {P : Program} {w : World} {base : Nat} {spare : Nat → Bool} {held : Bool} {t : TypeId} {f0 f1 f2 f3 f4 f5 f6 f7 f8 : Field} {fuel : Nat} {cs : List Value} {x : DataW H × List MemPlace} (ht : P.underlying t = some (.struct #[f0, f1, f2, f3, f4, f5, f6, f7, f8])) (h : DataW.trod enc P w base spare held fuel t cs = some x) :
  ∃ y0 y1 y2 y3 y4 y5 y6 y7 y8 n, x.1 = .agg [y0.1, y1.1, y2.1, y3.1, y4.1, y5.1, y6.1, y7.1, y8.1] ∧ DataW.trod enc P w base spare held n f0.type ((cs.drop f0.offset).take (P.cellsOf f0.type)) = some y0 ∧
   DataW.trod enc P w base spare held n f1.type ((cs.drop f1.offset).take (P.cellsOf f1.type)) = some y1 ∧
   DataW.trod enc P w base spare held n f2.type ((cs.drop f2.offset).take (P.cellsOf f2.type)) = some y2 ∧
   DataW.trod enc P w base spare held n f3.type ((cs.drop f3.offset).take (P.cellsOf f3.type)) = some y3 ∧
   DataW.trod enc P w base spare held n f4.type ((cs.drop f4.offset).take (P.cellsOf f4.type)) = some y4 ∧
   DataW.trod enc P w base spare held n f5.type ((cs.drop f5.offset).take (P.cellsOf f5.type)) = some y5 ∧
   DataW.trod enc P w base spare held n f6.type ((cs.drop f6.offset).take (P.cellsOf f6.type)) = some y6 ∧
   DataW.trod enc P w base spare held n f7.type ((cs.drop f7.offset).take (P.cellsOf f7.type)) = some y7 ∧
   DataW.trod enc P w base spare held n f8.type ((cs.drop f8.offset).take (P.cellsOf f8.type)) = some y8 := by
 obtain ⟨xs, n, _, hx, _, hlen, hf⟩ := DataW.trod_struct ht h
 match xs, hlen with
 | [y0, y1, y2, y3, y4, y5, y6, y7, y8], _ => exact ⟨y0, y1, y2, y3, y4, y5, y6, y7, y8, n, by rw [hx]; simp, by simpa using hf 0 f0 rfl, by simpa using hf 1 f1 rfl, by simpa using hf 2 f2 rfl, by simpa using hf 3 f3 rfl, by simpa using hf 4 f4 rfl, by simpa using hf 5 f5 rfl, by simpa using hf 6 f6 rfl, by simpa using hf 7 f7 rfl, by simpa using hf 8 f8 rfl⟩
theorem trod_struct5 {H : Type} {enc : TypeId × Value → H} {P : Program} {w : World} {base : Nat} {spare : Nat → Bool} {held : Bool} {t : TypeId} {f0 f1 f2 f3 f4 : Field} {fuel : Nat} {cs : List Value} {x : DataW H × List MemPlace} (ht : P.underlying t = some (.struct #[f0, f1, f2, f3, f4])) (h : DataW.trod enc P w base spare held fuel t cs = some x) :
  ∃ y0 y1 y2 y3 y4 n, DataW.trod enc P w base spare held n f0.type ((cs.drop f0.offset).take (P.cellsOf f0.type)) = some y0 ∧
   DataW.trod enc P w base spare held n f1.type ((cs.drop f1.offset).take (P.cellsOf f1.type)) = some y1 ∧ DataW.trod enc P w base spare held n f2.type ((cs.drop f2.offset).take (P.cellsOf f2.type)) = some y2 ∧
   DataW.trod enc P w base spare held n f3.type ((cs.drop f3.offset).take (P.cellsOf f3.type)) = some y3 ∧ DataW.trod enc P w base spare held n f4.type ((cs.drop f4.offset).take (P.cellsOf f4.type)) = some y4 := by
 obtain ⟨xs, n, _, _, _, hlen, hf⟩ := DataW.trod_struct ht h
 match xs, hlen with
 | [y0, y1, y2, y3, y4], _ => exact ⟨y0, y1, y2, y3, y4, n, by simpa using hf 0 f0 rfl, by simpa using hf 1 f1 rfl, by simpa using hf 2 f2 rfl, by simpa using hf 3 f3 rfl, by simpa using hf 4 f4 rfl⟩
theorem cells_recF : Tryz.prog.cellsOf 43 = 2 := by kernel_rfl
theorem cells_opW : Tryz.prog.cellsOf 50 = 14 := by kernel_rfl
theorem open_plan {H : Type} {enc : TypeId × Value → H} {W : World} {v : Value} {d : DataW H} {p : List MemPlace} {base : Nat}
  (hv : Value.okWide Tryz.prog W .any base 24 v) (h : DataW.Trod enc Tryz.prog W 0 (fun _ => true) true 24 v d p) :
  ∃ (ov : Value) (p : Pn), v = .agg #[.int .i64 p.P, .int .i64 p.S, .int .i64 p.W, ov, .int .i64 p.A, .int .i64 p.B, .int .i64 p.N, .int .i64 p.G] ∧ Ov W ov p.l := by
 obtain ⟨cs, rfl, hsz⟩ := okWide_struct Tryz.underlying24 hv;obtain ⟨fuel, hf⟩ := h;obtain ⟨y0, y1, y2, y3, y4, y5, y6, y7, n, h0, h1, h2, h3, h4, h5, h6, h7⟩ := trod_struct8 Tryz.underlying24 hf;have hl8 : cs.toList.length = 8 := by simpa [Value.cells, cells_plan] using hsz
 obtain ⟨l⟩ := cs
 match l, hl8 with
 | [c0, c1, c2, c3, c4, c5, c6, c7], _ =>
  simp only [Value.cells, cells_int, cells_ops, List.drop_zero, List.drop_succ_cons, List.take_succ_cons, List.take_zero] at h0 h1 h2 h3 h4 h5 h6 h7;obtain ⟨a0, rfl, _⟩ := cell_i64 Tryz.underlying3 h0;obtain ⟨a1, rfl, _⟩ := cell_i64 Tryz.underlying3 h1;obtain ⟨a2, rfl, _⟩ := cell_i64 Tryz.underlying3 h2;obtain ⟨ov, l, e3, ho, _⟩ := core_ov h3;obtain ⟨a4, rfl, _⟩ := cell_i64 Tryz.underlying3 h4;obtain ⟨a5, rfl, _⟩ := cell_i64 Tryz.underlying3 h5;obtain ⟨a6, rfl, _⟩ := cell_i64 Tryz.underlying3 h6;obtain ⟨a7, rfl, _⟩ := cell_i64 Tryz.underlying3 h7;simp only [List.cons.injEq, and_true] at e3;subst e3;exact ⟨c3, ⟨a0, a1, a2, a4, a5, a6, a7, l⟩, rfl, ho⟩
theorem cells_of_msg {H : Type} {enc : TypeId × Value → H} {W : World} {cs : List Value} {fuel : Nat} {y : DataW H × List MemPlace} (hl : cs.length = 9) (hf : DataW.trod enc Tryz.prog W 0 (fun _ => true) true fuel 48 cs = some y) :
  ∃ (ev qv pv : Value) (m : Ms), cs = [.int .i64 m.K, .int .i64 m.F, .int .i64 m.T, .int .i64 m.B, .int .i64 m.A, .int .i64 m.C, ev, qv, pv] ∧ ML W m ev qv pv ∧ m.ok := by
 obtain ⟨y0, y1, y2, y3, y4, y5, y6, y7, y8, m, hx, h0, h1, h2, h3, h4, h5, h6, h7, h8⟩ := trod_struct9 Tryz.underlying48 hf
 match cs, hl with
 | [c0, c1, c2, c3, c4, c5, c6, c7, c8], _ =>
  simp only [cells_int, cells_ints, cells_keys, cells_pairs, List.drop_zero, List.drop_succ_cons, List.take_succ_cons, List.take_zero] at h0 h1 h2 h3 h4 h5 h6 h7 h8;obtain ⟨a0, rfl, i0⟩ := cell_i64 Tryz.underlying3 h0;obtain ⟨a1, rfl, i1⟩ := cell_i64 Tryz.underlying3 h1;obtain ⟨a2, rfl, i2⟩ := cell_i64 Tryz.underlying3 h2;obtain ⟨a3, rfl, i3⟩ := cell_i64 Tryz.underlying3 h3;obtain ⟨a4, rfl, i4⟩ := cell_i64 Tryz.underlying3 h4;obtain ⟨a5, rfl, i5⟩ := cell_i64 Tryz.underlying3 h5;obtain ⟨le, he, hew, hez⟩ := open_sv_raw Tryz.underlying44 Tryz.underlying3 cells_int (d := y6.1) (p := y6.2) h6;obtain ⟨kv, lq, e1, hq, hqz⟩ := core_kv h7;obtain ⟨pv, lp, e2, hp, hpz⟩ := core_qv h8;simp only [List.cons.injEq, and_true] at e1 e2;subst e1 e2;exact ⟨c6, c7, c8, ⟨a0, a1, a2, a3, a4, a5, le, lq, lp⟩, rfl, ⟨he, hq.1, hp⟩, ⟨i0, i1, i2, i3, i4, i5, fun x hx => i64_of_wf (hew x hx), hq.2, hp.2⟩⟩
theorem cells_of_opW {H : Type} {enc : TypeId × Value → H} {W : World} {cs : List Value} {fuel : Nat} {y : DataW H × List MemPlace} (hl : cs.length = 14) (hf : DataW.trod enc Tryz.prog W 0 (fun _ => true) true fuel 50 cs = some y) :
  ∃ x : Ow17, cs = cellsW x ∧ ML W x.m x.e x.q x.v ∧ x.ok := by
 obtain ⟨y0, y1, y2, y3, y4, m, h0, h1, h2, h3, h4⟩ := trod_struct5 Tryz.underlying50 hf
 match cs, hl with
 | [b0, b1, b2, r0, r1, c0, c1, c2, c3, c4, c5, c6, c7, c8], _ =>
  simp only [cells_int, cells_boolF, cells_recF, cells_msg, List.drop_zero, List.drop_succ_cons, List.take_succ_cons, List.take_zero] at h0 h1 h2 h3 h4;obtain ⟨a0, rfl, i0⟩ := cell_i64 Tryz.underlying3 h0;obtain ⟨a1, rfl, i1⟩ := cell_i64 Tryz.underlying3 h1;obtain ⟨f, rfl⟩ := cell_bool h2;obtain ⟨r, er, hr⟩ := cells_of_rec rfl h3;obtain ⟨ev, qv, pv, m, e, hm, hok⟩ := cells_of_msg rfl h4;simp only [List.cons.injEq, and_true] at e er;obtain ⟨rfl, rfl⟩ := er;obtain ⟨rfl, rfl, rfl, rfl, rfl, rfl, rfl, rfl, rfl⟩ := e;exact ⟨⟨a0, a1, f, r, m, c6, c7, c8⟩, rfl, hm, ⟨i0, i1, hr, hok⟩⟩
theorem open_sw {H : Type} {enc : TypeId × Value → H} {W : World} {v : Value} {d : DataW H} {p : List MemPlace} {base : Nat}
  (hv : Value.okWide Tryz.prog W .any base 25 v) (h : DataW.Trod enc Tryz.prog W 0 (fun _ => true) true 25 v d p) :
  ∃ l : List Ow17, Sw W v l := by
 obtain ⟨ao, len0, cap0, rfl⟩ := okWide_slice Tryz.underlying25 hv;obtain ⟨fuel, hf⟩ := h;rcases Go.Deep.open_slice Tryz.underlying25 hf with ⟨hcs, hx⟩ | ⟨a, len, cap, m, n, D, Pl, hcs, _, hl, hm, hmm, hx, hel⟩
 ·simp [Value.cells] at hcs;obtain ⟨rfl, rfl, rfl⟩ := hcs;exact ⟨[], ⟨none, 0, rfl, by simp [maxLen], fun i hi => by simp at hi⟩, by simp, by simp⟩
 ·simp [Value.cells] at hcs;obtain ⟨rfl, rfl, rfl⟩ := hcs;simp only [if_true] at hmm
  have each : ∀ i, ∃ o : Ow17, i < len0 → (∀ j u, (cellsW o)[j]? = some u → W.cell? (a.add (i * 14 + j)) = some u) ∧ ML W o.m o.e o.q o.v ∧ o.ok := by
   intro i;by_cases hi : i < len0
   ·obtain ⟨cs', h1, h2⟩ := hel i (by omega);rw [cells_opW] at h1;obtain ⟨_, hlen, hcell⟩ := World.cells?_some h1;obtain ⟨o, rfl, hr, hk⟩ := cells_of_opW hlen h2;refine ⟨o, fun _ => ⟨fun j u hj => ?_, hr, hk⟩⟩
    have hj14 : j < 14 := by
     rcases Nat.lt_or_ge j 14 with q | q
     ·exact q
     ·rw [List.getElem?_eq_none (by simpa [cellsW] using q)] at hj; cases hj
    have e0 := hcell j hj14;rw [Go.Deep.add_add] at e0;rw [← hj, e0]
   ·exact ⟨⟨0, 0, false, ⟨0, 0⟩, zeroMs, undef, undef, undef⟩, fun h => absurd h hi⟩
  obtain ⟨X, hX⟩ : ∃ X : Nat → Ow17, ∀ i, i < len0 → (∀ j u, (cellsW (X i))[j]? = some u → W.cell? (a.add (i * 14 + j)) = some u) ∧ ML W (X i).m (X i).e (X i).q (X i).v ∧ (X i).ok := ⟨fun i => (each i).choose, fun i => (each i).choose_spec⟩;clear each hel;refine ⟨(List.range len0).map X, ⟨some a, cap0, by simp, by simp; omega, fun i hi => ?_⟩, fun x hx => ?_, fun x hx => ?_⟩
  ·simp at hi;obtain ⟨h0, _, _⟩ := hX 0 (by omega);obtain ⟨g0, _, _⟩ := hX i hi;obtain ⟨b, off, spot⟩ := a;have hs1 : spot = none := by simpa [Addr.add] using World.cell?_spot (h0 0 _ rfl)
   subst hs1;refine ⟨b, off, rfl, fun j u hj => ?_⟩;have := g0 j u (by simpa using hj);rw [WideShapes.add_plain] at this;rw [← this];congr 2;omega
  ·simp only [List.mem_map, List.mem_range] at hx;obtain ⟨i, hi, rfl⟩ := hx;exact (hX i hi).2.1
  ·simp only [List.mem_map, List.mem_range] at hx;obtain ⟨i, hi, rfl⟩ := hx;exact (hX i hi).2.2
end
end Go.Proofs.YtombjgfajbhbbaaGreat
