/- Run: the program's, with its deferred function. -/
import Derived.Test.YtjkhegekojflhabXk
import Derived.Defers
import Derived.Recover
namespace Go.Proofs.Ytjkhegekojflhab
open Ieee Go.RowKit
attribute [local go_sem] run_store_float

/-- What a block of one int is in a world. -/
structure IB (w : World) (b : Nat) (f : Int) : Prop where
  c : w.cell? ⟨b, 0, none⟩ = some (.int .i64 f)
  z : w.frozen? ⟨b, 0, none⟩ = false
theorem IB.below {w w' : World} {b B : Nat} {f : Int} (h : IB w b f) (hb : Below B w w') (hl : b < B) : IB w' b f :=
  ⟨by rw [hb.cell (p := ⟨b, 0, none⟩) hl]; exact h.c, by rw [hb.frozen (p := ⟨b, 0, none⟩) hl]; exact h.z⟩

theorem catch_panicking {p q k x : Nat} {f : Int} (u : TypeId) (pv : Value) (older : List PanicEntry) (w : World) (h1 : RB w p k x) (h2 : IB w q f) (hne : ¬ q = p) :
    CallsD Try.prog 46 #[.pointer (some ⟨p, 0, none⟩), .pointer (some ⟨q, 0, none⟩)] (.panicking ({ v := .iface u pv, recovered := false } :: older)) w fun e u' w' =>
      e = .returned (.tuple #[]) ∧ u' = .panicking ({ v := .iface u pv, recovered := true } :: older) ∧ w' = ((w.setCell ⟨p, 0, none⟩ (.int .u64 0)).setCell ⟨p, 1, none⟩ (.float .f64 0)).setCell ⟨q, 0, none⟩ (.int .i64 3) := by
  obtain ⟨c0, c1, z0, z1⟩ := h1
  obtain ⟨d0, y0⟩ := h2
  refine callsD_of_wpS Try.func46 rfl fun c₀ cs hu => ?_
  apply wpS_seq
  apply wpS_region
  simp [wpOpsS, go_sem, recoverD, hu, Try.ntmps46, Exit.thenS]
  refine wpS_cond (t := true) (by simp [Act.eval, Array.replicate]) ?_
  simp only [if_true]
  apply wpS_region
  simp [wpOpsS, go_sem, c0, c1, z0, z1, d0, y0, bodyPostS, results, Try.results46]

theorem catch_idle (p q : Addr) (w : World) :
    CallsD Try.prog 46 #[.pointer (some p), .pointer (some q)] .returning w fun e u' w' => e = .returned (.tuple #[]) ∧ u' = .returning ∧ w' = w := by
  refine callsD_of_wpS Try.func46 rfl fun c₀ cs hu => ?_
  apply wpS_seq
  apply wpS_region
  simp [wpOpsS, go_sem, recoverD, hu, Try.ntmps46, Exit.thenS]
  refine wpS_cond (t := false) (by simp [Act.eval, Array.replicate]) ?_
  simp only [Bool.false_eq_true, if_false]
  refine wpS_of_wp (wp_skip ?_)
  cases c₀
  simp_all [bodyPostS, results, Try.results46]

/-- Behind the start of Run: its own record, its answer's record and number. -/
theorem run_start {w w1 : World} {k x : Nat}
    (h : ((w.alloc (Obj.cells #[Value.int IntKind.u64 k, Value.float FloatKind.f64 x] 40)).alloc (Obj.cells #[Value.int IntKind.u64 0, Value.float FloatKind.f64 0] 40)).alloc (Obj.cells #[Value.int IntKind.i64 0] 3) = w1) :
    Hid (w1.heap.size = w.heap.size + 1 + 1 + 1) ∧ Hid (Below w.heap.size w w1) ∧ RB w1 w.heap.size k x ∧ RB w1 (w.heap.size + 1) 0 0 ∧ IB w1 (w.heap.size + 1 + 1) 0 := by
  subst h
  refine ⟨by simp [Hid, go_sem], ?_, ⟨?_, ?_, ?_, ?_⟩, ⟨?_, ?_, ?_, ?_⟩, ⟨?_, ?_⟩⟩
  · exact ((below_alloc _ _).alloc (by simp [go_sem]) _).alloc (by simp [go_sem]; omega) _
  all_goals simp [go_sem]

set_option linter.unusedSimpArgs false in
theorem run_bad {ao : Option Addr} {cap : Nat} {l : List Stp} {w : World} (r : Rcd) (hl : l.length ≤ maxLen) (ho : Ol w ao l) (hc : checkB l = false) :
    Calls Try.prog 42 #[.slice ao l.length cap, .agg #[.int .u64 r.k, .float .f64 r.x]] w fun e w' => e = .returned (.tuple #[.agg #[.int .u64 0, .float .f64 0], .int .i64 0]) ∧ Below w.heap.size w w' := by
  have hmf : ∀ (fn : Fn) (first cap : Array Value) (w : World), (Instr.makeFunc fn first cap).run Try.prog w = .ok (.func fn first cap) w := fun _ _ _ _ => rfl
  have HO : Hid (Ol w ao l) := ho
  have HL : Hid (l.length ≤ maxLen) := hl
  have HC : Hid (chkI l = 30) := by show _ = _; unfold chkI; rw [hc]; rfl
  clear ho hl hc
  go_enter_defers Try.func42, Try.ntmps42
  go_wp2_with fail
  generalize hw1 : ((w.alloc (Obj.cells #[Value.int IntKind.u64 r.k, Value.float FloatKind.f64 r.x] 40)).alloc (Obj.cells #[Value.int IntKind.u64 0, Value.float FloatKind.f64 0] 40)).alloc (Obj.cells #[Value.int IntKind.i64 0] 3) = w1
  obtain ⟨HS, HB, R1, R2, I1⟩ := run_start hw1
  clear hw1
  refine (check_walk HL.out (HO.out.below HB.out)).mono ?_
  rw [HC.out]
  rintro e w2 ⟨rfl, hB⟩
  have hl : w.heap.size + 1 + 1 < w1.heap.size := by rw [HS.out]; omega
  obtain ⟨d0, d1, y0, y1⟩ := R2.below hB (by omega)
  obtain ⟨i0, x0⟩ := I1.below hB hl
  have HB2 : Hid (Below w.heap.size w w2) := below_trans HB.out hB
  clear hB R1 R2 I1
  go_wp2_with fail
  exact ⟨.tuple #[.agg #[.int .u64 0, .float .f64 0], .int .i64 0], by simp [results, Try.results42, go_sem, d0, d1, y0, y1, i0, x0], rfl,
    ((HB2.out.setCell (p := ⟨w.heap.size + 1, 0, none⟩) (by simp only; omega) _).setCell (p := ⟨w.heap.size + 1, 1, none⟩) (by simp only; omega) _).setCell (p := ⟨w.heap.size + 1 + 1, 0, none⟩) (by simp only; omega) _⟩

theorem RB.set {w : World} {b k x : Nat} (h : RB w b k x) (k' x' : Nat) : RB ((w.setCell ⟨b, 0, none⟩ (.int .u64 k')).setCell ⟨b, 1, none⟩ (.float .f64 x')) b k' x' := by
  obtain ⟨c0, c1, z0, z1⟩ := h
  refine ⟨?_, ?_, ?_, ?_⟩ <;> simp [go_sem, c0, c1, z0, z1]
theorem RB.set1 {w : World} {b k x : Nat} (h : RB w b k x) (x' : Nat) : RB (w.setCell ⟨b, 1, none⟩ (.float .f64 x')) b k x' := by
  obtain ⟨c0, c1, z0, z1⟩ := h
  refine ⟨?_, ?_, ?_, ?_⟩ <;> simp [go_sem, c0, c1, z0, z1]
theorem RB.other {w : World} {b k x : Nat} (h : RB w b k x) {p : Addr} (hne : b ≠ p.block) (v : Value) : RB (w.setCell p v) b k x := by
  have e := Below.heap_setCell w p v b hne
  obtain ⟨c0, c1, z0, z1⟩ := h
  exact ⟨by rw [World.cell?_of_block (w := w) e]; exact c0, by rw [World.cell?_of_block (w := w) e]; exact c1, by rw [World.frozen?_of_block (w := w) e]; exact z0, by rw [World.frozen?_of_block (w := w) e]; exact z1⟩
theorem IB.other {w : World} {b : Nat} {f : Int} (h : IB w b f) {p : Addr} (hne : b ≠ p.block) (v : Value) : IB (w.setCell p v) b f := by
  have e := Below.heap_setCell w p v b hne
  obtain ⟨c0, z0⟩ := h
  exact ⟨by rw [World.cell?_of_block (w := w) e]; exact c0, by rw [World.frozen?_of_block (w := w) e]; exact z0⟩
theorem RB.alloc {w : World} {b k x : Nat} (h : RB w b k x) (o : Obj) : RB (w.alloc o) b k x := h.below (below_alloc w o) (cell_lt h.c0)
theorem IB.alloc {w : World} {b : Nat} {f : Int} (h : IB w b f) (o : Obj) : IB (w.alloc o) b f := h.below (below_alloc w o) (cell_lt h.c)

/-- Where Run's loop stands. -/
def RunRel (w0 : World) (l : List Stp) (r0 : Rcd) (iv : Value) (wr : World) : Prop :=
  ∃ (k : Nat) (r : Rcd), k ≤ l.length ∧ iv = .int .i64 k ∧ r.ok ∧ goS l r0 = goS (l.drop k) r ∧ RB wr w0.heap.size r.k r.x ∧ RB wr (w0.heap.size + 1) 0 0 ∧ IB wr (w0.heap.size + 1 + 1) 0 ∧ Below w0.heap.size w0 wr

theorem runrel_start {w w2 : World} {l : List Stp} {r : Rcd} (hr : r.ok) (h1 : RB w2 w.heap.size r.k r.x) (h2 : RB w2 (w.heap.size + 1) 0 0) (h3 : IB w2 (w.heap.size + 1 + 1) 0) (hB : Below w.heap.size w w2) :
    RunRel w l (canR r) (.int .i64 0) (w2.setCell ⟨w.heap.size, 1, none⟩ (.float .f64 (canonW r.x))) :=
  ⟨0, canR r, Nat.zero_le _, rfl, canR_ok hr, rfl, h1.set1 _, h2.other (by simp only; omega) _, h3.other (by simp only; omega) _, hB.setCell (by simp only; omega) _⟩

theorem runrel_step {w wr w3 : World} {l : List Stp} {r0 r : Rcd} {k : Nat} (hlt : k < l.length) (hr : r.ok) (hg : goS l r0 = goS (l.drop k) r) (hf : fateI l[k] r.x = 1)
    (h1 : RB w3 w.heap.size r.k r.x) (h2 : RB w3 (w.heap.size + 1) 0 0) (h3 : IB w3 (w.heap.size + 1 + 1) 0) (hB : Below w.heap.size w wr) (hB3 : Below wr.heap.size wr w3) (o : Obj) :
    RunRel w l r0 (.int .i64 ((k : Int) + 1)) (((w3.alloc o).setCell ⟨w.heap.size, 0, none⟩ (.int .u64 (nextR l[k] r).k)).setCell ⟨w.heap.size, 1, none⟩ (.float .f64 (nextR l[k] r).x)) := by
  have hs : w.heap.size ≤ w3.heap.size := Nat.le_trans hB.size hB3.size
  refine ⟨k + 1, nextR l[k] r, hlt, by simp, nextR_ok hr, ?_, (h1.alloc o).set _ _, ((h2.alloc o).other (by simp only; omega) _).other (by simp only; omega) _, ((h3.alloc o).other (by simp only; omega) _).other (by simp only; omega) _, ?_⟩
  · rw [hg, List.drop_eq_getElem_cons hlt, goS_keep hf]
  · exact ((((below_trans hB hB3).alloc hs o)).setCell (by simp only; omega) _).setCell (by simp only; omega) _

theorem goS_at {l : List Stp} {r0 r : Rcd} {k : Nat} (hlt : k < l.length) (hg : goS l r0 = goS (l.drop k) r) (hf : ¬ fateI l[k] r.x = 1) : goS l r0 = (fateI l[k] r.x, zeroR) := by
  rw [hg, List.drop_eq_getElem_cons hlt, goS_stop hf]
theorem goS_end {l : List Stp} {r0 r : Rcd} {k : Nat} (hk : k ≤ l.length) (hlt : ¬ k < l.length) (hg : goS l r0 = goS (l.drop k) r) : goS l r0 = (1, r) := by
  rw [hg, List.drop_of_length_le (by omega)]; rfl
theorem check_all {l : List Stp} (h : checkB l = true) {k : Nat} (hk : k < l.length) : isB l[k] = true := by
  unfold checkB at h
  rw [Bool.and_eq_true] at h
  exact List.all_eq_true.1 h.2 _ (List.getElem_mem hk)

set_option linter.unusedSimpArgs false in
theorem run_good {ao : Option Addr} {cap : Nat} {l : List Stp} {w : World} (r : Rcd) (hr : r.ok) (hl : l.length ≤ maxLen) (ho : Ol w ao l) (hok : ∀ o ∈ l, o.ok) (hc : checkB l = true) :
    Calls Try.prog 42 #[.slice ao l.length cap, .agg #[.int .u64 r.k, .float .f64 r.x]] w fun e w' =>
      e = .returned (.tuple #[.agg #[.int .u64 (goS l (canR r)).2.k, .float .f64 (goS l (canR r)).2.x], .int .i64 (goS l (canR r)).1]) ∧ Below w.heap.size w w' := by
  have hmf : ∀ (fn : Fn) (first cap : Array Value) (w : World), (Instr.makeFunc fn first cap).run Try.prog w = .ok (.func fn first cap) w := fun _ _ _ _ => rfl
  have hli : (l.length : Int) ≤ 9223372036854775807 := by simp only [maxLen] at hl; omega
  have HO : Hid (Ol w ao l) := ho
  have HK : Hid (∀ o ∈ l, o.ok) := hok
  have HL : Hid (l.length ≤ maxLen) := hl
  have HC : Hid (chkI l = 0) := by show _ = _; unfold chkI; rw [hc]; rfl
  have HA : Hid (checkB l = true) := hc
  have HR : Hid r.ok := hr
  clear ho hl hc hok
  go_enter_defers Try.func42, Try.ntmps42
  go_wp2_with fail
  generalize hw1 : ((w.alloc (Obj.cells #[Value.int IntKind.u64 r.k, Value.float FloatKind.f64 r.x] 40)).alloc (Obj.cells #[Value.int IntKind.u64 0, Value.float FloatKind.f64 0] 40)).alloc (Obj.cells #[Value.int IntKind.i64 0] 3) = w1
  obtain ⟨HS, HB, R1, R2, I1⟩ := run_start hw1
  clear hw1
  refine (check_walk HL.out (HO.out.below HB.out)).mono ?_
  rw [HC.out]
  rintro e w2 ⟨rfl, hB⟩
  have hsz : w.heap.size + 1 + 1 < w1.heap.size := by rw [HS.out]; omega
  have HR1 : Hid (RB w2 w.heap.size r.k r.x) := R1.below hB (by omega)
  have HR2 : Hid (RB w2 (w.heap.size + 1) 0 0) := R2.below hB (by omega)
  have HI1 : Hid (IB w2 (w.heap.size + 1 + 1) 0) := I1.below hB hsz
  obtain ⟨c0, c1, z0, z1⟩ := HR1.out
  have HB2 : Hid (Below w.heap.size w w2) := below_trans HB.out hB
  clear hB R1 R2 I1
  go_wp2_with fail
  refine (canon_walk hr.2 _).mono ?_
  rintro e w' ⟨rfl, rfl⟩
  have R0 := runrel_start (l := l) HR.out HR1.out HR2.out HI1.out HB2.out
  go_wp2_with fail
  clear c0 c1 z0 z1
  go_loopw [21] (fun iv wr => RunRel w l (canR r) iv wr) (fun iv _ => l.length - (intOf iv).toNat)
  case atStart => exact R0
  case round =>
    clear R0 HR1 HR2 HI1 HB2 HB HS hsz
    obtain ⟨k, q, hk, rfl, hq, hg, h1, h2, h3, hB⟩ := hrel
    have HG : Hid (goS l (canR r) = goS (l.drop k) q) := hg
    have HR1 : Hid (RB wr w.heap.size q.k q.x) := h1
    have HR2 : Hid (RB wr (w.heap.size + 1) 0 0) := h2
    have HI1 : Hid (IB wr (w.heap.size + 1 + 1) 0) := h3
    have HB : Hid (Below w.heap.size w wr) := hB
    have HQ : Hid q.ok := hq
    clear hg h1 h2 h3 hB hq
    by_cases hlt : k < l.length
    · obtain ⟨b, off, rfl, o0, o1, o2⟩ := HO.out.below HB.out k hlt
      obtain ⟨o, hoe⟩ : ∃ o, o = l[k] := ⟨_, rfl⟩
      rw [← hoe] at o0 o1 o2
      have HE : Hid (o = l[k]) := hoe
      have HOK : Hid o.ok := by show o.ok; rw [hoe]; exact HK.out _ (List.getElem_mem hlt)
      have HBB : Hid (isB o = true) := by show _ = _; rw [hoe]; exact check_all HA.out hlt
      clear hoe
      have a0 : ∀ x : Obj, (wr.alloc x).cell? ⟨w.heap.size, 0, none⟩ = some (.int .u64 q.k) := fun x => (HR1.out.alloc x).c0
      have a1 : ∀ x : Obj, (wr.alloc x).cell? ⟨w.heap.size, 1, none⟩ = some (.float .f64 q.x) := fun x => (HR1.out.alloc x).c1
      rcases fate_cases o q.x with hf | hf | hf
      · have HF : Hid (fateI o q.x = 1) := hf
        clear hf
        go_wp2_with fail
        refine (step_kept o q HOK.out HQ.out HBB.out HF.out _).mono ?_
        rintro e w3 ⟨rfl, hB3⟩
        have HB3 : Hid (Below wr.heap.size wr w3) := below_trans (below_alloc _ _) hB3
        clear hB3 a0 a1 o0 o1 o2
        have HT1 : Hid (RB w3 w.heap.size q.k q.x) := HR1.out.below HB3.out (cell_lt HR1.out.c0)
        have HT2 : Hid (RB w3 (w.heap.size + 1) 0 0) := HR2.out.below HB3.out (cell_lt HR2.out.c0)
        have HJ1 : Hid (IB w3 (w.heap.size + 1 + 1) 0) := HI1.out.below HB3.out (cell_lt HI1.out.c)
        have a0 : ∀ x : Obj, (w3.alloc x).cell? ⟨w.heap.size, 0, none⟩ = some (.int .u64 q.k) := fun x => (HT1.out.alloc x).c0
        have a1 : ∀ x : Obj, (w3.alloc x).cell? ⟨w.heap.size, 1, none⟩ = some (.float .f64 q.x) := fun x => (HT1.out.alloc x).c1
        have a2 : ∀ x : Obj, (w3.alloc x).frozen? ⟨w.heap.size, 0, none⟩ = false := fun x => (HT1.out.alloc x).z0
        have a3 : ∀ x : Obj, (w3.alloc x).frozen? ⟨w.heap.size, 1, none⟩ = false := fun x => (HT1.out.alloc x).z1
        have R := runrel_step (w3 := w3) hlt HQ.out HG.out (by rw [← HE.out]; exact HF.out) HT1.out HT2.out HJ1.out HB.out HB3.out (Obj.cells #[Value.int IntKind.u64 (nextR o q).k, Value.float FloatKind.f64 (nextR o q).x] 40)
        rw [← HE.out] at R
        go_wp2_with fail
        go_roundw
        case rel => exact R
        case measure => simp [intOf]; omega
      · have HF : Hid (fateI o q.x = 2) := hf
        clear hf
        go_wp2_with fail
        refine (step_dropped o q HQ.out HBB.out HF.out _).mono ?_
        rintro e w3 ⟨rfl, hB3⟩
        have HB3 : Hid (Below wr.heap.size wr w3) := below_trans (below_alloc _ _) hB3
        clear hB3 a0 a1 o0 o1 o2
        have HT1 : Hid (RB w3 w.heap.size q.k q.x) := HR1.out.below HB3.out (cell_lt HR1.out.c0)
        have HT2 : Hid (RB w3 (w.heap.size + 1) 0 0) := HR2.out.below HB3.out (cell_lt HR2.out.c0)
        have HJ1 : Hid (IB w3 (w.heap.size + 1 + 1) 0) := HI1.out.below HB3.out (cell_lt HI1.out.c)
        have a0 : ∀ x : Obj, (w3.alloc x).cell? ⟨w.heap.size + 1, 0, none⟩ = some (.int .u64 0) := fun x => (HT2.out.alloc x).c0
        have a1 : ∀ x : Obj, (w3.alloc x).cell? ⟨w.heap.size + 1, 1, none⟩ = some (.float .f64 0) := fun x => (HT2.out.alloc x).c1
        have a2 : ∀ x : Obj, (w3.alloc x).frozen? ⟨w.heap.size + 1, 0, none⟩ = false := fun x => (HT2.out.alloc x).z0
        have a3 : ∀ x : Obj, (w3.alloc x).frozen? ⟨w.heap.size + 1, 1, none⟩ = false := fun x => (HT2.out.alloc x).z1
        have a4 : ∀ x : Obj, (w3.alloc x).cell? ⟨w.heap.size + 1 + 1, 0, none⟩ = some (.int .i64 0) := fun x => (HJ1.out.alloc x).c
        have a5 : ∀ x : Obj, (w3.alloc x).frozen? ⟨w.heap.size + 1 + 1, 0, none⟩ = false := fun x => (HJ1.out.alloc x).z
        go_wp2_with fail
        refine leaves_cons (f := 46) (args := #[.pointer (some ⟨w.heap.size + 1, 0, none⟩), .pointer (some ⟨w.heap.size + 1 + 1, 0, none⟩)]) (by simp) (by simp [go_sem]) ?_
        refine (catch_idle _ _ _).mono ?_
        rintro e u' w'' ⟨rfl, rfl, rfl⟩
        have hE := goS_at hlt HG.out (by rw [← HE.out, HF.out]; decide)
        rw [← HE.out, HF.out] at hE
        rw [hE]
        have hs3 : w.heap.size ≤ w3.heap.size := Nat.le_trans HB.out.size HB3.out.size
        exact ⟨.tuple #[.agg #[.int .u64 0, .float .f64 0], .int .i64 2], by simp [results, Try.results42, go_sem, a0, a1, a2, a3, a4, a5], rfl,
          ((((below_trans HB.out HB3.out).alloc hs3 _).setCell (p := ⟨w.heap.size + 1, 0, none⟩) (by simp only; omega) _).setCell (p := ⟨w.heap.size + 1, 1, none⟩) (by simp only; omega) _).setCell (p := ⟨w.heap.size + 1 + 1, 0, none⟩) (by simp only; omega) _⟩
      · have HF : Hid (fateI o q.x = 3) := hf
        clear hf
        go_wp2_with fail
        refine (step_trapped o q HQ.out HBB.out HF.out _).mono ?_
        rintro e w3 ⟨⟨u, pv, rfl⟩, hB3⟩
        have HB3 : Hid (Below wr.heap.size wr w3) := below_trans (below_alloc _ _) hB3
        clear hB3 a0 a1 o0 o1 o2
        have HT1 : Hid (RB w3 w.heap.size q.k q.x) := HR1.out.below HB3.out (cell_lt HR1.out.c0)
        have HT2 : Hid (RB w3 (w.heap.size + 1) 0 0) := HR2.out.below HB3.out (cell_lt HR2.out.c0)
        have HJ1 : Hid (IB w3 (w.heap.size + 1 + 1) 0) := HI1.out.below HB3.out (cell_lt HI1.out.c)
        go_wp2_with fail
        refine leaves_cons (f := 46) (args := #[.pointer (some ⟨w.heap.size + 1, 0, none⟩), .pointer (some ⟨w.heap.size + 1 + 1, 0, none⟩)]) (by simp) (by simp [go_sem]) ?_
        refine (catch_panicking u pv [] w3 HT2.out HJ1.out (by omega)).mono ?_
        rintro e u' w'' ⟨rfl, rfl, rfl⟩
        have hE := goS_at hlt HG.out (by rw [← HE.out, HF.out]; decide)
        rw [← HE.out, HF.out] at hE
        rw [hE]
        obtain ⟨d0, d1, y0, y1⟩ := HT2.out
        obtain ⟨i0, x0⟩ := HJ1.out
        exact ⟨.tuple #[.agg #[.int .u64 0, .float .f64 0], .int .i64 3], by simp [results, Try.results42, go_sem, d0, d1, y0, y1, i0, x0], rfl,
          (((below_trans HB.out HB3.out).setCell (p := ⟨w.heap.size + 1, 0, none⟩) (by simp only; omega) _).setCell (p := ⟨w.heap.size + 1, 1, none⟩) (by simp only; omega) _).setCell (p := ⟨w.heap.size + 1 + 1, 0, none⟩) (by simp only; omega) _⟩
    · obtain ⟨c0, c1, z0, z1⟩ := HR1.out
      obtain ⟨d0, d1, y0, y1⟩ := HR2.out
      obtain ⟨i0, x0⟩ := HI1.out
      go_wp2_with fail
      refine leaves_cons (f := 46) (args := #[.pointer (some ⟨w.heap.size + 1, 0, none⟩), .pointer (some ⟨w.heap.size + 1 + 1, 0, none⟩)]) (by simp) (by simp [go_sem]) ?_
      refine (catch_idle _ _ _).mono ?_
      rintro e u' w'' ⟨rfl, rfl, rfl⟩
      rw [goS_end hk hlt HG.out]
      exact ⟨.tuple #[.agg #[.int .u64 q.k, .float .f64 q.x], .int .i64 1], by simp [results, Try.results42, go_sem, d0, d1, y0, y1, i0, x0], rfl,
        ((HB.out.setCell (p := ⟨w.heap.size + 1, 0, none⟩) (by simp only; omega) _).setCell (p := ⟨w.heap.size + 1, 1, none⟩) (by simp only; omega) _).setCell (p := ⟨w.heap.size + 1 + 1, 0, none⟩) (by simp only; omega) _⟩

/-- Run, whatever the list. -/
theorem run_walk {v : Value} {l : List Stp} {w : World} (r : Rcd) (hr : r.ok) (ho : Ov w v l) :
    Calls Try.prog 42 #[v, .agg #[.int .u64 r.k, .float .f64 r.x]] w fun e w' =>
      e = .returned (.tuple #[.agg #[.int .u64 (runS l r).2.k, .float .f64 (runS l r).2.x], .int .i64 (runS l r).1]) ∧ Below w.heap.size w w' := by
  obtain ⟨⟨ao, cap, rfl, h1, h2, h3, h4⟩, h5⟩ := ho
  unfold runS
  cases hc : checkB l
  · exact run_bad r (by omega) h4 hc
  · exact run_good r hr (by omega) h4 h5 hc
end Go.Proofs.Ytjkhegekojflhab
