/- The blocks of Decode: N its message, N + 1 its error, N + 2 the reader, N + 3 the variable r; its deferred function. -/
import Derived.Test.YtonnlhehbhiiiaaJf

import Derived.Defers

import Derived.Recover

namespace Go.Proofs.Ytonnlhehbhiiiaa

open Go.RowKit



theorem cell_oth {w : World} {g p q : Nat} {v u : Value} (h : ¬ p = q) (hu : w.cell? ⟨g, q, none⟩ = some u) : (w.setCell ⟨g, p, none⟩ v).cell? ⟨g, q, none⟩ = some u := by
  rw [World.cell?_setCell_other w _ _ v (by rintro ⟨⟩; exact h rfl)]; exact hu
theorem cell_own1 {w : World} {g p : Nat} {v u : Value} (hu : w.cell? ⟨g, p, none⟩ = some u) : (w.setCell ⟨g, p, none⟩ v).cell? ⟨g, p, none⟩ = some v := by simp [go_sem, hu]
theorem Ch.froz {D : Nat → Prop} {w w' : World} {b j : Nat} {u : Value} (hc : Ch D w w') (h0 : w.cell? ⟨b, j, none⟩ = some u) (hd : ¬ D b) (k : Nat) : w'.frozen? ⟨b, k, none⟩ = w.frozen? ⟨b, k, none⟩ := by
  have e := hc.block b (cell_lt h0) hd
  unfold World.frozen?
  rw [e]
theorem MX.ch {D : Nat → Prop} {w w' : World} {P : Nat} {m : Ms} {ev qv pv : Value} (h : MX w P m ev qv pv) (hc : Ch D w w') (hd : ¬ D P) : MX w' P m ev qv pv :=
  ⟨hc.cell h.c0 hd, hc.cell h.c1 hd, hc.cell h.c2 hd, hc.cell h.c3 hd, hc.cell h.c4 hd, hc.cell h.c5 hd, hc.cell h.c6 hd, hc.cell h.c7 hd, hc.cell h.c8 hd, fun j => by rw [hc.froz h.c0 hd j]; exact h.z j⟩
theorem MX.s0 {w : World} {P : Nat} {m : Ms} {ev qv pv : Value} (h : MX w P m ev qv pv) (x : Int) : MX (w.setCell ⟨P, 0, none⟩ (.int .i64 x)) P { m with K := x } ev qv pv :=
  ⟨cell_own1 h.c0, cell_oth (by decide) h.c1, cell_oth (by decide) h.c2, cell_oth (by decide) h.c3, cell_oth (by decide) h.c4, cell_oth (by decide) h.c5, cell_oth (by decide) h.c6, cell_oth (by decide) h.c7, cell_oth (by decide) h.c8, fun k => by simpa [go_sem] using h.z k⟩
theorem MX.s1 {w : World} {P : Nat} {m : Ms} {ev qv pv : Value} (h : MX w P m ev qv pv) (x : Int) : MX (w.setCell ⟨P, 1, none⟩ (.int .i64 x)) P { m with F := x } ev qv pv :=
  ⟨cell_oth (by decide) h.c0, cell_own1 h.c1, cell_oth (by decide) h.c2, cell_oth (by decide) h.c3, cell_oth (by decide) h.c4, cell_oth (by decide) h.c5, cell_oth (by decide) h.c6, cell_oth (by decide) h.c7, cell_oth (by decide) h.c8, fun k => by simpa [go_sem] using h.z k⟩
theorem MX.s2 {w : World} {P : Nat} {m : Ms} {ev qv pv : Value} (h : MX w P m ev qv pv) (x : Int) : MX (w.setCell ⟨P, 2, none⟩ (.int .i64 x)) P { m with T := x } ev qv pv :=
  ⟨cell_oth (by decide) h.c0, cell_oth (by decide) h.c1, cell_own1 h.c2, cell_oth (by decide) h.c3, cell_oth (by decide) h.c4, cell_oth (by decide) h.c5, cell_oth (by decide) h.c6, cell_oth (by decide) h.c7, cell_oth (by decide) h.c8, fun k => by simpa [go_sem] using h.z k⟩
theorem MX.s3 {w : World} {P : Nat} {m : Ms} {ev qv pv : Value} (h : MX w P m ev qv pv) (x : Int) : MX (w.setCell ⟨P, 3, none⟩ (.int .i64 x)) P { m with B := x } ev qv pv :=
  ⟨cell_oth (by decide) h.c0, cell_oth (by decide) h.c1, cell_oth (by decide) h.c2, cell_own1 h.c3, cell_oth (by decide) h.c4, cell_oth (by decide) h.c5, cell_oth (by decide) h.c6, cell_oth (by decide) h.c7, cell_oth (by decide) h.c8, fun k => by simpa [go_sem] using h.z k⟩
theorem MX.s4 {w : World} {P : Nat} {m : Ms} {ev qv pv : Value} (h : MX w P m ev qv pv) (x : Int) : MX (w.setCell ⟨P, 4, none⟩ (.int .i64 x)) P { m with A := x } ev qv pv :=
  ⟨cell_oth (by decide) h.c0, cell_oth (by decide) h.c1, cell_oth (by decide) h.c2, cell_oth (by decide) h.c3, cell_own1 h.c4, cell_oth (by decide) h.c5, cell_oth (by decide) h.c6, cell_oth (by decide) h.c7, cell_oth (by decide) h.c8, fun k => by simpa [go_sem] using h.z k⟩
theorem MX.s5 {w : World} {P : Nat} {m : Ms} {ev qv pv : Value} (h : MX w P m ev qv pv) (x : Int) : MX (w.setCell ⟨P, 5, none⟩ (.int .i64 x)) P { m with C := x } ev qv pv :=
  ⟨cell_oth (by decide) h.c0, cell_oth (by decide) h.c1, cell_oth (by decide) h.c2, cell_oth (by decide) h.c3, cell_oth (by decide) h.c4, cell_own1 h.c5, cell_oth (by decide) h.c6, cell_oth (by decide) h.c7, cell_oth (by decide) h.c8, fun k => by simpa [go_sem] using h.z k⟩
theorem MX.s6 {w : World} {P : Nat} {m : Ms} {ev qv pv : Value} (h : MX w P m ev qv pv) (x : Value) : MX (w.setCell ⟨P, 6, none⟩ (x)) P m x qv pv :=
  ⟨cell_oth (by decide) h.c0, cell_oth (by decide) h.c1, cell_oth (by decide) h.c2, cell_oth (by decide) h.c3, cell_oth (by decide) h.c4, cell_oth (by decide) h.c5, cell_own1 h.c6, cell_oth (by decide) h.c7, cell_oth (by decide) h.c8, fun k => by simpa [go_sem] using h.z k⟩
theorem MX.s7 {w : World} {P : Nat} {m : Ms} {ev qv pv : Value} (h : MX w P m ev qv pv) (x : Value) : MX (w.setCell ⟨P, 7, none⟩ (x)) P m ev x pv :=
  ⟨cell_oth (by decide) h.c0, cell_oth (by decide) h.c1, cell_oth (by decide) h.c2, cell_oth (by decide) h.c3, cell_oth (by decide) h.c4, cell_oth (by decide) h.c5, cell_oth (by decide) h.c6, cell_own1 h.c7, cell_oth (by decide) h.c8, fun k => by simpa [go_sem] using h.z k⟩
theorem MX.s8 {w : World} {P : Nat} {m : Ms} {ev qv pv : Value} (h : MX w P m ev qv pv) (x : Value) : MX (w.setCell ⟨P, 8, none⟩ (x)) P m ev qv x :=
  ⟨cell_oth (by decide) h.c0, cell_oth (by decide) h.c1, cell_oth (by decide) h.c2, cell_oth (by decide) h.c3, cell_oth (by decide) h.c4, cell_oth (by decide) h.c5, cell_oth (by decide) h.c6, cell_oth (by decide) h.c7, cell_own1 h.c8, fun k => by simpa [go_sem] using h.z k⟩
/-- A message laid over block P. -/
def setM (w : World) (P : Nat) (m : Ms) (ev qv pv : Value) : World := ((((((((w.setCell ⟨P, 0, none⟩ (.int .i64 m.K)).setCell ⟨P, 1, none⟩ (.int .i64 m.F)).setCell ⟨P, 2, none⟩ (.int .i64 m.T)).setCell ⟨P, 3, none⟩ (.int .i64 m.B)).setCell ⟨P, 4, none⟩ (.int .i64 m.A)).setCell ⟨P, 5, none⟩ (.int .i64 m.C)).setCell ⟨P, 6, none⟩ (ev)).setCell ⟨P, 7, none⟩ (qv)).setCell ⟨P, 8, none⟩ (pv)
theorem MX.over {w : World} {P : Nat} {m0 : Ms} {e0 q0 p0 : Value} (h : MX w P m0 e0 q0 p0) (m : Ms) (ev qv pv : Value) : MX (setM w P m ev qv pv) P m ev qv pv := by
  have x := ((((((((h.s0 m.K).s1 m.F).s2 m.T).s3 m.B).s4 m.A).s5 m.C).s6 ev).s7 qv).s8 pv
  exact ⟨x.c0, x.c1, x.c2, x.c3, x.c4, x.c5, x.c6, x.c7, x.c8, x.z⟩
theorem ch_setM (w : World) (P : Nat) (m : Ms) (ev qv pv : Value) : Ch (fun x => x = P) w (setM w P m ev qv pv) := ((((((((ch_set _ _ _ _).self (ch_set _ _ _ _)).self (ch_set _ _ _ _)).self (ch_set _ _ _ _)).self (ch_set _ _ _ _)).self (ch_set _ _ _ _)).self (ch_set _ _ _ _)).self (ch_set _ _ _ _)).self (ch_set _ _ _ _)




/-- Where Decode stands. -/
structure DS (N : Nat) (w0 w : World) (v : Value) (l : List Nat) (m : Ms) (ev qv pv : Value) : Prop where
  n : N = w0.heap.size
  rd : RD N w (N + 2) v l 0
  mx : MX w N m ev qv pv
  e8 : ∀ x, ev ≠ .int .u8 x
  q8 : ∀ x, qv ≠ .int .u8 x
  p8 : ∀ x, pv ≠ .int .u8 x
  x : w.cell? ⟨N + 1, 0, none⟩ = some (.int .i64 0)
  xz : ∀ j, w.frozen? ⟨N + 1, j, none⟩ = false
  p : w.cell? ⟨N + 3, 0, none⟩ = some (.pointer (some ⟨N + 2, 0, none⟩))
  below : Below N w0 w
theorem DS.turn {N : Nat} {w0 w w' : World} {v v' : Value} {l l' : List Nat} {m : Ms} {ev qv pv : Value} (h : DS N w0 w v l m ev qv pv) (hr : RD N w' (N + 2) v' l' 0) (hc : Ch (fun x => x = N + 2) w w') : DS N w0 w' v' l' m ev qv pv :=
  ⟨h.n, hr, h.mx.ch hc (by simp), h.e8, h.q8, h.p8, hc.cell h.x (by simp), fun j => by rw [hc.froz h.x (by simp) j]; exact h.xz j, hc.cell h.p (by simp), h.below.trans (hc.to_below (Nat.le_of_lt (cell_lt h.mx.c0)) (fun x hx => by omega))⟩
theorem DS.old {N : Nat} {w0 w w' : World} {v : Value} {l : List Nat} {m : Ms} {ev qv pv : Value} (h : DS N w0 w v l m ev qv pv) (hb : Below w.heap.size w w') : DS N w0 w' v l m ev qv pv := h.turn (h.rd.below hb) (Ch.of_below hb)
theorem DS.s0 {N : Nat} {w0 w : World} {v : Value} {l : List Nat} {m : Ms} {ev qv pv : Value} (h : DS N w0 w v l m ev qv pv) (x : Int) : DS N w0 (w.setCell ⟨N, 0, none⟩ (.int .i64 x)) v l { m with K := x } ev qv pv :=
  ⟨h.n, h.rd.setB (by omega) h.mx.c0 (by intro x e; cases e) _, h.mx.s0 x, h.e8, h.q8, h.p8, (ch_set w N 0 _).cell h.x (by simp), fun j => by simpa [go_sem] using h.xz j, (ch_set w N 0 _).cell h.p (by simp), h.below.trans ((ch_set w N 0 _).to_below (Nat.le_of_lt (cell_lt h.mx.c0)) (fun x hx => by omega))⟩
theorem DS.s1 {N : Nat} {w0 w : World} {v : Value} {l : List Nat} {m : Ms} {ev qv pv : Value} (h : DS N w0 w v l m ev qv pv) (x : Int) : DS N w0 (w.setCell ⟨N, 1, none⟩ (.int .i64 x)) v l { m with F := x } ev qv pv :=
  ⟨h.n, h.rd.setB (by omega) h.mx.c1 (by intro x e; cases e) _, h.mx.s1 x, h.e8, h.q8, h.p8, (ch_set w N 1 _).cell h.x (by simp), fun j => by simpa [go_sem] using h.xz j, (ch_set w N 1 _).cell h.p (by simp), h.below.trans ((ch_set w N 1 _).to_below (Nat.le_of_lt (cell_lt h.mx.c0)) (fun x hx => by omega))⟩
theorem DS.s2 {N : Nat} {w0 w : World} {v : Value} {l : List Nat} {m : Ms} {ev qv pv : Value} (h : DS N w0 w v l m ev qv pv) (x : Int) : DS N w0 (w.setCell ⟨N, 2, none⟩ (.int .i64 x)) v l { m with T := x } ev qv pv :=
  ⟨h.n, h.rd.setB (by omega) h.mx.c2 (by intro x e; cases e) _, h.mx.s2 x, h.e8, h.q8, h.p8, (ch_set w N 2 _).cell h.x (by simp), fun j => by simpa [go_sem] using h.xz j, (ch_set w N 2 _).cell h.p (by simp), h.below.trans ((ch_set w N 2 _).to_below (Nat.le_of_lt (cell_lt h.mx.c0)) (fun x hx => by omega))⟩
theorem DS.s3 {N : Nat} {w0 w : World} {v : Value} {l : List Nat} {m : Ms} {ev qv pv : Value} (h : DS N w0 w v l m ev qv pv) (x : Int) : DS N w0 (w.setCell ⟨N, 3, none⟩ (.int .i64 x)) v l { m with B := x } ev qv pv :=
  ⟨h.n, h.rd.setB (by omega) h.mx.c3 (by intro x e; cases e) _, h.mx.s3 x, h.e8, h.q8, h.p8, (ch_set w N 3 _).cell h.x (by simp), fun j => by simpa [go_sem] using h.xz j, (ch_set w N 3 _).cell h.p (by simp), h.below.trans ((ch_set w N 3 _).to_below (Nat.le_of_lt (cell_lt h.mx.c0)) (fun x hx => by omega))⟩
theorem DS.s4 {N : Nat} {w0 w : World} {v : Value} {l : List Nat} {m : Ms} {ev qv pv : Value} (h : DS N w0 w v l m ev qv pv) (x : Int) : DS N w0 (w.setCell ⟨N, 4, none⟩ (.int .i64 x)) v l { m with A := x } ev qv pv :=
  ⟨h.n, h.rd.setB (by omega) h.mx.c4 (by intro x e; cases e) _, h.mx.s4 x, h.e8, h.q8, h.p8, (ch_set w N 4 _).cell h.x (by simp), fun j => by simpa [go_sem] using h.xz j, (ch_set w N 4 _).cell h.p (by simp), h.below.trans ((ch_set w N 4 _).to_below (Nat.le_of_lt (cell_lt h.mx.c0)) (fun x hx => by omega))⟩
theorem DS.s5 {N : Nat} {w0 w : World} {v : Value} {l : List Nat} {m : Ms} {ev qv pv : Value} (h : DS N w0 w v l m ev qv pv) (x : Int) : DS N w0 (w.setCell ⟨N, 5, none⟩ (.int .i64 x)) v l { m with C := x } ev qv pv :=
  ⟨h.n, h.rd.setB (by omega) h.mx.c5 (by intro x e; cases e) _, h.mx.s5 x, h.e8, h.q8, h.p8, (ch_set w N 5 _).cell h.x (by simp), fun j => by simpa [go_sem] using h.xz j, (ch_set w N 5 _).cell h.p (by simp), h.below.trans ((ch_set w N 5 _).to_below (Nat.le_of_lt (cell_lt h.mx.c0)) (fun x hx => by omega))⟩
theorem DS.s6 {N : Nat} {w0 w : World} {v : Value} {l : List Nat} {m : Ms} {ev qv pv : Value} (h : DS N w0 w v l m ev qv pv) (x : Value) (hx : ∀ y, x ≠ .int .u8 y) : DS N w0 (w.setCell ⟨N, 6, none⟩ (x)) v l m x qv pv :=
  ⟨h.n, h.rd.setB (by omega) h.mx.c6 h.e8 _, h.mx.s6 x, hx, h.q8, h.p8, (ch_set w N 6 _).cell h.x (by simp), fun j => by simpa [go_sem] using h.xz j, (ch_set w N 6 _).cell h.p (by simp), h.below.trans ((ch_set w N 6 _).to_below (Nat.le_of_lt (cell_lt h.mx.c0)) (fun x hx => by omega))⟩
theorem DS.s7 {N : Nat} {w0 w : World} {v : Value} {l : List Nat} {m : Ms} {ev qv pv : Value} (h : DS N w0 w v l m ev qv pv) (x : Value) (hx : ∀ y, x ≠ .int .u8 y) : DS N w0 (w.setCell ⟨N, 7, none⟩ (x)) v l m ev x pv :=
  ⟨h.n, h.rd.setB (by omega) h.mx.c7 h.q8 _, h.mx.s7 x, h.e8, hx, h.p8, (ch_set w N 7 _).cell h.x (by simp), fun j => by simpa [go_sem] using h.xz j, (ch_set w N 7 _).cell h.p (by simp), h.below.trans ((ch_set w N 7 _).to_below (Nat.le_of_lt (cell_lt h.mx.c0)) (fun x hx => by omega))⟩
theorem DS.s8 {N : Nat} {w0 w : World} {v : Value} {l : List Nat} {m : Ms} {ev qv pv : Value} (h : DS N w0 w v l m ev qv pv) (x : Value) (hx : ∀ y, x ≠ .int .u8 y) : DS N w0 (w.setCell ⟨N, 8, none⟩ (x)) v l m ev qv x :=
  ⟨h.n, h.rd.setB (by omega) h.mx.c8 h.p8 _, h.mx.s8 x, h.e8, h.q8, hx, (ch_set w N 8 _).cell h.x (by simp), fun j => by simpa [go_sem] using h.xz j, (ch_set w N 8 _).cell h.p (by simp), h.below.trans ((ch_set w N 8 _).to_below (Nat.le_of_lt (cell_lt h.mx.c0)) (fun x hx => by omega))⟩


/-- What Decode leaves. -/
def DGot (l : List Nat) (w : World) (e : Ending) (w' : World) : Prop :=
  ∃ ev qv pv, e = .returned (.tuple #[.agg #[.int .i64 ((decS l).1).K, .int .i64 ((decS l).1).F, .int .i64 ((decS l).1).T, .int .i64 ((decS l).1).B, .int .i64 ((decS l).1).A, .int .i64 ((decS l).1).C, ev, qv, pv], .int .i64 ((decS l).2 : Nat)]) ∧ w'.ownsRow w.heap.size 3 1 ev (decS l).1.E.length ((decS l).1.E.map (Value.int .i64)) ∧
    w'.ownsRow w.heap.size 56 1 qv (decS l).1.Q.length ((ib (decS l).1.Q).map (Value.int .u64)) ∧ w'.ownsRow w.heap.size 60 3 pv (decS l).1.P.length (flatQ (decS l).1.P) ∧ Below w.heap.size w w'
theorem own_nil {w : World} {base e s : Nat} : w.ownsRow base e s (.slice none 0 0) 0 [] := ⟨by simp, .inl ⟨rfl, rfl⟩⟩


/-- A panic's post asks of the frame no more than the answer's slots. -/
theorem leaves_tmps {P : Program} {fn : Func} {t t' : Array Value} {R : Ending → World → Prop} (h : results fn t = results fn t') : ∀ (ds : List Deferred) (u : FrameMode) (w : World), Leaves P fn t R ds u w = Leaves P fn t' R ds u w := by
  intro ds
  induction ds with
  | nil => intro u w; cases u <;> simp only [Leaves, h]
  | cons d ds ih => intro u w; simp only [Leaves, ih]
end Go.Proofs.Ytonnlhehbhiiiaa


