/- A net in memory. -/
import Derived.Test.YtonnlhehbhiiiaaNa

namespace Go.Proofs.Ytonnlhehbhiiiaa

open Go.RowKit Go.ChangeMaps



theorem Sv.ch {k : IntKind} {D : Nat → Prop} {w w' : World} {v : Value} {l : List Int} (h : Sv k w v l) (hc : Ch D w w') (hd : ∀ x, v.ownBlock = some x → l ≠ [] → ¬ D x) : Sv k w' v l := by
  obtain ⟨ao, cap, rfl, h1, h2, h3, h4⟩ := h
  refine ⟨ao, cap, rfl, h1, h2, h3, fun i hi => ?_⟩
  obtain ⟨b, off, rfl, e2⟩ := h4 i hi
  exact ⟨b, off, rfl, hc.cell e2 (hd b rfl (by rintro rfl; simp at hi))⟩
theorem Qv.ch {D : Nat → Prop} {w w' : World} {v : Value} {l : List Pr} (h : Qv w v l) (hc : Ch D w w') (hd : ∀ x, v.ownBlock = some x → l ≠ [] → ¬ D x) : Qv w' v l := by
  obtain ⟨⟨ao, cap, rfl, h1, h2, h3, h4⟩, h5⟩ := h
  refine ⟨⟨ao, cap, rfl, h1, h2, h3, fun i hi => ?_⟩, h5⟩
  obtain ⟨b, off, rfl, c0, c1, c2⟩ := h4 i hi
  have hx : ¬ D b := hd b rfl (by rintro rfl; simp at hi)
  exact ⟨b, off, rfl, hc.cell c0 hx, hc.cell c1 hx, hc.cell c2 hx⟩
theorem Ch.frozen {D : Nat → Prop} {w w' : World} {x j : Nat} (h : Ch D w w') (hx : x < w.heap.size) (hd : ¬ D x) : w'.frozen? ⟨x, j, none⟩ = w.frozen? ⟨x, j, none⟩ := by
  have := h.block x hx hd
  simp only [World.frozen?, this]
theorem Ch.mono {D E : Nat → Prop} {w w' : World} (h : Ch D w w') (k : ∀ x, D x → E x) : Ch E w w' := ⟨h.os, h.tape, h.output, h.size, fun x hx he => h.block x hx (fun hd => he (k x hd))⟩


/-- Block g has N cells, whatever they are. -/
def Rcl (w : World) (g N : Nat) : Prop := ∀ o, o < N → (∃ x, w.cell? ⟨g, o, none⟩ = some x) ∧ w.frozen? ⟨g, o, none⟩ = false
theorem Rcl.put {w : World} {g N : Nat} (h : Rcl w g N) (g' o' : Nat) (u : Value) : Rcl (w.setCell ⟨g', o', none⟩ u) g N := by
  intro o ho
  obtain ⟨⟨x, hx⟩, hz⟩ := h o ho
  by_cases e : (⟨g', o', none⟩ : Addr) = ⟨g, o, none⟩
  · cases e
    exact ⟨⟨u, by simp [go_sem, hx]⟩, by simpa [go_sem] using hz⟩
  · exact ⟨⟨x, by rw [World.cell?_setCell_other _ _ _ _ e]; exact hx⟩, by simpa [go_sem] using hz⟩
/-- The list v, n values of s cells each, is empty or lies in a block from lo up to hi. -/
def Rw (w : World) (lo hi : Nat) (v : Value) (n s : Nat) : Prop := n = 0 ∨ ∃ g cap, v = .slice (some ⟨g, 0, none⟩) n cap ∧ n ≤ cap ∧ cap ≤ maxLen ∧ lo ≤ g ∧ g < hi ∧ Rcl w g (n * s)
theorem rw_own {w : World} {base e s n hi : Nat} {v : Value} {xs : List Value} (h : w.ownsRow base e s v n xs) (hh : w.heap.size ≤ hi) : Rw w base hi v n s := by
  rcases h.2 with ⟨_, h0⟩ | ⟨g, cap, cur, rfl, hg, hh', hnc, hcm, hcs, htk⟩
  · exact .inl h0
  · have hl := (Array.getElem?_eq_some_iff.1 hh').1
    refine .inr ⟨g, cap, rfl, hnc, hcm, hg, by omega, fun o ho => ⟨?_, by simp [World.frozen?, hh']⟩⟩
    have hlt : o < cur.size := by rw [hcs]; exact Nat.lt_of_lt_of_le ho (Nat.mul_le_mul_right _ hnc)
    exact ⟨cur[o], by rw [cell_of_row w g o cur e (0, 0) hh']; simp [hlt]⟩
theorem Rw.put {w : World} {lo hi n s : Nat} {v : Value} (h : Rw w lo hi v n s) (g' o' : Nat) (u : Value) : Rw (w.setCell ⟨g', o', none⟩ u) lo hi v n s := by
  rcases h with h | ⟨g, cap, e, h1, h2, h3, h4, h5⟩
  · exact .inl h
  · exact .inr ⟨g, cap, e, h1, h2, h3, h4, h5.put g' o' u⟩
theorem Rw.wide {w : World} {lo lo' hi hi' n s : Nat} {v : Value} (h : Rw w lo hi v n s) (hl : lo' ≤ lo) (hh : hi ≤ hi') : Rw w lo' hi' v n s := by
  rcases h with h | ⟨g, cap, e, h1, h2, h3, h4, h5⟩
  · exact .inl h
  · exact .inr ⟨g, cap, e, h1, h2, by omega, by omega, h5⟩
theorem Rw.ch {D : Nat → Prop} {w w' : World} {lo hi n s : Nat} {v : Value} (h : Rw w lo hi v n s) (hc : Ch D w w') (hd : ∀ x, lo ≤ x → x < hi → ¬ D x) : Rw w' lo hi v n s := by
  rcases h with h | ⟨g, cap, e, h1, h2, h3, h4, h5⟩
  · exact .inl h
  · refine .inr ⟨g, cap, e, h1, h2, h3, h4, fun o ho => ?_⟩
    obtain ⟨⟨x, hx⟩, hz⟩ := h5 o ho
    have hg := hd g h3 h4
    exact ⟨⟨x, hc.cell hx hg⟩, by rw [hc.frozen (cell_lt hx) hg]; exact hz⟩
theorem Rw.in {w : World} {lo hi n s : Nat} {v : Value} (h : Rw w lo hi v n s) (hn : 0 < n) : ∀ x, v.ownBlock = some x → lo ≤ x ∧ x < hi := by
  rcases h with h | ⟨g, cap, rfl, h1, h2, h3, h4, h5⟩
  · omega
  · intro x hx; cases hx; exact ⟨h3, h4⟩


/-- A message whose lists lie in blocks from lo up to hi. -/
structure Mo (w : World) (lo hi : Nat) (m : Ms) (ev qv pv : Value) : Prop where
  l : ML w m ev qv pv
  e : Rw w lo hi ev m.E.length 1
  q : Rw w lo hi qv m.Q.length 1
  p : Rw w lo hi pv m.P.length 3
theorem Mo.ch {D : Nat → Prop} {w w' : World} {lo hi : Nat} {m : Ms} {ev qv pv : Value} (h : Mo w lo hi m ev qv pv) (hc : Ch D w w') (hd : ∀ x, lo ≤ x → x < hi → ¬ D x) : Mo w' lo hi m ev qv pv :=
  ⟨⟨h.l.e.ch hc (fun x hx hne => by have := h.e.in (List.length_pos_iff.2 hne) x hx; exact hd x this.1 this.2),
    Sv.ch h.l.q hc (fun x hx hne => by have := h.q.in (List.length_pos_iff.2 (by rintro e; rw [e] at hne; exact hne rfl)) x hx; exact hd x this.1 this.2),
    h.l.p.ch hc (fun x hx hne => by have := h.p.in (List.length_pos_iff.2 hne) x hx; exact hd x this.1 this.2)⟩, h.e.ch hc hd, h.q.ch hc hd, h.p.ch hc hd⟩
theorem Mo.wide {w : World} {lo lo' hi hi' : Nat} {m : Ms} {ev qv pv : Value} (h : Mo w lo hi m ev qv pv) (hl : lo' ≤ lo) (hh : hi ≤ hi') : Mo w lo' hi' m ev qv pv := ⟨h.l, h.e.wide hl hh, h.q.wide hl hh, h.p.wide hl hh⟩


/-- One that is on its way, in memory. -/
structure Eo (w : World) (x : En) : Prop where
  mo : Mo w x.lo x.hi x.m x.e x.q x.p
  ok : x.m.ok
  hi : x.hi ≤ w.heap.size
theorem Eo.ch {D : Nat → Prop} {w w' : World} {x : En} (h : Eo w x) (hc : Ch D w w') (hd : ∀ y, x.lo ≤ y → y < x.hi → ¬ D y) : Eo w' x := ⟨h.mo.ch hc hd, h.ok, Nat.le_trans h.hi hc.size⟩
theorem Eo.below {w w' : World} {x : En} (h : Eo w x) (hb : Below w.heap.size w w') : Eo w' x := h.ch (D := fun _ => False) (Ch.of_below hb) (fun _ _ _ e => e)


/-- Block P holds a net: its map is block b, its room k, its next number nx; L is on its way. -/
structure Nt (w : World) (P b k nx : Nat) (L : List En) : Prop where
  c0 : w.cell? ⟨P, 0, none⟩ = some (.int .i64 k)
  c1 : w.cell? ⟨P, 1, none⟩ = some (.int .i64 nx)
  c2 : w.cell? ⟨P, 2, none⟩ = some (.map (some b))
  z : ∀ j, w.frozen? ⟨P, j, none⟩ = false
  own : w.ownsMap Try.prog 3 heldE b L.length (dM L)
  rise : L.Pairwise (fun x y => x.n < y.n ∧ x.hi ≤ y.lo)
  lt : ∀ x ∈ L, x.n < nx
  snd : ∀ x ∈ L, sndM x.m = true
  ent : ∀ x ∈ L, Eo w x
  off : ∀ x ∈ L, P < x.lo ∧ b < x.lo
  len : L.length ≤ k
  room : k ≤ 4096
  pb : P ≠ b
theorem Nt.ltP {w : World} {P b k nx : Nat} {L : List En} (h : Nt w P b k nx L) : P < w.heap.size := cell_lt h.c0
theorem Nt.ltb {w : World} {P b k nx : Nat} {L : List En} (h : Nt w P b k nx L) : b < w.heap.size := World.ownsMap.lt h.own
theorem own_mapC {D : Nat → Prop} {w w' : World} {b n : Nat} {d : DataW Value} (h : w.ownsMap Try.prog 3 heldE b n d) (hc : Ch D w w') (hd : ¬ D b) : w'.ownsMap Try.prog 3 heldE b n d := by
  have hl := World.ownsMap.lt h
  obtain ⟨es, clock, hb, r⟩ := h
  exact ⟨es, clock, by rw [hc.block b hl hd]; exact hb, r⟩
/-- The blocks of a net. -/
def Bk (P b : Nat) (L : List En) (x : Nat) : Prop := x = P ∨ x = b ∨ ∃ y ∈ L, y.lo ≤ x ∧ x < y.hi
theorem Nt.ch {D : Nat → Prop} {w w' : World} {P b k nx : Nat} {L : List En} (h : Nt w P b k nx L) (hc : Ch D w w') (hd : ∀ x, D x → ¬ Bk P b L x) : Nt w' P b k nx L := by
  have hP : ¬ D P := fun e => hd P e (.inl rfl)
  have hb : ¬ D b := fun e => hd b e (.inr (.inl rfl))
  exact ⟨hc.cell h.c0 hP, hc.cell h.c1 hP, hc.cell h.c2 hP, fun j => by rw [hc.frozen h.ltP hP]; exact h.z j, own_mapC h.own hc hb, h.rise, h.lt, h.snd,
    fun x hx => (h.ent x hx).ch hc (fun y h1 h2 e => hd y e (.inr (.inr ⟨x, hx, h1, h2⟩))), h.off, h.len, h.room, h.pb⟩
theorem Nt.below {w w' : World} {P b k nx : Nat} {L : List En} (h : Nt w P b k nx L) (hb : Below w.heap.size w w') : Nt w' P b k nx L := h.ch (D := fun _ => False) (Ch.of_below hb) (fun _ e => e.elim)
theorem own_tight {w : World} {b n : Nat} {L : List En} (h : w.ownsMap Try.prog 3 heldE b n (dM L)) : w.ownsMap Try.prog 3 heldE b L.length (dM L) := by
  obtain ⟨es, clock, hb, F, hs, hD⟩ := h
  refine ⟨es, clock, hb, F, ?_, hD⟩
  have h1 := length_read (P := Try.prog) (k := 3) (R0 := heldE) es
  have h2 : (L.map entM).length = es.size := by
    unfold dM at hD
    injection hD with e
    rw [e, h1]
  simp at h2
  omega
theorem law_i : Maps.Keyed Try.prog 3 := Maps.int_keyed Try.underlying3
theorem key_i {k : Int} (hk : in64 k) : keyOf Try.prog 3 (.int .i64 k) = some (kI k) := by
  refine Maps.keyOf_int_mk Try.underlying3 ?_
  have := hk.1
  have := hk.2
  simp [Lit.wf, IntKind.min, IntKind.max, IntKind.signed, IntKind.bits]
  omega
def zMsg : Value := .agg #[.int .i64 zeroMs.K, .int .i64 zeroMs.F, .int .i64 zeroMs.T, .int .i64 zeroMs.B, .int .i64 zeroMs.A, .int .i64 zeroMs.C, .slice none 0 0, .slice none 0 0, .slice none 0 0]
theorem look_in {w : World} {b n : Nat} {L : List En} (h : w.ownsMap Try.prog 3 heldE b n (dM L)) {k : Int} (hk : in64 k) {x : En} (hx : atN L k = some x) :
    (Instr.lookup 63 (.map (some b)) (.int .i64 k) true).run Try.prog w = .ok (.tuple #[mvE x, .bool true]) w := by
  have hz : (zeroValue 35).run Try.prog w = .ok zMsg w := Try.zeroValue35 w
  obtain ⟨v, ps, hrun, hv⟩ := World.ownsMap.look_ok h law_i Try.underlying63 hz (show heldE zMsg = some (.held zMsg, []) from rfl) (key_i hk)
  rw [has_M, hx] at hrun
  rw [atKey_M, hx] at hv
  simp only [heldE, Option.some.injEq, Prod.mk.injEq, DataW.held.injEq] at hv
  rw [hv.1] at hrun
  exact hrun
theorem look_out {w : World} {b n : Nat} {L : List En} (h : w.ownsMap Try.prog 3 heldE b n (dM L)) {k : Int} (hk : in64 k) (hx : atN L k = none) :
    (Instr.lookup 63 (.map (some b)) (.int .i64 k) true).run Try.prog w = .ok (.tuple #[zMsg, .bool false]) w := by
  have hz : (zeroValue 35).run Try.prog w = .ok zMsg w := Try.zeroValue35 w
  obtain ⟨v, ps, hrun, hv⟩ := World.ownsMap.look_ok h law_i Try.underlying63 hz (show heldE zMsg = some (.held zMsg, []) from rfl) (key_i hk)
  rw [has_M, hx] at hrun
  rw [atKey_M, hx] at hv
  simp only [heldE, Option.some.injEq, Prod.mk.injEq, DataW.held.injEq] at hv
  rw [hv.1] at hrun
  exact hrun
theorem look_one {w : World} {b n : Nat} {L : List En} (h : w.ownsMap Try.prog 3 heldE b n (dM L)) {k : Int} (hk : in64 k) {x : En} (hx : atN L k = some x) :
    (Instr.lookup 63 (.map (some b)) (.int .i64 k) false).run Try.prog w = .ok (mvE x) w := by
  have hz : (zeroValue 35).run Try.prog w = .ok zMsg w := Try.zeroValue35 w
  obtain ⟨v, ps, hrun, hv⟩ := World.ownsMap.lookup h law_i Try.underlying63 hz (show heldE zMsg = some (.held zMsg, []) from rfl) (key_i hk)
  rw [atKey_M, hx] at hv
  simp only [heldE, Option.some.injEq, Prod.mk.injEq, DataW.held.injEq] at hv
  rw [hv.1] at hrun
  exact hrun
theorem map_len {w : World} {b n : Nat} {L : List En} (h : w.ownsMap Try.prog 3 heldE b n (dM L)) (ty : TypeId) : (Builtin.len_ #[63] ty #[.map (some b)]).run Try.prog w = .ok (.int .i64 L.length) w := by
  have := World.ownsMap.len (w := w) h Try.underlying63 ty
  rwa [size_M] at this
end Go.Proofs.Ytonnlhehbhiiiaa


