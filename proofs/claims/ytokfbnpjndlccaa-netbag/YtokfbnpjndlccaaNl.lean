/- A script in memory; what a call leaves, whatever its way. -/
import Derived.Test.YtokfbnpjndlccaaNk

namespace Go.Proofs.Ytokfbnpjndlccaa

open Go.RowKit



/-- One call of a script. -/
structure Oq where
  c : Int
  o : Int
  k : Int
  m : Ms
  e : Value
  q : Value
  p : Value
def cellsO (x : Oq) : List Value := [.int .i64 x.c, .int .i64 x.o, .int .i64 x.k, .int .i64 x.m.K, .int .i64 x.m.F, .int .i64 x.m.T, .int .i64 x.m.B, .int .i64 x.m.A, .int .i64 x.m.C, x.e, x.q, x.p]
structure Oq.ok (x : Oq) : Prop where
  c : in64 x.c
  o : in64 x.o
  k : in64 x.k
  m : x.m.ok
/-- A slice that holds a script. -/
structure Sc (w : World) (v : Value) (l : List Oq) : Prop where
  form : ∃ ao cap, v = .slice ao l.length cap ∧ l.length ≤ maxLen ∧ ∀ i, (h : i < l.length) → ∃ b off, ao = some ⟨b, off, none⟩ ∧ ∀ j u, (cellsO l[i])[j]? = some u → w.cell? ⟨b, off + i * 12 + j, none⟩ = some u
  ml : ∀ x ∈ l, ML w x.m x.e x.q x.p
  ok : ∀ x ∈ l, x.ok
theorem Sc.below {w w' : World} {v : Value} {l : List Oq} (h : Sc w v l) (hb : Below w.heap.size w w') : Sc w' v l := by
  refine ⟨?_, fun x hx => (h.ml x hx).below hb, h.ok⟩
  obtain ⟨ao, cap, e, hl, hc⟩ := h.form
  refine ⟨ao, cap, e, hl, fun i hi => ?_⟩
  obtain ⟨b, off, e1, e2⟩ := hc i hi
  exact ⟨b, off, e1, fun j u hj => by rw [hb.cell (p := ⟨b, off + i * 12 + j, none⟩) (cell_lt (e2 j u hj))]; exact e2 j u hj⟩
/-- A call's cells, told. -/
structure Ox (w : World) (b off : Nat) (x : Oq) : Prop where
  c0 : w.cell? ⟨b, off, none⟩ = some (.int .i64 x.c)
  c1 : w.cell? ⟨b, off + 1, none⟩ = some (.int .i64 x.o)
  c2 : w.cell? ⟨b, off + 2, none⟩ = some (.int .i64 x.k)
  m0 : w.cell? ⟨b, off + 3, none⟩ = some (.int .i64 x.m.K)
  m1 : w.cell? ⟨b, off + 3 + 1, none⟩ = some (.int .i64 x.m.F)
  m2 : w.cell? ⟨b, off + 3 + 2, none⟩ = some (.int .i64 x.m.T)
  m3 : w.cell? ⟨b, off + 3 + 3, none⟩ = some (.int .i64 x.m.B)
  m4 : w.cell? ⟨b, off + 3 + 4, none⟩ = some (.int .i64 x.m.A)
  m5 : w.cell? ⟨b, off + 3 + 5, none⟩ = some (.int .i64 x.m.C)
  m6 : w.cell? ⟨b, off + 3 + 6, none⟩ = some x.e
  m7 : w.cell? ⟨b, off + 3 + 7, none⟩ = some x.q
  m8 : w.cell? ⟨b, off + 3 + 8, none⟩ = some x.p
theorem sc_at {w : World} {ao : Option Addr} {n cap : Nat} {l : List Oq} (h : Sc w (.slice ao n cap) l) {i : Nat} (hi : i < l.length) : ∃ b off, ao = some ⟨b, off, none⟩ ∧ Ox w b (off + i * 12) l[i] := by
  obtain ⟨ao', cap', e, _, h4⟩ := h.form
  simp only [Value.slice.injEq] at e
  obtain ⟨b, off, e1, e2⟩ := h4 i hi
  exact ⟨b, off, by rw [e.1, e1], e2 0 _ rfl, e2 1 _ rfl, e2 2 _ rfl, e2 3 _ rfl, e2 4 _ rfl, e2 5 _ rfl, e2 6 _ rfl, e2 7 _ rfl, e2 8 _ rfl, e2 9 _ rfl, e2 10 _ rfl, e2 11 _ rfl⟩


/-- A call of a net leaves a net. -/
def NyGot (w : World) (P b r nx : Nat) (e : Ending) (w' : World) : Prop := ∃ v nx' L', e = .returned v ∧ Nt w' P b r nx' L' ∧ nx' ≤ nx + 1 ∧ Ch (fun x => x = P ∨ x = b) w w'
theorem la_any {w w' : World} {P b r nx : Nat} {L : List En} {m : Ms} {e : Ending} (hn : Nt w P b r nx L) (h : LaGot w P b r nx L m e w') : NyGot w P b r nx e w' := by
  rcases h with ⟨_, rfl, hb⟩ | ⟨_, rfl, en, _, _, h3, _, h5⟩
  · exact ⟨_, nx, L, rfl, hn.below hb, by omega, Ch.of_below hb⟩
  · exact ⟨_, nx + 1, _, rfl, h3, Nat.le_refl _, h5⟩
theorem send_any {w : World} {P b r nx : Nat} {L : List En} {m : Ms} {ev qv pv : Value} (hn : Nt w P b r nx L) (h : ML w m ev qv pv) (hok : m.ok) (hnx : nx < 9223372036854775800) :
    Calls Try.prog 16 #[.pointer (some ⟨P, 0, none⟩), .agg #[.int .i64 m.K, .int .i64 m.F, .int .i64 m.T, .int .i64 m.B, .int .i64 m.A, .int .i64 m.C, ev, qv, pv]] w (NyGot w P b r nx) := by
  refine (send_walk hn h hok hnx).mono ?_
  rintro e w' (⟨_, rfl, hb⟩ | ⟨_, h⟩)
  · exact ⟨_, nx, L, rfl, hn.below hb, by omega, Ch.of_below hb⟩
  · exact la_any hn h
theorem deliver_any {w : World} {P b r nx : Nat} {L : List En} {k : Int} (hn : Nt w P b r nx L) (hk : in64 k) : Calls Try.prog 19 #[.pointer (some ⟨P, 0, none⟩), .int .i64 k] w (NyGot w P b r nx) := by
  cases hat : atN L k with
  | none =>
    refine (deliver_out hn hk hat).mono ?_
    rintro e w' ⟨rfl, hb⟩
    exact ⟨_, nx, L, rfl, hn.below hb, by omega, Ch.of_below hb⟩
  | some x =>
    refine (deliver_in hn hk hat).mono ?_
    rintro e w' ⟨rfl, h1, h2⟩
    exact ⟨_, nx, _, rfl, h1, by omega, h2.mono (fun x hx => .inr hx)⟩
theorem copy_any {w : World} {P b r nx : Nat} {L : List En} {k : Int} (hn : Nt w P b r nx L) (hk : in64 k) (hnx : nx < 9223372036854775800) : Calls Try.prog 17 #[.pointer (some ⟨P, 0, none⟩), .int .i64 k] w (NyGot w P b r nx) := by
  cases hat : atN L k with
  | none =>
    refine (copy_out hn hk hat).mono ?_
    rintro e w' ⟨rfl, hb⟩
    exact ⟨_, nx, L, rfl, hn.below hb, by omega, Ch.of_below hb⟩
  | some x =>
    refine (copy_in hn hk hat hnx).mono ?_
    intro e w' h
    exact la_any hn h
end Go.Proofs.Ytokfbnpjndlccaa


