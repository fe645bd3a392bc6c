/- A source in memory: its blocks, apart from one another; partitions looked up. -/
import Derived.Test.YtjkhegekojflhabVr
namespace Go.Proofs.Ytjkhegekojflhab
open Ieee Go.RowKit

structure Sc where
  list : List Stp
  np : Nat
  logs : Nat → List Rcd
  on : Nat → Bool
  keys : List Nat

def upd {α : Type} (f : Nat → α) (p : Nat) (x : α) : Nat → α := fun q => if q = p then x else f q
theorem upd_same {α : Type} (f : Nat → α) (p : Nat) (x : α) : upd f p x p = x := if_pos rfl
theorem upd_other {α : Type} (f : Nat → α) {p q : Nat} (x : α) (h : q ≠ p) : upd f p x q = f q := if_neg h

def keepsS (S : Sc) (r : Rcd) : Prop := (runS S.list r).1 = 1
def keyS (S : Sc) (r : Rcd) : Nat := (runS S.list r).2.k

structure Sc.ok (S : Sc) : Prop where
  np1 : 1 ≤ S.np
  np4 : S.np ≤ 4
  chk : checkB S.list = true
  lok : ∀ o ∈ S.list, o.ok
  len : ∀ p, (S.logs p).length ≤ 256
  rok : ∀ p, ∀ r ∈ S.logs p, r.ok
  kl : S.keys.length ≤ 64
  kr : RiseK S.keys
  kb : ∀ k ∈ S.keys, k < 18446744073709551616
  mem : ∀ k, k ∈ S.keys ↔ ∃ p, p < S.np ∧ ∃ r ∈ S.logs p, (runS S.list r).1 = 1 ∧ (runS S.list r).2.k = k

/-- The source S lies in the blocks sb (itself), gp (its partitions), gm (its keys), lv's (its pipeline), rv's (the records); all of them are of D. -/
structure SM (D : Nat → Prop) (w : World) (sb gp gm : Nat) (lv : Value) (rv : Nat → Value) (S : Sc) : Prop where
  head : w.heap[sb]? = some (.cells #[lv, .slice (some ⟨gp, 0, none⟩) S.np S.np, .map (some gm)] 73 (0, 0))
  part : ∃ cur, w.heap[gp]? = some (.cells cur 75 (0, 0)) ∧ cur.size = S.np * 2 ∧ ∀ p, p < S.np → cur[p * 2]? = some (rv p) ∧ cur[p * 2 + 1]? = some (.bool (S.on p))
  keys : Ks w gm S.keys
  list : Ov w lv S.list
  rows : ∀ p, p < S.np → w.ownsRow 0 40 2 (rv p) (S.logs p).length (flatR (S.logs p))
  a1 : sb ≠ gp
  a2 : sb ≠ gm
  a3 : gp ≠ gm
  a4 : ∀ p x, p < S.np → (rv p).ownBlock = some x → x ≠ sb ∧ x ≠ gp ∧ x ≠ gm ∧ lv.ownBlock ≠ some x
  a5 : ∀ x, lv.ownBlock = some x → x ≠ sb ∧ x ≠ gp ∧ x ≠ gm
  a6 : ∀ p q x, p < S.np → q < S.np → p ≠ q → (rv p).ownBlock = some x → (rv q).ownBlock ≠ some x
  d1 : D sb ∧ D gp ∧ D gm
  d2 : ∀ p x, p < S.np → (rv p).ownBlock = some x → D x
  d3 : ∀ x, lv.ownBlock = some x → D x
  dl : ∀ x, D x → x < w.heap.size

/-- The value v is a source that is S; its memory is of D. -/
def Src (D : Nat → Prop) (w : World) (v : Value) (S : Sc) : Prop := ∃ sb gp gm lv rv, v = .pointer (some ⟨sb, 0, none⟩) ∧ SM D w sb gp gm lv rv S ∧ S.ok

theorem Ov.keep {w w' : World} {v : Value} {l : List Stp} (h : Ov w v l) (hk : ∀ x, v.ownBlock = some x → w'.heap[x]? = w.heap[x]?) : Ov w' v l := by
  obtain ⟨⟨ao, cap, rfl, h1, h2, h3, h4⟩, h5⟩ := h
  refine ⟨⟨ao, cap, rfl, h1, h2, h3, fun i hi => ?_⟩, h5⟩
  obtain ⟨b, off, rfl, c0, c1, c2⟩ := h4 i hi
  have hb := hk b rfl
  exact ⟨b, off, rfl, by rw [World.cell?_of_block (w := w) hb]; exact c0, by rw [World.cell?_of_block (w := w) hb]; exact c1, by rw [World.cell?_of_block (w := w) hb]; exact c2⟩
theorem row_keep {w w' : World} {base e s n : Nat} {v : Value} {xs : List Value} (h : w.ownsRow base e s v n xs) (hk : ∀ x, v.ownBlock = some x → w'.heap[x]? = w.heap[x]?) : w'.ownsRow base e s v n xs := by
  refine ⟨h.1, ?_⟩
  rcases h.2 with h0 | ⟨g, cap, cur, rfl, hb, hg, r⟩
  · exact .inl h0
  · exact .inr ⟨g, cap, cur, rfl, hb, by rw [hk g rfl]; exact hg, r⟩
theorem row_base {w : World} {base b' e s n : Nat} {v : Value} {xs : List Value} (h : w.ownsRow base e s v n xs) (hb : ∀ x, v.ownBlock = some x → b' ≤ x) : w.ownsRow b' e s v n xs := by
  refine ⟨h.1, ?_⟩
  rcases h.2 with h0 | ⟨g, cap, cur, rfl, _, r⟩
  · exact .inl h0
  · exact .inr ⟨g, cap, cur, rfl, hb g rfl, r⟩
theorem row_form {w : World} {base e s n : Nat} {v : Value} {xs : List Value} (h : w.ownsRow base e s v n xs) : ∃ ao cap, v = .slice ao n cap ∧ n ≤ cap ∧ cap ≤ maxLen := by
  rcases h.2 with ⟨rfl, rfl⟩ | ⟨g, cap, cur, rfl, hb, hg, h1, h2, _⟩
  · exact ⟨none, 0, rfl, Nat.le_refl _, by simp [maxLen]⟩
  · exact ⟨_, cap, rfl, h1, h2⟩

theorem SM.keep {D : Nat → Prop} {w w' : World} {sb gp gm : Nat} {lv : Value} {rv : Nat → Value} {S : Sc} (h : SM D w sb gp gm lv rv S) (hk : ∀ x, D x → w'.heap[x]? = w.heap[x]?) (hs : w.heap.size ≤ w'.heap.size) : SM D w' sb gp gm lv rv S := by
  obtain ⟨cur, p1, p2, p3⟩ := h.part
  exact ⟨by rw [hk _ h.d1.1]; exact h.head, ⟨cur, by rw [hk _ h.d1.2.1]; exact p1, p2, p3⟩, h.keys.kept (hk _ h.d1.2.2), h.list.keep (fun x hx => hk x (h.d3 x hx)), fun p hp => row_keep (h.rows p hp) (fun x hx => hk x (h.d2 p x hp hx)),
    h.a1, h.a2, h.a3, h.a4, h.a5, h.a6, h.d1, h.d2, h.d3, fun x hx => Nat.lt_of_lt_of_le (h.dl x hx) hs⟩
theorem Src.keep {D : Nat → Prop} {w w' : World} {v : Value} {S : Sc} (h : Src D w v S) (hk : ∀ x, D x → w'.heap[x]? = w.heap[x]?) (hs : w.heap.size ≤ w'.heap.size) : Src D w' v S := by
  obtain ⟨sb, gp, gm, lv, rv, e, h1, h2⟩ := h
  exact ⟨sb, gp, gm, lv, rv, e, h1.keep hk hs, h2⟩
theorem Src.lt {D : Nat → Prop} {w : World} {v : Value} {S : Sc} (h : Src D w v S) {x : Nat} (hx : D x) : x < w.heap.size := by
  obtain ⟨sb, gp, gm, lv, rv, e, h1, h2⟩ := h
  exact h1.dl x hx
theorem Src.good {D : Nat → Prop} {w : World} {v : Value} {S : Sc} (h : Src D w v S) : S.ok := by
  obtain ⟨sb, gp, gm, lv, rv, e, h1, h2⟩ := h
  exact h2
theorem Src.below {D : Nat → Prop} {w w' : World} {v : Value} {S : Sc} (h : Src D w v S) (hb : Below w.heap.size w w') : Src D w' v S := h.keep (fun x hx => hb.block x (h.lt hx)) hb.size
theorem SM.below {D : Nat → Prop} {w w' : World} {sb gp gm : Nat} {lv : Value} {rv : Nat → Value} {S : Sc} (h : SM D w sb gp gm lv rv S) (hb : Below w.heap.size w w') : SM D w' sb gp gm lv rv S := h.keep (fun x hx => hb.block x (h.dl x hx)) hb.size

/-- The world has turned in blocks of D alone. -/
structure Ch (D : Nat → Prop) (w w' : World) : Prop where
  os : w'.os = w.os
  tape : w'.tape = w.tape
  output : w'.output = w.output
  size : w.heap.size ≤ w'.heap.size
  block : ∀ k, k < w.heap.size → ¬ D k → w'.heap[k]? = w.heap[k]?
theorem Ch.refl (D : Nat → Prop) (w : World) : Ch D w w := ⟨rfl, rfl, rfl, Nat.le_refl _, fun _ _ _ => rfl⟩
theorem Ch.trans {D E : Nat → Prop} {a b c : World} (h : Ch D a b) (k : Ch E b c) (he : ∀ x, E x → D x ∨ a.heap.size ≤ x) : Ch D a c :=
  ⟨k.os.trans h.os, k.tape.trans h.tape, k.output.trans h.output, Nat.le_trans h.size k.size, fun x hx hd => by
    rw [k.block x (Nat.lt_of_lt_of_le hx h.size) (fun e => by rcases he x e with q | q; exact hd q; omega), h.block x hx hd]⟩
theorem Ch.of_below {D : Nat → Prop} {w w' : World} (h : Below w.heap.size w w') : Ch D w w' := ⟨h.os, h.tape, h.output, h.size, fun k hk _ => h.block k hk⟩
theorem Ch.to_below {D : Nat → Prop} {w w' : World} {B : Nat} (h : Ch D w w') (hB : B ≤ w.heap.size) (hd : ∀ x, D x → B ≤ x) : Below B w w' := ⟨h.os, h.tape, h.output, h.size, fun k hk => h.block k (by omega) (fun e => by have := hd k e; omega)⟩
theorem Ch.of_grown {D : Nat → Prop} {w w' : World} {r : Option Nat} (h : w.grownBy w' r) (hr : ∀ x, r = some x → D x) : Ch D w w' := ⟨h.os, h.tape, h.output, h.size, fun k hk hd => h.block k hk (fun e => hd (hr k e.symm))⟩

section
variable {D : Nat → Prop} {w : World} {sb gp gm : Nat} {lv : Value} {rv : Nat → Value} {S : Sc}
theorem SM.c0 (h : SM D w sb gp gm lv rv S) : w.cell? ⟨sb, 0, none⟩ = some lv := by rw [cell_of_row w sb 0 _ _ (0, 0) h.head]; rfl
theorem SM.c1 (h : SM D w sb gp gm lv rv S) : w.cell? ⟨sb, 1, none⟩ = some (.slice (some ⟨gp, 0, none⟩) S.np S.np) := by rw [cell_of_row w sb 1 _ _ (0, 0) h.head]; rfl
theorem SM.c2 (h : SM D w sb gp gm lv rv S) : w.cell? ⟨sb, 2, none⟩ = some (.map (some gm)) := by rw [cell_of_row w sb 2 _ _ (0, 0) h.head]; rfl
theorem SM.p0 (h : SM D w sb gp gm lv rv S) {p : Nat} (hp : p < S.np) : w.cell? ⟨gp, p * 2, none⟩ = some (rv p) := by
  obtain ⟨cur, h1, h2, h3⟩ := h.part
  rw [cell_of_row w gp _ _ _ (0, 0) h1]; exact (h3 p hp).1
theorem SM.p1 (h : SM D w sb gp gm lv rv S) {p : Nat} (hp : p < S.np) : w.cell? ⟨gp, p * 2 + 1, none⟩ = some (.bool (S.on p)) := by
  obtain ⟨cur, h1, h2, h3⟩ := h.part
  rw [cell_of_row w gp _ _ _ (0, 0) h1]; exact (h3 p hp).2
theorem SM.soft (h : SM D w sb gp gm lv rv S) (x : Nat) : w.frozen? ⟨gp, x, none⟩ = false := by
  obtain ⟨cur, h1, h2, h3⟩ := h.part
  simp [World.frozen?, h1]
theorem SM.recs (h : SM D w sb gp gm lv rv S) (hok : S.ok) {p : Nat} (hp : p < S.np) : Rv w (rv p) (S.logs p) := own_rv (h.rows p hp) (hok.rok p)

theorem part_nil (p : Int) (w : World) :
    Calls Try.prog 30 #[.pointer none, .int .i64 p] w fun e w' => e = .returned (.tuple #[.pointer none, .int .i64 2]) ∧ w' = w := by
  go_enter Try.func30, Try.ntmps30
  go_wp2_with fail
  go_ret2
  exact ⟨rfl, rfl⟩

theorem part_no {p : Int} (h : SM D w sb gp gm lv rv S) (hok : S.ok) (hp : p < 0 ∨ (S.np : Int) ≤ p) :
    Calls Try.prog 30 #[.pointer (some ⟨sb, 0, none⟩), .int .i64 p] w fun e w' => e = .returned (.tuple #[.pointer none, .int .i64 60]) ∧ w' = w := by
  have c1 := h.c1
  have h4 := hok.np4
  clear h hok
  by_cases hp0 : p < 0
  · go_enter Try.func30, Try.ntmps30
    go_wp2_with fail
    go_ret2
    exact ⟨rfl, rfl⟩
  · have hp1 : (S.np : Int) ≤ p := by omega
    clear hp
    go_enter Try.func30, Try.ntmps30
    go_wp2_with fail
    go_ret2
    exact ⟨rfl, rfl⟩

theorem part_ok {p : Nat} (h : SM D w sb gp gm lv rv S) (hok : S.ok) (hp : p < S.np) :
    Calls Try.prog 30 #[.pointer (some ⟨sb, 0, none⟩), .int .i64 p] w fun e w' => e = .returned (.tuple #[.pointer (some ⟨gp, p * 2, none⟩), .int .i64 0]) ∧ w' = w := by
  have c1 := h.c1
  have h4 := hok.np4
  clear h hok
  go_enter Try.func30, Try.ntmps30
  go_wp2_with fail
  go_ret2
  exact ⟨rfl, rfl⟩
end
end Go.Proofs.Ytjkhegekojflhab
