/- The net, plain mathematics: messages by their numbers as a map's entries. -/
import Derived.Test.YtonnlhehbhiiiaaJe

import Derived.Maps.OwnSet

namespace Go.Proofs.Ytonnlhehbhiiiaa

open Go.RowKit Go.ChangeMaps



/-- A message on its way: its number, the message, its lists, and that these lie in blocks from lo up to hi. -/
structure En where
  n : Nat
  m : Ms
  e : Value
  q : Value
  p : Value
  lo : Nat
  hi : Nat
def mvE (x : En) : Value := .agg #[.int .i64 x.m.K, .int .i64 x.m.F, .int .i64 x.m.T, .int .i64 x.m.B, .int .i64 x.m.A, .int .i64 x.m.C, x.e, x.q, x.p]
/-- Whatever a value is, it is read as itself. -/
def heldE (v : Value) : Option (DataW Value × List MemPlace) := some (.held v, [])
def kI (k : Int) : Lit := .int .i64 k
def entM (x : En) : Lit × DataW Value := (kI x.n, .held (mvE x))
def dM (L : List En) : DataW Value := .map (L.map entM)
/-- The one with this number. -/
def atN (L : List En) (k : Int) : Option En := L.find? fun x => decide ((x.n : Int) = k)
def outN (L : List En) (k : Int) : List En := L.filter fun x => !decide ((x.n : Int) = k)
def RiseE (L : List En) : Prop := L.Pairwise (fun x y => x.n < y.n)


theorem kI_same (a b : Int) : (kI a).sameKey (kI b) = decide (a = b) := by
  unfold kI Lit.sameKey
  by_cases h : a = b
  · subst h; simp
  · simp [h]
theorem kI_before (a b : Int) : (kI a).before (kI b) = decide (a < b) := by
  unfold kI Lit.before
  simp
theorem size_M (L : List En) : Maps.size (dM L) = L.length := by simp [Maps.size, dM]
theorem has_M (L : List En) (k : Int) : Maps.has (dM L) (kI k) = (atN L k).isSome := by
  unfold dM
  rw [Maps.has_eq]
  induction L with
  | nil => simp [atN]
  | cons a t ih =>
    rw [List.map_cons, List.any_cons, ih]
    show ((kI a.n).sameKey (kI k) || _) = _
    rw [kI_same]
    unfold atN
    rw [List.find?_cons]
    by_cases h : (a.n : Int) = k
    · simp [h]
    · simp [h]
theorem atKey_M (L : List En) (k : Int) (z : DataW Value) : (dM L).atKey (kI k) z = match atN L k with | some x => .held (mvE x) | none => z := by
  unfold dM DataW.atKey atN
  simp only
  induction L with
  | nil => rfl
  | cons a t ih =>
    rw [List.map_cons, List.find?_cons, List.find?_cons]
    have e : (entM a).1.sameKey (kI k) = decide ((a.n : Int) = k) := kI_same _ _
    rw [e]
    by_cases h : (a.n : Int) = k
    · simp [h, entM]
    · simp only [h, decide_false]; exact ih
theorem filter_out (L : List En) (k : Int) : (L.map entM).filter (notKey (kI k)) = (outN L k).map entM := by
  unfold outN
  rw [List.filter_map]
  congr 1
  refine List.filter_congr fun x _ => ?_
  show notKey (kI k) (entM x) = _
  unfold notKey entM
  rw [kI_same]
theorem del_M (L : List En) (k : Int) : (dM L).del (kI k) = dM (outN L k) := by
  unfold dM
  rw [DataW.del_eq]
  congr 1
  exact filter_out L k
theorem out_above {L : List En} {n : Nat} (h : ∀ x ∈ L, x.n < n) : outN L (n : Int) = L := by
  refine List.filter_eq_self.2 fun x hx => ?_
  have := h x hx
  simp; omega
theorem insert_end {L : List En} {x : En} (h : ∀ y ∈ L, y.n < x.n) : DataW.insert (entM x) (L.map entM) = (L ++ [x]).map entM := by
  induction L with
  | nil => rfl
  | cons a t ih =>
    have ha := h a (by simp)
    rw [List.map_cons, DataW.insert, if_neg (by show ¬ ((kI x.n).before (kI a.n) = true); rw [kI_before]; simp; omega), ih (fun y hy => h y (by simp [hy]))]
    rfl
theorem put_M {L : List En} {x : En} (h : ∀ y ∈ L, y.n < x.n) : (dM L).put (kI x.n) (.held (mvE x)) = dM (L ++ [x]) := by
  unfold dM
  rw [DataW.put_eq]
  congr 1
  unfold putKey
  rw [filter_out, out_above h]
  exact insert_end h
end Go.Proofs.Ytonnlhehbhiiiaa


