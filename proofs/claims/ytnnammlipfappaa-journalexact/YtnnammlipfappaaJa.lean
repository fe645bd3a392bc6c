/- The journal's mathematics: notes as numbers, their bytes, what is read of them. -/
import Derived.Test.YtnnammlipfappaaDi

import Derived.Test.YtnnammlipfappaaSpNg

import Derived.Test.YtnnammlipfappaaWo

import Derived.Test.YtnnammlipfappaaWk

namespace Go.Proofs.Ytnnammlipfappaa

open Ieee Go.RowKit



/-- A note: the batch, both ends, the attempts. -/
structure Nt where
  b : Int
  p : List Int
  c : List Int
  a : Int
theorem Nt.ext' {m n : Nt} (h1 : m.b = n.b) (h2 : m.p = n.p) (h3 : m.c = n.c) (h4 : m.a = n.a) : m = n := by
  cases m; cases n; simp only at h1 h2 h3 h4; subst h1 h2 h3 h4; rfl
def Nt.tp (n : Nt) : Tp := ⟨n.b, n.p, n.c⟩
def rgtB (n : Nt) (q : Int) : Bool := decide (0 ≤ n.a ∧ n.a ≤ 1099511627776 ∧ n.b ≤ 1099511627776 ∧ (n.p.length : Int) = q ∧ (n.c.length : Int) = q) && rightB n.tp && decide (∀ i, i < n.c.length → nth n.c i ≤ 256)
structure Rgt (n : Nt) (q : Int) : Prop where
  a0 : 0 ≤ n.a
  a1 : n.a ≤ 1099511627776
  b1 : n.b ≤ 1099511627776
  lp : (n.p.length : Int) = q
  lc : (n.c.length : Int) = q
  r : rightT n.tp
  f : ∀ i, i < n.c.length → nth n.c i ≤ 256
theorem Rgt.of {n : Nt} {q : Int} (h : rgtB n q = true) : Rgt n q := by
  unfold rgtB at h
  rw [Bool.and_eq_true, Bool.and_eq_true] at h
  obtain ⟨h1, h2, h3, h4, h5⟩ := of_decide_eq_true h.1.1
  exact ⟨h1, h2, h3, h4, h5, rightT.of h.1.2, of_decide_eq_true h.2⟩
theorem Rgt.yes {n : Nt} {q : Int} (h : Rgt n q) : rgtB n q = true := by
  unfold rgtB
  rw [decide_eq_true (⟨h.a0, h.a1, h.b1, h.lp, h.lc⟩ : 0 ≤ n.a ∧ n.a ≤ 1099511627776 ∧ n.b ≤ 1099511627776 ∧ (n.p.length : Int) = q ∧ (n.c.length : Int) = q), h.r.yes, decide_eq_true h.f]; rfl
theorem Rgt.no {n : Nt} {q : Int} (h : ¬ Rgt n q) : rgtB n q = false := by
  cases hb : rgtB n q
  · rfl
  · exact absurd (Rgt.of hb) h
theorem Rgt.b0 {n : Nt} {q : Int} (h : Rgt n q) : 0 ≤ n.b := h.r.1
theorem Rgt.len {n : Nt} {q : Int} (h : Rgt n q) : n.p.length = n.c.length := h.r.2.1.1
theorem Rgt.c0 {n : Nt} {q : Int} (h : Rgt n q) {i : Nat} (hi : i < n.c.length) : 0 ≤ nth n.c i := by
  have h1 := (h.r.2.2 i hi).1
  have h2 := h.r.2.1.2 i (by have := h.len; show i < n.p.length; omega)
  exact Int.le_trans h1 h2
theorem Rgt.p0 {n : Nt} {q : Int} (h : Rgt n q) {i : Nat} (hi : i < n.p.length) : 0 ≤ nth n.p i := (h.r.2.2 i (by have := h.len; show i < n.c.length; omega)).1
theorem Rgt.p1 {n : Nt} {q : Int} (h : Rgt n q) {i : Nat} (hi : i < n.p.length) : nth n.p i ≤ 256 := by
  have h2 := h.r.2.1.2 i hi
  have h3 := h.f i (by have := h.len; omega)
  exact Int.le_trans h2 h3
theorem mem_nth {l : List Int} {x : Int} (h : x ∈ l) : ∃ i, i < l.length ∧ nth l i = x := by
  obtain ⟨i, hi, e⟩ := List.mem_iff_getElem.1 h
  exact ⟨i, hi, by rw [nth_at hi]; exact e⟩
theorem Rgt.pm {n : Nt} {q : Int} (h : Rgt n q) : ∀ x ∈ n.p, 0 ≤ x ∧ x ≤ 256 := fun x hx => by
  obtain ⟨i, hi, rfl⟩ := mem_nth hx
  exact ⟨h.p0 hi, h.p1 hi⟩
theorem Rgt.cm {n : Nt} {q : Int} (h : Rgt n q) : ∀ x ∈ n.c, 0 ≤ x ∧ x ≤ 256 := fun x hx => by
  obtain ⟨i, hi, rfl⟩ := mem_nth hx
  exact ⟨h.c0 hi, h.f i hi⟩


/-- Whether n may take the place of h. -/
def folB (n h : Nt) : Bool := decide (h.a ≤ n.a) && (if n.b = h.b then decide (n.p = h.p) && decide (n.c = h.c) else decide (n.b = h.b + 1) && decide (n.p = h.c))


/-- The bytes. -/
def nmL (g : Nat) (n : Nt) : List Nat := [g, n.b.toNat, n.a.toNat]
def lsL (n : Nt) : List (List Int) := [n.p, n.c]
def bytN (g : Nat) (n : Nt) : List Nat := Wm.encAll (nmL g n) ++ (numsB n.p ++ numsB n.c)


/-- What is read. -/
def tk1 (l : List Nat) : Option (Nat × List Nat) := if (Wm.take l).2.2 = 0 ∧ (Wm.take l).1 ≤ 1099511627776 then some ((Wm.take l).1, l.drop (Wm.take l).2.1) else none
def tkN : Nat → List Nat → Option (List Nat × List Nat)
  | 0, l => some ([], l)
  | k + 1, l => match tkN k l with
    | none => none
    | some (F, r) => match tk1 r with
      | none => none
      | some (x, s) => some (F ++ [x], s)
def tl1 (q : Int) (l : List Nat) : Option (List Nat × List Nat) := if (Wm.takeNums l q).2.2 = 0 then some ((Wm.takeNums l q).1, l.drop (Wm.takeNums l q).2.1) else none
def tlN (q : Int) : Nat → List Nat → Option (List (List Nat) × List Nat)
  | 0, l => some ([], l)
  | k + 1, l => match tlN q k l with
    | none => none
    | some (G, r) => match tl1 q r with
      | none => none
      | some (x, s) => some (G ++ [x], s)
def mkN (F : List Nat) (G : List (List Nat)) : Nt := ⟨F.getD 1 0, ib (G.getD 0 []), ib (G.getD 1 []), F.getD 2 0⟩
def takE (q : Int) (l : List Nat) : Option (Nat × Nt) := match tkN 3 l with
  | none => none
  | some (F, r) => match tlN q 2 r with
    | none => none
    | some (G, s) => if s = [] ∧ 1 ≤ F.getD 0 0 ∧ rgtB (mkN F G) q = true then some (F.getD 0 0, mkN F G) else none


theorem tkN_succ {k : Nat} {l r s F : List Nat} {x : Nat} (h : tkN k l = some (F, r)) (h1 : tk1 r = some (x, s)) : tkN (k + 1) l = some (F ++ [x], s) := by rw [tkN, h]; simp only; rw [h1]
theorem tkN_stop {k : Nat} {l r F : List Nat} (h : tkN k l = some (F, r)) (h1 : tk1 r = none) : tkN (k + 1) l = none := by rw [tkN, h]; simp only; rw [h1]
theorem tkN_gone {l : List Nat} (k : Nat) (j : Nat) (h : tkN k l = none) : tkN (k + j) l = none := by
  induction j with
  | zero => exact h
  | succ j ih => rw [← Nat.add_assoc, tkN, ih]
theorem tlN_succ {q : Int} {k : Nat} {l r s x : List Nat} {G : List (List Nat)} (h : tlN q k l = some (G, r)) (h1 : tl1 q r = some (x, s)) : tlN q (k + 1) l = some (G ++ [x], s) := by rw [tlN, h]; simp only; rw [h1]
theorem tlN_stop {q : Int} {k : Nat} {l r : List Nat} {G : List (List Nat)} (h : tlN q k l = some (G, r)) (h1 : tl1 q r = none) : tlN q (k + 1) l = none := by rw [tlN, h]; simp only; rw [h1]
theorem tlN_gone {q : Int} {l : List Nat} (k : Nat) (j : Nat) (h : tlN q k l = none) : tlN q (k + j) l = none := by
  induction j with
  | zero => exact h
  | succ j ih => rw [← Nat.add_assoc, tlN, ih]
theorem takE_n1 {q : Int} {l : List Nat} {k : Nat} (hk : k ≤ 3) (h : tkN k l = none) : takE q l = none := by
  have := tkN_gone k (3 - k) h
  rw [show k + (3 - k) = 3 by omega] at this
  unfold takE; rw [this]
theorem takE_n2 {q : Int} {l F r : List Nat} {k : Nat} (h3 : tkN 3 l = some (F, r)) (hk : k ≤ 2) (h : tlN q k r = none) : takE q l = none := by
  have := tlN_gone k (2 - k) h
  rw [show k + (2 - k) = 2 by omega] at this
  unfold takE; rw [h3]; simp only; rw [this]
theorem takE_n3 {q : Int} {l F r s : List Nat} {G : List (List Nat)} (h3 : tkN 3 l = some (F, r)) (h2 : tlN q 2 r = some (G, s)) (h : ¬ (s = [] ∧ 1 ≤ F.getD 0 0 ∧ rgtB (mkN F G) q = true)) : takE q l = none := by
  unfold takE; rw [h3]; simp only; rw [h2]; simp only; rw [if_neg h]
theorem takE_y {q : Int} {l F r s : List Nat} {G : List (List Nat)} (h3 : tkN 3 l = some (F, r)) (h2 : tlN q 2 r = some (G, s)) (h : s = [] ∧ 1 ≤ F.getD 0 0 ∧ rgtB (mkN F G) q = true) : takE q l = some (F.getD 0 0, mkN F G) := by
  unfold takE; rw [h3]; simp only; rw [h2]; simp only; rw [if_pos h]
theorem tkN_len (k : Nat) : ∀ {l r F : List Nat}, tkN k l = some (F, r) → F.length = k ∧ (∀ x ∈ F, x ≤ 1099511627776) ∧ (∀ c ∈ r, c ∈ l) := by
  induction k with
  | zero => intro l r F h; rw [tkN] at h; cases h; exact ⟨rfl, by simp, fun c hc => hc⟩
  | succ k ih =>
    intro l r F h
    rw [tkN] at h
    cases hk : tkN k l with
    | none => rw [hk] at h; cases h
    | some e =>
      obtain ⟨F0, r0⟩ := e
      rw [hk] at h
      simp only at h
      cases h1 : tk1 r0 with
      | none => rw [h1] at h; cases h
      | some e =>
        obtain ⟨x, s⟩ := e
        rw [h1] at h
        cases h
        obtain ⟨i1, i2, i3⟩ := ih hk
        unfold tk1 at h1
        split at h1
        · rename_i hc
          cases h1
          refine ⟨by simp [i1], fun y hy => ?_, fun c hc => i3 c (List.mem_of_mem_drop hc)⟩
          rcases List.mem_append.1 hy with h | h
          · exact i2 y h
          · rw [List.mem_singleton.1 h]; exact hc.2
        · cases h1
theorem takE_some {q : Int} {l : List Nat} {g : Nat} {n : Nt} (h : takE q l = some (g, n)) : 1 ≤ g ∧ g ≤ 1099511627776 ∧ Rgt n q := by
  unfold takE at h
  cases h3 : tkN 3 l with
  | none => rw [h3] at h; cases h
  | some e =>
    obtain ⟨F, r⟩ := e
    rw [h3] at h
    simp only at h
    cases h2 : tlN q 2 r with
    | none => rw [h2] at h; cases h
    | some e =>
      obtain ⟨G, s⟩ := e
      rw [h2] at h
      simp only at h
      split at h
      · rename_i hc
        cases h
        obtain ⟨i1, i2, _⟩ := tkN_len 3 h3
        refine ⟨hc.2.1, i2 _ ?_, Rgt.of hc.2.2⟩
        match F, i1 with
        | [a, b, c], _ => simp
      · cases h


theorem tn_go {l : List Nat} {p x n : Nat} (k : Nat) (acc : List Nat) (h : Wm.take (l.drop p) = (x, n, 0)) : Wm.tnums (k + 1) l p acc = if 4611686018427387904 < x then ([], 0, 4) else Wm.tnums k l (p + n) (acc ++ [x]) := by
  rw [Wm.tnums, h]; simp only
theorem tn_of (xs : List Nat) : ∀ (pre acc r : List Nat), (∀ x ∈ xs, x ≤ 4611686018427387904) →
    Wm.tnums xs.length (pre ++ (Wm.encAll xs ++ r)) pre.length acc = (acc ++ xs, pre.length + (Wm.encAll xs).length, 0) := by
  induction xs with
  | nil => intro pre acc r _; simp [Wm.tnums, Wm.encAll]
  | cons x xs ih =>
    intro pre acc r hx
    have hd : (pre ++ (Wm.encAll (x :: xs) ++ r)).drop pre.length = Wm.enc x ++ (Wm.encAll xs ++ r) := by simp [Wm.encAll]
    have hx0 := hx x (by simp)
    have ht := Wm.take_enc x (Wm.encAll xs ++ r) (by omega)
    have h := ih (pre ++ Wm.enc x) (acc ++ [x]) r (fun y hy => hx y (by simp [hy]))
    have e1 : pre ++ Wm.enc x ++ (Wm.encAll xs ++ r) = pre ++ (Wm.encAll (x :: xs) ++ r) := by simp [Wm.encAll]
    rw [e1, List.length_append] at h
    rw [List.length_cons, tn_go _ _ (by rw [hd]; exact ht), if_neg (by omega), h]
    simp [Wm.encAll, Nat.add_assoc]
theorem ib_nat {l : List Int} (h : ∀ x ∈ l, 0 ≤ x) : ib (l.map Int.toNat) = l := by
  induction l with
  | nil => rfl
  | cons x l ih =>
    have h0 := h x (by simp)
    have := ih (fun y hy => h y (by simp [hy]))
    simp only [ib, List.map_cons, List.map_map] at this ⊢
    rw [this]
    congr 1
    omega
theorem tl1_of {q : Int} {l : List Int} (hl : (l.length : Int) ≤ q) (hq : q ≤ 4) (h : ∀ x ∈ l, 0 ≤ x ∧ x ≤ 256) (r : List Nat) : tl1 q (numsB l ++ r) = some (l.map Int.toNat, r) := by
  have e : Wm.takeNums (numsB l ++ r) q = (l.map Int.toNat, (numsB l).length, 0) := by
    unfold numsB
    rw [List.append_assoc, takeNums_go (c := l.length) (p := (Wm.enc l.length).length) (Wm.take_enc _ _ (by omega)) (by omega)]
    have := tn_of (l.map Int.toNat) (Wm.enc l.length) [] r (fun x hx => by
      obtain ⟨y, hy, rfl⟩ := List.mem_map.1 hx
      have := h y hy
      omega)
    rw [List.length_map] at this
    rw [this]
    simp
  unfold tl1
  rw [e, if_pos rfl]
  simp
theorem tl1_no {q : Int} {l : List Int} (hl : q < (l.length : Int)) (h4 : l.length ≤ 4) (r : List Nat) : tl1 q (numsB l ++ r) = none := by
  have e : Wm.takeNums (numsB l ++ r) q = ([], 0, 6) := by
    unfold numsB
    rw [List.append_assoc, takeNums_long (c := l.length) (p := (Wm.enc l.length).length) (Wm.take_enc _ _ (by omega)) hl]
  unfold tl1
  rw [e, if_neg (by simp)]
theorem tk1_of {x : Nat} (hx : x ≤ 1099511627776) (r : List Nat) : tk1 (Wm.enc x ++ r) = some (x, r) := by
  have e := Wm.take_enc x r (by omega)
  unfold tk1
  rw [e, if_pos ⟨rfl, hx⟩]
  simp
theorem tk3_of {g : Nat} {n : Nt} (hg : g ≤ 1099511627776) (hb : n.b ≤ 1099511627776) (ha : n.a ≤ 1099511627776) : tkN 3 (bytN g n) = some (nmL g n, numsB n.p ++ numsB n.c) := by
  have e : bytN g n = Wm.enc g ++ (Wm.enc n.b.toNat ++ (Wm.enc n.a.toNat ++ (numsB n.p ++ numsB n.c))) := by simp [bytN, nmL, Wm.encAll]
  have h0 : tkN 0 (bytN g n) = some ([], Wm.enc g ++ (Wm.enc n.b.toNat ++ (Wm.enc n.a.toNat ++ (numsB n.p ++ numsB n.c)))) := by rw [tkN, e]
  have h1 := tkN_succ h0 (tk1_of hg _)
  have h2 := tkN_succ h1 (tk1_of (x := n.b.toNat) (by omega) _)
  have h3 := tkN_succ h2 (tk1_of (x := n.a.toNat) (by omega) _)
  exact h3
/-- What was written is read again. -/
theorem takE_of {g : Nat} {n : Nt} {q : Int} (h1 : 1 ≤ g) (hg : g ≤ 1099511627776) (h : Rgt n q) (hq : q ≤ 4) : takE q (bytN g n) = some (g, n) := by
  have h3 := tk3_of (g := g) (n := n) hg h.b1 h.a1
  have t0 : tlN q 0 (numsB n.p ++ numsB n.c) = some ([], numsB n.p ++ numsB n.c) := rfl
  have t1 := tlN_succ t0 (tl1_of (by have := h.lp; omega) hq h.pm _)
  have e2 := tl1_of (q := q) (l := n.c) (by have := h.lc; omega) hq h.cm []
  rw [List.append_nil] at e2
  have t2 := tlN_succ t1 e2
  have em : mkN (nmL g n) [n.p.map Int.toNat, n.c.map Int.toNat] = n := by
    refine Nt.ext' ?_ ?_ ?_ ?_
    · show ((n.b.toNat : Nat) : Int) = n.b; have := h.b0; omega
    · exact ib_nat fun x hx => (h.pm x hx).1
    · exact ib_nat fun x hx => (h.cm x hx).1
    · show ((n.a.toNat : Nat) : Int) = n.a; have := h.a0; omega
  have := takE_y h3 t2 ⟨rfl, h1, by show rgtB (mkN (nmL g n) [n.p.map Int.toNat, n.c.map Int.toNat]) q = true; rw [em]; exact h.yes⟩
  rw [this]
  show some (g, mkN (nmL g n) [n.p.map Int.toNat, n.c.map Int.toNat]) = _
  rw [em]
/-- Of another number of partitions it is nothing. -/
theorem takE_other {g : Nat} {n : Nt} {q k : Int} (hg : g ≤ 1099511627776) (h : Rgt n q) (hq : q ≤ 4) (hk : k ≤ 4) (hne : k ≠ q) : takE k (bytN g n) = none := by
  have h3 := tk3_of (g := g) (n := n) hg h.b1 h.a1
  have hlp := h.lp
  have hlc := h.lc
  by_cases hlt : k < q
  · refine takE_n2 (k := 1) h3 (by omega) ?_
    have t0 : tlN k 0 (numsB n.p ++ numsB n.c) = some ([], numsB n.p ++ numsB n.c) := rfl
    exact tlN_stop t0 (tl1_no (by omega) (by omega) _)
  · have t0 : tlN k 0 (numsB n.p ++ numsB n.c) = some ([], numsB n.p ++ numsB n.c) := rfl
    have t1 := tlN_succ t0 (tl1_of (by omega) hk h.pm _)
    have e2 := tl1_of (q := k) (l := n.c) (by omega) hk h.cm []
    rw [List.append_nil] at e2
    have t2 := tlN_succ t1 e2
    refine takE_n3 h3 t2 fun hc => ?_
    have := (Rgt.of hc.2.2).lp
    have e : (mkN (nmL g n) ([] ++ [n.p.map Int.toNat] ++ [n.c.map Int.toNat])).p = n.p := ib_nat fun x hx => (h.pm x hx).1
    rw [e] at this
    omega
theorem takE_nil (q : Int) : takE q [] = none := by
  refine takE_n1 (k := 1) (by omega) ?_
  have t0 : tkN 0 [] = some ([], []) := rfl
  refine tkN_stop t0 ?_
  unfold tk1
  rw [show Wm.take [] = (0, 0, 3) from rfl, if_neg (by simp)]


theorem encAll_len4 {l : List Int} (h : l.length ≤ 4) : (numsB l).length ≤ 50 := by
  have := numsB_len l; omega
theorem bytN_len {g : Nat} {n : Nt} (hp : n.p.length ≤ 4) (hc : n.c.length ≤ 4) : (bytN g n).length ≤ 130 := by
  have h1 := encAll_len (nmL g n)
  have h2 := encAll_len4 hp
  have h3 := encAll_len4 hc
  simp only [bytN, List.length_append]
  simp only [nmL, List.length_cons, List.length_nil] at h1 ⊢
  omega
theorem numsB_lt {l : List Int} (h4 : l.length ≤ 4) (h : ∀ x ∈ l, x ≤ 256) : ∀ c ∈ numsB l, c < 256 := by
  intro c hc
  unfold numsB at hc
  rcases List.mem_append.1 hc with h1 | h1
  · exact Wm.enc_lt _ (by omega) c h1
  · refine encAll_lt _ (fun x hx => ?_) c h1
    obtain ⟨y, hy, rfl⟩ := List.mem_map.1 hx
    have := h y hy
    omega
theorem bytN_lt {g : Nat} {n : Nt} {q : Int} (hg : g ≤ 1099511627776) (h : Rgt n q) (hq : q ≤ 4) : ∀ c ∈ bytN g n, c < 256 := by
  intro c hc
  unfold bytN at hc
  have h1 := h.lp
  have h2 := h.lc
  have h3 := h.a1
  have h4 := h.b1
  rcases List.mem_append.1 hc with h' | h'
  · refine encAll_lt _ (fun x hx => ?_) c h'
    simp only [nmL, List.mem_cons, List.not_mem_nil, or_false] at hx
    rcases hx with rfl | rfl | rfl <;> omega
  · rcases List.mem_append.1 h' with h' | h'
    · exact numsB_lt (by omega) (fun x hx => (h.pm x hx).2) c h'
    · exact numsB_lt (by omega) (fun x hx => (h.cm x hx).2) c h'


/-- What Open finds in the first k blocks. -/
def opK (q : Int) (S : Dk) : Nat → Option (Nat × Nat × Nt)
  | 0 => none
  | k + 1 => match takE q (readL S k) with
    | none => opK q S k
    | some e => match opK q S k with
      | none => some (k, e)
      | some f => if f.2.1 < e.1 then some (k, e) else some f
theorem opK_none {q : Int} {S : Dk} {k : Nat} (h : takE q (readL S k) = none) : opK q S (k + 1) = opK q S k := by rw [opK, h]
theorem opK_first {q : Int} {S : Dk} {k : Nat} {e : Nat × Nt} (h : takE q (readL S k) = some e) (h0 : opK q S k = none) : opK q S (k + 1) = some (k, e) := by rw [opK, h]; simp only; rw [h0]
theorem opK_more {q : Int} {S : Dk} {k : Nat} {e : Nat × Nt} {f : Nat × Nat × Nt} (h : takE q (readL S k) = some e) (h0 : opK q S k = some f) : opK q S (k + 1) = if f.2.1 < e.1 then some (k, e) else some f := by rw [opK, h]; simp only; rw [h0]
end Go.Proofs.Ytnnammlipfappaa


