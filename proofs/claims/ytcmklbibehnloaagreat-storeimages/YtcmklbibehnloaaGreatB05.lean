/- Merge's laws: parts change about and go together in any order; nothing adds nothing. -/
import Derived.Test.YtcmklbibehnloaaGreatB04
import Derived.Maps.AppendAt
import Derived.Deep.RegionLaw
import Derived.OwnWalk
import Derived.Lib.SliceRun
import Derived.Lib.SlBytesConst
import Derived.Lib.SmallJoins
import Derived.CellFam
import Derived.Deep.DeepCutAuto
import Derived.BigQuiet
import Derived.Deep.QuietTactic
import Derived.Maps.RangeWalk
import Derived.Sort.Row
set_option maxRecDepth 100000
set_option maxHeartbeats 16000000
namespace Go.Proofs.YtcmklbibehnloaaGreat
open Go.RowKit
section
def rootB (g : Nat) (t : List Nat) : List Nat := Wm.enc g ++ (Wm.enc t.length ++ Wm.encAll t)
def tn (t : List Nat) (i : Nat) : Nat := t.getD i 0
theorem tn_at {t : List Nat} {i : Nat} (h : i < t.length) : tn t i = t[i] := by unfold tn; rw [List.getD_eq_getElem?_getD, List.getElem?_eq_getElem h]; rfl
theorem tn_mem {t : List Nat} {i : Nat} (h : i < t.length) : tn t i ∈ t := by rw [tn_at h]; exact List.getElem_mem h
theorem tn_set {t : List Nat} {i j x : Nat} (hj : j < t.length) : tn (t.set i x) j = if i = j then x else tn t j := by
 rw [tn_at (by simpa using hj), List.getElem_set, tn_at hj]
def Cok (t : List Nat) (B i : Nat) : Prop := tn t i = 0 ∨ (2 ≤ tn t i ∧ tn t i < B ∧ ¬ tn t i ∈ t.take i)
def cellB (t : List Nat) (B i : Nat) : Bool := decide (tn t i = 0 ∨ (2 ≤ tn t i ∧ tn t i < B ∧ ¬ tn t i ∈ t.take i))
def Tok (t : List Nat) (B : Nat) : Prop := 1 ≤ t.length ∧ 2 + 2 * t.length ≤ B ∧ ∀ i, i < t.length → Cok t B i
def tabBP (t : List Nat) (B : Nat) : Bool := decide (1 ≤ t.length) && decide (2 + 2 * t.length ≤ B) && (List.range t.length).all (cellB t B)
theorem tab_yes {t : List Nat} {B : Nat} (h : Tok t B) : tabBP t B = true := by
 obtain ⟨h1, h2, h3⟩ := h;unfold tabBP;rw [decide_eq_true h1, decide_eq_true h2, Bool.and_self, Bool.true_and, List.all_eq_true];intro i hi;exact decide_eq_true (h3 i (List.mem_range.1 hi))
theorem tab_of {t : List Nat} {B : Nat} (h : tabBP t B = true) : Tok t B := by
 unfold tabBP at h;rw [Bool.and_eq_true, Bool.and_eq_true] at h;obtain ⟨⟨h1, h2⟩, h3⟩ := h;exact ⟨of_decide_eq_true h1, of_decide_eq_true h2, fun i hi => of_decide_eq_true (p := tn t i = 0 ∨ (2 ≤ tn t i ∧ tn t i < B ∧ ¬ tn t i ∈ t.take i)) (List.all_eq_true.1 h3 i (List.mem_range.2 hi))⟩
theorem tab_no {t : List Nat} {B : Nat} (h : ¬ Tok t B) : tabBP t B = false := by
 cases e : tabBP t B
 ·rfl
 ·exact absurd (tab_of e) h
def rootOf (b : List Nat) (B : Nat) : Option (Nat × List Nat) :=
 match Wm.take b with
 | (g, p, 0) => if 1 ≤ g ∧ g ≤ 1099511627776 then
   match Wm.takeNums (b.drop p) 8 with
   | (t, n, 0) => if p + n = b.length ∧ tabBP t B = true then some (g, t) else none
   | _ => none
  else none
 | _ => none
theorem root_take {b : List Nat} {B e : Nat} (h : Wm.take b = (0, 0, e)) (h34 : e = 3 ∨ e = 4) : rootOf b B = none := by
 unfold rootOf; rw [h]; rcases h34 with rfl | rfl <;> rfl
theorem root_gen {b : List Nat} {B g p : Nat} (h : Wm.take b = (g, p, 0)) (hg : g < 1 ∨ 1099511627776 < g) : rootOf b B = none := by
 unfold rootOf; rw [h]; simp only; rw [if_neg (by omega)]
theorem root_nums {b t : List Nat} {B g p n e : Nat} (h : Wm.take b = (g, p, 0)) (hn : Wm.takeNums (b.drop p) 8 = (t, n, e)) (he : e ≠ 0) : rootOf b B = none := by
 unfold rootOf; rw [h]; simp only
 split
 ·rw [hn]
  cases e with
  | zero => exact absurd rfl he
  | succ e => rfl
 ·rfl
theorem root_len {b t : List Nat} {B g p n : Nat} (h : Wm.take b = (g, p, 0)) (hn : Wm.takeNums (b.drop p) 8 = (t, n, 0)) (hl : p + n ≠ b.length) : rootOf b B = none := by
 unfold rootOf; rw [h]; simp only
 split
 ·rw [hn]; simp only; rw [if_neg (fun e => hl e.1)]
 ·rfl
theorem root_tab {b t : List Nat} {B g p n : Nat} (h : Wm.take b = (g, p, 0)) (hn : Wm.takeNums (b.drop p) 8 = (t, n, 0)) (ht : tabBP t B = false) : rootOf b B = none := by
 unfold rootOf; rw [h]; simp only
 split
 ·rw [hn]; simp only; rw [if_neg (fun e => by rw [ht] at e; cases e.2)]
 ·rfl
theorem root_some {b t : List Nat} {B g p n : Nat} (h : Wm.take b = (g, p, 0)) (h1 : 1 ≤ g) (h2 : g ≤ 1099511627776) (hn : Wm.takeNums (b.drop p) 8 = (t, n, 0)) (hl : p + n = b.length) (ht : tabBP t B = true) : rootOf b B = some (g, t) := by
 unfold rootOf; rw [h]; simp only; rw [if_pos ⟨h1, h2⟩, hn]; simp only; rw [if_pos ⟨hl, ht⟩]
theorem tnums_encAll (xs : List Nat) : ∀ (pre acc : List Nat), (∀ x ∈ xs, x ≤ 4611686018427387904) →
  Wm.tnums xs.length (pre ++ Wm.encAll xs) pre.length acc = (acc ++ xs, pre.length + (Wm.encAll xs).length, 0) := by
 induction xs with
 | nil => intro pre acc _; simp [Wm.tnums, Wm.encAll]
 | cons x xs ih =>
  intro pre acc hx;have hd : (pre ++ Wm.encAll (x :: xs)).drop pre.length = Wm.enc x ++ Wm.encAll xs := by simp [Wm.encAll]
  have hx0 := hx x (by simp);have ht := Wm.take_enc x (Wm.encAll xs) (by omega);rw [List.length_cons, Wm.tnums, hd, ht];simp only;rw [if_neg (by omega)];have e1 : pre ++ Wm.enc x ++ Wm.encAll xs = pre ++ Wm.encAll (x :: xs) := by simp [Wm.encAll]
  have := ih (pre ++ Wm.enc x) (acc ++ [x]) (fun y hy => hx y (by simp [hy]));rw [e1] at this;rw [List.length_append] at this;rw [this];simp [Wm.encAll, Nat.add_assoc]
theorem nums_back {t : List Nat} (h8 : t.length ≤ 8) (hx : ∀ x ∈ t, x ≤ 4611686018427387904) : Wm.takeNums (Wm.enc t.length ++ Wm.encAll t) 8 = (t, (Wm.enc t.length ++ Wm.encAll t).length, 0) := by
 have ht := Wm.take_enc t.length (Wm.encAll t) (by omega);unfold Wm.takeNums;rw [ht];simp only;rw [if_neg (by omega), tnums_encAll t (Wm.enc t.length) [] hx];simp
theorem root_back {g : Nat} {t : List Nat} {B : Nat} (h1 : 1 ≤ g) (h2 : g ≤ 1099511627776) (h8 : t.length ≤ 8) (hB : B ≤ 64) (ht : Tok t B) : rootOf (rootB g t) B = some (g, t) := by
 have hx : ∀ x ∈ t, x ≤ 4611686018427387904 := by
  intro x hx;obtain ⟨i, hi, rfl⟩ := List.getElem_of_mem hx;rcases ht.2.2 i hi with h | ⟨_, h, _⟩
  ·rw [tn_at hi] at h; omega
  ·rw [tn_at hi] at h; omega
 have hd : (rootB g t).drop (Wm.enc g).length = Wm.enc t.length ++ Wm.encAll t := by simp [rootB]
 refine root_some (n := (Wm.enc t.length ++ Wm.encAll t).length) (Wm.take_enc g _ (by omega)) h1 h2 (by rw [hd]; exact nums_back h8 hx) ?_ (tab_yes ht);simp [rootB]
theorem tnums_fit {l : List Nat} (hl : ∀ c ∈ l, c < 256) : ∀ (k p : Nat) (acc t : List Nat) (n : Nat), p ≤ l.length → Wm.tnums k l p acc = (t, n, 0) → n ≤ l.length ∧ t.length = acc.length + k := by
 intro k
 induction k with
 | zero => intro p acc t n hp h; unfold Wm.tnums at h; simp only [Prod.mk.injEq] at h; obtain ⟨rfl, rfl, _⟩ := h; exact ⟨hp, by simp⟩
 | succ k ih =>
  intro p acc t n hp h;unfold Wm.tnums at h;rcases Wm.take_form (l.drop p) (fun c hc => hl c (List.mem_of_mem_drop hc)) with ⟨e, he, h34⟩ | ⟨x, m, hx, _, h1, h2, _⟩
  ·rw [he] at h;rcases h34 with rfl | rfl <;> simp at h
  ·rw [hx] at h;simp only at h
   split at h
   ·simp at h
   ·rw [List.length_drop] at h2;obtain ⟨a, b⟩ := ih (p + m) (acc ++ [x]) t n (by omega) h;rw [List.length_append, List.length_singleton] at b;exact ⟨a, by omega⟩
theorem nums_fit {l t : List Nat} {n : Nat} (hl : ∀ c ∈ l, c < 256) (h : Wm.takeNums l 8 = (t, n, 0)) : n ≤ l.length ∧ t.length ≤ 8 := by
 unfold Wm.takeNums at h;rcases Wm.take_form l hl with ⟨e, he, h34⟩ | ⟨x, m, hx, _, h1, h2, _⟩
 ·rw [he] at h;rcases h34 with rfl | rfl <;> simp at h
 ·rw [hx] at h;simp only at h
  split at h
  ·simp at h
  ·obtain ⟨a, b⟩ := tnums_fit hl x m [] t n h2 h;rw [List.length_nil] at b;exact ⟨a, by omega⟩
theorem root_fit {b t : List Nat} {B g : Nat} (hl : ∀ c ∈ b, c < 256) (h : rootOf b B = some (g, t)) : 1 ≤ g ∧ g ≤ 1099511627776 ∧ t.length ≤ 8 ∧ Tok t B := by
 rcases Wm.take_form b hl with ⟨e, he, h34⟩ | ⟨x, m, hx, _, h1, h2, _⟩
 ·rw [root_take he h34] at h; cases h
 ·by_cases hg : x < 1 ∨ 1099511627776 < x
  ·rw [root_gen hx hg] at h; cases h
  ·obtain ⟨t', n, e, hn⟩ : ∃ t' n e, Wm.takeNums (b.drop m) 8 = (t', n, e) := ⟨_, _, _, rfl⟩;by_cases he : e = 0
   ·subst he;by_cases hl2 : m + n = b.length
    ·cases ht : tabBP t' B
     ·rw [root_tab hx hn ht] at h; cases h
     ·rw [root_some hx (by omega) (by omega) hn hl2 ht] at h;simp only [Option.some.injEq, Prod.mk.injEq] at h;obtain ⟨rfl, rfl⟩ := h;exact ⟨by omega, by omega, (nums_fit (fun c hc => hl c (List.mem_of_mem_drop hc)) hn).2, tab_of ht⟩
    ·rw [root_len hx hn hl2] at h; cases h
   ·rw [root_nums hx hn he] at h; cases h
theorem tok_lt {t : List Nat} {B : Nat} (h : Tok t B) : ∀ x ∈ t, x < B := by
 intro x hx;obtain ⟨i, hi, rfl⟩ := List.getElem_of_mem hx;have := h.2.1;rcases h.2.2 i hi with h | ⟨_, h, _⟩
 ·rw [tn_at hi] at h; omega
 ·rw [tn_at hi] at h; exact h
def nextG (t : List Nat) : Nat → Nat → Nat
 | 0, x => x
 | f + 1, x => if x ∈ t then nextG t f (x + 1) else x
def nextF (t : List Nat) (b : Nat) : Nat := nextG t 64 (b + 1)
theorem nextG_out {t : List Nat} : ∀ (f x : Nat), (∀ y ∈ t, y < x + f) → nextG t f x ∉ t := by
 intro f
 induction f with
 | zero => intro x h hm; have := h x hm; omega
 | succ f ih =>
  intro x h;unfold nextG
  split
  ·exact ih (x + 1) (fun y hy => by have := h y hy; omega)
  ·assumption
theorem nextG_ge {t : List Nat} : ∀ (f x : Nat), x ≤ nextG t f x := by
 intro f
 induction f with
 | zero => intro x; exact Nat.le_refl _
 | succ f ih =>
  intro x;unfold nextG
  split
  ·have := ih (x + 1); omega
  ·exact Nat.le_refl _
theorem nextG_mid {t : List Nat} : ∀ (f x y : Nat), x ≤ y → y < nextG t f x → y ∈ t := by
 intro f
 induction f with
 | zero => intro x y h1 h2; unfold nextG at h2; omega
 | succ f ih =>
  intro x y h1 h2;unfold nextG at h2
  split at h2
  ·rename_i hx
   by_cases e : y = x
   ·rw [e]; exact hx
   ·exact ih (x + 1) y (by omega) h2
  ·omega
section

variable {t : List Nat} {b r : Nat}

theorem next_out (h : ∀ y ∈ t, y < 64) : nextF t b ∉ t := nextG_out 64 (b + 1) (fun y hy => by have := h y hy; omega)
theorem next_gt : b < nextF t b := nextG_ge 64 (b + 1)
theorem next_mid {y : Nat} (h1 : b < y) (h2 : y < nextF t b) : y ∈ t := nextG_mid 64 (b + 1) y h1 h2
theorem next_is (h : ∀ y ∈ t, y < 64) (h1 : b < r) (h2 : r ∉ t) (h3 : ∀ y, b < y → y < r → y ∈ t) : nextF t b = r := by
 have a1 := next_gt (t := t) (b := b);rcases Nat.lt_trichotomy (nextF t b) r with e | e | e
 ·exact absurd (h3 _ a1 e) (next_out h)
 ·exact e
 ·exact absurd (next_mid h1 e) h2
end

theorem len_sub : ∀ (t l : List Nat), l.Nodup → (∀ y ∈ l, y ∈ t) → l.length ≤ t.length := by
 intro t
 induction t with
 | nil =>
  intro l _ h
  cases l with
  | nil => exact Nat.le_refl _
  | cons a l => exact absurd (h a (by simp)) (by simp)
 | cons a t ih =>
  intro l hn h
  have h1 : (l.erase a).length ≤ t.length := by
   refine ih _ (hn.erase a) fun y hy => ?_;have hy2 := (List.Nodup.mem_erase_iff hn).1 hy;have := h y hy2.2;simp only [List.mem_cons] at this;rcases this with e | e
   ·exact absurd e hy2.1
   ·exact e
  by_cases ha : a ∈ l
  ·rw [List.length_erase_of_mem ha] at h1;simp only [List.length_cons]; omega
  ·rw [List.erase_of_not_mem ha] at h1;simp only [List.length_cons]; omega
theorem free_bound {t tk : List Nat} {b : Nat} (h : ∀ y, 2 ≤ y → y ≤ b → y ∈ t ∨ y ∈ tk) : nextF t b ≤ 2 + t.length + tk.length := by
 have hs := len_sub (t ++ tk) (List.range' 2 (nextF t b - 2)) List.nodup_range' (fun y hy => by
  rw [List.mem_range'_1] at hy;rw [List.mem_append];by_cases e : y ≤ b
  ·exact h y hy.1 e
  ·exact .inl (next_mid (t := t) (b := b) (y := y) (by omega) (by omega)))
 rw [List.length_range', List.length_append] at hs;omega
def faultF (n : Nat) : List Int → List (Int × List Nat) → Int
 | _, [] => 0
 | pre, (p, d) :: l => if p < 0 ∨ (n : Int) ≤ p then 91 else if p ∈ pre then 93 else if 1024 < d.length then 6 else faultF n (pre ++ [p]) l
def faultI (n : Nat) (ps : List (Int × List Nat)) : Int := faultF n [] ps
structure Lok (n : Nat) (ps : List (Int × List Nat)) : Prop where
 pg : ∀ p ∈ ps, 0 ≤ p.1 ∧ p.1 < (n : Int)
 nd : (ps.map (·.1)).Nodup
 ln : ∀ p ∈ ps, p.2.length ≤ 1024
theorem fault_ok {n : Nat} : ∀ (ps : List (Int × List Nat)) (pre : List Int), faultF n pre ps = 0 → Lok n ps ∧ ∀ p ∈ ps, p.1 ∉ pre := by
 intro ps
 induction ps with
 | nil => intro pre _; exact ⟨⟨fun p hp => by simp at hp, by simp, fun p hp => by simp at hp⟩, fun p hp => by simp at hp⟩
 | cons a l ih =>
  obtain ⟨p, d⟩ := a;intro pre h;unfold faultF at h
  split at h
  ·omega
  ·rename_i h1
   split at h
   ·omega
   ·rename_i h2
    split at h
    ·omega
    ·rename_i h3
     obtain ⟨hl, hp⟩ := ih _ h;refine ⟨⟨fun q hq => ?_, ?_, fun q hq => ?_⟩, fun q hq => ?_⟩
     ·rcases List.mem_cons.1 hq with rfl | hq
      ·exact ⟨by omega, by omega⟩
      ·exact hl.pg q hq
     ·rw [List.map_cons, List.nodup_cons];refine ⟨fun hm => ?_, hl.nd⟩;obtain ⟨q, hq, e⟩ := List.mem_map.1 hm;exact hp q hq (by rw [e]; simp)
     ·rcases List.mem_cons.1 hq with rfl | hq
      ·simpa using h3
      ·exact hl.ln q hq
     ·rcases List.mem_cons.1 hq with rfl | hq
      ·exact h2
      ·exact fun hm => hp q hq (List.mem_append_left _ hm)
theorem fault_of {n : Nat} : ∀ (ps : List (Int × List Nat)) (pre : List Int), Lok n ps → (∀ p ∈ ps, p.1 ∉ pre) → faultF n pre ps = 0 := by
 intro ps
 induction ps with
 | nil => intro pre _ _; rfl
 | cons a l ih =>
  obtain ⟨p, d⟩ := a;intro pre h hp;have h1 := h.pg (p, d) (by simp);have h2 := h.ln (p, d) (by simp);have h3 := h.nd;rw [List.map_cons, List.nodup_cons] at h3;simp only at h1 h2;unfold faultF;rw [if_neg (by omega), if_neg (hp (p, d) (by simp)), if_neg (by omega)];refine ih _ ⟨fun q hq => h.pg q (by simp [hq]), h3.2, fun q hq => h.ln q (by simp [hq])⟩ (fun q hq hm => ?_);rcases List.mem_append.1 hm with e | e
  ·exact hp q (by simp [hq]) e
  ·simp only [List.mem_singleton] at e;exact h3.1 (List.mem_map.2 ⟨q, hq, e⟩)
theorem lok_len {n : Nat} {ps : List (Int × List Nat)} (h : Lok n ps) : ps.length ≤ n := by
 have h1 := len_sub (List.range n) (ps.map (·.1.toNat)) ?_ fun y hy => ?_
 ·simpa using h1
 ·have : ∀ (l : List (Int × List Nat)), (∀ p ∈ l, 0 ≤ p.1) → (l.map (·.1)).Nodup → (l.map (·.1.toNat)).Nodup := by
   intro l
   induction l with
   | nil => intro _ _; simp
   | cons a l ih =>
    intro hp hn;rw [List.map_cons, List.nodup_cons] at hn ⊢;refine ⟨fun hm => ?_, ih (fun p hp' => hp p (by simp [hp'])) hn.2⟩;obtain ⟨q, hq, e⟩ := List.mem_map.1 hm;have e1 := hp q (by simp [hq]);have e2 := hp a (by simp);exact hn.1 (List.mem_map.2 ⟨q, hq, by omega⟩)
  exact this ps (fun p hp => (h.pg p hp).1) h.nd
 ·obtain ⟨q, hq, rfl⟩ := List.mem_map.1 hy;have := h.pg q hq;exact List.mem_range.2 (by omega)
theorem encAll_lenP (l : List Nat) : (Wm.encAll l).length ≤ 10 * l.length := by
 induction l with
 | nil => simp [Wm.encAll]
 | cons x l ih =>
  have := (Wm.enc_len x).2;simp only [Wm.encAll, List.length_append, List.length_cons]; omega
theorem root_short {g : Nat} {t : List Nat} (h : t.length ≤ 8) : (rootB g t).length ≤ 100 := by
 have h1 := (Wm.enc_len g).2;have h2 := (Wm.enc_len t.length).2;have h3 := encAll_lenP t;unfold rootB;rw [List.length_append, List.length_append]; omega
theorem encAll_ltP (l : List Nat) (h : ∀ x ∈ l, x < 18446744073709551616) : ∀ c ∈ Wm.encAll l, c < 256 := by
 induction l with
 | nil => simp [Wm.encAll]
 | cons x l ih =>
  intro c hc;simp only [Wm.encAll, List.mem_append] at hc;rcases hc with hc | hc
  ·exact Wm.enc_lt x (h x (by simp)) c hc
  ·exact ih (fun y hy => h y (by simp [hy])) c hc
theorem root_bytes {g : Nat} {t : List Nat} (h : t.length ≤ 8) (hg : g < 18446744073709551616) (ht : ∀ x ∈ t, x < 64) : ∀ c ∈ rootB g t, c < 256 := by
 intro c hc;unfold rootB at hc;rw [List.mem_append, List.mem_append] at hc;rcases hc with hc | hc | hc
 ·exact Wm.enc_lt g hg c hc
 ·exact Wm.enc_lt _ (by omega) c hc
 ·exact encAll_ltP t (fun x hx => by have := ht x hx; omega) c hc
end
section
theorem info_row : (Tryz.prog.info? 78).map (fun i => (i.zero, i.size, i.bytes)) = some (some (.slice none 0 0), 1, 24) := by kernel_rfl
theorem info_partsV {P : Program} {e : TypeId} {z : Value} {s b : Nat} (h : (P.info? e).map (fun i => (i.zero, i.size, i.bytes)) = some (some z, s, b)) : ∃ i, P.info? e = some i ∧ i.zero = some z ∧ i.size = s ∧ i.bytes = b := by
 obtain ⟨i, h1, h2⟩ := Option.map_eq_some_iff.1 h;simp only [Prod.mk.injEq] at h2;exact ⟨i, h1, h2.1, h2.2.1, h2.2.2⟩
theorem grown_set (w : World) (g i : Nat) (u : Value) : w.grownBy (w.setCell ⟨g, i, none⟩ u) (some g) :=
 ⟨rfl, rfl, rfl, by simp [go_sem], fun k hk hne => by rw [Below.heap_setCell w _ _ k (by rintro rfl; exact hne rfl)]⟩
theorem wrapU {x : Int} (h0 : 0 ≤ x) (h1 : x < 9223372036854775808) : IntKind.i64.wrap x = x := by
 rw [IntKind.wrap_i64]; omega
theorem row_keep {w w' : World} {base e s n : Nat} {v : Value} {xs : List Value} (h : w.ownsRow base e s v n xs) (hk : ∀ x, v.ownBlock = some x → w'.heap[x]? = w.heap[x]?) : w'.ownsRow base e s v n xs := by
 refine ⟨h.1, ?_⟩;rcases h.2 with h0 | ⟨g, cap, cur, rfl, hb, hg, r⟩
 ·exact .inl h0
 ·exact .inr ⟨g, cap, cur, rfl, hb, by rw [hk g rfl]; exact hg, r⟩
theorem row_form {w : World} {base e s n : Nat} {v : Value} {xs : List Value} (h : w.ownsRow base e s v n xs) : ∃ ao cap, v = .slice ao n cap ∧ n ≤ cap ∧ cap ≤ maxLen := by
 rcases h.2 with ⟨rfl, rfl⟩ | ⟨g, cap, cur, rfl, hb, hg, h1, h2, _⟩
 ·exact ⟨none, 0, rfl, Nat.le_refl _, by simp [maxLen]⟩
 ·exact ⟨_, cap, rfl, h1, h2⟩
theorem bv_formD {w : World} {v : Value} {l : List Nat} (h : Bv w v l) : ∃ ao cap, v = .slice ao l.length cap ∧ l.length ≤ cap ∧ cap ≤ maxLen := by
 obtain ⟨⟨ao, cap, rfl, h1, h2, _⟩, _⟩ := h;rw [ib_len] at h1 ⊢;exact ⟨ao, cap, rfl, h1, h2⟩
theorem Bv.keep {w w' : World} {v : Value} {l : List Nat} (h : Bv w v l) (hk : ∀ x, v.ownBlock = some x → w'.heap[x]? = w.heap[x]?) : Bv w' v l := by
 obtain ⟨⟨ao, cap, rfl, h1, h2, h3, h4⟩, h5⟩ := h;refine ⟨⟨ao, cap, rfl, h1, h2, h3, fun i hi => ?_⟩, h5⟩;obtain ⟨b, off, rfl, c⟩ := h4 i hi;exact ⟨b, off, rfl, by rw [World.cell?_of_block (w := w) (a := ⟨b, off + i, none⟩) (hk b rfl)]; exact c⟩
structure Ch (D : Nat → Prop) (w w' : World) : Prop where
 os : w'.os = w.os
 tape : w'.tape = w.tape
 output : w'.output = w.output
 size : w.heap.size ≤ w'.heap.size
 block : ∀ k, k < w.heap.size → ¬ D k → w'.heap[k]? = w.heap[k]?
theorem Ch.refl (D : Nat → Prop) (w : World) : Ch D w w := ⟨rfl, rfl, rfl, Nat.le_refl _, fun _ _ _ => rfl⟩
theorem Ch.trans {D E : Nat → Prop} {a b c : World} (h : Ch D a b) (k : Ch E b c) (he : ∀ x, E x → D x ∨ a.heap.size ≤ x) : Ch D a c :=
 ⟨k.os.trans h.os, k.tape.trans h.tape, k.output.trans h.output, Nat.le_trans h.size k.size, fun x hx hd => by
  rw [k.block x (Nat.lt_of_lt_of_le hx h.size) (fun e => by rcases he x e with q | q; exact hd q; omega), h.block x hx hd]⟩
theorem Ch.of_below {D : Nat → Prop} {w w' : World} (h : Below w.heap.size w w') : Ch D w w' := ⟨h.os, h.tape, h.output, h.size, fun k hk _ => h.block k hk⟩
theorem Ch.to_below {D : Nat → Prop} {w w' : World} {B : Nat} (h : Ch D w w') (hB : B ≤ w.heap.size) (hd : ∀ x, D x → B ≤ x) : Below B w w' := ⟨h.os, h.tape, h.output, h.size, fun k hk => h.block k (by omega) (fun e => by have := hd k e; omega)⟩
theorem Ch.of_grown {D : Nat → Prop} {w w' : World} {r : Option Nat} (h : w.grownBy w' r) (hr : ∀ x, r = some x → D x) : Ch D w w' := ⟨h.os, h.tape, h.output, h.size, fun k hk hd => h.block k hk (fun e => hd (hr k e.symm))⟩
abbrev cb (l : List Nat) : List Value := (ib l).map (Value.int .u8)
def bk (ls : List (List Nat)) (i : Nat) : List Nat := ls.getD i []
theorem bk_at {ls : List (List Nat)} {i : Nat} (h : i < ls.length) : bk ls i = ls[i] := by unfold bk; rw [List.getD_eq_getElem?_getD, List.getElem?_eq_getElem h]; rfl
theorem bk_mem {ls : List (List Nat)} {i : Nat} (h : i < ls.length) : bk ls i ∈ ls := by rw [bk_at h]; exact List.getElem_mem h
theorem bk_ext {a b : List (List Nat)} (h : a.length = b.length) (hn : ∀ i, i < a.length → bk a i = bk b i) : a = b := by
 refine List.ext_getElem h fun i h1 h2 => ?_;have := hn i h1;rwa [bk_at h1, bk_at h2] at this
theorem bk_set {ls : List (List Nat)} {i j : Nat} (hj : j < ls.length) (b : List Nat) : bk (ls.set i b) j = if i = j then b else bk ls j := by
 rw [bk_at (by simpa using hj), List.getElem_set, bk_at hj]
def PvD (w : World) (v : Value) (ls : List (List Nat)) : Prop :=
 ∃ ao cap, v = .slice ao ls.length cap ∧ ls.length ≤ cap ∧ cap ≤ maxLen ∧ (ao = none → cap = 0) ∧
  ∀ i, i < ls.length → ∃ b off u, ao = some ⟨b, off, none⟩ ∧ w.cell? ⟨b, off + i, none⟩ = some u ∧ Bv w u (bk ls i)
theorem PvD.below {w w' : World} {v : Value} {ls : List (List Nat)} (h : PvD w v ls) (hb : Below w.heap.size w w') : PvD w' v ls := by
 obtain ⟨ao, cap, e, h1, h2, h3, h4⟩ := h;refine ⟨ao, cap, e, h1, h2, h3, fun i hi => ?_⟩;obtain ⟨b, off, u, e1, e2, e3⟩ := h4 i hi;exact ⟨b, off, u, e1, by rw [hb.cell (p := ⟨b, off + i, none⟩) (cell_lt e2)]; exact e2, e3.below hb⟩
theorem PvD.form {w : World} {v : Value} {ls : List (List Nat)} (h : PvD w v ls) : ∃ ao cap, v = .slice ao ls.length cap ∧ ls.length ≤ cap ∧ cap ≤ maxLen := by
 obtain ⟨ao, cap, e, h1, h2, h3, h4⟩ := h;exact ⟨ao, cap, e, h1, h2⟩
theorem PvD.bytes {w : World} {v : Value} {ls : List (List Nat)} (h : PvD w v ls) : ∀ b ∈ ls, ∀ c ∈ b, c < 256 := by
 obtain ⟨ao, cap, e, h1, h2, h3, h4⟩ := h;intro b hb;obtain ⟨i, hi, rfl⟩ := List.getElem_of_mem hb;obtain ⟨_, _, _, _, _, e3⟩ := h4 i hi;rw [bk_at hi] at e3;exact e3.2
def Oc (w : World) (u : Value) (b : List Nat) : Prop := w.ownsRow 0 5 1 u b.length (cb b)
theorem Oc.bv {w : World} {u : Value} {b : List Nat} (h : Oc w u b) (hb : ∀ c ∈ b, c < 256) : Bv w u b := own_bv h hb
theorem Oc.nil (w : World) : Oc w (.slice none 0 0) [] := World.ownsRow_nil _ _ _ _
theorem Oc.keep {w w' : World} {u : Value} {b : List Nat} (h : Oc w u b) (hk : ∀ x, u.ownBlock = some x → w'.heap[x]? = w.heap[x]?) : Oc w' u b := row_keep h hk
theorem Oc.block {w : World} {u : Value} {b : List Nat} (h : Oc w u b) {x : Nat} (hx : u.ownBlock = some x) : ∃ cur, w.heap[x]? = some (.cells cur 5 (0, 0)) := by
 rcases h.2 with ⟨rfl, _⟩ | ⟨g, cap, cur, rfl, hb, hg, r⟩
 ·cases hx
 ·simp [Value.ownBlock] at hx; subst hx; exact ⟨cur, hg⟩
theorem Oc.below {w w' : World} {u : Value} {b : List Nat} (h : Oc w u b) (hb : Below w.heap.size w w') : Oc w' u b := own_below h hb
def Gr (E : Nat → Prop) (w : World) (g cap : Nat) (ls : List (List Nat)) : Prop :=
 (∃ cur, w.heap[g]? = some (.cells cur 78 (0, 0)) ∧ cur.size = cap ∧ ∀ i, i < ls.length → ∃ u, cur[i]? = some u ∧ Oc w u (bk ls i) ∧ ∀ x, u.ownBlock = some x → E x) ∧ ls.length ≤ cap ∧ cap ≤ maxLen
def Bx (D : Nat → Prop) (w : World) (u : Value) (b : List Nat) : Prop := Bv w u b ∧ (b = [] ∨ ∀ x, u.ownBlock = some x → ¬ D x)
theorem Bv.any {w w' : World} {u : Value} (h : Bv w u []) : Bv w' u [] := by
 obtain ⟨⟨ao, cap, e, h1, h2, h3, h4⟩, h5⟩ := h;exact ⟨⟨ao, cap, e, h1, h2, h3, fun i hi => by simp [ib] at hi⟩, h5⟩
theorem Bv.lt {w : World} {u : Value} {b : List Nat} (h : Bv w u b) (hb : b ≠ []) {x : Nat} (hx : u.ownBlock = some x) : x < w.heap.size := by
 obtain ⟨⟨ao, cap, rfl, h1, h2, h3, h4⟩, h5⟩ := h;obtain ⟨b', off, rfl, c⟩ := h4 0 (by rw [ib_len]; exact List.length_pos_iff.2 hb);simp [Value.ownBlock] at hx;subst hx;exact cell_lt c
theorem Bx.ch {D D' : Nat → Prop} {w w' : World} {u : Value} {b : List Nat} (h : Bx D w u b) (hc : Ch D w w') (hd : ∀ x, D' x → D x ∨ w.heap.size ≤ x) : Bx D' w' u b := by
 by_cases hb : b = []
 ·subst hb; exact ⟨h.1.any, .inl rfl⟩
 ·have hn : ∀ x, u.ownBlock = some x → ¬ D x := h.2.resolve_left hb;refine ⟨h.1.keep (fun x hx => hc.block x (h.1.lt hb hx) (hn x hx)), .inr fun x hx e => ?_⟩;rcases hd x e with q | q
  ·exact hn x hx q
  ·have := h.1.lt hb hx; omega
section

variable {E : Nat → Prop} {w w' : World} {g cap : Nat} {ls : List (List Nat)}

theorem Gr.lt (h : Gr E w g cap ls) : g < w.heap.size := by
 obtain ⟨⟨cur, h1, _⟩, _⟩ := h;exact (Array.getElem?_eq_some_iff.1 h1).1
theorem Gr.keep (h : Gr E w g cap ls) (hg : w'.heap[g]? = w.heap[g]?) (hk : ∀ x, E x → x < w.heap.size → x ≠ g → w'.heap[x]? = w.heap[x]?) : Gr E w' g cap ls := by
 obtain ⟨⟨cur, h1, h2, h3⟩, h4⟩ := h;refine ⟨⟨cur, by rw [hg]; exact h1, h2, fun i hi => ?_⟩, h4⟩;obtain ⟨u, a, b, c⟩ := h3 i hi;refine ⟨u, a, b.keep (fun x hx => hk x (c x hx) (b.lt x hx).2 ?_), c⟩;rintro rfl;obtain ⟨cur2, e⟩ := b.block hx;rw [h1] at e; simp at e
theorem Gr.below (h : Gr E w g cap ls) (hb : Below w.heap.size w w') : Gr E w' g cap ls := h.keep (hb.block g h.lt) (fun x _ hx _ => hb.block x hx)
theorem Gr.mono {E' : Nat → Prop} (h : Gr E w g cap ls) (he : ∀ x, E x → E' x) : Gr E' w g cap ls := by
 obtain ⟨⟨cur, h1, h2, h3⟩, h4⟩ := h;refine ⟨⟨cur, h1, h2, fun i hi => ?_⟩, h4⟩;obtain ⟨u, a, b, c⟩ := h3 i hi;exact ⟨u, a, b, fun x hx => he x (c x hx)⟩
theorem Gr.at (h : Gr E w g cap ls) {i : Nat} (hi : i < ls.length) : ∃ u, w.cell? ⟨g, i, none⟩ = some u ∧ Oc w u (bk ls i) ∧ ∀ x, u.ownBlock = some x → E x ∧ x ≠ g := by
 obtain ⟨⟨cur, h1, h2, h3⟩, h4⟩ := h;obtain ⟨u, a, b, c⟩ := h3 i hi;refine ⟨u, by rw [cell_of_row w g i cur _ (0, 0) h1]; exact a, b, fun x hx => ⟨c x hx, ?_⟩⟩;rintro rfl;obtain ⟨cur2, e⟩ := b.block hx;rw [h1] at e; simp at e
theorem Gr.soft (h : Gr E w g cap ls) (i : Nat) : w.frozen? ⟨g, i, none⟩ = false := by
 obtain ⟨⟨cur, h1, _⟩, _⟩ := h;simp [World.frozen?, h1]
theorem set_row {cur : Array Value} {t : TypeId} (h : w.heap[g]? = some (.cells cur t (0, 0))) (i : Nat) (u : Value) : (w.setCell ⟨g, i, none⟩ u).heap[g]? = some (.cells (cur.setIfInBounds i u) t (0, 0)) := by
 rw [Sort.setCell_eq];simp [Sort.mapBlock, Array.getElem?_modify, h, Sort.onCells]
theorem set_other (i : Nat) (u : Value) {x : Nat} (hx : x ≠ g) : (w.setCell ⟨g, i, none⟩ u).heap[x]? = w.heap[x]? := Below.heap_setCell w _ _ x hx
theorem Gr.set (h : Gr E w g cap ls) {i : Nat} (hi : i < ls.length) {u : Value} {b : List Nat} (hu : Oc w u b) (hE : ∀ x, u.ownBlock = some x → E x) : Gr E (w.setCell ⟨g, i, none⟩ u) g cap (ls.set i b) := by
 obtain ⟨⟨cur, h1, h2, h3⟩, h4, h5⟩ := h
 have ng : ∀ {u : Value} {b : List Nat}, Oc w u b → ∀ x, u.ownBlock = some x → x ≠ g := by
  intro u b hu x hx e;subst e;obtain ⟨cur2, e⟩ := hu.block hx;rw [h1] at e; simp at e
 refine ⟨⟨cur.setIfInBounds i u, set_row h1 i u, by simpa using h2, fun j hj => ?_⟩, by simpa using h4, h5⟩;rw [List.length_set] at hj;rw [bk_set hj];by_cases e : i = j
 ·subst e;rw [if_pos rfl];exact ⟨u, by rw [Array.getElem?_setIfInBounds, if_pos rfl, if_pos (by omega)], hu.keep (fun x hx => set_other i u (ng hu x hx)), hE⟩
 ·rw [if_neg e];obtain ⟨v, a, b, c⟩ := h3 j hj;exact ⟨v, by rw [Array.getElem?_setIfInBounds, if_neg e]; exact a, b.keep (fun x hx => set_other i u (ng b x hx)), c⟩
theorem Gr.pv (h : Gr E w g cap ls) (hb : ∀ b ∈ ls, ∀ c ∈ b, c < 256) : PvD w (.slice (some ⟨g, 0, none⟩) ls.length cap) ls := by
 refine ⟨_, cap, rfl, h.2.1, h.2.2, by simp, fun i hi => ?_⟩;obtain ⟨u, a, b, c⟩ := h.at hi;exact ⟨g, 0, u, rfl, by rw [Nat.zero_add]; exact a, b.bv (hb _ (bk_mem hi))⟩
end

theorem clone_walk {v : Value} {l : List Nat} {w : World} (ho : Bv w v l) (hl : l.length ≤ 140737488355328) :
  Calls Tryz.prog 131 #[v] w fun e w' => ∃ v', e = .returned v' ∧ w'.ownsRow w.heap.size 5 1 v' l.length (cb l) ∧ Below w.heap.size w w' := by
 have HO : Hid (Bv w v l) := ho;obtain ⟨⟨ao, cap, rfl, h1, h2, h3, _⟩, _⟩ := ho;rw [ib_len] at h1;rw [ib_len] at HO ⊢;have HL := hidH hl;have H3 : Hid (ao = none → cap = 0) := h3;have H1 : Hid (l.length ≤ cap) := h1;have q : ∀ (w : World) (a : Option Addr) (n c : Nat), (binOp .eql 78 (.slice a n c) (.slice none 0 0)).run Tryz.prog w = .ok (.bool a.isNone) w := fun w a n c => Lib.run_eql_slice_nil w 78 5 a n c 0 0 Tryz.underlying78;clear hl h1 h2 h3
 cases ao with
 | none =>
  have hc := H3.out rfl;subst hc;have hl0 : l.length = 0 := by have := H1.out; omega
  have hl : l = [] := List.eq_nil_of_length_eq_zero hl0;subst hl;rw [List.length_nil];go_in;go_wp2_with fail;go_ret;exact ⟨_, rfl, World.ownsRow_nil _ _ _ _, below_same _⟩
 | some p =>
  go_in;go_wp2_with (at_builtin; refine wpList_append_sv (by rfl) _ _ 78 (by rfl) w.heap.size 5 .u8 1 Tryz.underlying78 info_u8 _ 0 [] (by rfl) (World.ownsRow_made w #[] 0 (Nat.le_refl _) (by simp [maxLen]) (by simp)) _ (ib l) (by rfl) (HO.out.below (below_alloc _ _)).1 (by have := HL.out; rw [ib_len]; simp [maxLen]; omega) (by have := HL.out; rw [ib_len]; omega) (by simp) ?_; intro v' w2 hown hgrow; go_frame);go_ret;refine ⟨_, rfl, by rw [ib_len] at hown; simpa using hown, ?_⟩;exact (below_alloc w (Obj.cells #[] 5)).grown hgrow (by simp) (by simp [Value.ownBlock])
theorem rclone_walk {v : Value} {l : List Nat} {w : World} (ho : Bv w v l) (hl : l.length ≤ 140737488355328) :
  Calls Tryz.prog 132 #[v] w fun e w' => ∃ v', e = .returned v' ∧ w'.ownsRow w.heap.size 5 1 v' l.length (cb l) ∧ Below w.heap.size w w' := by
 have HO : Hid (Bv w v l) := ho;obtain ⟨⟨ao, cap, rfl, h1, h2, h3, _⟩, _⟩ := ho;rw [ib_len] at h1;rw [ib_len] at HO ⊢;have HL := hidH hl;clear hl h1 h2 h3;go_in;go_wp2_with (at_builtin; refine wpList_append_sv (by rfl) _ _ 78 (by rfl) w.heap.size 5 .u8 1 Tryz.underlying78 info_u8 _ 0 [] (by rfl) (World.ownsRow_made w #[] 0 (Nat.le_refl _) (by simp [maxLen]) (by simp)) _ (ib l) (by rfl) (HO.out.below (below_alloc _ _)).1 (by have := HL.out; rw [ib_len]; simp [maxLen]; omega) (by have := HL.out; rw [ib_len]; omega) (by simp) ?_; intro v' w2 hown hgrow; go_frame);go_ret;refine ⟨_, rfl, by rw [ib_len] at hown; simpa using hown, ?_⟩;exact (below_alloc w (Obj.cells #[] 5)).grown hgrow (by simp) (by simp [Value.ownBlock])
end
section
open Ieee Go.RowKit

theorem fitV_no (k : Int) : fitV k noV = noV := by unfold fitV; rw [if_pos (show noV.h = false from rfl)]
theorem fitV_12 {k : Int} (h : k = 1 ∨ k = 2) (b : Nat) : fitV k ⟨true, b⟩ = ⟨true, b⟩ := by unfold fitV; rw [if_neg (by simp), if_pos h]
theorem fitV_34 {k : Int} (h : k = 3 ∨ k = 4) (b : Nat) : fitV k ⟨true, b⟩ = ⟨true, canonW b⟩ := by unfold fitV; rw [if_neg (by simp), if_neg (by omega), if_pos h]
theorem fitV_un {k : Int} (h : knownB k = false) (v : Vl) : fitV k v = noV := by
 have := unknown_kind h;unfold fitV
 split
 ·rfl
 rw [if_neg (by omega), if_neg (by omega)]
theorem fitV_f (k : Int) (b : Nat) : fitV k ⟨false, b⟩ = noV := by unfold fitV; rw [if_pos rfl]
theorem fit_ways (k : Int) (v : Vl) : (fitV k v = noV ∧ (v.h = false ∨ knownB k = false)) ∨ (v.h = true ∧ (k = 1 ∨ k = 2) ∧ fitV k v = ⟨true, v.b⟩) ∨ (v.h = true ∧ (k = 3 ∨ k = 4) ∧ fitV k v = ⟨true, canonW v.b⟩) := by
 obtain ⟨h, b⟩ := v
 cases h
 ·exact .inl ⟨fitV_f k b, .inl rfl⟩
 cases hk : knownB k
 ·exact .inl ⟨fitV_un hk _, .inr rfl⟩
 rcases known_kind.1 hk with h | h | h | h
 ·exact .inr (.inl ⟨rfl, .inl h, fitV_12 (.inl h) b⟩)
 ·exact .inr (.inl ⟨rfl, .inr h, fitV_12 (.inr h) b⟩)
 ·exact .inr (.inr ⟨rfl, .inl h, fitV_34 (.inl h) b⟩)
 ·exact .inr (.inr ⟨rfl, .inr h, fitV_34 (.inr h) b⟩)
theorem fitV_fitV (k : Int) (v : Vl) : fitV k (fitV k v) = fitV k v := by
 rcases fit_ways k v with ⟨e, _⟩ | ⟨_, h, e⟩ | ⟨_, h, e⟩
 ·rw [e, fitV_no]
 ·rw [e, fitV_12 h]
 ·rw [e, fitV_34 h, canonW_canonW]
theorem fit_join (k : Int) {a b : Vl} (ha : fitV k a = a) (hb : fitV k b = b) : fitV k (joinV k a b) = joinV k a b := by
 unfold joinV
 split
 ·exact hb
 split
 ·exact ha
 split
 ·rename_i h; subst h; rw [fitV_34 (.inl rfl), canonW_leastW]
 split
 ·rename_i h; subst h; rw [fitV_34 (.inr rfl), canonW_mostW]
 ·rename_i h1 h2 h3 h4
  have h12 : k = 1 ∨ k = 2 := by
   rcases fit_ways k a with ⟨e, _⟩ | ⟨_, h, e⟩ | ⟨_, h, e⟩
   ·exact absurd (by rw [← ha, e]; rfl) h1
   ·exact h
   ·omega
  rw [fitV_12 h12]
theorem fit_merge (k : Int) (a b : Vl) : fitV k (mergeV k a b) = mergeV k a b := fit_join k (fitV_fitV k a) (fitV_fitV k b)
end
end Go.Proofs.YtcmklbibehnloaaGreat
