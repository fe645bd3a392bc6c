/- Contracts of cells where the power is gone or there is no store, of Mark, Used, Ended. -/
import Derived.Test.YtofkhgokfdpdiabGreatB02
import Derived.Test.YtofkhgokfdpdiabGreatB09
import Derived.Test.YtofkhgokfdpdiabGreatB30
import Derived.Test.YtofkhgokfdpdiabGreatB25
import Derived.Test.YtofkhgokfdpdiabGreatB32
set_option maxRecDepth 100000
set_option maxHeartbeats 16000000
namespace Go.Proofs.YtofkhgokfdpdiabGreat
section
open Go.RowKit
/-! Cells that are the same. -/
def eqCb (c d : Cl) : Bool := decide (c.k = d.k) && (eqV c.p d.p && (eqV c.c d.c && decide (c.n = d.n)))
def eqLb : List Cl → List Cl → Bool
 | [], [] => true
 | c :: l, d :: m => eqCb c d && eqLb l m
 | _, _ => false
theorem eqV_iff {v u : Vl} : eqV v u = true ↔ v = u := by
 obtain ⟨a, b⟩ := v
 obtain ⟨c, d⟩ := u
 simp [eqV]
theorem eqCb_iff {c d : Cl} : eqCb c d = true ↔ c = d := by
 obtain ⟨a, p, q, n⟩ := c
 obtain ⟨b, r, s, m⟩ := d
 simp only [eqCb, Bool.and_eq_true, decide_eq_true_eq, eqV_iff, Cl.mk.injEq]
theorem eqLb_iff {l : List Cl} : ∀ {m : List Cl}, eqLb l m = true ↔ l = m := by
 induction l with
 | nil => intro m; cases m <;> simp [eqLb]
 | cons c l ih => intro m; cases m with
  | nil => simp [eqLb]
  | cons d m => simp only [eqLb, Bool.and_eq_true, eqCb_iff, ih, List.cons.injEq]
def chgL (old new : List (List Cl)) : Nat → List (Int × List Nat)
 | 0 => []
 | i + 1 => chgL old new i ++ (if eqLb (pgc new i) (pgc old i) = true then [] else [(1 + (i : Int), (encode (pgc new i)).1)])
theorem chg_same {old new : List (List Cl)} {i : Nat} (h : pgc new i = pgc old i) : chgL old new (i + 1) = chgL old new i := by
 rw [chgL, if_pos (eqLb_iff.2 h), List.append_nil]
theorem chg_other {old new : List (List Cl)} {i : Nat} (h : pgc new i ≠ pgc old i) : chgL old new (i + 1) = chgL old new i ++ [(1 + (i : Int), (encode (pgc new i)).1)] := by
 rw [chgL, if_neg (fun e => h (eqLb_iff.1 e))]
theorem chg_len (old new : List (List Cl)) : ∀ i, (chgL old new i).length ≤ i := by
 intro i
 induction i with
 | zero => simp [chgL]
 | succ i ih => rw [chgL, List.length_append]; split <;> simp <;> omega
/-! A list of writes, all of it new memory. -/
theorem info_pwS : (Tryz.prog.info? 102).map (fun i => (i.zero, i.size, i.bytes)) = some (some (.agg #[.int .i64 0, .slice none 0 0]), 2, 32) := by kernel_rfl
def flatW (qs : List (Int × Value)) : List Value := qs.flatMap fun q => [.int .i64 q.1, q.2]
theorem flatW_append (a b : List (Int × Value)) : flatW (a ++ b) = flatW a ++ flatW b := by simp [flatW]
theorem flatW_get (qs : List (Int × Value)) (i : Nat) (hi : i < qs.length) : (flatW qs)[i * 2]? = some (.int .i64 qs[i].1) ∧ (flatW qs)[i * 2 + 1]? = some qs[i].2 := by
 induction qs generalizing i with
 | nil => simp at hi
 | cons q r ih =>
  have e : flatW (q :: r) = [.int .i64 q.1, q.2] ++ flatW r := rfl
  rw [e]
  cases i with
  | zero => simp
  | succ i =>
   have h := ih i (by simpa using hi)
   rw [show (i + 1) * 2 = i * 2 + 2 by omega, List.getElem?_append_right (by simp), List.getElem?_append_right (by simp)]
   simpa using h
def WL (base : Nat) (w : World) (v : Value) (ps : List (Int × List Nat)) : Prop :=
 ∃ qs : List (Int × Value), qs.length = ps.length ∧ w.ownsRow base 102 2 v ps.length (flatW qs) ∧
  (∀ i, (h : i < ps.length) → (h' : i < qs.length) → qs[i].1 = ps[i].1 ∧ w.ownsRow base 5 1 qs[i].2 ps[i].2.length (cb ps[i].2) ∧ ∀ c ∈ ps[i].2, c < 256) ∧ ∀ p ∈ ps, 0 ≤ p.1 ∧ p.1 < 8
theorem WL.nil (base : Nat) (w : World) : WL base w (.slice none 0 0) [] := ⟨[], rfl, ⟨rfl, .inl ⟨rfl, rfl⟩⟩, fun i hi => by simp at hi, by simp⟩
theorem WL.below {base : Nat} {w w' : World} {v : Value} {ps : List (Int × List Nat)} (h : WL base w v ps) (hb : Below w.heap.size w w') : WL base w' v ps := by
 obtain ⟨qs, h1, h2, h3, h4⟩ := h
 exact ⟨qs, h1, own_belowC h2 hb, fun i hi hi' => ⟨(h3 i hi hi').1, own_belowC (h3 i hi hi').2.1 hb, (h3 i hi hi').2.2⟩, h4⟩
theorem WL.low {base b2 : Nat} {w : World} {v : Value} {ps : List (Int × List Nat)} (h : WL base w v ps) (hb : b2 ≤ base) : WL b2 w v ps := by
 obtain ⟨qs, h1, h2, h3, h4⟩ := h
 exact ⟨qs, h1, own_baseC h2 hb, fun i hi hi' => ⟨(h3 i hi hi').1, own_baseC (h3 i hi hi').2.1 hb, (h3 i hi hi').2.2⟩, h4⟩
theorem own_cells2 {w : World} {base e : Nat} {v : Value} {n : Nat} {xs : List Value} (h : w.ownsRow base e 2 v n xs) (hn : 0 < n) : ∃ g cap cur, v = .slice (some ⟨g, 0, none⟩) n cap ∧ base ≤ g ∧ n ≤ cap ∧ cap ≤ maxLen ∧ w.heap[g]? = some (.cells cur e (0, 0)) ∧ ∀ j, j < n * 2 → w.cell? ⟨g, j, none⟩ = xs[j]? := by
 obtain ⟨h1, h2⟩ := h
 rcases h2 with ⟨_, h0⟩ | ⟨g, cap, cur, hv, hb, hg, hnc, hcm, hcs, htk⟩
 ·omega
 ·refine ⟨g, cap, cur, hv, hb, hnc, hcm, hg, fun j hj => ?_⟩
  rw [cell_of_row w g j cur _ (0, 0) hg, ← Array.getElem?_toList]
  have e := congrArg (fun l => l[j]?) htk
  simp only [List.getElem?_take] at e
  rw [if_pos (by omega)] at e
  exact e
theorem WL.tx {A : Nat → Prop} {base : Nat} {w : World} {v : Value} {ps : List (Int × List Nat)} (h : WL base w v ps) (hA : ∀ x, A x → x < base) : Tx A w v ps := by
 obtain ⟨qs, h1, h2, h3, h4⟩ := h
 refine ⟨?_, fun p hp => by have := h4 p hp; omega⟩
 by_cases hn : 0 < ps.length
 ·obtain ⟨g, cap, cur, e, hb, hnc, hcm, hg, hc⟩ := own_cells2 h2 hn
  refine ⟨some ⟨g, 0, none⟩, cap, e, hnc, hcm, by simp, fun i hi => ⟨g, 0, qs[i].2, rfl, fun e => by have := hA g e; omega, ?_, ?_, ?_⟩⟩
  ·rw [Nat.zero_add, hc (i * 2) (by omega), (flatW_get qs i (by omega)).1, (h3 i hi (by omega)).1]
  ·rw [Nat.zero_add, hc (i * 2 + 1) (by omega), (flatW_get qs i (by omega)).2]
  ·obtain ⟨_, k2, k3⟩ := h3 i hi (by omega)
   exact ⟨own_bv k2 k3, .inr fun x hx e => by have h5 := (k2.lt x hx).1; have h6 := hA x e; omega⟩
 ·have hp : ps = [] := List.eq_nil_of_length_eq_zero (by omega)
  subst hp
  rcases h2.2 with ⟨rfl, _⟩ | ⟨g, cap, cur, hv, hb, hg, hnc, hcm, hcs, htk⟩
  ·exact ⟨none, 0, rfl, by simp, by simp [maxLen], by simp, fun i hi => by simp at hi⟩
  ·exact ⟨_, cap, hv, hnc, hcm, by simp, fun i hi => by simp at hi⟩
theorem sh_lit (w : World) (g : Nat → Value) {Ls : List (List Cl)} (hl : Ls.length = 6) (hg : ∀ j, j < 6 → Cv w (g j) (pgc Ls j)) : SH (w.alloc (Obj.cells #[g 0, g 1, g 2, g 3, g 4, g 5] 83)) w.heap.size g Ls := by
 refine ⟨hl, fun i hi => ?_, fun j => by simp [go_sem], fun i hi => (hg i hi).below (below_alloc _ _)⟩
 have : i = 0 ∨ i = 1 ∨ i = 2 ∨ i = 3 ∨ i = 4 ∨ i = 5 := by omega
 rcases this with rfl | rfl | rfl | rfl | rfl | rfl <;> simp [go_sem]
theorem encode_lt {l : List Cl} (hok : ∀ c ∈ l, c.okB) : ∀ x ∈ (encode l).1, x < 256 := by
 by_cases h : (encode l).2 = 0
 ·exact form_bytes h hok
 ·have : (encode l).1 = [] := by
   unfold encode at h ⊢
   split
   ·rfl
   ·split
    ·rfl
    ·split
     ·rename_i h1 h2 h3; rw [if_neg h1, if_neg h2, if_pos h3] at h; exact absurd rfl h
     ·rfl
  rw [this]; simp
theorem pw_types : (102 : Nat) ≠ 5 := by decide
theorem wl_app {base : Nat} {w w' : World} {v v' u : Value} {ps : List (Int × List Nat)} {qs : List (Int × Value)} {p : Int} {d : List Nat} (_hw : WL base w v ps) (k1 : qs.length = ps.length) (k2 : w.ownsRow base 102 2 v ps.length (flatW qs))
  (k3 : ∀ i, (h : i < ps.length) → (h' : i < qs.length) → qs[i].1 = ps[i].1 ∧ w.ownsRow base 5 1 qs[i].2 ps[i].2.length (cb ps[i].2) ∧ ∀ c ∈ ps[i].2, c < 256) (k4 : ∀ p ∈ ps, 0 ≤ p.1 ∧ p.1 < 8)
  (hu : w.ownsRow base 5 1 u d.length (cb d)) (hd : ∀ c ∈ d, c < 256) (hp : 0 ≤ p ∧ p < 8) (hbase : base ≤ w.heap.size) (g1 : w'.ownsRow base 102 2 v' (ps.length + 1) (flatW qs ++ [.int .i64 p, u])) (g2 : w.grownBy w' v.ownBlock) :
  WL base w' v' (ps ++ [(p, d)]) ∧ Below base w w' := by
 have hbl : Below base w w' := grown_belowC k2 g2 hbase
 have keep : ∀ {y : Value} {n : Nat} {ys : List Value}, w.ownsRow base 5 1 y n ys → w'.ownsRow base 5 1 y n ys := fun {y n ys} hy => by
  refine own_apart hy (Ch.of_grown (D := fun x => v.ownBlock = some x) g2 (fun x hx => hx)) (fun z hz e => ?_)
  rcases hy.2 with ⟨rfl, _⟩ | ⟨g, cap, cur, rfl, _, hg, _⟩
  ·cases hz
  ·rcases k2.2 with ⟨rfl, _⟩ | ⟨g', cap', cur', rfl, _, hg', _⟩
   ·cases e
   ·simp [Value.ownBlock] at hz e
    subst hz
    subst e
    rw [hg] at hg'
    simp only [Option.some.injEq, Obj.cells.injEq] at hg'
    exact pw_types hg'.2.1.symm
 refine ⟨⟨qs ++ [(p, u)], by simp [k1], ?_, fun i hi hi' => ?_, fun r hr => ?_⟩, hbl⟩
 ·rw [List.length_append, flatW_append]; exact g1
 ·by_cases hl : i < ps.length
  ·have hl' : i < qs.length := by omega
   simp only [List.getElem_append_left hl, List.getElem_append_left hl']
   obtain ⟨a1, a2, a3⟩ := k3 i hl hl'
   exact ⟨a1, keep a2, a3⟩
  ·have hie : i = ps.length := by simp at hi; omega
   subst hie
   simp only [List.getElem_append_right (Nat.le_refl _), Nat.sub_self, List.getElem_singleton]
   have e : (qs ++ [(p, u)])[ps.length] = (p, u) := by rw [List.getElem_append_right (by omega)]; simp [k1]
   rw [e]
   exact ⟨rfl, keep hu, hd⟩
 ·rcases List.mem_append.1 hr with hr | hr
  ·exact k4 r hr
  ·simp at hr; subst hr; exact hp
theorem wpList_append_wl {w : World} {ops : Array Oper} {rest : List Oper} {o : Oper} {a : Act} {Q : Exit → Act → World → Prop} (hgd : o.guard = none) (s x : Operand)
  (ho : o.op = .call { callee := .builtin .append, args := #[s, x], argTypes := #[94, 94] })
  (base : Nat) (v : Value) (ps : List (Int × List Nat)) (hs : a.eval s = v) (hw : WL base w v ps)
  (q : Nat) (p : Int) (u : Value) (d : List Nat) (hx : a.eval x = .slice (some ⟨q, 0, none⟩) 1 1) (h0 : w.cell? ⟨q, 0, none⟩ = some (.int .i64 p)) (h1 : w.cell? ⟨q, 1, none⟩ = some u) (hu : w.ownsRow base 5 1 u d.length (cb d)) (hd : ∀ c ∈ d, c < 256) (hp : 0 ≤ p ∧ p < 8) (hn : ps.length ≤ 16) (hbase : base ≤ w.heap.size)
  (h : ∀ v' w', WL base w' v' (ps ++ [(p, d)]) → Below base w w' → wpList Tryz.prog ops Q rest (a.put o.dst v') w') : wpList Tryz.prog ops Q (o :: rest) a w := by
 obtain ⟨i0, hi, hz0, hz1, hz2⟩ := info_partsVB info_pwS
 obtain ⟨qs, k1, k2, k3, k4⟩ := hw
 have hu1 : u.oneCell' = true := by
  rcases hu.2 with ⟨rfl, _⟩ | ⟨g, cap, cur, rfl, _⟩ <;> rfl
 refine wpList_append_own w hgd s x 94 ho base 102 i0 (.agg #[.int .i64 0, .slice none 0 0]) 2 32 Tryz.underlying94 hi hz0 hz1 hz2 rfl (by decide) v ps.length (flatW qs) hs k2 ⟨q, 0, none⟩ 1 1 [.int .i64 p, u] hx rfl ?_ (fun y hy => by simp at hy; rcases hy with rfl | rfl; rfl; exact hu1) (by simp only [maxLen]; omega) (by omega) hbase (fun v' w' g1 g2 g3 => ?_)
 ·intro j y hj
  cases j with
  | zero => simp at hj; subst hj; exact h0
  | succ j => cases j with
   | zero => simp at hj; subst hj; exact h1
   | succ j => simp at hj
 ·obtain ⟨a1, a2⟩ := wl_app ⟨qs, k1, k2, k3, k4⟩ k1 k2 k3 k4 hu hd hp hbase g1 g2
  exact h v' w' a1 a2
section

variable {w : World} {Q : Nat} {f g : Nat → Value} {old new : List (List Cl)}

def CgR (w0 : World) (old new : List (List Cl)) (lv iv : Value) (wr : World) : Prop :=
 ∃ i : Nat, iv = .int .i64 i ∧ i ≤ 6 ∧ WL w0.heap.size wr lv (chgL old new i) ∧ Below w0.heap.size w0 wr
theorem changes_walk (h : SH w Q f new) (ho : old.length = 6) (hg : ∀ j, j < 6 → Cv w (g j) (pgc old j)) (hok : ∀ i, i < 6 → ∀ c ∈ pgc new i, c.okB) :
  Calls Tryz.prog 42 #[.pointer (some ⟨Q, 0, none⟩), .agg #[g 0, g 1, g 2, g 3, g 4, g 5]] w fun e w' => ∃ lv, e = .returned lv ∧ WL w.heap.size w' lv (chgL old new 6) ∧ Below w.heap.size w w' := by
 have HOK := hidH hok
 have HB0 : Hid _ := below_alloc w (Obj.cells #[g 0, g 1, g 2, g 3, g 4, g 5] 83)
 have H0 : Hid (SH (w.alloc (Obj.cells #[g 0, g 1, g 2, g 3, g 4, g 5] 83)) Q f new) := h.below HB0.out
 have HG0 : Hid (SH (w.alloc (Obj.cells #[g 0, g 1, g 2, g 3, g 4, g 5] 83)) w.heap.size g old) := sh_lit w g ho hg
 obtain ⟨F, hF⟩ : ∃ F : Array Value, F = #[g 0, g 1, g 2, g 3, g 4, g 5] := ⟨_, rfl⟩
 clear h hg hok
 go_in
 go_upto_region 1 with fail
 obtain ⟨N, hN⟩ : ∃ N, N = w.heap.size := ⟨_, rfl⟩
 rw [← hN] at HG0 ⊢
 have HN : Hid (N = w.heap.size) := hN
 clear hN hF F
 generalize w.alloc (Obj.cells #[g 0, g 1, g 2, g 3, g 4, g 5] 83) = w0 at H0 HG0 HB0 ⊢
 go_wp2_with fail
 go_loopw [5, 9] (fun lv iv wr => CgR w0 old new lv iv wr) (fun _ iv _ => 6 - (intOf iv).toNat)
 case atStart => exact ⟨0, rfl, by omega, WL.nil _ _, Below.refl _ _⟩
 case round =>
  obtain ⟨i, rfl, hi, hwl, hbel⟩ := hrel
  have HWL := hidH hwl
  have HB := hidH hbel
  have HBW := hidH (below_trans HB0.out hbel)
  clear hwl hbel
  by_cases hlt : i < 6
  rotate_left
  ·have hlti : ¬ (i : Int) < 6 := by omega
   obtain rfl : i = 6 := by omega
   go_wp2_with fail
   go_ret
   exact ⟨_, rfl, HWL.out.low HB0.out.size, HBW.out⟩
  ·have hlti : (i : Int) < 6 := by omega
   have HS1 : Hid (SH wr Q f new) := H0.out.below HB.out
   have HS2 : Hid (SH wr N g old) := HG0.out.below HB.out
   obtain ⟨fa, fc, hf⟩ := HS1.out.form hlt
   obtain ⟨ga, gc, hg⟩ := HS2.out.form hlt
   obtain ⟨fn, hfn⟩ : ∃ n, n = (pgc new i).length := ⟨_, rfl⟩
   obtain ⟨gn, hgn⟩ : ∃ n, n = (pgc old i).length := ⟨_, rfl⟩
   rw [← hfn] at hf
   rw [← hgn] at hg
   have HF : Hid (Cv wr (.slice fa fn fc) (pgc new i)) := by have := HS1.out.cv i hlt; rw [hf] at this; exact this
   have HG : Hid (Cv wr (.slice ga gn gc) (pgc old i)) := by have := HS2.out.cv i hlt; rw [hg] at this; exact this
   have m0 : ∀ wx, Below wr.heap.size wr wx → wx.cell? ⟨Q, i, none⟩ = some (.slice fa fn fc) := fun wx h => by have := (HS1.out.below h).c i hlt; rw [hf] at this; exact this
   have m1 : ∀ wx, Below wr.heap.size wr wx → wx.cell? ⟨N, i, none⟩ = some (.slice ga gn gc) := fun wx h => by have := (HS2.out.below h).c i hlt; rw [hg] at this; exact this
   have HM : Hid _ := m0
   clear hf hg hfn hgn
   go_upto_region 5 with fail
   go_region_held3 (fun wx => Below wr.heap.size wr wx) (first | assumption | exact (Below.refl _ _).drew)
    (first | (go_at_call 85; refine (sequal_walk (HF.out.below (by assumption)) (HG.out.below (by assumption))).mono ?_; rintro e w2 ⟨⟨t, rfl, ht⟩, hB2⟩; have hS2 := below_trans (by assumption) hB2))
   have HB2 : Hid (Below wr.heap.size wr w2) := by assumption
   have HT : Hid (t = true ↔ pgc new i = pgc old i) := ht
   clear ht
   cases t
   rotate_left
   ·have HREL : Hid (CgR w0 old new u5 (.int .i64 ((i : Int) + 1)) w2) := ⟨i + 1, rfl, hlt, by rw [chg_same (HT.out.1 rfl)]; exact HWL.out.below HB2.out, below_trans HB.out HB2.out⟩
    clear hB2 hS2
    go_wp2_with fail
    go_roundw
    case rel => exact HREL.out
    case measure => simp [intOf]; omega
   ·have HNE : Hid (pgc new i ≠ pgc old i) := fun e => by have := HT.out.2 e; cases this
    have HWL2 := hidH (HWL.out.below HB2.out)
    have HBW2 := hidH (below_trans HBW.out HB2.out)
    have HF2 := hidH (HF.out.below HB2.out)
    have q0 := HM.out w2 HB2.out
    have HB02 := hidH (below_trans HB.out HB2.out)
    clear hB2 hS2 m0 m1 HWL HBW HF HG HB HB2
    go_wp2_with fail
    refine (encode_walk HF2.out (HOK.out i hlt)).mono ?_
    unfold EncGot
    obtain ⟨E, hE⟩ : ∃ E, E = encode (pgc new i) := ⟨_, rfl⟩
    rw [← hE]
    rintro e w3 ⟨v3, rfl, ho3, hB3⟩
    have HE : Hid (E = encode (pgc new i)) := hE
    have HE256 : Hid (∀ c ∈ E.1, c < 256) := by rw [hE]; exact encode_lt (HOK.out i hlt)
    have HWL3 := hidH (HWL2.out.below hB3)
    have HBW3 := hidH (below_trans HBW2.out hB3)
    have HO3 : Hid (w3.ownsRow w0.heap.size 5 1 v3 E.1.length (cb E.1)) := own_baseC ho3 HB02.out.size
    have HB03 := hidH (below_trans HB02.out hB3)
    have HW0 : Hid (w0.heap.size ≤ w3.heap.size) := HB03.out.size
    obtain ⟨va, vn, vc, hvv⟩ : ∃ x y z, v3 = .slice x y z := by obtain ⟨x, z, e⟩ := own_form8 ho3; exact ⟨x, _, z, e⟩
    subst hvv
    have hw1 : IntKind.i64.wrap (1 + (i : Int)) = 1 + (i : Int) := by rw [IntKind.wrap_i64]; omega
    clear ho3 hB3 hE q0 HWL2 HBW2 HF2 HB02
    have HWA : Hid (WL w0.heap.size (w3.alloc (Obj.cells #[.int .i64 (1 + (i : Int)), .slice va vn vc] 102)) u5 (chgL old new i)) := HWL3.out.below (below_alloc _ _)
    have HOA : Hid ((w3.alloc (Obj.cells #[.int .i64 (1 + (i : Int)), .slice va vn vc] 102)).ownsRow w0.heap.size 5 1 (.slice va vn vc) E.1.length (cb E.1)) := own_belowC HO3.out (below_alloc _ _)
    have HBA : Hid (Below w0.heap.size w0 (w3.alloc (Obj.cells #[.int .i64 (1 + (i : Int)), .slice va vn vc] 102))) := below_trans HB03.out (below_alloc _ _)
    go_upto_region 8 with (at_builtin; refine wpList_append_wl (by rfl) (.tmp 30) (.tmp 35) (by rfl) w0.heap.size _ (chgL old new i) (by rfl) HWA.out _ (1 + (i : Int)) (.slice va vn vc) E.1 (by rfl) (by simp [go_sem]) (by simp [go_sem]) HOA.out HE256.out (by omega) (by have := chg_len old new i; omega) HBA.out.size ?_; intro v5 w5 hwl5 hb5)
    have HREL : Hid (CgR w0 old new v5 (.int .i64 ((i : Int) + 1)) w5) := ⟨i + 1, rfl, hlt, by rw [chg_other HNE.out, ← HE.out]; exact hwl5, HBA.out.trans hb5⟩
    clear hwl5 hb5
    go_wp2_with fail
    go_roundw
    case rel => exact HREL.out
    case measure => simp [intOf]; omega
end
end
section
open Go.RowKit

section

variable {A : Nat → Prop} {w w' : World} {sv dv : Value} {k : Int} {P : Bo} {S : Dk} {sp : Nat}

theorem ST.ptr (h : ST A w sv dv k P S) : ∃ sp, sv = .pointer (some ⟨sp, 0, none⟩) ∧ sp < w.heap.size ∧ ¬ A sp := by
 obtain ⟨sp, bv, e, h1, h2, _⟩ := h
 exact ⟨sp, e, (Array.getElem?_eq_some_iff.1 h1).1, h2⟩
theorem cells_shut (h : ST A w sv dv k P S) (hs : shutB P S = true) (hrd : S.rd < 4611686018427387904) : Calls Tryz.prog 30 #[sv] w (ShGot A w sv dv k P S) := by
 have HS : Hid (shutB P S = true) := hs
 have HRD := hidH hrd
 obtain ⟨sp, hsp, hsl, _⟩ := h.ptr
 have HSP : Hid (sp < w.heap.size) := hsl
 have HAL : Hid (∀ x, A x → x < w.heap.size) := fun x hx => h.lt hx
 subst hsp
 have R1 := sh_new w
 have HB : Hid (Below w.heap.size w ((w.alloc (Obj.cells #[.slice none 0 0, .slice none 0 0, .slice none 0 0, .slice none 0 0, .slice none 0 0, .slice none 0 0] 83)).alloc (Obj.cells #[.slice none 0 0, .slice none 0 0, .slice none 0 0, .slice none 0 0, .slice none 0 0, .slice none 0 0] 83))) := below_trans (below_alloc _ _) (below_alloc _ _)
 have HR0 : Hid _ := R1.below (below_alloc _ (Obj.cells #[.slice none 0 0, .slice none 0 0, .slice none 0 0, .slice none 0 0, .slice none 0 0, .slice none 0 0] 83))
 have HT0 : Hid _ := h.below HB.out
 clear h hs hrd R1 hsl
 go_in
 go_upto_region 2 with fail
 obtain ⟨R, hR⟩ : ∃ R, R = w.heap.size := ⟨_, rfl⟩
 rw [← hR] at HR0 ⊢
 have HR : Hid (R = w.heap.size) := hR
 clear hR
 generalize (w.alloc (Obj.cells #[.slice none 0 0, .slice none 0 0, .slice none 0 0, .slice none 0 0, .slice none 0 0, .slice none 0 0] 83)).alloc (Obj.cells #[.slice none 0 0, .slice none 0 0, .slice none 0 0, .slice none 0 0, .slice none 0 0, .slice none 0 0] 83) = w0 at HR0 HT0 HB ⊢
 have HNA : Hid (¬ A R) := fun e => by have h1 := HAL.out _ e; have h2 := HR.out; omega
 go_wp2_with fail
 refine wp_loop_rounds 1 ?_
 rw [rounds_succ]
 go_wp2_with fail
 refine (page_walk HT0.out 1 (by have h2 := HRD.out; omega)).mono ?_
 unfold PgGot
 rw [getI_shut HS.out]
 rintro e w2 ⟨r, rfl, ho, hst2, hc2⟩
 have HT2 := hidH hst2
 have HC2 : Hid (Ch A w w2) := (Ch.of_below HB.out).self hc2
 have HSR3 : Hid (SH w2 R nilS (List.replicate 6 [])) := HR0.out.chA hc2 HNA.out (fun j hj x hx e => (by cases hx))
 have HFIN : Hid (Ch A w ((((((w2.setCell ⟨R, 0, none⟩ (.slice none 0 0)).setCell ⟨R, 1, none⟩ (.slice none 0 0)).setCell ⟨R, 2, none⟩ (.slice none 0 0)).setCell ⟨R, 3, none⟩ (.slice none 0 0)).setCell ⟨R, 4, none⟩ (.slice none 0 0)).setCell ⟨R, 5, none⟩ (.slice none 0 0))) := ch_six HC2.out (.inr (by rw [HR.out]; exact Nat.le_refl _)) _ _ _ _ _ _
 have HTF : Hid _ := HT2.out.six HNA.out (by have h1 := HSP.out; have h2 := HR.out; omega) (.slice none 0 0) (.slice none 0 0) (.slice none 0 0) (.slice none 0 0) (.slice none 0 0) (.slice none 0 0)
 have r0 := HSR3.out.c 0 (by omega)
 have r1 := HSR3.out.c 1 (by omega)
 have r2 := HSR3.out.c 2 (by omega)
 have r3 := HSR3.out.c 3 (by omega)
 have r4 := HSR3.out.c 4 (by omega)
 have r5 := HSR3.out.c 5 (by omega)
 have z0 := HSR3.out.z 0
 have z1 := HSR3.out.z 1
 have z2 := HSR3.out.z 2
 have z3 := HSR3.out.z 3
 have z4 := HSR3.out.z 4
 have z5 := HSR3.out.z 5
 unfold nilS at r0 r1 r2 r3 r4 r5
 clear ho hst2 hc2
 go_wp2_with fail
 (try simp only [Exit.inBlock, Exit.then])
 refine bodyPost_ret (v := .tuple #[.agg #[.slice none 0 0, .slice none 0 0, .slice none 0 0, .slice none 0 0, .slice none 0 0, .slice none 0 0], .int .i64 80]) (by rw [results_cell_tmp rfl]; go_simp) rfl ?_
 exact ⟨80, nilS, _, rfl, fun j _ => ⟨_, _, _, rfl⟩, fun j _ x hx => (by cases hx), .inl ⟨rfl, HS.out⟩, HTF.out, getS_rdd.mono (by omega), HFIN.out⟩
theorem cells_walk (h : ST A w sv dv k P S) (hrd : S.rd < 4611686018427387904) : Calls Tryz.prog 30 #[sv] w (ShGot A w sv dv k P S) := by
 cases hs : shutB P S
 ·exact cells_open h hs hrd
 ·exact cells_shut h hs hrd
def MkGot (A : Nat → Prop) (w : World) (sv dv : Value) (k : Int) (P : Bo) (S : Dk) (e : Ending) (w' : World) : Prop :=
 ∃ (c : Nat) (m : Mk) (v : Value) (S' : Dk), e = .returned (.tuple #[.agg #[.int .i64 m.b, .int .i64 m.a, v], .int .i64 c]) ∧ w'.ownsRow w.heap.size 33 1 v m.k.length ((ib m.k).map (Value.int .u64)) ∧
  ((c = 80 ∧ shutB P S = true ∧ m = zeroM) ∨ (c = 133 ∧ shutB P S = false ∧ (decM (getL P S 0)).2 ≠ 0 ∧ m = zeroM) ∨ (c = 0 ∧ shutB P S = false ∧ decM (getL P S 0) = (m, 0))) ∧ ST A w' sv dv k (getB P S) S' ∧ Rdd 1 S S' ∧ Ch A w w'
theorem ch_three {D : Nat → Prop} {w0 w1 : World} {g : Nat} (h : Ch D w0 w1) (hg : D g ∨ w0.heap.size ≤ g) (a b c : Value) : Ch D w0 (((w1.setCell ⟨g, 0, none⟩ a).setCell ⟨g, 1, none⟩ b).setCell ⟨g, 2, none⟩ c) := by
 have s : ∀ {x : World} (i : Nat) (u : Value), Ch D w0 x → Ch D w0 (x.setCell ⟨g, i, none⟩ u) := fun i u hx => hx.trans (ch_set _ g i u) (fun y hy => by subst hy; exact hg)
 exact s _ _ (s _ _ (s _ _ h))
theorem ST.three (h : ST A w (.pointer (some ⟨sp, 0, none⟩)) dv k P S) {g : Nat} (hg : ¬ A g) (hp : sp ≠ g) (a b c : Value) : ST A (((w.setCell ⟨g, 0, none⟩ a).setCell ⟨g, 1, none⟩ b).setCell ⟨g, 2, none⟩ c) (.pointer (some ⟨sp, 0, none⟩)) dv k P S := by
 have s : ∀ {x : World} (i : Nat) (u : Value), ST A x (.pointer (some ⟨sp, 0, none⟩)) dv k P S → ST A (x.setCell ⟨g, i, none⟩ u) (.pointer (some ⟨sp, 0, none⟩)) dv k P S := fun i u hx => hx.setB (fun y _ hA e => by subst e; exact hg hA) (fun s e => by cases e; exact hp)
 exact s _ _ (s _ _ (s _ _ h))
theorem smark_walk (h : ST A w sv dv k P S) (hrd : S.rd < 4611686018427387904) : Calls Tryz.prog 9 #[sv] w (MkGot A w sv dv k P S) := by
 have HRD := hidH hrd
 have HOK : Hid (P.ok S.bl.length ∧ P.tab.length = 7) := h.ok
 obtain ⟨sp, hsp, hsl, _⟩ := h.ptr
 have HSP : Hid (sp < w.heap.size) := hsl
 have HAL : Hid (∀ x, A x → x < w.heap.size) := fun x hx => h.lt hx
 subst hsp
 have HB : Hid (Below w.heap.size w (w.alloc (Obj.cells #[.int .i64 0, .int .i64 0, .slice none 0 0] 42))) := below_alloc _ _
 have HR0 : Hid _ := mb_new w 0 0 (.slice none 0 0)
 have HT0 : Hid _ := h.below HB.out
 clear h hrd hsl
 go_in
 go_upto_region 1 with fail
 obtain ⟨R, hR⟩ : ∃ R, R = w.heap.size := ⟨_, rfl⟩
 rw [← hR] at HR0 ⊢
 have HR : Hid (R = w.heap.size) := hR
 clear hR
 generalize w.alloc (Obj.cells #[.int .i64 0, .int .i64 0, .slice none 0 0] 42) = w0 at HR0 HT0 HB ⊢
 have HNA : Hid (¬ A R) := fun e => by have h1 := HAL.out _ e; have h2 := HR.out; omega
 go_wp2_with fail
 refine (page_walk HT0.out 0 (by have h2 := HRD.out; omega)).mono ?_
 cases hs : shutB P S
 rotate_left
 ·have HS : Hid (shutB P S = true) := hs
  unfold PgGot
  rw [getI_shut hs]
  rintro e w2 ⟨r, rfl, ho, hst2, hc2⟩
  have HC2 : Hid (Ch A w w2) := (Ch.of_below HB.out).self hc2
  have HR2 : Hid _ := HR0.out.ch hc2 HNA.out
  have HFIN : Hid _ := ch_three HC2.out (.inr (by rw [HR.out]; exact Nat.le_refl _)) (g := R) (.int .i64 0) (.int .i64 0) (.slice none 0 0)
  have HTF : Hid _ := hst2.three HNA.out (by have h1 := HSP.out; have h2 := HR.out; omega) (.int .i64 0) (.int .i64 0) (.slice none 0 0)
  have r0 := HR2.out.c0
  have r1 := HR2.out.c1
  have r2 := HR2.out.c2
  have z0 := HR2.out.z 0
  have z1 := HR2.out.z 1
  have z2 := HR2.out.z 2
  clear ho hst2 hc2 hs
  go_wp2_with fail
  (try simp only [Exit.inBlock, Exit.then])
  refine bodyPost_ret (v := .tuple #[.agg #[.int .i64 0, .int .i64 0, .slice none 0 0], .int .i64 80]) (by rw [results_cell_tmp rfl]; go_simp) rfl ?_
  exact ⟨80, zeroM, _, _, rfl, ⟨rfl, .inl ⟨rfl, rfl⟩⟩, .inl ⟨rfl, HS.out, rfl⟩, HTF.out, getS_rdd, HFIN.out⟩
 ·have HS : Hid (shutB P S = false) := hs
  unfold PgGot
  rw [getI_ok hs HOK.out.2 HOK.out.1 (by omega) (by omega), getB_ok hs]
  rintro e w2 ⟨r, rfl, ho, hst2, hc2⟩
  have hL := (getL_lt hst2 0).2
  rw [rdd_getL getS_rdd] at hL
  have HV2 : Hid (Bv w2 r (getL P S 0)) := own_bv ho hL
  obtain ⟨⟨⟨B, M, K⟩, E⟩, hD⟩ : ∃ D, decM (getL P S 0) = D := ⟨_, rfl⟩
  have HD : Hid (decM (getL P S 0) = (⟨B, M, K⟩, E)) := hD
  have HT2 := hidH hst2
  have HC2 : Hid (Ch A w w2) := (Ch.of_below HB.out).self hc2
  have HR2 : Hid _ := HR0.out.ch hc2 HNA.out
  clear ho hst2 hc2 hL hD hs
  go_wp2_with fail
  refine (mdec_walk HV2.out).mono ?_
  unfold DGot
  rw [HD.out]
  rintro e w3 ⟨v3, rfl, ho3, hB3⟩
  have HT3 := hidH (HT2.out.below hB3)
  have HC3 : Hid (Ch A w w3) := HC2.out.self (Ch.of_below hB3)
  have HR3 : Hid _ := HR2.out.keep hB3
  have HO3 : Hid (w3.ownsRow w.heap.size 33 1 v3 K.length ((ib K).map (Value.int .u64))) := own_baseC ho3 HC2.out.size
  have HRL : Hid (R < w2.heap.size) := cell_lt HR2.out.c0
  have HOR : Hid (w3.ownsRow (R + 1) 33 1 v3 K.length ((ib K).map (Value.int .u64))) := own_baseC ho3 HRL.out
  obtain ⟨va, vn, vc, hvv⟩ : ∃ x y z, v3 = .slice x y z := by obtain ⟨x, z, e⟩ := own_form8 ho3; exact ⟨x, _, z, e⟩
  subst hvv
  clear ho3 hB3 HT2 HC2 HR2 HV2
  go_upto_region 5 with fail
  have HT4 : Hid (ST A (w3.alloc (Obj.cells #[.int .i64 B, .int .i64 M, .slice va vn vc] 42)) (.pointer (some ⟨sp, 0, none⟩)) dv k P (getS P S 0)) := HT3.out.below (below_alloc w3 (Obj.cells #[.int .i64 B, .int .i64 M, .slice va vn vc] 42))
  have HC4 : Hid _ := HC3.out.self (Ch.of_below (below_alloc w3 (Obj.cells #[.int .i64 B, .int .i64 M, .slice va vn vc] 42)))
  have HR4 : Hid _ := HR3.out.keep (below_alloc w3 (Obj.cells #[.int .i64 B, .int .i64 M, .slice va vn vc] 42))
  have HO4 : Hid _ := own_belowC HOR.out (below_alloc w3 (Obj.cells #[.int .i64 B, .int .i64 M, .slice va vn vc] 42))
  have HM4 : Hid _ := mb_new w3 B M (.slice va vn vc)
  generalize w3.heap.size = X at HM4 ⊢
  generalize w3.alloc (Obj.cells #[.int .i64 B, .int .i64 M, .slice va vn vc] 42) = w4 at HT4 HC4 HR4 HO4 HM4 ⊢
  have r0 := HR4.out.c0
  have r1 := HR4.out.c1
  have r2 := HR4.out.c2
  have z0 := HR4.out.z 0
  have z1 := HR4.out.z 1
  have z2 := HR4.out.z 2
  clear HT3 HC3 HR3 HO3 HOR HRL
  by_cases hE : E = 0
  rotate_left
  ·have hei : ((E : Int) != 0) = true := by rw [bne_iff_ne]; omega
   have HNE : Hid ((decM (getL P S 0)).2 ≠ 0) := by rw [HD.out]; exact hE
   have HFIN : Hid _ := ch_three HC4.out (.inr (by rw [HR.out]; exact Nat.le_refl _)) (g := R) (.int .i64 0) (.int .i64 0) (.slice none 0 0)
   have HTF : Hid _ := HT4.out.three HNA.out (by have h1 := HSP.out; have h2 := HR.out; omega) (.int .i64 0) (.int .i64 0) (.slice none 0 0)
   clear hE
   go_wp2_with fail
   (try simp only [Exit.inBlock, Exit.then])
   refine bodyPost_ret (v := .tuple #[.agg #[.int .i64 0, .int .i64 0, .slice none 0 0], .int .i64 133]) (by rw [results_cell_tmp rfl]; go_simp) rfl ?_
   exact ⟨133, zeroM, _, _, rfl, ⟨rfl, .inl ⟨rfl, rfl⟩⟩, .inr (.inl ⟨rfl, HS.out, HNE.out, rfl⟩), by rw [getB_ok HS.out]; exact HTF.out, getS_rdd, HFIN.out⟩
  ·subst hE
   have x0 := HM4.out.c0
   have x1 := HM4.out.c1
   have x2 := HM4.out.c2
   have HFIN : Hid _ := ch_three HC4.out (.inr (by rw [HR.out]; exact Nat.le_refl _)) (g := R) (.int .i64 B) (.int .i64 M) (.slice va vn vc)
   have HTF : Hid _ := HT4.out.three HNA.out (by have h1 := HSP.out; have h2 := HR.out; omega) (.int .i64 B) (.int .i64 M) (.slice va vn vc)
   have HOF : Hid _ := own_ch HO4.out (ch_three (D := fun x => x = R) (Ch.refl _ w4) (.inl rfl) (g := R) (.int .i64 B) (.int .i64 M) (.slice va vn vc)) (fun x hx => by omega)
   go_wp2_with fail
   (try simp only [Exit.inBlock, Exit.then])
   refine bodyPost_ret (v := .tuple #[.agg #[.int .i64 B, .int .i64 M, .slice va vn vc], .int .i64 0]) (by rw [results_cell_tmp rfl]; go_simp) rfl ?_
   exact ⟨0, ⟨B, M, K⟩, _, _, rfl, own_baseC HOF.out (by rw [← HR.out]; omega), .inr (.inr ⟨rfl, HS.out, HD.out⟩), by rw [getB_ok HS.out]; exact HTF.out, getS_rdd, HFIN.out⟩
theorem sused_walk (h : ST A w sv dv k P S) : Calls Tryz.prog 24 #[sv] w fun e w' => e = .returned (.int .i64 (usedN P.tab)) ∧ w' = w := by
 obtain ⟨sp, bv, rfl, h1, h2, h3, h4⟩ := h
 have HB : Hid (BP A w bv dv P S) := h3
 have m0 : w.cell? ⟨sp, 0, none⟩ = some bv := by rw [cell_of_row w sp 0 _ _ (0, 0) h1]; rfl
 obtain ⟨D, pb, tv, hbv, _⟩ := h3
 subst hbv
 clear h1 h2 h4
 go_in
 go_wp2_with fail
 refine (used_walk HB.out).mono ?_
 rintro e w2 ⟨rfl, hw2⟩
 replace hw2 := hw2.symm
 subst hw2
 go_wp2_with fail
 go_ret
 exact ⟨rfl, rfl⟩
theorem sended_walk (h : ST A w sv dv k P S) : Calls Tryz.prog 15 #[sv] w fun e w' => e = .returned (.bool P.over) ∧ w' = w := by
 obtain ⟨sp, bv, rfl, h1, h2, h3, h4⟩ := h
 have HB : Hid (BP A w bv dv P S) := h3
 have m0 : w.cell? ⟨sp, 0, none⟩ = some bv := by rw [cell_of_row w sp 0 _ _ (0, 0) h1]; rfl
 obtain ⟨D, pb, tv, hbv, _⟩ := h3
 subst hbv
 clear h1 h2 h4
 go_in
 go_wp2_with fail
 refine (ended_walk HB.out).mono ?_
 rintro e w2 ⟨rfl, hw2⟩
 replace hw2 := hw2.symm
 subst hw2
 go_wp2_with fail
 go_ret
 exact ⟨rfl, rfl⟩
end
end
end Go.Proofs.YtofkhgokfdpdiabGreat
