/- Ends that fit; how many records are left; the records between ends. -/
import Derived.Test.YtombjgfajbhbbaaGreatB14
set_option maxRecDepth 100000
set_option maxHeartbeats 16000000
namespace Go.Proofs.YtombjgfajbhbbaaGreat
open Go.RowKit
section
open Ieee Go.RowKit

structure RM (D : Nat → Prop) (w : World) (sb gp gq : Nat) (lv : Value) (rv : Nat → Value) (S : Sc) : Prop where
 head : w.heap[sb]? = some (.cells #[.slice (some ⟨gp, 0, none⟩) S.np S.np, .slice (some ⟨gq, 0, none⟩) S.np S.np, lv] 91 (0, 0))
 part : ∃ cur, w.heap[gp]? = some (.cells cur 85 (0, 0)) ∧ cur.size = S.np ∧ ∀ p, p < S.np → cur[p]? = some (rv p)
 off : ∃ cur, w.heap[gq]? = some (.cells cur 4 (0, 0)) ∧ cur.size = S.np ∧ ∀ p, p < S.np → cur[p]? = some (.bool (!S.on p))
 list : Ov w lv S.list
 rows : ∀ p, p < S.np → w.ownsRow 0 43 2 (rv p) (S.logs p).length (flatR (S.logs p))
 a1 : sb ≠ gp
 a2 : sb ≠ gq
 a3 : gp ≠ gq
 a4 : ∀ p x, p < S.np → (rv p).ownBlock = some x → x ≠ sb ∧ x ≠ gp ∧ x ≠ gq ∧ lv.ownBlock ≠ some x
 a5 : ∀ x, lv.ownBlock = some x → x ≠ sb ∧ x ≠ gp ∧ x ≠ gq
 a6 : ∀ p q x, p < S.np → q < S.np → p ≠ q → (rv p).ownBlock = some x → (rv q).ownBlock ≠ some x
 d1 : D sb ∧ D gp ∧ D gq
 d2 : ∀ p x, p < S.np → (rv p).ownBlock = some x → D x
 d3 : ∀ x, lv.ownBlock = some x → D x
 dl : ∀ x, D x → x < w.heap.size
def Rs (D : Nat → Prop) (w : World) (v : Value) (S : Sc) : Prop := ∃ sb gp gq lv rv, v = .pointer (some ⟨sb, 0, none⟩) ∧ RM D w sb gp gq lv rv S ∧ S.ok
section

variable {D : Nat → Prop} {w w' : World} {v : Value} {sb gp gq : Nat} {lv : Value} {rv : Nat → Value} {S : Sc}

theorem RM.keep (h : RM D w sb gp gq lv rv S) (hk : ∀ x, D x → w'.heap[x]? = w.heap[x]?) (hs : w.heap.size ≤ w'.heap.size) : RM D w' sb gp gq lv rv S := by
 obtain ⟨cur, p1, p2, p3⟩ := h.part;obtain ⟨cuq, q1, q2, q3⟩ := h.off
 exact ⟨by rw [hk _ h.d1.1]; exact h.head, ⟨cur, by rw [hk _ h.d1.2.1]; exact p1, p2, p3⟩, ⟨cuq, by rw [hk _ h.d1.2.2]; exact q1, q2, q3⟩, h.list.keep (fun x hx => hk x (h.d3 x hx)), fun p hp => row_keep (h.rows p hp) (fun x hx => hk x (h.d2 p x hp hx)),
  h.a1, h.a2, h.a3, h.a4, h.a5, h.a6, h.d1, h.d2, h.d3, fun x hx => Nat.lt_of_lt_of_le (h.dl x hx) hs⟩
theorem Rs.keep (h : Rs D w v S) (hk : ∀ x, D x → w'.heap[x]? = w.heap[x]?) (hs : w.heap.size ≤ w'.heap.size) : Rs D w' v S := by
 obtain ⟨sb, gp, gm, lv, rv, e, h1, h2⟩ := h;exact ⟨sb, gp, gm, lv, rv, e, h1.keep hk hs, h2⟩
theorem Rs.lt (h : Rs D w v S) {x : Nat} (hx : D x) : x < w.heap.size := by
 obtain ⟨sb, gp, gm, lv, rv, e, h1, h2⟩ := h;exact h1.dl x hx
theorem Rs.good (h : Rs D w v S) : S.ok := by
 obtain ⟨sb, gp, gm, lv, rv, e, h1, h2⟩ := h;exact h2
theorem Rs.below (h : Rs D w v S) (hb : Below w.heap.size w w') : Rs D w' v S := h.keep (fun x hx => hb.block x (h.lt hx)) hb.size
theorem RM.below (h : RM D w sb gp gq lv rv S) (hb : Below w.heap.size w w') : RM D w' sb gp gq lv rv S := h.keep (fun x hx => hb.block x (h.dl x hx)) hb.size
theorem RM.c0 (h : RM D w sb gp gq lv rv S) : w.cell? ⟨sb, 0, none⟩ = some (.slice (some ⟨gp, 0, none⟩) S.np S.np) := by rw [cell_of_row w sb 0 _ _ (0, 0) h.head]; rfl
theorem RM.c1 (h : RM D w sb gp gq lv rv S) : w.cell? ⟨sb, 1, none⟩ = some (.slice (some ⟨gq, 0, none⟩) S.np S.np) := by rw [cell_of_row w sb 1 _ _ (0, 0) h.head]; rfl
theorem RM.c2 (h : RM D w sb gp gq lv rv S) : w.cell? ⟨sb, 2, none⟩ = some lv := by rw [cell_of_row w sb 2 _ _ (0, 0) h.head]; rfl
theorem RM.p0 (h : RM D w sb gp gq lv rv S) {p : Nat} (hp : p < S.np) : w.cell? ⟨gp, p, none⟩ = some (rv p) := by
 obtain ⟨cur, h1, h2, h3⟩ := h.part;rw [cell_of_row w gp _ _ _ (0, 0) h1]; exact h3 p hp
theorem RM.p1 (h : RM D w sb gp gq lv rv S) {p : Nat} (hp : p < S.np) : w.cell? ⟨gq, p, none⟩ = some (.bool (!S.on p)) := by
 obtain ⟨cur, h1, h2, h3⟩ := h.off;rw [cell_of_row w gq _ _ _ (0, 0) h1]; exact h3 p hp
theorem RM.soft (h : RM D w sb gp gq lv rv S) (x : Nat) : w.frozen? ⟨gp, x, none⟩ = false := by
 obtain ⟨cur, h1, h2, h3⟩ := h.part;simp [World.frozen?, h1]
theorem RM.soft1 (h : RM D w sb gp gq lv rv S) (x : Nat) : w.frozen? ⟨gq, x, none⟩ = false := by
 obtain ⟨cur, h1, h2, h3⟩ := h.off;simp [World.frozen?, h1]
theorem RM.recs (h : RM D w sb gp gq lv rv S) (hok : S.ok) {p : Nat} (hp : p < S.np) : Rv w (rv p) (S.logs p) := own_rv (h.rows p hp) (hok.rok p)
theorem rhas_no {p : Int} (h : RM D w sb gp gq lv rv S) (hok : S.ok) (hp : p < 0 ∨ (S.np : Int) ≤ p) :
  Calls Tryz.prog 40 #[.pointer (some ⟨sb, 0, none⟩), .int .i64 p] w fun e w' => e = .returned (.bool false) ∧ w' = w := by
 have c0 := h.c0;have h4 := hok.np4;clear h hok;by_cases hp0 : p < 0
 ·go_in;go_wp2_with fail;go_ret;exact ⟨rfl, rfl⟩
 ·have hp1 : (S.np : Int) ≤ p := by omega
  have hd : decide (p < (S.np : Int)) = false := decide_eq_false (by omega);clear hp;go_in;go_wp2_with fail;go_ret;exact ⟨rfl, rfl⟩
theorem rhas_ok {p : Nat} (h : RM D w sb gp gq lv rv S) (hok : S.ok) (hp : p < S.np) :
  Calls Tryz.prog 40 #[.pointer (some ⟨sb, 0, none⟩), .int .i64 p] w fun e w' => e = .returned (.bool true) ∧ w' = w := by
 have c0 := h.c0;have h4 := hok.np4;clear h hok;go_in;go_wp2_with fail;go_ret;exact ⟨rfl, rfl⟩
theorem rparts_walk (h : Rs D w v S) : Calls Tryz.prog 86 #[v] w fun e w' => e = .returned (.int .i64 S.np) ∧ w' = w := by
 obtain ⟨sb, gp, gm, lv, rv, rfl, h, hok⟩ := h;have c0 := h.c0;clear h;go_in;go_wp2_with fail;go_ret;exact ⟨rfl, rfl⟩
theorem rlen_walk (h : Rs D w v S) (p : Int) : Calls Tryz.prog 103 #[v, .int .i64 p] w fun e w' => e = .returned (.int .i64 (lenS S p)) ∧ w' = w := by
 obtain ⟨sb, gp, gm, lv, rv, rfl, h, hok⟩ := h;have HS := hidH h;have HK : Hid S.ok := hok;clear h hok;by_cases hh : hasS S p
 ·obtain ⟨q, rfl, hq⟩ := has_nat hh;have HL : Hid (lenS S q = (S.logs q).length) := by show _ = _; unfold lenS; rw [if_pos hh]; rfl
  rw [HL.out];have c0 := HS.out.c0;have p0 := HS.out.p0 hq;have h4 := HK.out.np4;obtain ⟨ao, cap, hrv, _⟩ := row_form (HS.out.rows q hq);rw [hrv] at p0;clear hrv hh;go_in;go_wp2_with (go_at_call 40; refine (rhas_ok HS.out HK.out hq).mono ?_; rintro e w9 ⟨rfl, h9⟩; have h9 := h9.symm; subst h9);go_ret;exact ⟨rfl, rfl⟩
 ·have HL : Hid (lenS S p = 0) := by show _ = _; unfold lenS; rw [if_neg hh]
  rw [HL.out];have HN : Hid (p < 0 ∨ (S.np : Int) ≤ p) := not_has hh;clear hh;go_in;go_wp2_with (go_at_call 40; refine (rhas_no HS.out HK.out HN.out).mono ?_; rintro e w9 ⟨rfl, h9⟩; have h9 := h9.symm; subst h9);go_ret;exact ⟨rfl, rfl⟩
theorem rup_walk (h : Rs D w v S) (p : Int) : Calls Tryz.prog 102 #[v, .int .i64 p] w fun e w' => e = .returned (.bool (upS S p)) ∧ w' = w := by
 obtain ⟨sb, gp, gq, lv, rv, rfl, h, hok⟩ := h;have HS := hidH h;have HK : Hid S.ok := hok;clear h hok;by_cases hh : hasS S p
 ·obtain ⟨q, rfl, hq⟩ := has_nat hh;have HL : Hid (upS S q = !(!S.on q)) := by show _ = _; unfold upS; rw [if_pos hh, Bool.not_not]; rfl
  rw [HL.out];have c1 := HS.out.c1;have p1 := HS.out.p1 hq;have h4 := HK.out.np4;generalize (!S.on q) = u at p1 ⊢;clear hh;go_in;go_wp2_with (go_at_call 40; refine (rhas_ok HS.out HK.out hq).mono ?_; rintro e w9 ⟨rfl, h9⟩; have h9 := h9.symm; subst h9);go_ret;exact ⟨rfl, rfl⟩
 ·have HL : Hid (upS S p = false) := by show _ = _; unfold upS; rw [if_neg hh]
  rw [HL.out];have HN : Hid (p < 0 ∨ (S.np : Int) ≤ p) := not_has hh;clear hh;go_in;go_wp2_with (go_at_call 40; refine (rhas_no HS.out HK.out HN.out).mono ?_; rintro e w9 ⟨rfl, h9⟩; have h9 := h9.symm; subst h9);go_ret;exact ⟨rfl, rfl⟩
theorem rlog_walk (h : Rs D w v S) (p : Int) : Calls Tryz.prog 123 #[v, .int .i64 p] w fun e w' => ∃ r, e = .returned r ∧ w'.ownsRow w.heap.size 43 2 r (logS S p).length (flatR (logS S p)) ∧ Below w.heap.size w w' := by
 obtain ⟨sb, gp, gq, lv, rv, rfl, h, hok⟩ := h;have HB : Hid (Below w.heap.size w (w.alloc (Obj.cells #[] 43))) := below_alloc _ _;have HS : Hid (RM D (w.alloc (Obj.cells #[] 43)) sb gp gq lv rv S) := h.below HB.out;have HK : Hid S.ok := hok;clear h hok;by_cases hh : hasS S p
 ·obtain ⟨q, rfl, hq⟩ := has_nat hh;have HL : Hid (logS S q = S.logs q) := by show _ = _; unfold logS; rw [if_pos hh]; rfl
  rw [HL.out];have c0 := HS.out.c0;have p0 := HS.out.p0 hq;have h4 := HK.out.np4;have HR : Hid (Rv (w.alloc (Obj.cells #[] 43)) (rv q) (S.logs q)) := HS.out.recs HK.out hq;have HN : Hid ((S.logs q).length ≤ 256) := HK.out.len q;clear hh;go_in
  go_wp2_with (first
   | (go_at_call 40; refine (rhas_ok HS.out HK.out hq).mono ?_; rintro e w9 ⟨rfl, h9⟩; have h9 := h9.symm; subst h9)
   | (at_builtin; refine wpList_append_rv (by rfl) _ _ 85 (by rfl) w.heap.size 43 Tryz.underlying85 info_rec _ 0 [] (by rfl) (World.ownsRow_made w #[] 0 (Nat.le_refl _) (by simp [maxLen]) (by simp)) _ (S.logs q) (by rfl) HR.out (by have := HN.out; simp [maxLen]; omega) (by have := HN.out; omega) (by simp) ?_; intro v' w2 hown hgrow; go_frame))
  go_ret;refine ⟨_, rfl, by simpa using hown, ?_⟩;exact HB.out.grown hgrow (by simp) (by simp [Value.ownBlock])
 ·have HL : Hid (logS S p = []) := by show _ = _; unfold logS; rw [if_neg hh]
  rw [HL.out];have HN : Hid (p < 0 ∨ (S.np : Int) ≤ p) := not_has hh;clear hh;go_in;go_wp2_with (go_at_call 40; refine (rhas_no HS.out HK.out HN.out).mono ?_; rintro e w9 ⟨rfl, h9⟩; have h9 := h9.symm; subst h9);go_ret;exact ⟨_, rfl, World.ownsRow_made w #[] 0 (Nat.le_refl _) (by simp [maxLen]) (by simp), HB.out⟩
theorem RM.setOff (h : RM D w sb gp gq lv rv S) {q : Nat} (hq : q < S.np) (on : Bool) : RM D (w.setCell ⟨gq, q, none⟩ (.bool (!on))) sb gp gq lv rv { S with on := upd S.on q on } := by
 have hk : ∀ x, x ≠ gq → (w.setCell ⟨gq, q, none⟩ (.bool (!on))).heap[x]? = w.heap[x]? := fun x hx => Below.heap_setCell w _ _ x hx;obtain ⟨cur, p1, p2, p3⟩ := h.part;obtain ⟨cuq, q1, q2, q3⟩ := h.off
 refine ⟨by rw [hk _ h.a2]; exact h.head, ⟨cur, by rw [hk _ h.a3]; exact p1, p2, p3⟩, ⟨cuq.setIfInBounds q (.bool (!on)), ?_, by simpa using q2, fun p hp => ?_⟩, h.list.keep (fun x hx => hk x (h.a5 x hx).2.2), fun p hp => row_keep (h.rows p hp) (fun x hx => hk x (h.a4 p x hp hx).2.2.1),
  h.a1, h.a2, h.a3, h.a4, h.a5, h.a6, h.d1, h.d2, h.d3, fun x hx => by have := h.dl x hx; simpa [go_sem] using this⟩
 ·rw [Sort.setCell_eq];simp [Sort.mapBlock, Array.getElem?_modify, q1, Sort.onCells]
 ·by_cases e : p = q
  ·subst e;rw [Array.getElem?_setIfInBounds, if_pos rfl, if_pos (by rw [q2]; omega)];show _ = some (Value.bool (!upd S.on p on p));rw [upd_same]
  ·rw [Array.getElem?_setIfInBounds, if_neg (fun x => e x.symm)];show _ = some (Value.bool (!upd S.on q on p));rw [upd_other _ _ e]; exact q3 p hp
theorem rswitch_walk (h : Rs D w v S) (p : Int) (on : Bool) : Calls Tryz.prog 15 #[v, .int .i64 p, .bool on] w fun e w' => e = .returned (.int .i64 (switchI S p)) ∧ Rs D w' v (switchS S p on) ∧ Ch D w w' := by
 have HW : Hid (Rs D w v S) := h;obtain ⟨sb, gp, gq, lv, rv, rfl, h, hok⟩ := h;have HS := hidH h;have HK : Hid S.ok := hok;clear h hok;by_cases hh : hasS S p
 ·obtain ⟨q, rfl, hq⟩ := has_nat hh;have HL : Hid (switchI S q = 0) := by show _ = _; unfold switchI; rw [if_pos hh]
  have HT : Hid (switchS S q on = { S with on := upd S.on q on }) := by show _ = _; unfold switchS; rw [if_pos hh]; rfl
  rw [HL.out, HT.out];have c1 := HS.out.c1;have p1 := HS.out.p1 hq;have f1 := HS.out.soft1 q;have h4 := HK.out.np4;clear hh;go_in;go_wp2_with (go_at_call 40; refine (rhas_ok HS.out HK.out hq).mono ?_; rintro e w9 ⟨rfl, h9⟩; have h9 := h9.symm; subst h9);go_ret;exact ⟨rfl, ⟨sb, gp, gq, lv, rv, rfl, HS.out.setOff hq on, ok_on HK.out _⟩, Ch.of_grown (grown_set w gq _ _) (fun x hx => by cases hx; exact HS.out.d1.2.2)⟩
 ·have HL : Hid (switchI S p = 60) := by show _ = _; unfold switchI; rw [if_neg hh]
  have HT : Hid (switchS S p on = S) := by show _ = _; unfold switchS; rw [if_neg hh]
  rw [HL.out, HT.out];have HN : Hid (p < 0 ∨ (S.np : Int) ≤ p) := not_has hh;clear hh;go_in;go_wp2_with (go_at_call 40; refine (rhas_no HS.out HK.out HN.out).mono ?_; rintro e w9 ⟨rfl, h9⟩; have h9 := h9.symm; subst h9);go_ret;exact ⟨rfl, HW.out, Ch.refl _ _⟩
end
end
section
open Ieee Go.RowKit

def Fwd (a b : List Int) : Prop := a.length = b.length ∧ ∀ i, i < a.length → nth a i ≤ nth b i
theorem Nv.form {w : World} {v : Value} {l : List Int} (h : Nv w v l) : ∃ ao cap, v = .slice ao l.length cap ∧ (l.length : Int) ≤ 9223372036854775807 ∧ l.length ≤ cap ∧ cap ≤ maxLen := by
 obtain ⟨⟨ao, cap, e, h1, h2, h3, h4⟩, h5⟩ := h;exact ⟨ao, cap, e, by simp only [maxLen] at h2; omega, h1, h2⟩
theorem Nv.at {w : World} {ao : Option Addr} {n cap : Nat} {l : List Int} (h : Nv w (.slice ao n cap) l) {i : Nat} (hi : i < l.length) : ∃ b off, ao = some ⟨b, off, none⟩ ∧ w.cell? ⟨b, off + i, none⟩ = some (.int .i64 (nth l i)) := by
 obtain ⟨⟨ao', cap', e, h1, h2, h3, h4⟩, h5⟩ := h
 cases e
 exact h4 i hi
section

variable {av bv : Value} {a b : List Int} {w : World}

end
end
section
open Ieee Go.RowKit

def Fit (S : Sc) (l : List Int) : Prop := l.length = S.np ∧ ∀ i, i < l.length → 0 ≤ nth l i ∧ nth l i ≤ (lenS S i : Int)
def fitB (S : Sc) (l : List Int) : Bool := decide (l.length = S.np ∧ ∀ i, i < l.length → 0 ≤ nth l i ∧ nth l i ≤ (lenS S i : Int))
theorem Fit.yes {S : Sc} {l : List Int} (h : Fit S l) : fitB S l = true := decide_eq_true (p := l.length = S.np ∧ ∀ i, i < l.length → 0 ≤ nth l i ∧ nth l i ≤ (lenS S i : Int)) h
theorem Fit.no {S : Sc} {l : List Int} (h : ¬ Fit S l) : fitB S l = false := decide_eq_false (p := l.length = S.np ∧ ∀ i, i < l.length → 0 ≤ nth l i ∧ nth l i ≤ (lenS S i : Int)) h
theorem Fit.of {S : Sc} {l : List Int} (h : fitB S l = true) : Fit S l := of_decide_eq_true (p := l.length = S.np ∧ ∀ i, i < l.length → 0 ≤ nth l i ∧ nth l i ≤ (lenS S i : Int)) h
def leftS (S : Sc) (l : List Int) : Nat → Int
 | 0 => 0
 | k + 1 => leftS S l k + ((lenS S k : Int) - nth l k)
def betS (S : Sc) (a b : List Int) : Nat → List Rcd
 | 0 => []
 | k + 1 => betS S a b k ++ ((S.logs k).drop (nth a k).toNat).take ((nth b k).toNat - (nth a k).toNat)
theorem lenS_at {S : Sc} {k : Nat} (h : k < S.np) : lenS S k = (S.logs k).length := by unfold lenS; rw [if_pos ⟨by omega, by omega⟩]; rfl
theorem logS_at {S : Sc} {k : Nat} (h : k < S.np) : logS S k = S.logs k := by unfold logS; rw [if_pos ⟨by omega, by omega⟩]; rfl
theorem lenS_le {S : Sc} (hok : S.ok) (k : Int) : lenS S k ≤ 256 := by
 unfold lenS
 split
 ·exact hok.len _
 ·omega
theorem betS_le {S : Sc} (hok : S.ok) (a b : List Int) : ∀ k, (betS S a b k).length ≤ 256 * k
 | 0 => by simp [betS]
 | k + 1 => by
  have := betS_le hok a b k;have := hok.len k;simp only [betS, List.length_append, List.length_take, List.length_drop]; omega
theorem betS_ok {S : Sc} (hok : S.ok) (a b : List Int) : ∀ k, ∀ r ∈ betS S a b k, r.ok
 | 0 => by simp [betS]
 | k + 1 => by
  intro r hr;simp only [betS, List.mem_append] at hr;rcases hr with hr | hr
  ·exact betS_ok hok a b k r hr
  ·exact hok.rok k r (List.mem_of_mem_drop (List.mem_of_mem_take hr))
theorem step_app_rv {P : Program} {ops : Array Oper} {o : Oper} {a : Act} {w : World} {K : Act → World → Prop} {Q : Exit → Act → World → Prop} {E : Prop}
  (hg : o.guard = none) (s x : Operand) (t : TypeId) (hop : o.op = Op.call { callee := Callee.builtin Builtin.append, args := #[s, x], argTypes := #[t, t] })
  (base : Nat) (e : TypeId) (h1 : P.underlying t = some (.slice e)) (hinf : (P.info? e).map (fun i => (i.zero, i.size, i.bytes)) = some (some (.agg #[.int .u64 0, .float .f64 0]), 2, 16))
  (v : Value) (n : Nat) (m : List Rcd) (hs : a.eval s = v) (hown : w.ownsRow base e 2 v n (flatR m))
  (y : Value) (l : List Rcd) (hx : a.eval x = y) (hy : Rv w y l) (hn : n + l.length ≤ 1000000) (hb : base ≤ w.heap.size)
  (hK : ∀ v' w', w'.ownsRow base e 2 v' (n + l.length) (flatR (m ++ l)) → w.grownBy w' v.ownBlock → K (a.put o.dst v') w') :
  if Region.wanted o (yielded ops a.tmps) = true then Oper.wp P o a w K Q else E := by
 have hw : Region.wanted o (yielded ops a.tmps) = true := by simp [Region.wanted, hg]
 rw [if_pos hw];obtain ⟨i0, hi, hz0, hz1, hz2⟩ := info_partsV hinf;obtain ⟨⟨ao, c, rfl, hc1, hc2, hnone, hcells⟩, _⟩ := hy
 cases ao with
 | none =>
  obtain rfl := hnone rfl;have hl0 : l.length = 0 := by omega
  have hl : l = [] := List.eq_nil_of_length_eq_zero hl0;subst hl;have hrun := run_append_owned_none (P := P) (w := w) base t o.type e i0 2 h1 hi v n (flatR m) hown;unfold Oper.wp;simp [execOp, hop, resolve, invoke, builtin, hs, hx, hrun, Result.andThen];exact hK v w (by simpa using hown) ⟨rfl, rfl, rfl, Nat.le_refl _, fun _ _ _ => rfl⟩
 | some p =>
  obtain ⟨v', w', hrun, r1, r2, _, r4⟩ := run_append_own_at (P := P) w base t o.type e i0 (.agg #[.int .u64 0, .float .f64 0]) 2 16 h1 hi hz0 hz1 hz2 rfl (by decide) v n (flatR m) hown p l.length c (flatR l) (flatR_len l) (by
   intro j u hj
   have hjl : j < l.length * 2 := by
    rcases Nat.lt_or_ge j (l.length * 2) with h | h
    ·exact h
    ·rw [List.getElem?_eq_none (by rw [flatR_len]; exact h)] at hj; cases hj
   obtain ⟨b, off, e1, g0, g1⟩ := hcells (j / 2) (by omega)
   cases e1
   obtain ⟨f0, f1⟩ := flatR_get l (j / 2) (by omega);rw [WideShapes.add_plain];have hmod : j % 2 = 0 ∨ j % 2 = 1 := by omega
   rcases hmod with hm | hm
   ·have e2 : j / 2 * 2 = j := by omega
    rw [e2] at g0;rw [e2] at f0;rw [f0] at hj; rw [g0, hj]
   ·have e2 : j / 2 * 2 + 1 = j := by omega
    rw [Nat.add_assoc, e2] at g1;rw [e2] at f1;rw [f1] at hj; rw [g1, hj]) (fun u hu => flatR_mem hu) (by simp only [maxLen]; omega) (by omega) hb
  unfold Oper.wp;simp [execOp, hop, resolve, invoke, builtin, hs, hx, hrun, Result.andThen];exact hK v' w' (by rw [flatR_append]; exact r1) r2
theorem cut_piece {w : World} {lo : Option Addr} {n lc X Y : Nat} {l : List Rcd} (h : Rv w (.slice lo n lc) l) (hX : X ≤ Y) (hY : Y ≤ l.length) :
  Rv w (.slice (if lc = X then lo else lo.map (·.add (X * 2))) (Y - X) (lc - X)) ((l.drop X).take (Y - X)) := by
 obtain ⟨⟨ao, c, e, h1, h2, h3, h4⟩, hok⟩ := h
 cases e
 have hlen : ((l.drop X).take (Y - X)).length = Y - X := by simp; omega
 refine ⟨⟨_, lc - X, by rw [hlen], by rw [hlen]; omega, by omega, ?_, fun i hi => ?_⟩, fun r hr => hok r (List.mem_of_mem_drop (List.mem_of_mem_take hr))⟩
 ·intro hn;by_cases hc : lc = X
  ·omega
  ·rw [if_neg hc] at hn
   cases lo with
   | none => have := h3 rfl; omega
   | some p => cases hn
 ·rw [hlen] at hi;obtain ⟨b, off, e, g0, g1⟩ := h4 (X + i) (by omega);subst e;have hc : ¬ lc = X := by omega
  refine ⟨b, off + X * 2, by rw [if_neg hc, Option.map_some, WideShapes.add_plain], ?_, ?_⟩
  ·rw [List.getElem_take, List.getElem_drop, Nat.add_assoc, ← Nat.add_mul]; exact g0
  ·rw [List.getElem_take, List.getElem_drop, Nat.add_assoc off, ← Nat.add_mul]; exact g1
section

variable {D : Nat → Prop} {w : World} {v lv av bv : Value} {S : Sc} {l a b : List Int}

theorem fits_walk (h : Src D w v S) (hl : Nv w lv l) : Calls Tryz.prog 115 #[v, lv] w fun e w' => e = .returned (.bool (fitB S l)) ∧ Below w.heap.size w w' := by
 have HS : Hid (Src D w v S) := h;have HA : Hid (Nv w lv l) := hl;obtain ⟨ao, ca, rfl, hla, _⟩ := hl.form;have h4 := h.good.np4;clear hl h;by_cases hn : l.length = S.np
 ·have hln : ((l.length : Int) != (S.np : Int)) = false := by simp [hn]
  have HN : Hid (l.length = S.np) := hn;clear hn;go_in;go_wp2_with (go_at_call 155; refine (parts_walkS HS.out).mono ?_; rintro e w9 ⟨rfl, h9⟩; have h9 := h9.symm; subst h9);go_loopw [14] (fun iv wr => ∃ k : Nat, k ≤ l.length ∧ iv = .int .i64 k ∧ (∀ i, i < k → 0 ≤ nth l i ∧ nth l i ≤ (lenS S i : Int)) ∧ Below w.heap.size w wr) (fun iv _ => l.length - (intOf iv).toNat)
  case atStart => exact ⟨0, Nat.zero_le _, rfl, fun i hi => by omega, below_same _⟩
  case round =>
   obtain ⟨k, hk, rfl, hall, hB⟩ := hrel;have HW := hidH hB;clear hB;have HALL := hidH hall;clear hall;by_cases hlt : k < l.length
   ·obtain ⟨g, off, rfl, c0⟩ := (HA.out.below HW.out).at hlt;obtain ⟨x, hx⟩ : ∃ x, x = nth l k := ⟨_, rfl⟩;rw [← hx] at c0;have HX : Hid (x = nth l k) := hx;clear hx;have hlti : (k : Int) < (l.length : Int) := by omega
    obtain ⟨m, hm⟩ : ∃ m, m = lenS S k := ⟨_, rfl⟩;have HM : Hid (m = lenS S k) := hm;clear hm;by_cases hb : x < 0 ∨ (m : Int) < x
    ·have HD : Hid (fitB S l = false) := by
      show _ = _;refine Fit.no fun h => ?_;have := h.2 k hlt;rw [← HX.out, ← HM.out] at this;omega
     by_cases hx0 : x < 0
     ·clear hb;go_wp2_with fail;go_ret;exact ⟨HD.out ▸ rfl, HW.out⟩
     ·have hx1 : (m : Int) < x := by omega
      clear hb;go_wp2_with (go_at_call 117; refine (len_walk (HS.out.below HW.out) k).mono ?_; rw [← HM.out]; rintro e w9 ⟨rfl, h9⟩; have h9 := h9.symm; subst h9);go_ret;exact ⟨HD.out ▸ rfl, HW.out⟩
    ·have hx0 : ¬ x < 0 := by omega
     have hx1 : ¬ ((m : Int) < x) := by omega
     clear hb;go_wp2_with (go_at_call 117; refine (len_walk (HS.out.below HW.out) k).mono ?_; rw [← HM.out]; rintro e w9 ⟨rfl, h9⟩; have h9 := h9.symm; subst h9);go_roundw
     case rel =>
      refine ⟨k + 1, by omega, by go_num, fun i hi => ?_, HW.out⟩;by_cases hik : i = k
      ·subst hik; rw [← HX.out, ← HM.out]; omega
      ·exact HALL.out i (by omega)
     case measure => simp [intOf]; omega
   ·have hnl : ¬ ((k : Int) < (l.length : Int)) := by omega
    have HD : Hid (fitB S l = true) := Fit.yes ⟨HN.out, fun i hi => HALL.out i (by omega)⟩;go_wp2_with fail;go_ret;exact ⟨HD.out ▸ rfl, HW.out⟩
 ·have hln : ((l.length : Int) != (S.np : Int)) = true := by simp; omega
  have HD : Hid (fitB S l = false) := Fit.no fun h => hn h.1;clear hn;go_in;go_wp2_with (go_at_call 155; refine (parts_walkS HS.out).mono ?_; rintro e w9 ⟨rfl, h9⟩; have h9 := h9.symm; subst h9);go_ret;exact ⟨HD.out ▸ rfl, below_same _⟩
theorem rfits_walk (h : Rs D w v S) (hl : Nv w lv l) : Calls Tryz.prog 101 #[v, lv] w fun e w' => e = .returned (.bool (fitB S l)) ∧ Below w.heap.size w w' := by
 have HS : Hid (Rs D w v S) := h;have HA : Hid (Nv w lv l) := hl;obtain ⟨ao, ca, rfl, hla, _⟩ := hl.form;have h4 := h.good.np4;clear hl h;by_cases hn : l.length = S.np
 ·have hln : ((l.length : Int) != (S.np : Int)) = false := by simp [hn]
  have HN : Hid (l.length = S.np) := hn;clear hn;go_in;go_wp2_with (go_at_call 86; refine (rparts_walk HS.out).mono ?_; rintro e w9 ⟨rfl, h9⟩; have h9 := h9.symm; subst h9);go_loopw [5] (fun iv wr => ∃ k : Nat, k ≤ l.length ∧ iv = .int .i64 k ∧ (∀ i, i < k → 0 ≤ nth l i ∧ nth l i ≤ (lenS S i : Int)) ∧ Below w.heap.size w wr) (fun iv _ => l.length - (intOf iv).toNat)
  case atStart => exact ⟨0, Nat.zero_le _, rfl, fun i hi => by omega, below_same _⟩
  case round =>
   obtain ⟨k, hk, rfl, hall, hB⟩ := hrel;have HALL := hidH hall;have HW := hidH hB;clear hall hB;by_cases hlt : k < l.length
   ·obtain ⟨g, off, rfl, c0⟩ := (HA.out.below HW.out).at hlt;obtain ⟨x, hx⟩ : ∃ x, x = nth l k := ⟨_, rfl⟩;rw [← hx] at c0;have HX : Hid (x = nth l k) := hx;clear hx;have hlti : (k : Int) < (l.length : Int) := by omega
    obtain ⟨m, hm⟩ : ∃ m, m = lenS S k := ⟨_, rfl⟩;have HM : Hid (m = lenS S k) := hm;clear hm;by_cases hb : x < 0 ∨ (m : Int) < x
    ·have HD : Hid (fitB S l = false) := by
      show _ = _;refine Fit.no fun h => ?_;have := h.2 k hlt;rw [← HX.out, ← HM.out] at this;omega
     by_cases hx0 : x < 0
     ·clear hb;go_wp2_with fail;go_quiet (fail);go_wp2_with fail;go_ret;exact ⟨HD.out ▸ rfl, below_trans HW.out (below_drewN _ _)⟩
     ·have hx1 : (m : Int) < x := by omega
      clear hb;go_wp2_with fail;go_quiet ((go_at_call 103; exact Calls.quiet_of_same (HM.out ▸ rlen_walk ((HS.out.below HW.out).below (below_drewN _ _)) k)));go_wp2_with fail;go_ret;exact ⟨HD.out ▸ rfl, below_trans HW.out (below_drewN _ _)⟩
    ·have hx0 : ¬ x < 0 := by omega
     have hx1 : ¬ ((m : Int) < x) := by omega
     clear hb;go_wp2_with fail;go_quiet ((go_at_call 103; exact Calls.quiet_of_same (HM.out ▸ rlen_walk ((HS.out.below HW.out).below (below_drewN _ _)) k)));go_wp2_with fail;go_roundw
     case rel =>
      refine ⟨k + 1, by omega, by go_num, fun i hi => ?_, below_trans HW.out (below_drewN _ _)⟩;by_cases hik : i = k
      ·subst hik; rw [← HX.out, ← HM.out]; omega
      ·exact HALL.out i (by omega)
     case measure => simp [intOf]; omega
   ·have hnl : ¬ ((k : Int) < (l.length : Int)) := by omega
    have HD : Hid (fitB S l = true) := Fit.yes ⟨HN.out, fun i hi => HALL.out i (by omega)⟩;go_wp2_with fail;go_ret;exact ⟨HD.out ▸ rfl, HW.out⟩
 ·have hln : ((l.length : Int) != (S.np : Int)) = true := by simp; omega
  have HD : Hid (fitB S l = false) := Fit.no fun h => hn h.1;clear hn;go_in;go_wp2_with (go_at_call 86; refine (rparts_walk HS.out).mono ?_; rintro e w9 ⟨rfl, h9⟩; have h9 := h9.symm; subst h9);go_ret;exact ⟨HD.out ▸ rfl, below_same _⟩
end
end
end Go.Proofs.YtombjgfajbhbbaaGreat
