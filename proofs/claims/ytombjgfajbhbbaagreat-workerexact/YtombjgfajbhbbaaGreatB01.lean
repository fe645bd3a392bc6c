/- Contracts of the small functions that fbit and its statements are made of. -/
import Derived.Test.YtombjgfajbhbbaaGreatChecked
import Derived.WalkKit
import Derived.Laws.BytesArg
import Derived.Laws.AppendOwnNone
import Derived.Deep.Draws
import Derived.Deep.Slices
import Derived.Laws.FloatArith
import Derived.ProofKit
set_option maxRecDepth 100000
set_option maxHeartbeats 16000000
namespace Go.Proofs.YtombjgfajbhbbaaGreat.Wm

end Go.Proofs.YtombjgfajbhbbaaGreat.Wm
namespace Go.Proofs.YtombjgfajbhbbaaGreat

open Go.RowKit

def Sl (k : IntKind) (w : World) (ao : Option Addr) (l : List Int) : Prop :=
 ∀ i, i < l.length → ∃ b off, ao = some ⟨b, off, none⟩ ∧ w.cell? ⟨b, off + i, none⟩ = some (.int k (l.getD i 0))
def Sv (k : IntKind) (w : World) (v : Value) (l : List Int) : Prop :=
 ∃ ao cap, v = .slice ao l.length cap ∧ l.length ≤ cap ∧ cap ≤ maxLen ∧ (ao = none → cap = 0) ∧ Sl k w ao l
def ib (l : List Nat) : List Int := l.map fun c : Nat => (c : Int)
theorem ib_len (l : List Nat) : (ib l).length = l.length := by simp [ib]
theorem cell_lt {w : World} {a : Addr} {u : Value} (h : w.cell? a = some u) : a.block < w.heap.size := World.block_lt_of_cell? w a h
theorem Sl.below {k : IntKind} {w w' : World} {ao : Option Addr} {l : List Int} (h : Sl k w ao l) (hb : Below w.heap.size w w') : Sl k w' ao l := by
 intro i hi;obtain ⟨b, off, e, hc⟩ := h i hi;exact ⟨b, off, e, by rw [hb.cell (p := ⟨b, off + i, none⟩) (cell_lt hc)]; exact hc⟩
theorem Sv.below {k : IntKind} {w w' : World} {v : Value} {l : List Int} (h : Sv k w v l) (hb : Below w.heap.size w w') : Sv k w' v l := by
 obtain ⟨ao, cap, e, h1, h2, h3, h4⟩ := h;exact ⟨ao, cap, e, h1, h2, h3, h4.below hb⟩
theorem below_alloc (w : World) (o : Obj) : Below w.heap.size w (w.alloc o) := (Below.refl _ _).alloc (Nat.le_refl _) o
theorem below_trans {w w1 w2 : World} (h : Below w.heap.size w w1) (k : Below w1.heap.size w1 w2) : Below w.heap.size w w2 :=
 h.trans (k.mono h.size)
theorem below_drew (w : World) : Below w.heap.size w w.drew := (Below.refl _ _).drew
theorem below_drewN (w : World) (n : Nat) : Below w.heap.size w (w.drewN n) := ⟨rfl, rfl, rfl, Nat.le_refl _, fun _ _ => rfl⟩
theorem Sv.nil (k : IntKind) (w : World) : Sv k w (.slice none 0 0) [] := ⟨none, 0, rfl, Nat.le_refl _, by simp [maxLen], fun _ => rfl, fun i hi => by simp at hi⟩
theorem own_sv {k : IntKind} {w : World} {base e n : Nat} {v : Value} {l : List Int} (h : w.ownsRow base e 1 v n (l.map (Value.int k))) : Sv k w v l := by
 obtain ⟨h1, h2⟩ := h;have hn : l.length = n := by simpa using h1
 subst hn;rcases h2 with ⟨rfl, h0⟩ | ⟨g, cap, cur, rfl, hb, hg, hnc, hcm, hcs, htake⟩
 ·have : l = [] := List.eq_nil_of_length_eq_zero h0;subst this;exact Sv.nil k w
 ·refine ⟨_, cap, rfl, hnc, hcm, by simp, fun i hi => ⟨g, 0, rfl, ?_⟩⟩;rw [Nat.zero_add, cell_of_row w g i cur e (0, 0) hg];have hh : (cur.toList.take (l.length * 1))[i]? = (l.map (Value.int k))[i]? := by rw [htake]
  rw [List.getElem?_take, if_pos (by omega)] at hh;rw [← Array.getElem?_toList, hh];simp [List.getElem?_eq_getElem hi, List.getD]
theorem sv_lit (k : IntKind) (w : World) (e : TypeId) (l : List Int) (hm : l.length ≤ maxLen) :
  Sv k (w.alloc (.cells (l.map (Value.int k)).toArray e)) (.slice (some ⟨w.heap.size, 0, none⟩) l.length l.length) l := by
 have := World.ownsRow_lit (base := w.heap.size) (e := e) (size := 1) w (l.map (Value.int k)).toArray l.length (Nat.le_refl _) hm (by simp);exact own_sv (by simpa using this)
theorem wpList_append_sv {P : Program} {w : World} {ops : Array Oper} {rest : List Oper} {o : Oper} {a : Act} {Q : Exit → Act → World → Prop} (hgd : o.guard = none) (s x : Operand) (t : TypeId)
  (ho : o.op = .call { callee := .builtin .append, args := #[s, x], argTypes := #[t, t] })
  (base : Nat) (e : TypeId) (k : IntKind) (bytes : Nat) (ht : P.underlying t = some (.slice e)) (hinf : (P.info? e).map (fun i => (i.zero, i.size, i.bytes)) = some (some (.int k 0), 1, bytes))
  (v : Value) (n : Nat) (xs : List Value) (hs : a.eval s = v) (hown : w.ownsRow base e 1 v n xs)
  (y : Value) (l : List Int) (hx : a.eval x = y) (hy : Sv k w y l)
  (h63 : n + l.length ≤ maxLen) (hbytes : (n + l.length) * bytes ≤ 140737488355328) (hbase : base ≤ w.heap.size)
  (h : ∀ v' w', w'.ownsRow base e 1 v' (n + l.length) (xs ++ l.map (Value.int k)) → w.grownBy w' v.ownBlock → wpList P ops Q rest (a.put o.dst v') w') : wpList P ops Q (o :: rest) a w := by
 obtain ⟨i0, hi, hz0, hz1, hz2⟩ := info_parts hinf;obtain ⟨ao, cap, rfl, hc1, hc2, hnone, hcells⟩ := hy
 cases ao with
 | none =>
  obtain rfl := hnone rfl;have hl0 : l.length = 0 := by omega
  have hl : l = [] := List.eq_nil_of_length_eq_zero hl0;subst hl;refine wpList_append_own_none hgd s x t ho base e i0 1 ht hi v n xs hs hown hx ?_;exact h v w (by simpa using hown) ⟨rfl, rfl, rfl, Nat.le_refl _, fun _ _ _ => rfl⟩
 | some p =>
  refine wpList_append_own w hgd s x t ho base e i0 (.int k 0) 1 bytes ht hi hz0 hz1 hz2 rfl (by decide) v n xs hs hown p l.length cap (l.map (Value.int k)) hx (by simp) ?_ ?_ h63 hbytes hbase
   (fun v' w' h1 h2 _ => h v' w' h1 h2)
  ·intro j u hj
   have hjl : j < l.length := by
    rcases Nat.lt_or_ge j l.length with h | h
    ·exact h
    ·simp [List.getElem?_eq_none (show (l.map (Value.int k)).length ≤ j by simpa using h)] at hj
   obtain ⟨b, off, e1, e2⟩ := hcells j hjl
   cases e1
   rw [WideShapes.add_plain, e2];simp [List.getElem?_eq_getElem hjl] at hj;simp [List.getD, List.getElem?_eq_getElem hjl, hj]
  ·intro u hu;obtain ⟨z, _, rfl⟩ := List.mem_map.1 hu;rfl
end Go.Proofs.YtombjgfajbhbbaaGreat
namespace Go.Proofs.YtombjgfajbhbbaaGreat

open Ieee

def rung (x : Nat) : Nat := x % 9223372036854775808
def negB (x : Nat) : Bool := decide (9223372036854775808 ≤ x)
def nanB (x : Nat) : Bool := decide (9218868437227405312 < rung x)
def infB (x : Nat) : Bool := decide (rung x = 9218868437227405312)
def mag (r : Nat) : Nat := if r < 4503599627370496 then r else 4503599627370496 + r % 4503599627370496
def sh (r : Nat) : Nat := r / 4503599627370496 - 1
def V (r : Nat) : Nat := mag r * 2 ^ sh r
def key (x : Nat) : Int := if negB x then -(rung x : Int) else rung x
theorem sw : Ieee.double.signWeight = 9223372036854775808 := by decide
theorem bn : Ieee.double.binade = 4503599627370496 := by decide
theorem ir : Ieee.double.infRung = 9218868437227405312 := by decide
theorem lp : Ieee.double.leastPlace = -1074 := by decide
theorem read_num {x : Nat} (hx : x < 18446744073709551616) (h : rung x < 9218868437227405312) :
  Ieee.double.read x = .number (negB x) (mag (rung x)) (-1074 + (sh (rung x) : Nat)) := by
 unfold Format.read;simp only [sw, bn, ir, lp]
 have hn : (x / 9223372036854775808 % 2 == 1) = negB x := by
  unfold negB; rw [Bool.eq_iff_iff]; simp; omega
 rw [hn];change (if rung x < _ then _ else if rung x < _ then _ else _) = _;by_cases h2 : rung x < 4503599627370496
 ·rw [if_pos h2];unfold mag sh;rw [if_pos h2, Nat.div_eq_of_lt h2]; rfl
 ·rw [if_neg h2, if_pos h];unfold mag sh;rw [if_neg h2];rfl
theorem read_inf {x : Nat} (hx : x < 18446744073709551616) (h : rung x = 9218868437227405312) :
  Ieee.double.read x = .infinity (negB x) := by
 unfold Format.read;simp only [sw, bn, ir, lp]
 have hn : (x / 9223372036854775808 % 2 == 1) = negB x := by
  unfold negB; rw [Bool.eq_iff_iff]; simp; omega
 rw [hn];change (if rung x < _ then _ else if rung x < _ then _ else if rung x = _ then _ else _) = _;rw [if_neg (by omega), if_neg (by omega), if_pos h]
theorem read_nan {x : Nat} (hx : x < 18446744073709551616) (h : 9218868437227405312 < rung x) :
  Ieee.double.read x = .nan (negB x) (rung x - 9218868437227405312) := by
 unfold Format.read;simp only [sw, bn, ir, lp]
 have hn : (x / 9223372036854775808 % 2 == 1) = negB x := by
  unfold negB; rw [Bool.eq_iff_iff]; simp; omega
 rw [hn];change (if rung x < _ then _ else if rung x < _ then _ else if rung x = _ then _ else _) = _;rw [if_neg (by omega), if_neg (by omega), if_neg (by omega)];rfl
theorem mag_lt (r : Nat) : mag r < 9007199254740992 := by unfold mag; split <;> omega
theorem V_small {r : Nat} (h : r < 9007199254740992) : V r = r := by
 unfold V mag sh;by_cases h2 : r < 4503599627370496
 ·rw [if_pos h2, Nat.div_eq_of_lt h2]; simp
 ·rw [if_neg h2, show r / 4503599627370496 = 1 by omega]; simp; omega
theorem V_lt {r s : Nat} (h : r < s) : V r < V s := by
 by_cases hs : s < 9007199254740992
 ·rw [V_small hs, V_small (Nat.lt_trans h hs)]; exact h
 have ms : 4503599627370496 ≤ mag s := by unfold mag; split <;> omega
 by_cases hq : r / 4503599627370496 = s / 4503599627370496
 ·unfold V;have : sh r = sh s := by unfold sh; rw [hq]
  rw [this];refine Nat.mul_lt_mul_of_pos_right ?_ (Nat.two_pow_pos _);unfold mag;rw [if_neg (by omega), if_neg (by omega)];omega
 ·have h1 : sh r + 1 ≤ sh s := by unfold sh; omega
  have h2 : 2 ^ (sh r + 1) ≤ 2 ^ sh s := Nat.pow_le_pow_right (by omega) h1;have h3 := mag_lt r;have h4 : mag r * 2 ^ sh r < 9007199254740992 * 2 ^ sh r := Nat.mul_lt_mul_of_pos_right h3 (Nat.two_pow_pos _);have h5 : 4503599627370496 * 2 ^ sh s ≤ mag s * 2 ^ sh s := Nat.mul_le_mul_right _ ms;unfold V;rw [Nat.pow_succ] at h2;omega
theorem V_lt_iff {r s : Nat} : V r < V s ↔ r < s := by
 constructor
 ·intro h;rcases Nat.lt_trichotomy r s with h1 | h1 | h1
  ·exact h1
  ·subst h1; omega
  ·have := V_lt h1; omega
 ·exact V_lt
theorem V_inj {r s : Nat} (h : V r = V s) : r = s := by
 rcases Nat.lt_trichotomy r s with h1 | h1 | h1
 ·have := V_lt h1; omega
 ·exact h1
 ·have := V_lt h1; omega
def cmpI (a b : Int) : Ordering := if a < b then .lt else if a = b then .eq else .gt
theorem compare_int (a b : Int) : compare a b = cmpI a b := rfl
theorem cmpI_mul (a b : Int) (c : Int) (hc : 0 < c) : cmpI (a * c) (b * c) = cmpI a b := by
 unfold cmpI;have h1 : a * c < b * c ↔ a < b := ⟨fun h => Int.lt_of_mul_lt_mul_right h (Int.le_of_lt hc), fun h => Int.mul_lt_mul_of_pos_right h hc⟩;have h2 : a * c = b * c ↔ a = b := ⟨fun h => Int.eq_of_mul_eq_mul_right (by omega) h, fun h => by rw [h]⟩;simp only [h1, h2]
theorem signed_mul (s : Bool) (m a c : Nat) (h : c ≤ a) : signed s m (a - c) * (2 ^ c : Nat) = if s then -((m * 2 ^ a : Nat) : Int) else ((m * 2 ^ a : Nat) : Int) := by
 unfold signed
 have : m <<< (a - c) * 2 ^ c = m * 2 ^ a := by
  rw [Nat.shiftLeft_eq, Nat.mul_assoc, ← Nat.pow_add]; congr 2; omega
 cases s
 ·simp only [Bool.false_eq_true, if_false]; rw [← Int.natCast_mul, this]
 ·simp only [if_true]; rw [Int.neg_mul, ← Int.natCast_mul, this]
theorem order_numbers (s t : Bool) (m n a b : Nat) :
  (Datum.number s m (-1074 + (a : Nat))).order (.number t n (-1074 + (b : Nat))) = some (cmpI (if s then -((m * 2 ^ a : Nat) : Int) else ((m * 2 ^ a : Nat) : Int)) (if t then -((n * 2 ^ b : Nat) : Int) else ((n * 2 ^ b : Nat) : Int))) := by
 have e1 : ((-1074 + (a : Int)) - min (-1074 + (a : Int)) (-1074 + (b : Int))).toNat = a - min a b := by omega
 have e2 : ((-1074 + (b : Int)) - min (-1074 + (a : Int)) (-1074 + (b : Int))).toNat = b - min a b := by omega
 simp only [Datum.order, e1, e2, compare_int];congr 1;rw [← signed_mul s m a (min a b) (by omega), ← signed_mul t n b (min a b) (by omega)];exact (cmpI_mul _ _ _ (by have := Nat.two_pow_pos (min a b); omega)).symm
theorem cmpI_keys (s t : Bool) (r q : Nat) :
  cmpI (if s then -((V r : Nat) : Int) else ((V r : Nat) : Int)) (if t then -((V q : Nat) : Int) else ((V q : Nat) : Int)) = cmpI (if s then -(r : Int) else r) (if t then -(q : Int) else q) := by
 have v0 : V 0 = 0 := by decide
 have h1 := @V_lt_iff r q;have h2 := @V_lt_iff q r;have h3 := @V_lt_iff 0 r;have h4 := @V_lt_iff 0 q;rw [v0] at h3 h4;unfold cmpI
 cases s <;> cases t <;> simp only [Bool.false_eq_true, if_false, if_true] <;> (repeat' split) <;> first | rfl | (exfalso; omega)
theorem order_key {x y : Nat} (hx : x < 18446744073709551616) (hy : y < 18446744073709551616) (nx : nanB x = false) (ny : nanB y = false) :
  Ieee.double.order x y = some (cmpI (key x) (key y)) := by
 have nx' : ¬ 9218868437227405312 < rung x := by simpa [nanB] using nx
 have ny' : ¬ 9218868437227405312 < rung y := by simpa [nanB] using ny
 unfold Format.order;by_cases ix : rung x = 9218868437227405312 <;> by_cases iy : rung y = 9218868437227405312
 ·rw [read_inf hx ix, read_inf hy iy];unfold key;rw [ix, iy]
  cases negB x <;> cases negB y <;> rfl
 ·rw [read_inf hx ix, read_num hy (by omega)];have : rung y < 9218868437227405312 := by omega
  unfold key cmpI;rw [ix]
  cases negB x <;> cases negB y <;> simp only [Datum.order, Bool.false_eq_true, if_false, if_true] <;> refine congrArg some ?_ <;> (repeat' split) <;> first | rfl | (exfalso; omega)
 ·rw [read_inf hy iy, read_num hx (by omega)];have : rung x < 9218868437227405312 := by omega
  unfold key cmpI;rw [iy]
  cases negB x <;> cases negB y <;> simp only [Datum.order, Bool.false_eq_true, if_false, if_true] <;> refine congrArg some ?_ <;> (repeat' split) <;> first | rfl | (exfalso; omega)
 ·rw [read_num hx (by omega), read_num hy (by omega), order_numbers];congr 1;exact cmpI_keys _ _ _ _
theorem order_nan_left {x y : Nat} (hx : x < 18446744073709551616) (nx : nanB x = true) : Ieee.double.order x y = none := by
 have nx' : 9218868437227405312 < rung x := by simpa [nanB] using nx
 unfold Format.order;rw [read_nan hx nx']; rfl
theorem order_nan_right {x y : Nat} (hy : y < 18446744073709551616) (ny : nanB y = true) : Ieee.double.order x y = none := by
 have ny' : 9218868437227405312 < rung y := by simpa [nanB] using ny
 unfold Format.order;rw [read_nan hy ny'];generalize Ieee.double.read x = d;generalize rung y - 9218868437227405312 = f
 cases d <;> rfl
theorem order_self {x : Nat} (hx : x < 18446744073709551616) : (Ieee.double.order x x != some .eq) = nanB x := by
 cases h : nanB x
 ·rw [order_key hx hx h h]; simp [cmpI]
 ·rw [order_nan_left hx h]; rfl
def rank (x : Nat) : Int := if nanB x then 9223372036854775807 else if negB x then -1 - ((x : Int) - 9223372036854775808) else x
def ordI (a b : Nat) : Int := if rank a < rank b then -1 else if rank b < rank a then 1 else 0
def canonW (x : Nat) : Nat := if nanB x then 9221120237041090561 else x
def leastW (a b : Nat) : Nat := if rank a ≤ rank b then canonW a else canonW b
def mostW (a b : Nat) : Nat := if rank b ≤ rank a then canonW a else canonW b
theorem neg_t {x : Nat} (h : negB x = true) : 9223372036854775808 ≤ x := by simpa [negB] using h
theorem neg_f {x : Nat} (h : negB x = false) : x < 9223372036854775808 := by simpa [negB] using h
theorem nan_t {x : Nat} (h : nanB x = true) : 9218868437227405312 < rung x := by simpa [nanB] using h
theorem nan_f {x : Nat} (h : nanB x = false) : rung x ≤ 9218868437227405312 := by simpa [nanB] using h
theorem rung_lt (x : Nat) : rung x < 9223372036854775808 := Nat.mod_lt _ (by omega)
theorem rung_of {x : Nat} (hx : x < 18446744073709551616) : rung x = if negB x then x - 9223372036854775808 else x := by
 unfold rung negB; simp only [decide_eq_true_eq]; split <;> omega
theorem ord_lt {a b : Nat} (ha : a < 18446744073709551616) (hb : b < 18446744073709551616) (h : Ieee.double.order a b = some .lt) : ordI a b = -1 := by
 cases na : nanB a
 ·cases nb : nanB b
  ·rw [order_key ha hb na nb] at h
   have hk : key a < key b := by
    unfold cmpI at h; split at h
    ·assumption
    ·split at h <;> cases h
   have ra := rung_of ha; have rb := rung_of hb;unfold ordI rank; rw [na, nb];unfold key at hk
   cases sa : negB a <;> cases sb : negB b <;> (have ga := sa; have gb := sb; simp only [sa, sb, Bool.false_eq_true, if_false, if_true] at hk ra rb ⊢) <;> (first | replace ga := neg_t ga | replace ga := neg_f ga) <;> (first | replace gb := neg_t gb | replace gb := neg_f gb) <;> (rw [if_pos (by omega)])
  ·rw [order_nan_right hb nb] at h; cases h
 ·rw [order_nan_left ha na] at h; cases h
theorem ord_gt {a b : Nat} (ha : a < 18446744073709551616) (hb : b < 18446744073709551616) (h : Ieee.double.order a b = some .gt) : ordI a b = 1 := by
 cases na : nanB a
 ·cases nb : nanB b
  ·rw [order_key ha hb na nb] at h
   have hk : key b < key a := by
    unfold cmpI at h; split at h
    ·cases h
    ·split at h
     ·cases h
     ·omega
   have ra := rung_of ha; have rb := rung_of hb;unfold ordI rank; rw [na, nb];unfold key at hk
   cases sa : negB a <;> cases sb : negB b <;> (have ga := sa; have gb := sb; simp only [sa, sb, Bool.false_eq_true, if_false, if_true] at hk ra rb ⊢) <;> (first | replace ga := neg_t ga | replace ga := neg_f ga) <;> (first | replace gb := neg_t gb | replace gb := neg_f gb) <;> (rw [if_neg (by omega), if_pos (by omega)])
  ·rw [order_nan_right hb nb] at h; cases h
 ·rw [order_nan_left ha na] at h; cases h
theorem ord_eq {a b : Nat} (ha : a < 18446744073709551616) (hb : b < 18446744073709551616) (h : Ieee.double.order a b = some .eq) :
  ordI a b = if negB a = negB b then 0 else if negB a then -1 else 1 := by
 cases na : nanB a
 ·cases nb : nanB b
  ·rw [order_key ha hb na nb] at h
   have hk : key a = key b := by
    unfold cmpI at h; split at h
    ·cases h
    ·split at h
     ·assumption
     ·cases h
   have ra := rung_of ha; have rb := rung_of hb;unfold ordI rank; rw [na, nb];unfold key at hk
   cases sa : negB a <;> cases sb : negB b <;> (have ga := sa; have gb := sb; simp only [sa, sb, Bool.false_eq_true, if_false, if_true] at hk ra rb ⊢) <;> (first | replace ga := neg_t ga | replace ga := neg_f ga) <;> (first | replace gb := neg_t gb | replace gb := neg_f gb) <;> (try simp only [reduceCtorEq, if_false]) <;> (repeat' split) <;> omega
  ·rw [order_nan_right hb nb] at h; cases h
 ·rw [order_nan_left ha na] at h; cases h
theorem ord_none {a b : Nat} (ha : a < 18446744073709551616) (hb : b < 18446744073709551616) (h : Ieee.double.order a b = none) :
  ordI a b = if nanB a = nanB b then 0 else if nanB b then -1 else 1 := by
 have ra := rung_of ha; have rb := rung_of hb;have la := rung_lt a; have lb := rung_lt b
 cases na : nanB a <;> cases nb : nanB b
 ·rw [order_key ha hb na nb] at h; cases h
 ·unfold ordI rank; rw [na, nb];unfold nanB at na nb; simp only [decide_eq_true_eq, decide_eq_false_iff_not] at na nb
  cases sa : negB a <;> (have ga := sa; simp only [sa, Bool.false_eq_true, if_false, if_true] at ra ⊢) <;> (first | replace ga := neg_t ga | replace ga := neg_f ga) <;> (simp; omega)
 ·unfold ordI rank; rw [na, nb];unfold nanB at na nb; simp only [decide_eq_true_eq, decide_eq_false_iff_not] at na nb
  cases sb : negB b <;> (have gb := sb; simp only [sb, Bool.false_eq_true, if_false, if_true] at rb ⊢) <;> (first | replace gb := neg_t gb | replace gb := neg_f gb) <;> (simp; omega)
 ·unfold ordI rank; rw [na, nb]; simp
end Go.Proofs.YtombjgfajbhbbaaGreat
namespace Go.Proofs.YtombjgfajbhbbaaGreat

theorem run_bits (x : Nat) (w : World) : (callFunc 166 #[.float .f64 x]).run Tryz.prog w = .ok (.value (.int .u64 x)) w := by
 rw [run_callFunc_extern (e := Extern.MathFloatBits.float64bits) Tryz.func166 (by kernel_rfl) (by kernel_rfl) (by kernel_rfl) (by kernel_rfl)];rfl
theorem run_frombits (x : Int) (w : World) : (callFunc 130 #[.int .u64 x]).run Tryz.prog w = .ok (.value (.float .f64 x.toNat)) w := by
 rw [run_callFunc_extern (e := Extern.MathFloatBits.float64frombits) Tryz.func130 (by kernel_rfl) (by kernel_rfl) (by kernel_rfl) (by kernel_rfl)];rfl
attribute [local go_sem] run_bits run_frombits
theorem ret_int {k : IntKind} {a b : Int} (h : a = b) : Ending.returned (.int k a) = .returned (.int k b) := by rw [h]
theorem ret_bool {a b : Bool} (h : a = b) : Ending.returned (.bool a) = .returned (.bool b) := by rw [h]
theorem ret_float {k : FloatKind} {a b : Nat} (h : a = b) : Ending.returned (.float k a) = .returned (.float k b) := by rw [h]
theorem isNaN_walk {x : Nat} (hx : x < 18446744073709551616) (w : World) :
  Calls Tryz.prog 129 #[.float .f64 x] w fun e w' => e = .returned (.bool (nanB x)) ∧ w' = w := by
 go_in;go_wp2;all_goals (go_ret; exact ⟨ret_bool (order_self hx), rfl⟩)
def flagI (a b : Bool) : Int := if a = b then 0 else if b then -1 else 1
theorem flags_walk (a b : Bool) (w : World) :
  Calls Tryz.prog 202 #[.bool a, .bool b] w fun e w' => e = .returned (.int .i64 (flagI a b)) ∧ w' = w := by
 cases a <;> cases b <;>
 ·go_in;go_wp2;all_goals (go_ret; exact ⟨rfl, rfl⟩)
theorem signbit_walk {x : Nat} (hx : x < 18446744073709551616) (w : World) :
  Calls Tryz.prog 203 #[.float .f64 x] w fun e w' => e = .returned (.bool (negB x)) ∧ w' = w := by
 go_in;go_wp2;all_goals (go_ret; exact ⟨ret_bool (by unfold negB RowKit.wrap64; rw [Bool.eq_iff_iff]; simp; omega), rfl⟩)
theorem canon_walk {x : Nat} (hx : x < 18446744073709551616) (w : World) :
  Calls Tryz.prog 108 #[.float .f64 x] w fun e w' => e = .returned (.float .f64 (canonW x)) ∧ w' = w := by
 cases h : nanB x
 all_goals
  go_in;go_wp2_with (go_at_call 129; refine (isNaN_walk hx _).mono ?_; rintro e w' ⟨rfl, rfl⟩);go_ret;exact ⟨ret_float (by unfold canonW; rw [h]; rfl), rfl⟩
theorem order_walk {a b : Nat} (ha : a < 18446744073709551616) (hb : b < 18446744073709551616) (w : World) :
  Calls Tryz.prog 188 #[.float .f64 a, .float .f64 b] w fun e w' => e = .returned (.int .i64 (ordI a b)) ∧ w' = w := by
 cases h : FloatKind.f64.format.order a b with
 | none =>
  go_in;go_wp2_with fail;refine (isNaN_walk ha _).mono ?_;rintro e w' ⟨rfl, rfl⟩;go_wp2_with fail;refine (isNaN_walk hb _).mono ?_;rintro e w' ⟨rfl, rfl⟩;go_wp2_with fail;refine (flags_walk _ _ _).mono ?_;rintro e w' ⟨rfl, rfl⟩;go_wp2_with fail;go_ret;exact ⟨ret_int (ord_none ha hb h).symm, rfl⟩
 | some o =>
  cases o with
  | lt =>
   go_in;go_wp2_with fail;go_ret;exact ⟨ret_int (ord_lt ha hb h).symm, rfl⟩
  | gt =>
   go_in;go_wp2_with fail;go_ret;exact ⟨ret_int (ord_gt ha hb h).symm, rfl⟩
  | eq =>
   go_in;go_wp2_with fail;refine (signbit_walk ha _).mono ?_;rintro e w' ⟨rfl, rfl⟩;go_wp2_with fail;refine (signbit_walk hb _).mono ?_;rintro e w' ⟨rfl, rfl⟩;go_wp2_with fail;refine (flags_walk _ _ _).mono ?_;rintro e w' ⟨rfl, rfl⟩;go_wp2_with fail;go_ret;exact ⟨ret_int (by rw [ord_eq ha hb h]; unfold flagI; cases negB a <;> cases negB b <;> rfl), rfl⟩
theorem ordI_neg {a b : Nat} : ordI a b < 0 ↔ rank a < rank b := by unfold ordI; split <;> (try split) <;> omega
theorem ordI_pos {a b : Nat} : 0 < ordI a b ↔ rank b < rank a := by unfold ordI; split <;> (try split) <;> omega
theorem canon_lt {x : Nat} (hx : x < 18446744073709551616) : canonW x < 18446744073709551616 := by unfold canonW; split <;> omega
theorem canon_of_rank {a b : Nat} (ha : a < 18446744073709551616) (hb : b < 18446744073709551616) (h : rank a = rank b) : canonW a = canonW b := by
 have ra := rung_of ha; have rb := rung_of hb;have la := rung_lt a; have lb := rung_lt b;unfold rank at h; unfold canonW
 cases na : nanB a <;> cases nb : nanB b <;> rw [na, nb] at h <;> (first | replace na := nan_t na | replace na := nan_f na) <;> (first | replace nb := nan_t nb | replace nb := nan_f nb) <;>
 cases sa : negB a <;> cases sb : negB b <;> (have ga := sa; have gb := sb; simp only [sa, sb, Bool.false_eq_true, if_false, if_true] at h ra rb ⊢) <;> (first | replace ga := neg_t ga | replace ga := neg_f ga) <;> (first | replace gb := neg_t gb | replace gb := neg_f gb) <;> omega
theorem least_walk {a b : Nat} (ha : a < 18446744073709551616) (hb : b < 18446744073709551616) (w : World) :
  Calls Tryz.prog 179 #[.float .f64 a, .float .f64 b] w fun e w' => e = .returned (.float .f64 (leastW a b)) ∧ w' = w := by
 by_cases h : ordI a b < 0
 ·go_in;go_wp2_with fail;refine (order_walk ha hb _).mono ?_;rintro e w' ⟨rfl, rfl⟩;go_wp2_with fail;refine (canon_walk ha _).mono ?_;rintro e w' ⟨rfl, rfl⟩;go_wp2_with fail;go_ret;have := ordI_neg.1 h;exact ⟨ret_float (by unfold leastW; rw [if_pos (by omega)]), rfl⟩
 ·go_in;go_wp2_with fail;refine (order_walk ha hb _).mono ?_;rintro e w' ⟨rfl, rfl⟩;go_wp2_with fail;refine (canon_walk hb _).mono ?_;rintro e w' ⟨rfl, rfl⟩;go_wp2_with fail;go_ret;have h' : ¬ rank a < rank b := fun k => by have := ordI_neg.2 k; omega
  refine ⟨ret_float ?_, rfl⟩;unfold leastW
  split
  ·exact (canon_of_rank ha hb (by omega)).symm
  ·rfl
theorem most_walk {a b : Nat} (ha : a < 18446744073709551616) (hb : b < 18446744073709551616) (w : World) :
  Calls Tryz.prog 181 #[.float .f64 a, .float .f64 b] w fun e w' => e = .returned (.float .f64 (mostW a b)) ∧ w' = w := by
 by_cases h : 0 < ordI a b
 ·go_in;go_wp2_with fail;refine (order_walk ha hb _).mono ?_;rintro e w' ⟨rfl, rfl⟩;go_wp2_with fail;refine (canon_walk ha _).mono ?_;rintro e w' ⟨rfl, rfl⟩;go_wp2_with fail;go_ret;have := ordI_pos.1 h;exact ⟨ret_float (by unfold mostW; rw [if_pos (by omega)]), rfl⟩
 ·go_in;go_wp2_with fail;refine (order_walk ha hb _).mono ?_;rintro e w' ⟨rfl, rfl⟩;go_wp2_with fail;refine (canon_walk hb _).mono ?_;rintro e w' ⟨rfl, rfl⟩;go_wp2_with fail;go_ret;have h' : ¬ rank b < rank a := fun k => by have := ordI_pos.2 k; omega
  refine ⟨ret_float ?_, rfl⟩;unfold mostW
  split
  ·exact (canon_of_rank ha hb (by omega)).symm
  ·rfl
theorem of_walk (n : Int) (w : World) :
  Calls Tryz.prog 170 #[.int .i64 n] w fun e w' => e = .returned (.float .f64 (FloatKind.f64.nearest n)) ∧ w' = w := by
 go_in;go_wp2;go_ret;exact ⟨rfl, rfl⟩
theorem abs_bits {x : Nat} (hx : x < 18446744073709551616) : (bits .andNot .u64 (x : Int) 9223372036854775808).toNat = rung x := by
 have h := u64_andNot_nat x 9223372036854775808 hx (by omega);rw [show ((9223372036854775808 : Nat) : Int) = 9223372036854775808 from rfl] at h;rw [h, Int.toNat_natCast];exact Nat.and_two_pow_sub_one_eq_mod x 63
theorem abs_walk {x : Nat} (hx : x < 18446744073709551616) (w : World) :
  Calls Tryz.prog 167 #[.float .f64 x] w fun e w' => e = .returned (.float .f64 (rung x)) ∧ w' = w := by
 go_in;go_wp2;go_ret;exact ⟨ret_float (abs_bits hx), rfl⟩
def classI (x : Nat) : Int := if nanB x then 5 else if 9218868437227405312 ≤ rung x then 4 else if 4503599627370496 ≤ rung x then 3 else if 0 < rung x then 2 else 1
theorem key_rung (x : Nat) : key (rung x) = rung x := by
 have := rung_lt x;have h : rung (rung x) = rung x := by unfold rung; omega
 unfold key;rw [h];have : negB (rung x) = false := by unfold negB; simp; omega
 rw [this]; rfl
theorem nan_rung (x : Nat) : nanB (rung x) = nanB x := by
 have h : rung (rung x) = rung x := by unfold rung; omega
 unfold nanB; rw [h]
theorem order_rung {x c : Nat} (nx : nanB x = false) (hc : c ≤ 9218868437227405312) :
  Ieee.double.order (rung x) c = some (cmpI (rung x) c) := by
 have := rung_lt x;have hr : rung c = c := by unfold rung; omega
 have nc : nanB c = false := by unfold nanB; simp; omega
 have kc : key c = c := by have := key_rung c; rw [hr] at this; exact this
 rw [order_key (by omega) (by omega) (by rw [nan_rung]; exact nx) nc, key_rung, kc]
theorem class_walk {x : Nat} (hx : x < 18446744073709551616) (w : World) :
  Calls Tryz.prog 131 #[.float .f64 x] w fun e w' => e = .returned (.int .i64 (classI x)) ∧ w' = w := by
 cases hn : nanB x
 ·have h1 : FloatKind.f64.format.order (rung x) 9218868437227405311 = some (cmpI (rung x) (9218868437227405311 : Nat)) := order_rung (c := 9218868437227405311) hn (by omega);have h2 : FloatKind.f64.format.order (rung x) 4503599627370496 = some (cmpI (rung x) (4503599627370496 : Nat)) := order_rung (c := 4503599627370496) hn (by omega);have h3 : FloatKind.f64.format.order (rung x) 0 = some (cmpI (rung x) (0 : Nat)) := order_rung (c := 0) hn (by omega);have hr := nan_f hn;by_cases c1 : 9218868437227405312 ≤ rung x
  ·rw [show cmpI (rung x) (9218868437227405311 : Nat) = .gt by unfold cmpI; rw [if_neg (by omega), if_neg (by omega)]] at h1;clear h2 h3;go_in;go_wp2_with fail;refine (abs_walk hx _).mono ?_;rintro e w' ⟨rfl, rfl⟩;go_wp2_with fail;refine (isNaN_walk hx _).mono ?_;rintro e w' ⟨rfl, rfl⟩;go_wp2_with fail;go_ret;exact ⟨ret_int (by unfold classI; rw [hn]; simp only [Bool.false_eq_true, if_false]; (repeat' split) <;> omega), rfl⟩
  have h1' : FloatKind.f64.format.order (rung x) 9218868437227405311 = some .lt ∨ FloatKind.f64.format.order (rung x) 9218868437227405311 = some .eq := by
   rw [h1]; unfold cmpI;by_cases c : (rung x : Int) < (9218868437227405311 : Nat)
   ·rw [if_pos c]; exact .inl rfl
   ·rw [if_neg c, if_pos (by omega)]; exact .inr rfl
  clear h1;by_cases c2 : 4503599627370496 ≤ rung x
  ·have h2' : FloatKind.f64.format.order (rung x) 4503599627370496 = some .gt ∨ FloatKind.f64.format.order (rung x) 4503599627370496 = some .eq := by
    rw [h2]; unfold cmpI;rw [if_neg (by omega)];by_cases c : (rung x : Int) = (4503599627370496 : Nat)
    ·rw [if_pos c]; exact .inr rfl
    ·rw [if_neg c]; exact .inl rfl
   clear h2 h3;rcases h1' with h1 | h1 <;> rcases h2' with h2 | h2
   all_goals
    go_in;go_wp2_with fail;refine (abs_walk hx _).mono ?_;rintro e w' ⟨rfl, rfl⟩;go_wp2_with fail;refine (isNaN_walk hx _).mono ?_;rintro e w' ⟨rfl, rfl⟩;go_wp2_with fail;go_ret;exact ⟨ret_int (by unfold classI; rw [hn]; simp only [Bool.false_eq_true, if_false]; (repeat' split) <;> omega), rfl⟩
  ·rw [show cmpI (rung x) (4503599627370496 : Nat) = .lt by unfold cmpI; rw [if_pos (by omega)]] at h2;by_cases c3 : 0 < rung x
   ·rw [show cmpI (rung x) (0 : Nat) = .gt by unfold cmpI; rw [if_neg (by omega), if_neg (by omega)]] at h3;rcases h1' with h1 | h1
    all_goals
     go_in;go_wp2_with fail;refine (abs_walk hx _).mono ?_;rintro e w' ⟨rfl, rfl⟩;go_wp2_with fail;refine (isNaN_walk hx _).mono ?_;rintro e w' ⟨rfl, rfl⟩;go_wp2_with fail;go_ret;exact ⟨ret_int (by unfold classI; rw [hn]; simp only [Bool.false_eq_true, if_false]; (repeat' split) <;> omega), rfl⟩
   ·rw [show cmpI (rung x) (0 : Nat) = .eq by unfold cmpI; rw [if_neg (by omega), if_pos (by omega)]] at h3;rcases h1' with h1 | h1
    all_goals
     go_in;go_wp2_with fail;refine (abs_walk hx _).mono ?_;rintro e w' ⟨rfl, rfl⟩;go_wp2_with fail;refine (isNaN_walk hx _).mono ?_;rintro e w' ⟨rfl, rfl⟩;go_wp2_with fail;go_ret;exact ⟨ret_int (by unfold classI; rw [hn]; simp only [Bool.false_eq_true, if_false]; (repeat' split) <;> omega), rfl⟩
 ·go_in;go_wp2_with fail;refine (abs_walk hx _).mono ?_;rintro e w' ⟨rfl, rfl⟩;go_wp2_with fail;refine (isNaN_walk hx _).mono ?_;rintro e w' ⟨rfl, rfl⟩;go_wp2_with fail;go_ret;exact ⟨ret_int (by unfold classI; rw [hn]; rfl), rfl⟩
end Go.Proofs.YtombjgfajbhbbaaGreat
