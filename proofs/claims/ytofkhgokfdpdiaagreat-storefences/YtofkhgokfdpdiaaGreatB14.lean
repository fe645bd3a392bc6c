/- Contracts of the reader's refuse, number, has, value. -/
import Derived.Test.YtofkhgokfdpdiaaGreatB09
import Derived.Test.YtofkhgokfdpdiaaGreatB10
import Derived.Deep.RegionHeld3
import Derived.Deep.DeepCutAuto
import Derived.Test.YtofkhgokfdpdiaaGreatB13
set_option maxRecDepth 100000
set_option maxHeartbeats 16000000
namespace Go.Proofs.YtofkhgokfdpdiaaGreat
section
open Go.RowKit

theorem wdF_get (n x k : Nat) (hk : k < n) : (Wm.wdF n x)[k]? = some (x / 256 ^ k % 256) := by
 induction n generalizing x k with
 | zero => omega
 | succ n ih =>
  cases k with
  | zero => simp [Wm.wdF]
  | succ k =>
   simp only [Wm.wdF, List.getElem?_cons_succ]
   rw [ih (x / 256) k (by omega), Nat.div_div_eq_div_mul, Nat.pow_succ, Nat.mul_comm 256]
def wpre (x k : Nat) : List Nat := (Wm.wd x).take k ++ List.replicate (8 - k) 0
theorem wpre_len (x k : Nat) (hk : k ≤ 8) : (wpre x k).length = 8 := by
 unfold wpre; rw [List.length_append, List.length_take, List.length_replicate, Wm.wd_len]; omega
theorem wpre_zero (x : Nat) : wpre x 0 = List.replicate 8 0 := by simp [wpre]
theorem wpre_all (x : Nat) : wpre x 8 = Wm.wd x := by
 unfold wpre; rw [List.take_of_length_le (by rw [Wm.wd_len]; omega)]; simp
theorem wpre_set (x k : Nat) (hk : k < 8) : (wpre x k).set k (x / 256 ^ k % 256) = wpre x (k + 1) := by
 have hw := wdF_get 8 x k hk
 have hl : k < (Wm.wd x).length := by rw [Wm.wd_len]; exact hk
 have hget : (Wm.wd x)[k] = x / 256 ^ k % 256 := by
  have : (Wm.wd x)[k]? = some (x / 256 ^ k % 256) := hw
  rw [List.getElem?_eq_getElem hl] at this
  exact Option.some.inj this
 unfold wpre
 rw [List.set_append_right _ _ (by rw [List.length_take, Wm.wd_len]; omega), List.length_take, Wm.wd_len,
  show k - min k 8 = 0 by omega, show 8 - k = (8 - (k + 1)) + 1 by omega, List.replicate_succ, List.set_cons_zero,
  List.take_succ_eq_append_getElem hl, hget, List.append_assoc]
 rfl
def WordRel (x H : Nat) (w : World) (iv : Value) (wr : World) : Prop :=
 ∃ k : Nat, k ≤ 8 ∧ iv = .int .i64 k ∧ wr.ownsRow H 5 1 (.slice (some ⟨H, 0, none⟩) 8 8) 8 ((ib (wpre x k)).map (Value.int .u8)) ∧ Below H w wr
theorem pow256 (i : Nat) : (2 : Nat) ^ (8 * i) = 256 ^ i := by rw [Nat.pow_mul]
theorem wordrel_step {x H k : Nat} {w wr : World} (hk : k < 8) (hbel : Below H w wr)
  (hown : wr.ownsRow H 5 1 (.slice (some ⟨H, 0, none⟩) 8 8) 8 ((ib (wpre x k)).map (Value.int .u8))) :
  WordRel x H w (.int .i64 ((k : Int) + 1)) (wr.setCell ⟨H, k, none⟩ (.int .u8 ((x : Int) / 2 ^ (8 * k) % 256))) := by
 have hs := hown.stored k (.int .u8 ((x : Int) / 2 ^ (8 * k) % 256))
 refine ⟨k + 1, hk, rfl, ?_, hbel.setCell (Nat.le_refl _) _⟩
 have e : ((x : Int) / 2 ^ (8 * k) % 256) = ((x / 256 ^ k % 256 : Nat) : Int) := by
  rw [← pow256, Int.natCast_emod, Int.natCast_ediv, Int.natCast_pow]; rfl
 have e2 : ((ib (wpre x k)).map (Value.int .u8)).set k (.int .u8 ((x : Int) / 2 ^ (8 * k) % 256)) = (ib (wpre x (k + 1))).map (Value.int .u8) := by
  rw [← wpre_set x k hk, e]
  simp [ib, List.map_set]
 rw [← e2]
 exact hs.1
theorem wordrel_start {x : Nat} {w w1 : World} (hown : w1.ownsRow w.heap.size 5 1 (.slice (some ⟨w.heap.size, 0, none⟩) 8 8) 8 (madeCells (Value.int .u8 0).cells (8 * 1)).toList) (hg : w.grownBy w1 none) :
  WordRel x w.heap.size w (.int .i64 0) w1 := by
 refine ⟨0, by omega, rfl, ?_, (Below.refl _ _).grown hg (Nat.le_refl _) (by simp)⟩
 rw [wpre_zero]
 have e : (madeCells (Value.int .u8 0).cells (8 * 1)).toList = (ib (List.replicate 8 0)).map (Value.int .u8) := by
  show (madeCells #[Value.int .u8 0] 8).toList = _
  rw [toList_madeCells_one]; simp [ib]
 rw [← e]
 exact hown
theorem word_walk (x : Nat) (w : World) :
  Calls Tryz.prog 301 #[.int .u64 x] w fun e w' => ∃ v, e = .returned v ∧ w'.ownsRow w.heap.size 5 1 v 8 ((ib (Wm.wd x)).map (Value.int .u8)) ∧ Below w.heap.size w w' := by
 obtain ⟨i0, hi, hz0, hz1, hz2⟩ := info_parts info_u8
 go_in
 go_wp2_with (at_make; refine wpList_make_full _ (by rfl) _ _ 99 (by rfl) w.heap.size 5 i0 (.int .u8 0) 1 Tryz.underlying99 hi hz0 hz1 .i64 .i64 8 8 8 (by rfl) (by rfl) rfl rfl (by rw [hz2]; decide) (by simp [maxLen]) (Nat.le_refl _) ?_; intro w1 hown hgrow)
 have HST : Hid (WordRel x w.heap.size w (.int .i64 0) w1) := wordrel_start hown hgrow
 clear hown hgrow hi hz0 hz1 hz2
 go_loopw [8] (fun iv wr => WordRel x w.heap.size w iv wr) (fun iv _ => 8 - (intOf iv).toNat)
 case atStart => exact HST.out
 case round =>
  obtain ⟨k, hk, rfl, hown, hbel⟩ := hrel
  have HO := hidH hown
  by_cases hlt : (k : Int) < 8
  ·have hq : wr.cell? ⟨w.heap.size, k, none⟩ = ((ib (wpre x k)).map (Value.int .u8))[k]? := hown.cellAt k (by omega)
   have hfr := hown.frozenAt k
   have hk8 : k < ((ib (wpre x k)).map (Value.int .u8)).length := by rw [List.length_map, ib_len, wpre_len x k hk]; omega
   rw [List.getElem?_eq_getElem hk8] at hq
   obtain ⟨q, hq'⟩ : ∃ q, wr.cell? ⟨w.heap.size, k, none⟩ = some q := ⟨_, hq⟩
   have R : Hid (WordRel x w.heap.size w (.int .i64 ((k : Int) + 1)) (wr.setCell ⟨w.heap.size, k, none⟩ (.int .u8 ((x : Int) / 2 ^ (8 * k) % 256)))) := wordrel_step (by omega) hbel hown
   clear hq hk8 hown
   go_wp2
   go_roundw
   case rel => exact R.out
   case measure => simp [intOf]; omega
  ·obtain rfl : k = 8 := by omega
   clear hown
   go_wp2
   go_ret
   exact ⟨_, rfl, by have := HO.out; rwa [wpre_all] at this, hbel⟩
end
section
open Go.RowKit

theorem unw_append (l r : List Nat) : Wm.unw (l ++ r) = Wm.unw l + 256 ^ l.length * Wm.unw r := by
 induction l with
 | nil => simp [Wm.unw]
 | cons c l ih =>
  simp only [List.cons_append, Wm.unw, ih, List.length_cons, Nat.pow_succ]
  rw [Nat.mul_add, Nat.mul_comm (256 ^ l.length) 256, Nat.mul_assoc]
  omega
theorem unw_take_succ {l : List Nat} {k c : Nat} (hk : k < l.length) (hc : l.getD k 0 = c) : Wm.unw (l.take (k + 1)) = Wm.unw (l.take k) + c * 256 ^ k := by
 have e : l.getD k 0 = l[k] := by simp [List.getD, List.getElem?_eq_getElem hk]
 rw [List.take_succ_eq_append_getElem hk, unw_append, List.length_take, Nat.min_eq_left (by omega), ← e, hc]
 simp [Wm.unw, Nat.mul_comm]
theorem wacc_or {x c k : Nat} (hx : x < 256 ^ k) (hk : k < 8) (hc : c < 256) :
  bits .or .u64 (x : Int) (IntKind.u64.wrap ((c : Int) * 2 ^ (8 * k))) = ((x + c * 256 ^ k : Nat) : Int) := by
 have hp : (256 : Nat) ^ k ≤ 256 ^ 7 := Nat.pow_le_pow_right (by omega) (by omega)
 have h1 : c * 256 ^ k ≤ 255 * 256 ^ 7 := Nat.mul_le_mul (by omega) hp
 have h2 : c * 256 ^ k < 18446744073709551616 := Nat.lt_of_le_of_lt h1 (by decide)
 have h3 : x < 18446744073709551616 := Nat.lt_of_lt_of_le (Nat.lt_of_lt_of_le hx hp) (by decide)
 have e : (c : Int) * 2 ^ (8 * k) = ((c * 256 ^ k : Nat) : Int) := by
  rw [← pow256, Int.natCast_mul, Int.natCast_pow]; rfl
 rw [e, wrap_u64_id (by omega) (by generalize c * 256 ^ k = z at h2 ⊢; omega), bits_or_u64_nat x _ h3 h2]
 congr 1
 rw [← pow256] at hx ⊢
 rw [Nat.or_comm, Nat.mul_comm, ← Nat.two_pow_add_eq_or_of_lt hx]
 omega
def t2 (r : Nat × Nat) : Value := .tuple #[.int .u64 (r.1 : Nat), .int .i64 (r.2 : Nat)]
theorem t2_short {l : List Nat} (h : l.length < 8) : Ending.returned (.tuple #[.int .u64 0, .int .i64 3]) = .returned (t2 (Wm.takeW l)) := by
 unfold Wm.takeW; rw [if_pos h]; rfl
theorem t2_long {l : List Nat} {a : Int} (h : 8 ≤ l.length) (ha : a = (Wm.unw (l.take 8) : Nat)) : Ending.returned (.tuple #[.int .u64 a, .int .i64 0]) = .returned (t2 (Wm.takeW l)) := by
 unfold Wm.takeW; rw [if_neg (by omega), ha]; rfl
theorem takew_short (l : List Nat) (ao : Option Addr) (cap : Nat) (w : World) (h : l.length < 8) :
  Calls Tryz.prog 287 #[.slice ao l.length cap] w fun e w' => e = .returned (t2 (Wm.takeW l)) ∧ w' = w := by
 have h8 : (l.length : Int) < 8 := by omega
 go_in
 go_wp2
 go_ret2
 exact ⟨t2_short h, rfl⟩
theorem takew_long (l : List Nat) (b off cap : Nat) (w : World) (h8 : 8 ≤ l.length)
  (hc : ∀ i, i < l.length → w.cell? ⟨b, off + i, none⟩ = some (.int .u8 ((l.getD i 0 : Nat) : Int))) (h256 : ∀ c ∈ l, c < 256) :
  Calls Tryz.prog 287 #[.slice (some ⟨b, off, none⟩) l.length cap] w fun e w' => e = .returned (t2 (Wm.takeW l)) ∧ w' = w := by
 have HC := hidH hc
 have H256 : Hid (∀ c ∈ l, c < 256) := h256
 have hl8 : ¬ (l.length : Int) < 8 := by omega
 clear hc h256
 go_in
 go_wp2
 go_loop [4, 9] (fun xv iv => ∃ k x : Nat, xv = .int .u64 x ∧ iv = .int .i64 k ∧ k ≤ 8 ∧ x = Wm.unw (l.take k)) (fun _ iv => 8 - (intOf iv).toNat)
 case atStart => exact ⟨0, 0, rfl, rfl, by omega, rfl⟩
 case round =>
  obtain ⟨k, x, rfl, rfl, hk, hx⟩ := hrel
  have HX : Hid (x = Wm.unw (l.take k)) := hx
  clear hx
  by_cases hlt : (k : Int) < 8
  ·have hcell := HC.out k (by omega)
   obtain ⟨c, hcd⟩ : ∃ c, l.getD k 0 = c := ⟨_, rfl⟩
   rw [hcd] at hcell
   have HD : Hid (l.getD k 0 = c) := hcd
   have HC2 : Hid (c < 256) := by show c < 256; rw [← hcd]; exact H256.out _ (by simp [List.getD, List.getElem?_eq_getElem (show k < l.length by omega)])
   have hkl : (k : Int) < (l.length : Int) := by omega
   have hci : (c : Int) < 256 := by have := HC2.out; omega
   have HLT : Hid (x < 256 ^ k) := by
    have h1 := Wm.unw_lt (l.take k) (fun d hd => H256.out d (List.mem_of_mem_take hd))
    rw [← HX.out, List.length_take, Nat.min_eq_left (by omega)] at h1
    exact h1
   clear hcd
   go_wp2_with fail
   go_round
   case rel => exact ⟨k + 1, _, by rw [wacc_or HLT.out (by omega) HC2.out], by go_num, by omega, by rw [unw_take_succ (by omega) HD.out, HX.out]⟩
   case measure => simp [intOf]; omega
  ·obtain rfl : k = 8 := by omega
   go_wp2_with fail
   go_ret2
   exact ⟨t2_long h8 (by rw [HX.out]), rfl⟩
theorem takew_walk {w : World} {v : Value} {l : List Nat} (h : Bv w v l) :
  Calls Tryz.prog 287 #[v] w fun e w' => e = .returned (t2 (Wm.takeW l)) ∧ w' = w := by
 by_cases h8 : l.length < 8
 ·obtain ⟨⟨ao, cap, rfl, _⟩, _⟩ := h
  rw [ib_len]
  exact takew_short l ao cap w h8
 ·rcases bv_cases h with ⟨rfl, _⟩ | ⟨b, off, cap, rfl, hp, h1, h2, h3⟩
  ·simp at h8
  ·exact takew_long l b off cap w (by omega) h3 h.2
end
section
open Go.RowKit

def lastK (l : List Cl) : Option Nat := l.getLast?.map Cl.k
theorem lastK_snoc (q : List Cl) (c : Cl) : lastK (q ++ [c]) = some c.k := by simp [lastK]
theorem follows_at (n m k : Nat) (c : Cl) (b off cap : Nat) (w : World) (hn : n = m + 1) (hl : n ≤ cap) (hcap : cap ≤ maxLen) (h : CA w b (off + m * 6) c) :
  Calls Tryz.prog 228 #[.slice (some ⟨b, off, none⟩) n cap, .int .u64 k] w fun e w' => e = .returned (.bool (folB (some c.k) k)) ∧ w' = w := by
 unfold maxLen at hcap
 have h1 : (n : Int) - 1 = (m : Int) := by omega
 have h2 : (m : Int) < (n : Int) := by omega
 have h3 : ((n : Int) == 0) = false := by simp; omega
 have h4 : (n : Int) ≤ 9223372036854775807 := by omega
 have h0 := h.c0
 clear hn hcap hl
 by_cases hk : c.k < k
 ·have e : folB (some c.k) k = true := by simp [folB, hk]
  have hk1 : (c.k : Int) < (k : Int) := by omega
  rw [e]
  go_in
  go_wp2_with fail
  go_ret
  exact ⟨rfl, rfl⟩
 ·have e : folB (some c.k) k = false := by simp [folB]; omega
  have hk1 : ¬ (c.k : Int) < (k : Int) := by omega
  rw [e]
  go_in
  go_wp2_with fail
  go_ret
  exact ⟨rfl, rfl⟩
theorem follows_void (ao : Option Addr) (cap k : Nat) (w : World) :
  Calls Tryz.prog 228 #[.slice ao 0 cap, .int .u64 k] w fun e w' => e = .returned (.bool true) ∧ w' = w := by
 go_in
 go_wp2_with fail
 go_ret
 exact ⟨rfl, rfl⟩
theorem follows_walk {w : World} {v : Value} {l : List Cl} (h : Cv w v l) (k : Nat) :
  Calls Tryz.prog 228 #[v, .int .u64 k] w fun e w' => e = .returned (.bool (folB (lastK l) k)) ∧ w' = w := by
 rcases cv_cases h with ⟨rfl, ao, cap, rfl⟩ | ⟨b, off, cap, rfl, hp, h1, h2, h3⟩
 ·exact follows_void ao cap k w
 ·obtain ⟨q, c, rfl⟩ : ∃ q c, l = q ++ [c] := ⟨l.dropLast, l.getLast (List.length_pos_iff.1 hp), (List.dropLast_concat_getLast _).symm⟩
  rw [lastK_snoc]
  have := h3 q.length (by simp)
  rw [List.getElem_append_right (Nat.le_refl _)] at this
  simp only [Nat.sub_self, List.getElem_singleton] at this
  exact follows_at _ q.length k c b off cap w (by simp) h1 h2 this
theorem plain_walk (v : Vl) (w : World) :
  Calls Tryz.prog 271 #[.agg #[.bool v.h, .int .u64 v.b]] w fun e w' => e = .returned (.bool (plainB v)) ∧ Below w.heap.size w w' := by
 obtain ⟨h, b⟩ := v
 cases h
 ·by_cases hb : b = 0
  ·subst hb
   go_in
   go_wp2_with fail
   go_ret
   exact ⟨rfl, below_alloc _ _⟩
  ·have e : plainB ⟨false, b⟩ = false := by simp [plainB, hb]
   have h1 : ((b : Int) == 0) = false := by simp; omega
   rw [e]
   go_in
   go_wp2_with fail
   go_ret
   exact ⟨rfl, below_alloc _ _⟩
 ·go_in
  go_wp2_with fail
  go_ret
  exact ⟨rfl, below_alloc _ _⟩
theorem writable_walk (c : Cl) (w : World) :
  Calls Tryz.prog 229 #[.agg #[.int .u64 c.k, .bool c.p.h, .int .u64 c.p.b, .bool c.c.h, .int .u64 c.c.b, .int .i64 c.n]] w fun e w' => e = .returned (.bool (writB c)) ∧ Below w.heap.size w w' := by
 have HC : Hid (CB (w.alloc (Obj.cells #[.int .u64 c.k, .bool c.p.h, .int .u64 c.p.b, .bool c.c.h, .int .u64 c.c.b, .int .i64 c.n] 134)) w.heap.size c) := cb_new w c
 have HB : Hid (Below w.heap.size w (w.alloc (Obj.cells #[.int .u64 c.k, .bool c.p.h, .int .u64 c.p.b, .bool c.c.h, .int .u64 c.c.b, .int .i64 c.n] 134))) := below_alloc _ _
 by_cases h1 : 0 ≤ c.n
 ·by_cases h2 : c.n ≤ 1099511627776
  ·cases hp : plainB c.p
   ·have e : writB c = false := by simp [writB, hp]
    rw [e]
    clear e
    go_in
    go_wp2_with fail
    refine (plain_walk c.p _).mono ?_
    rw [hp]
    rintro e w2 ⟨rfl, hB2⟩
    go_wp2_with fail
    go_ret
    exact ⟨rfl, below_trans HB.out hB2⟩
   ·have e : writB c = plainB c.c := by simp [writB, hp, h1, h2]
    rw [e]
    clear e
    go_in
    go_wp2_with fail
    refine (plain_walk c.p _).mono ?_
    rw [hp]
    rintro e w2 ⟨rfl, hB2⟩
    obtain ⟨_, _, _, d3, d4, _, _⟩ := HC.out.keep hB2
    go_wp2_with fail
    refine (plain_walk c.c _).mono ?_
    rintro e w3 ⟨rfl, hB3⟩
    go_wp2_with fail
    go_ret
    exact ⟨rfl, below_trans HB.out (below_trans hB2 hB3)⟩
  ·have e : writB c = false := by simp [writB]; omega
   rw [e]
   go_in
   go_wp2_with fail
   go_ret
   exact ⟨rfl, HB.out⟩
 ·have e : writB c = false := by simp [writB]; omega
  rw [e]
  go_in
  go_wp2_with fail
  go_ret
  exact ⟨rfl, HB.out⟩
theorem valueBytes_walk (v : Vl) (w : World) :
  Calls Tryz.prog 272 #[.agg #[.bool v.h, .int .u64 v.b]] w fun e w' => ∃ u, e = .returned u ∧ Bv w' u (valB v) ∧ Below w.heap.size w w' := by
 obtain ⟨h, b⟩ := v
 cases h
 ·go_in
  go_wp2_with fail
  go_ret
  exact ⟨_, rfl, Bv.nil _, below_alloc _ _⟩
 ·go_in
  go_wp2_with (go_at_call 301; refine (word_walk b _).mono ?_; rintro e w2 ⟨v, rfl, hown, hB2⟩)
  go_ret
  have hb := own_bv hown (wd_lt b)
  exact ⟨v, rfl, by simpa [valB] using hb, below_trans (below_alloc _ _) hB2⟩
end
section
open Go.RowKit

theorem ch_set (w : World) (g i : Nat) (u : Value) : Ch (fun x => x = g) w (w.setCell ⟨g, i, none⟩ u) := Ch.of_grown (grown_set w g i u) (fun x hx => by cases hx; rfl)
theorem Ch.cell {D : Nat → Prop} {w w' : World} {p : Addr} {u : Value} (h : Ch D w w') (hp : w.cell? p = some u) (hd : ¬ D p.block) : w'.cell? p = some u := by
 have := h.block p.block (cell_lt hp) hd
 have e : w'.cell? p = w.cell? p := by simp only [World.cell?, this]
 rw [e, hp]
theorem Bv.set {w : World} {v : Value} {l : List Nat} (h : Bv w v l) {p : Addr} {u : Value} (hp : w.cell? p = some u) (hu : ∀ x, u ≠ .int .u8 x) (u' : Value) : Bv (w.setCell p u') v l := by
 obtain ⟨⟨ao, cap, e, h1, h2, h3, h4⟩, h5⟩ := h
 refine ⟨⟨ao, cap, e, h1, h2, h3, fun i hi => ?_⟩, h5⟩
 obtain ⟨b, off, e1, e2⟩ := h4 i hi
 refine ⟨b, off, e1, ?_⟩
 rw [World.cell?_setCell_other _ _ _ _ (by rintro rfl; rw [e2] at hp; exact hu _ (Option.some.inj hp).symm)]
 exact e2
structure RD (M : Nat) (w : World) (R : Nat) (v : Value) (l : List Nat) (f : Nat) : Prop where
 c0 : w.cell? ⟨R, 0, none⟩ = some v
 c1 : w.cell? ⟨R, 1, none⟩ = some (.int .i64 f)
 z : ∀ j, w.frozen? ⟨R, j, none⟩ = false
 bv : Bv w v l
 m : ∀ x, v.ownBlock = some x → x < M
theorem own_cut0 {ao : Option Addr} {n c n' c' : Nat} : (Value.slice ao n c).ownBlock = (Value.slice ao n' c').ownBlock := by rcases ao with _ | ⟨b, o, _ | s⟩ <;> rfl
theorem own_cutm {ao : Option Addr} {k n c n' c' : Nat} : (Value.slice (ao.map fun a => a.add k) n c).ownBlock = (Value.slice ao n' c').ownBlock := by
 cases ao with
 | none => rfl
 | some a => simp only [Option.map_some, Value.ownBlock, Addr.add]; split <;> rfl
variable {M : Nat}

theorem bv_notu8 {w : World} {v : Value} {l : List Nat} (h : Bv w v l) : ∀ x, v ≠ .int .u8 x := by
 obtain ⟨⟨ao, cap, rfl, _⟩, _⟩ := h
 intro x e; cases e
theorem RD.set1 {w : World} {R : Nat} {v : Value} {l : List Nat} {f : Nat} (h : RD M w R v l f) (e : Nat) : RD M (w.setCell ⟨R, 1, none⟩ (.int .i64 e)) R v l e :=
 ⟨by rw [World.cell?_setCell_other _ _ _ _ (by rintro ⟨⟩)]; exact h.c0, by simp [go_sem, h.c1], fun j => by simpa [go_sem] using h.z j, h.bv.set h.c1 (by intro x e; cases e) _, h.m⟩
theorem RD.set0 {w : World} {R : Nat} {v v' : Value} {l l' : List Nat} {f : Nat} (h : RD M w R v l f) (hb : Bv w v' l') (hm : v'.ownBlock = v.ownBlock) : RD M (w.setCell ⟨R, 0, none⟩ v') R v' l' f :=
 ⟨by simp [go_sem, h.c0], by rw [World.cell?_setCell_other _ _ _ _ (by rintro ⟨⟩)]; exact h.c1, fun j => by simpa [go_sem] using h.z j, hb.set h.c0 (bv_notu8 h.bv) _, fun x hx => h.m x (by rw [← hm]; exact hx)⟩
theorem RD.below {w w' : World} {R : Nat} {v : Value} {l : List Nat} {f : Nat} (h : RD M w R v l f) (hb : Below w.heap.size w w') : RD M w' R v l f := by
 have hR : R < w.heap.size := cell_lt h.c0
 exact ⟨by rw [hb.cell (p := ⟨R, 0, none⟩) hR]; exact h.c0, by rw [hb.cell (p := ⟨R, 1, none⟩) hR]; exact h.c1, fun j => by rw [hb.frozen (p := ⟨R, j, none⟩) hR]; exact h.z j, h.bv.below hb, h.m⟩
theorem RD.ch {D : Nat → Prop} {w w' : World} {R : Nat} {v : Value} {l : List Nat} {f : Nat} (h : RD M w R v l f) (hc : Ch D w w') (hd : ¬ D R) (hM : ∀ x, D x → M ≤ x) : RD M w' R v l f := by
 have hz : ∀ j, w'.frozen? ⟨R, j, none⟩ = w.frozen? ⟨R, j, none⟩ := fun j => by
  have := hc.block R (cell_lt h.c0) hd
  simp only [World.frozen?, this]
 refine ⟨hc.cell h.c0 hd, hc.cell h.c1 hd, fun j => by rw [hz j]; exact h.z j, ?_, h.m⟩
 obtain ⟨⟨ao, cap, e, h1, h2, h3, h4⟩, h5⟩ := h.bv
 refine ⟨⟨ao, cap, e, h1, h2, h3, fun i hi => ?_⟩, h5⟩
 obtain ⟨b, off, e1, e2⟩ := h4 i hi
 have hb : b < M := h.m b (by rw [e, e1]; rfl)
 exact ⟨b, off, e1, hc.cell e2 (fun hx => by have := hM b hx; omega)⟩
def refu (g : Bool) (e f : Nat) : Nat := if g = true ∧ f = 0 then e else f
theorem refu_no (e f : Nat) : refu false e f = f := by simp [refu]
theorem refu_yes (e : Nat) : refu true e 0 = e := by simp [refu]
theorem refu_old {g : Bool} {e f : Nat} (h : f ≠ 0) : refu g e f = f := by simp [refu, h]
theorem refuse_walk {w : World} {R : Nat} {v : Value} {l : List Nat} {f : Nat} (h : RD M w R v l f) (g : Bool) (e : Nat) :
  Calls Tryz.prog 201 #[.pointer (some ⟨R, 0, none⟩), .bool g, .int .i64 e] w fun en w' => en = .returned (.tuple #[]) ∧ RD M w' R v l (refu g e f) ∧ Ch (fun x => x = R) w w' := by
 have HR : Hid (RD M w R v l f) := h
 have c1 := h.c1
 have z1 := h.z 1
 clear h
 cases g
 ·rw [refu_no]
  go_in
  go_wp2_with fail
  refine bodyPost_end (results_none rfl _ _ _) rfl ?_
  exact ⟨rfl, HR.out, Ch.refl _ _⟩
 ·by_cases hf : f = 0
  ·subst hf
   rw [refu_yes]
   go_in
   go_wp2_with fail
   refine bodyPost_end (results_none rfl _ _ _) rfl ?_
   exact ⟨rfl, HR.out.set1 e, ch_set _ _ _ _⟩
  ·rw [refu_old hf]
   have hfi : ((f : Int) == 0) = false := by rw [beq_eq_false_iff_ne]; omega
   go_in
   go_wp2_with fail
   refine bodyPost_end (results_none rfl _ _ _) rfl ?_
   exact ⟨rfl, HR.out, Ch.refl _ _⟩
theorem cut_any {w : World} {v : Value} {l : List Nat} {ao : Option Addr} {cap : Nat} (h : Bv w v l) (hv : v = .slice ao l.length cap) (n : Nat) (hn : n ≤ l.length) (hc : ¬ cap = n) : Bv w (.slice (ao.map fun a => a.add n) (l.length - n) (cap - n)) (l.drop n) := by
 subst hv
 have := h.cut n l.length hn (Nat.le_refl _) False (by simp [hc])
 rw [List.take_of_length_le (by rw [List.length_drop]; omega)] at this
 simpa using this
theorem cut_end {w : World} {ao : Option Addr} {l : List Nat} {p : Nat} (hp : l.length ≤ p) : Bv w (.slice ao 0 0) (l.drop p) := by
 rw [List.drop_eq_nil_of_le hp]
 exact ⟨⟨ao, 0, rfl, Nat.le_refl _, by simp [maxLen], fun _ => rfl, fun i hi => by simp [ib] at hi⟩, by simp⟩
theorem bv_le {w : World} {ao : Option Addr} {n cap : Nat} {l : List Nat} (h : Bv w (.slice ao n cap) l) : n = l.length ∧ l.length ≤ cap ∧ cap ≤ maxLen := by
 obtain ⟨⟨ao', cap', e, h1, h2, _⟩, _⟩ := h
 rw [ib_len] at e h1
 cases e
 exact ⟨rfl, h1, h2⟩
theorem t3_litB {r : Nat × Nat × Nat} {a b c : Nat} (h : r = (a, b, c)) : t3 r = .tuple #[.int .u64 a, .int .i64 b, .int .i64 c] := by subst h; rfl
theorem t2_litB {r : Nat × Nat} {a b : Nat} (h : r = (a, b)) : t2 r = .tuple #[.int .u64 a, .int .i64 b] := by subst h; rfl
def numF (l : List Nat) (f : Nat) : Nat := refu (decide ((Wm.take l).2.2 ≠ 0)) (Wm.take l).2.2 f
def numL (l : List Nat) : List Nat := l.drop (Wm.take l).2.1
theorem number_walk {w : World} {R : Nat} {v : Value} {l : List Nat} {f : Nat} (h : RD M w R v l f) :
  Calls Tryz.prog 200 #[.pointer (some ⟨R, 0, none⟩)] w fun e w' => e = .returned (.int .u64 ((Wm.take l).1 : Nat)) ∧ (∃ v', RD M w' R v' (numL l) (numF l f)) ∧ Ch (fun x => x = R) w w' := by
 have HR : Hid (RD M w R v l f) := h
 obtain ⟨ao, n, cap, hv⟩ : ∃ a n q, v = .slice a n q := by
  obtain ⟨⟨ao, cap, e, _⟩, _⟩ := h.bv
  exact ⟨ao, _, cap, e⟩
 subst hv
 obtain ⟨hn, hle, hmx⟩ := bv_le h.bv
 subst hn
 have c0 := h.c0
 have HLE : Hid (l.length ≤ cap) := hle
 unfold maxLen at hmx
 have hci : (cap : Int) ≤ 9223372036854775807 := by omega
 have hli : (l.length : Int) ≤ (cap : Int) := by omega
 have hT := Wm.take_form l h.bv.2
 clear h hle hmx
 rcases hT with ⟨e, ht, h34⟩ | ⟨x, n, ht, hx, hn1, hn2, hn3⟩
 ·have e1 : (Wm.take l).1 = 0 := by rw [ht]
  have e2 : numL l = l.drop 0 := by unfold numL; rw [ht]
  have e3 : numF l f = refu true e f := by
   unfold numF; rw [ht]; have : e ≠ 0 := by omega
   simp [this]
  have HT : Hid (Wm.take l = (0, 0, e)) := ht
  rw [e1, e2, e3]
  have hne : ((e : Int) != 0) = true := by rw [bne_iff_ne]; omega
  clear e1 e2 e3 ht h34
  go_in
  go_wp2_with fail
  refine (take_walk HR.out.bv).mono ?_
  rw [t3_litB HT.out]
  rintro e9 w9 ⟨rfl, rfl⟩
  go_wp2_with fail
  refine (refuse_walk HR.out true e).mono ?_
  rintro e9 w2 ⟨rfl, hR2, hC2⟩
  have HR2 : Hid (RD M w2 R (.slice ao l.length cap) l (refu true e f)) := hR2
  have HC2 : Hid (Ch (fun x => x = R) w9 w2) := hC2
  have d0 := hR2.c0
  have z0 := hR2.z 0
  clear hR2 hC2 c0
  by_cases hc0 : cap = 0
  ·have hl0 : l.length = 0 := by have := HLE.out; omega
   have HL0 : Hid (l.length ≤ 0) := by show _ ≤ _; omega
   subst hc0
   rw [hl0] at d0 ⊢
   go_wp2_with fail
   go_ret
   exact ⟨rfl, ⟨_, HR2.out.set0 (cut_end HL0.out) (own_cut0)⟩, HC2.out.self (ch_set _ _ _ _)⟩
  ·go_wp2_with fail
   go_ret
   have hz : Bv w2 (.slice (ao.map fun a => a.add 0) l.length cap) (l.drop 0) := by simpa using cut_any HR2.out.bv rfl 0 (Nat.zero_le _) hc0
   first
    | exact ⟨rfl, ⟨_, HR2.out.set0 hz own_cutm⟩, HC2.out.self (ch_set _ _ _ _)⟩
    | exact ⟨rfl, ⟨_, HR2.out.set0 (v' := .slice ao l.length cap) (by simpa using HR2.out.bv) own_cut0⟩, HC2.out.self (ch_set _ _ _ _)⟩
 ·have e1 : (Wm.take l).1 = x := by rw [ht]
  have e2 : numL l = l.drop n := by unfold numL; rw [ht]
  have e3 : numF l f = refu false 0 f := by unfold numF; rw [ht]; rfl
  have HT : Hid (Wm.take l = (x, n, 0)) := ht
  rw [e1, e2, e3]
  have HN : Hid (n ≤ l.length) := hn2
  have hni : (n : Int) ≤ (l.length : Int) := by omega
  have hnc : (n : Int) ≤ (cap : Int) := by omega
  clear e1 e2 e3 ht hn3 hn1 hn2
  go_in
  go_wp2_with fail
  refine (take_walk HR.out.bv).mono ?_
  rw [t3_litB HT.out]
  rintro e9 w9 ⟨rfl, rfl⟩
  go_wp2_with fail
  refine (refuse_walk HR.out false 0).mono ?_
  rintro e9 w2 ⟨rfl, hR2, hC2⟩
  have HR2 : Hid (RD M w2 R (.slice ao l.length cap) l (refu false 0 f)) := hR2
  have HC2 : Hid (Ch (fun x => x = R) w9 w2) := hC2
  have d0 := hR2.c0
  have z0 := hR2.z 0
  clear hR2 hC2 c0
  by_cases hcp : cap = n
  ·have hlp : l.length = n := by have := HLE.out; have := HN.out; omega
   have HLP : Hid (l.length ≤ n) := by show _ ≤ _; omega
   subst hcp
   go_wp2_with fail
   go_ret
   exact ⟨rfl, ⟨_, HR2.out.set0 (cut_end HLP.out) own_cut0⟩, HC2.out.self (ch_set _ _ _ _)⟩
  ·go_wp2_with fail
   go_ret
   exact ⟨rfl, ⟨_, HR2.out.set0 (cut_any HR2.out.bv rfl n HN.out hcp) own_cutm⟩, HC2.out.self (ch_set _ _ _ _)⟩
end
end Go.Proofs.YtofkhgokfdpdiaaGreat
