/- The reference's TakeNums. -/
import Derived.Test.YtcmklbibehnloaaGreatB03
set_option maxRecDepth 100000
set_option maxHeartbeats 16000000
namespace Go.Proofs.YtcmklbibehnloaaGreat
open Go.RowKit
def numsB (l : List Int) : List Nat := Wm.enc l.length ++ Wm.encAll (l.map Int.toNat)
def numsA (l : List Int) : List Nat × Nat := if ∀ x ∈ l, 0 ≤ x then (numsB l, 0) else ([], 1)
theorem encAll_append (l r : List Nat) : Wm.encAll (l ++ r) = Wm.encAll l ++ Wm.encAll r := by
 induction l with
 | nil => rfl
 | cons x l ih => simp [Wm.encAll, ih]
theorem encAll_len (l : List Nat) : (Wm.encAll l).length ≤ 10 * l.length := by
 induction l with
 | nil => simp [Wm.encAll]
 | cons x l ih =>
  have := (Wm.enc_len x).2;simp only [Wm.encAll, List.length_append, List.length_cons]; omega
def npre (l : List Int) (k : Nat) : List Nat := Wm.enc l.length ++ Wm.encAll ((l.take k).map Int.toNat)
theorem npre_zero (l : List Int) : npre l 0 = Wm.enc l.length := by simp [npre, Wm.encAll]
theorem npre_all (l : List Int) : npre l l.length = numsB l := by simp [npre, numsB]
theorem npre_len (l : List Int) (k : Nat) (hk : k ≤ l.length) : (npre l k).length ≤ 10 + 10 * k := by
 have h1 := (Wm.enc_len l.length).2;have h2 := encAll_len ((l.take k).map Int.toNat);rw [List.length_map, List.length_take] at h2;unfold npre; rw [List.length_append]; omega
theorem npre_succ {l : List Int} {k : Nat} {x : Int} (hk : k < l.length) (hx : l.getD k 0 = x) : npre l (k + 1) = npre l k ++ Wm.enc x.toNat := by
 have e : l.getD k 0 = l[k] := by simp [List.getD, List.getElem?_eq_getElem hk]
 unfold npre;rw [List.take_succ_eq_append_getElem hk, List.map_append, encAll_append, ← e, hx, List.append_assoc];simp [Wm.encAll]
def NumsRel (l : List Int) (H : Nat) (w : World) (v iv : Value) (wr : World) : Prop :=
 ∃ k : Nat, k ≤ l.length ∧ iv = .int .i64 k ∧ (∀ i, i < k → 0 ≤ l.getD i 0) ∧ wr.ownsRow H 5 1 v (npre l k).length ((ib (npre l k)).map (Value.int .u8)) ∧ Below H w wr
theorem numsrel_step {l : List Int} {H k : Nat} {w wr w1 w2 : World} {v v' : Value} {x : Int} (hk : k < l.length) (hx : l.getD k 0 = x) (h0 : 0 ≤ x) (hpos : ∀ i, i < k → 0 ≤ l.getD i 0) (hbel : Below H w wr) (hH : H ≤ wr.heap.size)
  (hb1 : Below wr.heap.size wr w1) (hown : w1.ownsRow H 5 1 v (npre l k).length ((ib (npre l k)).map (Value.int .u8)))
  (hown' : w2.ownsRow H 5 1 v' ((npre l k).length + (ib (Wm.enc x.toNat)).length) ((ib (npre l k)).map (Value.int .u8) ++ (ib (Wm.enc x.toNat)).map (Value.int .u8))) (hg : w1.grownBy w2 v.ownBlock) :
  NumsRel l H w v' (.int .i64 ((k : Int) + 1)) w2 := by
 refine ⟨k + 1, hk, rfl, ?_, ?_, hbel.trans ((hb1.mono hH).trans (grown_below hown hg (Nat.le_trans hH hb1.size)))⟩
 ·intro i hi;by_cases h : i < k
  ·exact hpos i h
  ·obtain rfl : i = k := by omega
   rw [hx]; exact h0
 ·rw [npre_succ hk hx, List.length_append, ib_append, List.map_append];rw [ib_len] at hown';exact hown'
theorem numsA_ok {l : List Int} (h : ∀ i, i < l.length → 0 ≤ l.getD i 0) : numsA l = (numsB l, 0) := by
 unfold numsA;rw [if_pos];intro x hx;obtain ⟨i, hi, rfl⟩ := List.getElem_of_mem hx;have := h i hi;simpa [List.getD, List.getElem?_eq_getElem hi] using this
theorem numsA_bad {l : List Int} {k : Nat} {x : Int} (hk : k < l.length) (hx : l.getD k 0 = x) (h : x < 0) : numsA l = ([], 1) := by
 unfold numsA;rw [if_neg];intro hh;have e : l.getD k 0 = l[k] := by simp [List.getD, List.getElem?_eq_getElem hk]
 have := hh l[k] (List.getElem_mem hk);rw [← e, hx] at this;omega
def NumsLeft (l : List Int) (w : World) (e : Ending) (w' : World) : Prop :=
 ∃ v', e = .returned (.tuple #[v', .int .i64 ((numsA l).2 : Nat)]) ∧ w'.ownsRow w.heap.size 5 1 v' (numsA l).1.length ((ib (numsA l).1).map (Value.int .u8)) ∧ Below w.heap.size w w'
theorem numsleft_bad {l : List Int} {k : Nat} {x : Int} {w w' : World} (hk : k < l.length) (hx : l.getD k 0 = x) (h : x < 0) (hb : Below w.heap.size w w') :
  NumsLeft l w (.returned (.tuple #[.slice none 0 0, .int .i64 1])) w' := by
 refine ⟨_, by rw [numsA_bad hk hx h]; rfl, ?_, hb⟩;rw [numsA_bad hk hx h];exact World.ownsRow_nil _ _ _ _
theorem numsleft_ok {l : List Int} {v : Value} {w w' : World} (h : ∀ i, i < l.length → 0 ≤ l.getD i 0) (hown : w'.ownsRow w.heap.size 5 1 v (npre l l.length).length ((ib (npre l l.length)).map (Value.int .u8))) (hb : Below w.heap.size w w') :
  NumsLeft l w (.returned (.tuple #[v, .int .i64 0])) w' := by
 refine ⟨v, by rw [numsA_ok h]; rfl, ?_, hb⟩;rw [numsA_ok h, ← npre_all];exact hown
theorem sv_cells {w : World} {b off n cap : Nat} {k : IntKind} {l : List Int} (h : Sv k w (.slice (some ⟨b, off, none⟩) n cap) l) : n = l.length ∧ l.length ≤ cap ∧ cap ≤ maxLen ∧ ∀ i, i < l.length → w.cell? ⟨b, off + i, none⟩ = some (.int k (l.getD i 0)) := by
 obtain ⟨ao, cap', e, h1, h2, h3, h4⟩ := h;simp only [Value.slice.injEq] at e;obtain ⟨e1, e2, rfl⟩ := e;refine ⟨e2, h1, h2, fun i hi => ?_⟩;obtain ⟨b', off', e3, e4⟩ := h4 i hi;rw [← e1] at e3
 cases e3
 exact e4
theorem nums_some (l : List Int) (b off cap : Nat) (w : World) (hsz : 10 + 10 * l.length ≤ 140737488355328) (hin : ∀ x ∈ l, x < 9223372036854775808)
  (hc : ∀ i, i < l.length → w.cell? ⟨b, off + i, none⟩ = some (.int .i64 (l.getD i 0))) :
  Calls Tryz.prog 155 #[.slice (some ⟨b, off, none⟩) l.length cap] w (NumsLeft l w) := by
 have HSZ := hidH hsz;have hle : (l.length : Int) ≤ 140737488355328 := by omega
 have HC : Hid (∀ i, i < l.length → w.cell? ⟨b, off + i, none⟩ = some (.int .i64 (l.getD i 0))) := hc;have HIN := hidH hin;clear hsz hc hin;go_in;go_wp2_with fail;refine (put_walk l.length (by omega) _).mono ?_;rintro e w1 ⟨v1, rfl, hown1, hbel1⟩;have HST : Hid (NumsRel l w.heap.size w v1 (.int .i64 0) w1) := ⟨0, Nat.zero_le _, rfl, by omega, by rw [npre_zero]; exact hown1, hbel1⟩;clear hown1 hbel1;go_wp2_with fail;go_loopw [4, 13] (fun v iv wr => NumsRel l w.heap.size w v iv wr) (fun _ iv _ => l.length - (intOf iv).toNat)
 case atStart => exact HST.out
 case round =>
  obtain ⟨k, hk, rfl, hpos, hown, hbel⟩ := hrel;have HP := hidH hpos;have hH : w.heap.size ≤ wr.heap.size := hbel.size;clear hpos HST;by_cases hlt : k < l.length
  ·have hcell0 := HC.out k hlt;obtain ⟨x, hx⟩ : ∃ x, l.getD k 0 = x := ⟨_, rfl⟩;have HXi : Hid (l.getD k 0 = x) := hx;have hcell : wr.cell? ⟨b, off + k, none⟩ = some (.int .i64 x) := by rw [hbel.cell (p := ⟨b, off + k, none⟩) (cell_lt hcell0), hcell0, hx]
   have HXL : Hid (x < 9223372036854775808) := by
    show x < _;rw [← hx];have e : l.getD k 0 = l[k] := by simp [List.getD, List.getElem?_eq_getElem hlt]
    rw [e]; exact HIN.out _ (List.getElem_mem hlt)
   clear hcell0 hx;by_cases h0 : x < 0
   ·go_wp2_with fail;go_ret2;exact numsleft_bad hlt HXi.out h0 hbel
   ·obtain ⟨y, rfl⟩ : ∃ y : Nat, x = (y : Int) := ⟨x.toNat, by omega⟩;have hyl : (y : Int) ≤ 9223372036854775807 := by have := HXL.out; omega
    go_wp2_with fail;refine (put_walk y (by omega) _).mono ?_;rintro e w2 ⟨v2, rfl, hown2, hbel2⟩;have hown3 := own_below hown hbel2;have hsv : Hid (Sv .u8 w2 v2 (ib (Wm.enc y))) := own_sv hown2
    have HBD : Hid ((npre l k).length + (ib (Wm.enc y)).length ≤ 140737488355328) := by
     have h1 := npre_len l k hk;have h2 := (Wm.enc_len y).2;have := HSZ.out;rw [ib_len];show _ ≤ _;omega
    have hs2 : w.heap.size ≤ w2.heap.size := Nat.le_trans hH hbel2.size;clear hown2;go_wp2_with (at_builtin; refine wpList_append_sv (by rfl) (.tmp 19) (.tmp 22) 78 (by rfl) w.heap.size 5 .u8 1 Tryz.underlying78 info_u8 _ _ _ (by rfl) hown3 _ _ (by rfl) hsv.out (by have := HBD.out; simp only [maxLen]; omega) (by have := HBD.out; omega) hs2 ?_; intro v' w3 hown' hgrow);have R := numsrel_step hlt HXi.out (by omega) HP.out hbel hH hbel2 hown3 (by simpa using hown') hgrow;clear hown' hgrow hown3 hbel2;go_wp2;go_roundw
    case rel => exact R
    case measure => simp [intOf]; omega
  ·obtain rfl : k = l.length := by omega
   have HO := hidH hown;clear hown;go_wp2_with fail;go_ret2;exact numsleft_ok HP.out HO.out hbel
theorem nums_none (ao : Option Addr) (cap : Nat) (w : World) :
  Calls Tryz.prog 155 #[.slice ao 0 cap] w (NumsLeft [] w) := by
 go_in;go_wp2_with fail;refine (put_walk 0 (by omega) _).mono ?_;rintro e w1 ⟨v1, rfl, hown1, hbel1⟩;have HO := hidH hown1;clear hown1;go_wp2_with fail;refine wp_loop_rounds 1 ?_;rw [rounds_succ];go_wp2_with fail;go_ret2;exact numsleft_ok (by simp) HO.out hbel1
theorem nums_walk {w : World} {v : Value} {l : List Int} (h : Sv .i64 w v l) (hsz : 10 + 10 * l.length ≤ 140737488355328) (hin : ∀ x ∈ l, x < 9223372036854775808) :
  Calls Tryz.prog 155 #[v] w (NumsLeft l w) := by
 have h' := h;obtain ⟨ao, cap, rfl, h1, h2, h3, h4⟩ := h;by_cases h0 : l = []
 ·subst h0; exact nums_none ao cap w
 ·obtain ⟨b, off, rfl, _⟩ := h4 0 (List.length_pos_iff.2 h0);exact nums_some l b off cap w hsz hin (sv_cells h').2.2.2
theorem rtake_some (l : List Nat) (b off cap : Nat) (w : World) (hl : l.length ≤ cap) (hcap : cap ≤ maxLen)
  (hc : ∀ i, i < l.length → w.cell? ⟨b, off + i, none⟩ = some (.int .u8 ((l.getD i 0 : Nat) : Int))) (h256 : ∀ c ∈ l, c < 256) :
  Calls Tryz.prog 171 #[.slice (some ⟨b, off, none⟩) l.length cap] w fun e w' => e = .returned (t3 (Wm.take l)) ∧ w' = w := by
 unfold maxLen at hcap;go_in;go_wp2;go_loop [5, 6] (fun xv iv => ∃ i x : Nat, xv = .int .u64 x ∧ iv = .int .i64 i ∧ i ≤ l.length ∧ i ≤ 9 ∧ x < 128 ^ i ∧ Wm.tk (l.drop i) i x = Wm.take l) (fun _ iv => l.length - (intOf iv).toNat)
 case atStart => exact ⟨0, 0, rfl, rfl, by omega, by omega, by simp, rfl⟩
 case round =>
  obtain ⟨i, x, rfl, rfl, hil, hi9, hx, htk⟩ := hrel;have HX : Hid (x < 128 ^ i) := hx;have HT : Hid (Wm.tk (l.drop i) i x = Wm.take l) := htk;clear hx htk;by_cases hlt : i < l.length
  ·have hcell := hc i hlt;obtain ⟨c, hcd⟩ : ∃ c, l.getD i 0 = c := ⟨_, rfl⟩;rw [hcd] at hcell;have HC : Hid (l.getD i 0 = c) := hcd;have hc256 : c < 256 := by rw [← hcd]; exact h256 _ (by simp [List.getD, List.getElem?_eq_getElem hlt])
   have hci : (c : Int) < 256 := by omega
   have HC2 : Hid (c < 256) := hc256;have hli : (l.length : Int) ≤ 9223372036854775807 := by omega
   clear hcd hc hc256 hl hcap h256;by_cases h3 : (i : Int) = 9
   ·have h3b : ((i : Int) == 9) = true := by simp [h3]
    have H3 : Hid ((i : Int) = 9) := h3;have h1 : (0 : Int) < (i : Int) := by omega
    clear h3;by_cases h4 : (1 : Int) < (c : Int)
    ·go_wp2_with fail;go_ret3;exact ⟨t3_mk (tk_bad HT.out hlt HC.out (.inr ⟨by have := H3.out; omega, by omega⟩)) rfl rfl rfl, rfl⟩
    ·by_cases h2 : (c : Int) = 0
     ·have h2b : ((c : Int) == 0) = true := by simp [h2]
      have H2 : Hid ((c : Int) = 0) := h2;have h5 : (c : Int) < 128 := by omega
      clear h2;go_wp2_with fail;go_ret3;exact ⟨t3_mk (tk_bad HT.out hlt HC.out (.inl ⟨by omega, by have := H2.out; omega⟩)) rfl rfl rfl, rfl⟩
     ·have h2b : ((c : Int) == 0) = false := by simpa using h2
      have h5 : (c : Int) < 128 := by omega
      go_wp2_with fail;go_ret3;exact ⟨t3_mk (tk_last HT.out hlt HC.out (by omega) (by omega)) (acc_add HX.out hi9 (by omega)) (by omega) rfl, rfl⟩
   ·have h3b : ((i : Int) == 9) = false := by simpa using h3
    by_cases h5 : (c : Int) < 128
    ·by_cases h2 : (c : Int) = 0
     ·have h2b : ((c : Int) == 0) = true := by simp [h2]
      have H2 : Hid ((c : Int) = 0) := h2;clear h2;by_cases h1 : (0 : Int) < (i : Int)
      ·go_wp2_with fail;go_ret3;exact ⟨t3_mk (tk_bad HT.out hlt HC.out (.inl ⟨by omega, by have := H2.out; omega⟩)) rfl rfl rfl, rfl⟩
      ·go_wp2_with fail;go_ret3;exact ⟨t3_mk (tk_last HT.out hlt HC.out (by omega) (by omega)) (acc_add HX.out hi9 (by omega)) (by omega) rfl, rfl⟩
     ·have h2b : ((c : Int) == 0) = false := by simpa using h2
      go_wp2_with fail;go_ret3;exact ⟨t3_mk (tk_last HT.out hlt HC.out (by omega) (by omega)) (acc_add HX.out hi9 (by omega)) (by omega) rfl, rfl⟩
    ·go_wp2_with fail;go_round
     case rel => exact ⟨i + 1, _, by rw [acc_add HX.out hi9 (by omega)], by go_num, by omega, by omega, acc_next HX.out, tk_next HT.out hlt HC.out (by omega) (by omega) HC2.out⟩
     case measure => simp [intOf]; omega
  ·have hlt' : ¬ (i : Int) < (l.length : Int) := by omega
   go_wp2_with fail;go_ret3;exact ⟨t3_mk (tk_end HT.out (by omega)) rfl rfl rfl, rfl⟩
theorem rtake_none (ao : Option Addr) (cap : Nat) (w : World) :
  Calls Tryz.prog 171 #[.slice ao 0 cap] w fun e w' => e = .returned (t3 (Wm.take [])) ∧ w' = w := by
 go_in;go_wp2;refine wp_loop_rounds 1 ?_;rw [rounds_succ];go_wp2;go_ret3;exact ⟨rfl, rfl⟩
theorem rtake_walk {w : World} {v : Value} {l : List Nat} (h : Bv w v l) :
  Calls Tryz.prog 171 #[v] w fun e w' => e = .returned (t3 (Wm.take l)) ∧ w' = w := by
 rcases bv_cases h with ⟨rfl, ao, cap, rfl⟩ | ⟨b, off, cap, rfl, hp, h1, h2, h3⟩
 ·exact rtake_none ao cap w
 ·exact rtake_some l b off cap w h1 h2 h3 h.2
theorem t3_lit {r : Nat × Nat × Nat} {a b c : Nat} (h : r = (a, b, c)) : t3 r = .tuple #[.int .u64 a, .int .i64 b, .int .i64 c] := by subst h; rfl
theorem Bv.le_cap {w : World} {ao : Option Addr} {cap : Nat} {l : List Nat} (h : Bv w (.slice ao l.length cap) l) : l.length ≤ cap := by
 obtain ⟨⟨ao', cap', e, h1, _⟩, _⟩ := h;simp only [Value.slice.injEq] at e;obtain ⟨_, _, rfl⟩ := e;rwa [ib_len] at h1
def tnum (l : List Nat) : Nat × Nat × Nat := match Wm.take l with
 | (x, n, 0) => if 4611686018427387904 < x then (0, 0, 4) else (x, n, 0)
 | (_, _, e) => (0, 0, e)
def t3i (r : Nat × Nat × Nat) : Value := .tuple #[.int .i64 (r.1 : Nat), .int .i64 (r.2.1 : Nat), .int .i64 (r.2.2 : Nat)]
theorem t3i_lit {r : Nat × Nat × Nat} {a b c : Nat} (h : r = (a, b, c)) : t3i r = .tuple #[.int .i64 a, .int .i64 b, .int .i64 c] := by subst h; rfl
theorem tnum_err {l : List Nat} {e : Nat} (h : Wm.take l = (0, 0, e)) (h34 : e = 3 ∨ e = 4) : tnum l = (0, 0, e) := by
 unfold tnum; rw [h]; rcases h34 with rfl | rfl <;> rfl
theorem tnum_big {l : List Nat} {x n : Nat} (h : Wm.take l = (x, n, 0)) (hb : 4611686018427387904 < x) : tnum l = (0, 0, 4) := by
 unfold tnum; rw [h]; simp only; rw [if_pos hb]
theorem tnum_ok {l : List Nat} {x n : Nat} (h : Wm.take l = (x, n, 0)) (hb : ¬ 4611686018427387904 < x) : tnum l = (x, n, 0) := by
 unfold tnum; rw [h]; simp only; rw [if_neg hb]
theorem tnum_form (l : List Nat) (hl : ∀ c ∈ l, c < 256) :
  (∃ e, tnum l = (0, 0, e) ∧ (e = 3 ∨ e = 4) ∧ ∀ k p (b : List Nat) acc, b.drop p = l → Wm.tnums (k + 1) b p acc = ([], 0, e)) ∨
  (∃ x n, tnum l = (x, n, 0) ∧ x ≤ 4611686018427387904 ∧ 1 ≤ n ∧ n ≤ l.length ∧ ∀ k p (b : List Nat) acc, b.drop p = l → Wm.tnums (k + 1) b p acc = Wm.tnums k b (p + n) (acc ++ [x])) := by
 rcases Wm.take_form l hl with ⟨e, he, h34⟩ | ⟨x, n, hx, _, h1, h2, _⟩
 ·refine .inl ⟨e, tnum_err he h34, h34, fun k p b acc hb => ?_⟩;rw [Wm.tnums, hb, he];rcases h34 with rfl | rfl <;> rfl
 ·by_cases hb : 4611686018427387904 < x
  ·refine .inl ⟨4, tnum_big hx hb, .inr rfl, fun k p b acc hd => ?_⟩;rw [Wm.tnums, hd, hx];simp only;rw [if_pos hb]
  ·refine .inr ⟨x, n, tnum_ok hx hb, by omega, h1, h2, fun k p b acc hd => ?_⟩;rw [Wm.tnums, hd, hx];simp only;rw [if_neg hb]
theorem takenum_walk {w : World} {v : Value} {l : List Nat} (h : Bv w v l) :
  Calls Tryz.prog 199 #[v] w fun e w' => e = .returned (t3i (tnum l)) ∧ w' = w := by
 have HV : Hid (Bv w v l) := h;obtain ⟨a0, c0, rfl⟩ := bv_form h;clear h;go_in;go_wp2_with fail;refine (take_walk HV.out).mono ?_;rintro e w1 ⟨he, rfl⟩;rcases Wm.take_form l HV.out.2 with ⟨er, her, h34⟩ | ⟨x, n, htx, hx, hn1, hn2, henc⟩
 ·rw [t3_lit her] at he;subst he;have HER : Hid (Wm.take l = (0, 0, er)) := her;clear her;rcases h34 with rfl | rfl
  ·go_wp2_with fail;go_ret3;exact ⟨by rw [t3i_lit (tnum_err HER.out (.inl rfl))]; rfl, rfl⟩
  ·go_wp2_with fail;go_ret3;exact ⟨by rw [t3i_lit (tnum_err HER.out (.inr rfl))]; rfl, rfl⟩
 ·rw [t3_lit htx] at he;subst he;have HT : Hid (Wm.take l = (x, n, 0)) := htx;clear htx henc hx hn1 hn2;by_cases hb : (4611686018427387904 : Int) < (x : Int)
  ·go_wp2_with fail;go_ret3;exact ⟨by rw [t3i_lit (tnum_big HT.out (by omega))]; rfl, rfl⟩
  ·have hbb : decide ((4611686018427387904 : Int) < (x : Int)) = false := decide_eq_false hb;have HB : Hid (¬ 4611686018427387904 < x) := by show ¬ _ < _; omega
   have hwr : IntKind.i64.wrap (x : Int) = (x : Int) := by rw [IntKind.wrap_i64]; omega
   clear hb;go_wp2_with fail;go_ret3;exact ⟨by rw [t3i_lit (tnum_ok HT.out HB.out)]; rfl, rfl⟩
theorem sv_form {k : IntKind} {w : World} {v : Value} {l : List Int} (h : Sv k w v l) : ∃ ao cap, v = .slice ao l.length cap := by
 obtain ⟨ao, cap, rfl, _⟩ := h;exact ⟨ao, cap, rfl⟩
def NumsGot (r : List Nat × Nat × Nat) (w : World) (e : Ending) (w' : World) : Prop :=
 ∃ ao cap, e = .returned (.tuple #[.slice ao (ib r.1).length cap, .int .i64 (r.2.1 : Nat), .int .i64 (r.2.2 : Nat)]) ∧ Sv .i64 w' (.slice ao (ib r.1).length cap) (ib r.1) ∧ Below w.heap.size w w' ∧ ∀ x, (Value.slice ao (ib r.1).length cap).ownBlock = some x → w.heap.size ≤ x
theorem numsgot_none {r : List Nat × Nat × Nat} {w w' : World} {e : Nat} {c : Int} (h : r = ([], 0, e)) (hc : c = e) (hB : Below w.heap.size w w') : NumsGot r w (.returned (.tuple #[.slice none 0 0, .int .i64 0, .int .i64 c])) w' := by
 subst h hc;exact ⟨none, 0, rfl, Sv.nil _ w', hB, fun x hx => by cases hx⟩
theorem numsgot_some {r : List Nat × Nat × Nat} {w w' : World} {n p : Nat} {acc : List Nat} {v : Value} {c : Int} (h : r = (acc, p, 0)) (hown : w'.ownsRow w.heap.size 3 1 v n ((ib acc).map (Value.int .i64))) (hB : Below w.heap.size w w') (hc : c = p) :
  NumsGot r w (.returned (.tuple #[v, .int .i64 c, .int .i64 0])) w' := by
 subst h hc;obtain ⟨ao, cap, rfl⟩ := sv_form (own_sv hown);exact ⟨ao, cap, rfl, own_sv hown, hB, fun x hx => (hown.lt x hx).1⟩
def TNRel (l : List Nat) (c : Nat) (r : List Nat × Nat × Nat) (H : Nat) (w : World) (pv v kv : Value) (kk : IntKind) (wr : World) : Prop :=
 ∃ (k p : Nat) (acc : List Nat), kv = .int kk k ∧ k ≤ c ∧ pv = .int .i64 p ∧ p ≤ l.length ∧ k ≤ p ∧ acc.length = k ∧ Wm.tnums (c - k) l p acc = r ∧
  wr.ownsRow H 3 1 v k ((ib acc).map (Value.int .i64)) ∧ Below H w wr
theorem tnrel_start {l : List Nat} {c p : Nat} {r : List Nat × Nat × Nat} {w : World} (kk : IntKind) (hp : p ≤ l.length) (h : Wm.tnums c l p [] = r) :
  TNRel l c r w.heap.size w (.int .i64 p) (.slice (some ⟨w.heap.size, 0, none⟩) 0 0) (.int kk 0) kk (w.alloc (.cells #[] 3)) :=
 ⟨0, p, [], rfl, Nat.zero_le _, rfl, hp, Nat.zero_le _, rfl, h, World.ownsRow_made w #[] 0 (Nat.le_refl _) (by simp [maxLen]) rfl, below_alloc w _⟩
theorem tnrel_step {l : List Nat} {c k p x n H : Nat} {r : List Nat × Nat × Nat} {acc : List Nat} {w wr w1 : World} {v v' : Value} (kk : IntKind) (hk : k < c) (hpn : p + n ≤ l.length) (hkp : k ≤ p) (hn : 1 ≤ n) (hacc : acc.length = k)
  (ht : Wm.tnums (c - k) l p acc = r) (hstep : ∀ j q (b : List Nat) a, b.drop q = l.drop p → Wm.tnums (j + 1) b q a = Wm.tnums j b (q + n) (a ++ [x])) (hbel : Below H w wr) (hH : H ≤ wr.heap.size) (o : Obj)
  (hown : wr.ownsRow H 3 1 v k ((ib acc).map (Value.int .i64))) (hown' : w1.ownsRow H 3 1 v' (k + 1) ((ib acc).map (Value.int .i64) ++ [(x : Int)].map (Value.int .i64))) (hg : (wr.alloc o).grownBy w1 v.ownBlock) :
  TNRel l c r H w (.int .i64 ((p : Int) + (n : Int))) v' (.int kk ((k : Int) + 1)) kk w1 := by
 refine ⟨k + 1, p + n, acc ++ [x], rfl, hk, by congr 1, hpn, by omega, by simp [hacc], ?_, ?_, hbel.trans (((below_alloc wr o).mono hH).trans (grown_below (hown.alloc o) hg (by simp; omega)))⟩
 ·rw [← hstep (c - (k + 1)) p l acc rfl, ← ht];congr 1; omega
 ·rw [ib_append, List.map_append];exact hown'
theorem Bv.cutFrom {w : World} {ao : Option Addr} {cap : Nat} {l : List Nat} (h : Bv w (.slice ao l.length cap) l) (p : Nat) (hp : p ≤ l.length) (hne : ¬ cap = p) :
  Bv w (.slice (ao.map fun a => a.add p) (l.length - p) (cap - p)) (l.drop p) := by
 have := h.cut p l.length hp (Nat.le_refl _) False (by simp [hne]);have e : (l.drop p).take (l.length - p) = l.drop p := List.take_of_length_le (by rw [List.length_drop]; omega);rw [e] at this;simpa using this
theorem Bv.cutEnd {w : World} {ao : Option Addr} {l : List Nat} {p : Nat} (hp : l.length ≤ p) : Bv w (.slice ao 0 0) (l.drop p) := by
 rw [List.drop_eq_nil_of_le hp];exact ⟨⟨ao, 0, rfl, Nat.le_refl _, by simp [maxLen], fun _ => rfl, fun i hi => by simp [ib] at hi⟩, by simp⟩
theorem takeNums_err {l : List Nat} {e : Nat} (most : Int) (h : Wm.take l = (0, 0, e)) (h34 : e = 3 ∨ e = 4) : Wm.takeNums l most = ([], 0, e) := by
 unfold Wm.takeNums; rw [h]; rcases h34 with rfl | rfl <;> rfl
theorem takeNums_long {l : List Nat} {c p : Nat} {most : Int} (h : Wm.take l = (c, p, 0)) (hm : most < (c : Int)) : Wm.takeNums l most = ([], 0, 6) := by
 unfold Wm.takeNums; rw [h]; simp only; rw [if_pos hm]
theorem takeNums_go {l : List Nat} {c p : Nat} {most : Int} (h : Wm.take l = (c, p, 0)) (hm : ¬ most < (c : Int)) : Wm.takeNums l most = Wm.tnums c l p [] := by
 unfold Wm.takeNums; rw [h]; simp only; rw [if_neg hm]
theorem takenums_walk {w : World} {v : Value} {l : List Nat} (most : Int) (h : Bv w v l) (hsz : l.length * 8 ≤ 140737488355328) (hm : most < 9223372036854775808) :
  Calls Tryz.prog 163 #[v, .int .i64 most] w (NumsGot (Wm.takeNums l most) w) := by
 have HV : Hid (Bv w v l) := h;have HSZ := hidH hsz;have HM := hidH hm;have hle : (l.length : Int) ≤ 140737488355328 := by omega
 obtain ⟨r, hr⟩ : ∃ r, r = Wm.takeNums l most := ⟨_, rfl⟩;have HR : Hid (r = Wm.takeNums l most) := hr;rw [← hr];obtain ⟨a0, c0, rfl⟩ := bv_form h;have hc0 : (l.length : Int) ≤ (c0 : Int) := by have := h.le_cap; omega
 clear h hsz hm hr;go_in;go_wp2_with fail;refine (take_walk HV.out).mono ?_;rintro e w1 ⟨he, rfl⟩;rcases Wm.take_form l HV.out.2 with ⟨er, her, h34⟩ | ⟨c, p0, htx, hx, hn1, hn2, henc⟩
 ·rw [t3_lit her] at he;subst he;have HER : Hid (Wm.take l = (0, 0, er)) := her;clear her;rcases h34 with rfl | rfl
  ·go_wp2_with fail;go_ret3;exact numsgot_none (by rw [HR.out, takeNums_err most HER.out (.inl rfl)]) rfl (Below.refl _ _)
  ·go_wp2_with fail;go_ret3;exact numsgot_none (by rw [HR.out, takeNums_err most HER.out (.inr rfl)]) rfl (Below.refl _ _)
 ·rw [t3_lit htx] at he;subst he;have HT : Hid (Wm.take l = (c, p0, 0)) := htx;have HP0 : Hid (p0 ≤ l.length) := hn2;clear htx henc hx hn1 hn2;by_cases hm0 : most < 0
  ·go_wp2_with fail;go_ret3;exact numsgot_none (by rw [HR.out, takeNums_long HT.out (by omega)]) rfl (Below.refl _ _)
  ·have hmw : IntKind.u64.wrap most = most := wrap_u64_id (by omega) (by have := HM.out; omega);by_cases hml : most < (c : Int)
   ·go_wp2_with fail;go_ret3;exact numsgot_none (by rw [HR.out, takeNums_long HT.out (by omega)]) rfl (Below.refl _ _)
   ·have hcw : IntKind.i64.wrap (c : Int) = (c : Int) := by have := HM.out; rw [IntKind.wrap_i64]; omega
    have HCL : Hid ((c : Int) < 9223372036854775808) := by have := HM.out; show _ < _; omega
    have HST : Hid (TNRel l c r w1.heap.size w1 (.int .i64 p0) (.slice (some ⟨w1.heap.size, 0, none⟩) 0 0) (.int .i64 0) .i64 (w1.alloc (.cells #[] 3))) :=
     tnrel_start .i64 HP0.out (by rw [HR.out, takeNums_go HT.out (by omega)])
    have hmlb : decide (most < (c : Int)) = false := decide_eq_false hml;have hm0b : decide (most < 0) = false := decide_eq_false hm0;clear hml hm0;go_wp2_with fail;go_loopw [8, 10, 34] (fun pv v kv wr => TNRel l c r w1.heap.size w1 pv v kv .i64 wr) (fun _ _ kv _ => c - (intOf kv).toNat)
    case atStart => exact HST.out
    case round =>
     obtain ⟨k, p, acc, rfl, hk, rfl, hp, hkp, hacc, htn, hown, hbel⟩ := hrel;have HTN : Hid (Wm.tnums (c - k) l p acc = r) := htn;have HA : Hid (acc.length = k) := hacc;have hH : w1.heap.size ≤ wr.heap.size := hbel.size;have hpl : (p : Int) ≤ (l.length : Int) := by omega
     have HVr := hidH (HV.out.below hbel);clear htn hacc HST;by_cases hlt : (k : Int) < (c : Int)
     ·have hkl : (k : Int) + 1 ≤ 9223372036854775807 := by have := HCL.out; omega
      have HPN : Hid (p ≤ l.length) := hp;have HKP : Hid (k ≤ p) := hkp;have HKC : Hid (k < c) := by show k < c; omega
      rcases tnum_form (l.drop p) (fun d hd => HV.out.2 d (List.mem_of_mem_drop hd)) with ⟨er, her, h34, hst⟩ | ⟨x, n, htx, hx62, hn1, hn2, hst⟩
      ·have HE : Hid (r = ([], 0, er)) := by
        show r = _;rw [← HTN.out, ← hst (c - k - 1) p l acc rfl]; congr 1; have := HKC.out; omega
       have HER : Hid (tnum (l.drop p) = (0, 0, er)) := her;clear hst her hp hkp hk;by_cases hcp : c0 = p
       ·have hlp : l.length = p := by omega
        have HLP : Hid (l.length ≤ p) := by show _ ≤ _; omega
        subst hcp;go_wp2_with fail;refine (takenum_walk (Bv.cutEnd (w := wr) (ao := a0) HLP.out)).mono ?_;rintro e w3 ⟨he, rfl⟩;rw [t3i_lit HER.out] at he;subst he;rcases h34 with rfl | rfl
        ·go_wp2_with fail;go_ret3;exact numsgot_none HE.out rfl hbel
        ·go_wp2_with fail;go_ret3;exact numsgot_none HE.out rfl hbel
       ·go_wp2_with fail;refine (takenum_walk (HVr.out.cutFrom p HPN.out hcp)).mono ?_;rintro e w3 ⟨he, rfl⟩;rw [t3i_lit HER.out] at he;subst he;rcases h34 with rfl | rfl
        ·go_wp2_with fail;go_ret3;exact numsgot_none HE.out rfl hbel
        ·go_wp2_with fail;go_ret3;exact numsgot_none HE.out rfl hbel
      ·rw [List.length_drop] at hn2;have HX : Hid (tnum (l.drop p) = (x, n, 0)) := htx;have HS : Hid (∀ j q (b : List Nat) a, b.drop q = l.drop p → Wm.tnums (j + 1) b q a = Wm.tnums j b (q + n) (a ++ [x])) := hst;have HN1 : Hid (1 ≤ n) := hn1;have HN2 : Hid (p + n ≤ l.length) := by show _ ≤ _; omega
       have hpn : (p : Int) + (n : Int) ≤ 140737488355328 := by omega
       have hcp : ¬ c0 = p := by omega
       clear hst htx hn1 hn2 hx62 hp hkp hk;go_wp2_with fail;refine (takenum_walk (HVr.out.cutFrom p HPN.out hcp)).mono ?_;rintro e w3 ⟨he, rfl⟩;rw [t3i_lit HX.out] at he;subst he;have HBD : Hid ((k + 1) * 8 ≤ 140737488355328) := by show _ ≤ _; have := HKP.out; have := HN1.out; have := HN2.out; have := HSZ.out; omega
       go_wp2_with (at_builtin; refine wpList_append_sv (by rfl) (.tmp 47) (.tmp 49) 129 (by rfl) w1.heap.size 3 .i64 8 Tryz.underlying129 info_i64 _ _ _ (by rfl) (hown.alloc _) _ [_] (by rfl) (sv_one .i64 _ _ _) (by have := HBD.out; simp [maxLen]; omega) (by have := HBD.out; simp; omega) (by simp; omega) ?_; intro v' w4 hown' hgrow);have R := tnrel_step .i64 HKC.out HN2.out HKP.out HN1.out HA.out HTN.out HS.out hbel hH _ hown hown' hgrow;clear hown' hgrow;go_wp2;go_roundw
       case rel => exact R
       case measure => simp [intOf]; omega
     ·obtain rfl : k = c := by omega
      have HO := hidH hown;clear hown;go_wp2_with fail;go_ret3;exact numsgot_some (by rw [← HTN.out, Nat.sub_self, Wm.tnums]) HO.out hbel rfl
theorem tn_err {b : List Nat} {p e : Nat} (k : Nat) (acc : List Nat) (h : Wm.take (b.drop p) = (0, 0, e)) (h34 : e = 3 ∨ e = 4) : Wm.tnums (k + 1) b p acc = ([], 0, e) := by
 rw [Wm.tnums, h]; rcases h34 with rfl | rfl <;> rfl
theorem tn_big {b : List Nat} {p x n : Nat} (k : Nat) (acc : List Nat) (h : Wm.take (b.drop p) = (x, n, 0)) (hb : 4611686018427387904 < x) : Wm.tnums (k + 1) b p acc = ([], 0, 4) := by
 rw [Wm.tnums, h]; simp only; rw [if_pos hb]
theorem tn_ok {b : List Nat} {p x n : Nat} (k : Nat) (acc : List Nat) (h : Wm.take (b.drop p) = (x, n, 0)) (hb : ¬ 4611686018427387904 < x) : Wm.tnums (k + 1) b p acc = Wm.tnums k b (p + n) (acc ++ [x]) := by
 rw [Wm.tnums, h]; simp only; rw [if_neg hb]
theorem rtakenums_walk {w : World} {v : Value} {l : List Nat} (most : Int) (h : Bv w v l) (hsz : l.length * 8 ≤ 140737488355328) (hm : most < 9223372036854775808) :
  Calls Tryz.prog 172 #[v, .int .i64 most] w (NumsGot (Wm.takeNums l most) w) := by
 have HV : Hid (Bv w v l) := h;have HSZ := hidH hsz;have HM := hidH hm;have hle : (l.length : Int) ≤ 140737488355328 := by omega
 obtain ⟨r, hr⟩ : ∃ r, r = Wm.takeNums l most := ⟨_, rfl⟩;have HR : Hid (r = Wm.takeNums l most) := hr;rw [← hr];obtain ⟨a0, c0, rfl⟩ := bv_form h;have hc0 : (l.length : Int) ≤ (c0 : Int) := by have := h.le_cap; omega
 clear h hsz hm hr;go_in;go_wp2_with fail;refine (rtake_walk HV.out).mono ?_;rintro e w1 ⟨he, rfl⟩;rcases Wm.take_form l HV.out.2 with ⟨er, her, h34⟩ | ⟨c, p0, htx, hx, hn1, hn2, henc⟩
 ·rw [t3_lit her] at he;subst he;have HER : Hid (Wm.take l = (0, 0, er)) := her;clear her;rcases h34 with rfl | rfl
  ·go_wp2_with fail;go_ret3;exact numsgot_none (by rw [HR.out, takeNums_err most HER.out (.inl rfl)]) rfl (Below.refl _ _)
  ·go_wp2_with fail;go_ret3;exact numsgot_none (by rw [HR.out, takeNums_err most HER.out (.inr rfl)]) rfl (Below.refl _ _)
 ·rw [t3_lit htx] at he;subst he;have HT : Hid (Wm.take l = (c, p0, 0)) := htx;have HP0 : Hid (p0 ≤ l.length) := hn2;clear htx henc hx hn1 hn2;by_cases hm0 : most < 0
  ·go_wp2_with fail;go_ret3;exact numsgot_none (by rw [HR.out, takeNums_long HT.out (by omega)]) rfl (Below.refl _ _)
  ·have hmw : IntKind.u64.wrap most = most := wrap_u64_id (by omega) (by have := HM.out; omega);by_cases hml : most < (c : Int)
   ·go_wp2_with fail;go_ret3;exact numsgot_none (by rw [HR.out, takeNums_long HT.out (by omega)]) rfl (Below.refl _ _)
   ·have HCL : Hid ((c : Int) < 9223372036854775808) := by have := HM.out; show _ < _; omega
    have HST : Hid (TNRel l c r w1.heap.size w1 (.int .i64 p0) (.slice (some ⟨w1.heap.size, 0, none⟩) 0 0) (.int .u64 0) .u64 (w1.alloc (.cells #[] 3))) :=
     tnrel_start .u64 HP0.out (by rw [HR.out, takeNums_go HT.out (by omega)])
    have hmlb : decide (most < (c : Int)) = false := decide_eq_false hml;have hm0b : decide (most < 0) = false := decide_eq_false hm0;clear hml hm0;go_wp2_with fail;go_loopw [8, 10, 11] (fun pv v kv wr => TNRel l c r w1.heap.size w1 pv v kv .u64 wr) (fun _ _ kv _ => c - (intOf kv).toNat)
    case atStart => exact HST.out
    case round =>
     obtain ⟨k, p, acc, rfl, hk, rfl, hp, hkp, hacc, htn, hown, hbel⟩ := hrel;have HTN : Hid (Wm.tnums (c - k) l p acc = r) := htn;have HA : Hid (acc.length = k) := hacc;have hH : w1.heap.size ≤ wr.heap.size := hbel.size;have hpl : (p : Int) ≤ (l.length : Int) := by omega
     have HVr := hidH (HV.out.below hbel);clear htn hacc HST;by_cases hlt : (k : Int) < (c : Int)
     ·have hkl : (k : Int) + 1 ≤ 9223372036854775807 := by have := HCL.out; omega
      have HPN : Hid (p ≤ l.length) := hp;have HKP : Hid (k ≤ p) := hkp;have HKC : Hid (k < c) := by show k < c; omega
      rcases Wm.take_form (l.drop p) (fun d hd => HV.out.2 d (List.mem_of_mem_drop hd)) with ⟨er, her, h34⟩ | ⟨x, n, htx, hx64, hn1, hn2, henc⟩
      ·have HE : Hid (r = ([], 0, er)) := by
        show r = _;rw [← HTN.out, ← tn_err (c - k - 1) acc her h34]; congr 1; have := HKC.out; omega
       have HER : Hid (Wm.take (l.drop p) = (0, 0, er)) := her;clear her hp hkp hk;by_cases hcp : c0 = p
       ·have HLP : Hid (l.length ≤ p) := by show _ ≤ _; omega
        subst hcp;have hlp : l.length = c0 := by omega
        go_wp2_with fail;refine (rtake_walk (Bv.cutEnd (w := wr) (ao := a0) HLP.out)).mono ?_;rintro e w3 ⟨he, rfl⟩;rw [t3_lit HER.out] at he;subst he;rcases h34 with rfl | rfl
        ·go_wp2_with fail;go_ret3;exact numsgot_none HE.out rfl hbel
        ·go_wp2_with fail;go_ret3;exact numsgot_none HE.out rfl hbel
       ·go_wp2_with fail;refine (rtake_walk (HVr.out.cutFrom p HPN.out hcp)).mono ?_;rintro e w3 ⟨he, rfl⟩;rw [t3_lit HER.out] at he;subst he;rcases h34 with rfl | rfl
        ·go_wp2_with fail;go_ret3;exact numsgot_none HE.out rfl hbel
        ·go_wp2_with fail;go_ret3;exact numsgot_none HE.out rfl hbel
      ·rw [List.length_drop] at hn2;have HX : Hid (Wm.take (l.drop p) = (x, n, 0)) := htx;have HN1 : Hid (1 ≤ n) := hn1;have HN2 : Hid (p + n ≤ l.length) := by show _ ≤ _; omega
       have hpn : (p : Int) + (n : Int) ≤ 140737488355328 := by omega
       have hcp : ¬ c0 = p := by omega
       clear htx hn1 hn2 hx64 henc hp hkp hk;go_wp2_with fail;refine (rtake_walk (HVr.out.cutFrom p HPN.out hcp)).mono ?_;rintro e w3 ⟨he, rfl⟩;rw [t3_lit HX.out] at he;subst he;by_cases hb : (4611686018427387904 : Int) < (x : Int)
       ·have HE : Hid (r = ([], 0, 4)) := by
         show r = _;rw [← HTN.out, ← tn_big (c - k - 1) acc HX.out (by omega)]; congr 1; have := HKC.out; omega
        go_wp2_with fail;go_ret3;exact numsgot_none HE.out rfl hbel
       ·have hbb : decide ((4611686018427387904 : Int) < (x : Int)) = false := decide_eq_false hb;have hwr : IntKind.i64.wrap (x : Int) = (x : Int) := by rw [IntKind.wrap_i64]; omega
        have hkw : IntKind.u64.wrap ((k : Int) + 1) = (k : Int) + 1 := wrap_u64_id (by omega) (by omega)
        have HS : Hid (∀ j q (b : List Nat) a, b.drop q = l.drop p → Wm.tnums (j + 1) b q a = Wm.tnums j b (q + n) (a ++ [x])) := by
         intro j q b a hd;exact tn_ok j a (by rw [hd]; exact HX.out) (by omega)
        clear hb;have HBD : Hid ((k + 1) * 8 ≤ 140737488355328) := by show _ ≤ _; have := HKP.out; have := HN1.out; have := HN2.out; have := HSZ.out; omega
        go_wp2_with (at_builtin; refine wpList_append_sv (by rfl) (.tmp 51) (.tmp 54) 129 (by rfl) w1.heap.size 3 .i64 8 Tryz.underlying129 info_i64 _ _ _ (by rfl) (hown.alloc _) _ [_] (by rfl) (sv_one .i64 _ _ _) (by have := HBD.out; simp [maxLen]; omega) (by have := HBD.out; simp; omega) (by simp; omega) ?_; intro v' w4 hown' hgrow);have R := tnrel_step .u64 HKC.out HN2.out HKP.out HN1.out HA.out HTN.out HS.out hbel hH _ hown hown' hgrow;clear hown' hgrow;go_wp2;go_roundw
        case rel => exact R
        case measure => simp [intOf]; omega
     ·obtain rfl : k = c := by omega
      have HO := hidH hown;clear hown;go_wp2_with fail;go_ret3;exact numsgot_some (by rw [← HTN.out, Nat.sub_self, Wm.tnums]) HO.out hbel rfl
end Go.Proofs.YtcmklbibehnloaaGreat
