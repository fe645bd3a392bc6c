/- Run, Nums and their references: rows of the call's own. -/
import Derived.Test.YtcmklbibehnloaaGreatB02
import Derived.WalkLawsBesides
import Derived.Laws.BitsAllLaws
set_option maxRecDepth 100000
set_option maxHeartbeats 16000000
namespace Go.Proofs.YtcmklbibehnloaaGreat
open Go.RowKit
section
open Ieee Go.RowKit

attribute [local go_sem] run_bits run_frombits
theorem below_same (w : World) : Below w.heap.size w w := Below.refl _ _
structure VB (w : World) (b : Nat) (v : Vl) : Prop where
 c0 : w.cell? ⟨b, 0, none⟩ = some (.bool v.h)
 c1 : w.cell? ⟨b, 1, none⟩ = some (.int .u64 v.b)
 z0 : w.frozen? ⟨b, 0, none⟩ = false
 z1 : w.frozen? ⟨b, 1, none⟩ = false
theorem VB.below {w w' : World} {b B : Nat} {v : Vl} (h : VB w b v) (hb : Below B w w') (hl : b < B) : VB w' b v :=
 ⟨by rw [hb.cell (p := ⟨b, 0, none⟩) hl]; exact h.c0, by rw [hb.cell (p := ⟨b, 1, none⟩) hl]; exact h.c1, by rw [hb.frozen (p := ⟨b, 0, none⟩) hl]; exact h.z0, by rw [hb.frozen (p := ⟨b, 1, none⟩) hl]; exact h.z1⟩
theorem known_walk (k : Int) (w : World) :
  Calls Tryz.prog 82 #[.int .i64 k] w fun e w' => e = .returned (.bool (knownB k)) ∧ w' = w := by
 go_in;go_wp2;all_goals (go_ret; exact ⟨ret_bool (by unfold knownB; simp <;> omega), rfl⟩)
theorem rknown_walk (k : Int) (w : World) :
  Calls Tryz.prog 47 #[.int .i64 k] w fun e w' => e = .returned (.bool (knownB k)) ∧ w' = w := by
 go_in;go_wp2;all_goals (go_ret; exact ⟨ret_bool (by unfold knownB; simp <;> omega), rfl⟩)
theorem ofFloat_walk (x : Nat) (w : World) :
  Calls Tryz.prog 183 #[.float .f64 x] w fun e w' => e = .returned (.agg #[.bool true, .int .u64 x]) ∧ Below w.heap.size w w' := by
 go_in;go_wp2;refine bodyPost_ret (v := .agg #[.bool true, .int .u64 x]) (by simp [results, Tryz.results183, go_sem]) rfl ⟨rfl, ?_⟩;exact below_alloc _ _
theorem floatOf_walk (v : Vl) (w : World) :
  Calls Tryz.prog 185 #[.agg #[.bool v.h, .int .u64 v.b]] w fun e w' => e = .returned (.float .f64 v.b) ∧ Below w.heap.size w w' := by
 go_in;go_wp2;go_ret;exact ⟨rfl, below_alloc _ _⟩
theorem vb_new (w : World) (h : Bool) (b : Nat) : VB (w.alloc (Obj.cells #[Value.bool h, Value.int IntKind.u64 (b : Int)] 53)) w.heap.size ⟨h, b⟩ := by
 constructor <;> simp [go_sem]
theorem vb_zero (w : World) : VB (w.alloc (Obj.cells #[Value.bool false, Value.int IntKind.u64 0] 53)) w.heap.size noV := by
 constructor <;> simp [go_sem, noV]
theorem VB.set {w : World} {b : Nat} {v : Vl} (h : VB w b v) (c : Bool) (x : Nat) : VB ((w.setCell ⟨b, 0, none⟩ (.bool c)).setCell ⟨b, 1, none⟩ (.int .u64 x)) b ⟨c, x⟩ := by
 obtain ⟨c0, c1, z0, z1⟩ := h;constructor <;> simp [go_sem, c0, c1, z0, z1]
theorem VB.other {w : World} {b : Nat} {v : Vl} (h : VB w b v) {p : Addr} (hne : b ≠ p.block) (u : Value) : VB (w.setCell p u) b v := by
 have e := Below.heap_setCell w p u b hne;obtain ⟨c0, c1, z0, z1⟩ := h;refine ⟨?_, ?_, ?_, ?_⟩
 ·rw [World.cell?_setCell_other _ _ _ _ (by rintro ⟨⟩; exact hne rfl)]; exact c0
 ·rw [World.cell?_setCell_other _ _ _ _ (by rintro ⟨⟩; exact hne rfl)]; exact c1
 ·simpa [go_sem] using z0
 ·simpa [go_sem] using z1
theorem keep_store {w w1 : World} (h : Below w.heap.size w w1) (b : Nat) (hb : w.heap.size ≤ b) (u v : Value) : Below w.heap.size w ((w1.setCell ⟨b, 0, none⟩ u).setCell ⟨b, 1, none⟩ v) := (h.setCell hb u).setCell hb v
theorem neq_b {k c : Int} (h : k ≠ c) : (k == c) = false := by simpa using h
theorem rof_walk (k : Int) {x : Nat} (hx : x < 18446744073709551616) (w : World) :
  Calls Tryz.prog 177 #[.int .i64 k, .float .f64 x] w fun e w' => e = .returned (.agg #[.bool (ofV k x).h, .int .u64 (ofV k x).b]) ∧ Below w.heap.size w w' := by
 by_cases h1 : k = 1
 ·subst h1;go_in;go_wp2_with fail;refine bodyPost_ret (v := .agg #[.bool true, .int .u64 1]) (by simp [results, Tryz.results177, go_sem]) rfl ⟨rfl, ?_⟩;exact below_alloc _ _
 by_cases h2 : k = 2
 ·subst h2;have e : IntKind.u64.wrap (wholeI x) = (wholeU x : Int) := (wholeU_eq x).symm;go_in;go_wp2_with (go_at_call 205; refine (rwhole_walk hx _).mono ?_; rintro e w' ⟨rfl, rfl⟩);refine bodyPost_ret (v := .agg #[.bool true, .int .u64 (wholeU x)]) (by simp [results, Tryz.results177, go_sem]) rfl ⟨rfl, ?_⟩;exact below_alloc _ _
 by_cases h34 : k = 3 ∨ k = 4
 ·have e : ofV k x = ⟨true, canonW x⟩ := by unfold ofV; rw [if_neg h1, if_neg h2, if_pos h34]
  rw [e];rcases h34 with rfl | rfl
  all_goals
   go_in
   go_wp2_with (first
    | (go_at_call 207; refine (rcanon_walk hx _).mono ?_; rintro e w' ⟨rfl, rfl⟩)
    | (go_at_call 206; refine (bits_walk _ _).mono ?_; rintro e w' ⟨rfl, rfl⟩))
   refine bodyPost_ret (v := .agg #[.bool true, .int .u64 (canonW x)]) (by simp [results, Tryz.results177, go_sem]) rfl ⟨rfl, ?_⟩;exact below_alloc _ _
 ·have e : ofV k x = noV := by unfold ofV; rw [if_neg h1, if_neg h2, if_neg h34]
  rw [e];have b1 := neq_b h1;have b2 := neq_b h2;have b3 : (k == 3) = false := neq_b (fun h => h34 (.inl h));have b4 : (k == 4) = false := neq_b (fun h => h34 (.inr h));go_in;go_wp2_with fail;refine bodyPost_ret (v := .agg #[.bool false, .int .u64 0]) (by simp [results, Tryz.results177, go_sem]) rfl ⟨rfl, ?_⟩;exact below_alloc _ _
theorem size_alloc (w : World) (o : Obj) : (w.alloc o).heap.size = w.heap.size + 1 := by simp [go_sem]
theorem below_two (w : World) (o p : Obj) : Below w.heap.size w ((w.alloc o).alloc p) := (below_alloc w o).alloc (by simp [go_sem]) p
theorem fit_walk (k : Int) {v : Vl} (hv : v.ok) (w : World) :
  Calls Tryz.prog 138 #[.int .i64 k, .agg #[.bool v.h, .int .u64 v.b]] w fun e w' => e = .returned (.agg #[.bool (fitV k v).h, .int .u64 (fitV k v).b]) ∧ Below w.heap.size w w' := by
 obtain ⟨h, b⟩ := v
 cases h
 ·have e : fitV k ⟨false, b⟩ = noV := by unfold fitV; rw [if_pos rfl]
  rw [e];go_in;go_wp2_with fail;refine bodyPost_ret (v := .agg #[.bool false, .int .u64 0]) (by simp [results, Tryz.results138, go_sem]) rfl ⟨rfl, ?_⟩;exact below_two _ _ _
 by_cases h12 : k = 1 ∨ k = 2
 ·have e : fitV k ⟨true, b⟩ = ⟨true, b⟩ := by unfold fitV; rw [if_neg (by simp), if_pos h12]
  rw [e];rcases h12 with rfl | rfl
  all_goals
   go_in;go_wp2_with fail;refine bodyPost_ret (v := .agg #[.bool true, .int .u64 b]) (by simp [results, Tryz.results138, go_sem]) rfl ⟨rfl, ?_⟩;exact below_two _ _ _
 have b1 : (k == 1) = false := neq_b (fun h => h12 (.inl h));have b2 : (k == 2) = false := neq_b (fun h => h12 (.inr h));by_cases h34 : k = 3 ∨ k = 4
 ·have e : fitV k ⟨true, b⟩ = ⟨true, canonW b⟩ := by unfold fitV; rw [if_neg (by simp), if_neg h12, if_pos h34]
  rw [e];clear b1 b2;rcases h34 with rfl | rfl
  all_goals
   go_in;go_wp2_with fail;refine (floatOf_walk ⟨true, b⟩ _).mono ?_;rintro e w1 ⟨rfl, hB⟩;have vb := (vb_zero (w.alloc (Obj.cells #[Value.bool true, Value.int IntKind.u64 (b : Int)] 53))).below hB (by simp [go_sem]);have HB : Hid (Below w.heap.size w w1) := below_trans (below_two _ _ _) hB;clear hB;go_wp2_with (go_at_call 184; refine (canon_walk hv _).mono ?_; rintro e w' ⟨rfl, rfl⟩);refine (ofFloat_walk _ _).mono ?_;rintro e w2 ⟨rfl, hB⟩;obtain ⟨c0, c1, z0, z1⟩ := vb.below hB (cell_lt vb.c0);have HB2 := hidH (below_trans HB.out hB);clear hB vb HB;rw [size_alloc] at c0 c1 z0 z1;go_wp2_with fail;refine bodyPost_ret (v := .agg #[.bool true, .int .u64 (canonW b)]) (by simp [results, Tryz.results138, go_sem, c0, c1]) rfl ⟨rfl, ?_⟩;exact keep_store HB2.out _ (Nat.le_succ _) _ _
 ·have e : fitV k ⟨true, b⟩ = noV := by unfold fitV; rw [if_neg (by simp), if_neg h12, if_neg h34]
  rw [e];have b3 : (k == 3) = false := neq_b (fun h => h34 (.inl h));have b4 : (k == 4) = false := neq_b (fun h => h34 (.inr h));go_in;go_wp2_with fail;refine bodyPost_ret (v := .agg #[.bool false, .int .u64 0]) (by simp [results, Tryz.results138, go_sem]) rfl ⟨rfl, ?_⟩;exact below_two _ _ _
end
theorem info_u8 : (Tryz.prog.info? 5).map (fun i => (i.zero, i.size, i.bytes)) = some (some (.int .u8 0), 1, 1) := by kernel_rfl
theorem info_i64 : (Tryz.prog.info? 3).map (fun i => (i.zero, i.size, i.bytes)) = some (some (.int .i64 0), 1, 8) := by kernel_rfl
theorem or128_fin : ∀ a : Fin 256, (a.val ||| 128) = a.val % 128 + 128 := by decide +kernel
theorem or128 (y : Nat) : bits .or .u8 ((y : Int) % 256) 128 = (y : Int) % 128 + 128 := by
 have h := u8_or_nat (y % 256) 128 (by omega) (by omega);have e := or128_fin ⟨y % 256, by omega⟩;simp only at e;rw [e] at h;have e2 : ((y % 256 : Nat) : Int) = (y : Int) % 256 := by omega
 rw [e2] at h;rw [show ((128 : Nat) : Int) = 128 from rfl] at h;rw [h];omega
theorem wrap_u64_id {z : Int} (h0 : 0 ≤ z) (h1 : z < 18446744073709551616) : IntKind.u64.wrap z = z := by
 rw [IntKind.wrap_u64]; omega
def PutRel (x H : Nat) (w : World) (xv v : Value) (wr : World) : Prop :=
 ∃ (y k : Nat) (done : List Nat), xv = .int .u64 y ∧ y ≤ x ∧ y < 128 ^ (k + 1) ∧ done ++ Wm.encF k y = Wm.enc x ∧ done.length + k = 9 ∧
  wr.ownsRow H 5 1 v done.length ((ib done).map (Value.int .u8)) ∧ Below H w wr
theorem putrel_start (x : Nat) (hx : x < 18446744073709551616) (w : World) :
  PutRel x w.heap.size w (.int .u64 x) (.slice (some ⟨w.heap.size, 0, none⟩) 0 0) (w.alloc (.cells #[] 5)) :=
 ⟨x, 9, [], rfl, Nat.le_refl _, Nat.lt_of_lt_of_le hx (by decide), rfl, rfl, World.ownsRow_made w #[] 0 (Nat.le_refl _) (by simp [maxLen]) rfl, below_alloc w _⟩
theorem putrel_step {x H y k : Nat} {done : List Nat} {w wr w1 : World} {v v' : Value} {c : Int} (hge : (128 : Int) ≤ y) (hyx : y ≤ x) (hk : y < 128 ^ (k + 1)) (henc : done ++ Wm.encF k y = Wm.enc x) (hlen : done.length + k = 9)
  (hbel : Below H w wr) (hH : H ≤ wr.heap.size) (o : Obj) (hown : wr.ownsRow H 5 1 v done.length ((ib done).map (Value.int .u8)))
  (hown' : w1.ownsRow H 5 1 v' (done.length + 1) ((ib done).map (Value.int .u8) ++ [c].map (Value.int .u8))) (hg : (wr.alloc o).grownBy w1 v.ownBlock) (hc : c = (y : Int) % 128 + 128) :
  PutRel x H w (.int .u64 ((y : Int) / 128)) v' w1 := by
 cases k with
 | zero => simp at hk; omega
 | succ k =>
  refine ⟨y / 128, k, done ++ [y % 128 + 128], ?_, by omega, ?_, ?_, by simp; omega, ?_, ?_⟩
  ·congr 1
  ·rw [Nat.pow_succ] at hk; omega
  ·rw [← henc]
   conv => rhs; rw [Wm.encF, if_neg (by omega)]
   simp
  ·subst hc;have e : (ib (done ++ [y % 128 + 128])) = ib done ++ [(y : Int) % 128 + 128] := by simp [ib]
   rw [e];simpa using hown'
  ·exact hbel.trans (((below_alloc wr o).mono hH).trans (grown_below (hown.alloc o) hg (by simp; omega)))
theorem putrel_done {x H y k : Nat} {done : List Nat} {w wr w1 : World} {v v' : Value} {c : Int} (hge : (y : Int) < 128) (henc : done ++ Wm.encF k y = Wm.enc x)
  (hbel : Below H w wr) (hH : H ≤ wr.heap.size) (o : Obj) (hown : wr.ownsRow H 5 1 v done.length ((ib done).map (Value.int .u8)))
  (hown' : w1.ownsRow H 5 1 v' (done.length + 1) ((ib done).map (Value.int .u8) ++ [c].map (Value.int .u8))) (hg : (wr.alloc o).grownBy w1 v.ownBlock) (hc : c = (y : Int)) :
  w1.ownsRow H 5 1 v' (Wm.enc x).length ((ib (Wm.enc x)).map (Value.int .u8)) ∧ Below H w w1 := by
 have e : Wm.encF k y = [y] := by
  cases k with
  | zero => rfl
  | succ k => rw [Wm.encF, if_pos (by omega)]
 rw [e] at henc;refine ⟨?_, hbel.trans (((below_alloc wr o).mono hH).trans (grown_below (hown.alloc o) hg (by simp; omega)))⟩;rw [← henc];subst hc;simpa [ib] using hown'
theorem sv_one (k : IntKind) (w : World) (e : TypeId) (c : Int) : Sv k (w.alloc (.cells #[.int k c] e)) (.slice (some ⟨w.heap.size, 0, none⟩) 1 1) [c] := sv_lit k w e [c] (by simp [maxLen])
theorem put_walk (x : Nat) (hx : x < 18446744073709551616) (w : World) :
  Calls Tryz.prog 157 #[.int .u64 x] w fun e w' => ∃ v, e = .returned v ∧ w'.ownsRow w.heap.size 5 1 v (Wm.enc x).length ((ib (Wm.enc x)).map (Value.int .u8)) ∧ Below w.heap.size w w' := by
 have hst := putrel_start x hx w;have HST := hidH hst;clear hst hx;go_in;go_wp2;go_loopw [0, 3] (fun xv v wr => PutRel x w.heap.size w xv v wr) (fun xv _ _ => (intOf xv).toNat)
 case atStart => exact HST.out
 case round =>
  obtain ⟨y, k, done, rfl, hyx, hk, henc, hlen, hown, hbel⟩ := hrel;have HY : Hid (y ≤ x) := hyx;have HK : Hid (y < 128 ^ (k + 1)) := hk;have HE : Hid (done ++ Wm.encF k y = Wm.enc x) := henc;have HL : Hid (done.length + k = 9) := hlen;have hH : w.heap.size ≤ wr.heap.size := hbel.size;have hor := or128 y;clear hyx hk henc hlen HST;by_cases hge : (128 : Int) ≤ (y : Int)
  ·go_wp2_with (at_builtin; refine wpList_append_sv (by rfl) (.tmp 7) (.tmp 11) 78 (by rfl) w.heap.size 5 .u8 1 Tryz.underlying78 info_u8 _ _ _ (by rfl) (hown.alloc _) _ [_] (by rfl) (sv_one .u8 _ _ _) (by simp [maxLen]; have := HL.out; omega) (by simp; have := HL.out; omega) (by simp; omega) ?_; intro v' w1 hown' hgrow);have R := putrel_step hge HY.out HK.out HE.out HL.out hbel hH _ hown hown' hgrow rfl;clear hown' hgrow;go_wp2;go_roundw
   case rel => exact R
   case measure => simp [intOf]; omega
  ·go_wp2_with (at_builtin; refine wpList_append_sv (by rfl) (.tmp 15) (.tmp 18) 78 (by rfl) w.heap.size 5 .u8 1 Tryz.underlying78 info_u8 _ _ _ (by rfl) (hown.alloc _) _ [_] (by rfl) (sv_one .u8 _ _ _) (by simp [maxLen]; have := HL.out; omega) (by simp; have := HL.out; omega) (by simp; omega) ?_; intro v' w1 hown' hgrow);have R := putrel_done hge HE.out hbel hH _ hown hown' hgrow (by omega);clear hown' hgrow;go_wp2;go_ret;exact ⟨_, rfl, R⟩
def Pv (w : World) (v : Value) (ls : List (List Nat)) : Prop :=
 ∃ ao cap, v = .slice ao ls.length cap ∧ ls.length ≤ cap ∧ cap ≤ maxLen ∧ (ao = none → cap = 0) ∧
  ∀ i, i < ls.length → ∃ b off u, ao = some ⟨b, off, none⟩ ∧ w.cell? ⟨b, off + i, none⟩ = some u ∧ Bv w u (ls.getD i [])
theorem flat_take_le (ls : List (List Nat)) (k : Nat) : (ls.take k).flatten.length ≤ ls.flatten.length := by
 have : ls.flatten = (ls.take k).flatten ++ (ls.drop k).flatten := by rw [← List.flatten_append, List.take_append_drop]
 rw [this]; simp
theorem flat_take_succ (ls : List (List Nat)) (k : Nat) (hk : k < ls.length) : (ls.take (k + 1)).flatten = (ls.take k).flatten ++ ls.getD k [] := by
 have e : ls.getD k [] = ls[k] := by simp [List.getD, List.getElem?_eq_getElem hk]
 rw [e, List.take_succ_eq_append_getElem hk, List.flatten_append, List.flatten_singleton]
def JoinRel (ls : List (List Nat)) (H : Nat) (w : World) (v iv : Value) (wr : World) : Prop :=
 ∃ k : Nat, k ≤ ls.length ∧ iv = .int .i64 k ∧ wr.ownsRow H 5 1 v (ls.take k).flatten.length ((ib (ls.take k).flatten).map (Value.int .u8)) ∧ Below H w wr
theorem joinrel_start (ls : List (List Nat)) (w : World) :
  JoinRel ls w.heap.size w (.slice (some ⟨w.heap.size, 0, none⟩) 0 0) (.int .i64 0) (w.alloc (.cells #[] 5)) :=
 ⟨0, Nat.zero_le _, rfl, World.ownsRow_made w #[] 0 (Nat.le_refl _) (by simp [maxLen]) rfl, below_alloc w _⟩
theorem joinrel_step {ls : List (List Nat)} {H k : Nat} {w wr w1 : World} {v v' : Value} {p : List Nat} (hp : ls.getD k [] = p) (hk : k < ls.length) (hH : H ≤ wr.heap.size) (hbel : Below H w wr)
  (hown : wr.ownsRow H 5 1 v (ls.take k).flatten.length ((ib (ls.take k).flatten).map (Value.int .u8)))
  (hown' : w1.ownsRow H 5 1 v' ((ls.take k).flatten.length + (ib p).length) ((ib (ls.take k).flatten).map (Value.int .u8) ++ (ib p).map (Value.int .u8))) (hg : wr.grownBy w1 v.ownBlock) :
  JoinRel ls H w v' (.int .i64 ((k : Int) + 1)) w1 := by
 refine ⟨k + 1, hk, rfl, ?_, hbel.trans (grown_below hown hg hH)⟩;rw [flat_take_succ ls k hk, hp, List.length_append, ib_append, List.map_append];rw [ib_len] at hown';exact hown'
theorem join_some (ls : List (List Nat)) (b off cap : Nat) (w : World) (hl : ls.length ≤ cap) (hcap : cap ≤ maxLen) (hsz : ls.flatten.length ≤ 140737488355328)
  (hc : ∀ i, i < ls.length → ∃ u, w.cell? ⟨b, off + i, none⟩ = some u ∧ Bv w u (ls.getD i [])) :
  Calls Tryz.prog 156 #[.slice (some ⟨b, off, none⟩) ls.length cap] w fun e w' => ∃ v, e = .returned v ∧ w'.ownsRow w.heap.size 5 1 v ls.flatten.length ((ib ls.flatten).map (Value.int .u8)) ∧ Below w.heap.size w w' := by
 unfold maxLen at hcap;have HST : Hid (JoinRel ls w.heap.size w (.slice (some ⟨w.heap.size, 0, none⟩) 0 0) (.int .i64 0) (w.alloc (.cells #[] 5))) := joinrel_start ls w;have hli : (ls.length : Int) ≤ 9223372036854775807 := by omega
 have HSZ := hidH hsz;have HC : Hid (∀ i, i < ls.length → ∃ u, w.cell? ⟨b, off + i, none⟩ = some u ∧ Bv w u (ls.getD i [])) := hc;clear hcap hsz hc hl;go_in;go_wp2;go_loopw [3, 9] (fun v iv wr => JoinRel ls w.heap.size w v iv wr) (fun _ iv _ => ls.length - (intOf iv).toNat)
 case atStart => exact HST.out
 case round =>
  obtain ⟨k, hk, rfl, hown, hbel⟩ := hrel;have hH : w.heap.size ≤ wr.heap.size := hbel.size;by_cases hlt : k < ls.length
  ·obtain ⟨u, hu, hbu⟩ := HC.out k hlt;obtain ⟨p, hp⟩ : ∃ p, ls.getD k [] = p := ⟨_, rfl⟩;rw [hp] at hbu;have HP : Hid (ls.getD k [] = p) := hp;have HB : Hid (Bv wr u p) := hbu.below hbel
   have HBD : Hid ((ls.take k).flatten.length + (ib p).length ≤ 140737488355328) := by
    have h1 := flat_take_le ls (k + 1);rw [flat_take_succ ls k hlt, List.length_append, hp] at h1;have := HSZ.out;rw [ib_len];exact Nat.le_trans h1 this
   obtain ⟨⟨a, c, rfl, _⟩, _⟩ := hbu;have hcell : wr.cell? ⟨b, off + k, none⟩ = some (.slice a (ib p).length c) := by rw [hbel.cell (p := ⟨b, off + k, none⟩) (cell_lt hu)]; exact hu
   clear hp;clear hu;go_wp2_with (at_builtin; refine wpList_append_sv (by rfl) (.tmp 13) (.tmp 14) 78 (by rfl) w.heap.size 5 .u8 1 Tryz.underlying78 info_u8 _ _ _ (by rfl) hown _ _ (by rfl) HB.out.1 (by have := HBD.out; simp only [maxLen]; omega) (by have := HBD.out; omega) hH ?_; intro v' w1 hown' hgrow);have R := joinrel_step HP.out hlt hH hbel hown hown' hgrow;clear hown' hgrow;go_wp2;go_roundw
   case rel => exact R
   case measure => simp [intOf]; omega
  ·obtain rfl : k = ls.length := by omega
   have HO : Hid (wr.ownsRow w.heap.size 5 1 u3 ls.flatten.length ((ib ls.flatten).map (Value.int .u8))) := by
    have := hown;rwa [List.take_length] at this
   clear hown;go_wp2;go_ret;exact ⟨_, rfl, HO.out, hbel⟩
theorem join_none (ao : Option Addr) (cap : Nat) (w : World) :
  Calls Tryz.prog 156 #[.slice ao 0 cap] w fun e w' => ∃ v, e = .returned v ∧ w'.ownsRow w.heap.size 5 1 v 0 [] ∧ Below w.heap.size w w' := by
 have H : Hid ((w.alloc (.cells #[] 5)).ownsRow w.heap.size 5 1 (.slice (some ⟨w.heap.size, 0, none⟩) 0 0) 0 []) := World.ownsRow_made w #[] 0 (Nat.le_refl _) (by simp [maxLen]) rfl;go_in;go_wp2;refine wp_loop_rounds 1 ?_;rw [rounds_succ];go_wp2;go_ret;exact ⟨_, rfl, H.out, below_alloc w _⟩
theorem join_walk {w : World} {v : Value} {ls : List (List Nat)} (h : Pv w v ls) (hsz : ls.flatten.length ≤ 140737488355328) :
  Calls Tryz.prog 156 #[v] w fun e w' => ∃ v, e = .returned v ∧ w'.ownsRow w.heap.size 5 1 v ls.flatten.length ((ib ls.flatten).map (Value.int .u8)) ∧ Below w.heap.size w w' := by
 obtain ⟨ao, cap, rfl, h1, h2, h3, h4⟩ := h;by_cases h0 : ls = []
 ·subst h0;exact join_none ao cap w
 ·have hp := List.length_pos_iff.2 h0;obtain ⟨b, off, u, rfl, _, _⟩ := h4 0 hp;refine join_some ls b off cap w h1 h2 hsz fun i hi => ?_;obtain ⟨b', off', u', e1, e2, e3⟩ := h4 i hi
  cases e1
  exact ⟨u', e2, e3⟩
theorem andNot128 (c : Nat) (h : c < 256) : bits .andNot .u8 (c : Int) 128 = (c : Int) % 128 := by
 have := u8_andNot_nat c 128 h (by omega);rw [show ((128 : Nat) : Int) = 128 from rfl] at this;rw [this];have e : c &&& (255 - 128) = c % 128 := Nat.and_two_pow_sub_one_eq_mod c 7;rw [e];omega
theorem pow128 (i : Nat) : (2 : Nat) ^ (7 * i) = 128 ^ i := by rw [Nat.pow_mul]
theorem acc_lt {c i : Nat} (hi : i ≤ 9) (hok : i = 9 → c ≤ 1) : c % 128 * 128 ^ i < 18446744073709551616 ∧ (c % 128 + 1) * 128 ^ i ≤ 18446744073709551616 := by
 by_cases h : i = 9
 ·subst h;have hc := hok rfl;have : c = 0 ∨ c = 1 := by omega
  rcases this with rfl | rfl <;> decide
 ·have hp : (128 : Nat) ^ i ≤ 128 ^ 8 := Nat.pow_le_pow_right (by omega) (by omega);have h1 : c % 128 * 128 ^ i ≤ 127 * 128 ^ 8 := Nat.mul_le_mul (by omega) hp;have h2 : (c % 128 + 1) * 128 ^ i ≤ 128 * 128 ^ 8 := Nat.mul_le_mul (by omega) hp;exact ⟨Nat.lt_of_le_of_lt h1 (by decide), Nat.le_trans h2 (by decide)⟩
theorem shl_eq {c i : Nat} (hi : i ≤ 9) (hok : i = 9 → c ≤ 1) : IntKind.u64.wrap ((c : Int) % 128 * 2 ^ (7 * i)) = ((c % 128 * 128 ^ i : Nat) : Int) := by
 have h := (acc_lt (c := c) hi hok).1
 have e : ((c : Int) % 128 * 2 ^ (7 * i)) = ((c % 128 * 128 ^ i : Nat) : Int) := by
  rw [← pow128]; push_cast; rfl
 rw [e];generalize c % 128 * 128 ^ i = z at h ⊢;exact wrap_u64_id (by omega) (by omega)
theorem acc_or {x c i : Nat} (hx : x < 128 ^ i) (hi : i ≤ 9) (hok : i = 9 → c ≤ 1) :
  bits .or .u64 (x : Int) (IntKind.u64.wrap ((c : Int) % 128 * 2 ^ (7 * i))) = ((x + c % 128 * 128 ^ i : Nat) : Int) := by
 have h := acc_lt (c := c) hi hok;rw [shl_eq hi hok, bits_or_u64_nat x _ (by have := h.2; rw [Nat.add_mul] at this; omega) h.1];congr 1;rw [← pow128] at hx ⊢;rw [Nat.or_comm, Nat.mul_comm, ← Nat.two_pow_add_eq_or_of_lt hx];omega
theorem acc_add {x c i : Nat} (hx : x < 128 ^ i) (hi : i ≤ 9) (hok : i = 9 → c ≤ 1) :
  IntKind.u64.wrap ((x : Int) + IntKind.u64.wrap ((c : Int) % 128 * 2 ^ (7 * i))) = ((x + c % 128 * 128 ^ i : Nat) : Int) := by
 have h := acc_lt (c := c) hi hok;rw [shl_eq hi hok, wrap_u64_id (by omega) ?_]
 ·push_cast; rfl
 ·have := h.2; rw [Nat.add_mul] at this; omega
theorem acc_next {x c i : Nat} (hx : x < 128 ^ i) : x + c % 128 * 128 ^ i < 128 ^ (i + 1) := by
 have : (c % 128 + 1) * 128 ^ i ≤ 128 * 128 ^ i := Nat.mul_le_mul_right _ (by omega);rw [Nat.add_mul] at this;rw [Nat.pow_succ]; omega
theorem drop_cons {l : List Nat} {i c : Nat} (hi : i < l.length) (hc : l.getD i 0 = c) : l.drop i = c :: l.drop (i + 1) := by
 rw [List.drop_eq_getElem_cons hi];simp [List.getD, List.getElem?_eq_getElem hi] at hc;rw [hc]
theorem tk_bad {l : List Nat} {i c x : Nat} {r : Nat × Nat × Nat} (ht : Wm.tk (l.drop i) i x = r) (hi : i < l.length) (hc : l.getD i 0 = c) (hb : (0 < i ∧ c = 0) ∨ (i = 9 ∧ 1 < c)) : r = (0, 0, 4) := by
 rw [← ht, drop_cons hi hc, Wm.tk, if_pos hb]
theorem tk_last {l : List Nat} {i c x : Nat} {r : Nat × Nat × Nat} (ht : Wm.tk (l.drop i) i x = r) (hi : i < l.length) (hc : l.getD i 0 = c) (hb : ¬ ((0 < i ∧ c = 0) ∨ (i = 9 ∧ 1 < c))) (h : c < 128) :
  r = (x + c % 128 * 128 ^ i, i + 1, 0) := by
 rw [← ht, drop_cons hi hc, Wm.tk, if_neg hb, if_pos h, Nat.mod_eq_of_lt h]
theorem tk_next {l : List Nat} {i c x : Nat} {r : Nat × Nat × Nat} (ht : Wm.tk (l.drop i) i x = r) (hi : i < l.length) (hc : l.getD i 0 = c) (hb : ¬ ((0 < i ∧ c = 0) ∨ (i = 9 ∧ 1 < c))) (h : 128 ≤ c) (h2 : c < 256) :
  Wm.tk (l.drop (i + 1)) (i + 1) (x + c % 128 * 128 ^ i) = r := by
 rw [← ht, drop_cons hi hc, Wm.tk, if_neg hb, if_neg (by omega)];have e : c % 128 = c - 128 := by omega
 rw [e]
theorem tk_end {l : List Nat} {i x : Nat} {r : Nat × Nat × Nat} (ht : Wm.tk (l.drop i) i x = r) (hi : l.length ≤ i) : r = (0, 0, 3) := by
 rw [← ht, List.drop_eq_nil_of_le hi, Wm.tk]
def t3 (r : Nat × Nat × Nat) : Value := .tuple #[.int .u64 (r.1 : Nat), .int .i64 (r.2.1 : Nat), .int .i64 (r.2.2 : Nat)]
theorem t3_mk {r : Nat × Nat × Nat} {a b c : Int} {p q s : Nat} (h : r = (p, q, s)) (ha : a = p) (hb : b = q) (hc : c = s) : Ending.returned (.tuple #[.int .u64 a, .int .i64 b, .int .i64 c]) = .returned (t3 r) := by
 subst h ha hb hc; rfl
theorem take_some (l : List Nat) (b off cap : Nat) (w : World) (hl : l.length ≤ cap) (hcap : cap ≤ maxLen)
  (hc : ∀ i, i < l.length → w.cell? ⟨b, off + i, none⟩ = some (.int .u8 ((l.getD i 0 : Nat) : Int))) (h256 : ∀ c ∈ l, c < 256) :
  Calls Tryz.prog 162 #[.slice (some ⟨b, off, none⟩) l.length cap] w fun e w' => e = .returned (t3 (Wm.take l)) ∧ w' = w := by
 unfold maxLen at hcap;go_in;go_wp2;go_loop [5, 10] (fun xv iv => ∃ i x : Nat, xv = .int .u64 x ∧ iv = .int .i64 i ∧ i ≤ l.length ∧ i ≤ 9 ∧ x < 128 ^ i ∧ Wm.tk (l.drop i) i x = Wm.take l) (fun _ iv => l.length - (intOf iv).toNat)
 case atStart => exact ⟨0, 0, rfl, rfl, by omega, by omega, by simp, rfl⟩
 case round =>
  obtain ⟨i, x, rfl, rfl, hil, hi9, hx, htk⟩ := hrel;have HX : Hid (x < 128 ^ i) := hx;have HT : Hid (Wm.tk (l.drop i) i x = Wm.take l) := htk;clear hx htk;by_cases hlt : i < l.length
  ·have hcell := hc i hlt;obtain ⟨c, hcd⟩ : ∃ c, l.getD i 0 = c := ⟨_, rfl⟩;rw [hcd] at hcell;have HC : Hid (l.getD i 0 = c) := hcd;have hc256 : c < 256 := by rw [← hcd]; exact h256 _ (by simp [List.getD, List.getElem?_eq_getElem hlt])
   have han := andNot128 c hc256;have hci : (c : Int) < 256 := by omega
   have HC2 : Hid (c < 256) := hc256;have hli : (l.length : Int) ≤ 9223372036854775807 := by omega
   clear hcd hc hc256 hl hcap h256;by_cases h1 : (0 : Int) < (i : Int)
   ·by_cases h2 : (c : Int) = 0
    ·go_wp2_with fail;go_ret3;exact ⟨t3_mk (tk_bad HT.out hlt HC.out (.inl ⟨by omega, by omega⟩)) rfl rfl rfl, rfl⟩
    ·by_cases h3 : (i : Int) = 9
     ·have h3b : ((i : Int) == 9) = true := by simp [h3]
      have H3 : Hid ((i : Int) = 9) := h3;have h2b : ((c : Int) == 0) = false := by simpa using h2
      clear h3;by_cases h4 : (1 : Int) < (c : Int)
      ·go_wp2_with fail;go_ret3;exact ⟨t3_mk (tk_bad HT.out hlt HC.out (.inr ⟨by have := H3.out; omega, by omega⟩)) rfl rfl rfl, rfl⟩
      ·go_wp2_with fail;go_ret3;exact ⟨t3_mk (tk_last HT.out hlt HC.out (by omega) (by omega)) (acc_or HX.out hi9 (by omega)) (by omega) rfl, rfl⟩
     ·by_cases h5 : (c : Int) < 128
      ·go_wp2_with fail;go_ret3;exact ⟨t3_mk (tk_last HT.out hlt HC.out (by omega) (by omega)) (acc_or HX.out hi9 (by omega)) (by omega) rfl, rfl⟩
      ·go_wp2_with fail;go_round
       case rel => exact ⟨i + 1, _, by rw [acc_or HX.out hi9 (by omega)], by go_num, by omega, by omega, acc_next HX.out, tk_next HT.out hlt HC.out (by omega) (by omega) HC2.out⟩
       case measure => simp [intOf]; omega
   ·by_cases h5 : (c : Int) < 128
    ·go_wp2_with fail;go_ret3;exact ⟨t3_mk (tk_last HT.out hlt HC.out (by omega) (by omega)) (acc_or HX.out hi9 (by omega)) (by omega) rfl, rfl⟩
    ·go_wp2_with fail;go_round
     case rel => exact ⟨i + 1, _, by rw [acc_or HX.out hi9 (by omega)], by go_num, by omega, by omega, acc_next HX.out, tk_next HT.out hlt HC.out (by omega) (by omega) HC2.out⟩
     case measure => simp [intOf]; omega
  ·have hlt' : ¬ (i : Int) < (l.length : Int) := by omega
   go_wp2_with fail;go_ret3;exact ⟨t3_mk (tk_end HT.out (by omega)) rfl rfl rfl, rfl⟩
theorem take_none (ao : Option Addr) (cap : Nat) (w : World) :
  Calls Tryz.prog 162 #[.slice ao 0 cap] w fun e w' => e = .returned (t3 (Wm.take [])) ∧ w' = w := by
 go_in;go_wp2;refine wp_loop_rounds 1 ?_;rw [rounds_succ];go_wp2;go_ret3;exact ⟨rfl, rfl⟩
theorem bv_cases {w : World} {v : Value} {l : List Nat} (h : Bv w v l) :
  (l = [] ∧ ∃ ao cap, v = .slice ao 0 cap) ∨ ∃ b off cap, v = .slice (some ⟨b, off, none⟩) l.length cap ∧ 0 < l.length ∧ l.length ≤ cap ∧ cap ≤ maxLen ∧
   ∀ i, i < l.length → w.cell? ⟨b, off + i, none⟩ = some (.int .u8 ((l.getD i 0 : Nat) : Int)) := by
 obtain ⟨⟨ao, cap, rfl, h1, h2, h3, h4⟩, h5⟩ := h;rw [ib_len] at h1 ⊢;by_cases h0 : l = []
 ·subst h0; exact .inl ⟨rfl, ao, cap, rfl⟩
 ·have hp := List.length_pos_iff.2 h0;obtain ⟨b, off, rfl, _⟩ := h4 0 (by rw [ib_len]; exact hp);refine .inr ⟨b, off, cap, rfl, hp, h1, h2, fun i hi => ?_⟩;obtain ⟨b', off', e1, e2⟩ := h4 i (by rw [ib_len]; exact hi)
  cases e1
  rw [e2];simp [ib, List.getD, List.getElem?_eq_getElem hi]
theorem take_walk {w : World} {v : Value} {l : List Nat} (h : Bv w v l) :
  Calls Tryz.prog 162 #[v] w fun e w' => e = .returned (t3 (Wm.take l)) ∧ w' = w := by
 rcases bv_cases h with ⟨rfl, ao, cap, rfl⟩ | ⟨b, off, cap, rfl, hp, h1, h2, h3⟩
 ·exact take_none ao cap w
 ·exact take_some l b off cap w h1 h2 h3 h.2
theorem own_below {w w' : World} {base e size n : Nat} {v : Value} {xs : List Value} (h : w.ownsRow base e size v n xs) (hb : Below w.heap.size w w') : w'.ownsRow base e size v n xs := by
 refine ⟨h.1, ?_⟩;rcases h.2 with h' | ⟨g, cap, cur, hv, hg, hh, r⟩
 ·exact .inl h'
 ·exact .inr ⟨g, cap, cur, hv, hg, by rw [hb.block g (Array.getElem?_eq_some_iff.1 hh).1]; exact hh, r⟩
theorem bv_form {w : World} {v : Value} {l : List Nat} (h : Bv w v l) : ∃ ao cap, v = .slice ao l.length cap := by
 obtain ⟨⟨ao, cap, rfl, _⟩, _⟩ := h;exact ⟨ao, cap, by rw [ib_len]⟩
theorem own_base {w : World} {base base' e size n : Nat} {v : Value} {xs : List Value} (h : w.ownsRow base e size v n xs) (hb : base' ≤ base) : w.ownsRow base' e size v n xs := by
 refine ⟨h.1, ?_⟩;rcases h.2 with h' | ⟨g, cap, cur, hv, hg, hh, r⟩
 ·exact .inl h'
 ·exact .inr ⟨g, cap, cur, hv, Nat.le_trans hb hg, hh, r⟩
theorem pv_two {w : World} {u v : Value} {l r : List Nat} (t : TypeId) (hu : Bv w u l) (hv : Bv w v r) :
  Pv (w.alloc (.cells #[u, v] t)) (.slice (some ⟨w.heap.size, 0, none⟩) 2 2) [l, r] := by
 refine ⟨_, 2, rfl, Nat.le_refl _, by simp [maxLen], by simp, fun i hi => ?_⟩;simp at hi;have : i = 0 ∨ i = 1 := by omega
 rcases this with rfl | rfl
 ·exact ⟨_, _, u, rfl, by simp, hu.below (below_alloc _ _)⟩
 ·exact ⟨_, _, v, rfl, by simp, hv.below (below_alloc _ _)⟩
theorem flat_two (a b : List Nat) : [a, b].flatten = a ++ b := by simp
end Go.Proofs.YtcmklbibehnloaaGreat
