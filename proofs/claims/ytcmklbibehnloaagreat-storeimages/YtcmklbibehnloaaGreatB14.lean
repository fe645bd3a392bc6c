/- Contract of bucket's Encode. -/
import Derived.Test.YtcmklbibehnloaaGreatB13
set_option maxRecDepth 100000
set_option maxHeartbeats 16000000
namespace Go.Proofs.YtcmklbibehnloaaGreat
open Go.RowKit
def ordE : Option Nat → List Cl → Bool
 | _, [] => true
 | o, c :: r => folB o c.k && ordE (some c.k) r
def ordB (l : List Cl) : Bool := ordE none l
def fndF : List Cl → Nat → Nat
 | [], _ => 0
 | c :: r, k => if c.k < k then fndF r k + 1 else 0
def isK (l : List Cl) (i k : Nat) : Bool := match l[i]? with
 | none => false
 | some c => decide (c.k = k)
def findI (l : List Cl) (k : Nat) : Nat := if ordB l = true then fndF l k else 0
def findB (l : List Cl) (k : Nat) : Bool := ordB l && isK l (fndF l k) k
theorem drop_at {α : Type} {l : List α} {i : Nat} (hi : i < l.length) : l.drop i = l[i] :: l.drop (i + 1) := List.drop_eq_getElem_cons hi
theorem lastK_take {l : List Cl} {i : Nat} (hi : i < l.length) : lastK (l.take (i + 1)) = some l[i].k := by
 rw [List.take_succ_eq_append_getElem hi, lastK_snoc]
theorem ord_step {l : List Cl} {i : Nat} (hi : i < l.length) (h : ordE (lastK (l.take i)) (l.drop i) = ordB l) (hf : folB (lastK (l.take i)) l[i].k = true) : ordE (lastK (l.take (i + 1))) (l.drop (i + 1)) = ordB l := by
 rw [drop_at hi, ordE, hf, Bool.true_and] at h;rw [lastK_take hi];exact h
theorem ord_stop {l : List Cl} {i : Nat} (hi : i < l.length) (h : ordE (lastK (l.take i)) (l.drop i) = ordB l) (hf : folB (lastK (l.take i)) l[i].k = false) : ordB l = false := by
 rw [drop_at hi, ordE, hf, Bool.false_and] at h;exact h.symm
theorem ord_end {l : List Cl} {i : Nat} (hi : l.length ≤ i) (h : ordE (lastK (l.take i)) (l.drop i) = ordB l) : ordB l = true := by
 rw [List.drop_eq_nil_of_le hi, ordE] at h;exact h.symm
theorem fnd_le (l : List Cl) (k : Nat) : fndF l k ≤ l.length := by
 induction l with
 | nil => simp [fndF]
 | cons c r ih => simp only [fndF, List.length_cons]; split <;> omega
theorem fnd_step {l : List Cl} {i k : Nat} (hi : i < l.length) (h : i + fndF (l.drop i) k = fndF l k) (hk : l[i].k < k) : i + 1 + fndF (l.drop (i + 1)) k = fndF l k := by
 rw [drop_at hi, fndF, if_pos hk] at h;omega
theorem fnd_stop {l : List Cl} {i k : Nat} (hi : i < l.length) (h : i + fndF (l.drop i) k = fndF l k) (hk : ¬ l[i].k < k) : i = fndF l k := by
 rw [drop_at hi, fndF, if_neg hk] at h;omega
theorem fnd_end {l : List Cl} {i k : Nat} (hi : l.length ≤ i) (h : i + fndF (l.drop i) k = fndF l k) : i = fndF l k := by
 rw [List.drop_eq_nil_of_le hi, fndF] at h;omega
def OrdRel (l : List Cl) (w : World) (iv : Value) (wr : World) : Prop :=
 ∃ i : Nat, iv = .int .i64 i ∧ i ≤ l.length ∧ ordE (lastK (l.take i)) (l.drop i) = ordB l ∧ Below w.heap.size w wr
theorem inOrder_some (l : List Cl) (b off cap : Nat) (w : World) (hl : l.length ≤ cap) (hcap : cap ≤ maxLen) (hc : ∀ i, (hi : i < l.length) → CA w b (off + i * 6) l[i]) :
  Calls Tryz.prog 188 #[.slice (some ⟨b, off, none⟩) l.length cap] w fun e w' => e = .returned (.bool (ordB l)) ∧ Below w.heap.size w w' := by
 have HV : Hid (Cv w (.slice (some ⟨b, off, none⟩) l.length cap) l) := cv_of hl hcap hc;unfold maxLen at hcap;have hli : (l.length : Int) ≤ 9223372036854775807 := by omega
 have hci : (l.length : Int) ≤ (cap : Int) := by omega
 have HC := hidH hc;clear hc hcap hl;go_in;go_wp2_with fail;go_loopw [7] (fun iv wr => OrdRel l w iv wr) (fun iv _ => l.length - (intOf iv).toNat)
 case atStart => exact ⟨0, rfl, by omega, rfl, Below.refl _ _⟩
 case round =>
  obtain ⟨i, rfl, hil, hord, hbel⟩ := hrel;have HO : Hid (ordE (lastK (l.take i)) (l.drop i) = ordB l) := hord;have HB := hidH hbel;clear hord hbel;by_cases hlt : i < l.length
  ·have hA := (HC.out i hlt).keep HB.out;obtain ⟨c, hcd⟩ : ∃ c, l[i] = c := ⟨_, rfl⟩;rw [hcd] at hA;have HCD : Hid (l[i] = c) := hcd;clear hcd;obtain ⟨c0, c1, c2, c3, c4, c5⟩ := hA;have hlti : (i : Int) < (l.length : Int) := by omega
   have hic : (i : Int) ≤ (cap : Int) := by omega
   go_upto_region 4 with fail
   clear c0 c1 c2 c3 c4 c5;have HCB : Hid (CB (wr.alloc (Obj.cells #[.int .u64 c.k, .bool c.p.h, .int .u64 c.p.b, .bool c.c.h, .int .u64 c.c.b, .int .i64 c.n] 114)) wr.heap.size c) := cb_new wr c;have HB1 : Hid (Below w.heap.size w (wr.alloc (Obj.cells #[.int .u64 c.k, .bool c.p.h, .int .u64 c.p.b, .bool c.c.h, .int .u64 c.c.b, .int .i64 c.n] 114))) := below_trans HB.out (below_alloc _ _);generalize wr.alloc (Obj.cells #[.int .u64 c.k, .bool c.p.h, .int .u64 c.p.b, .bool c.c.h, .int .u64 c.c.b, .int .i64 c.n] 114) = w1 at HCB HB1 ⊢;have k0 : ∀ wx, Below w1.heap.size w1 wx → wx.cell? ⟨wr.heap.size, 0, none⟩ = some (.int .u64 c.k) := fun wx h => (HCB.out.keep h).c0;have HV1 : ∀ wx, Below w1.heap.size w1 wx → Cv wx (.slice (some ⟨b, off, none⟩) i cap) (l.take i) := fun wx h => (HV.out.below (below_trans HB1.out h)).upto i (by omega)
   cases hf : folB (lastK (l.take i)) c.k
   ·have HR : Hid (ordB l = false) := ord_stop hlt HO.out (by rw [HCD.out]; exact hf);refine wp_region_noPanic ?_;refine wp_region_held_drew (S := fun wx => Below w1.heap.size w1 wx) (by kernel_rfl) ?_ fun hHeld => ?_
    ·exact (Below.refl _ _).drew
    refine tkS 0 12 rfl hHeld ?_;refine tkS 1 13 rfl hHeld ?_;refine tkS 2 14 rfl hHeld ?_;refine tkS 3 15 rfl hHeld ?_;refine tkS 4 16 rfl hHeld ?_;refine rdH 5 17 rfl fun K hK => ?_;go_simp;refine (follows_walk (HV1 _ hHeld) c.k).mono ?_;rw [hf];rintro e w9 ⟨rfl, rfl⟩;go_simp;refine hK.out _ _ ?_ fun hHeld => ?_
    ·exact hHeld
    clear hK K;try simp only [Act.put, zz]
    refine tkS 6 18 rfl hHeld ?_;refine wpAnyH_done (by kernel_rfl) ?_ _;refine NoPanic.normal ?_;go_wp2_with fail;go_ret;exact ⟨by rw [HR.out]; rfl, below_trans HB1.out hHeld⟩
   ·have HR : Hid (ordE (lastK (l.take (i + 1))) (l.drop (i + 1)) = ordB l) := ord_step hlt HO.out (by rw [HCD.out]; exact hf);refine wp_region_noPanic ?_;refine wp_region_held_drew (S := fun wx => Below w1.heap.size w1 wx) (by kernel_rfl) ?_ fun hHeld => ?_
    ·exact (Below.refl _ _).drew
    refine tkS 0 12 rfl hHeld ?_;refine tkS 1 13 rfl hHeld ?_;refine tkS 2 14 rfl hHeld ?_;refine tkS 3 15 rfl hHeld ?_;refine tkS 4 16 rfl hHeld ?_;refine rdH 5 17 rfl fun K hK => ?_;go_simp;refine (follows_walk (HV1 _ hHeld) c.k).mono ?_;rw [hf];rintro e w9 ⟨rfl, rfl⟩;go_simp;refine hK.out _ _ ?_ fun hHeld => ?_
    ·exact hHeld
    clear hK K;try simp only [Act.put, zz]
    refine tkS 6 18 rfl hHeld ?_;refine wpAnyH_done (by kernel_rfl) ?_ _;refine NoPanic.normal ?_;go_wp2_with fail;go_roundw
    case rel => exact ⟨i + 1, by go_num, by omega, HR.out, below_trans HB1.out hHeld⟩
    case measure => simp [intOf]; omega
  ·have hlti : ¬ (i : Int) < (l.length : Int) := by omega
   have HR : Hid (ordB l = true) := ord_end (by omega) HO.out;go_wp2_with fail;go_ret;exact ⟨by rw [HR.out]; rfl, HB.out⟩
theorem inOrder_none (ao : Option Addr) (cap : Nat) (w : World) :
  Calls Tryz.prog 188 #[.slice ao 0 cap] w fun e w' => e = .returned (.bool true) ∧ Below w.heap.size w w' := by
 go_in;go_wp2;refine wp_loop_rounds 1 ?_;rw [rounds_succ];go_wp2;go_ret;exact ⟨rfl, Below.refl _ _⟩
theorem inOrder_walk {w : World} {v : Value} {l : List Cl} (h : Cv w v l) :
  Calls Tryz.prog 188 #[v] w fun e w' => e = .returned (.bool (ordB l)) ∧ Below w.heap.size w w' := by
 rcases cv_cases h with ⟨rfl, ao, cap, rfl⟩ | ⟨b, off, cap, rfl, hp, h1, h2, h3⟩
 ·exact inOrder_none ao cap w
 ·exact inOrder_some l b off cap w h1 h2 h3
theorem find_some (l : List Cl) (b off cap k : Nat) (w : World) (hl : l.length ≤ cap) (hcap : cap ≤ maxLen) (hc : ∀ i, (hi : i < l.length) → CA w b (off + i * 6) l[i]) :
  Calls Tryz.prog 180 #[.slice (some ⟨b, off, none⟩) l.length cap, .int .u64 k] w fun e w' => e = .returned (.tuple #[.int .i64 (findI l k), .bool (findB l k)]) ∧ Below w.heap.size w w' := by
 have HV : Hid (Cv w (.slice (some ⟨b, off, none⟩) l.length cap) l) := cv_of hl hcap hc;unfold maxLen at hcap;have hli : (l.length : Int) ≤ 9223372036854775807 := by omega
 have HC := hidH hc;clear hc hcap hl
 cases ho : ordB l
 ·have e1 : findI l k = 0 := by simp [findI, ho]
  have e2 : findB l k = false := by simp [findB, ho]
  rw [e1, e2];go_in;go_wp2_with fail;refine (inOrder_walk HV.out).mono ?_;rw [ho];rintro e w1 ⟨rfl, hB1⟩;go_wp2_with fail;go_ret2;exact ⟨rfl, hB1⟩
 ·have e1 : findI l k = fndF l k := by simp [findI, ho]
  have e2 : findB l k = isK l (fndF l k) k := by simp [findB, ho]
  rw [e1, e2];clear e1 e2;go_in;go_wp2_with fail;refine (inOrder_walk HV.out).mono ?_;rw [ho];rintro e w1 ⟨rfl, hB1⟩;have HB := hidH hB1;clear hB1 ho HV;go_wp2_with fail;go_loop [6] (fun iv => ∃ i : Nat, iv = .int .i64 i ∧ i ≤ l.length ∧ i + fndF (l.drop i) k = fndF l k) (fun iv => l.length - (intOf iv).toNat)
  case atStart => exact ⟨0, rfl, by omega, by simp⟩
  case round =>
   obtain ⟨i, rfl, hil, hfn⟩ := hrel;have HF : Hid (i + fndF (l.drop i) k = fndF l k) := hfn;clear hfn;by_cases hlt : i < l.length
   ·have hA := (HC.out i hlt).keep HB.out;obtain ⟨c, hcd⟩ : ∃ c, l[i] = c := ⟨_, rfl⟩;rw [hcd] at hA;have HCD : Hid (l[i] = c) := hcd;clear hcd;have hlti : (i : Int) < (l.length : Int) := by omega
    have c0 := hA.c0;have hcw : ∀ n, (w1.drewN n).cell? ⟨b, off + i * 6, none⟩ = some (.int .u64 c.k) := fun _ => c0;clear hA;by_cases hk : c.k < k
    ·have hki : (c.k : Int) < (k : Int) := by omega
     have HR : Hid (i + 1 + fndF (l.drop (i + 1)) k = fndF l k) := fnd_step hlt HF.out (by rw [HCD.out]; exact hk);go_wp2_with fail;go_round
     case rel => exact ⟨i + 1, by go_num, by omega, HR.out⟩
     case measure => simp [intOf]; omega
    ·have hki : ¬ (c.k : Int) < (k : Int) := by omega
     have HR : Hid (i = fndF l k) := fnd_stop hlt HF.out (by rw [HCD.out]; exact hk);have HK : Hid (isK l (fndF l k) k = decide (c.k = k)) := by show _ = _; rw [← HR.out]; simp [isK, hlt, HCD.out]
     have hB0 := HB.out;by_cases he : c.k = k
     ·have hke : ((c.k : Int) == (k : Int)) = true := by simp [he]
      go_wp2_with fail;go_quiet (fail);go_wp2_with fail;go_ret2;exact ⟨by rw [HK.out, ← HR.out]; simp [he], below_trans HB.out (below_drewN _ _)⟩
     ·have hke : ((c.k : Int) == (k : Int)) = false := by simp; omega
      go_wp2_with fail;go_quiet (fail);go_wp2_with fail;go_ret2;exact ⟨by rw [HK.out, ← HR.out]; simp [he], below_trans HB.out (below_drewN _ _)⟩
   ·have hlti : ¬ (i : Int) < (l.length : Int) := by omega
    have HR : Hid (i = fndF l k) := fnd_end (by omega) HF.out;have HK : Hid (isK l (fndF l k) k = false) := by show _ = _; rw [← HR.out]; simp [isK, List.getElem?_eq_none (Nat.le_of_not_lt hlt)]
    go_wp2_with fail;go_quiet (fail);go_wp2_with fail;go_ret2;exact ⟨by rw [HK.out, ← HR.out]; rfl, below_trans HB.out (below_drewN _ _)⟩
theorem find_none (ao : Option Addr) (cap k : Nat) (w : World) :
  Calls Tryz.prog 180 #[.slice ao 0 cap, .int .u64 k] w fun e w' => e = .returned (.tuple #[.int .i64 0, .bool false]) ∧ Below w.heap.size w w' := by
 go_in;go_wp2_with fail;refine (inOrder_none ao cap _).mono ?_;rintro e w1 ⟨rfl, hB1⟩;go_wp2_with fail;refine wp_loop_rounds 1 ?_;rw [rounds_succ];go_wp2_with fail;go_quiet (fail);go_wp2_with fail;go_ret2;exact ⟨rfl, below_trans hB1 (below_drewN _ _)⟩
theorem find_walkB {w : World} {v : Value} {l : List Cl} (h : Cv w v l) (k : Nat) :
  Calls Tryz.prog 180 #[v, .int .u64 k] w fun e w' => e = .returned (.tuple #[.int .i64 (findI l k), .bool (findB l k)]) ∧ Below w.heap.size w w' := by
 rcases cv_cases h with ⟨rfl, ao, cap, rfl⟩ | ⟨b, off, cap, rfl, hp, h1, h2, h3⟩
 ·exact find_none ao cap k w
 ·exact find_some l b off cap k w h1 h2 h3
theorem own_belowC {w w' : World} {base e size n : Nat} {v : Value} {xs : List Value} (h : w.ownsRow base e size v n xs) (hb : Below w.heap.size w w') : w'.ownsRow base e size v n xs := by
 refine ⟨h.1, ?_⟩;rcases h.2 with h' | ⟨g, cap, cur, hv, hg, hh, r⟩
 ·exact .inl h'
 ·exact .inr ⟨g, cap, cur, hv, hg, by rw [hb.block g ((Array.getElem?_eq_some_iff.1 hh).1)]; exact hh, r⟩
def preB (l : List Cl) (i : Nat) : List Nat := Wm.enc l.length ++ allB (l.take i)
theorem pre_zero (l : List Cl) : preB l 0 = Wm.enc l.length := by simp [preB, allB]
theorem pre_all (l : List Cl) : preB l l.length = Wm.enc l.length ++ allB l := by simp [preB]
theorem pre_succ {l : List Cl} {i : Nat} (hi : i < l.length) : preB l (i + 1) = preB l i ++ cellBB l[i] := by
 simp only [preB, List.take_succ_eq_append_getElem hi, allB_append, allB, List.append_nil, List.append_assoc]
theorem pre_len {l : List Cl} (i : Nat) (h : l.length ≤ 16) : (preB l i).length ≤ 602 := by
 have h1 := Wm.enc_len l.length;have h2 := (allB_len (l.take i)).2;simp only [preB, List.length_append];have : (l.take i).length ≤ 16 := by simp; omega
 omega
theorem enc_step {l : List Cl} {i e : Nat} (hi : i < l.length) (h : encE (lastK (l.take i)) (l.drop i) = e) (hf : folB (lastK (l.take i)) l[i].k = true) (hw : writB l[i] = true) : encE (lastK (l.take (i + 1))) (l.drop (i + 1)) = e := by
 rw [drop_at hi, encE, hf, hw] at h;rw [lastK_take hi];simpa using h
theorem enc_stop7 {l : List Cl} {i e : Nat} (hi : i < l.length) (h : encE (lastK (l.take i)) (l.drop i) = e) (hf : folB (lastK (l.take i)) l[i].k = false) : e = 7 := by
 rw [drop_at hi, encE, hf] at h;simpa using h.symm
theorem enc_stop1 {l : List Cl} {i e : Nat} (hi : i < l.length) (h : encE (lastK (l.take i)) (l.drop i) = e) (hf : folB (lastK (l.take i)) l[i].k = true) (hw : writB l[i] = false) : e = 1 := by
 rw [drop_at hi, encE, hf, hw] at h;simpa using h.symm
theorem enc_end {l : List Cl} {i e : Nat} (hi : l.length ≤ i) (h : encE (lastK (l.take i)) (l.drop i) = e) : e = 0 := by
 rw [List.drop_eq_nil_of_le hi, encE] at h;exact h.symm
def EncGot (l : List Cl) (w : World) (e : Ending) (w' : World) : Prop :=
 ∃ v, e = .returned (.tuple #[v, .int .i64 ((encode l).2 : Nat)]) ∧ w'.ownsRow w.heap.size 5 1 v (encode l).1.length ((ib (encode l).1).map (Value.int .u8)) ∧ Below w.heap.size w w'
theorem encgot_bad {l : List Cl} {w w' : World} {e : Nat} {x : Int} (h : encode l = ([], e)) (hx : x = e) (hb : Below w.heap.size w w') : EncGot l w (.returned (.tuple #[.slice none 0 0, .int .i64 x])) w' := by
 subst hx;exact ⟨_, by rw [h], by rw [h]; exact ⟨rfl, .inl ⟨rfl, rfl⟩⟩, hb⟩
theorem encode_long {l : List Cl} (h : 16 < l.length) : encode l = ([], 6) := if_pos h
theorem encode_fault {l : List Cl} {e : Nat} (h : l.length ≤ 16) (h0 : 0 < l.length) (he : encE none l = e) (hn : e ≠ 0) : encode l = ([], e) := by
 unfold encode;rw [if_neg (by omega), if_neg (by omega), he, if_neg hn]
theorem encode_ok {l : List Cl} (h : l.length ≤ 16) (h0 : 0 < l.length) (he : encE none l = 0) : encode l = (preB l l.length, 0) := by
 unfold encode;rw [if_neg (by omega), if_neg (by omega), he, if_pos rfl, pre_all]
def EncRel (l : List Cl) (w : World) (v iv : Value) (wr : World) : Prop :=
 ∃ i : Nat, iv = .int .i64 i ∧ i ≤ l.length ∧ wr.ownsRow w.heap.size 5 1 v (preB l i).length ((ib (preB l i)).map (Value.int .u8)) ∧ encE (lastK (l.take i)) (l.drop i) = encE none l ∧ Below w.heap.size w wr
theorem encrel_step {l : List Cl} {i : Nat} {w w5 w6 : World} {v v' : Value} (hi : i < l.length) (hbel : Below w.heap.size w w5) (ho5 : w5.ownsRow w.heap.size 5 1 v (preB l i).length ((ib (preB l i)).map (Value.int .u8)))
  (ho : w6.ownsRow w.heap.size 5 1 v' ((preB l i).length + (ib (cellBB l[i])).length) ((ib (preB l i)).map (Value.int .u8) ++ (ib (cellBB l[i])).map (Value.int .u8))) (hg : w5.grownBy w6 v.ownBlock) (he : encE (lastK (l.take (i + 1))) (l.drop (i + 1)) = encE none l) :
  EncRel l w v' (.int .i64 ((i : Int) + 1)) w6 := by
 refine ⟨i + 1, rfl, hi, ?_, he, hbel.trans (grown_belowC ho5 hg hbel.size)⟩;rw [pre_succ hi, List.length_append, ib_append, List.map_append];rw [ib_len] at ho;exact ho
theorem encode_some (l : List Cl) (b off cap : Nat) (w : World) (hl : l.length ≤ cap) (hcap : cap ≤ maxLen) (hp : 0 < l.length) (h16 : l.length ≤ 16) (hok : ∀ c ∈ l, c.okB) (hc : ∀ i, (hi : i < l.length) → CA w b (off + i * 6) l[i]) :
  Calls Tryz.prog 145 #[.slice (some ⟨b, off, none⟩) l.length cap] w (EncGot l w) := by
 have HV : Hid (Cv w (.slice (some ⟨b, off, none⟩) l.length cap) l) := cv_of hl hcap hc;unfold maxLen at hcap;have hli : (l.length : Int) ≤ 16 := by omega
 have hl0 : ((l.length : Int) == 0) = false := by rw [beq_eq_false_iff_ne]; omega
 have hl16 : ¬ (16 : Int) < (l.length : Int) := by omega
 have hci : (l.length : Int) ≤ (cap : Int) := by omega
 have H16 : Hid (l.length ≤ 16) := h16;have HP : Hid (0 < l.length) := hp;have HOK : Hid (∀ c ∈ l, c.okB) := hok;have HC := hidH hc;have hw64 : IntKind.u64.wrap (l.length : Int) = (l.length : Int) := wrap_u64_id (by omega) (by omega);clear hc hcap hl hok h16 hp;go_in;go_wp2_with fail;refine (put_walk l.length (by have := H16.out; omega) _).mono ?_;rintro e w1 ⟨v1, rfl, hown1, hB1⟩;have HST : Hid (EncRel l w v1 (.int .i64 0) w1) := ⟨0, rfl, by omega, by rw [pre_zero]; exact hown1, rfl, hB1⟩;clear hown1 hB1 hw64;go_wp2_with fail;go_loopw [4, 19] (fun v iv wr => EncRel l w v iv wr) (fun _ iv _ => l.length - (intOf iv).toNat)
 case atStart => exact HST.out
 case round =>
  obtain ⟨i, rfl, hil, hown, hord, hbel⟩ := hrel;have HO : Hid (encE (lastK (l.take i)) (l.drop i) = encE none l) := hord;have HB := hidH hbel;have HOWN := hidH hown;clear hord hbel hown HST;by_cases hlt : i < l.length
  ·have hA := (HC.out i hlt).keep HB.out;obtain ⟨c, hcd⟩ : ∃ c, l[i] = c := ⟨_, rfl⟩;rw [hcd] at hA;have HCD : Hid (l[i] = c) := hcd;have HCO : Hid c.okB := by show c.okB; rw [← hcd]; exact HOK.out _ (List.getElem_mem _)
   clear hcd;obtain ⟨c0, c1, c2, c3, c4, c5⟩ := hA;have hlti : (i : Int) < (l.length : Int) := by omega
   have hic : (i : Int) ≤ (cap : Int) := by omega
   go_upto_region 9 with fail
   clear c0 c1 c2 c3 c4 c5;have HCB : Hid (CB (wr.alloc (Obj.cells #[.int .u64 c.k, .bool c.p.h, .int .u64 c.p.b, .bool c.c.h, .int .u64 c.c.b, .int .i64 c.n] 114)) wr.heap.size c) := cb_new wr c;have HO2 : Hid ((wr.alloc (Obj.cells #[.int .u64 c.k, .bool c.p.h, .int .u64 c.p.b, .bool c.c.h, .int .u64 c.c.b, .int .i64 c.n] 114)).ownsRow w.heap.size 5 1 u4 (preB l i).length ((ib (preB l i)).map (Value.int .u8))) := HOWN.out.alloc _;have HB1 : Hid (Below w.heap.size w (wr.alloc (Obj.cells #[.int .u64 c.k, .bool c.p.h, .int .u64 c.p.b, .bool c.c.h, .int .u64 c.c.b, .int .i64 c.n] 114))) := below_trans HB.out (below_alloc _ _);generalize wr.alloc (Obj.cells #[.int .u64 c.k, .bool c.p.h, .int .u64 c.p.b, .bool c.c.h, .int .u64 c.c.b, .int .i64 c.n] 114) = w2 at HCB HB1 HO2 ⊢;have k0 : ∀ wx, Below w2.heap.size w2 wx → wx.cell? ⟨wr.heap.size, 0, none⟩ = some (.int .u64 c.k) := fun wx h => (HCB.out.keep h).c0;have HV2 : ∀ wx, Below w2.heap.size w2 wx → Cv wx (.slice (some ⟨b, off, none⟩) i cap) (l.take i) := fun wx h => (HV.out.below (below_trans HB1.out h)).upto i (by omega)
   cases hf : folB (lastK (l.take i)) c.k
   ·have HR : Hid (encode l = ([], 7)) := encode_fault H16.out HP.out (enc_stop7 hlt HO.out (by rw [HCD.out]; exact hf)) (by omega);refine wp_region_noPanic ?_;refine wp_region_held_drew (S := fun wx => Below w2.heap.size w2 wx) (by kernel_rfl) ?_ fun hHeld => ?_
    ·exact (Below.refl _ _).drew
    refine tkS 0 24 rfl hHeld ?_;refine tkS 1 25 rfl hHeld ?_;refine tkS 2 26 rfl hHeld ?_;refine tkS 3 27 rfl hHeld ?_;refine tkS 4 28 rfl hHeld ?_;refine rdH 5 29 rfl fun K hK => ?_;go_simp;refine (follows_walk (HV2 _ hHeld) c.k).mono ?_;rw [hf];rintro e w9 ⟨rfl, rfl⟩;go_simp;refine hK.out _ _ ?_ fun hHeld => ?_
    ·exact hHeld
    clear hK K;try simp only [Act.put, zz]
    refine tkS 6 30 rfl hHeld ?_;refine wpAnyH_done (by kernel_rfl) ?_ _;refine NoPanic.normal ?_;go_wp2_with fail;go_ret2;exact encgot_bad HR.out rfl (below_trans HB1.out hHeld)
   ·have HF : Hid (folB (lastK (l.take i)) l[i].k = true) := by show _ = _; rw [HCD.out]; exact hf
    refine wp_region_noPanic ?_;refine wp_region_held_drew (S := fun wx => Below w2.heap.size w2 wx) (by kernel_rfl) ?_ fun hHeld => ?_
    ·exact (Below.refl _ _).drew
    refine tkS 0 24 rfl hHeld ?_;refine tkS 1 25 rfl hHeld ?_;refine tkS 2 26 rfl hHeld ?_;refine tkS 3 27 rfl hHeld ?_;refine tkS 4 28 rfl hHeld ?_;refine rdH 5 29 rfl fun K hK => ?_;go_simp;refine (follows_walk (HV2 _ hHeld) c.k).mono ?_;rw [hf];rintro e w9 ⟨rfl, rfl⟩;go_simp;refine hK.out _ _ ?_ fun hHeld => ?_
    ·exact hHeld
    clear hK K;try simp only [Act.put, zz]
    refine tkS 6 30 rfl hHeld ?_;refine wpAnyH_done (by kernel_rfl) ?_ _;refine NoPanic.normal ?_;obtain ⟨w3, hw3⟩ : ∃ w3, w3 = w2.drew := ⟨_, rfl⟩;rw [← hw3] at hHeld ⊢;have HCB3 := hidH (HCB.out.keep hHeld);have HO3 : Hid (w3.ownsRow w.heap.size 5 1 u4 (preB l i).length ((ib (preB l i)).map (Value.int .u8))) := own_belowC HO2.out hHeld;have HB3 := hidH (below_trans HB1.out hHeld);clear hw3 hHeld HO2 HCB HV2 k0 hf;obtain ⟨c0, c1, c2, c3, c4, c5, zz⟩ := HCB3.out
    cases hwr : writB c
    ·have HR : Hid (encode l = ([], 1)) := encode_fault H16.out HP.out (enc_stop1 hlt HO.out HF.out (by rw [HCD.out]; exact hwr)) (by omega);go_wp2_with fail;refine (writable_walk c _).mono ?_;rw [hwr];rintro e w4 ⟨rfl, hB4⟩;clear c0 c1 c2 c3 c4 c5 zz;go_wp2_with fail;go_ret2;exact encgot_bad HR.out rfl (below_trans HB3.out hB4)
    ·have HR : Hid (encE (lastK (l.take (i + 1))) (l.drop (i + 1)) = encE none l) := enc_step hlt HO.out HF.out (by rw [HCD.out]; exact hwr);have HW : Hid (writB c = true) := hwr;go_wp2_with fail;refine (writable_walk c _).mono ?_;rw [hwr];rintro e w4 ⟨rfl, hB4⟩;have HCB4 := hidH (HCB3.out.keep hB4);have HO4 : Hid (w4.ownsRow w.heap.size 5 1 u4 (preB l i).length ((ib (preB l i)).map (Value.int .u8))) := own_belowC HO3.out hB4;have HB4 := hidH (below_trans HB3.out hB4);clear c0 c1 c2 c3 c4 c5 zz hB4 HO3 HCB3 HB3 hwr;obtain ⟨c0, c1, c2, c3, c4, c5, zz⟩ := HCB4.out;go_wp2_with fail;refine (cellBytes_walk HCO.out HW.out _).mono ?_;rintro e w5 ⟨v5, rfl, hb5, hB5⟩;have HO5 : Hid (w5.ownsRow w.heap.size 5 1 u4 (preB l i).length ((ib (preB l i)).map (Value.int .u8))) := own_belowC HO4.out hB5;have HB5 := hidH (below_trans HB4.out hB5);have HV5 : Hid (Bv w5 v5 (cellBB c)) := hb5;obtain ⟨a5, n5, q5, rfl⟩ := bv_any hb5
     have HLE : Hid ((preB l i).length + (ib (cellBB c)).length ≤ 700) := by
      have h1 := pre_len i H16.out;have h2 := cellB_len c;show _ ≤ _;rw [ib_len]; omega
     clear c0 c1 c2 c3 c4 c5 zz hB5 HO4 HCB4 HB4 hb5;go_wp2_with (at_builtin; refine wpList_append_sv (by rfl) (.tmp 34) (.tmp 36) 78 (by rfl) w.heap.size 5 .u8 1 Tryz.underlying78 info_u8 _ _ _ (by rfl) HO5.out _ _ (by rfl) HV5.out.1 (by have := HLE.out; simp only [maxLen]; omega) (by have := HLE.out; omega) HB5.out.size ?_; intro v6 w6 hown6 hgrow6);have R := encrel_step hlt HB5.out HO5.out (by rw [HCD.out]; exact hown6) hgrow6 HR.out;clear hown6 hgrow6;go_wp2;go_roundw
     case rel => exact R
     case measure => simp [intOf]; omega
  ·have hlti : ¬ (i : Int) < (l.length : Int) := by omega
   obtain rfl : i = l.length := by omega
   have HR : Hid (encode l = (preB l l.length, 0)) := encode_ok H16.out HP.out (enc_end (Nat.le_refl _) HO.out);go_wp2_with fail;go_ret2;exact ⟨_, by rw [HR.out]; rfl, by rw [HR.out]; exact HOWN.out, HB.out⟩
theorem encode_void (ao : Option Addr) (cap : Nat) (w : World) : Calls Tryz.prog 145 #[.slice ao 0 cap] w (EncGot [] w) := by
 go_in;go_wp2_with fail;go_ret2;exact encgot_bad (e := 0) rfl rfl (Below.refl _ _)
theorem encode_far (l : List Cl) (ao : Option Addr) (cap : Nat) (w : World) (h : 16 < l.length) : Calls Tryz.prog 145 #[.slice ao l.length cap] w (EncGot l w) := by
 have hi : (16 : Int) < (l.length : Int) := by omega
 have HR : Hid (encode l = ([], 6)) := encode_long h;clear h;go_in;go_wp2_with fail;go_ret2;exact encgot_bad HR.out rfl (Below.refl _ _)
theorem encode_walk {w : World} {v : Value} {l : List Cl} (h : Cv w v l) (hok : ∀ c ∈ l, c.okB) : Calls Tryz.prog 145 #[v] w (EncGot l w) := by
 rcases cv_cases h with ⟨rfl, ao, cap, rfl⟩ | ⟨b, off, cap, rfl, hp, h1, h2, h3⟩
 ·exact encode_void ao cap w
 ·by_cases h16 : l.length ≤ 16
  ·exact encode_some l b off cap w h1 h2 hp h16 hok h3
  ·exact encode_far l _ cap w (by omega)
end Go.Proofs.YtcmklbibehnloaaGreat
