/- A job's table and keys, as lists. -/
import Derived.Test.YtofkhgokfdpdiaaGreatB35
import Derived.Test.YtofkhgokfdpdiaaGreatB46
import Derived.Test.YtofkhgokfdpdiaaGreatB06
import Derived.Test.YtofkhgokfdpdiaaGreatB09
import Derived.Test.YtofkhgokfdpdiaaGreatB01
import Derived.Test.YtofkhgokfdpdiaaGreatB41
set_option maxRecDepth 100000
set_option maxHeartbeats 16000000
namespace Go.Proofs.YtofkhgokfdpdiaaGreat
section
open Ieee Go.RowKit

attribute [local go_sem] run_store_float
theorem Rv.below {w w' : World} {v : Value} {l : List Rcd} (h : Rv w v l) (hb : Below w.heap.size w w') : Rv w' v l := by
 obtain ⟨⟨ao, cap, e, h1, h2, h3, h4⟩, h5⟩ := h
 exact ⟨⟨ao, cap, e, h1, h2, h3, h4.below hb⟩, h5⟩
theorem kept_ok {l : List Stp} {kind : Int} {recs : List Rcd} (h : ∀ r ∈ recs, r.ok) : okT (keptT l kind recs) := by
 intro p hp
 obtain ⟨r, hr, e⟩ := List.mem_filterMap.1 hp
 split at e
 ·cases e
  exact ⟨(runS_ok l (h r hr)).1, ofV_ok kind (runS_ok l (h r hr)).2⟩
 ·cases e
theorem kept_snoc (l : List Stp) (kind : Int) (recs : List Rcd) {i : Nat} (hi : i < recs.length) : keptT l kind (recs.take (i + 1)) = keptT l kind (recs.take i) ++ keptT l kind [recs[i]] := by
 rw [List.take_succ_eq_append_getElem hi, kept_append]
theorem kept_one {l : List Stp} {kind : Int} {r : Rcd} (h : (runS l r).1 = 1) : keptT l kind [r] = [⟨(runS l r).2.k, ofV kind (runS l r).2.x⟩] := by
 unfold keptT; simp [h]
theorem kept_none {l : List Stp} {kind : Int} {r : Rcd} (h : (runS l r).1 ≠ 1) : keptT l kind [r] = [] := by
 unfold keptT; simp [h]
theorem trap_snoc (l : List Stp) (recs : List Rcd) {i : Nat} (hi : i < recs.length) : trapN l (recs.take (i + 1)) = trapN l (recs.take i) + (if (runS l recs[i]).1 = 3 then 1 else 0) := by
 unfold trapN
 rw [List.take_succ_eq_append_getElem hi, List.countP_append, List.countP_singleton]
 simp
theorem trap_le (l : List Stp) (recs : List Rcd) : trapN l recs ≤ recs.length := List.countP_le_length
theorem kept_len (l : List Stp) (kind : Int) (recs : List Rcd) : (keptT l kind recs).length ≤ recs.length := List.length_filterMap_le _ _
theorem batch_len (l : List Stp) (kind : Int) (recs : List Rcd) : (batchT l kind recs).length ≤ recs.length := by
 have := adds_len kind [] (keptT l kind recs)
 have := kept_len l kind recs
 unfold batchT; simp at *; omega
theorem batch_ok {l : List Stp} {kind : Int} {recs : List Rcd} (h : ∀ r ∈ recs, r.ok) : okT (batchT l kind recs) := ok_adds ok_nil (kept_ok h)
def Bt (w : World) (mb : Nat) (l : List Stp) (kind : Int) (recs : List Rcd) (tv iv : Value) (wr : World) : Prop :=
 ∃ i : Nat, i ≤ recs.length ∧ iv = .int .i64 i ∧ tv = .int .i64 (trapN l (recs.take i)) ∧ Mp wr mb i (batchT l kind (recs.take i)) ∧ Below w.heap.size w wr
theorem bt_keep {w wr w1 w2 : World} {mb i : Nat} {l : List Stp} {kind : Int} {recs : List Rcd} (hi : i < recs.length) {r : Rcd} (hr : r = recs[i]) (hf : (runS l r).1 = 1) (hb : w.heap.size ≤ mb)
  (hB : Below w.heap.size w wr) (h1 : Below wr.heap.size wr w1) (hg : w1.grownBy w2 (some mb)) (hM : Mp w2 mb (i + 1) (withT kind (runS l r).2.k (ofV kind (runS l r).2.x) (batchT l kind (recs.take i)))) :
  Bt w mb l kind recs (.int .i64 (trapN l (recs.take i))) (.int .i64 ((i : Int) + 1)) w2 := by
 refine ⟨i + 1, hi, by simp, ?_, ?_, ?_⟩
 ·rw [trap_snoc l recs hi, ← hr, if_neg (by omega), Nat.add_zero]
 ·unfold batchT at hM ⊢
  rw [kept_snoc l kind recs hi, ← hr, kept_one hf, adds_snoc]
  exact hM
 ·have h2 := below_trans hB h1
  exact h2.grown hg h2.size (by simp; omega)
theorem bt_skip {w wr w1 : World} {mb i n : Nat} {l : List Stp} {kind : Int} {recs : List Rcd} (hi : i < recs.length) {r : Rcd} (hr : r = recs[i]) (hf : (runS l r).1 ≠ 1) (hn : n = if (runS l r).1 = 3 then 1 else 0)
  (hB : Below w.heap.size w wr) (h1 : Below wr.heap.size wr w1) (hM : Mp wr mb i (batchT l kind (recs.take i))) :
  Bt w mb l kind recs (.int .i64 ((trapN l (recs.take i) + n : Nat) : Int)) (.int .i64 ((i : Int) + 1)) w1 := by
 refine ⟨i + 1, hi, by simp, ?_, ?_, below_trans hB h1⟩
 ·rw [trap_snoc l recs hi, ← hr, hn]
 ·unfold batchT at hM ⊢
  rw [kept_snoc l kind recs hi, ← hr, kept_none hf, List.append_nil]
  exact (World.ownsMap.kept hM (grown_of_below h1) (by simp)).mono (Nat.le_succ _)
theorem take_ok {recs : List Rcd} (h : ∀ r ∈ recs, r.ok) (i : Nat) : ∀ r ∈ recs.take i, r.ok := fun r hr => h r (List.mem_of_mem_take hr)
theorem batch_good {lv rv : Value} {l : List Stp} {kind : Int} {recs : List Rcd} {w : World} (ho : Ov w lv l) (hr : Rv w rv recs) (hc : checkB l = true) (hk : knownB kind = true) (hsz : recs.length * 24 ≤ 281474976710656) :
  Calls Tryz.prog 81 #[lv, .int .i64 kind, rv] w fun e w' => ∃ g, e = .returned (.tuple #[.slice (some ⟨g, 0, none⟩) (batchT l kind recs).length (batchT l kind recs).length, .int .i64 (trapN l recs), .int .i64 0]) ∧
   Mq w' g (batchT l kind recs) ∧ w.heap.size ≤ g ∧ g < w'.heap.size ∧ Below w.heap.size w w' := by
 have HV : Hid (Ov w lv l) := ho
 obtain ⟨⟨ao, cap, rfl, h1, h2, h3, h4⟩, h5⟩ := ho
 obtain ⟨⟨ro, rcap, rfl, r1, r2, r3, r4⟩, r5⟩ := hr
 have HO : Hid (Ol w ao l) := h4
 have HRL : Hid (Rl w ro recs) := r4
 have HRO : Hid (∀ r ∈ recs, r.ok) := r5
 have HL : Hid (l.length ≤ maxLen) := Nat.le_trans h1 h2
 have HSZ : Hid (recs.length * 24 ≤ 281474976710656) := hsz
 have hli : (recs.length : Int) ≤ 11728124029610 := by omega
 have HC : Hid (chkI l = 0) := by show _ = _; unfold chkI; rw [hc]; rfl
 clear h1 h2 h3 h4 h5 r1 r2 r3 r4 r5 hc hsz
 have hmm := @run_makeMap Tryz.prog
 go_in
 go_wp2_with fail
 refine (check_walk HL.out HO.out).mono ?_
 rw [HC.out]
 rintro e w1 ⟨rfl, hB⟩
 have HB1 : Hid (Below w.heap.size w w1) := hB
 clear hB
 go_wp2_with (go_at_call 33; refine (known_walk _ _).mono ?_; rw [hk]; rintro e w9 ⟨rfl, h9⟩; have h9 := h9.symm; subst h9)
 have R0 : Bt w w1.heap.size l kind recs (.int .i64 0) (.int .i64 0) (w1.alloc (.map #[] 0)) :=
  ⟨0, Nat.zero_le _, rfl, by simp [trapN], World.ownsMap_made w1 _ _ _, below_trans HB1.out (below_alloc _ _)⟩
 have HMB : Hid (w.heap.size ≤ w1.heap.size) := HB1.out.size
 clear hmm
 go_loopw [11, 27] (fun tv iv wr => Bt w w1.heap.size l kind recs tv iv wr) (fun _ iv _ => recs.length - (intOf iv).toNat)
 case atStart => exact R0
 case round =>
  clear R0
  obtain ⟨i, hi, rfl, rfl, hM, hB⟩ := hrel
  have HM : Hid (Mp wr w1.heap.size i (batchT l kind (recs.take i))) := hM
  have HB : Hid (Below w.heap.size w wr) := hB
  clear hM hB
  by_cases hlt : i < recs.length
  ·obtain ⟨b, off, rfl, c0, c1⟩ := HRL.out.below HB.out i hlt
   obtain ⟨r, hre⟩ : ∃ r, r = recs[i] := ⟨_, rfl⟩
   rw [← hre] at c0 c1
   have HE : Hid (r = recs[i]) := hre
   have HROK : Hid r.ok := by rw [hre]; exact HRO.out _ (List.getElem_mem hlt)
   clear hre
   obtain ⟨R, hR⟩ : ∃ R, R = runS l r := ⟨_, rfl⟩
   have HR : Hid (R = runS l r) := hR
   have HKO : Hid R.2.ok := by show R.2.ok; rw [hR]; exact runS_ok l HROK.out
   clear hR
   go_wp2_with fail
   refine (run_walkO r HROK.out (HV.out.below (below_trans HB.out (below_alloc _ _)))).mono ?_
   rw [← HR.out]
   rintro e w3 ⟨rfl, hB3⟩
   have HB3 : Hid (Below wr.heap.size wr w3) := below_trans (below_alloc _ _) hB3
   clear hB3
   by_cases hf1 : R.1 = 1
   ·have HF : Hid (R.1 = 1) := hf1
    rw [hf1]
    clear hf1 c0 c1
    have HFF : Hid ((runS l r).1 = 1) := by show _ = _; rw [← HR.out]; exact HF.out
    go_wp2_with fail
    generalize hg5 : w3.alloc (Obj.cells #[.int .u64 R.2.k, .float .f64 R.2.x] 81) = w5
    have HRB : Hid (RB w5 w3.heap.size R.2.k R.2.x) := by show RB _ _ _ _; rw [← hg5]; refine ⟨?_, ?_, ?_, ?_⟩ <;> simp [go_sem]
    have HB5 : Hid (Below wr.heap.size wr w5) := by show Below _ _ _; rw [← hg5]; exact below_trans HB3.out (below_alloc _ _)
    clear hg5
    obtain ⟨q0, q1, _, _⟩ := HRB.out
    have HNM : Hid (i < maxLen) := by show _ < _; simp only [maxLen]; omega
    go_region_with (first
     | (go_at_call 46; refine (aof_walk kind HKO.out.2 _).mono ?_; rintro e w9 ⟨rfl, hB9⟩; have hS9 : Below w5.heap.size w5 w9 := below_trans (by first | assumption | exact (Below.refl _ _).drew) hB9; obtain ⟨d0, d1, _, _⟩ := HRB.out.below hS9 (cell_lt HRB.out.c0))
     | (go_at_call 91; refine (put_walkF kind _ (World.ownsMap.kept HM.out (grown_of_below (below_trans HB5.out (by assumption))) (by simp)) (rise_batch _ _ _) (batch_ok (take_ok HRO.out i)) HNM.out HKO.out.1 (ofV_ok kind HKO.out.2)).mono ?_; rintro e w10 ⟨rfl, hM10, hg10⟩; have R' := bt_keep hlt HE.out HFF.out HMB.out HB.out (below_trans HB5.out hS9) hg10 (by rw [← HR.out]; exact hM10)))
    all_goals go_wp2_with fail
    all_goals go_roundw
    all_goals first
     | exact R'
     | (simp [intOf]; omega)
   ·have HF : Hid ((runS l r).1 ≠ 1) := by show (runS l r).1 ≠ 1; rw [← HR.out]; exact hf1
    have hf1b : (R.1 == 1) = false := by simpa using hf1
    by_cases hf3 : R.1 = 3
    ·have R' := bt_skip (n := 1) hlt HE.out HF.out (by rw [← HR.out, if_pos hf3]) HB.out (below_trans HB3.out (below_alloc w3 (Obj.cells #[.int .u64 R.2.k, .float .f64 R.2.x] 81))) HM.out
     rw [hf3]
     clear hf1 hf1b hf3
     have htr : ((trapN l (recs.take i) : Nat) : Int) ≤ 11728124029610 := by have := trap_le l (recs.take i); simp at this; omega
     go_wp2_with fail
     go_roundw
     case rel => simpa using R'
     case measure => simp [intOf]; omega
    ·have R' := bt_skip (n := 0) hlt HE.out HF.out (by rw [← HR.out, if_neg hf3]) HB.out (below_trans HB3.out (below_alloc w3 (Obj.cells #[.int .u64 R.2.k, .float .f64 R.2.x] 81))) HM.out
     have hf3b : (R.1 == 3) = false := by simpa using hf3
     clear hf1 hf3
     go_wp2_with fail
     go_roundw
     case rel => simpa using R'
     case measure => simp [intOf]; omega
  ·have e : i = recs.length := by omega
   have HT : Hid (recs.take i = recs) := by show _ = _; rw [e]; simp
   have HME : Hid (Mp wr w1.heap.size i (batchT l kind recs)) := by have := HM.out; rw [HT.out] at this; exact this
   have HTR : Hid (trapN l (recs.take i) = trapN l recs) := by show _ = _; rw [HT.out]
   clear e
   go_wp2_with fail
   refine (sorted_walk _ HME.out (rise_batch _ _ _) (batch_ok HRO.out) (by have := batch_len l kind recs; have := HSZ.out; omega)).mono ?_
   rintro e w5 ⟨rfl, hM5, hB5, hl5⟩
   go_wp2_with fail
   refine bodyPost_ret (v := .tuple #[.slice (some ⟨wr.heap.size, 0, none⟩) (batchT l kind recs).length (batchT l kind recs).length, .int .i64 (trapN l (recs.take i)), .int .i64 0]) (by simp [results, Tryz.results81, go_sem]) rfl ?_
   exact ⟨_, by rw [HTR.out], hM5, HB.out.size, hl5, below_trans HB.out hB5⟩
end
section
open Ieee Go.RowKit

def totL (a b : List Pr) (j : Nat) : List Pr := ([a, b].take j).flatten
structure SB (w : World) (b : Nat) (x y : Value) : Prop where
 c0 : w.cell? ⟨b, 0, none⟩ = some x
 c1 : w.cell? ⟨b, 1, none⟩ = some y
theorem SB.grown {w w' : World} {b m : Nat} {x y : Value} (h : SB w b x y) (hg : w.grownBy w' (some m)) (hne : b ≠ m) : SB w' b x y := by
 have hb := hg.block b (cell_lt h.c0) (by simpa using hne)
 exact ⟨by rw [World.cell?_of_block (w := w) hb]; exact h.c0, by rw [World.cell?_of_block (w := w) hb]; exact h.c1⟩
theorem SB.below {w w' : World} {b : Nat} {x y : Value} (h : SB w b x y) (hb : Below w.heap.size w w') : SB w' b x y :=
 ⟨by rw [hb.cell (p := ⟨b, 0, none⟩) (cell_lt h.c0)]; exact h.c0, by rw [hb.cell (p := ⟨b, 1, none⟩) (cell_lt h.c1)]; exact h.c1⟩
def Ad (w : World) (mb pb : Nat) (x y : Value) (kind : Int) (a b : List Pr) (iv : Value) (wr : World) : Prop :=
 ∃ j : Nat, j ≤ 2 ∧ iv = .int .i64 j ∧ Mp wr mb (totL a b j).length (addsT kind [] (totL a b j)) ∧ SB wr pb x y ∧ Below w.heap.size w wr
def Ai (w : World) (mb pb : Nat) (x y : Value) (kind : Int) (tl pl : List Pr) (iv : Value) (wr : World) : Prop :=
 ∃ i : Nat, i ≤ pl.length ∧ iv = .int .i64 i ∧ Mp wr mb (tl.length + i) (addsT kind [] (tl ++ pl.take i)) ∧ SB wr pb x y ∧ Below w.heap.size w wr
theorem tot_step (a b : List Pr) {j : Nat} (hj : j < 2) : totL a b (j + 1) = totL a b j ++ (if j = 0 then a else b) := by
 have : j = 0 ∨ j = 1 := by omega
 rcases this with rfl | rfl <;> simp [totL]
theorem tot_le (a b : List Pr) {j : Nat} (hj : j ≤ 2) : (totL a b j).length ≤ a.length + b.length := by
 have : j = 0 ∨ j = 1 ∨ j = 2 := by omega
 rcases this with rfl | rfl | rfl <;> simp [totL]
theorem tot_ok {a b : List Pr} (ha : okT a) (hb : okT b) (j : Nat) : okT (totL a b j) := by
 intro p hp
 unfold totL at hp
 obtain ⟨l, hl, hpl⟩ := List.mem_flatten.1 hp
 have := List.mem_of_mem_take hl
 simp at this
 rcases this with rfl | rfl
 ·exact ha p hpl
 ·exact hb p hpl
theorem ai_step {w wr w1 w2 : World} {mb pb i : Nat} {x y : Value} {kind : Int} {tl pl : List Pr} {p : Pr} (hi : i < pl.length) (hp : p = pl[i]) (hb : w.heap.size ≤ mb) (hne : pb ≠ mb)
  (hB : Below w.heap.size w wr) (h1 : Below wr.heap.size wr w1) (hg : w1.grownBy w2 (some mb)) (hS : SB wr pb x y) (hM : Mp w2 mb (tl.length + i + 1) (withT kind p.k p.v (addsT kind [] (tl ++ pl.take i)))) :
  Ai w mb pb x y kind tl pl (.int .i64 ((i : Int) + 1)) w2 := by
 refine ⟨i + 1, hi, by simp, ?_, (hS.below h1).grown hg hne, ?_⟩
 ·rw [List.take_succ_eq_append_getElem hi, ← hp, ← List.append_assoc, adds_snoc]
  exact hM
 ·have h2 := below_trans hB h1
  exact h2.grown hg h2.size (by simp; omega)
theorem ok_append {a b : List Pr} (ha : okT a) (hb : okT b) : okT (a ++ b) := fun p hp => by
 rcases List.mem_append.1 hp with h | h
 ·exact ha p h
 ·exact hb p h
theorem ok_take {a : List Pr} (h : okT a) (i : Nat) : okT (a.take i) := fun p hp => h p (List.mem_of_mem_take hp)
theorem Qv.len {w : World} {v : Value} {l : List Pr} (h : Qv w v l) : l.length ≤ maxLen := by
 obtain ⟨⟨ao, cap, e, h1, h2, h3, h4⟩, h5⟩ := h; omega
theorem add_good {av bv : Value} {kind : Int} {a b : List Pr} {w : World} (ha : Qv w av a) (hb : Qv w bv b) (hk : knownB kind = true) (hta : tabB a = true) (htb : tabB b = true) (hsz : (a.length + b.length) * 24 ≤ 281474976710656) :
  Calls Tryz.prog 38 #[.int .i64 kind, av, bv] w fun e w' => ∃ g, e = .returned (.tuple #[.slice (some ⟨g, 0, none⟩) (addT kind a b).length (addT kind a b).length, .int .i64 0]) ∧
   Mq w' g (addT kind a b) ∧ w.heap.size ≤ g ∧ g < w'.heap.size ∧ Below w.heap.size w w' := by
 have HLA : Hid (a.length ≤ maxLen) := ha.len
 have HLB : Hid (b.length ≤ maxLen) := hb.len
 obtain ⟨⟨ao, ca, rfl, _, _, _, a4⟩, a5⟩ := ha
 obtain ⟨⟨bo, cb, rfl, _, _, _, b4⟩, b5⟩ := hb
 have HA : Hid (Ql w ao a) := a4
 have HB : Hid (Ql w bo b) := b4
 have HOA : Hid (okT a) := a5
 have HOB : Hid (okT b) := b5
 have HSZ : Hid ((a.length + b.length) * 24 ≤ 281474976710656) := hsz
 clear a4 b4 a5 b5 hsz
 have hmm := @run_makeMap Tryz.prog
 go_in
 go_wp2_with (go_at_call 33; refine (known_walk _ _).mono ?_; rw [hk]; rintro e w9 ⟨rfl, h9⟩; have h9 := h9.symm; subst h9)
 refine (sound_walk HLA.out HA.out).mono ?_
 rw [hta]
 rintro e w2 ⟨rfl, hB2⟩
 have HB2 : Hid (Below w.heap.size w w2) := hB2
 clear hB2 hta
 go_wp2_with fail
 refine (sound_walk HLB.out (HB.out.below HB2.out)).mono ?_
 rw [htb]
 rintro e w3 ⟨rfl, hB3⟩
 have HB3 : Hid (Below w.heap.size w w3) := below_trans HB2.out hB3
 clear hB3 htb HB2
 go_wp2_with fail
 generalize hg4 : (w3.alloc (.map #[] 0)).alloc (Obj.cells #[.slice ao a.length ca, .slice bo b.length cb] 39) = w4
 have R0 : Ad w w3.heap.size (w3.heap.size + 1) (.slice ao a.length ca) (.slice bo b.length cb) kind a b (.int .i64 0) w4 := by
  rw [← hg4]
  refine ⟨0, by omega, rfl, (World.ownsMap_made w3 _ _ _).alloc _, ⟨?_, ?_⟩, below_trans (below_trans HB3.out (below_alloc _ _)) (below_alloc _ _)⟩ <;> simp [go_sem]
 have HMB : Hid (w.heap.size ≤ w3.heap.size) := HB3.out.size
 clear hmm hg4
 go_loopw [29] (fun iv wr => Ad w w3.heap.size (w3.heap.size + 1) (.slice ao a.length ca) (.slice bo b.length cb) kind a b iv wr) (fun iv _ => 2 - (intOf iv).toNat)
 case atStart => exact R0
 case round =>
  clear R0
  obtain ⟨j, hj, rfl, hM, hS, hBr⟩ := hrel
  have HM := hidH hM
  have HS := hidH hS
  have HBR : Hid (Below w.heap.size w wr) := hBr
  clear hM hS hBr
  by_cases hlt : j < 2
  ·obtain ⟨xo, cx, pl, hpe, hcell, hql, hpo, hpm⟩ : ∃ (xo : Option Addr) (cx : Nat) (pl : List Pr), totL a b (j + 1) = totL a b j ++ pl ∧ wr.cell? ⟨w3.heap.size + 1, j, none⟩ = some (.slice xo pl.length cx) ∧ Ql w xo pl ∧ okT pl ∧ pl.length ≤ 11728124029610 := by
    have hjj : j = 0 ∨ j = 1 := by omega
    have h24 := HSZ.out
    rcases hjj with rfl | rfl
    ·exact ⟨ao, ca, a, tot_step a b hlt, HS.out.c0, HA.out, HOA.out, by omega⟩
    ·exact ⟨bo, cb, b, tot_step a b hlt, HS.out.c1, HB.out, HOB.out, by omega⟩
   have hj2 : (j : Int) < 2 := by omega
   have HPE : Hid (totL a b (j + 1) = totL a b j ++ pl) := hpe
   have HQL : Hid (Ql w xo pl) := hql
   have HPO : Hid (okT pl) := hpo
   have hpi : (pl.length : Int) ≤ 11728124029610 := by omega
   have HTJ : Hid ((totL a b j).length ≤ 11728124029610) := by have := tot_le a b hj; have := HSZ.out; show _ ≤ _; omega
   have HTO : Hid (okT (totL a b j)) := tot_ok HOA.out HOB.out j
   clear hpe hql hpo hpm
   go_wp2_with fail
   have R1 : Ai w w3.heap.size (w3.heap.size + 1) (.slice ao a.length ca) (.slice bo b.length cb) kind (totL a b j) pl (.int .i64 0) wr :=
    ⟨0, Nat.zero_le _, rfl, by simpa using HM.out, HS.out, HBR.out⟩
   clear hcell
   go_loopw [35] (fun iv wq => Ai w w3.heap.size (w3.heap.size + 1) (.slice ao a.length ca) (.slice bo b.length cb) kind (totL a b j) pl iv wq) (fun iv _ => pl.length - (intOf iv).toNat)
   case atStart => exact R1
   case round =>
    clear R1
    obtain ⟨i, hi, rfl, hM, hS, hBq⟩ := hrel
    have HM1 := hidH hM
    have HS1 := hidH hS
    have HBQ : Hid (Below w.heap.size w wr) := hBq
    clear hM hS hBq
    by_cases hil : i < pl.length
    ·obtain ⟨pb, off, rfl, c0, c1, c2⟩ := HQL.out.below HBQ.out i hil
     obtain ⟨p, hpe⟩ : ∃ p, p = pl[i] := ⟨_, rfl⟩
     rw [← hpe] at c0 c1 c2
     have HE : Hid (p = pl[i]) := hpe
     have HPK : Hid p.ok := by show p.ok; rw [hpe]; exact HPO.out _ (List.getElem_mem hil)
     clear hpe
     have HNM : Hid ((totL a b j).length + i < maxLen) := by have := HTJ.out; show _ < _; simp only [maxLen]; omega
     go_wp2_with fail
     refine (put_walkF kind _ (World.ownsMap.alloc HM1.out _) (rise_adds rise_nil _) (ok_adds ok_nil (ok_append HTO.out (ok_take HPO.out i))) HNM.out HPK.out.1 HPK.out.2).mono ?_
     rintro e w5 ⟨rfl, hM5, hg5⟩
     have R' := ai_step hil HE.out HMB.out (by omega) HBQ.out (below_alloc _ _) hg5 HS1.out hM5
     clear hM5 hg5
     go_wp2_with fail
     go_roundw
     case rel => exact R'
     case measure => simp [intOf]; omega
    ·have HME : Hid (Mp wr w3.heap.size (totL a b (j + 1)).length (addsT kind [] (totL a b (j + 1)))) := by
      have := HM1.out
      rw [List.take_of_length_le (by omega)] at this
      show Mp _ _ _ _
      rw [HPE.out]
      have el : i = pl.length := by omega
      rw [List.length_append, ← el]
      exact this
     have R2 : Ad w w3.heap.size (w3.heap.size + 1) (.slice ao a.length ca) (.slice bo b.length cb) kind a b (.int .i64 ((j : Int) + 1)) wr :=
      ⟨j + 1, by omega, by simp, HME.out, HS1.out, HBQ.out⟩
     go_wp2_with fail
     go_roundw
     case rel => exact R2
     case measure => simp [intOf]; omega
  ·have ej : j = 2 := by omega
   subst ej
   have HME : Hid (Mp wr w3.heap.size (a.length + b.length) (addT kind a b)) := by
    have := HM.out
    show Mp _ _ _ _
    unfold addT
    simpa [totL] using this
   go_wp2_with fail
   refine (sorted_walk _ HME.out (rise_adds rise_nil _) (ok_adds ok_nil (ok_append HOA.out HOB.out)) (by have := adds_len kind [] (a ++ b); have := HSZ.out; unfold addT; simp at *; omega)).mono ?_
   rintro e w5 ⟨rfl, hM5, hB5, hl5⟩
   go_wp2_with fail
   go_ret2
   exact ⟨_, rfl, hM5, HBR.out.size, hl5, below_trans HBR.out hB5⟩
end
section
open Go.RowKit

theorem info_u64 : (Tryz.prog.info? 37).map (fun i => (i.zero, i.size, i.bytes)) = some (some (.int .u64 0), 1, 8) := by kernel_rfl
def keyL (l : List Pr) : List Int := l.map fun p => (p.k : Int)
theorem keyL_snoc (l : List Pr) {i : Nat} (hi : i < l.length) : keyL (l.take (i + 1)) = keyL (l.take i) ++ [(l[i].k : Int)] := by
 unfold keyL; rw [List.take_succ_eq_append_getElem hi, List.map_append]; rfl
def Ky (w : World) (l : List Pr) (v iv : Value) (wr : World) : Prop :=
 ∃ i : Nat, i ≤ l.length ∧ iv = .int .i64 i ∧ wr.ownsRow w.heap.size 37 1 v i ((keyL (l.take i)).map (Value.int .u64)) ∧ Below w.heap.size w wr
theorem ky_step {w wr w1 w2 : World} {l : List Pr} {v v' : Value} {i : Nat} {p : Pr} (hi : i < l.length) (hp : p = l[i]) (hB : Below w.heap.size w wr) (h1 : Below wr.heap.size wr w1)
  (hv : w1.ownsRow w.heap.size 37 1 v i ((keyL (l.take i)).map (Value.int .u64))) (hg : w1.grownBy w2 v.ownBlock) (ho : w2.ownsRow w.heap.size 37 1 v' (i + 1) ((keyL (l.take i)).map (Value.int .u64) ++ [(p.k : Int)].map (Value.int .u64))) :
  Ky w l v' (.int .i64 ((i : Int) + 1)) w2 := by
 have h2 := below_trans hB h1
 refine ⟨i + 1, hi, by simp, ?_, h2.grown hg h2.size (fun k hk => (hv.lt k hk).1)⟩
 rw [keyL_snoc l hi, ← hp, List.map_append]
 exact ho
theorem keys_walk {ao : Option Addr} {ca : Nat} {l : List Pr} {w : World} (hl : l.length ≤ 11728124029610) (ha : Ql w ao l) :
  Calls Tryz.prog 82 #[.slice ao l.length ca] w fun e w' => ∃ v, e = .returned v ∧ w'.ownsRow w.heap.size 37 1 v l.length ((keyL l).map (Value.int .u64)) ∧ Below w.heap.size w w' := by
 have hli : (l.length : Int) ≤ 11728124029610 := by omega
 have HA : Hid (Ql w ao l) := ha
 obtain ⟨i0, hi0, hz0, hz1, hz2⟩ := info_partsQ info_u64
 have HI0 : Hid (Tryz.prog.info? 37 = some i0) := hi0
 have HI1 : Hid (i0.zero = some (.int .u64 0)) := hz0
 have HI2 : Hid (i0.size = 1) := hz1
 have HI3 : Hid (i0.bytes = 8) := hz2
 clear ha hl hi0 hz0 hz1 hz2
 go_in
 go_wp2_with (at_make; refine wpList_make_own _ (by rfl) _ _ 38 (by rfl) w.heap.size 37 i0 (.int .u64 0) 1 Tryz.underlying38 HI0.out HI1.out HI2.out .i64 .i64 _ l.length (by rfl) (by rfl) (by rfl) (by rw [HI3.out]; omega) (by simp only [maxLen]; omega) (Nat.le_refl _) ?_; intro w2 hown hgrow)
 have R0 : Ky w l (.slice (some ⟨w.heap.size, 0, none⟩) 0 l.length) (.int .i64 0) w2 := ⟨0, Nat.zero_le _, rfl, hown, (Below.refl _ _).grown hgrow (Nat.le_refl _) (by simp)⟩
 clear hown hgrow
 go_loopw [3, 11] (fun v iv wr => Ky w l v iv wr) (fun _ iv _ => l.length - (intOf iv).toNat)
 case atStart => exact R0
 case round =>
  clear R0
  obtain ⟨i, hi, rfl, hown, hB⟩ := hrel
  have HOW := hidH hown
  have HB : Hid (Below w.heap.size w wr) := hB
  clear hown hB
  by_cases hlt : i < l.length
  ·obtain ⟨b, off, rfl, c0, c1, c2⟩ := HA.out.below HB.out i hlt
   obtain ⟨p, hpe⟩ : ∃ p, p = l[i] := ⟨_, rfl⟩
   rw [← hpe] at c0 c1 c2
   have HE : Hid (p = l[i]) := hpe
   clear hpe
   go_wp2_with (at_builtin; refine wpList_append_sv (by rfl) _ _ 38 (by rfl) w.heap.size 37 .u64 8 Tryz.underlying38 info_u64 _ _ _ (by rfl) ((HOW.out.alloc _).alloc _) _ [(p.k : Int)] (by rfl) (by simpa [go_sem] using sv_one .u64 (wr.alloc (Obj.cells #[.int .u64 p.k, .bool p.v.h, .int .u64 p.v.b] 87)) 37 p.k) (by simp [maxLen]; omega) (by simp; omega) (by have := HB.out.size; simp; omega) ?_; intro v' w4 hown' hgrow)
   have R' := ky_step hlt HE.out HB.out (below_trans (below_alloc wr (Obj.cells #[.int .u64 p.k, .bool p.v.h, .int .u64 p.v.b] 87)) (below_alloc _ (Obj.cells #[.int .u64 p.k] 37))) ((HOW.out.alloc _).alloc _) hgrow hown'
   clear hown' hgrow
   go_wp2_with fail
   go_roundw
   case rel => exact R'
   case measure => simp [intOf]; omega
  ·have e : i = l.length := by omega
   have HEND : Hid (wr.ownsRow w.heap.size 37 1 u3 l.length ((keyL l).map (Value.int .u64))) := by
    have := HOW.out
    rw [e, List.take_length] at this
    exact this
   clear e
   go_wp2_with fail
   go_ret
   exact ⟨_, rfl, HEND.out, HB.out⟩
end
section
open Go.RowKit

def rg40 : List Stp := [⟨11, 40, 0⟩]
theorem rg_check : checkB rg40 = true := by decide
theorem rg_run (r : Rcd) : runS rg40 r = (1, ⟨r.k % 40, canonW r.x⟩) := by
 unfold runS
 rw [rg_check, if_pos rfl]
 rfl
def ptT (k : Int) (recs : List Rcd) : List Pr := batchT rg40 k (recs.take 40)
def ptK (k : Int) (recs : List Rcd) (more : List Nat) : List Nat := uniU ((ptT k recs).map (·.k) ++ (more.take 16).map (· % 40))
theorem low_adds {k : Int} : ∀ (l t : List Pr), (∀ p ∈ l, p.k < 40) → (∀ p ∈ t, p.k < 40 ∧ fitV k p.v = p.v) → ∀ p ∈ addsT k t l, p.k < 40 ∧ fitV k p.v = p.v := by
 intro l
 induction l with
 | nil => intro t _ h; exact h
 | cons a r ih =>
  intro t hl ht
  rw [adds_cons]
  refine ih _ (fun p hp => hl p (by simp [hp])) (fun p hp => ?_)
  unfold withT at hp
  rcases put_mem hp with rfl | hp
  ·exact ⟨hl a (by simp), fit_merge k _ _⟩
  ·exact ht p hp
theorem pt_low {k : Int} {recs : List Rcd} : ∀ p ∈ ptT k recs, p.k < 40 ∧ fitV k p.v = p.v := by
 unfold ptT batchT
 refine low_adds _ _ (fun p hp => ?_) (by simp)
 unfold keptT at hp
 rw [List.mem_filterMap] at hp
 obtain ⟨r, _, e⟩ := hp
 rw [rg_run] at e
 simp at e
 rw [← e]
 exact Nat.mod_lt _ (by omega)
theorem pt_rise (k : Int) (recs : List Rcd) : Rise (ptT k recs) := rise_batch _ _ _
theorem pt_has {k : Int} (hk : knownB k = true) (recs : List Rcd) : hasT (ptT k recs) := has_batch hk _
theorem pt_ok {k : Int} {recs : List Rcd} (h : ∀ r ∈ recs, r.ok) : okT (ptT k recs) := ok_adds ok_nil (kept_ok (take_ok h 40))
theorem pt_len (k : Int) (recs : List Rcd) : (ptT k recs).length ≤ 40 := by
 have h1 : ((ptT k recs).map (·.k)).Nodup := by
  unfold List.Nodup
  rw [List.pairwise_map]
  exact (pt_rise k recs).imp (fun h => by omega)
 have := nodup_lt 40 _ h1 (fun x hx => by obtain ⟨p, hp, rfl⟩ := List.mem_map.1 hx; exact (pt_low p hp).1)
 simpa using this
theorem ris_of : ∀ {l : List Nat} {o : Option Nat}, RiseK l → (∀ j, o = some j → ∀ x ∈ l, j < x) → risE o l = true := by
 intro l
 induction l with
 | nil => intro o _ _; rfl
 | cons a r ih =>
  intro o h ho
  obtain ⟨h1, h2⟩ := List.pairwise_cons.1 h
  rw [risE, Bool.and_eq_true]
  refine ⟨?_, ih h2 (fun j hj x hx => by cases hj; exact h1 x hx)⟩
  cases o with
  | none => rfl
  | some j => exact decide_eq_true (ho j rfl a (by simp))
theorem uni_ris (l : List Nat) : risB (uniU l) = true := by
 have h := rise_uni l
 unfold risB
 exact ris_of h (by simp)
theorem rise_len {l : List Nat} {n : Nat} (h : RiseK l) (hl : ∀ x ∈ l, x < n) : l.length ≤ n := nodup_lt n l (h.imp (fun h => by omega)) hl
theorem ptK_low {k : Int} {recs : List Rcd} {more : List Nat} : ∀ x ∈ ptK k recs more, x < 40 := by
 intro x hx
 unfold ptK at hx
 rw [mem_uni, List.mem_append] at hx
 rcases hx with hx | hx
 ·obtain ⟨p, hp, rfl⟩ := List.mem_map.1 hx; exact (pt_low p hp).1
 ·obtain ⟨y, _, rfl⟩ := List.mem_map.1 hx; exact Nat.mod_lt _ (by omega)
theorem ptK_len (k : Int) (recs : List Rcd) (more : List Nat) : (ptK k recs more).length ≤ 64 := Nat.le_trans (rise_len (rise_uni _) ptK_low) (by omega)
theorem ptK_ris (k : Int) (recs : List Rcd) (more : List Nat) : risB (ptK k recs more) = true := uni_ris _
theorem ptK_ok (k : Int) (recs : List Rcd) (more : List Nat) : keysOk (ptK k recs more) := fun x hx => by have := ptK_low x hx; omega
theorem pt_ta {k : Int} (hk : knownB k = true) {recs : List Rcd} (h : ∀ r ∈ recs, r.ok) (b a : Int) (more : List Nat) : Ta k ⟨b, a, ptK k recs more⟩ (ptT k recs) :=
 ⟨pt_rise k recs, fun p hp => ⟨by show p.k ∈ ptK k recs more; unfold ptK; rw [mem_uni, List.mem_append]; exact .inl (List.mem_map.2 ⟨p, hp, rfl⟩), (pt_low p hp).1, (pt_ok h p hp).2, (pt_low p hp).2, pt_has hk recs p hp⟩⟩
def PtGot (k : Int) (recs : List Rcd) (more : List Nat) (w : World) (e : Ending) (w' : World) : Prop :=
 ∃ tv kv, e = .returned (.tuple #[tv, kv]) ∧ Qv w' tv (ptT k recs) ∧ (∀ x, tv.ownBlock = some x → w.heap.size ≤ x ∧ x < w'.heap.size) ∧ w'.ownsRow w.heap.size 37 1 kv (ptK k recs more).length ((ib (ptK k recs more)).map (Value.int .u64)) ∧ Below w.heap.size w w'
theorem rv_take {w : World} {ao : Option Addr} {n cap : Nat} {l : List Rcd} (h : Rv w (.slice ao n cap) l) {m : Nat} (hm : m ≤ n) : Rv w (.slice ao m cap) (l.take m) := by
 obtain ⟨⟨ao', cap', e, h1, h2, h3, h4⟩, h5⟩ := h
 cases e
 refine ⟨⟨ao, cap, by rw [List.length_take, Nat.min_eq_left hm], by rw [List.length_take]; omega, h2, h3, fun i hi => ?_⟩, fun r hr => h5 r (List.mem_of_mem_take hr)⟩
 obtain ⟨b, off, e1, e2⟩ := h4 i (by rw [List.length_take] at hi; omega)
 exact ⟨b, off, e1, by rw [List.getElem_take]; exact e2⟩
end
end Go.Proofs.YtofkhgokfdpdiaaGreat
