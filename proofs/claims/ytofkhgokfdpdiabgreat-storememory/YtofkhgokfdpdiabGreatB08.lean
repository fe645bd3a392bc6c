/- Keys and marks in memory; contracts of Rising, counted, Sound, Compare, Judge, the program's and the reference's. -/
import Derived.Test.YtofkhgokfdpdiabGreatB07
import Derived.Test.YtofkhgokfdpdiabGreatB06
import Derived.Test.YtofkhgokfdpdiabGreatB01
import Derived.Test.YtofkhgokfdpdiabGreatB02
import Derived.Lib.Hide
import Derived.Deep.QuietTactic
import Derived.BigQuiet
import Derived.Deep.RegionHeld3
import Derived.Deep.DeepCutAuto
set_option maxRecDepth 100000
set_option maxHeartbeats 16000000
namespace Go.Proofs.YtofkhgokfdpdiabGreat
section
structure Mk where
 b : Int
 a : Int
 k : List Nat
def zeroM : Mk := ⟨0, 0, []⟩
def keysOk (l : List Nat) : Prop := ∀ x ∈ l, x < 18446744073709551616
def folN (o : Option Nat) (k : Nat) : Bool := match o with
 | none => true
 | some j => decide (j < k)
def risE : Option Nat → List Nat → Bool
 | _, [] => true
 | o, c :: r => folN o c && risE (some c) r
def risB (l : List Nat) : Bool := risE none l
def cntB (x : Int) : Bool := decide (0 ≤ x) && decide (x ≤ 1099511627776)
def soundBM (m : Mk) : Bool := cntB m.b && (cntB m.a && (if m.b = 0 ∨ m.a = 0 then decide (m.b = m.a) && decide (m.k.length = 0) else decide (m.k.length ≤ 64) && risB m.k))
def bytesM (m : Mk) : List Nat := Wm.enc m.b.toNat ++ (Wm.enc m.a.toNat ++ (Wm.enc m.k.length ++ Wm.encAll m.k))
def encM (m : Mk) : List Nat × Nat := if soundBM m = true then (bytesM m, 0) else ([], 1)
def cntL (l : List Nat) : Nat × Nat × List Nat :=
 if (Wm.take l).2.2 ≠ 0 then ((Wm.take l).2.2, 0, []) else if 1099511627776 < (Wm.take l).1 then (4, 0, []) else (0, (Wm.take l).1, l.drop (Wm.take l).2.1)
def keyS : Nat → List Nat → Nat × List Nat × List Nat
 | 0, l => (0, [], l)
 | n + 1, l => if (Wm.take l).2.2 ≠ 0 then ((Wm.take l).2.2, [], []) else
   if (keyS n (l.drop (Wm.take l).2.1)).1 ≠ 0 then ((keyS n (l.drop (Wm.take l).2.1)).1, [], []) else
   (0, (Wm.take l).1 :: (keyS n (l.drop (Wm.take l).2.1)).2.1, (keyS n (l.drop (Wm.take l).2.1)).2.2)
def decE (b a : Nat) (r : Nat × List Nat × List Nat) : Mk × Nat :=
 if r.1 ≠ 0 then (zeroM, r.1) else if r.2.2.length ≠ 0 then (zeroM, 5) else if soundBM ⟨b, a, r.2.1⟩ = false then (zeroM, 1) else (⟨b, a, r.2.1⟩, 0)
def decK (b a : Nat) (l : List Nat) : Mk × Nat :=
 if (Wm.take l).2.2 ≠ 0 then (zeroM, (Wm.take l).2.2) else if 64 < (Wm.take l).1 then (zeroM, 6) else decE b a (keyS (Wm.take l).1 (l.drop (Wm.take l).2.1))
def decA (b : Nat) (l : List Nat) : Mk × Nat := if (cntL l).1 ≠ 0 then (zeroM, (cntL l).1) else decK b (cntL l).2.1 (cntL l).2.2
def decM (l : List Nat) : Mk × Nat := if (cntL l).1 ≠ 0 then (zeroM, (cntL l).1) else decA (cntL l).2.1 (cntL l).2.2
theorem drop_enc (x : Nat) (r : List Nat) : (Wm.enc x ++ r).drop (Wm.enc x).length = r := by simp
theorem cnt_parts {x : Int} (h : cntB x = true) : 0 ≤ x ∧ x ≤ 1099511627776 := by
 simpa [cntB] using h
theorem sound_parts {m : Mk} (h : soundBM m = true) : 0 ≤ m.b ∧ m.b ≤ 1099511627776 ∧ 0 ≤ m.a ∧ m.a ≤ 1099511627776 ∧ m.k.length ≤ 64 := by
 simp only [soundBM, Bool.and_eq_true] at h
 obtain ⟨h1, h2, h3⟩ := h
 have c1 := cnt_parts h1
 have c2 := cnt_parts h2
 refine ⟨c1.1, c1.2, c2.1, c2.2, ?_⟩
 split at h3
 ·simp at h3; rw [h3.2]; simp
 ·simp at h3; exact h3.1
theorem encAll_ltM (l : List Nat) (h : keysOk l) : ∀ c ∈ Wm.encAll l, c < 256 := by
 induction l with
 | nil => simp [Wm.encAll]
 | cons x l ih =>
  intro c hc
  simp only [Wm.encAll, List.mem_append] at hc
  rcases hc with hc | hc
  ·exact Wm.enc_lt x (h x (by simp)) c hc
  ·exact ih (fun y hy => h y (by simp [hy])) c hc
theorem bytesM_lt {m : Mk} (h : soundBM m = true) (hk : keysOk m.k) : ∀ c ∈ bytesM m, c < 256 := by
 have hp := sound_parts h
 intro c hc
 simp only [bytesM, List.mem_append] at hc
 rcases hc with hc | hc | hc | hc
 ·exact Wm.enc_lt _ (by omega) c hc
 ·exact Wm.enc_lt _ (by omega) c hc
 ·exact Wm.enc_lt _ (by omega) c hc
 ·exact encAll_ltM _ hk c hc
theorem cnt_of {x : Nat} (h : x ≤ 1099511627776) (r : List Nat) : cntL (Wm.enc x ++ r) = (0, x, r) := by
 simp only [cntL, Wm.take_enc x r (by omega)]
 rw [if_neg (by simp), if_neg (by omega), drop_enc]
theorem key_of {ks : List Nat} : ∀ {r : List Nat}, keysOk ks → keyS ks.length (Wm.encAll ks ++ r) = (0, ks, r) := by
 induction ks with
 | nil => intro r _; rfl
 | cons x ks ih =>
  intro r hk
  have hx := hk x (by simp)
  have e : Wm.encAll (x :: ks) ++ r = Wm.enc x ++ (Wm.encAll ks ++ r) := by simp [Wm.encAll]
  have i1 := ih (r := r) (fun y hy => hk y (by simp [hy]))
  rw [e]
  simp only [List.length_cons, keyS, Wm.take_enc x _ hx, drop_enc, i1]
  simp
theorem formM_there {m : Mk} (h : soundBM m = true) (hk : keysOk m.k) (r : List Nat) : decM (bytesM m ++ r) = if r.length ≠ 0 then (zeroM, 5) else (m, 0) := by
 have hp := sound_parts h
 have e : bytesM m ++ r = Wm.enc m.b.toNat ++ (Wm.enc m.a.toNat ++ (Wm.enc m.k.length ++ (Wm.encAll m.k ++ r))) := by simp [bytesM]
 rw [e]
 simp only [decM, cnt_of (show m.b.toNat ≤ 1099511627776 by omega), decA, cnt_of (show m.a.toNat ≤ 1099511627776 by omega), decK, Wm.take_enc m.k.length _ (show m.k.length < 18446744073709551616 by omega), drop_enc, key_of hk, decE]
 have e1 : ((m.b.toNat : Nat) : Int) = m.b := by omega
 have e2 : ((m.a.toNat : Nat) : Int) = m.a := by omega
 rw [e1, e2, if_neg (by simp), if_neg (by simp), if_neg (by simp), if_neg (by omega), if_neg (by simp)]
 split
 ·rfl
 ·rw [if_neg (by have : soundBM ⟨m.b, m.a, m.k⟩ = true := h; simp [this])]
theorem cnt_back {l : List Nat} (hl : ∀ c ∈ l, c < 256) (h : (cntL l).1 = 0) : l = Wm.enc (cntL l).2.1 ++ (cntL l).2.2 ∧ (cntL l).2.1 ≤ 1099511627776 := by
 obtain ⟨x, n, e, ht⟩ : ∃ x n e, Wm.take l = (x, n, e) := ⟨_, _, _, rfl⟩
 simp only [cntL, ht] at h ⊢
 by_cases h0 : e = 0
 ·subst h0
  rw [if_neg (by simp)] at h ⊢
  by_cases h1 : 1099511627776 < x
  ·rw [if_pos h1] at h; simp at h
  ·rw [if_neg h1] at h ⊢
   exact ⟨(take_cut hl ht).1, by show x ≤ _; omega⟩
 ·rw [if_pos h0] at h; simp at h; omega
theorem key_back {n : Nat} : ∀ {l : List Nat}, (∀ c ∈ l, c < 256) → (keyS n l).1 = 0 → l = Wm.encAll (keyS n l).2.1 ++ (keyS n l).2.2 ∧ (keyS n l).2.1.length = n ∧ keysOk (keyS n l).2.1 := by
 induction n with
 | zero => intro l hl _; simp [keyS, Wm.encAll, keysOk]
 | succ n ih =>
  intro l hl h
  obtain ⟨x, q, e, ht⟩ : ∃ x n e, Wm.take l = (x, n, e) := ⟨_, _, _, rfl⟩
  simp only [keyS, ht] at h ⊢
  by_cases h0 : e = 0
  ·subst h0
   rw [if_neg (by simp)] at h ⊢
   by_cases h1 : (keyS n (l.drop q)).1 = 0
   ·rw [if_neg (by simpa using h1)] at h ⊢
    obtain ⟨i1, i2, i3⟩ := ih (l := l.drop q) (fun c hc => hl c (List.mem_of_mem_drop hc)) h1
    obtain ⟨t1, t2, _⟩ := take_cut hl ht
    refine ⟨?_, by simp [i2], ?_⟩
    ·show l = Wm.enc x ++ Wm.encAll (keyS n (l.drop q)).2.1 ++ (keyS n (l.drop q)).2.2
     rw [List.append_assoc, ← i1]; exact t1
    ·intro y hy
     rcases List.mem_cons.1 hy with rfl | hy
     ·exact t2
     ·exact i3 y hy
   ·rw [if_pos h1] at h; exact absurd h h1
  ·rw [if_pos h0] at h; exact absurd h h0
theorem formM_back {l : List Nat} (hl : ∀ c ∈ l, c < 256) (h : (decM l).2 = 0) : soundBM (decM l).1 = true ∧ encM (decM l).1 = (l, 0) ∧ keysOk (decM l).1.k := by
 unfold decM at h ⊢
 by_cases h1 : (cntL l).1 = 0
 ·rw [if_neg (by simpa using h1)] at h ⊢
  obtain ⟨c1, c2⟩ := cnt_back hl h1
  generalize (cntL l).2.1 = B at h c1 c2 ⊢
  generalize (cntL l).2.2 = l1 at h c1 ⊢
  have hl1 : ∀ c ∈ l1, c < 256 := fun c hc => hl c (by rw [c1]; simp [hc])
  unfold decA at h ⊢
  by_cases h2 : (cntL l1).1 = 0
  ·rw [if_neg (by simpa using h2)] at h ⊢
   obtain ⟨d1, d2⟩ := cnt_back hl1 h2
   generalize (cntL l1).2.1 = A at h d1 d2 ⊢
   generalize (cntL l1).2.2 = l2 at h d1 ⊢
   have hl2 : ∀ c ∈ l2, c < 256 := fun c hc => hl1 c (by rw [d1]; simp [hc])
   obtain ⟨x, q, e, ht⟩ : ∃ x n e, Wm.take l2 = (x, n, e) := ⟨_, _, _, rfl⟩
   simp only [decK, ht] at h ⊢
   by_cases h3 : e = 0
   ·subst h3
    rw [if_neg (by simp)] at h ⊢
    obtain ⟨t1, t2, _⟩ := take_cut hl2 ht
    by_cases h4 : 64 < x
    ·rw [if_pos h4] at h; simp at h
    ·rw [if_neg h4] at h ⊢
     unfold decE at h ⊢
     by_cases h5 : (keyS x (l2.drop q)).1 = 0
     ·rw [if_neg (by simpa using h5)] at h ⊢
      obtain ⟨k1, k2, k3⟩ := key_back (l := l2.drop q) (fun c hc => hl2 c (List.mem_of_mem_drop hc)) h5
      generalize (keyS x (l2.drop q)).2.1 = ks at h k1 k2 k3 ⊢
      generalize (keyS x (l2.drop q)).2.2 = rest at h k1 ⊢
      by_cases h6 : rest.length = 0
      ·rw [if_neg (by simpa using h6)] at h ⊢
       have hr : rest = [] := List.eq_nil_of_length_eq_zero h6
       cases h7 : soundBM ⟨B, A, ks⟩
       ·rw [if_pos h7] at h; simp at h
       ·rw [if_neg (by simp)]
        refine ⟨h7, ?_, k3⟩
        unfold encM
        rw [if_pos h7]
        have e1 : bytesM ⟨B, A, ks⟩ = Wm.enc B ++ (Wm.enc A ++ (Wm.enc ks.length ++ Wm.encAll ks)) := by simp [bytesM]
        rw [e1, k2]
        have e2 : l2.drop q = Wm.encAll ks := by rw [k1, hr]; simp
        rw [← e2, ← t1, ← d1, ← c1]
      ·rw [if_pos h6] at h; simp at h
     ·rw [if_pos h5] at h; exact absurd h h5
   ·rw [if_pos h3] at h; exact absurd h h3
  ·rw [if_pos h2] at h; exact absurd h h2
 ·rw [if_pos h1] at h; exact absurd h h1
theorem decM_bad {l : List Nat} (h : (decM l).2 ≠ 0) : (decM l).1 = zeroM := by
 unfold decM decA decK decE at *
 repeat' split
 all_goals first | rfl | skip
 all_goals simp_all
end
section
open Go.RowKit

def lastN (l : List Nat) : Option Nat := l.getLast?
theorem lastN_snoc (q : List Nat) (c : Nat) : lastN (q ++ [c]) = some c := by simp [lastN]
theorem lastN_take {l : List Nat} {i : Nat} (hi : i < l.length) : lastN (l.take (i + 1)) = some l[i] := by
 rw [List.take_succ_eq_append_getElem hi, lastN_snoc]
theorem ris_start {l : List Nat} (hp : 0 < l.length) : risE (lastN (l.take 1)) (l.drop 1) = risB l := by
 cases l with
 | nil => simp at hp
 | cons c r => simp [risB, risE, folN, lastN]
theorem ris_step {l : List Nat} {i : Nat} (hi : i < l.length) (h : risE (lastN (l.take i)) (l.drop i) = risB l) (hf : folN (lastN (l.take i)) l[i] = true) : risE (lastN (l.take (i + 1))) (l.drop (i + 1)) = risB l := by
 rw [List.drop_eq_getElem_cons hi, risE, hf, Bool.true_and] at h
 rw [lastN_take hi]
 exact h
theorem ris_stop {l : List Nat} {i : Nat} (hi : i < l.length) (h : risE (lastN (l.take i)) (l.drop i) = risB l) (hf : folN (lastN (l.take i)) l[i] = false) : risB l = false := by
 rw [List.drop_eq_getElem_cons hi, risE, hf, Bool.false_and] at h
 exact h.symm
theorem ris_end {l : List Nat} {i : Nat} (hi : l.length ≤ i) (h : risE (lastN (l.take i)) (l.drop i) = risB l) : risB l = true := by
 rw [List.drop_eq_nil_of_le hi, risE] at h
 exact h.symm
abbrev Kv (w : World) (v : Value) (l : List Nat) : Prop := Sv .u64 w v (ib l)
theorem kv_form {w : World} {v : Value} {l : List Nat} (h : Kv w v l) : ∃ ao cap, v = .slice ao l.length cap ∧ l.length ≤ cap ∧ cap ≤ maxLen := by
 obtain ⟨ao, cap, e, h1, h2, _⟩ := h
 rw [ib_len] at e h1
 exact ⟨ao, cap, e, h1, h2⟩
theorem kv_cases {w : World} {v : Value} {l : List Nat} (h : Kv w v l) :
  (l = [] ∧ ∃ ao cap, v = .slice ao 0 cap) ∨ ∃ b off cap, v = .slice (some ⟨b, off, none⟩) l.length cap ∧ 0 < l.length ∧ l.length ≤ cap ∧ cap ≤ maxLen ∧
   ∀ i, (hi : i < l.length) → w.cell? ⟨b, off + i, none⟩ = some (.int .u64 (l[i] : Nat)) := by
 obtain ⟨ao, cap, rfl, h1, h2, h3, h4⟩ := h
 rw [ib_len] at h1
 rw [ib_len]
 by_cases h0 : l = []
 ·subst h0; exact .inl ⟨rfl, ao, cap, rfl⟩
 ·have hp := List.length_pos_iff.2 h0
  obtain ⟨b, off, rfl, _⟩ := h4 0 (by rw [ib_len]; exact hp)
  refine .inr ⟨b, off, cap, rfl, hp, h1, h2, fun i hi => ?_⟩
  obtain ⟨b', off', e1, e2⟩ := h4 i (by rw [ib_len]; exact hi)
  cases e1
  rw [e2]
  simp [ib, List.getD, hi]
structure MB (w : World) (P : Nat) (b a : Int) (v : Value) : Prop where
 c0 : w.cell? ⟨P, 0, none⟩ = some (.int .i64 b)
 c1 : w.cell? ⟨P, 1, none⟩ = some (.int .i64 a)
 c2 : w.cell? ⟨P, 2, none⟩ = some v
 z : ∀ j, w.frozen? ⟨P, j, none⟩ = false
theorem MB.keep {w w' : World} {P : Nat} {b a : Int} {v : Value} (h : MB w P b a v) (hb : Below w.heap.size w w') : MB w' P b a v := by
 have hl := cell_lt h.c0
 exact ⟨by rw [hb.cell (p := ⟨P, 0, none⟩) hl]; exact h.c0, by rw [hb.cell (p := ⟨P, 1, none⟩) hl]; exact h.c1, by rw [hb.cell (p := ⟨P, 2, none⟩) hl]; exact h.c2, fun j => by rw [hb.frozen (p := ⟨P, j, none⟩) hl]; exact h.z j⟩
theorem mb_new (w : World) (b a : Int) (v : Value) : MB (w.alloc (Obj.cells #[.int .i64 b, .int .i64 a, v] 42)) w.heap.size b a v := by
 constructor <;> simp [go_sem]
theorem ris_some (l : List Nat) (b off cap : Nat) (w : World) (hl : l.length ≤ cap) (hcap : cap ≤ maxLen) (hp : 0 < l.length) (hc : ∀ i, (hi : i < l.length) → w.cell? ⟨b, off + i, none⟩ = some (.int .u64 (l[i] : Nat))) :
  Calls Tryz.prog 33 #[.slice (some ⟨b, off, none⟩) l.length cap] w fun e w' => e = .returned (.bool (risB l)) ∧ Below w.heap.size w w' := by
 unfold maxLen at hcap
 have hli : (l.length : Int) ≤ 9223372036854775807 := by omega
 have HC : Hid (∀ i, (hi : i < l.length) → w.cell? ⟨b, off + i, none⟩ = some (.int .u64 (l[i] : Nat))) := hc
 have HP : Hid (0 < l.length) := hp
 clear hc hcap hl hp
 go_in
 go_wp2_with fail
 go_loopw [3] (fun iv wr => ∃ i : Nat, iv = .int .i64 i ∧ 1 ≤ i ∧ i ≤ l.length ∧ risE (lastN (l.take i)) (l.drop i) = risB l ∧ Below w.heap.size w wr) (fun iv _ => l.length - (intOf iv).toNat)
 case atStart => exact ⟨1, rfl, by omega, HP.out, ris_start HP.out, Below.refl _ _⟩
 case round =>
  obtain ⟨i, rfl, hi1, hil, hord, hbel⟩ := hrel
  have HO : Hid (risE (lastN (l.take i)) (l.drop i) = risB l) := hord
  have HB := hidH hbel
  clear hord hbel
  by_cases hlt : i < l.length
  ·obtain ⟨j, rfl⟩ : ∃ j, i = j + 1 := ⟨i - 1, by omega⟩
   have hA := HC.out (j + 1) hlt
   have hD := HC.out j (by omega)
   have hA2 : wr.cell? ⟨b, off + (j + 1), none⟩ = some (.int .u64 (l[j + 1] : Nat)) := by rw [HB.out.cell (p := ⟨b, off + (j + 1), none⟩) (cell_lt hA)]; exact hA
   have hD2 : wr.cell? ⟨b, off + j, none⟩ = some (.int .u64 (l[j] : Nat)) := by rw [HB.out.cell (p := ⟨b, off + j, none⟩) (cell_lt hD)]; exact hD
   have HLK : Hid (lastN (l.take (j + 1)) = some l[j]) := lastN_take (by omega)
   obtain ⟨c, hcd⟩ : ∃ c, l[j + 1] = c := ⟨_, rfl⟩
   obtain ⟨d, hdd⟩ : ∃ d, l[j] = d := ⟨_, rfl⟩
   rw [hcd] at hA2
   rw [hdd] at hD2 HLK
   have HCD : Hid (l[j + 1] = c) := hcd
   clear hcd hdd hA hD
   have hlti : ((j + 1 : Nat) : Int) < (l.length : Int) := by omega
   have hltj : (j : Int) < (l.length : Int) := by omega
   have hjj : ((j + 1 : Nat) : Int) - 1 = (j : Int) := by omega
   by_cases hk : c ≤ d
   ·have hki : (c : Int) ≤ (d : Int) := by omega
    have HR : Hid (risB l = false) := ris_stop hlt HO.out (by rw [HLK.out, HCD.out]; simp [folN]; omega)
    go_wp2_with fail
    go_quiet (fail)
    go_wp2_with fail
    go_ret
    exact ⟨by rw [HR.out]; rfl, below_trans HB.out (below_drewN _ _)⟩
   ·have hki : ¬ (c : Int) ≤ (d : Int) := by omega
    have HR : Hid (risE (lastN (l.take (j + 1 + 1))) (l.drop (j + 1 + 1)) = risB l) := ris_step hlt HO.out (by rw [HLK.out, HCD.out]; simp [folN]; omega)
    go_wp2_with fail
    go_quiet (fail)
    have HB2 : Hid (Below w.heap.size w (wr.drewN nq)) := below_trans HB.out (below_drewN _ _)
    go_wp2_with fail
    go_roundw
    case rel => exact ⟨j + 1 + 1, by go_num, by omega, by omega, HR.out, HB2.out⟩
    case measure => simp [intOf]; omega
  ·have hlti : ¬ (i : Int) < (l.length : Int) := by omega
   have HR : Hid (risB l = true) := ris_end (by omega) HO.out
   go_wp2_with fail
   go_ret
   exact ⟨by rw [HR.out]; rfl, HB.out⟩
theorem ris_none (ao : Option Addr) (cap : Nat) (w : World) :
  Calls Tryz.prog 33 #[.slice ao 0 cap] w fun e w' => e = .returned (.bool true) ∧ Below w.heap.size w w' := by
 go_in
 go_wp2
 refine wp_loop_rounds 1 ?_
 rw [rounds_succ]
 go_wp2
 go_ret
 exact ⟨rfl, Below.refl _ _⟩
theorem ris_walk {w : World} {v : Value} {l : List Nat} (h : Kv w v l) :
  Calls Tryz.prog 33 #[v] w fun e w' => e = .returned (.bool (risB l)) ∧ Below w.heap.size w w' := by
 rcases kv_cases h with ⟨rfl, ao, cap, rfl⟩ | ⟨b, off, cap, rfl, hp, h1, h2, h3⟩
 ·exact ris_none ao cap w
 ·exact ris_some l b off cap w h1 h2 hp h3
theorem counted_walk (x : Int) (w : World) :
  Calls Tryz.prog 109 #[.int .i64 x] w fun e w' => e = .returned (.bool (cntB x)) ∧ w' = w := by
 by_cases h1 : 0 ≤ x
 ·by_cases h2 : x ≤ 1099511627776
  ·have e : cntB x = true := by simp [cntB, h1, h2]
   rw [e]
   go_in
   go_wp2_with fail
   go_ret
   exact ⟨rfl, rfl⟩
  ·have e : cntB x = false := by simp [cntB]; omega
   rw [e]
   go_in
   go_wp2_with fail
   go_ret
   exact ⟨rfl, rfl⟩
 ·have e : cntB x = false := by simp [cntB]; omega
  rw [e]
  go_in
  go_wp2_with fail
  go_ret
  exact ⟨rfl, rfl⟩
theorem sound_nb {b a : Int} {k : List Nat} (h : cntB b = false) : soundBM ⟨b, a, k⟩ = false := by simp [soundBM, h]
theorem sound_na {b a : Int} {k : List Nat} (h : cntB a = false) : soundBM ⟨b, a, k⟩ = false := by simp [soundBM, h]
theorem sound_zero {b a : Int} {k : List Nat} (h1 : cntB b = true) (h2 : cntB a = true) (h : b = 0 ∨ a = 0) : soundBM ⟨b, a, k⟩ = (decide (b = a) && decide (k.length = 0)) := by simp only [soundBM, h1, h2, Bool.true_and, if_pos h]
theorem sound_some {b a : Int} {k : List Nat} (h1 : cntB b = true) (h2 : cntB a = true) (h : ¬ (b = 0 ∨ a = 0)) : soundBM ⟨b, a, k⟩ = (decide (k.length ≤ 64) && risB k) := by simp only [soundBM, h1, h2, Bool.true_and, if_neg h]
theorem sound_walkM {w : World} {v : Value} {k : List Nat} (h : Kv w v k) (b a : Int) :
  Calls Tryz.prog 64 #[.agg #[.int .i64 b, .int .i64 a, v]] w fun e w' => e = .returned (.bool (soundBM ⟨b, a, k⟩)) ∧ Below w.heap.size w w' := by
 have HB : Hid (Below w.heap.size w (w.alloc (Obj.cells #[.int .i64 b, .int .i64 a, v] 42))) := below_alloc _ _
 have HV : Hid (Kv (w.alloc (Obj.cells #[.int .i64 b, .int .i64 a, v] 42)) v k) := h.below (below_alloc _ _)
 obtain ⟨ao, cap, hv, hk1, hk2⟩ := kv_form h
 obtain ⟨n, hn⟩ : ∃ n, n = k.length := ⟨_, rfl⟩
 rw [← hn] at hv
 subst hv
 clear h hk1 hk2
 cases h1 : cntB b
 ·rw [sound_nb h1]
  clear hn
  go_in
  go_wp2_with fail
  refine (counted_walk b _).mono ?_
  rw [h1]
  rintro e w2 ⟨rfl, hw2⟩
  replace hw2 := hw2.symm
  subst hw2
  go_wp2_with fail
  go_ret
  exact ⟨rfl, HB.out⟩
 cases h2 : cntB a
 ·rw [sound_na h2]
  clear hn
  go_in
  go_wp2_with fail
  refine (counted_walk b _).mono ?_
  rw [h1]
  rintro e w2 ⟨rfl, hw2⟩
  replace hw2 := hw2.symm
  subst hw2
  go_wp2_with fail
  refine (counted_walk a _).mono ?_
  rw [h2]
  rintro e w2 ⟨rfl, hw2⟩
  replace hw2 := hw2.symm
  subst hw2
  go_wp2_with fail
  go_ret
  exact ⟨rfl, HB.out⟩
 have main : ∀ (r : Bool), soundBM ⟨b, a, k⟩ = r → (∀ K : Prop, K → K) → Calls Tryz.prog 64 #[.agg #[.int .i64 b, .int .i64 a, .slice ao n cap]] w fun e w' => e = .returned (.bool r) ∧ Below w.heap.size w w' := by
  intro r hr _
  by_cases h0 : b = 0 ∨ a = 0
  ·rw [sound_zero h1 h2 h0] at hr
   have hbz : (b == 0 || a == 0) = true := by rcases h0 with h | h <;> simp [h]
   by_cases hb : b = 0
   ·have hb0 : (b == 0) = true := by simp [hb]
    by_cases ha : b = a
    ·have hba : (b == a) = true := by simp [ha]
     have hr2 : ((n : Int) == 0) = r := by
      rw [← hr, show decide (b = a) = true from decide_eq_true ha, Bool.true_and, hn]
      by_cases q : k.length = 0
      ·rw [q]; rfl
      ·rw [decide_eq_false q, beq_eq_false_iff_ne]; omega
     clear hbz h0 hb ha hr hn
     go_in
     go_wp2_with fail
     refine (counted_walk b _).mono ?_
     rw [h1]
     rintro e w2 ⟨rfl, hw2⟩
     replace hw2 := hw2.symm
     subst hw2
     go_wp2_with fail
     refine (counted_walk a _).mono ?_
     rw [h2]
     rintro e w2 ⟨rfl, hw2⟩
     replace hw2 := hw2.symm
     subst hw2
     go_wp2_with fail
     go_ret
     exact ⟨rfl, HB.out⟩
    ·have hba : (b == a) = false := by simp [ha]
     have hr2 : r = false := by rw [← hr]; simp [ha]
     subst hr2
     clear hbz h0 hb ha hr hn
     go_in
     go_wp2_with fail
     refine (counted_walk b _).mono ?_
     rw [h1]
     rintro e w2 ⟨rfl, hw2⟩
     replace hw2 := hw2.symm
     subst hw2
     go_wp2_with fail
     refine (counted_walk a _).mono ?_
     rw [h2]
     rintro e w2 ⟨rfl, hw2⟩
     replace hw2 := hw2.symm
     subst hw2
     go_wp2_with fail
     go_ret
     exact ⟨rfl, HB.out⟩
   ·have hb0 : (b == 0) = false := by simp [hb]
    have ha : a = 0 := by rcases h0 with h | h; exact absurd h hb; exact h
    have ha0 : (a == 0) = true := by simp [ha]
    have hne : ¬ b = a := by rw [ha]; exact hb
    have hba : (b == a) = false := by simp [hne]
    have hr2 : r = false := by rw [← hr]; simp [hne]
    subst hr2
    clear hbz h0 hb ha hr hn hne
    go_in
    go_wp2_with fail
    refine (counted_walk b _).mono ?_
    rw [h1]
    rintro e w2 ⟨rfl, hw2⟩
    replace hw2 := hw2.symm
    subst hw2
    go_wp2_with fail
    refine (counted_walk a _).mono ?_
    rw [h2]
    rintro e w2 ⟨rfl, hw2⟩
    replace hw2 := hw2.symm
    subst hw2
    go_wp2_with fail
    go_ret
    exact ⟨rfl, HB.out⟩
  ·rw [sound_some h1 h2 h0] at hr
   have hb0 : (b == 0) = false := by rw [beq_eq_false_iff_ne]; exact fun h => h0 (.inl h)
   have ha0 : (a == 0) = false := by rw [beq_eq_false_iff_ne]; exact fun h => h0 (.inr h)
   by_cases h64 : n ≤ 64
   ·have h64i : (n : Int) ≤ 64 := by omega
    have hr2 : risB k = r := by rw [← hr, ← hn]; simp [h64]
    clear h0 h64 hr hn
    go_in
    go_wp2_with fail
    refine (counted_walk b _).mono ?_
    rw [h1]
    rintro e w2 ⟨rfl, hw2⟩
    replace hw2 := hw2.symm
    subst hw2
    go_wp2_with fail
    refine (counted_walk a _).mono ?_
    rw [h2]
    rintro e w2 ⟨rfl, hw2⟩
    replace hw2 := hw2.symm
    subst hw2
    go_wp2_with fail
    refine (ris_walk HV.out).mono ?_
    rw [hr2]
    rintro e w3 ⟨rfl, hB3⟩
    go_wp2_with fail
    go_ret
    exact ⟨rfl, below_trans HB.out hB3⟩
   ·have h64i : ¬ (n : Int) ≤ 64 := by omega
    have hr2 : r = false := by rw [← hr, ← hn]; simp [h64]
    subst hr2
    clear h0 h64 hr hn
    go_in
    go_wp2_with fail
    refine (counted_walk b _).mono ?_
    rw [h1]
    rintro e w2 ⟨rfl, hw2⟩
    replace hw2 := hw2.symm
    subst hw2
    go_wp2_with fail
    refine (counted_walk a _).mono ?_
    rw [h2]
    rintro e w2 ⟨rfl, hw2⟩
    replace hw2 := hw2.symm
    subst hw2
    go_wp2_with fail
    go_ret
    exact ⟨rfl, HB.out⟩
 exact main _ rfl (fun _ h => h)
def cmpIM (x y : Int) : Int := if x < y then -1 else if y < x then 1 else 0
def cmpA (b a ob oa : Int) : Int := if b = ob then cmpIM a oa else cmpIM b ob
theorem inan_walk (x : Int) (w : World) :
  Calls Tryz.prog 170 #[.int .i64 x] w fun e w' => e = .returned (.bool false) ∧ w' = w := by
 go_in
 go_wp2
 all_goals (go_ret; exact ⟨rfl, rfl⟩)
theorem icmp_walk (x y : Int) (w : World) :
  Calls Tryz.prog 115 #[.int .i64 x, .int .i64 y] w fun e w' => e = .returned (.int .i64 (cmpIM x y)) ∧ w' = w := by
 have main : ∀ r : Int, cmpIM x y = r → Calls Tryz.prog 115 #[.int .i64 x, .int .i64 y] w fun e w' => e = .returned (.int .i64 r) ∧ w' = w := by
  intro r hr
  by_cases h1 : x < y
  ·have e : r = -1 := by rw [← hr]; exact if_pos h1
   subst e
   clear hr
   go_in
   go_wp2_with fail
   refine (inan_walk x _).mono ?_
   rintro e w2 ⟨rfl, rfl⟩
   go_wp2_with fail
   refine (inan_walk y _).mono ?_
   rintro e w2 ⟨rfl, rfl⟩
   go_wp2_with fail
   go_ret
   exact ⟨rfl, rfl⟩
  ·by_cases h2 : y < x
   ·have e : r = 1 := by rw [← hr]; unfold cmpIM; rw [if_neg h1, if_pos h2]
    subst e
    clear hr
    go_in
    go_wp2_with fail
    refine (inan_walk x _).mono ?_
    rintro e w2 ⟨rfl, rfl⟩
    go_wp2_with fail
    refine (inan_walk y _).mono ?_
    rintro e w2 ⟨rfl, rfl⟩
    go_wp2_with fail
    go_ret
    exact ⟨rfl, rfl⟩
   ·have e : r = 0 := by rw [← hr]; unfold cmpIM; rw [if_neg h1, if_neg h2]
    subst e
    clear hr
    go_in
    go_wp2_with fail
    refine (inan_walk x _).mono ?_
    rintro e w2 ⟨rfl, rfl⟩
    go_wp2_with fail
    refine (inan_walk y _).mono ?_
    rintro e w2 ⟨rfl, rfl⟩
    go_wp2_with fail
    go_ret
    exact ⟨rfl, rfl⟩
 exact main _ rfl
theorem mcmp_walk (b a ob oa : Int) (w : World) :
  Calls Tryz.prog 69 #[.int .i64 b, .int .i64 a, .int .i64 ob, .int .i64 oa] w fun e w' => e = .returned (.int .i64 (cmpA b a ob oa)) ∧ w' = w := by
 have main : ∀ r : Int, cmpA b a ob oa = r → Calls Tryz.prog 69 #[.int .i64 b, .int .i64 a, .int .i64 ob, .int .i64 oa] w fun e w' => e = .returned (.int .i64 r) ∧ w' = w := by
  intro r hr
  by_cases h1 : b = ob
  ·have e : cmpIM a oa = r := by rw [← hr]; exact (if_pos h1).symm
   have h1b : (b != ob) = false := by simp [h1]
   clear hr h1
   go_in
   go_wp2_with fail
   refine (icmp_walk a oa _).mono ?_
   rw [e]
   rintro e w2 ⟨rfl, rfl⟩
   go_wp2_with fail
   go_ret
   exact ⟨rfl, rfl⟩
  ·have e : cmpIM b ob = r := by rw [← hr]; exact (if_neg h1).symm
   have h1b : (b != ob) = true := by simp [h1]
   clear hr h1
   go_in
   go_wp2_with fail
   refine (icmp_walk b ob _).mono ?_
   rw [e]
   rintro e w2 ⟨rfl, rfl⟩
   go_wp2_with fail
   go_ret
   exact ⟨rfl, rfl⟩
 exact main _ rfl
end
end Go.Proofs.YtofkhgokfdpdiabGreat
