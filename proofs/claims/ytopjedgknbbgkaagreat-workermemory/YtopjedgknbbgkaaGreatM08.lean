/- Keys and marks in memory; contracts of Rising, counted, Sound, Compare, Judge, the program's and the reference's. -/
import Derived.Test.YtopjedgknbbgkaaGreatM00
import Derived.Laws.BitsAllLaws
import Derived.Test.YtopjedgknbbgkaaGreatM07
import Derived.Lib.Hide
import Derived.Deep.QuietTactic
import Derived.BigQuiet
import Derived.Deep.RegionHeld3
import Derived.Deep.DeepCutAuto
namespace Go.Proofs.YtopjedgknbbgkaaGreat

open Go.RowKit



theorem info_u8 : (Tryz.prog.info? 5).map (fun i => (i.zero, i.size, i.bytes)) = some (some (.int .u8 0), 1, 1) := by kernel_rfl
theorem info_i64 : (Tryz.prog.info? 3).map (fun i => (i.zero, i.size, i.bytes)) = some (some (.int .i64 0), 1, 8) := by kernel_rfl


theorem or128_fin : ∀ a : Fin 256, (a.val ||| 128) = a.val % 128 + 128 := by decide +kernel


theorem or128 (y : Nat) : bits .or .u8 ((y : Int) % 256) 128 = (y : Int) % 128 + 128 := by
  have h := u8_or_nat (y % 256) 128 (by omega) (by omega)
  have e := or128_fin ⟨y % 256, by omega⟩
  simp only at e
  rw [e] at h
  have e2 : ((y % 256 : Nat) : Int) = (y : Int) % 256 := by omega
  rw [e2] at h
  rw [show ((128 : Nat) : Int) = 128 from rfl] at h
  rw [h]
  omega


theorem wrap_u64_id {z : Int} (h0 : 0 ≤ z) (h1 : z < 18446744073709551616) : IntKind.u64.wrap z = z := by
  rw [IntKind.wrap_u64]; omega


/-- Put's loop: what has been written, and what is left. -/
def PutRel (x H : Nat) (w : World) (xv v : Value) (wr : World) : Prop :=
  ∃ (y k : Nat) (done : List Nat), xv = .int .u64 y ∧ y ≤ x ∧ y < 128 ^ (k + 1) ∧ done ++ Wm.encF k y = Wm.enc x ∧ done.length + k = 9 ∧
    wr.ownsRow H 5 1 v done.length ((ib done).map (Value.int .u8)) ∧ Below H w wr


theorem putrel_start (x : Nat) (hx : x < 18446744073709551616) (w : World) :
    PutRel x w.heap.size w (.int .u64 x) (.slice (some ⟨w.heap.size, 0, none⟩) 0 0) (w.alloc (.cells #[] 5)) :=
  ⟨x, 9, [], rfl, Nat.le_refl _, Nat.lt_of_lt_of_le hx (by decide), rfl, rfl, World.ownsRow_made w #[] 0 (Nat.le_refl _) (by simp [maxLen]) rfl, below_alloc w _⟩


theorem putrel_step {x H y k : Nat} {done : List Nat} {w wr w1 : World} {v v' : Value} {c : Int} (hge : (128 : Int) ≤ y) (hyx : y ≤ x) (hk : y < 128 ^ (k + 1)) (henc : done ++ Wm.encF k y = Wm.enc x) (hlen : done.length + k = 9)
    (hbel : Below H w wr) (hH : H ≤ wr.heap.size) (o : Obj) (hown : wr.ownsRow H 5 1 v done.length ((ib done).map (Value.int .u8)))
    (hown' : w1.ownsRow H 5 1 v' (done.length + 1) ((ib done).map (Value.int .u8) ++ [c].map (Value.int .u8))) (hg : (wr.alloc o).grownBy w1 v.ownBlock) (hc : c = (y : Int) % 128 + 128) :
    PutRel x H w (.int .u64 ((y : Int) / 128)) v' w1 := by
  cases k with
  | zero => simp at hk; omega
  | succ k =>
    refine ⟨y / 128, k, done ++ [y % 128 + 128], ?_, by omega, ?_, ?_, by simp; omega, ?_, ?_⟩
    · congr 1
    · rw [Nat.pow_succ] at hk; omega
    · rw [← henc]
      conv => rhs; rw [Wm.encF, if_neg (by omega)]
      simp
    · subst hc
      have e : (ib (done ++ [y % 128 + 128])) = ib done ++ [(y : Int) % 128 + 128] := by simp [ib]
      rw [e]
      simpa using hown'
    · exact hbel.trans (((below_alloc wr o).mono hH).trans (grown_below (hown.alloc o) hg (by simp; omega)))


theorem putrel_done {x H y k : Nat} {done : List Nat} {w wr w1 : World} {v v' : Value} {c : Int} (hge : (y : Int) < 128) (henc : done ++ Wm.encF k y = Wm.enc x)
    (hbel : Below H w wr) (hH : H ≤ wr.heap.size) (o : Obj) (hown : wr.ownsRow H 5 1 v done.length ((ib done).map (Value.int .u8)))
    (hown' : w1.ownsRow H 5 1 v' (done.length + 1) ((ib done).map (Value.int .u8) ++ [c].map (Value.int .u8))) (hg : (wr.alloc o).grownBy w1 v.ownBlock) (hc : c = (y : Int)) :
    w1.ownsRow H 5 1 v' (Wm.enc x).length ((ib (Wm.enc x)).map (Value.int .u8)) ∧ Below H w w1 := by
  have e : Wm.encF k y = [y] := by
    cases k with
    | zero => rfl
    | succ k => rw [Wm.encF, if_pos (by omega)]
  rw [e] at henc
  refine ⟨?_, hbel.trans (((below_alloc wr o).mono hH).trans (grown_below (hown.alloc o) hg (by simp; omega)))⟩
  rw [← henc]
  subst hc
  simpa [ib] using hown'


theorem sv_one (k : IntKind) (w : World) (e : TypeId) (c : Int) : Sv k (w.alloc (.cells #[.int k c] e)) (.slice (some ⟨w.heap.size, 0, none⟩) 1 1) [c] := sv_lit k w e [c] (by simp [maxLen])




end Go.Proofs.YtopjedgknbbgkaaGreat

namespace Go.Proofs.YtopjedgknbbgkaaGreat

open Go.RowKit



def lastN (l : List Nat) : Option Nat := l.getLast?
theorem lastN_snoc (q : List Nat) (c : Nat) : lastN (q ++ [c]) = some c := by simp [lastN]
theorem lastN_take {l : List Nat} {i : Nat} (hi : i < l.length) : lastN (l.take (i + 1)) = some l[i] := by
  rw [List.take_succ_eq_append_getElem hi, lastN_snoc]
theorem ris_start {l : List Nat} (hp : 0 < l.length) : risE (lastN (l.take 1)) (l.drop 1) = risB l := by
  cases l with
  | nil => simp at hp
  | cons c r => simp [risB, risE, folN, lastN]
theorem ris_step {l : List Nat} {i : Nat} (hi : i < l.length) (h : risE (lastN (l.take i)) (l.drop i) = risB l) (hf : folN (lastN (l.take i)) l[i] = true) : risE (lastN (l.take (i + 1))) (l.drop (i + 1)) = risB l := by
  rw [List.drop_eq_getElem_cons hi, risE, hf, Bool.true_and] at h
  rw [lastN_take hi]
  exact h
theorem ris_stop {l : List Nat} {i : Nat} (hi : i < l.length) (h : risE (lastN (l.take i)) (l.drop i) = risB l) (hf : folN (lastN (l.take i)) l[i] = false) : risB l = false := by
  rw [List.drop_eq_getElem_cons hi, risE, hf, Bool.false_and] at h
  exact h.symm
theorem ris_end {l : List Nat} {i : Nat} (hi : l.length ≤ i) (h : risE (lastN (l.take i)) (l.drop i) = risB l) : risB l = true := by
  rw [List.drop_eq_nil_of_le hi, risE] at h
  exact h.symm


/-- The value v is a slice of keys that holds l. -/
abbrev Kv (w : World) (v : Value) (l : List Nat) : Prop := Sv .u64 w v (ib l)
theorem kv_form {w : World} {v : Value} {l : List Nat} (h : Kv w v l) : ∃ ao cap, v = .slice ao l.length cap ∧ l.length ≤ cap ∧ cap ≤ maxLen := by
  obtain ⟨ao, cap, e, h1, h2, _⟩ := h
  rw [ib_len] at e h1
  exact ⟨ao, cap, e, h1, h2⟩
theorem kv_cases {w : World} {v : Value} {l : List Nat} (h : Kv w v l) :
    (l = [] ∧ ∃ ao cap, v = .slice ao 0 cap) ∨ ∃ b off cap, v = .slice (some ⟨b, off, none⟩) l.length cap ∧ 0 < l.length ∧ l.length ≤ cap ∧ cap ≤ maxLen ∧
      ∀ i, (hi : i < l.length) → w.cell? ⟨b, off + i, none⟩ = some (.int .u64 (l[i] : Nat)) := by
  obtain ⟨ao, cap, rfl, h1, h2, h3, h4⟩ := h
  rw [ib_len] at h1
  rw [ib_len]
  by_cases h0 : l = []
  · subst h0; exact .inl ⟨rfl, ao, cap, rfl⟩
  · have hp := List.length_pos_iff.2 h0
    obtain ⟨b, off, rfl, _⟩ := h4 0 (by rw [ib_len]; exact hp)
    refine .inr ⟨b, off, cap, rfl, hp, h1, h2, fun i hi => ?_⟩
    obtain ⟨b', off', e1, e2⟩ := h4 i (by rw [ib_len]; exact hi)
    cases e1
    rw [e2]
    simp [ib, List.getD, hi]
/-- A mark's block. -/
structure MB (w : World) (P : Nat) (b a : Int) (v : Value) : Prop where
  c0 : w.cell? ⟨P, 0, none⟩ = some (.int .i64 b)
  c1 : w.cell? ⟨P, 1, none⟩ = some (.int .i64 a)
  c2 : w.cell? ⟨P, 2, none⟩ = some v
  z : ∀ j, w.frozen? ⟨P, j, none⟩ = false
theorem MB.keep {w w' : World} {P : Nat} {b a : Int} {v : Value} (h : MB w P b a v) (hb : Below w.heap.size w w') : MB w' P b a v := by
  have hl := cell_lt h.c0
  exact ⟨by rw [hb.cell (p := ⟨P, 0, none⟩) hl]; exact h.c0, by rw [hb.cell (p := ⟨P, 1, none⟩) hl]; exact h.c1, by rw [hb.cell (p := ⟨P, 2, none⟩) hl]; exact h.c2, fun j => by rw [hb.frozen (p := ⟨P, j, none⟩) hl]; exact h.z j⟩


set_option maxRecDepth 100000 in
set_option maxHeartbeats 2000000 in
theorem ris_some (l : List Nat) (b off cap : Nat) (w : World) (hl : l.length ≤ cap) (hcap : cap ≤ maxLen) (hp : 0 < l.length) (hc : ∀ i, (hi : i < l.length) → w.cell? ⟨b, off + i, none⟩ = some (.int .u64 (l[i] : Nat))) :
    Calls Tryz.prog 70 #[.slice (some ⟨b, off, none⟩) l.length cap] w fun e w' => e = .returned (.bool (risB l)) ∧ Below w.heap.size w w' := by
  unfold maxLen at hcap
  have hli : (l.length : Int) ≤ 9223372036854775807 := by omega
  have HC : Hid (∀ i, (hi : i < l.length) → w.cell? ⟨b, off + i, none⟩ = some (.int .u64 (l[i] : Nat))) := hc
  have HP : Hid (0 < l.length) := hp
  clear hc hcap hl hp
  go_enter Tryz.func70, Tryz.ntmps70
  go_wp2_with fail
  go_loopw [3] (fun iv wr => ∃ i : Nat, iv = .int .i64 i ∧ 1 ≤ i ∧ i ≤ l.length ∧ risE (lastN (l.take i)) (l.drop i) = risB l ∧ Below w.heap.size w wr) (fun iv _ => l.length - (intOf iv).toNat)
  case atStart => exact ⟨1, rfl, by omega, HP.out, ris_start HP.out, Below.refl _ _⟩
  case round =>
    obtain ⟨i, rfl, hi1, hil, hord, hbel⟩ := hrel
    have HO : Hid (risE (lastN (l.take i)) (l.drop i) = risB l) := hord
    have HB : Hid (Below w.heap.size w wr) := hbel
    clear hord hbel
    by_cases hlt : i < l.length
    · obtain ⟨j, rfl⟩ : ∃ j, i = j + 1 := ⟨i - 1, by omega⟩
      have hA := HC.out (j + 1) hlt
      have hD := HC.out j (by omega)
      have hA2 : wr.cell? ⟨b, off + (j + 1), none⟩ = some (.int .u64 (l[j + 1] : Nat)) := by rw [HB.out.cell (p := ⟨b, off + (j + 1), none⟩) (cell_lt hA)]; exact hA
      have hD2 : wr.cell? ⟨b, off + j, none⟩ = some (.int .u64 (l[j] : Nat)) := by rw [HB.out.cell (p := ⟨b, off + j, none⟩) (cell_lt hD)]; exact hD
      have HLK : Hid (lastN (l.take (j + 1)) = some l[j]) := lastN_take (by omega)
      obtain ⟨c, hcd⟩ : ∃ c, l[j + 1] = c := ⟨_, rfl⟩
      obtain ⟨d, hdd⟩ : ∃ d, l[j] = d := ⟨_, rfl⟩
      rw [hcd] at hA2
      rw [hdd] at hD2 HLK
      have HCD : Hid (l[j + 1] = c) := hcd
      clear hcd hdd hA hD
      have hlti : ((j + 1 : Nat) : Int) < (l.length : Int) := by omega
      have hltj : (j : Int) < (l.length : Int) := by omega
      have hjj : ((j + 1 : Nat) : Int) - 1 = (j : Int) := by omega
      by_cases hk : c ≤ d
      · have hki : (c : Int) ≤ (d : Int) := by omega
        have HR : Hid (risB l = false) := ris_stop hlt HO.out (by rw [HLK.out, HCD.out]; simp [folN]; omega)
        go_wp2_with fail
        go_quiet (fail)
        go_wp2_with fail
        go_ret
        exact ⟨by rw [HR.out]; rfl, below_trans HB.out (below_drewN _ _)⟩
      · have hki : ¬ (c : Int) ≤ (d : Int) := by omega
        have HR : Hid (risE (lastN (l.take (j + 1 + 1))) (l.drop (j + 1 + 1)) = risB l) := ris_step hlt HO.out (by rw [HLK.out, HCD.out]; simp [folN]; omega)
        go_wp2_with fail
        go_quiet (fail)
        have HB2 : Hid (Below w.heap.size w (wr.drewN nq)) := below_trans HB.out (below_drewN _ _)
        go_wp2_with fail
        go_roundw
        case rel => exact ⟨j + 1 + 1, by go_num, by omega, by omega, HR.out, HB2.out⟩
        case measure => simp [intOf]; omega
    · have hlti : ¬ (i : Int) < (l.length : Int) := by omega
      have HR : Hid (risB l = true) := ris_end (by omega) HO.out
      go_wp2_with fail
      go_ret
      exact ⟨by rw [HR.out]; rfl, HB.out⟩


set_option maxRecDepth 100000 in
theorem ris_none (ao : Option Addr) (cap : Nat) (w : World) :
    Calls Tryz.prog 70 #[.slice ao 0 cap] w fun e w' => e = .returned (.bool true) ∧ Below w.heap.size w w' := by
  go_enter Tryz.func70, Tryz.ntmps70
  go_wp2
  refine wp_loop_rounds 1 ?_
  rw [rounds_succ]
  go_wp2
  go_ret
  exact ⟨rfl, Below.refl _ _⟩


theorem ris_walk {w : World} {v : Value} {l : List Nat} (h : Kv w v l) :
    Calls Tryz.prog 70 #[v] w fun e w' => e = .returned (.bool (risB l)) ∧ Below w.heap.size w w' := by
  rcases kv_cases h with ⟨rfl, ao, cap, rfl⟩ | ⟨b, off, cap, rfl, hp, h1, h2, h3⟩
  · exact ris_none ao cap w
  · exact ris_some l b off cap w h1 h2 hp h3












theorem sound_nb {b a : Int} {k : List Nat} (h : cntB b = false) : soundBM ⟨b, a, k⟩ = false := by simp [soundBM, h]
theorem sound_na {b a : Int} {k : List Nat} (h : cntB a = false) : soundBM ⟨b, a, k⟩ = false := by simp [soundBM, h]
theorem sound_zero {b a : Int} {k : List Nat} (h1 : cntB b = true) (h2 : cntB a = true) (h : b = 0 ∨ a = 0) : soundBM ⟨b, a, k⟩ = (decide (b = a) && decide (k.length = 0)) := by simp only [soundBM, h1, h2, Bool.true_and, if_pos h]
theorem sound_some {b a : Int} {k : List Nat} (h1 : cntB b = true) (h2 : cntB a = true) (h : ¬ (b = 0 ∨ a = 0)) : soundBM ⟨b, a, k⟩ = (decide (k.length ≤ 64) && risB k) := by simp only [soundBM, h1, h2, Bool.true_and, if_neg h]




theorem cnt_no {x : Int} (h : cntB x = false) (h0 : 0 ≤ x) : 1099511627776 < x := by simp [cntB] at h; omega




/-- How two attempts stand. -/
def cmpIM (x y : Int) : Int := if x < y then -1 else if y < x then 1 else 0
def cmpA (b a ob oa : Int) : Int := if b = ob then cmpIM a oa else cmpIM b ob
theorem inan_walk (x : Int) (w : World) :
    Calls Tryz.prog 144 #[.int .i64 x] w fun e w' => e = .returned (.bool false) ∧ w' = w := by
  go_enter Tryz.func144, Tryz.ntmps144
  go_wp2
  all_goals (go_ret; exact ⟨rfl, rfl⟩)


end Go.Proofs.YtopjedgknbbgkaaGreat
