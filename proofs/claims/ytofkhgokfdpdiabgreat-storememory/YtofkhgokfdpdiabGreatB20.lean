/- takeRoot; write, that gives up by panic. -/
import Derived.Test.YtofkhgokfdpdiabGreatB02
import Derived.Test.YtofkhgokfdpdiabGreatB19
set_option maxRecDepth 100000
set_option maxHeartbeats 16000000
namespace Go.Proofs.YtofkhgokfdpdiabGreat
section
open Go.RowKit

def Tw (w : World) (v : Value) (t : List Nat) : Prop := Sv .i64 w v (ib t)
theorem ib_at {t : List Nat} {i : Nat} (h : i < t.length) : (ib t).getD i 0 = (tn t i : Nat) := by
 unfold ib tn; simp [List.getD, h]
theorem Tw.below {w w' : World} {v : Value} {t : List Nat} (h : Tw w v t) (hb : Below w.heap.size w w') : Tw w' v t := Sv.below h hb
theorem Tw.form {w : World} {v : Value} {t : List Nat} (h : Tw w v t) : ∃ ao cap, v = .slice ao t.length cap ∧ t.length ≤ cap ∧ cap ≤ maxLen := by
 obtain ⟨ao, cap, rfl, h1, h2, h3, h4⟩ := h
 rw [ib_len] at h1 ⊢
 exact ⟨ao, cap, rfl, h1, h2⟩
theorem Tw.at {w : World} {ao : Option Addr} {n cap : Nat} {t : List Nat} (h : Tw w (.slice ao n cap) t) {i : Nat} (hi : i < t.length) : ∃ b off, ao = some ⟨b, off, none⟩ ∧ w.cell? ⟨b, off + i, none⟩ = some (.int .i64 (tn t i : Nat)) := by
 obtain ⟨ao', cap', e, h1, h2, h3, h4⟩ := h
 simp only [Value.slice.injEq] at e
 obtain ⟨b, off, e1, e2⟩ := h4 i (by rw [ib_len]; exact hi)
 rw [ib_at hi] at e2
 exact ⟨b, off, e.1.trans e1, e2⟩
theorem index_walk {w : World} {v : Value} {t : List Nat} (h : Tw w v t) (x : Nat) :
  Calls Tryz.prog 199 #[v, .int .i64 x] w fun e w' => (∃ r : Int, e = .returned (.int .i64 r) ∧ ((0 ≤ r ∧ x ∈ t) ∨ (r = -1 ∧ x ∉ t))) ∧ w' = w := by
 have HT : Hid (Tw w v t) := h
 obtain ⟨ao, cap, rfl, h1, h2⟩ := h.form
 have hli : (t.length : Int) ≤ 9223372036854775807 := by simp only [maxLen] at h2; omega
 clear h h1 h2
 go_in
 go_wp2_with fail
 go_loop [8] (fun iv => ∃ k : Nat, k ≤ t.length ∧ iv = .int .i64 k ∧ ∀ i, i < k → tn t i ≠ x) (fun iv => t.length - (intOf iv).toNat)
 case atStart => exact ⟨0, Nat.zero_le _, rfl, fun i hi => by omega⟩
 case round =>
  obtain ⟨k, hk, rfl, hsm⟩ := hrel
  have HSM := hidH hsm
  clear hsm
  by_cases hlt : k < t.length
  ·obtain ⟨b, off, rfl, hc⟩ := HT.out.at hlt
   obtain ⟨y, hy⟩ : ∃ y, y = tn t k := ⟨_, rfl⟩
   rw [← hy] at hc
   have HY : Hid (y = tn t k) := hy
   have hlti : (k : Int) < (t.length : Int) := by omega
   clear hy
   by_cases he : x = y
   ·have heb : ((x : Int) == (y : Int)) = true := by simp [he]
    have HE : Hid (x = y) := he
    clear he
    go_wp2_with fail
    (try simp only [Exit.inBlock, Exit.then])
    go_ret
    exact ⟨⟨_, rfl, .inl ⟨by omega, by rw [HE.out, HY.out]; exact tn_mem hlt⟩⟩, rfl⟩
   ·have heb : ((x : Int) == (y : Int)) = false := by simp; omega
    have HE : Hid (x ≠ y) := he
    clear he
    go_wp2_with fail
    go_round
    case rel =>
     refine ⟨k + 1, hlt, by simp, fun i hi => ?_⟩
     by_cases e : i = k
     ·rw [e, ← HY.out]; exact fun e => HE.out e.symm
     ·exact HSM.out i (by omega)
    case measure => simp [intOf]; omega
  ·have hlti : ¬ (k : Int) < (t.length : Int) := by omega
   go_wp2_with fail
   go_ret
   refine ⟨⟨_, rfl, .inr ⟨rfl, fun hm => ?_⟩⟩, rfl⟩
   obtain ⟨i, hi, e⟩ := List.getElem_of_mem hm
   exact HSM.out i (by omega) (by rw [tn_at hi]; exact e)
theorem contains_walk {w : World} {v : Value} {t : List Nat} (h : Tw w v t) (x : Nat) :
  Calls Tryz.prog 171 #[v, .int .i64 x] w fun e w' => e = .returned (.bool (decide (x ∈ t))) ∧ w' = w := by
 have HT : Hid (Tw w v t) := h
 clear h
 by_cases hx : x ∈ t
 ·rw [decide_eq_true hx]
  have HX : Hid (x ∈ t) := hx
  clear hx
  go_in
  go_wp2_with fail
  refine (index_walk HT.out x).mono ?_
  rintro e w1 ⟨⟨r, rfl, hr⟩, h9⟩
  have h9 := h9.symm
  subst h9
  have hr0 : 0 ≤ r := by
   rcases hr with h | h
   ·exact h.1
   ·exact absurd HX.out h.2
  clear hr
  go_wp2_with fail
  go_ret
  exact ⟨rfl, rfl⟩
 ·rw [decide_eq_false hx]
  have HX : Hid (x ∉ t) := hx
  clear hx
  go_in
  go_wp2_with fail
  refine (index_walk HT.out x).mono ?_
  rintro e w1 ⟨⟨r, rfl, hr⟩, h9⟩
  have h9 := h9.symm
  subst h9
  have hr0 : r = -1 := by
   rcases hr with h | h
   ·exact absurd h.2 HX.out
   ·exact h.1
  clear hr
  subst hr0
  go_wp2_with fail
  go_ret
  exact ⟨rfl, rfl⟩
theorem clonet_walk {v : Value} {t : List Nat} {w : World} (ho : Tw w v t) (hl : t.length ≤ 8) :
  Calls Tryz.prog 117 #[v] w fun e w' => ∃ v', e = .returned v' ∧ w'.ownsRow w.heap.size 3 1 v' t.length ((ib t).map (Value.int .i64)) ∧ Below w.heap.size w w' := by
 have HO : Hid (Tw w v t) := ho
 obtain ⟨ao, cap, rfl, h1, h2, h3, _⟩ := ho
 rw [ib_len] at h1
 rw [ib_len] at HO ⊢
 have HL : Hid (t.length ≤ 8) := hl
 have H3 : Hid (ao = none → cap = 0) := h3
 have H1 : Hid (t.length ≤ cap) := h1
 have q : ∀ (w : World) (a : Option Addr) (n c : Nat), (binOp .eql 139 (.slice a n c) (.slice none 0 0)).run Tryz.prog w = .ok (.bool a.isNone) w := fun w a n c => Lib.run_eql_slice_nil w 139 3 a n c 0 0 Tryz.underlying139
 clear hl h1 h2 h3
 cases ao with
 | none =>
  have hc := H3.out rfl
  subst hc
  have hl0 : t.length = 0 := by have := H1.out; omega
  have hl : t = [] := List.eq_nil_of_length_eq_zero hl0
  subst hl
  rw [List.length_nil]
  go_in
  go_wp2_with fail
  go_ret
  exact ⟨_, rfl, World.ownsRow_nil _ _ _ _, below_same _⟩
 | some p =>
  go_in
  go_wp2_with (at_builtin; refine wpList_append_sv (by rfl) _ _ 139 (by rfl) w.heap.size 3 .i64 8 Tryz.underlying139 info_i64 _ 0 [] (by rfl) (World.ownsRow_made w #[] 0 (Nat.le_refl _) (by simp [maxLen]) (by simp)) _ (ib t) (by rfl) (HO.out.below (below_alloc _ _)) (by have := HL.out; rw [ib_len]; simp [maxLen]; omega) (by have := HL.out; rw [ib_len]; omega) (by simp) ?_; intro v' w2 hown hgrow; go_frame)
  go_ret
  refine ⟨_, rfl, by rw [ib_len] at hown; simpa using hown, ?_⟩
  exact (below_alloc w (Obj.cells #[] 3)).grown hgrow (by simp) (by simp [Value.ownBlock])
theorem bfor_walk {w : World} (n : Nat) (h : n ≤ 64) : Calls Tryz.prog 137 #[.int .i64 n] w fun e w' => e = .returned (.int .i64 (2 + 2 * (n : Int))) ∧ w' = w := by
 have r1 : IntKind.i64.wrap (2 * (n : Int)) = 2 * (n : Int) := wrapU (by omega) (by omega)
 have r2 : IntKind.i64.wrap (2 + 2 * (n : Int)) = 2 + 2 * (n : Int) := wrapU (by omega) (by omega)
 clear h
 go_in
 go_wp2_with fail
 go_ret
 exact ⟨rfl, rfl⟩
def hasB (n : Nat) (p : Int) : Bool := decide (0 ≤ p ∧ p < (n : Int))
theorem has_walk {w : World} {v : Value} {t : List Nat} (g : Nat) (h : Tw w v t) (p : Int) :
  Calls Tryz.prog 107 #[.agg #[.int .u64 g, v], .int .i64 p] w fun e w' => e = .returned (.bool (hasB t.length p)) ∧ Below w.heap.size w w' := by
 obtain ⟨ao, cap, rfl, h1, h2⟩ := h.form
 clear h h1 h2
 by_cases h0 : 0 ≤ p
 ·by_cases hn : p < (t.length : Int)
  ·have HR : Hid (hasB t.length p = true) := decide_eq_true ⟨h0, hn⟩
   rw [HR.out]
   go_in
   go_wp2_with fail
   go_ret
   exact ⟨rfl, below_alloc _ _⟩
  ·have HR : Hid (hasB t.length p = false) := decide_eq_false (fun e => hn e.2)
   rw [HR.out]
   have hn2 : (t.length : Int) ≤ p := by omega
   have hd : decide (p < (t.length : Int)) = false := decide_eq_false hn
   clear hn
   go_in
   go_wp2_with fail
   go_ret
   exact ⟨rfl, below_alloc _ _⟩
 ·have HR : Hid (hasB t.length p = false) := decide_eq_false (fun e => h0 e.1)
  rw [HR.out]
  go_in
  go_wp2_with fail
  go_ret
  exact ⟨rfl, below_alloc _ _⟩
theorem behind_walk {w : World} {v : Value} {t : List Nat} (g : Nat) (h : Tw w v t) (ht : ∀ x ∈ t, x < 64) {b : Nat} (hb : b < 64) :
  Calls Tryz.prog 118 #[.agg #[.int .u64 g, v], .int .i64 b] w fun e w' => e = .returned (.int .i64 (nextF t b : Nat)) ∧ Below w.heap.size w w' := by
 obtain ⟨w0, hw0⟩ : ∃ w0, w0 = w.alloc (Obj.cells #[.int .u64 g, v] 141) := ⟨_, rfl⟩
 have HB0 : Hid (Below w.heap.size w w0) := by show Below _ _ _; rw [hw0]; exact below_alloc _ _
 have HT : Hid (Tw w0 v t) := h.below HB0.out
 have HW0 : Hid (w0 = w.alloc (Obj.cells #[.int .u64 g, v] 141)) := hw0
 have c1 : w0.cell? ⟨w.heap.size, 1, none⟩ = some v := by rw [hw0]; simp [go_sem]
 have HTL : Hid (∀ x ∈ t, x < 64) := ht
 clear h hw0 ht
 go_in
 go_wp2_with fail
 rw [← HW0.out]
 go_loop [1] (fun iv => ∃ k : Nat, k ≤ 64 ∧ iv = .int .i64 k ∧ b < k ∧ ∀ y, b < y → y < k → y ∈ t) (fun iv => 65 - (intOf iv).toNat)
 case atStart => exact ⟨b + 1, by omega, by simp, by omega, fun y h1 h2 => by omega⟩
 case round =>
  obtain ⟨k, hk, rfl, hbk, hm⟩ := hrel
  have HM := hidH hm
  clear hm
  go_wp2_with fail
  refine (contains_walk HT.out k).mono ?_
  rintro e w1 ⟨rfl, h9⟩
  have h9 := h9.symm
  subst h9
  by_cases hx : k ∈ t
  ·have HX : Hid (k ∈ t) := hx
   have hk2 : k < 64 := HTL.out k hx
   rw [decide_eq_true hx]
   clear hx
   go_wp2_with fail
   go_round
   case rel =>
    refine ⟨k + 1, by omega, by simp, by omega, fun y h1 h2 => ?_⟩
    by_cases e : y = k
    ·rw [e]; exact HX.out
    ·exact HM.out y h1 (by omega)
   case measure => simp [intOf]; omega
  ·have HX : Hid (nextF t b = k) := next_is HTL.out hbk hx HM.out
   rw [decide_eq_false hx]
   clear hx
   go_wp2_with fail
   go_ret
   exact ⟨by rw [HX.out]; rfl, HB0.out⟩
end
section
open Go.RowKit

theorem nums_tab (t : List Nat) : numsA (ib t) = (Wm.enc t.length ++ Wm.encAll t, 0) := by
 rw [numsA_ok (fun i hi => by rw [ib_len] at hi; rw [ib_at hi]; omega)]
 unfold numsB
 rw [ib_len]
 have : (ib t).map Int.toNat = t := by
  induction t with
  | nil => rfl
  | cons a l ih => unfold ib at ih ⊢; simp only [List.map_cons, Int.toNat_natCast]; rw [ih]
 rw [this]
theorem ib_lt {t : List Nat} (h : ∀ x ∈ t, x < 64) : ∀ x ∈ ib t, x < 9223372036854775808 := by
 intro x hx
 obtain ⟨y, hy, rfl⟩ := List.mem_map.1 hx
 have := h y hy
 omega
def Rb (w : World) (g : Nat) (t : List Nat) (e : Ending) (w' : World) : Prop := ∃ v, e = .returned v ∧ w'.ownsRow w.heap.size 5 1 v (rootB g t).length (cb (rootB g t)) ∧ Below w.heap.size w w'
theorem bytes_walk {w : World} {v : Value} {t : List Nat} {g : Nat} (h : Tw w v t) (h8 : t.length ≤ 8) (ht : ∀ x ∈ t, x < 64) (hg : g < 18446744073709551616) :
  Calls Tryz.prog 76 #[.agg #[.int .u64 g, v]] w fun e w' => Rb w g t e w' := by
 obtain ⟨w0, hw0⟩ : ∃ w0, w0 = w.alloc (Obj.cells #[.int .u64 g, v] 141) := ⟨_, rfl⟩
 have HB0 : Hid (Below w.heap.size w w0) := by show Below _ _ _; rw [hw0]; exact below_alloc _ _
 have HT : Hid (Tw w0 v t) := h.below HB0.out
 have HW0 : Hid (w0 = w.alloc (Obj.cells #[.int .u64 g, v] 141)) := hw0
 have c1 : w0.cell? ⟨w.heap.size, 1, none⟩ = some v := by rw [hw0]; simp [go_sem]
 have HC0 : Hid (w0.cell? ⟨w.heap.size, 0, none⟩ = some (.int .u64 g)) := by show _ = _; rw [hw0]; simp [go_sem]
 have HN : Hid (10 + 10 * (ib t).length ≤ 140737488355328) := by show _ ≤ _; rw [ib_len]; omega
 have HTL : Hid (∀ x ∈ ib t, x < 9223372036854775808) := ib_lt ht
 have HTB : Hid (∀ x ∈ t, x < 64) := ht
 have HG := hidH hg
 have HRS : Hid ((rootB g t).length ≤ 100) := root_short h8
 have H8 : Hid (t.length ≤ 8) := h8
 clear h hw0 ht hg h8
 go_in
 go_wp2_with fail
 rw [← HW0.out]
 refine (nums_walk HT.out HN.out HTL.out).mono ?_
 rintro e w1 ⟨v1, rfl, ho1, hB1⟩
 rw [nums_tab] at ho1 ⊢
 have HB1 := hidH (below_trans HB0.out hB1)
 have c0 : w1.cell? ⟨w.heap.size, 0, none⟩ = some (.int .u64 g) := by rw [hB1.cell (p := ⟨w.heap.size, 0, none⟩) (cell_lt HC0.out)]; exact HC0.out
 have HV1 : Hid (Bv w1 v1 (Wm.enc t.length ++ Wm.encAll t)) := own_bv ho1 (fun c hc => by
  rcases List.mem_append.1 hc with hc | hc
  ·exact Wm.enc_lt _ (by have := H8.out; omega) c hc
  ·exact encAll_ltP t (fun x hx => by have := HTB.out x hx; omega) c hc)
 clear ho1 hB1 c1
 go_wp2_with fail
 refine (put_walk g HG.out _).mono ?_
 rintro e w2 ⟨v2, rfl, ho2, hB2⟩
 have HV2 : Hid (Bv w2 v2 (Wm.enc g)) := own_bv ho2 (Wm.enc_lt g HG.out)
 have HB2 := hidH hB2
 clear ho2 hB2
 obtain ⟨a1, k1, e1, _⟩ := bv_formD HV1.out
 obtain ⟨a2, k2, e2, _⟩ := bv_formD HV2.out
 obtain ⟨L, hL⟩ : ∃ L, L = Wm.enc t.length ++ Wm.encAll t := ⟨_, rfl⟩
 rw [← hL] at e1
 obtain ⟨n1, hn1⟩ : ∃ n, n = L.length := ⟨_, rfl⟩
 obtain ⟨n2, hn2⟩ : ∃ n, n = (Wm.enc g).length := ⟨_, rfl⟩
 rw [← hn1] at e1
 rw [← hn2] at e2
 clear hn1 hn2 hL
 subst e1
 subst e2
 go_wp2_with fail
 refine (join_walk (pv_two 78 HV2.out (HV1.out.below HB2.out)) (by rw [flat_two]; exact Nat.le_trans HRS.out (by omega))).mono ?_
 rintro e w3 ⟨v3, rfl, ho3, hB3⟩
 rw [flat_two] at ho3
 have HB3 : Hid (Below w.heap.size w w3) := below_trans (below_trans HB1.out HB2.out) (below_trans (below_alloc _ _) hB3)
 have HO3 : Hid (w3.ownsRow w.heap.size 5 1 v3 (rootB g t).length (cb (rootB g t))) := own_base ho3 (by have h1 := HB1.out.size; have h2 := HB2.out.size; simp; omega)
 clear ho3 hB3
 go_wp2_with fail
 go_ret
 exact ⟨_, rfl, HO3.out, HB3.out⟩
theorem Tw.first {w : World} {ao : Option Addr} {n cap : Nat} {t : List Nat} (h : Tw w (.slice ao n cap) t) {k : Nat} (hk : k ≤ t.length) : Tw w (.slice ao k cap) (t.take k) := by
 obtain ⟨ao', cap', e, h1, h2, h3, h4⟩ := h
 simp only [Value.slice.injEq] at e
 obtain ⟨e1, e2, e3⟩ := e
 subst e1 e3
 rw [ib_len] at h1
 refine ⟨ao, cap, by rw [ib_len, List.length_take, Nat.min_eq_left hk], by rw [ib_len, List.length_take]; omega, h2, h3, fun i hi => ?_⟩
 rw [ib_len, List.length_take] at hi
 obtain ⟨b, off, e, c⟩ := h4 i (by rw [ib_len]; omega)
 refine ⟨b, off, e, ?_⟩
 rw [c, ib_at (by omega), ib_at (by rw [List.length_take]; omega)]
 unfold tn
 simp [List.getD, show i < k by omega]
theorem are_walk {w : World} {v : Value} {t : List Nat} (h : Tw w v t) (h8 : t.length ≤ 64) {B : Nat} (hB : B ≤ 64) :
  Calls Tryz.prog 135 #[v, .int .i64 B] w fun e w' => e = .returned (.bool (tabBP t B)) ∧ w' = w := by
 have HT : Hid (Tw w v t) := h
 obtain ⟨ao, cap, rfl, h1, h2⟩ := h.form
 have H8 : Hid (t.length ≤ 64) := h8
 have hli : (t.length : Int) ≤ 64 := by omega
 have hcap : (t.length : Int) ≤ (cap : Int) := by omega
 clear h h1 h2 h8
 by_cases hl1 : t.length < 1
 ·have HR : Hid (tabBP t B = false) := tab_no (fun e => by have := e.1; omega)
  rw [HR.out]
  have h0 : t.length = 0 := by omega
  rw [h0]
  clear hl1
  go_in
  go_wp2_with fail
  go_ret
  exact ⟨rfl, rfl⟩
 ·by_cases hl2 : B < 2 + 2 * t.length
  ·have HR : Hid (tabBP t B = false) := tab_no (fun e => by have := e.2.1; omega)
   rw [HR.out]
   have hi1 : 1 ≤ (t.length : Int) := by omega
   have hi2 : (B : Int) < 2 + 2 * (t.length : Int) := by omega
   have hd1 : decide ((t.length : Int) < 1) = false := decide_eq_false (by omega)
   clear hl1 hl2
   go_in
   go_wp2_with fail
   refine (bfor_walk t.length H8.out).mono ?_
   rintro e w1 ⟨rfl, h9⟩
   have h9 := h9.symm
   subst h9
   go_wp2_with fail
   go_ret
   exact ⟨rfl, rfl⟩
  ·have hi1 : 1 ≤ (t.length : Int) := by omega
   have hi2 : 2 + 2 * (t.length : Int) ≤ (B : Int) := by omega
   have hd1 : decide ((t.length : Int) < 1) = false := decide_eq_false (by omega)
   have HL : Hid (1 ≤ t.length ∧ 2 + 2 * t.length ≤ B) := ⟨by omega, by omega⟩
   have HRY : Hid ((∀ i, i < t.length → Cok t B i) → tabBP t B = true) := fun hh => tab_yes ⟨HL.out.1, HL.out.2, hh⟩
   have HRN : Hid (∀ i, i < t.length → ¬ Cok t B i → tabBP t B = false) := fun i hi hn => tab_no (fun e => hn (e.2.2 i hi))
   clear hl1 hl2
   go_in
   go_wp2_with fail
   refine (bfor_walk t.length H8.out).mono ?_
   rintro e w1 ⟨rfl, h9⟩
   have h9 := h9.symm
   subst h9
   go_wp2_with fail
   go_loop [19] (fun iv => ∃ k : Nat, k ≤ t.length ∧ iv = .int .i64 k ∧ ∀ i, i < k → Cok t B i) (fun iv => t.length - (intOf iv).toNat)
   case atStart => exact ⟨0, Nat.zero_le _, rfl, fun i hi => by omega⟩
   case round =>
    obtain ⟨k, hk, rfl, hsm⟩ := hrel
    have HSM := hidH hsm
    clear hsm
    by_cases hlt : k < t.length
    ·obtain ⟨b, off, rfl, hc⟩ := HT.out.at hlt
     obtain ⟨y, hy⟩ : ∃ y, y = tn t k := ⟨_, rfl⟩
     rw [← hy] at hc
     have HY : Hid (y = tn t k) := hy
     have HNX : Hid (Cok t B k → ∀ i, i < k + 1 → Cok t B i) := fun hh i hi => by
      by_cases e : i = k
      ·rw [e]; exact hh
      ·exact HSM.out i (by omega)
     have hlti : (k : Int) < (t.length : Int) := by omega
     have hkc : (k : Int) ≤ (cap : Int) := by omega
     have HC1 : Hid (Tw w (.slice (some ⟨b, off, none⟩) k cap) (t.take k)) := HT.out.first hk
     clear hy
     by_cases h0 : y = 0
     ·subst h0
      go_wp2_with fail
      go_round
      case rel => exact ⟨k + 1, hlt, by simp, HNX.out (.inl HY.out.symm)⟩
      case measure => simp [intOf]; omega
     ·have hy0 : ((y : Int) == 0) = false := by simp; omega
      have HY0 : Hid (y ≠ 0) := h0
      clear h0
      by_cases h2 : y < 2
      ·have h2i : (y : Int) < 2 := by omega
       have HN : Hid (¬ Cok t B k) := fun hh => by
        rcases hh with e | ⟨e, _⟩
        ·rw [← HY.out] at e; exact HY0.out e
        ·rw [← HY.out] at e; omega
       clear h2
       go_wp2_with fail
       (try simp only [Exit.inBlock, Exit.then])
       go_ret
       exact ⟨by rw [HRN.out k hlt HN.out]; rfl, rfl⟩
      ·have h2i : 2 ≤ (y : Int) := by omega
       have hd2 : decide ((y : Int) < 2) = false := decide_eq_false (by omega)
       by_cases hyB : B ≤ y
       ·have hyi : (B : Int) ≤ (y : Int) := by omega
        have HN : Hid (¬ Cok t B k) := fun hh => by
         rcases hh with e | ⟨_, e, _⟩
         ·rw [← HY.out] at e; exact HY0.out e
         ·rw [← HY.out] at e; omega
        clear h2
        go_wp2_with fail
        (try simp only [Exit.inBlock, Exit.then])
        go_ret
        exact ⟨by rw [HRN.out k hlt HN.out]; rfl, rfl⟩
       ·have hyi : (y : Int) < (B : Int) := by omega
        have hd3 : decide ((B : Int) ≤ (y : Int)) = false := decide_eq_false (by omega)
        by_cases hm : y ∈ t.take k
        ·have HN : Hid (¬ Cok t B k) := fun hh => by
          rcases hh with e | ⟨_, _, e⟩
          ·rw [← HY.out] at e; exact HY0.out e
          ·rw [← HY.out] at e; exact e hm
         have HM : Hid (decide (y ∈ t.take k) = true) := decide_eq_true hm
         clear h2 hyB hm
         go_wp2_with fail
         refine (contains_walk HC1.out y).mono ?_
         rintro e w1 ⟨rfl, h9⟩
         have h9 := h9.symm
         subst h9
         rw [HM.out]
         go_wp2_with fail
         (try simp only [Exit.inBlock, Exit.then])
         go_ret
         exact ⟨by rw [HRN.out k hlt HN.out]; rfl, rfl⟩
        ·have HN : Hid (Cok t B k) := .inr (by rw [← HY.out]; exact ⟨by omega, by omega, hm⟩)
         have HM : Hid (decide (y ∈ t.take k) = false) := decide_eq_false hm
         clear h2 hyB hm
         go_wp2_with fail
         refine (contains_walk HC1.out y).mono ?_
         rintro e w1 ⟨rfl, h9⟩
         have h9 := h9.symm
         subst h9
         rw [HM.out]
         go_wp2_with fail
         go_round
         case rel => exact ⟨k + 1, hlt, by simp, HNX.out HN.out⟩
         case measure => simp [intOf]; omega
    ·have hlti : ¬ (k : Int) < (t.length : Int) := by omega
     have hkt : k = t.length := by omega
     have HK : Hid (k = t.length) := hkt
     clear hkt
     go_wp2_with fail
     go_ret
     exact ⟨by rw [HRY.out (fun i hi => HSM.out i (by rw [HK.out]; exact hi))]; rfl, rfl⟩
end
section
open Go.RowKit

def Tk (w : World) (b : List Nat) (B : Nat) (e : Ending) (w' : World) : Prop :=
 (rootOf b B = none → e = .returned (.tuple #[.agg #[.int .u64 0, .slice none 0 0], .bool false])) ∧
 (∀ g t, rootOf b B = some (g, t) → ∃ ao cap, e = .returned (.tuple #[.agg #[.int .u64 g, .slice ao t.length cap], .bool true]) ∧ Tw w' (.slice ao t.length cap) t ∧ ∀ x, (Value.slice ao t.length cap).ownBlock = some x → w.heap.size ≤ x) ∧
 Below w.heap.size w w'
theorem tk_no {w w' : World} {b : List Nat} {B : Nat} (h : rootOf b B = none) (hB : Below w.heap.size w w') : Tk w b B (.returned (.tuple #[.agg #[.int .u64 0, .slice none 0 0], .bool false])) w' :=
 ⟨fun _ => rfl, fun g t e => (by rw [h] at e; cases e), hB⟩
theorem tk_yes {w w' : World} {b t : List Nat} {B g : Nat} {ao : Option Addr} {cap : Nat} (h : rootOf b B = some (g, t)) (hT : Tw w' (.slice ao t.length cap) t) (hn : ∀ x, (Value.slice ao t.length cap).ownBlock = some x → w.heap.size ≤ x) (hB : Below w.heap.size w w') :
  Tk w b B (.returned (.tuple #[.agg #[.int .u64 g, .slice ao t.length cap], .bool true])) w' :=
 ⟨fun e => (by rw [h] at e; cases e), fun g' t' e => (by rw [h] at e; simp only [Option.some.injEq, Prod.mk.injEq] at e; obtain ⟨rfl, rfl⟩ := e; exact ⟨ao, cap, rfl, hT, hn⟩), hB⟩
structure Rc (w : World) (wx : World) : Prop where
 below : Below w.heap.size w wx
 z : ∀ j, j < 2 → (∃ u, wx.cell? ⟨w.heap.size, j, none⟩ = some u) ∧ wx.frozen? ⟨w.heap.size, j, none⟩ = false
 lt : w.heap.size < wx.heap.size
theorem Rc.go {w wx w' : World} (h : Rc w wx) (hb : Below wx.heap.size wx w') : Rc w w' := by
 refine ⟨below_trans h.below hb, fun j hj => ?_, Nat.lt_of_lt_of_le h.lt hb.size⟩
 obtain ⟨⟨u, h1⟩, h2⟩ := h.z j hj
 exact ⟨⟨u, by rw [hb.cell (p := ⟨w.heap.size, j, none⟩) (cell_lt h1)]; exact h1⟩, by rw [hb.frozen (p := ⟨w.heap.size, j, none⟩) (cell_lt h1)]; exact h2⟩
theorem Rc.two {w wx : World} (h : Rc w wx) (a b : Value) : Below w.heap.size w ((wx.setCell ⟨w.heap.size, 0, none⟩ a).setCell ⟨w.heap.size, 1, none⟩ b) :=
 (h.below.setCell (p := ⟨w.heap.size, 0, none⟩) (by simp) _).setCell (p := ⟨w.heap.size, 1, none⟩) (by simp) _
theorem Tw.ch {w w' : World} {ao : Option Addr} {n cap : Nat} {t : List Nat} (h : Tw w (.slice ao n cap) t) (hk : ∀ x, (Value.slice ao n cap).ownBlock = some x → w'.heap[x]? = w.heap[x]?) : Tw w' (.slice ao n cap) t := by
 obtain ⟨ao', cap', e, h1, h2, h3, h4⟩ := h
 simp only [Value.slice.injEq] at e
 obtain ⟨e1, e2, e3⟩ := e
 subst e1 e3
 refine ⟨ao, cap, by rw [e2], h1, h2, h3, fun i hi => ?_⟩
 obtain ⟨b, off, rfl, c⟩ := h4 i hi
 exact ⟨b, off, rfl, by rw [World.cell?_of_block (w := w) (a := ⟨b, off + i, none⟩) (hk b rfl)]; exact c⟩
theorem troot_walk {w : World} {v : Value} {b : List Nat} (h : Bv w v b) (hl : b.length ≤ 1024) {B : Nat} (hB : B ≤ 64) :
  Calls Tryz.prog 88 #[v, .int .i64 B] w fun e w' => Tk w b B e w' := by
 obtain ⟨w0, hw0⟩ : ∃ w0, w0 = w.alloc (Obj.cells #[.int .u64 0, .slice none 0 0] 141) := ⟨_, rfl⟩
 have HW0 : Hid (w0 = w.alloc (Obj.cells #[.int .u64 0, .slice none 0 0] 141)) := hw0
 have HR0 : Hid (Rc w w0) := by
  refine ⟨by rw [hw0]; exact below_alloc _ _, fun j hj => ?_, by rw [hw0]; simp⟩
  have hj2 : j = 0 ∨ j = 1 := by omega
  rcases hj2 with rfl | rfl <;> (rw [hw0]; constructor <;> simp [go_sem])
 have HV : Hid (Bv w0 v b) := h.below HR0.out.below
 have HL : Hid (b.length ≤ 1024) := hl
 have HBB : Hid (B ≤ 64) := hB
 obtain ⟨bo, bc, rfl, hb1, hb2⟩ := bv_formD h
 have hbl : (b.length : Int) ≤ 1024 := by omega
 have hbc : (b.length : Int) ≤ (bc : Int) := by omega
 have HBC : Hid (b.length ≤ bc) := hb1
 obtain ⟨⟨u0, z0⟩, f0⟩ := HR0.out.z 0 (by omega)
 obtain ⟨⟨u1, z1⟩, f1⟩ := HR0.out.z 1 (by omega)
 rcases Wm.take_form b h.2 with ⟨er, her, h34⟩ | ⟨g, p, htx, hx, hn1, hn2, henc⟩
 ·have HER : Hid (Wm.take b = (0, 0, er)) := her
  have HNO : Hid (rootOf b B = none) := root_take her h34
  clear h hw0 hl hB hb1 hb2 her
  rcases h34 with rfl | rfl
  all_goals
   go_in
   go_wp2_with fail
   rw [← HW0.out]
   refine (take_walk HV.out).mono ?_
   rintro e w1 ⟨he, h9⟩
   have h9 := h9.symm
   subst h9
   rw [t3_lit HER.out] at he
   subst he
   go_wp2_with fail
   (try simp only [Exit.inBlock, Exit.then])
   refine bodyPost_ret (v := .tuple #[.agg #[.int .u64 0, .slice none 0 0], .bool false]) (by rw [results_cell_tmp rfl]; go_simp) rfl ?_
   exact tk_no HNO.out (HR0.out.two _ _)
 ·have HT : Hid (Wm.take b = (g, p, 0)) := htx
  have HP : Hid (p ≤ b.length) := hn2
  have hpi : (p : Int) ≤ (b.length : Int) := by omega
  have HBY : Hid (∀ c ∈ b, c < 256) := h.2
  clear h hw0 hl hB hb1 hb2 htx henc hx hn1 hn2
  by_cases hg1 : (g : Int) < 1
  ·have HNO : Hid (rootOf b B = none) := root_gen HT.out (.inl (by omega))
   go_in
   go_wp2_with fail
   rw [← HW0.out]
   refine (take_walk HV.out).mono ?_
   rintro e w1 ⟨he, h9⟩
   have h9 := h9.symm
   subst h9
   rw [t3_lit HT.out] at he
   subst he
   go_wp2_with fail
   (try simp only [Exit.inBlock, Exit.then])
   refine bodyPost_ret (v := .tuple #[.agg #[.int .u64 0, .slice none 0 0], .bool false]) (by rw [results_cell_tmp rfl]; go_simp) rfl ?_
   exact tk_no HNO.out (HR0.out.two _ _)
  ·have hg1i : 1 ≤ (g : Int) := by omega
   have hgd1 : decide ((g : Int) < 1) = false := decide_eq_false hg1
   clear hg1
   by_cases hg2 : (1099511627776 : Int) < (g : Int)
   ·have HNO : Hid (rootOf b B = none) := root_gen HT.out (.inr (by omega))
    go_in
    go_wp2_with fail
    rw [← HW0.out]
    refine (take_walk HV.out).mono ?_
    rintro e w1 ⟨he, h9⟩
    have h9 := h9.symm
    subst h9
    rw [t3_lit HT.out] at he
    subst he
    go_wp2_with fail
    (try simp only [Exit.inBlock, Exit.then])
    refine bodyPost_ret (v := .tuple #[.agg #[.int .u64 0, .slice none 0 0], .bool false]) (by rw [results_cell_tmp rfl]; go_simp) rfl ?_
    exact tk_no HNO.out (HR0.out.two _ _)
   ·have HG : Hid (1 ≤ g ∧ g ≤ 1099511627776) := ⟨by omega, by omega⟩
    have hgd2 : decide ((1099511627776 : Int) < (g : Int)) = false := decide_eq_false hg2
    clear hg2
    obtain ⟨t, n, er, hnn⟩ : ∃ t n er, Wm.takeNums (b.drop p) 8 = (t, n, er) := ⟨_, _, _, rfl⟩
    have HN : Hid (Wm.takeNums (b.drop p) 8 = (t, n, er)) := hnn
    have HDL : Hid ((b.drop p).length * 8 ≤ 140737488355328) := by show _ ≤ _; rw [List.length_drop]; have := HL.out; omega
    clear hnn z0 z1 f0 f1
    by_cases hcp : bc = p
    ·have HLP : Hid (b.length ≤ p) := by show _ ≤ _; have := HBC.out; omega
     have HCP : Hid (bc = p) := hcp
     have h3 : er = 3 := by
      have hh := HN.out
      rw [List.drop_eq_nil_of_le HLP.out] at hh
      have : Wm.takeNums [] 8 = ([], 0, 3) := rfl
      rw [this] at hh
      simp only [Prod.mk.injEq] at hh
      exact hh.2.2.symm
     subst h3
     have HNO : Hid (rootOf b B = none) := root_nums HT.out HN.out (by omega)
     clear hcp
     go_in
     go_wp2_with fail
     rw [← HW0.out]
     refine (take_walk HV.out).mono ?_
     rintro e w1 ⟨he, h9⟩
     have h9 := h9.symm
     subst h9
     rw [t3_lit HT.out] at he
     subst he
     have hcp := HCP.out
     have hbp : b.length = p := by have := HLP.out; omega
     clear HCP
     subst hcp
     go_wp2_with fail
     refine (takenums_walk 8 (Bv.cutEnd (ao := bo) HLP.out) HDL.out (by omega)).mono ?_
     rw [HN.out]
     rintro e w2 ⟨ao, cap, rfl, hS, hB2, hnw⟩
     simp only at hS hnw ⊢
     have HR2 : Hid (Rc w w2) := HR0.out.go hB2
     obtain ⟨⟨u0, z0⟩, f0⟩ := HR2.out.z 0 (by omega)
     obtain ⟨⟨u1, z1⟩, f1⟩ := HR2.out.z 1 (by omega)
     clear hS hnw hB2
     go_wp2_with fail
     (try simp only [Exit.inBlock, Exit.then])
     refine bodyPost_ret (v := .tuple #[.agg #[.int .u64 0, .slice none 0 0], .bool false]) (by rw [results_cell_tmp rfl]; go_simp) rfl ?_
     exact tk_no HNO.out (HR2.out.two _ _)
    ·by_cases he0 : er = 0
     ·subst he0
      have HNF : Hid (n ≤ (b.drop p).length ∧ t.length ≤ 8) := nums_fit (fun c hc => HBY.out c (List.mem_of_mem_drop hc)) HN.out
      have hpn : (p : Int) + (n : Int) ≤ (b.length : Int) := by have h1 := HNF.out.1; rw [List.length_drop] at h1; omega
      by_cases hln : p + n = b.length
      ·have hlb : ((p : Int) + (n : Int) != (b.length : Int)) = false := by simp; omega
       have HLN : Hid (p + n = b.length) := hln
       clear hln
       cases htb : tabBP t B
       ·have HTB : Hid (tabBP t B = false) := htb
        have HNO : Hid (rootOf b B = none) := root_tab HT.out HN.out htb
        clear htb
        go_in
        go_wp2_with fail
        rw [← HW0.out]
        refine (take_walk HV.out).mono ?_
        rintro e w1 ⟨he, h9⟩
        have h9 := h9.symm
        subst h9
        rw [t3_lit HT.out] at he
        subst he
        go_wp2_with fail
        refine (takenums_walk 8 (HV.out.cutFrom p HP.out hcp) HDL.out (by omega)).mono ?_
        rw [HN.out]
        rintro e w2 ⟨ao, cap, rfl, hS, hB2, hnw⟩
        simp only [ib_len] at hS hnw ⊢
        have HS : Hid (Tw w2 (.slice ao t.length cap) t) := hS
        have HR2 : Hid (Rc w w2) := HR0.out.go hB2
        obtain ⟨⟨u0, z0⟩, f0⟩ := HR2.out.z 0 (by omega)
        obtain ⟨⟨u1, z1⟩, f1⟩ := HR2.out.z 1 (by omega)
        clear hS hnw hB2
        go_wp2_with fail
        refine (are_walk HS.out (by have := HNF.out.2; omega) HBB.out).mono ?_
        rw [HTB.out]
        rintro e w3 ⟨rfl, h9⟩
        have h9 := h9.symm
        subst h9
        go_wp2_with fail
        (try simp only [Exit.inBlock, Exit.then])
        refine bodyPost_ret (v := .tuple #[.agg #[.int .u64 0, .slice none 0 0], .bool false]) (by rw [results_cell_tmp rfl]; go_simp) rfl ?_
        exact tk_no HNO.out (HR2.out.two _ _)
       ·have HTB : Hid (tabBP t B = true) := htb
        have HYE : Hid (rootOf b B = some (g, t)) := root_some HT.out HG.out.1 HG.out.2 HN.out HLN.out htb
        clear htb
        go_in
        go_wp2_with fail
        rw [← HW0.out]
        refine (take_walk HV.out).mono ?_
        rintro e w1 ⟨he, h9⟩
        have h9 := h9.symm
        subst h9
        rw [t3_lit HT.out] at he
        subst he
        go_wp2_with fail
        refine (takenums_walk 8 (HV.out.cutFrom p HP.out hcp) HDL.out (by omega)).mono ?_
        rw [HN.out]
        rintro e w2 ⟨ao, cap, rfl, hS, hB2, hnw⟩
        simp only [ib_len] at hS hnw ⊢
        have HS : Hid (Tw w2 (.slice ao t.length cap) t) := hS
        have HNW : Hid (∀ x, (Value.slice ao t.length cap).ownBlock = some x → w.heap.size < x) := fun x hx => Nat.lt_of_lt_of_le HR0.out.lt (hnw x hx)
        have HR2 : Hid (Rc w w2) := HR0.out.go hB2
        obtain ⟨⟨u0, z0⟩, f0⟩ := HR2.out.z 0 (by omega)
        obtain ⟨⟨u1, z1⟩, f1⟩ := HR2.out.z 1 (by omega)
        clear hS hnw hB2
        go_wp2_with fail
        refine (are_walk HS.out (by have := HNF.out.2; omega) HBB.out).mono ?_
        rw [HTB.out]
        rintro e w3 ⟨rfl, h9⟩
        have h9 := h9.symm
        subst h9
        go_wp2_with fail
        (try simp only [Exit.inBlock, Exit.then])
        refine bodyPost_ret (v := .tuple #[.agg #[.int .u64 g, .slice ao t.length cap], .bool true]) (by rw [results_cell_tmp rfl]; go_simp) rfl ?_
        refine tk_yes HYE.out (HS.out.ch (fun x hx => ?_)) (fun x hx => Nat.le_of_lt (HNW.out x hx)) (HR2.out.two _ _)
        have hne : x ≠ w.heap.size := by have := HNW.out x hx; omega
        rw [set_other 1 _ hne, set_other 0 _ hne]
      ·have hlb : ((p : Int) + (n : Int) != (b.length : Int)) = true := by simp; omega
       have HNO : Hid (rootOf b B = none) := root_len HT.out HN.out hln
       clear hln
       go_in
       go_wp2_with fail
       rw [← HW0.out]
       refine (take_walk HV.out).mono ?_
       rintro e w1 ⟨he, h9⟩
       have h9 := h9.symm
       subst h9
       rw [t3_lit HT.out] at he
       subst he
       go_wp2_with fail
       refine (takenums_walk 8 (HV.out.cutFrom p HP.out hcp) HDL.out (by omega)).mono ?_
       rw [HN.out]
       rintro e w2 ⟨ao, cap, rfl, hS, hB2, hnw⟩
       simp only [ib_len] at hS hnw ⊢
       have HR2 : Hid (Rc w w2) := HR0.out.go hB2
       obtain ⟨⟨u0, z0⟩, f0⟩ := HR2.out.z 0 (by omega)
       obtain ⟨⟨u1, z1⟩, f1⟩ := HR2.out.z 1 (by omega)
       clear hS hnw hB2
       go_wp2_with fail
       (try simp only [Exit.inBlock, Exit.then])
       refine bodyPost_ret (v := .tuple #[.agg #[.int .u64 0, .slice none 0 0], .bool false]) (by rw [results_cell_tmp rfl]; go_simp) rfl ?_
       exact tk_no HNO.out (HR2.out.two _ _)
     ·have heb : ((er : Int) != 0) = true := by simp; omega
      have hei : ¬ (er : Int) = 0 := by omega
      have HNO : Hid (rootOf b B = none) := root_nums HT.out HN.out he0
      clear he0
      go_in
      go_wp2_with fail
      rw [← HW0.out]
      refine (take_walk HV.out).mono ?_
      rintro e w1 ⟨he, h9⟩
      have h9 := h9.symm
      subst h9
      rw [t3_lit HT.out] at he
      subst he
      go_wp2_with fail
      refine (takenums_walk 8 (HV.out.cutFrom p HP.out hcp) HDL.out (by omega)).mono ?_
      rw [HN.out]
      rintro e w2 ⟨ao, cap, rfl, hS, hB2, hnw⟩
      simp only [ib_len] at hS hnw ⊢
      have HR2 : Hid (Rc w w2) := HR0.out.go hB2
      obtain ⟨⟨u0, z0⟩, f0⟩ := HR2.out.z 0 (by omega)
      obtain ⟨⟨u1, z1⟩, f1⟩ := HR2.out.z 1 (by omega)
      clear hS hnw hB2
      go_wp2_with fail
      (try simp only [Exit.inBlock, Exit.then])
      refine bodyPost_ret (v := .tuple #[.agg #[.int .u64 0, .slice none 0 0], .bool false]) (by rw [results_cell_tmp rfl]; go_simp) rfl ?_
      exact tk_no HNO.out (HR2.out.two _ _)
section

variable {T : TypeId} {D : Nat → Prop} {w : World} {v bv : Value} {S : Dk} {b : List Nat}

def Wl (T : TypeId) (D : Nat → Prop) (w : World) (v : Value) (S : Dk) (w' : World) : Prop := (∃ D' : Nat → Prop, Dsk T D' w' v S ∧ ∀ x, D' x → D x ∨ w.heap.size ≤ x) ∧ Ch D w w'
theorem wr_ok (h : Dsk 89 D w v S) (i : Int) (hb : Bv w bv b) (hwr : S.wr < 9223372036854775807) (hI : writeI S i b = 0) :
  Calls Tryz.prog 75 #[v, .int .i64 i, bv] w fun e w' => e = .returned (.tuple #[]) ∧ Wl 89 D w v (writeS S i b) w' := by
 have HD := hidH h
 have HB : Hid (Bv w bv b) := hb
 have HW := hidH hwr
 have HI : Hid (writeI S i b = 0) := hI
 clear h hb hwr hI
 go_in
 go_wp2_with fail
 refine (write_walk HD.out i HB.out HW.out).mono ?_
 rintro e w1 ⟨rfl, hD, hC⟩
 rw [HI.out]
 go_wp2_with fail
 refine bodyPost_end (results_none rfl _ _ _) rfl ?_
 exact ⟨rfl, hD, hC⟩
theorem wr_bad (h : Dsk 89 D w v S) (i : Int) (hb : Bv w bv b) (hwr : S.wr < 9223372036854775807) (hI : writeI S i b ≠ 0) :
  Calls Tryz.prog 75 #[v, .int .i64 i, bv] w fun e w' => (∃ u pv, e = .panicked [{ v := .iface u pv, recovered := false }]) ∧ Wl 89 D w v (writeS S i b) w' := by
 have HD := hidH h
 have HB : Hid (Bv w bv b) := hb
 have HW := hidH hwr
 obtain ⟨q, hq⟩ : ∃ q, q = writeI S i b := ⟨_, rfl⟩
 have HI : Hid (q = writeI S i b) := hq
 rw [← hq] at hI
 have hqb : (q != 0) = true := by simpa using hI
 clear h hb hwr hq
 go_in
 go_wp2_with fail
 refine (write_walk HD.out i HB.out HW.out).mono ?_
 rintro e w1 ⟨rfl, hD, hC⟩
 rw [← HI.out]
 go_wp2_with fail
 exact ⟨rfl, ⟨_, _, rfl⟩, hD, hC⟩
end
end
end Go.Proofs.YtofkhgokfdpdiabGreat
