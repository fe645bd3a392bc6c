/- The walk of MarkUnion. -/
import Derived.Test.YtkicnoohfilgjaaKx

import Derived.Test.YtkicnoohfilgjaaKl

import Derived.Deep.RegionHeld3

import Derived.Maps.AppendAt

import Derived.Deep.CutBlock

namespace Go.Proofs.Ytkicnoohfilgjaa

open Go.RowKit



theorem uni_turn (a b : List Nat) : uniU (b ++ a) = uniU (a ++ b) := rise_ext (rise_uni _) (rise_uni _) (fun x => by rw [mem_uni, mem_uni, List.mem_append, List.mem_append]; exact or_comm)
theorem ris_rise {l : List Nat} : ∀ {o : Option Nat}, (∀ j, o = some j → ∀ x ∈ l, j < x) → RiseK l → risE o l = true := by
  induction l with
  | nil => intro o _ _; rfl
  | cons a l ih =>
    intro o ho h
    obtain ⟨h1, h2⟩ := List.pairwise_cons.1 h
    unfold risE
    rw [ih (fun j hj x hx => by cases hj; exact h1 x hx) h2, Bool.and_true]
    cases o with
    | none => rfl
    | some j => exact decide_eq_true (ho j rfl a (by simp))
theorem ris_uni (l : List Nat) : risB (uniU l) = true := ris_rise (fun j hj => by cases hj) (rise_uni l)
theorem insK_le' (k : Nat) (l : List Nat) : (insK k l).length ≤ l.length + 1 := by
  induction l with
  | nil => simp [insK]
  | cons a l ih => unfold insK; split; · simp
                   split <;> simp; omega
theorem uni_len (l : List Nat) : (uniU l).length ≤ l.length := by
  have : ∀ (r t : List Nat), (r.foldl (fun t k => insK k t) t).length ≤ t.length + r.length := by
    intro r
    induction r with
    | nil => simp
    | cons a r ih => intro t; have h1 := ih (insK a t); have h2 : (insK a t).length ≤ t.length + 1 := (insK_le' a t); simp only [List.foldl_cons, List.length_cons]; omega
  have h := this l []
  simpa [uniU] using h
/-- APPEND of one key onto a row of the call's own: the row stays where it was, or is new. -/
theorem wpList_append_ku {w : World} {ops : Array Oper} {rest : List Oper} {o : Oper} {a : Act} {Q : Exit → Act → World → Prop} (hgd : o.guard = none) (s x : Operand)
    (ho : o.op = .call { callee := .builtin .append, args := #[s, x], argTypes := #[24, 24] })
    (v : Value) (n : Nat) (l : List Int) (hs : a.eval s = v) (hown : w.ownsRow 0 32 1 v n (l.map (Value.int .u64)))
    (q : Nat) (k : Int) (hx : a.eval x = .slice (some ⟨q, 0, none⟩) 1 1) (h0 : w.cell? ⟨q, 0, none⟩ = some (.int .u64 k)) (hn : n ≤ 4000000)
    (h : ∀ v' w', w'.ownsRow 0 32 1 v' (n + 1) ((l ++ [k]).map (Value.int .u64)) → w.grownBy w' v.ownBlock → (v'.ownBlock = v.ownBlock ∨ v'.ownBlock = some w.heap.size) → wpList Try.prog ops Q rest (a.put o.dst v') w') : wpList Try.prog ops Q (o :: rest) a w := by
  obtain ⟨i0, hi, hz0, hz1, hz2⟩ : ∃ i, Try.prog.info? 32 = some i ∧ i.zero = some (.int .u64 0) ∧ i.size = 1 ∧ i.bytes = 8 := by
    have h := info_u64
    cases hi : Try.prog.info? 32 with
    | none => rw [hi] at h; cases h
    | some i => rw [hi] at h; simp at h; exact ⟨i, rfl, h.1, h.2.1, h.2.2⟩
  refine wpList_append_own_at w hgd s x 24 ho 0 32 i0 (.int .u64 0) 1 8 Try.underlying24 hi hz0 hz1 hz2 rfl (by decide) v n _ hs hown ⟨q, 0, none⟩ 1 1 [.int .u64 k] hx rfl ?_ (fun u hu => by simp at hu; subst hu; rfl) (by simp only [maxLen]; omega) (by omega) (Nat.zero_le _) (fun v' w' h1 h2 _ h4 => h v' w' (by simpa using h1) h2 h4)
  intro j u hj
  cases j with
  | zero => simp at hj; subst hj; exact h0
  | succ j => simp at hj
theorem Kv.chk {D : Nat → Prop} {w w' : World} {v : Value} {l : List Nat} (h : Kv w v l) (hc : Ch D w w') (hd : ∀ x, v.ownBlock = some x → D x → False) : Kv w' v l := Kv.ch h hc hd
/-- Where the loop of appends stands. -/
def GrU (w0 : World) (D : Nat → Prop) (un : Nat) (uv iv : Value) (wr : World) : Prop :=
  ∃ (i : Nat) (l : List Int), iv = .int .i64 i ∧ i ≤ 9 ∧ wr.ownsRow 0 32 1 uv (un + i) (l.map (Value.int .u64)) ∧ (∀ x, uv.ownBlock = some x → D x ∨ w0.heap.size ≤ x) ∧ Ch D w0 wr


set_option maxRecDepth 100000 in
set_option maxHeartbeats 8000000 in
theorem markunion_walk {w : World} {av bv : Value} {la lb : List Nat} (ha : Kv w av la) (hb : Kv w bv lb) (hla : la.length ≤ 1048576) (hlb : lb.length ≤ 1048576) :
    Calls Try.prog 5 #[av, bv] w fun e w' => e = .returned (.bool true) ∧ Below w.heap.size w w' := by
  have HA : Hid (Kv w av la) := ha
  have HB : Hid (Kv w bv lb) := hb
  obtain ⟨aa, ac, hav, hal, ham⟩ := kv_form ha
  obtain ⟨ba, bc, hbv, hbl, hbm⟩ := kv_form hb
  obtain ⟨n, hn⟩ : ∃ n, n = la.length := ⟨_, rfl⟩
  obtain ⟨m, hm⟩ : ∃ m, m = lb.length := ⟨_, rfl⟩
  rw [← hn] at hav
  rw [← hm] at hbv
  subst hav hbv
  have HN : Hid (n = la.length) := hn
  have HM : Hid (m = lb.length) := hm
  have hni : (n : Int) ≤ 1048576 := by omega
  have hmi : (m : Int) ≤ 1048576 := by omega
  have HLA : Hid (la.length ≤ 1048576) := hla
  have HLB : Hid (lb.length ≤ 1048576) := hlb
  have hwn : IntKind.i64.wrap ((n : Int) + 3) = (n : Int) + 3 := by rw [IntKind.wrap_i64]; omega
  have HN4 : Hid (((n : Int) + 3) = ((n + 3 : Nat) : Int)) := by show _ = _; omega
  obtain ⟨ci, hci, hz0, hz1, hz2⟩ : ∃ i, Try.prog.info? 32 = some i ∧ i.zero = some (.int .u64 0) ∧ i.size = 1 ∧ i.bytes = 8 := by
    have h := info_u64
    cases hi : Try.prog.info? 32 with
    | none => rw [hi] at h; cases h
    | some i => rw [hi] at h; simp at h; exact ⟨i, rfl, h.1, h.2.1, h.2.2⟩
  clear ha hb hn hm hla hlb hal ham hbl hbm
  go_enter Try.func5, Try.ntmps5
  go_wp2_with fail
  refine (awake_walk _).mono ?_
  rintro e w1 ⟨rfl, hB1⟩
  have HB1 : Hid (Below w.heap.size w w1) := hB1
  clear hB1
  have HMB : Hid (ci.bytes * (n + 3) ≤ 281474976710656) := by show _ ≤ _; rw [hz2]; omega
  have HML : Hid (n + 3 ≤ maxLen) := by show _ ≤ _; unfold maxLen; omega
  go_upto_region 5 with (at_make; refine wpList_make_own _ (by rfl) _ _ 24 (by rfl) w1.heap.size 32 ci (.int .u64 0) 1 Try.underlying24 hci hz0 hz1 .i64 .i64 _ (n + 3) (by rfl) (by rfl) HN4.out HMB.out HML.out (Nat.le_refl _) ?_; intro w2 hown hgrow)
  have HO2 : Hid (w2.ownsRow w1.heap.size 32 1 (.slice (some ⟨w1.heap.size, 0, none⟩) 0 (n + 3)) 0 []) := hown
  have HB2 : Hid (Below w1.heap.size w1 w2) := (Below.refl _ _).grown hgrow (Nat.le_refl _) (by simp)
  clear hown hgrow hci hz0 hz1 hz2 HN4 hwn HMB HML
  have HK2 : Hid (Kv w2 (.slice aa n ac) la) := HA.out.below (below_trans HB1.out HB2.out)
  go_upto_region 6 with (at_builtin; refine wpList_append_sv (by rfl) (.tmp 23) (.tmp 24) 24 (by rfl) w1.heap.size 32 .u64 8 Try.underlying24 info_u64 _ _ _ (by rfl) HO2.out _ (ib la) (by rfl) HK2.out (by have := HLA.out; rw [ib_len]; unfold maxLen; omega) (by have := HLA.out; rw [ib_len]; omega) HB2.out.size ?_; intro v3 w3 hown hgrow)
  have HO3 : Hid (w3.ownsRow w1.heap.size 32 1 v3 (0 + (ib la).length) ([] ++ (ib la).map (Value.int .u64))) := hown
  have HB3 : Hid (Below w1.heap.size w1 w3) := HB2.out.trans (grown_belowC HO2.out hgrow HB2.out.size)
  clear hown hgrow HO2 HK2 HB2
  go_upto_region 7 with (at_builtin; refine wpList_append_sv (by rfl) (.tmp 26) (.tmp 27) 24 (by rfl) w1.heap.size 32 .u64 8 Try.underlying24 info_u64 _ _ _ (by rfl) (HO3.out.alloc _) _ (ib [71, 72, 73]) (by rfl) (kv_lit3 w3 71 72 73) (by have := HLA.out; simp [ib]; unfold maxLen; omega) (by have := HLA.out; simp [ib]; omega) (by rw [size_allocC]; have := HB3.out.size; omega) ?_; intro v4 w4 hown hgrow)
  obtain ⟨N, hNN⟩ : ∃ N, N = n + 3 := ⟨_, rfl⟩
  have HO4 : Hid (w4.ownsRow w1.heap.size 32 1 v4 N ((ib (la ++ [71, 72, 73])).map (Value.int .u64))) := by
    show World.ownsRow _ _ _ _ _ _ _
    rw [hNN, HN.out, ib_append, List.map_append]
    simpa [ib] using hown
  have HB4 : Hid (Below w1.heap.size w1 w4) := (below_trans HB3.out (below_alloc _ _)).trans (grown_belowC (HO3.out.alloc _) hgrow (by rw [size_allocC]; have := HB3.out.size; omega))
  clear hown hgrow HO3 HB3
  obtain ⟨g, cap, hv4, hgc, hgm⟩ := (ro_own HO4.out).some (by omega)
  subst hv4
  have hnN : (n : Int) ≤ (N : Int) := by omega
  have hNc : (N : Int) ≤ (cap : Int) := by omega
  have hnc : (n : Int) ≤ (cap : Int) := by omega
  have hcn : ¬ cap = n := by omega
  have hcm : (cap : Int) ≤ 9223372036854775807 := by unfold maxLen at hgm; omega
  have HL4 : Hid (Kv w4 (.slice (some ⟨g, 0, none⟩) N cap) (la ++ [71, 72, 73])) := own_sv HO4.out
  have HX4 : Hid (Kv w4 (.slice (some ⟨g, 0, none⟩) n cap) la) := by
    have h := kv_sub HL4.out 0 n cap (by have := HN.out; simp; omega) (by omega) hgm
    rw [List.drop_zero, HN.out, List.take_left] at h
    rw [HN.out]
    exact h
  have HT4 : Hid (Kv w4 (.slice (some ⟨g, n, none⟩) (N - n) (cap - n)) [71, 72, 73]) := by
    have h := kv_sub HL4.out n 3 (cap - n) (by have := HN.out; simp; omega) (by omega) (by omega)
    rw [show List.drop n (la ++ [71, 72, 73]) = [71, 72, 73] from by rw [HN.out]; simp, Nat.zero_add] at h
    rw [show N - n = 3 by omega]
    exact h
  have HBW4 : Hid (Below w.heap.size w w4) := below_trans HB1.out HB4.out
  have HG4 : Hid (g < w4.heap.size) := by obtain ⟨⟨x, h⟩, _⟩ := (ro_own HO4.out).at (i := 0) (by omega); exact cell_lt h
  have HBW4S : Hid (w.heap.size ≤ w4.heap.size) := HBW4.out.size
  clear HL4 HO4 HB4 HB1 hgc hgm hNN
  go_wp2_with fail
  refine (union_walk HX4.out (HB.out.below HBW4.out) (by have := HLA.out; have := HLB.out; rw [List.length_append]; omega)).mono ?_
  rintro e w5 ⟨uv, rfl, ho5, hB5⟩
  obtain ⟨un, hun⟩ : ∃ un, un = (uniU (la ++ lb)).length := ⟨_, rfl⟩
  rw [← hun] at ho5
  have HUN : Hid (un = (uniU (la ++ lb)).length) := hun
  obtain ⟨ua, uc, huv⟩ := own_form8 ho5
  subst huv
  have HO5 : Hid (w5.ownsRow w4.heap.size 32 1 (.slice ua un uc) un ((ib (uniU (la ++ lb))).map (Value.int .u64))) := ho5
  have hui : (un : Int) ≤ 2097152 := by have h1 := uni_len (la ++ lb); rw [List.length_append] at h1; have := HLA.out; have := HLB.out; omega
  have HX5 : Hid (Kv w5 (.slice (some ⟨g, 0, none⟩) n cap) la) := HX4.out.below hB5
  have HT5 : Hid (Kv w5 (.slice (some ⟨g, n, none⟩) (N - n) (cap - n)) [71, 72, 73]) := HT4.out.below hB5
  have HBW5 : Hid (Below w.heap.size w w5) := below_trans HBW4.out hB5
  have HUP : Hid (∀ x, (Value.slice ua un uc).ownBlock = some x → w4.heap.size ≤ x ∧ x < w5.heap.size) := fun x hx => ho5.lt x hx
  clear hun ho5 hB5 HX4 HT4
  go_wp2_with fail
  refine (union_walk (HB.out.below HBW5.out) HX5.out (by have := HLA.out; have := HLB.out; rw [List.length_append]; omega)).mono ?_
  unfold UGot
  rw [uni_turn]
  rintro e w6 ⟨vv, rfl, ho6, hB6⟩
  rw [← HUN.out] at ho6
  obtain ⟨va, vc, hvv⟩ := own_form8 ho6
  subst hvv
  have HV6 : Hid (Kv w6 (.slice va un vc) (uniU (la ++ lb))) := own_sv ho6
  have HVP : Hid (∀ x, (Value.slice va un vc).ownBlock = some x → w5.heap.size ≤ x ∧ x < w6.heap.size) := fun x hx => ho6.lt x hx
  have HO6 : Hid _ := own_belowC HO5.out hB6
  have HX6 : Hid (Kv w6 (.slice (some ⟨g, 0, none⟩) n cap) la) := HX5.out.below hB6
  have HT6 : Hid (Kv w6 (.slice (some ⟨g, n, none⟩) (N - n) (cap - n)) [71, 72, 73]) := HT5.out.below hB6
  have HBW6 : Hid (Below w.heap.size w w6) := below_trans HBW5.out hB6
  have HU6 : Hid (Kv w6 (.slice ua un uc) (uniU (la ++ lb))) := own_sv HO6.out
  have HS56 : Hid (w5.heap.size ≤ w6.heap.size) := hB6.size
  clear ho6 hB6 HO5 HX5 HT5 HBW5 HBW4
  go_wp2_with fail
  refine (eqk_walk HU6.out HV6.out).mono ?_
  rintro e wa ⟨rfl, hBa⟩
  have HBa : Hid (Below w6.heap.size w6 wa) := hBa
  clear hBa
  go_wp2_with fail
  refine (ris_walk (HU6.out.below HBa.out)).mono ?_
  rw [ris_uni]
  rintro e wb ⟨rfl, hBb⟩
  have HBb : Hid (Below w6.heap.size w6 wb) := below_trans HBa.out hBb
  clear hBb HBa
  go_wp2_with fail
  refine (eqk_walk (HX6.out.below HBb.out) (HA.out.below (below_trans HBW6.out HBb.out))).mono ?_
  rintro e wd ⟨rfl, hBd⟩
  have HBd : Hid (Below w6.heap.size w6 wd) := below_trans HBb.out hBd
  clear hBd HBb
  have HTd : Hid (Kv (wd.alloc (Obj.cells #[.int .u64 71, .int .u64 72, .int .u64 73] 32)) (.slice (some ⟨g, n, none⟩) (N - n) (cap - n)) [71, 72, 73]) := HT6.out.below (below_trans HBd.out (below_alloc _ _))
  have HLd : Hid (Kv (wd.alloc (Obj.cells #[.int .u64 71, .int .u64 72, .int .u64 73] 32)) (.slice (some ⟨wd.heap.size, 0, none⟩) 3 3) [71, 72, 73]) := kv_lit3 wd 71 72 73
  have HBe : Hid (Below w6.heap.size w6 (wd.alloc (Obj.cells #[.int .u64 71, .int .u64 72, .int .u64 73] 32))) := below_trans HBd.out (below_alloc _ _)
  go_wp2_with fail
  refine (eqk_walk HTd.out HLd.out).mono ?_
  rintro e w7 ⟨rfl, hB7⟩
  have HB7 : Hid (Below w6.heap.size w6 w7) := below_trans HBe.out hB7
  clear hB7 HTd HLd HBe HBd
  go_upto_region 12 with fail
  have HBW8 : Hid _ := below_trans (below_trans HBW6.out HB7.out) (below_alloc w7 (Obj.cells #[.int .i64 0, .int .i64 0, .slice ua un uc] 26))
  have HB68 : Hid _ := below_trans HB7.out (below_alloc w7 (Obj.cells #[.int .i64 0, .int .i64 0, .slice ua un uc] 26))
  have HA8 : Hid _ := mb_new w7 0 0 (.slice ua un uc)
  generalize w7.heap.size = A at HA8 ⊢
  generalize w7.alloc (Obj.cells #[.int .i64 0, .int .i64 0, .slice ua un uc] 26) = w8 at HA8 HBW8 HB68 ⊢
  have HO8 : Hid _ := own_belowC HO6.out HB68.out
  have HU8 : Hid (Kv w8 (.slice ua un uc) (uniU (la ++ lb))) := HU6.out.below HB68.out
  have HV8 : Hid (Kv w8 (.slice va un vc) (uniU (la ++ lb))) := HV6.out.below HB68.out
  have HX8 : Hid (Kv w8 (.slice (some ⟨g, 0, none⟩) n cap) la) := HX6.out.below HB68.out
  have HKA : Hid (Kv w8 (.slice aa n ac) la) := HA.out.below HBW8.out
  have HKB : Hid (Kv w8 (.slice ba m bc) lb) := HB.out.below HBW8.out
  have HS68 : Hid (w6.heap.size ≤ w8.heap.size) := HB68.out.size
  clear HB7 HU6 HV6 HO6 HX6 HT6 HBW6 HB68
  go_upto_block 0 with fail
  go_cut [10] (fun _ wx => Below w8.heap.size w8 wx)
  case first =>
    go_wp2_with fail
    go_loopw [10] (fun iv wx => ∃ i : Nat, iv = .int .i64 i ∧ i ≤ n ∧ Below w8.heap.size w8 wx) (fun iv _ => n - (intOf iv).toNat)
    case atStart => exact ⟨0, rfl, by omega, Below.refl _ _⟩
    case round =>
      obtain ⟨i, rfl, hi, hbx⟩ := hrel
      have HBX : Hid (Below w8.heap.size w8 wr) := hbx
      clear hbx
      by_cases hlt : i < n
      · have hlti : (i : Int) < (n : Int) := by omega
        by_cases h512 : i < 512
        · have h512i : (i : Int) < 512 := by omega
          obtain ⟨_, _, e0, _, _, _, hcel⟩ := HKA.out.below HBX.out
          obtain ⟨b0, off, e1, m0⟩ := hcel i (by rw [ib_len, ← HN.out]; exact hlt)
          simp only [Value.slice.injEq] at e0
          have e2 := e0.1
          clear e0
          rw [← e2] at e1
          subst e1
          have hiL : i < la.length := by rw [← HN.out]; exact hlt
          obtain ⟨y, hy⟩ : ∃ y, y = la[i] := ⟨_, rfl⟩
          have m1 : ∀ wx, Below wr.heap.size wr wx → wx.cell? ⟨b0, off + i, none⟩ = some (.int .u64 (y : Nat)) := fun wx h => by
            rw [h.cell (p := ⟨b0, off + i, none⟩) (cell_lt m0), m0]; simp [ib, List.getD, hiL, hy]
          have HY : Hid (decide (y ∈ uniU (la ++ lb)) = true) := decide_eq_true (mem_uni.2 (by rw [hy]; exact List.mem_append.2 (.inl (List.getElem_mem _))))
          have a0 : ∀ wx, Below wr.heap.size wr wx → wx.cell? ⟨A, 0, none⟩ = some (.int .i64 0) := fun wx h => ((HA8.out.keep HBX.out).keep h).c0
          have a1 : ∀ wx, Below wr.heap.size wr wx → wx.cell? ⟨A, 1, none⟩ = some (.int .i64 0) := fun wx h => ((HA8.out.keep HBX.out).keep h).c1
          have a2 : ∀ wx, Below wr.heap.size wr wx → wx.cell? ⟨A, 2, none⟩ = some (.slice ua un uc) := fun wx h => ((HA8.out.keep HBX.out).keep h).c2
          clear hcel e2 m0 hy
          go_upto_region 15 with fail
          go_region_held3 (fun wx => Below wr.heap.size wr wx) (first | assumption | exact (Below.refl _ _).drew)
            (first | (go_at_call 16; refine (has_walk ((HU8.out.below HBX.out).below (by assumption)) 0 0 y).mono ?_; rw [HY.out]; rintro e w9 ⟨rfl, hB9⟩; have hS9 := below_trans (by assumption) hB9))
          all_goals go_wp2_with fail
          all_goals go_roundw
          all_goals first | (case rel => exact ⟨i + 1, by go_num, hlt, below_trans HBX.out (by assumption)⟩) | (case measure => simp [intOf]; omega)
        · have h512i : ¬ (i : Int) < 512 := by omega
          go_wp2_with fail
          go_meet
          exact HBX.out
      · have hlti : ¬ (i : Int) < (n : Int) := by omega
        go_wp2_with fail
        go_meet
        exact HBX.out
  case rest =>

    have HW1 : Hid (Below w8.heap.size w8 wc) := hcut
    obtain ⟨wp, hwp⟩ : ∃ wp, wp = wc := ⟨_, rfl⟩
    rw [← hwp] at HW1 ⊢
    clear hcut hwp
    go_upto_block 2 with fail
    go_cut [11] (fun _ wx => Below w8.heap.size w8 wx)
    case first =>
      go_wp2_with fail
      go_loopw [11] (fun iv wx => ∃ i : Nat, iv = .int .i64 i ∧ i ≤ m ∧ Below w8.heap.size w8 wx) (fun iv _ => m - (intOf iv).toNat)
      case atStart => exact ⟨0, rfl, by omega, HW1.out⟩
      case round =>
        obtain ⟨i, rfl, hi, hbx⟩ := hrel
        have HBX : Hid (Below w8.heap.size w8 wr) := hbx
        clear hbx
        by_cases hlt : i < m
        · have hlti : (i : Int) < (m : Int) := by omega
          by_cases h512 : i < 512
          · have h512i : (i : Int) < 512 := by omega
            obtain ⟨_, _, e0, _, _, _, hcel⟩ := HKB.out.below HBX.out
            obtain ⟨b0, off, e1, m0⟩ := hcel i (by rw [ib_len, ← HM.out]; exact hlt)
            simp only [Value.slice.injEq] at e0
            have e2 := e0.1
            clear e0
            rw [← e2] at e1
            subst e1
            have hiL : i < lb.length := by rw [← HM.out]; exact hlt
            obtain ⟨y, hy⟩ : ∃ y, y = lb[i] := ⟨_, rfl⟩
            have m1 : ∀ wx, Below wr.heap.size wr wx → wx.cell? ⟨b0, off + i, none⟩ = some (.int .u64 (y : Nat)) := fun wx h => by
              rw [h.cell (p := ⟨b0, off + i, none⟩) (cell_lt m0), m0]; simp [ib, List.getD, hiL, hy]
            have HY : Hid (decide (y ∈ uniU (la ++ lb)) = true) := decide_eq_true (mem_uni.2 (by rw [hy]; exact List.mem_append.2 (.inr (List.getElem_mem _))))
            have a0 : ∀ wx, Below wr.heap.size wr wx → wx.cell? ⟨A, 0, none⟩ = some (.int .i64 0) := fun wx h => ((HA8.out.keep HBX.out).keep h).c0
            have a1 : ∀ wx, Below wr.heap.size wr wx → wx.cell? ⟨A, 1, none⟩ = some (.int .i64 0) := fun wx h => ((HA8.out.keep HBX.out).keep h).c1
            have a2 : ∀ wx, Below wr.heap.size wr wx → wx.cell? ⟨A, 2, none⟩ = some (.slice ua un uc) := fun wx h => ((HA8.out.keep HBX.out).keep h).c2
            clear hcel e2 m0 hy
            go_upto_region 20 with fail
            go_region_held3 (fun wx => Below wr.heap.size wr wx) (first | assumption | exact (Below.refl _ _).drew)
              (first | (go_at_call 16; refine (has_walk ((HU8.out.below HBX.out).below (by assumption)) 0 0 y).mono ?_; rw [HY.out]; rintro e w9 ⟨rfl, hB9⟩; have hS9 := below_trans (by assumption) hB9))
            all_goals go_wp2_with fail
            all_goals go_roundw
            all_goals first | (case rel => exact ⟨i + 1, by go_num, hlt, below_trans HBX.out (by assumption)⟩) | (case measure => simp [intOf]; omega)
          · have h512i : ¬ (i : Int) < 512 := by omega
            go_wp2_with fail
            go_meet
            exact HBX.out
        · have hlti : ¬ (i : Int) < (m : Int) := by omega
          go_wp2_with fail
          go_meet
          exact HBX.out
    case rest =>

      have HW2 : Hid (Below w8.heap.size w8 wc) := hcut
      obtain ⟨wq, hwq⟩ : ∃ wq, wq = wc := ⟨_, rfl⟩
      rw [← hwq] at HW2 ⊢
      clear hcut hwq HW1
      go_upto_block 4 with fail
      go_cut [12] (fun _ wx => Below w8.heap.size w8 wx)
      case first =>
        go_wp2_with fail
        go_loopw [12] (fun iv wx => ∃ i : Nat, iv = .int .i64 i ∧ i ≤ un ∧ Below w8.heap.size w8 wx) (fun iv _ => un - (intOf iv).toNat)
        case atStart => exact ⟨0, rfl, by omega, HW2.out⟩
        case round =>
          obtain ⟨i, rfl, hi, hbx⟩ := hrel
          have HBX : Hid (Below w8.heap.size w8 wr) := hbx
          clear hbx
          by_cases hlt : i < un
          · have hlti : (i : Int) < (un : Int) := by omega
            by_cases h512 : i < 512
            · have h512i : (i : Int) < 512 := by omega
              obtain ⟨_, _, e0, _, _, _, hcel⟩ := HU8.out.below HBX.out
              obtain ⟨b0, off, e1, m0⟩ := hcel i (by rw [ib_len, ← HUN.out]; exact hlt)
              simp only [Value.slice.injEq] at e0
              have e2 := e0.1
              clear e0
              rw [← e2] at e1
              subst e1
              have hiL : i < (uniU (la ++ lb)).length := by rw [← HUN.out]; exact hlt
              obtain ⟨y, hy⟩ : ∃ y, y = (uniU (la ++ lb))[i] := ⟨_, rfl⟩
              have m1 : wr.cell? ⟨b0, off + i, none⟩ = some (.int .u64 (y : Nat)) := by
                rw [m0]; simp [ib, List.getD, hiL, hy]
              have HYM : Hid (y ∈ la ++ lb) := mem_uni.1 (by rw [hy]; exact List.getElem_mem _)
              clear hcel e2 m0 hy
              by_cases hya : y ∈ la
              · have HY : Hid (decide (y ∈ la) = true) := decide_eq_true hya
                clear hya
                go_wp2_with fail
                refine (has_walk (HKA.out.below HBX.out) 0 0 y).mono ?_
                rw [HY.out]
                rintro e w9 ⟨rfl, hB9⟩
                have HB9 : Hid (Below w8.heap.size w8 w9) := below_trans HBX.out hB9
                clear hB9 m1
                go_wp2_with fail
                go_roundw
                case rel => exact ⟨i + 1, by go_num, hlt, HB9.out⟩
                case measure => simp [intOf]; omega
              · have HY : Hid (decide (y ∈ la) = false) := decide_eq_false hya
                have HZ : Hid (decide (y ∈ lb) = true) := decide_eq_true (by rcases List.mem_append.1 HYM.out with h | h; exact absurd h hya; exact h)
                clear hya
                go_wp2_with fail
                refine (has_walk (HKA.out.below HBX.out) 0 0 y).mono ?_
                rw [HY.out]
                rintro e w9 ⟨rfl, hB9⟩
                have HB9 : Hid (Below w8.heap.size w8 w9) := below_trans HBX.out hB9
                have m2 : w9.cell? ⟨b0, off + i, none⟩ = some (.int .u64 (y : Nat)) := by rw [hB9.cell (p := ⟨b0, off + i, none⟩) (cell_lt m1)]; exact m1
                clear hB9 m1
                go_wp2_with fail
                refine (has_walk (HKB.out.below HB9.out) 0 0 y).mono ?_
                rw [HZ.out]
                rintro e w10 ⟨rfl, hB10⟩
                have HB10 : Hid (Below w8.heap.size w8 w10) := below_trans HB9.out hB10
                clear hB10 m2
                go_wp2_with fail
                go_roundw
                case rel => exact ⟨i + 1, by go_num, hlt, HB10.out⟩
                case measure => simp [intOf]; omega
            · have h512i : ¬ (i : Int) < 512 := by omega
              go_wp2_with fail
              go_meet
              exact HBX.out
          · have hlti : ¬ (i : Int) < (un : Int) := by omega
            go_wp2_with fail
            go_meet
            exact HBX.out
      case rest =>
        have HW3 : Hid (Below w8.heap.size w8 wc) := hcut
        obtain ⟨wt, hwt⟩ : ∃ wt, wt = wc := ⟨_, rfl⟩
        rw [← hwt] at HW3 ⊢
        clear hcut hwt HW2
        have HVt : Hid (Kv (wt.alloc (Obj.cells #[] 32)) (.slice va un vc) (uniU (la ++ lb))) := HV8.out.below (below_trans HW3.out (below_alloc _ _))
        have HOt : Hid ((wt.alloc (Obj.cells #[] 32)).ownsRow wt.heap.size 32 1 (.slice (some ⟨wt.heap.size, 0, none⟩) 0 0) 0 []) := World.ownsRow_made wt #[] 0 (Nat.le_refl _) (by simp [maxLen]) rfl
        go_upto_region 28 with (at_builtin; refine wpList_append_sv (by rfl) (.tmp 128) (.tmp 129) 24 (by rfl) wt.heap.size 32 .u64 8 Try.underlying24 info_u64 _ _ _ (by rfl) HOt.out _ (ib (uniU (la ++ lb))) (by rfl) HVt.out (by have := HUN.out; rw [ib_len]; unfold maxLen; omega) (by have := HUN.out; rw [ib_len]; omega) (by rw [size_allocC]; omega) ?_; intro v30 w30 hown hgrow)
        have HW30 : Hid (w30.ownsRow wt.heap.size 32 1 v30 un ((ib (uniU (la ++ lb))).map (Value.int .u64))) := by show World.ownsRow _ _ _ _ _ _ _; rw [HUN.out]; simpa [ib_len] using hown
        have HB30 : Hid (Below w8.heap.size w8 w30) := below_trans HW3.out ((below_alloc wt _).trans (grown_belowC HOt.out hgrow (by rw [size_allocC]; omega)))
        clear hown hgrow HVt HOt
        obtain ⟨wa', wc', hwv⟩ := own_form8 HW30.out
        subst hwv
        have HWP : Hid (∀ x, (Value.slice wa' un wc').ownBlock = some x → w8.heap.size ≤ x) := fun x hx => by have h1 := (HW30.out.lt x hx).1; have h2 := HW3.out.size; omega
        have HR30 : Hid (Ro 32 .u64 w30 (.slice ua un uc) un) := ro_own (own_belowC HO8.out HB30.out)
        have HV30 : Hid (Kv w30 (.slice va un vc) (uniU (la ++ lb))) := HV8.out.below HB30.out
        have HX30 : Hid (Kv w30 (.slice (some ⟨g, 0, none⟩) n cap) la) := HX8.out.below HB30.out
        have HKW : Hid (Kv w30 (.slice wa' un wc') (uniU (la ++ lb))) := own_sv HW30.out
        have HBW30 : Hid (Below w.heap.size w w30) := below_trans HBW8.out HB30.out
        clear HB30 HW30 HW3 HA8 HU8 HV8 HX8 HKA HKB HO8
        obtain ⟨D, hD⟩ : ∃ D : Nat → Prop, D = fun x => (Value.slice ua un uc).ownBlock = some x := ⟨_, rfl⟩
        have HD : Hid (∀ x, D x ↔ (Value.slice ua un uc).ownBlock = some x) := fun x => by rw [hD]
        clear hD
        go_upto_block 6 with fail
        go_cut [14] (fun _ wx => Ro 32 .u64 wx (.slice ua un uc) un ∧ Ch D w30 wx)
        case first =>
          go_wp2_with fail
          go_loopw [14] (fun iv wx => ∃ i : Nat, iv = .int .i64 i ∧ i ≤ un ∧ Ro 32 .u64 wx (.slice ua un uc) un ∧ Ch D w30 wx) (fun iv _ => un - (intOf iv).toNat)
          case atStart => exact ⟨0, rfl, by omega, HR30.out, Ch.refl _ _⟩
          case round =>
            obtain ⟨i, rfl, hi, hro, hch⟩ := hrel
            have HRO : Hid (Ro 32 .u64 wr (.slice ua un uc) un) := hro
            have HCH : Hid (Ch D w30 wr) := hch
            clear hro hch
            by_cases hlt : i < un
            · have hlti : (i : Int) < (un : Int) := by omega
              obtain ⟨g9, cap9, e9, hg9, _⟩ := HRO.out.some (by omega)
              simp only [Value.slice.injEq, true_and] at e9
              have e91 := e9.1
              clear e9
              subst e91
              obtain ⟨⟨y9, m9⟩, z9⟩ := HRO.out.at hlt
              have HN9 : Hid (Ro 32 .u64 (wr.setCell ⟨g9, i, none⟩ (.int .u64 9)) (.slice (some ⟨g9, 0, none⟩) un uc) un) := HRO.out.set i 9
              have HC9 : Hid (Ch D w30 (wr.setCell ⟨g9, i, none⟩ (.int .u64 9))) := HCH.out.trans (ch_set wr g9 i _) (fun x hx => .inl ((HD.out x).2 (by rw [hx]; rfl)))
              clear hg9
              go_wp2_with fail
              go_roundw
              case rel => exact ⟨i + 1, by go_num, hlt, HN9.out, HC9.out⟩
              case measure => simp [intOf]; omega
            · have hlti : ¬ (i : Int) < (un : Int) := by omega
              go_wp2_with fail
              go_meet
              exact ⟨HRO.out, HCH.out⟩
        case rest =>
          obtain ⟨⟨lp, hlp⟩, hC2⟩ := hcut
          have G0 : Hid (GrU w30 D un (.slice ua un uc) (.int .i64 0) wc) := ⟨0, lp, rfl, by omega, hlp, fun x hx => .inl ((HD.out x).2 hx), hC2⟩
          clear hlp hC2 HR30
          go_upto_block 8 with fail
          go_cut [7, 15] (fun uv _ wx => GrU w30 D un uv (.int .i64 9) wx)
          case first =>
            go_wp2_with fail
            go_loopw [7, 15] (fun uv iv wx => GrU w30 D un uv iv wx) (fun _ iv _ => 9 - (intOf iv).toNat)
            case atStart => exact G0.out
            case round =>
              clear G0
              obtain ⟨i, l, rfl, hi, ho, hp, hch⟩ := hrel
              have HO : Hid (wr.ownsRow 0 32 1 u7 (un + i) (l.map (Value.int .u64))) := ho
              have HP : Hid (∀ x, u7.ownBlock = some x → D x ∨ w30.heap.size ≤ x) := hp
              have HCH : Hid (Ch D w30 wr) := hch
              clear ho hp hch
              by_cases hlt : i < 9
              · have hlti : (i : Int) < 9 := by omega
                go_upto_region 34 with (at_builtin; refine wpList_append_ku (by rfl) (.tmp 144) (.tmp 145) (by rfl) _ _ l (by rfl) (HO.out.alloc _) _ 8 (by rfl) (by simp [go_sem]) (by omega) ?_; intro v31 w31 hown hgrow hat)
                have HREL : Hid (GrU w30 D un v31 (.int .i64 ((i : Int) + 1)) w31) := ⟨i + 1, l ++ [8], rfl, hlt, hown, fun x hx => by
                  rcases hat with e | e
                  · rw [e] at hx; exact HP.out x hx
                  · rw [e, size_allocC] at hx
                    have h1 := HCH.out.size
                    simp at hx
                    right; omega, HCH.out.trans ((Ch.of_below (D := fun x => u7.ownBlock = some x) (below_alloc wr _)).trans (Ch.of_grown (D := fun x => u7.ownBlock = some x) hgrow (fun x hx => hx)) (fun x hx => .inl hx)) (fun x hx => HP.out x hx)⟩
                clear hown hgrow hat
                go_wp2_with fail
                go_roundw
                case rel => exact HREL.out
                case measure => simp [intOf]; omega
              · have hlti : ¬ (i : Int) < 9 := by omega
                obtain rfl : i = 9 := by omega
                have HEND : Hid (GrU w30 D un u7 (.int .i64 9) wr) := ⟨9, l, rfl, hi, HO.out, HP.out, HCH.out⟩
                go_wp2_with fail
                go_meet
                exact HEND.out
          case rest =>
            obtain ⟨i, l, hi9, _, ho, hp, hch⟩ := hcut
            obtain rfl : i = 9 := by simp at hi9; omega
            obtain ⟨fa, fc, hfv⟩ := own_form8 ho
            have HDL : Hid (∀ x, D x → w4.heap.size ≤ x ∧ x < w5.heap.size) := fun x hx => HUP.out x ((HD.out x).1 hx)
            have HBE : Hid (Below w.heap.size w wc) := HBW30.out.trans (hch.to_below HBW30.out.size (fun x hx => by have h1 := (HDL.out x hx).1; have h2 := HBW4S.out; omega))
            have HVE : Hid (Kv wc (.slice va un vc) (uniU (la ++ lb))) := HV30.out.chk hch (fun x hx h => by have h1 := (HDL.out x h).2; have h2 := (HVP.out x hx).1; omega)
            have HXE : Hid (Kv wc (.slice (some ⟨g, 0, none⟩) n cap) la) := HX30.out.chk hch (fun x hx h => by have h1 := (HDL.out x h).1; have h2 := HG4.out; simp [Value.ownBlock] at hx; omega)
            have HWE : Hid (Kv wc (.slice wa' un wc') (uniU (la ++ lb))) := HKW.out.chk hch (fun x hx h => by have h1 := (HDL.out x h).2; have h2 := HWP.out x hx; have h3 := HS56.out; have h4 := HS68.out; omega)
            clear ho hp hch hi9 G0
            subst hfv
            have hlen : ((un + 9 : Nat) : Int) = (un : Int) + 9 := by omega
            generalize un + 9 = un9 at hlen ⊢
            have hwu : IntKind.i64.wrap ((un : Int) + 9) = (un : Int) + 9 := by rw [IntKind.wrap_i64]; omega
            have heq : ((un9 : Int) == (un : Int) + 9) = true := by rw [beq_iff_eq]; exact hlen
            have HHL : Hid _ := hlen
            clear hlen
            go_wp2_with fail
            refine (eqk_walk HVE.out HWE.out).mono ?_
            rintro e wf ⟨rfl, hBf⟩
            have HBf : Hid (Below w.heap.size w wf) := below_trans HBE.out hBf
            have HXf : Hid (Kv wf (.slice (some ⟨g, 0, none⟩) n cap) la) := HXE.out.below hBf
            clear hBf
            go_wp2_with fail
            refine (eqk_walk HXf.out (HA.out.below HBf.out)).mono ?_
            rintro e wg ⟨rfl, hBg⟩
            have HBg : Hid (Below w.heap.size w wg) := below_trans HBf.out hBg
            clear hBg
            go_wp2_with fail
            go_ret
            exact ⟨rfl, HBg.out⟩
end Go.Proofs.Ytkicnoohfilgjaa


