/- A root as bytes and back: bytes, areBlocks, takeRoot; write. -/
import Derived.Test.YtakijnclllmkfabPb

namespace Go.Proofs.Ytakijnclllmkfab

open Go.RowKit



theorem nums_tab (t : List Nat) : numsA (ib t) = (Wm.enc t.length ++ Wm.encAll t, 0) := by
  rw [numsA_ok (fun i hi => by rw [ib_len] at hi; rw [ib_at hi]; omega)]
  unfold numsB
  rw [ib_len]
  have : (ib t).map Int.toNat = t := by
    induction t with
    | nil => rfl
    | cons a l ih => unfold ib at ih ⊢; simp only [List.map_cons, Int.toNat_natCast]; rw [ih]
  rw [this]
theorem ib_lt {t : List Nat} (h : ∀ x ∈ t, x < 64) : ∀ x ∈ ib t, x < 9223372036854775808 := by
  intro x hx
  obtain ⟨y, hy, rfl⟩ := List.mem_map.1 hx
  have := h y hy
  omega


/-- What bytes leaves. -/
def Rb (w : World) (g : Nat) (t : List Nat) (e : Ending) (w' : World) : Prop := ∃ v, e = .returned v ∧ w'.ownsRow w.heap.size 5 1 v (rootB g t).length (cb (rootB g t)) ∧ Below w.heap.size w w'


set_option maxRecDepth 100000 in
theorem bytes_walk {w : World} {v : Value} {t : List Nat} {g : Nat} (h : Tw w v t) (h8 : t.length ≤ 8) (ht : ∀ x ∈ t, x < 64) (hg : g < 18446744073709551616) :
    Calls Try.prog 23 #[.agg #[.int .u64 g, v]] w fun e w' => Rb w g t e w' := by
  obtain ⟨w0, hw0⟩ : ∃ w0, w0 = w.alloc (Obj.cells #[.int .u64 g, v] 54) := ⟨_, rfl⟩
  have HB0 : Hid (Below w.heap.size w w0) := by show Below _ _ _; rw [hw0]; exact below_alloc _ _
  have HT : Hid (Tw w0 v t) := h.below HB0.out
  have HW0 : Hid (w0 = w.alloc (Obj.cells #[.int .u64 g, v] 54)) := hw0
  have c1 : w0.cell? ⟨w.heap.size, 1, none⟩ = some v := by rw [hw0]; simp [go_sem]
  have HC0 : Hid (w0.cell? ⟨w.heap.size, 0, none⟩ = some (.int .u64 g)) := by show _ = _; rw [hw0]; simp [go_sem]
  have HN : Hid (10 + 10 * (ib t).length ≤ 140737488355328) := by show _ ≤ _; rw [ib_len]; omega
  have HTL : Hid (∀ x ∈ ib t, x < 9223372036854775808) := ib_lt ht
  have HTB : Hid (∀ x ∈ t, x < 64) := ht
  have HG : Hid (g < 18446744073709551616) := hg
  have HRS : Hid ((rootB g t).length ≤ 100) := root_short h8
  have H8 : Hid (t.length ≤ 8) := h8
  clear h hw0 ht hg h8
  go_enter Try.func23, Try.ntmps23
  go_wp2_with fail
  rw [← HW0.out]
  refine (nums_walk HT.out HN.out HTL.out).mono ?_
  rintro e w1 ⟨v1, rfl, ho1, hB1⟩
  rw [nums_tab] at ho1 ⊢
  have HB1 : Hid (Below w.heap.size w w1) := below_trans HB0.out hB1
  have c0 : w1.cell? ⟨w.heap.size, 0, none⟩ = some (.int .u64 g) := by rw [hB1.cell (p := ⟨w.heap.size, 0, none⟩) (cell_lt HC0.out)]; exact HC0.out
  have HV1 : Hid (Bv w1 v1 (Wm.enc t.length ++ Wm.encAll t)) := own_bv ho1 (fun c hc => by
    rcases List.mem_append.1 hc with hc | hc
    · exact Wm.enc_lt _ (by have := H8.out; omega) c hc
    · exact encAll_ltP t (fun x hx => by have := HTB.out x hx; omega) c hc)
  clear ho1 hB1 c1
  go_wp2_with fail
  refine (put_walk g HG.out _).mono ?_
  rintro e w2 ⟨v2, rfl, ho2, hB2⟩
  have HV2 : Hid (Bv w2 v2 (Wm.enc g)) := own_bv ho2 (Wm.enc_lt g HG.out)
  have HB2 : Hid (Below w1.heap.size w1 w2) := hB2
  clear ho2 hB2
  obtain ⟨a1, k1, e1, _⟩ := bv_form HV1.out
  obtain ⟨a2, k2, e2, _⟩ := bv_form HV2.out
  obtain ⟨L, hL⟩ : ∃ L, L = Wm.enc t.length ++ Wm.encAll t := ⟨_, rfl⟩
  rw [← hL] at e1
  obtain ⟨n1, hn1⟩ : ∃ n, n = L.length := ⟨_, rfl⟩
  obtain ⟨n2, hn2⟩ : ∃ n, n = (Wm.enc g).length := ⟨_, rfl⟩
  rw [← hn1] at e1
  rw [← hn2] at e2
  clear hn1 hn2 hL
  subst e1
  subst e2
  go_wp2_with fail
  refine (join_walk (pv_two 31 HV2.out (HV1.out.below HB2.out)) (by rw [flat_two]; exact Nat.le_trans HRS.out (by omega))).mono ?_
  rintro e w3 ⟨v3, rfl, ho3, hB3⟩
  rw [flat_two] at ho3
  have HB3 : Hid (Below w.heap.size w w3) := below_trans (below_trans HB1.out HB2.out) (below_trans (below_alloc _ _) hB3)
  have HO3 : Hid (w3.ownsRow w.heap.size 5 1 v3 (rootB g t).length (cb (rootB g t))) := own_base ho3 (by have h1 := HB1.out.size; have h2 := HB2.out.size; simp; omega)
  clear ho3 hB3
  go_wp2_with fail
  go_ret
  exact ⟨_, rfl, HO3.out, HB3.out⟩


/-- The value v cut: its first k. -/
theorem Tw.first {w : World} {ao : Option Addr} {n cap : Nat} {t : List Nat} (h : Tw w (.slice ao n cap) t) {k : Nat} (hk : k ≤ t.length) : Tw w (.slice ao k cap) (t.take k) := by
  obtain ⟨ao', cap', e, h1, h2, h3, h4⟩ := h
  simp only [Value.slice.injEq] at e
  obtain ⟨e1, e2, e3⟩ := e
  subst e1 e3
  rw [ib_len] at h1
  refine ⟨ao, cap, by rw [ib_len, List.length_take, Nat.min_eq_left hk], by rw [ib_len, List.length_take]; omega, h2, h3, fun i hi => ?_⟩
  rw [ib_len, List.length_take] at hi
  obtain ⟨b, off, e, c⟩ := h4 i (by rw [ib_len]; omega)
  refine ⟨b, off, e, ?_⟩
  rw [c, ib_at (by omega), ib_at (by rw [List.length_take]; omega)]
  unfold tn
  simp [List.getD, show i < k by omega]


end Go.Proofs.Ytakijnclllmkfab


