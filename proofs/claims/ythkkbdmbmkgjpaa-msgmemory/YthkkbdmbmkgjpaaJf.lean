/- Contracts of the reader's ends, value, keys, pairs. -/
import Derived.Test.YthkkbdmbmkgjpaaJe

namespace Go.Proofs.Ythkkbdmbmkgjpaa

open Go.RowKit

variable {M : Nat}



theorem t2_litB {r : Nat × Nat} {a b : Nat} (h : r = (a, b)) : t2 r = .tuple #[.int .u64 a, .int .i64 b] := by subst h; rfl
structure VB (w : World) (b : Nat) (v : Vl) : Prop where
  c0 : w.cell? ⟨b, 0, none⟩ = some (.bool v.h)
  c1 : w.cell? ⟨b, 1, none⟩ = some (.int .u64 v.b)
  z : ∀ j, w.frozen? ⟨b, j, none⟩ = false
theorem vb_new (w : World) (v : Vl) : VB (w.alloc (Obj.cells #[.bool v.h, .int .u64 v.b] 40)) w.heap.size v := by
  constructor <;> simp [go_sem]
theorem VB.ch {D : Nat → Prop} {w w' : World} {b : Nat} {v : Vl} (h : VB w b v) (hc : Ch D w w') (hd : ¬ D b) : VB w' b v :=
  ⟨hc.cell h.c0 hd, hc.cell h.c1 hd, fun j => by
    have e := hc.block b (cell_lt h.c0) hd
    have hz := h.z j
    unfold World.frozen? at hz ⊢
    rw [e]; exact hz⟩
theorem RD.setV {w : World} {R B : Nat} {v : Value} {a : Vl} {l : List Nat} {f : Nat} (h : RD M w R v l f) (hv : VB w B a) (hne : B ≠ R) (y : Bool) (x : Int) : RD M ((w.setCell ⟨B, 0, none⟩ (.bool y)).setCell ⟨B, 1, none⟩ (.int .u64 x)) R v l f :=
  (h.setB hne hv.c0 (by intro x e; cases e) _).setB hne (u := .int .u64 a.b) (by rw [World.cell?_setCell_other _ _ _ _ (by rintro ⟨⟩)]; exact hv.c1) (by intro x e; cases e) _
theorem ch_set2 {w0 w : World} {R B : Nat} (h : Ch (fun x => x = R) w0 w) (hB : w0.heap.size ≤ B) (i j : Nat) (u v : Value) : Ch (fun x => x = R) w0 ((w.setCell ⟨B, i, none⟩ u).setCell ⟨B, j, none⟩ v) :=
  (h.trans (ch_set _ _ _ _) (fun x hx => by subst hx; exact .inr hB)).trans (ch_set _ _ _ _) (fun x hx => by subst hx; exact .inr hB)


theorem info_pair : (Try.prog.info? 42).map (fun i => (i.zero, i.size, i.bytes)) = some (some (.agg #[.int .u64 0, .bool false, .int .u64 0]), 3, 24) := by kernel_rfl


theorem qv_one (w : World) (p : Pr) (hp : p.ok) (t : TypeId) : Qv (w.alloc (Obj.cells #[.int .u64 p.k, .bool p.v.h, .int .u64 p.v.b] t)) (.slice (some ⟨w.heap.size, 0, none⟩) 1 1) [p] := by
  refine ⟨⟨_, 1, rfl, by simp, by simp [maxLen], by simp, fun i hi => ?_⟩, by simpa using hp⟩
  have : i = 0 := by simpa using hi
  subst this
  refine ⟨_, _, rfl, ?_, ?_, ?_⟩ <;> simp [go_sem]


theorem qv_at (w : World) (p : Pr) (hp : p.ok) (t : TypeId) (g : Nat) (hg : g = w.heap.size) : Qv (w.alloc (Obj.cells #[.int .u64 p.k, .bool p.v.h, .int .u64 p.v.b] t)) (.slice (some ⟨g, 0, none⟩) 1 1) [p] := by
  subst hg; exact qv_one w p hp t


theorem wpList_append_qs {P : Program} {w : World} {ops : Array Oper} {rest : List Oper} {o : Oper} {a : Act} {Q : Exit → Act → World → Prop} (hgd : o.guard = none) (s x : Operand) (t : TypeId)
    (ho : o.op = .call { callee := .builtin .append, args := #[s, x], argTypes := #[t, t] })
    (base : Nat) (e : TypeId) (i0 : TypeInfo) (ht : P.underlying t = some (.slice e)) (hi : P.info? e = some i0) (hz0 : i0.zero = some (.agg #[.int .u64 0, .bool false, .int .u64 0])) (hz1 : i0.size = 3) (hz2 : i0.bytes = 24)
    (v : Value) (n : Nat) (m : List Pr) (hs : a.eval s = v) (hown : w.ownsRow base e 3 v n (flatQ m))
    (y : Value) (l : List Pr) (hx : a.eval x = y) (hy : Qv w y l) (h63 : n + l.length ≤ maxLen) (hb : (n + l.length) * 24 ≤ 140737488355328) (hbase : base ≤ w.heap.size)
    (h : ∀ v' w', w'.ownsRow base e 3 v' (n + l.length) (flatQ (m ++ l)) → w.grownBy w' v.ownBlock → wpList P ops Q rest (a.put o.dst v') w') : wpList P ops Q (o :: rest) a w := by
  obtain ⟨⟨ao, c, rfl, hc1, hc2, hnone, hcells⟩, _⟩ := hy
  cases ao with
  | none =>
    obtain rfl := hnone rfl
    have hl0 : l.length = 0 := by omega
    have hl : l = [] := List.eq_nil_of_length_eq_zero hl0
    subst hl
    refine wpList_append_own_none hgd s x t ho base e i0 3 ht hi _ n (flatQ m) hs hown hx ?_
    exact h v w (by simpa using hown) ⟨rfl, rfl, rfl, Nat.le_refl _, fun _ _ _ => rfl⟩
  | some p =>
    refine wpList_append_own w hgd s x t ho base e i0 (.agg #[.int .u64 0, .bool false, .int .u64 0]) 3 24 ht hi hz0 hz1 hz2 rfl (by decide) v n (flatQ m) hs hown p l.length c (flatQ l) hx (flatQ_len l) ?_ (fun u hu => flatQ_mem hu) h63 hb hbase (fun v' w' h1 h2 _ => h v' w' (by rw [flatQ_append]; exact h1) h2)
    intro j u hj
    have hjl : j < l.length * 3 := by
      rcases Nat.lt_or_ge j (l.length * 3) with h | h
      · exact h
      · rw [List.getElem?_eq_none (by rw [flatQ_len]; exact h)] at hj; cases hj
    obtain ⟨b, off, e1, g0, g1, g2⟩ := hcells (j / 3) (by omega)
    cases e1
    obtain ⟨f0, f1, f2⟩ := flatQ_get l (j / 3) (by omega)
    rw [WideShapes.add_plain]
    have hmod : j % 3 = 0 ∨ j % 3 = 1 ∨ j % 3 = 2 := by omega
    rcases hmod with hm | hm | hm
    · have e2 : j / 3 * 3 = j := by omega
      rw [e2] at f0 g0
      rw [f0] at hj; rw [g0, hj]
    · have e2 : j / 3 * 3 + 1 = j := by omega
      rw [Nat.add_assoc, e2] at g1
      rw [e2] at f1
      rw [f1] at hj; rw [g1, hj]
    · have e2 : j / 3 * 3 + 2 = j := by omega
      rw [Nat.add_assoc, e2] at g2
      rw [e2] at f2
      rw [f2] at hj; rw [g2, hj]


theorem tn_le {l q : List Nat} {z : Nat} (hl : ∀ c ∈ l, c < 256) (hq : Wm.takeNums l 4 = (q, z, 0)) : z ≤ l.length ∧ ∀ x ∈ q, x ≤ 4611686018427387904 := by
  obtain ⟨x, n, e, ht⟩ : ∃ x n e, Wm.take l = (x, n, e) := ⟨_, _, _, rfl⟩
  by_cases h1 : e = 0
  · subst h1
    rw [tn_go4 ht] at hq
    by_cases h4 : 4 < x
    · rw [if_pos h4] at hq; simp at hq
    · rw [if_neg h4] at hq
      have hc := take_cut hl ht
      have hn : n ≤ l.length := by have h1 := congrArg List.length hc.1; rw [List.length_append, ← hc.2.2] at h1; omega
      obtain ⟨xs, i1, _, i3, i4, _⟩ := tn_back x l n [] q z hl hn hq
      simp only [List.nil_append] at i1
      subst i1
      exact ⟨i4, i3⟩
  · rw [tn_err4 (by rw [ht]; exact h1), ht] at hq
    simp at hq
    exact absurd hq.2.2 h1
theorem rd_chR {w : World} {R : Nat} {v : Value} {l : List Nat} {f : Nat} (h : RD M w R v l f) : R < w.heap.size := cell_lt h.c0


/-- What a call that reads a list leaves: D its fault, its list, the bytes behind. -/
def LGot (M R : Nat) {α : Type} (T sz : Nat) (fl : List α → List Value) (D : Nat × List α × List Nat) (f : Nat) (w : World) (e : Ending) (w' : World) : Prop :=
  (D.1 ≠ 0 ∧ Bad R D.1 w e w') ∨ (D.1 = 0 ∧ ∃ y, e = .returned y ∧ w'.ownsRow w.heap.size T sz y D.2.1.length (fl D.2.1) ∧ (∃ v', RD M w' R v' D.2.2 f) ∧ Ch (fun x => x = R) w w')
def flI (l : List Nat) : List Value := (ib l).map (Value.int .i64)
def flU (l : List Nat) : List Value := (ib l).map (Value.int .u64)


set_option maxRecDepth 100000 in
set_option maxHeartbeats 2000000 in
theorem ends_walk {w : World} {R : Nat} {v : Value} {l : List Nat} {f : Nat} (h : RD M w R v l f) :
    Calls Try.prog 36 #[.pointer (some ⟨R, 0, none⟩)] w (LGot M R 3 1 flI (endL l) f w) := by
  have HR : Hid (RD M w R v l f) := h
  have HRW : Hid (R < w.heap.size) := rd_chR h
  obtain ⟨ao, n, cap, rfl⟩ := bv_any h.bv
  obtain ⟨hn, hle, hmx⟩ := bv_le h.bv
  subst hn
  have c0 := h.c0
  have HLE : Hid (l.length ≤ cap) := hle
  unfold maxLen at hmx
  have hci : (cap : Int) ≤ 9223372036854775807 := by omega
  have hli : (l.length : Int) ≤ (cap : Int) := by omega
  obtain ⟨q, p, er, hq⟩ : ∃ q p er, Wm.takeNums l 4 = (q, p, er) := ⟨_, _, _, rfl⟩
  have HQ : Hid (Wm.takeNums l 4 = (q, p, er)) := hq
  by_cases h0 : er = 0
  · subst h0
    have HD : Hid (endL l = (0, q, l.drop p)) := by show _ = _; unfold endL; rw [hq]; simp
    have hp := (tn_le h.bv.2 hq).1
    have HN : Hid (p ≤ l.length) := hp
    have hni : (p : Int) ≤ (l.length : Int) := by omega
    have hnc : (p : Int) ≤ (cap : Int) := by omega
    clear h hle hmx hq hp
    go_enter Try.func36, Try.ntmps36
    go_wp2_with fail
    refine (takenums_walk 4 HR.out.bv (by decide)).mono ?_
    rw [HQ.out]
    rintro e9 w2 ⟨ao2, cap2, he, ho, hB⟩
    generalize Value.slice ao2 (ib (q, p, 0).1).length cap2 = y at he ho
    subst he
    have HO : Hid (w2.ownsRow w.heap.size 3 1 y q.length (flI q)) := ho
    have HR2 : Hid (RD M w2 R (.slice ao l.length cap) l f) := HR.out.below hB
    have HC2 : Hid (Ch (fun x => x = R) w w2) := Ch.of_below hB
    clear ho hB c0
    have c0 := HR2.out.c0
    have z0 := HR2.out.z 0
    go_wp2_with fail
    refine (refuse_no R 0 _).mono ?_
    rintro e9 w3 ⟨rfl, hw3⟩
    replace hw3 := hw3.symm
    subst hw3
    have HO3 : ∀ u, Hid ((w2.setCell ⟨R, 0, none⟩ u).ownsRow w.heap.size 3 1 y q.length (flI q)) := fun u => own_ch HO.out (ch_set _ _ _ _) (fun x hx => by have := HRW.out; omega)
    by_cases hcp : cap = p
    · have hlp : l.length = p := by have := HLE.out; have := HN.out; omega
      have HLP : Hid (l.length ≤ p) := by show _ ≤ _; omega
      subst hcp
      go_wp2_with fail
      go_ret
      refine .inr ⟨by rw [HD.out], y, rfl, ?_, ?_, HC2.out.self (ch_set _ _ _ _)⟩
      · rw [HD.out]; exact (HO3 _).out
      · rw [HD.out]; exact ⟨_, HR2.out.set0 (cut_end HLP.out) own_cut0⟩
    · go_wp2_with fail
      go_ret
      refine .inr ⟨by rw [HD.out], y, rfl, ?_, ?_, HC2.out.self (ch_set _ _ _ _)⟩
      · rw [HD.out]; exact (HO3 _).out
      · rw [HD.out]; exact ⟨_, HR2.out.set0 (cut_any HR2.out.bv rfl p HN.out hcp) own_cutm⟩
  · have HD : Hid (endL l = (er, [], [])) := by show _ = _; unfold endL; rw [hq]; simp [h0]
    have H0 : Hid (er ≠ 0) := h0
    have hne : ((er : Int) != 0) = true := by rw [bne_iff_ne]; omega
    clear h hle hmx hq h0
    go_enter Try.func36, Try.ntmps36
    go_wp2_with fail
    refine (takenums_walk 4 HR.out.bv (by decide)).mono ?_
    rw [HQ.out]
    rintro e9 w2 ⟨ao2, cap2, he, ho, hB⟩
    generalize Value.slice ao2 (ib (q, p, er).1).length cap2 = y at he ho
    subst he
    have HR2 : Hid (RD M w2 R (.slice ao l.length cap) l f) := HR.out.below hB
    have HC2 : Hid (Ch (fun x => x = R) w w2) := Ch.of_below hB
    clear ho hB c0
    go_wp2_with fail
    refine (refuse_yes HR2.out er).mono ?_
    rintro e9 w3 ⟨⟨u, pv, rfl⟩, h1, h2⟩
    go_wp2_with fail
    refine ⟨rfl, .inl ⟨by rw [HD.out]; exact H0.out, ?_⟩⟩
    rw [HD.out]
    exact ⟨⟨_, _, rfl⟩, h1, HC2.out.self h2⟩


set_option maxRecDepth 100000 in
set_option maxHeartbeats 2000000 in
theorem value_bad {w : World} {R : Nat} {v : Value} {l : List Nat} {f : Nat} (h : RD M w R v l f) (h8 : l.length < 8) :
    Calls Try.prog 46 #[.pointer (some ⟨R, 0, none⟩)] w (Bad R 3 w) := by
  have HRA : Hid (RD M (w.alloc (Obj.cells #[.bool false, .int .u64 0] 40)) R v l f) := h.below (below_alloc _ _)
  have HC : Hid (Ch (fun x => x = R) w (w.alloc (Obj.cells #[.bool false, .int .u64 0] 40))) := Ch.of_below (below_alloc _ _)
  obtain ⟨ao, n, cap, rfl⟩ := bv_any h.bv
  have HT : Hid (Wm.takeW l = (0, 3)) := takeW_short h8
  have c0 := HRA.out.c0
  clear h h8
  go_enter Try.func46, Try.ntmps46
  go_wp2_with fail
  refine (takew_walk HRA.out.bv).mono ?_
  rw [t2_litB HT.out]
  rintro e9 w9 ⟨rfl, hw9⟩
  have HRB : Hid (RD M w9 R (.slice ao n cap) l f) := by show RD _ _ _ _ _ _; rw [hw9]; exact HRA.out
  have HCB : Hid (Ch (fun x => x = R) w w9) := by show Ch _ _ _; rw [hw9]; exact HC.out
  clear hw9 c0
  go_wp2_with fail
  refine (refuse_yes HRB.out 3).mono ?_
  rintro e9 w3 ⟨⟨u, pv, rfl⟩, h1, h2⟩
  go_wp2_with fail
  exact ⟨rfl, ⟨_, _, rfl⟩, h1, HCB.out.self h2⟩
set_option maxRecDepth 100000 in
set_option maxHeartbeats 2000000 in
theorem value_ok {w : World} {R : Nat} {v : Value} {l : List Nat} {f : Nat} (h : RD M w R v l f) (h8 : ¬ l.length < 8) :
    Calls Try.prog 46 #[.pointer (some ⟨R, 0, none⟩)] w (Good M R (.agg #[.bool true, .int .u64 ((Wm.takeW l).1 : Nat)]) (l.drop 8) f w) := by
  have HV0 : Hid (VB (w.alloc (Obj.cells #[.bool false, .int .u64 0] 40)) w.heap.size ⟨false, 0⟩) := vb_new w ⟨false, 0⟩
  have HNR : Hid (w.heap.size ≠ R) := by have := cell_lt h.c0; show _ ≠ _; simp only at this; omega
  have HRA : Hid (RD M (w.alloc (Obj.cells #[.bool false, .int .u64 0] 40)) R v l f) := h.below (below_alloc _ _)
  obtain ⟨ao, n, cap, rfl⟩ := bv_any h.bv
  obtain ⟨hn, hle, hmx⟩ := bv_le h.bv
  subst hn
  have HLE : Hid (l.length ≤ cap) := hle
  unfold maxLen at hmx
  have hci : (cap : Int) ≤ 9223372036854775807 := by omega
  have hli : (l.length : Int) ≤ (cap : Int) := by omega
  have c0 := HRA.out.c0
  obtain ⟨X, hX⟩ : ∃ X, Wm.unw (l.take 8) = X := ⟨_, rfl⟩
  have HT : Hid (Wm.takeW l = (X, 0)) := by show _ = _; rw [← hX]; exact takeW_ok h8
  rw [HT.out]
  have H8 : Hid (8 ≤ l.length) := by show _ ≤ _; omega
  have h8i : (8 : Int) ≤ (l.length : Int) := by omega
  have h8c : (8 : Int) ≤ (cap : Int) := by omega
  obtain ⟨b, off, rfl⟩ : ∃ b off, ao = some ⟨b, off, none⟩ := by
    rcases bv_cases HRA.out.bv with ⟨h0, _⟩ | ⟨b, off, cap', e, _⟩
    · have := H8.out; rw [h0] at this; simp at this
    · cases e; exact ⟨b, off, rfl⟩
  clear h hle hmx h8 hX
  go_enter Try.func46, Try.ntmps46
  go_wp2_with fail
  refine (takew_walk HRA.out.bv).mono ?_
  rw [t2_litB HT.out]
  rintro e9 w9 ⟨rfl, hw9⟩
  have HRB : Hid (RD M w9 R (.slice (some ⟨b, off, none⟩) l.length cap) l f) := by show RD _ _ _ _ _ _; rw [hw9]; exact HRA.out
  have HVB : Hid (VB w9 w.heap.size ⟨false, 0⟩) := by show VB _ _ _; rw [hw9]; exact HV0.out
  have HCB : Hid (Ch (fun x => x = R) w w9) := by show Ch _ _ _; rw [hw9]; exact Ch.of_below (below_alloc _ _)
  clear hw9 c0
  have d0 := HRB.out.c0
  have dz := HRB.out.z 0
  go_wp2_with fail
  refine (refuse_no R 0 _).mono ?_
  rintro e9 w3 ⟨rfl, hw3⟩
  replace hw3 := hw3.symm
  subst hw3
  by_cases hc8 : cap = 8
  · have hl8 : l.length = 8 := by have := HLE.out; have := H8.out; omega
    have HL8 : Hid (l.length ≤ 8) := by show _ ≤ _; omega
    have HB8 : Hid (Bv w9 (.slice (some ⟨b, off, none⟩) (l.length - 8) 0) (l.drop 8)) := by show Bv _ _ _; rw [hl8]; exact cut_end HL8.out
    subst hc8
    clear hl8
    go_upto_region 4 with fail
    have HR2 : Hid (RD M (w9.setCell ⟨R, 0, none⟩ (.slice (some ⟨b, off, none⟩) (l.length - 8) 0)) R (.slice (some ⟨b, off, none⟩) (l.length - 8) 0) (l.drop 8) f) := HRB.out.set0 HB8.out rfl
    have HC2 : Hid (Ch (fun x => x = R) w (w9.setCell ⟨R, 0, none⟩ (.slice (some ⟨b, off, none⟩) (l.length - 8) 0))) := HCB.out.self (ch_set _ _ _ _)
    have HV2 : Hid (VB (w9.setCell ⟨R, 0, none⟩ (.slice (some ⟨b, off, none⟩) (l.length - 8) 0)) w.heap.size ⟨false, 0⟩) := HVB.out.ch (ch_set _ _ _ _) HNR.out
    generalize w9.setCell ⟨R, 0, none⟩ (.slice (some ⟨b, off, none⟩) (l.length - 8) 0) = w4 at HR2 HC2 HV2 ⊢
    obtain ⟨y0, y1, yz⟩ := HV2.out
    have z0 := yz 0
    have z1 := yz 1
    clear d0 dz
    go_wp2_with fail
    refine bodyPost_ret (by simp [results, Try.results46, go_sem, y0, y1]) rfl ⟨rfl, ?_⟩
    exact ⟨⟨_, HR2.out.setV HV2.out HNR.out _ _⟩, ch_set2 HC2.out (Nat.le_refl _) _ _ _ _⟩
  · have HB8 : Hid (Bv w9 (.slice (some ⟨b, off + 8, none⟩) (l.length - 8) (cap - 8)) (l.drop 8)) := by
      have := cut_any HRB.out.bv rfl 8 H8.out hc8
      have e : (some (⟨b, off, none⟩ : Addr)).map (fun a => a.add 8) = some ⟨b, off + 8, none⟩ := by simp [WideShapes.add_plain]
      rw [e] at this
      exact this
    go_upto_region 4 with fail
    have HR2 : Hid (RD M (w9.setCell ⟨R, 0, none⟩ (.slice (some ⟨b, off + 8, none⟩) (l.length - 8) (cap - 8))) R (.slice (some ⟨b, off + 8, none⟩) (l.length - 8) (cap - 8)) (l.drop 8) f) := HRB.out.set0 HB8.out rfl
    have HC2 : Hid (Ch (fun x => x = R) w (w9.setCell ⟨R, 0, none⟩ (.slice (some ⟨b, off + 8, none⟩) (l.length - 8) (cap - 8)))) := HCB.out.self (ch_set _ _ _ _)
    have HV2 : Hid (VB (w9.setCell ⟨R, 0, none⟩ (.slice (some ⟨b, off + 8, none⟩) (l.length - 8) (cap - 8))) w.heap.size ⟨false, 0⟩) := HVB.out.ch (ch_set _ _ _ _) HNR.out
    generalize w9.setCell ⟨R, 0, none⟩ (.slice (some ⟨b, off + 8, none⟩) (l.length - 8) (cap - 8)) = w4 at HR2 HC2 HV2 ⊢
    obtain ⟨y0, y1, yz⟩ := HV2.out
    have z0 := yz 0
    have z1 := yz 1
    clear d0 dz
    go_wp2_with fail
    refine bodyPost_ret (by simp [results, Try.results46, go_sem, y0, y1]) rfl ⟨rfl, ?_⟩
    exact ⟨⟨_, HR2.out.setV HV2.out HNR.out _ _⟩, ch_set2 HC2.out (Nat.le_refl _) _ _ _ _⟩

/-! Lists that are read one by one. -/
def At {α : Type} (D S : Nat × List α × List Nat) (acc : List α) : Prop := D.1 = S.1 ∧ (S.1 = 0 → D.2.1 = acc ++ S.2.1 ∧ D.2.2 = S.2.2)
theorem at_start {α : Type} (D : Nat × List α × List Nat) : At D D [] := ⟨rfl, fun _ => ⟨rfl, rfl⟩⟩
theorem key_step {D : Nat × List Nat × List Nat} {k : Nat} {l acc : List Nat} (h : At D (keyS (k + 1) l) acc) (h0 : (Wm.take l).2.2 = 0) : At D (keyS k (l.drop (Wm.take l).2.1)) (acc ++ [(Wm.take l).1]) := by
  unfold At at h ⊢
  rw [keyS, if_neg (by simpa using h0)] at h
  by_cases q : (keyS k (l.drop (Wm.take l).2.1)).1 = 0
  · rw [if_neg (by simpa using q)] at h
    refine ⟨by rw [q]; exact h.1, fun _ => ?_⟩
    obtain ⟨a, b⟩ := h.2 rfl
    exact ⟨by rw [a]; simp, b⟩
  · rw [if_pos q] at h
    exact ⟨h.1, fun e => absurd e q⟩
theorem key_stop {D : Nat × List Nat × List Nat} {k : Nat} {l acc : List Nat} (h : At D (keyS (k + 1) l) acc) (h0 : (Wm.take l).2.2 ≠ 0) : D.1 = (Wm.take l).2.2 := by
  unfold At at h
  rw [keyS, if_pos h0] at h
  exact h.1
theorem pair_step {D : Nat × List Pr × List Nat} {k : Nat} {l : List Nat} {acc : List Pr} (h : At D (pairS (k + 1) l) acc) (h0 : (Wm.take l).2.2 = 0) (h8 : ¬ (l.drop (Wm.take l).2.1).length < 8) :
    At D (pairS k ((l.drop (Wm.take l).2.1).drop 8)) (acc ++ [⟨(Wm.take l).1, ⟨true, (Wm.takeW (l.drop (Wm.take l).2.1)).1⟩⟩]) := by
  unfold At at h ⊢
  rw [pairS, if_neg (by simpa using h0), if_neg (by rw [takeW_ok h8]; simp)] at h
  by_cases q : (pairS k ((l.drop (Wm.take l).2.1).drop 8)).1 = 0
  · rw [if_neg (by simpa using q)] at h
    refine ⟨by rw [q]; exact h.1, fun _ => ?_⟩
    obtain ⟨a, b⟩ := h.2 rfl
    exact ⟨by rw [a]; simp, b⟩
  · rw [if_pos q] at h
    exact ⟨h.1, fun e => absurd e q⟩
theorem pair_stop {D : Nat × List Pr × List Nat} {k : Nat} {l : List Nat} {acc : List Pr} (h : At D (pairS (k + 1) l) acc) (h0 : (Wm.take l).2.2 ≠ 0) : D.1 = (Wm.take l).2.2 := by
  unfold At at h
  rw [pairS, if_pos h0] at h
  exact h.1
theorem pair_stop8 {D : Nat × List Pr × List Nat} {k : Nat} {l : List Nat} {acc : List Pr} (h : At D (pairS (k + 1) l) acc) (h0 : (Wm.take l).2.2 = 0) (h8 : (l.drop (Wm.take l).2.1).length < 8) : D.1 = 3 := by
  unfold At at h
  rw [pairS, if_neg (by simpa using h0), if_pos (by rw [takeW_short h8]; simp), takeW_short h8] at h
  exact h.1
def keyD (l : List Nat) : Nat × List Nat × List Nat := if (manL l).1 ≠ 0 then ((manL l).1, [], []) else keyS (manL l).2.1 (manL l).2.2
def pairD (l : List Nat) : Nat × List Pr × List Nat := if (manL l).1 ≠ 0 then ((manL l).1, [], []) else pairS (manL l).2.1 (manL l).2.2
theorem man_le {l : List Nat} : (manL l).2.1 ≤ 64 := by
  unfold manL
  repeat' split
  all_goals simp
  omega
def KRel (M R x : Nat) (D : Nat × List Nat × List Nat) (f : Nat) (w : World) (kv iv : Value) (wr : World) : Prop :=
  ∃ (i : Nat) (acc : List Nat) (v : Value) (l : List Nat), iv = .int .u64 i ∧ i ≤ x ∧ acc.length = i ∧ At D (keyS (x - i) l) acc ∧ RD M wr R v l f ∧ wr.ownsRow w.heap.size 38 1 kv acc.length ((ib acc).map (Value.int .u64)) ∧ Ch (fun x => x = R) w wr


set_option maxRecDepth 100000 in
set_option maxHeartbeats 4000000 in
theorem keys_walk {w : World} {R : Nat} {v : Value} {l : List Nat} {f : Nat} (h : RD M w R v l f) (hM : M ≤ R) :
    Calls Try.prog 37 #[.pointer (some ⟨R, 0, none⟩)] w (LGot M R 38 1 flU (keyD l) f w) := by
  have HMR : Hid (M ≤ R) := hM
  have HRW : Hid (R < w.heap.size) := rd_chR h
  have HRA : Hid (RD M (w.alloc (Obj.cells #[] 38)) R v l f) := h.below (below_alloc _ _)
  have HC4 : Hid (Ch (fun x => x = R) w (w.alloc (Obj.cells #[] 38))) := Ch.of_below (below_alloc _ _)
  have HO4 : Hid ((w.alloc (Obj.cells #[] 38)).ownsRow w.heap.size 38 1 (.slice (some ⟨w.heap.size, 0, none⟩) 0 0) 0 []) := World.ownsRow_made w #[] 0 (Nat.le_refl _) (by simp [maxLen]) rfl
  clear h hM
  by_cases h0 : (manL l).1 = 0
  · have H0 : Hid ((manL l).1 = 0) := h0
    have HD : Hid (keyD l = keyS (manL l).2.1 (manL l).2.2) := by show _ = _; unfold keyD; rw [if_neg (by simpa using h0)]
    obtain ⟨x, hx⟩ : ∃ x, x = (manL l).2.1 := ⟨_, rfl⟩
    have HX : Hid (x = (manL l).2.1) := hx
    have HX64 : Hid (x ≤ 64) := by show _ ≤ _; rw [hx]; exact man_le
    rw [HD.out, ← hx]
    obtain ⟨D, hD⟩ : ∃ D, D = keyS x (manL l).2.2 := ⟨_, rfl⟩
    have HDD : Hid (D = keyS x (manL l).2.2) := hD
    rw [← hD]
    clear hx hD h0
    go_enter Try.func37, Try.ntmps37
    go_wp2_with fail
    refine (many_ok HRA.out H0.out).mono ?_
    rw [← HX.out]
    rintro e9 w3 ⟨rfl, ⟨v3, hR3⟩, hC3⟩
    have HST : Hid (KRel M R x D f w (.slice (some ⟨w.heap.size, 0, none⟩) 0 0) (.int .u64 0) w3) :=
      ⟨0, [], v3, _, rfl, by omega, rfl, by rw [HDD.out]; exact at_start _, hR3, own_ch HO4.out hC3 (fun x hx => by have := HRW.out; omega), HC4.out.self hC3⟩
    clear hR3 hC3
    have hx64 : (x : Int) ≤ 64 := by have := HX64.out; omega
    go_wp2_with fail
    go_loopw [3, 7] (fun kv iv wr => KRel M R x D f w kv iv wr) (fun _ iv _ => x - (intOf iv).toNat)
    case atStart => exact HST.out
    case round =>
      clear HST
      obtain ⟨i, acc, v4, l4, rfl, hix, hai, hat, hrd, hown, hch⟩ := hrel
      have HAT : Hid (At D (keyS (x - i) l4) acc) := hat
      have HRD : Hid (RD M wr R v4 l4 f) := hrd
      have HO : Hid (wr.ownsRow w.heap.size 38 1 u3 acc.length ((ib acc).map (Value.int .u64))) := hown
      have HC : Hid (Ch (fun x => x = R) w wr) := hch
      have HAI : Hid (acc.length = i) := hai
      clear hat hrd hown hch hai
      by_cases hlt : i < x
      · have hlti : (i : Int) < (x : Int) := by omega
        have HAT2 : Hid (At D (keyS (x - (i + 1) + 1) l4) acc) := by rw [show x - (i + 1) + 1 = x - i by omega]; exact HAT.out
        by_cases ht : (Wm.take l4).2.2 = 0
        · have HT : Hid ((Wm.take l4).2.2 = 0) := ht
          have HNX : Hid (At D (keyS (x - (i + 1)) (l4.drop (Wm.take l4).2.1)) (acc ++ [(Wm.take l4).1])) := key_step HAT2.out ht
          obtain ⟨y, hy⟩ : ∃ y, y = (Wm.take l4).1 := ⟨_, rfl⟩
          rw [← hy] at HNX
          have HY : Hid (y = (Wm.take l4).1) := hy
          clear hy ht HAT2
          go_wp2_with fail
          refine (number_ok HRD.out HT.out).mono ?_
          rw [← HY.out]
          rintro e w5 ⟨rfl, ⟨v5, hR5⟩, hC5⟩
          have HR5 : Hid (RD M w5 R v5 (l4.drop (Wm.take l4).2.1) f) := hR5
          have HC5 : Hid (Ch (fun x => x = R) w w5) := HC.out.self hC5
          have HO5 : Hid (w5.ownsRow w.heap.size 38 1 u3 acc.length ((ib acc).map (Value.int .u64))) := own_ch HO.out hC5 (fun x hx => by have := HRW.out; omega)
          have HLE : Hid (acc.length ≤ 64) := by have := HAI.out; have := HX64.out; show _ ≤ _; omega
          clear hR5 hC5 HRD HO HC
          go_upto_region 5 with (at_builtin; refine wpList_append_sv (by rfl) (.tmp 9) (.tmp 12) 23 (by rfl) w.heap.size 38 .u64 8 Try.underlying23 info_u64 _ _ _ (by rfl) (HO5.out.alloc _) _ [_] (by rfl) (sv_one .u64 _ _ _) (by have := HLE.out; simp only [maxLen, List.length_singleton]; omega) (by have := HLE.out; simp only [List.length_singleton]; omega) (by rw [size_allocC]; have := HC5.out.size; omega) ?_; intro v6 w6 hown hgrow)
          have hg6 : Below w.heap.size w5 w6 := ((below_alloc w5 _).mono HC5.out.size).trans (grown_belowC (HO5.out.alloc _) hgrow (by rw [size_allocC]; have := HC5.out.size; omega))
          have hch6 : Ch (fun x => w.heap.size ≤ x) w5 w6 := ⟨hg6.os, hg6.tape, hg6.output, hg6.size, fun k hk hd => hg6.block k (by omega)⟩
          have HR6 : Hid (RD M w6 R v5 (l4.drop (Wm.take l4).2.1) f) := HR5.out.ch hch6 (by have := HRW.out; omega) (fun x hx => by have h1 := HMR.out; have h2 := HRW.out; omega)
          have HC6 : Hid (Ch (fun x => x = R) w w6) := HC5.out.trans hch6 (fun x hx => .inr hx)
          have HREL : Hid (KRel M R x D f w v6 (.int .u64 ((i : Int) + 1)) w6) := ⟨i + 1, acc ++ [y], v5, _, rfl, hlt, by have := HAI.out; simp; omega, HNX.out, HR6.out, by
            rw [List.length_append, ib_append, List.map_append]; exact hown, HC6.out⟩
          clear hown hgrow hg6 hch6 HR6 HC6 HR5 HC5 HO5
          go_wp2_with fail
          go_roundw
          case rel => exact HREL.out
          case measure => simp [intOf]; omega
        · have HT : Hid ((Wm.take l4).2.2 ≠ 0) := ht
          have HE : Hid (D.1 = (Wm.take l4).2.2) := key_stop HAT2.out ht
          clear ht
          go_wp2_with fail
          refine (number_bad HRD.out rfl HT.out).mono ?_
          rintro e w5 ⟨⟨u, pv, rfl⟩, h1, h2⟩
          go_wp2_with fail
          refine ⟨rfl, .inl ⟨by rw [HE.out]; exact HT.out, ?_⟩⟩
          rw [HE.out]
          exact ⟨⟨_, _, rfl⟩, h1, HC.out.self h2⟩
      · have hlti : ¬ (i : Int) < (x : Int) := by omega
        obtain rfl : i = x := by omega
        go_wp2_with fail
        go_ret
        have hA := HAT.out
        rw [Nat.sub_self] at hA
        obtain ⟨a1, a2⟩ := hA
        simp only [keyS, List.append_nil] at a1 a2
        obtain ⟨b1, b2⟩ := a2 trivial
        exact .inr ⟨a1, _, rfl, by rw [b1]; exact HO.out, by rw [b2]; exact ⟨_, HRD.out⟩, HC.out⟩
  · have H0 : Hid ((manL l).1 ≠ 0) := h0
    have HD : Hid (keyD l = ((manL l).1, [], [])) := by show _ = _; unfold keyD; rw [if_pos h0]
    rw [HD.out]
    clear h0
    go_enter Try.func37, Try.ntmps37
    go_wp2_with fail
    refine (many_bad HRA.out rfl H0.out).mono ?_
    rintro e w5 ⟨⟨u, pv, rfl⟩, h1, h2⟩
    go_wp2_with fail
    exact ⟨rfl, .inl ⟨H0.out, ⟨_, _, rfl⟩, h1, HC4.out.self h2⟩⟩


def PRel (M R x : Nat) (D : Nat × List Pr × List Nat) (f : Nat) (w : World) (kv iv : Value) (wr : World) : Prop :=
  ∃ (i : Nat) (acc : List Pr) (v : Value) (l : List Nat), iv = .int .u64 i ∧ i ≤ x ∧ acc.length = i ∧ At D (pairS (x - i) l) acc ∧ RD M wr R v l f ∧ wr.ownsRow w.heap.size 42 3 kv acc.length (flatQ acc) ∧ Ch (fun x => x = R) w wr
theorem takeW_lt {l : List Nat} (hl : ∀ c ∈ l, c < 256) : (Wm.takeW l).1 < 18446744073709551616 := by
  unfold Wm.takeW
  split
  · simp
  · rename_i h
    have := Wm.unw_lt (l.take 8) (fun c hc => hl c (List.mem_of_mem_take hc))
    rw [show (l.take 8).length = 8 by rw [List.length_take]; omega] at this
    exact this
theorem take_lt {l : List Nat} (hl : ∀ c ∈ l, c < 256) : (Wm.take l).1 < 18446744073709551616 := by
  rcases Wm.take_form l hl with ⟨e, h1, _⟩ | ⟨x, n, h1, h2, _⟩
  · rw [h1]; simp
  · rw [h1]; exact h2
theorem qv_pair (w : World) (k b : Nat) (hk : k < 18446744073709551616) (hb : b < 18446744073709551616) (t : TypeId) : Qv (w.alloc (Obj.cells #[.int .u64 k, .bool true, .int .u64 b] t)) (.slice (some ⟨w.heap.size, 0, none⟩) 1 1) [⟨k, ⟨true, b⟩⟩] := qv_one w ⟨k, ⟨true, b⟩⟩ ⟨hk, hb⟩ t


set_option maxRecDepth 100000 in
set_option maxHeartbeats 4000000 in
theorem pairs_walk {w : World} {R : Nat} {v : Value} {l : List Nat} {f : Nat} (h : RD M w R v l f) (hM : M ≤ R) :
    Calls Try.prog 38 #[.pointer (some ⟨R, 0, none⟩)] w (LGot M R 42 3 flatQ (pairD l) f w) := by
  have HMR : Hid (M ≤ R) := hM
  have HRW : Hid (R < w.heap.size) := rd_chR h
  have HRA : Hid (RD M (w.alloc (Obj.cells #[] 42)) R v l f) := h.below (below_alloc _ _)
  have HC4 : Hid (Ch (fun x => x = R) w (w.alloc (Obj.cells #[] 42))) := Ch.of_below (below_alloc _ _)
  have HO4 : Hid ((w.alloc (Obj.cells #[] 42)).ownsRow w.heap.size 42 3 (.slice (some ⟨w.heap.size, 0, none⟩) 0 0) 0 []) := World.ownsRow_made w #[] 0 (Nat.le_refl _) (by simp [maxLen]) rfl
  obtain ⟨i0, hi0, hz0, hz1, hz2⟩ := info_partsQ info_pair
  clear h hM
  by_cases h0 : (manL l).1 = 0
  · have H0 : Hid ((manL l).1 = 0) := h0
    have HD : Hid (pairD l = pairS (manL l).2.1 (manL l).2.2) := by show _ = _; unfold pairD; rw [if_neg (by simpa using h0)]
    obtain ⟨x, hx⟩ : ∃ x, x = (manL l).2.1 := ⟨_, rfl⟩
    have HX : Hid (x = (manL l).2.1) := hx
    have HX64 : Hid (x ≤ 64) := by show _ ≤ _; rw [hx]; exact man_le
    rw [HD.out, ← hx]
    obtain ⟨D, hD⟩ : ∃ D, D = pairS x (manL l).2.2 := ⟨_, rfl⟩
    have HDD : Hid (D = pairS x (manL l).2.2) := hD
    rw [← hD]
    have HI0 : Hid (Try.prog.info? 42 = some i0) := hi0
    have HZ0 : Hid (i0.zero = some (.agg #[.int .u64 0, .bool false, .int .u64 0])) := hz0
    have HZ1 : Hid (i0.size = 3) := hz1
    have HZ2 : Hid (i0.bytes = 24) := hz2
    clear hx hD h0 hi0 hz0 hz1 hz2
    go_enter Try.func38, Try.ntmps38
    go_wp2_with fail
    refine (many_ok HRA.out H0.out).mono ?_
    rw [← HX.out]
    rintro e9 w3 ⟨rfl, ⟨v3, hR3⟩, hC3⟩
    have HST : Hid (PRel M R x D f w (.slice (some ⟨w.heap.size, 0, none⟩) 0 0) (.int .u64 0) w3) :=
      ⟨0, [], v3, _, rfl, by omega, rfl, by rw [HDD.out]; exact at_start _, hR3, own_ch HO4.out hC3 (fun x hx => by have := HRW.out; omega), HC4.out.self hC3⟩
    clear hR3 hC3
    have hx64 : (x : Int) ≤ 64 := by have := HX64.out; omega
    go_wp2_with fail
    go_loopw [3, 8] (fun kv iv wr => PRel M R x D f w kv iv wr) (fun _ iv _ => x - (intOf iv).toNat)
    case atStart => exact HST.out
    case round =>
      clear HST
      obtain ⟨i, acc, v4, l4, rfl, hix, hai, hat, hrd, hown, hch⟩ := hrel
      have HAT : Hid (At D (pairS (x - i) l4) acc) := hat
      have HRD : Hid (RD M wr R v4 l4 f) := hrd
      have HO : Hid (wr.ownsRow w.heap.size 42 3 u3 acc.length (flatQ acc)) := hown
      have HC : Hid (Ch (fun x => x = R) w wr) := hch
      have HAI : Hid (acc.length = i) := hai
      clear hat hrd hown hch hai
      by_cases hlt : i < x
      · have hlti : (i : Int) < (x : Int) := by omega
        have HAT2 : Hid (At D (pairS (x - (i + 1) + 1) l4) acc) := by rw [show x - (i + 1) + 1 = x - i by omega]; exact HAT.out
        by_cases ht : (Wm.take l4).2.2 = 0
        · have HT : Hid ((Wm.take l4).2.2 = 0) := ht
          obtain ⟨y, hy⟩ : ∃ y, y = (Wm.take l4).1 := ⟨_, rfl⟩
          have HY : Hid (y = (Wm.take l4).1) := hy
          have HYL : Hid (y < 18446744073709551616) := by show _ < _; rw [hy]; exact take_lt HRD.out.bv.2
          obtain ⟨l5, hl5⟩ : ∃ l5, l5 = l4.drop (Wm.take l4).2.1 := ⟨_, rfl⟩
          have HL5 : Hid (l5 = l4.drop (Wm.take l4).2.1) := hl5
          by_cases h8 : l5.length < 8
          · have H8 : Hid (l5.length < 8) := h8
            have HE : Hid (D.1 = 3) := pair_stop8 HAT2.out ht (by rw [← hl5]; exact h8)
            clear hy ht HAT2 hl5 h8
            go_wp2_with fail
            refine (number_ok HRD.out HT.out).mono ?_
            rw [← HY.out, ← HL5.out]
            rintro e w5 ⟨rfl, ⟨v5, hR5⟩, hC5⟩
            have HR5 : Hid (RD M w5 R v5 l5 f) := hR5
            have HC5 : Hid (Ch (fun x => x = R) w w5) := HC.out.self hC5
            clear hR5 hC5
            go_wp2_with fail
            refine (value_bad HR5.out H8.out).mono ?_
            rintro e w6 ⟨⟨u, pv, rfl⟩, h1, h2⟩
            go_wp2_with fail
            refine ⟨rfl, .inl ⟨by rw [HE.out]; decide, ?_⟩⟩
            rw [HE.out]
            exact ⟨⟨_, _, rfl⟩, h1, HC5.out.self h2⟩
          · have H8 : Hid (¬ l5.length < 8) := h8
            obtain ⟨b, hb⟩ : ∃ b, b = (Wm.takeW l5).1 := ⟨_, rfl⟩
            have HB : Hid (b = (Wm.takeW l5).1) := hb
            have HBL : Hid (b < 18446744073709551616) := by show _ < _; rw [hb, hl5]; exact takeW_lt (fun c hc => HRD.out.bv.2 c (List.mem_of_mem_drop hc))
            have HNX : Hid (At D (pairS (x - (i + 1)) (l5.drop 8)) (acc ++ [⟨y, ⟨true, b⟩⟩])) := by
              show At _ _ _
              rw [hb, hy, hl5]
              exact pair_step HAT2.out ht (by rw [← hl5]; exact h8)
            clear hy ht HAT2 hl5 h8 hb
            go_wp2_with fail
            refine (number_ok HRD.out HT.out).mono ?_
            rw [← HY.out, ← HL5.out]
            rintro e w5 ⟨rfl, ⟨v5, hR5⟩, hC5⟩
            have HR5 : Hid (RD M w5 R v5 l5 f) := hR5
            have HC5 : Hid (Ch (fun x => x = R) w w5) := HC.out.self hC5
            have HO5 : Hid (w5.ownsRow w.heap.size 42 3 u3 acc.length (flatQ acc)) := own_ch HO.out hC5 (fun x hx => by have := HRW.out; omega)
            clear hR5 hC5 HRD HO HC
            go_wp2_with fail
            refine (value_ok HR5.out H8.out).mono ?_
            rw [← HB.out]
            rintro e w6 ⟨rfl, ⟨v6, hR6⟩, hC6⟩
            have HR6 : Hid (RD M w6 R v6 (l5.drop 8) f) := hR6
            have HC6 : Hid (Ch (fun x => x = R) w w6) := HC5.out.self hC6
            have HO6 : Hid (w6.ownsRow w.heap.size 42 3 u3 acc.length (flatQ acc)) := own_ch HO5.out hC6 (fun x hx => by have := HRW.out; omega)
            have HLE : Hid (acc.length ≤ 64) := by have := HAI.out; have := HX64.out; show _ ≤ _; omega
            clear hR6 hC6 HR5 HO5 HC5
            go_upto_region 6 with (at_builtin; refine wpList_append_qs (by rfl) (.tmp 12) (.tmp 17) 24 (by rfl) w.heap.size 42 i0 Try.underlying24 HI0.out HZ0.out HZ1.out HZ2.out _ _ _ (by rfl) (HO6.out.alloc _) _ _ (by rfl) (qv_pair _ _ _ HYL.out HBL.out _) (by have := HLE.out; simp only [maxLen, List.length_singleton]; omega) (by have := HLE.out; simp only [List.length_singleton]; omega) (by rw [size_allocC]; have := HC6.out.size; omega) ?_; intro v7 w7 hown hgrow)
            have hg6 : Below w.heap.size w6 w7 := ((below_alloc w6 _).mono HC6.out.size).trans (grown_belowC (HO6.out.alloc _) hgrow (by rw [size_allocC]; have := HC6.out.size; omega))
            have hch6 : Ch (fun x => w.heap.size ≤ x) w6 w7 := ⟨hg6.os, hg6.tape, hg6.output, hg6.size, fun k hk hd => hg6.block k (by omega)⟩
            have HR7 : Hid (RD M w7 R v6 (l5.drop 8) f) := HR6.out.ch hch6 (by have := HRW.out; omega) (fun x hx => by have h1 := HMR.out; have h2 := HRW.out; omega)
            have HC7 : Hid (Ch (fun x => x = R) w w7) := HC6.out.trans hch6 (fun x hx => .inr hx)
            have HREL : Hid (PRel M R x D f w v7 (.int .u64 ((i : Int) + 1)) w7) := ⟨i + 1, acc ++ [⟨y, ⟨true, b⟩⟩], v6, _, rfl, hlt, by have := HAI.out; simp; omega, HNX.out, HR7.out, by
              rw [List.length_append]; exact hown, HC7.out⟩
            clear hown hgrow hg6 hch6 HR7 HC7 HR6 HC6 HO6
            go_wp2_with fail
            go_roundw
            case rel => exact HREL.out
            case measure => simp [intOf]; omega
        · have HT : Hid ((Wm.take l4).2.2 ≠ 0) := ht
          have HE : Hid (D.1 = (Wm.take l4).2.2) := pair_stop HAT2.out ht
          clear ht
          go_wp2_with fail
          refine (number_bad HRD.out rfl HT.out).mono ?_
          rintro e w5 ⟨⟨u, pv, rfl⟩, h1, h2⟩
          go_wp2_with fail
          refine ⟨rfl, .inl ⟨by rw [HE.out]; exact HT.out, ?_⟩⟩
          rw [HE.out]
          exact ⟨⟨_, _, rfl⟩, h1, HC.out.self h2⟩
      · have hlti : ¬ (i : Int) < (x : Int) := by omega
        obtain rfl : i = x := by omega
        go_wp2_with fail
        go_ret
        have hA := HAT.out
        rw [Nat.sub_self] at hA
        obtain ⟨a1, a2⟩ := hA
        simp only [pairS, List.append_nil] at a1 a2
        obtain ⟨b1, b2⟩ := a2 trivial
        exact .inr ⟨a1, _, rfl, by rw [b1]; exact HO.out, by rw [b2]; exact ⟨_, HRD.out⟩, HC.out⟩
  · have H0 : Hid ((manL l).1 ≠ 0) := h0
    have HD : Hid (pairD l = ((manL l).1, [], [])) := by show _ = _; unfold pairD; rw [if_pos h0]
    rw [HD.out]
    clear h0 hi0 hz0 hz1 hz2
    go_enter Try.func38, Try.ntmps38
    go_wp2_with fail
    refine (many_bad HRA.out rfl H0.out).mono ?_
    rintro e w5 ⟨⟨u, pv, rfl⟩, h1, h2⟩
    go_wp2_with fail
    exact ⟨rfl, .inl ⟨H0.out, ⟨_, _, rfl⟩, h1, HC4.out.self h2⟩⟩
end Go.Proofs.Ythkkbdmbmkgjpaa


