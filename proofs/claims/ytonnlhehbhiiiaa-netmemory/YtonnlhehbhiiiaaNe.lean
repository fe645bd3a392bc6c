/- Contracts of net's at, Deliver, Drop, Copy. -/
import Derived.Test.YtonnlhehbhiiiaaNd

namespace Go.Proofs.Ytonnlhehbhiiiaa

open Go.RowKit



theorem atN_mem {L : List En} {k : Int} {x : En} (h : atN L k = some x) : x ∈ L ∧ (x.n : Int) = k := by
  unfold atN at h
  have := List.find?_some h
  exact ⟨List.mem_of_find?_eq_some h, by simpa using this⟩
/-- A message in a value, its lists told. -/
theorem en_form {w : World} {x : En} (h : Eo w x) : ∃ ea en ec qa qn qc pa pn pc, x.e = .slice ea en ec ∧ x.q = .slice qa qn qc ∧ x.p = .slice pa pn pc := by
  obtain ⟨ea, en, ec, e1, _⟩ := sv_le h.mo.l.e
  obtain ⟨qa, qn, qc, e2, _⟩ := sv_le h.mo.l.q
  obtain ⟨pa, pn, pc, e3, _⟩ := qv_le h.mo.l.p
  exact ⟨_, _, _, _, _, _, _, _, _, e1, e2, e3⟩
theorem mx_old {w : World} {P : Nat} {m : Ms} {ev qv pv : Value} (h : MX w P m ev qv pv) (o : Obj) : MX (w.alloc o) P m ev qv pv := h.keep (below_alloc _ _)
theorem ch_below {w w1 w2 : World} {Q : Nat} (hb : Below w.heap.size w w1) (hc : Ch (fun x => x = Q) w1 w2) (hQ : w.heap.size ≤ Q) : Below w.heap.size w w2 :=
  hb.trans (hc.to_below hb.size (fun x hx => by rw [hx]; exact hQ))
theorem mc_zero : (#[.int .i64 zeroMs.K, .int .i64 zeroMs.F, .int .i64 zeroMs.T, .int .i64 zeroMs.B, .int .i64 zeroMs.A, .int .i64 zeroMs.C, .slice none 0 0, .slice none 0 0, .slice none 0 0] : Array Value) = #[.int .i64 0, .int .i64 0, .int .i64 0, .int .i64 0, .int .i64 0, .int .i64 0, .slice none 0 0, .slice none 0 0, .slice none 0 0] := rfl
theorem mem_out {L : List En} {k : Int} {x : En} (h : x ∈ outN L k) : x ∈ L ∧ (x.n : Int) ≠ k := by
  have := List.mem_filter.1 h
  exact ⟨this.1, by simpa using this.2⟩
theorem Nt.out {w w2 : World} {P b r nx n : Nat} {L : List En} {k : Int} (h : Nt w P b r nx L) (ho : w2.ownsMap Try.prog 3 heldE b n ((dM L).del (kI k))) (hg : w.grownBy w2 (some b)) : Nt w2 P b r nx (outN L k) := by
  have hc : Ch (fun x => x = b) w w2 := Ch.of_grown hg (fun x hx => by cases hx; rfl)
  rw [del_M] at ho
  refine ⟨hc.cell h.c0 h.pb, hc.cell h.c1 h.pb, hc.cell h.c2 h.pb, fun j => by rw [hc.frozen h.ltP h.pb]; exact h.z j, own_tight ho, h.rise.filter _, fun x hx => h.lt x (mem_out hx).1, fun x hx => h.snd x (mem_out hx).1, fun x hx => ?_, fun x hx => h.off x (mem_out hx).1, ?_, h.room, h.pb⟩
  · exact (h.ent x (mem_out hx).1).ch hc (fun y h1 _ e => by have := (h.off x (mem_out hx).1).2; omega)
  · exact Nat.le_trans (List.length_filter_le _ _) h.len


set_option maxRecDepth 100000 in
set_option maxHeartbeats 4000000 in
theorem at_in {w : World} {P b r nx : Nat} {L : List En} {k : Int} {x : En} (hn : Nt w P b r nx L) (hk : in64 k) (hat : atN L k = some x) : Calls Try.prog 32 #[.pointer (some ⟨P, 0, none⟩), .int .i64 k] w fun e w' => e = .returned (.tuple #[mvE x, .int .i64 0]) ∧ Below w.heap.size w w' := by
  obtain ⟨ea, en, ec, qa, qn, qc, pa, pn, pc, e1, e2, e3⟩ := en_form (hn.ent x (atN_mem hat).1)
  unfold mvE
  rw [e1, e2, e3]
  obtain ⟨m, hm⟩ : ∃ m, m = x.m := ⟨_, rfl⟩
  rw [← hm]
  have HN : Hid (Nt w P b r nx L) := hn
  have HB0 : Hid _ := below_alloc w (Obj.cells #[.int .i64 0, .int .i64 0, .int .i64 0, .int .i64 0, .int .i64 0, .int .i64 0, .slice none 0 0, .slice none 0 0, .slice none 0 0] 35)
  have HY0 : Hid _ := mx_zero w
  clear hn
  go_enter Try.func32, Try.ntmps32
  go_upto_region 1 with fail
  obtain ⟨Q, hQ⟩ : ∃ Q, Q = w.heap.size := ⟨_, rfl⟩
  have HQ : Hid (w.heap.size ≤ Q) := by show _ ≤ _; omega
  rw [← hQ] at HY0 ⊢
  clear hQ
  generalize w.alloc (Obj.cells #[.int .i64 0, .int .i64 0, .int .i64 0, .int .i64 0, .int .i64 0, .int .i64 0, .slice none 0 0, .slice none 0 0, .slice none 0 0] 35) = w1 at HB0 HY0 ⊢
  have HN1 : Hid _ := HN.out.below HB0.out
  have p2 := HN1.out.c2
  have hlk := look_in HN1.out.own hk hat
  unfold mvE at hlk
  rw [e1, e2, e3, ← hm] at hlk
  clear e1 e2 e3 hat hm HN HN1
  go_upto_region 6 with fail
  have HX : Hid _ := mx_new w1 m (.slice ea en ec) (.slice qa qn qc) (.slice pa pn pc)
  have HY : Hid _ := mx_old HY0.out (Obj.cells #[.int .i64 m.K, .int .i64 m.F, .int .i64 m.T, .int .i64 m.B, .int .i64 m.A, .int .i64 m.C, .slice ea en ec, .slice qa qn qc, .slice pa pn pc] 35)
  have HB1 : Hid _ := below_trans HB0.out (below_alloc w1 (Obj.cells #[.int .i64 m.K, .int .i64 m.F, .int .i64 m.T, .int .i64 m.B, .int .i64 m.A, .int .i64 m.C, .slice ea en ec, .slice qa qn qc, .slice pa pn pc] 35))
  generalize w1.alloc (Obj.cells #[.int .i64 m.K, .int .i64 m.F, .int .i64 m.T, .int .i64 m.B, .int .i64 m.A, .int .i64 m.C, .slice ea en ec, .slice qa qn qc, .slice pa pn pc] 35) = w2 at HX HY HB1 ⊢
  have HR : Hid _ := HY.out.over m (.slice ea en ec) (.slice qa qn qc) (.slice pa pn pc)
  have HCS : Hid (Ch (fun x => x = Q) w2 (setM w2 Q m (.slice ea en ec) (.slice qa qn qc) (.slice pa pn pc))) := ch_setM _ _ _ _ _ _
  have y0 := HY.out.c0
  have y1 := HY.out.c1
  have y2 := HY.out.c2
  have y3 := HY.out.c3
  have y4 := HY.out.c4
  have y5 := HY.out.c5
  have y6 := HY.out.c6
  have y7 := HY.out.c7
  have y8 := HY.out.c8
  have hz := HY.out.z
  have x0 := HX.out.c0
  have x1 := HX.out.c1
  have x2 := HX.out.c2
  have x3 := HX.out.c3
  have x4 := HX.out.c4
  have x5 := HX.out.c5
  have x6 := HX.out.c6
  have x7 := HX.out.c7
  have x8 := HX.out.c8
  go_wp2_with fail
  show bodyPost _ _ _ _ _ (setM w2 Q m (.slice ea en ec) (.slice qa qn qc) (.slice pa pn pc))
  clear y0 y1 y2 y3 y4 y5 y6 y7 y8 x0 x1 x2 x3 x4 x5 x6 x7 x8 hz
  generalize setM w2 Q m (.slice ea en ec) (.slice qa qn qc) (.slice pa pn pc) = w9 at HR HCS ⊢
  have y0 := HR.out.c0
  have y1 := HR.out.c1
  have y2 := HR.out.c2
  have y3 := HR.out.c3
  have y4 := HR.out.c4
  have y5 := HR.out.c5
  have y6 := HR.out.c6
  have y7 := HR.out.c7
  have y8 := HR.out.c8
  refine bodyPost_ret (v := .tuple #[.agg #[.int .i64 m.K, .int .i64 m.F, .int .i64 m.T, .int .i64 m.B, .int .i64 m.A, .int .i64 m.C, .slice ea en ec, .slice qa qn qc, .slice pa pn pc], .int .i64 0]) (by simp [results, Try.results32, go_sem, y0, y1, y2, y3, y4, y5, y6, y7, y8]) rfl ?_
  exact ⟨rfl, ch_below HB1.out HCS.out HQ.out⟩
set_option maxRecDepth 100000 in
set_option maxHeartbeats 4000000 in
theorem at_out {w : World} {P b r nx : Nat} {L : List En} {k : Int} (hn : Nt w P b r nx L) (hk : in64 k) (hat : atN L k = none) : Calls Try.prog 32 #[.pointer (some ⟨P, 0, none⟩), .int .i64 k] w fun e w' => e = .returned (.tuple #[zMsg, .int .i64 161]) ∧ Below w.heap.size w w' := by
  unfold zMsg
  have HN : Hid (Nt w P b r nx L) := hn
  have HB0 : Hid _ := below_alloc w (Obj.cells #[.int .i64 0, .int .i64 0, .int .i64 0, .int .i64 0, .int .i64 0, .int .i64 0, .slice none 0 0, .slice none 0 0, .slice none 0 0] 35)
  have HY0 : Hid _ := mx_zero w
  clear hn
  go_enter Try.func32, Try.ntmps32
  go_upto_region 1 with fail
  obtain ⟨Q, hQ⟩ : ∃ Q, Q = w.heap.size := ⟨_, rfl⟩
  have HQ : Hid (w.heap.size ≤ Q) := by show _ ≤ _; omega
  rw [← hQ] at HY0 ⊢
  clear hQ
  generalize w.alloc (Obj.cells #[.int .i64 0, .int .i64 0, .int .i64 0, .int .i64 0, .int .i64 0, .int .i64 0, .slice none 0 0, .slice none 0 0, .slice none 0 0] 35) = w1 at HB0 HY0 ⊢
  have HN1 : Hid _ := HN.out.below HB0.out
  have p2 := HN1.out.c2
  have hlk : (Instr.lookup 63 (.map (some b)) (.int .i64 k) true).run Try.prog w1 = .ok (.tuple #[.agg #[.int .i64 0, .int .i64 0, .int .i64 0, .int .i64 0, .int .i64 0, .int .i64 0, .slice none 0 0, .slice none 0 0, .slice none 0 0], .bool false]) w1 := look_out HN1.out.own hk hat
  clear hat HN HN1
  go_upto_region 4 with fail
  have HY : Hid _ := mx_old HY0.out (Obj.cells #[.int .i64 0, .int .i64 0, .int .i64 0, .int .i64 0, .int .i64 0, .int .i64 0, .slice none 0 0, .slice none 0 0, .slice none 0 0] 35)
  have HB1 : Hid _ := below_trans HB0.out (below_alloc w1 (Obj.cells #[.int .i64 0, .int .i64 0, .int .i64 0, .int .i64 0, .int .i64 0, .int .i64 0, .slice none 0 0, .slice none 0 0, .slice none 0 0] 35))
  generalize w1.alloc (Obj.cells #[.int .i64 0, .int .i64 0, .int .i64 0, .int .i64 0, .int .i64 0, .int .i64 0, .slice none 0 0, .slice none 0 0, .slice none 0 0] 35) = w2 at HY HB1 ⊢
  have HR : Hid _ := HY.out.over zeroMs (.slice none 0 0) (.slice none 0 0) (.slice none 0 0)
  have HCS : Hid (Ch (fun x => x = Q) w2 (setM w2 Q zeroMs (.slice none 0 0) (.slice none 0 0) (.slice none 0 0))) := ch_setM _ _ _ _ _ _
  have y0 := HY.out.c0
  have y1 := HY.out.c1
  have y2 := HY.out.c2
  have y3 := HY.out.c3
  have y4 := HY.out.c4
  have y5 := HY.out.c5
  have y6 := HY.out.c6
  have y7 := HY.out.c7
  have y8 := HY.out.c8
  have hz := HY.out.z
  go_wp2_with fail
  show bodyPost _ _ _ _ _ (setM w2 Q zeroMs (.slice none 0 0) (.slice none 0 0) (.slice none 0 0))
  clear y0 y1 y2 y3 y4 y5 y6 y7 y8 hz
  generalize setM w2 Q zeroMs (.slice none 0 0) (.slice none 0 0) (.slice none 0 0) = w9 at HR HCS ⊢
  have y0 := HR.out.c0
  have y1 := HR.out.c1
  have y2 := HR.out.c2
  have y3 := HR.out.c3
  have y4 := HR.out.c4
  have y5 := HR.out.c5
  have y6 := HR.out.c6
  have y7 := HR.out.c7
  have y8 := HR.out.c8
  refine bodyPost_ret (v := .tuple #[.agg #[.int .i64 zeroMs.K, .int .i64 zeroMs.F, .int .i64 zeroMs.T, .int .i64 zeroMs.B, .int .i64 zeroMs.A, .int .i64 zeroMs.C, .slice none 0 0, .slice none 0 0, .slice none 0 0], .int .i64 161]) (by simp [results, Try.results32, go_sem, y0, y1, y2, y3, y4, y5, y6, y7, y8]) rfl ?_
  exact ⟨rfl, ch_below HB1.out HCS.out HQ.out⟩
set_option maxRecDepth 100000 in
set_option maxHeartbeats 4000000 in
theorem at_nil (k : Int) (w : World) : Calls Try.prog 32 #[.pointer none, .int .i64 k] w fun e w' => e = .returned (.tuple #[zMsg, .int .i64 2]) ∧ Below w.heap.size w w' := by
  unfold zMsg
  have HB0 : Hid _ := below_alloc w (Obj.cells #[.int .i64 0, .int .i64 0, .int .i64 0, .int .i64 0, .int .i64 0, .int .i64 0, .slice none 0 0, .slice none 0 0, .slice none 0 0] 35)
  have HY0 : Hid _ := mx_zero w
  go_enter Try.func32, Try.ntmps32
  go_upto_region 1 with fail
  obtain ⟨Q, hQ⟩ : ∃ Q, Q = w.heap.size := ⟨_, rfl⟩
  have HQ : Hid (w.heap.size ≤ Q) := by show _ ≤ _; omega
  rw [← hQ] at HY0 ⊢
  clear hQ
  generalize w.alloc (Obj.cells #[.int .i64 0, .int .i64 0, .int .i64 0, .int .i64 0, .int .i64 0, .int .i64 0, .slice none 0 0, .slice none 0 0, .slice none 0 0] 35) = w1 at HB0 HY0 ⊢
  have HR : Hid _ := HY0.out.over zeroMs (.slice none 0 0) (.slice none 0 0) (.slice none 0 0)
  have HCS : Hid (Ch (fun x => x = Q) w1 (setM w1 Q zeroMs (.slice none 0 0) (.slice none 0 0) (.slice none 0 0))) := ch_setM _ _ _ _ _ _
  have y0 := HY0.out.c0
  have y1 := HY0.out.c1
  have y2 := HY0.out.c2
  have y3 := HY0.out.c3
  have y4 := HY0.out.c4
  have y5 := HY0.out.c5
  have y6 := HY0.out.c6
  have y7 := HY0.out.c7
  have y8 := HY0.out.c8
  have hz := HY0.out.z
  go_wp2_with fail
  show bodyPost _ _ _ _ _ (setM w1 Q zeroMs (.slice none 0 0) (.slice none 0 0) (.slice none 0 0))
  clear y0 y1 y2 y3 y4 y5 y6 y7 y8 hz
  generalize setM w1 Q zeroMs (.slice none 0 0) (.slice none 0 0) (.slice none 0 0) = w9 at HR HCS ⊢
  have y0 := HR.out.c0
  have y1 := HR.out.c1
  have y2 := HR.out.c2
  have y3 := HR.out.c3
  have y4 := HR.out.c4
  have y5 := HR.out.c5
  have y6 := HR.out.c6
  have y7 := HR.out.c7
  have y8 := HR.out.c8
  refine bodyPost_ret (v := .tuple #[.agg #[.int .i64 zeroMs.K, .int .i64 zeroMs.F, .int .i64 zeroMs.T, .int .i64 zeroMs.B, .int .i64 zeroMs.A, .int .i64 zeroMs.C, .slice none 0 0, .slice none 0 0, .slice none 0 0], .int .i64 2]) (by simp [results, Try.results32, go_sem, y0, y1, y2, y3, y4, y5, y6, y7, y8]) rfl ?_
  exact ⟨rfl, ch_below HB0.out HCS.out HQ.out⟩
set_option maxRecDepth 100000 in
set_option maxHeartbeats 4000000 in
theorem deliver_in {w : World} {P b r nx : Nat} {L : List En} {k : Int} {x : En} (hn : Nt w P b r nx L) (hk : in64 k) (hat : atN L k = some x) : Calls Try.prog 19 #[.pointer (some ⟨P, 0, none⟩), .int .i64 k] w fun e w' => e = .returned (.tuple #[mvE x, .int .i64 0]) ∧ Nt w' P b r nx (outN L k) ∧ Ch (fun y => y = b) w w' := by
  obtain ⟨ea, en, ec, qa, qn, qc, pa, pn, pc, e1, e2, e3⟩ := en_form (hn.ent x (atN_mem hat).1)
  unfold mvE
  rw [e1, e2, e3]
  obtain ⟨m, hm⟩ : ∃ m, m = x.m := ⟨_, rfl⟩
  rw [← hm]
  have HN : Hid (Nt w P b r nx L) := hn
  have HB0 : Hid _ := below_alloc w (Obj.cells #[.int .i64 0, .int .i64 0, .int .i64 0, .int .i64 0, .int .i64 0, .int .i64 0, .slice none 0 0, .slice none 0 0, .slice none 0 0] 35)
  have HY0 : Hid _ := mx_zero w
  clear hn
  go_enter Try.func19, Try.ntmps19
  go_upto_region 1 with fail
  obtain ⟨Q, hQ⟩ : ∃ Q, Q = w.heap.size := ⟨_, rfl⟩
  have HQ : Hid (w.heap.size ≤ Q) := by show _ ≤ _; omega
  rw [← hQ] at HY0 ⊢
  clear hQ
  generalize w.alloc (Obj.cells #[.int .i64 0, .int .i64 0, .int .i64 0, .int .i64 0, .int .i64 0, .int .i64 0, .slice none 0 0, .slice none 0 0, .slice none 0 0] 35) = w1 at HB0 HY0 ⊢
  have HN1 : Hid _ := HN.out.below HB0.out
  go_wp2_with fail
  refine (at_in HN1.out hk hat).mono ?_
  rintro e w2 ⟨he, hb2⟩
  unfold mvE at he
  rw [e1, e2, e3, ← hm] at he
  subst he
  have HB2 : Hid (Below w.heap.size w w2) := below_trans HB0.out hb2
  have HY2 : Hid _ := HY0.out.keep hb2
  have HOFF : Hid (∀ z ∈ L, z.lo ≤ Q → Q < z.hi → False) := fun z hz h1 h2 => by have h3 := (HN.out.ent z hz).hi; have h4 := HQ.out; omega
  have HQL : Hid (Q ≠ P ∧ Q ≠ b) := by have h1 := HN.out.ltP; have h2 := HN.out.ltb; have h3 := HQ.out; exact ⟨by omega, by omega⟩
  clear e1 e2 e3 hat hm hb2 HB0 HY0 HN1
  go_upto_region 4 with fail
  have HX : Hid _ := mx_new w2 m (.slice ea en ec) (.slice qa qn qc) (.slice pa pn pc)
  have HY : Hid _ := mx_old HY2.out (Obj.cells #[.int .i64 m.K, .int .i64 m.F, .int .i64 m.T, .int .i64 m.B, .int .i64 m.A, .int .i64 m.C, .slice ea en ec, .slice qa qn qc, .slice pa pn pc] 35)
  have HB3 : Hid _ := below_trans HB2.out (below_alloc w2 (Obj.cells #[.int .i64 m.K, .int .i64 m.F, .int .i64 m.T, .int .i64 m.B, .int .i64 m.A, .int .i64 m.C, .slice ea en ec, .slice qa qn qc, .slice pa pn pc] 35))
  obtain ⟨X, hX⟩ : ∃ X, X = w2.heap.size := ⟨_, rfl⟩
  have HXL : Hid (w.heap.size ≤ X) := by have := HB2.out.size; show _ ≤ _; omega
  rw [← hX] at HX ⊢
  clear hX
  generalize w2.alloc (Obj.cells #[.int .i64 m.K, .int .i64 m.F, .int .i64 m.T, .int .i64 m.B, .int .i64 m.A, .int .i64 m.C, .slice ea en ec, .slice qa qn qc, .slice pa pn pc] 35) = w3 at HX HY HB3 ⊢
  have HN3 : Hid _ := HN.out.below HB3.out
  have p2 := HN3.out.c2
  have HBL : Hid (b < w.heap.size) := HN.out.ltb
  clear HB2 HY2 HN
  go_upto_region 5 with (at_delete; refine wpList_delete_own _ (by rfl) (.tmp 21) (.tmp 22) 63 3 (by rfl) 35 law_i Try.underlying63 heldE b L.length (dM L) (by rfl) HN3.out.own _ (kI k) (by rfl) (key_i hk) ?_; intro w4 hown4 hturn4)
  have hg4 := hturn4.grown
  have HC4 : Hid (Ch (fun y => y = b) w3 w4) := Ch.of_grown hg4 (fun x hx => by cases hx; rfl)
  have HN4 : Hid _ := HN3.out.out hown4 hg4
  have HX4 : Hid _ := HX.out.ch HC4.out (by have := HXL.out; have := HBL.out; show ¬ X = b; omega)
  have HY4 : Hid _ := HY.out.ch HC4.out HQL.out.2
  have HW4 : Hid (Ch (fun y => y = b) w w4) := (Ch.of_below HB3.out).trans HC4.out (fun x hx => .inl hx)
  clear hown4 hturn4 hg4 HN3 HX HY HC4 HB3 p2
  have HR : Hid _ := HY4.out.over m (.slice ea en ec) (.slice qa qn qc) (.slice pa pn pc)
  have HCS : Hid (Ch (fun x => x = Q) w4 (setM w4 Q m (.slice ea en ec) (.slice qa qn qc) (.slice pa pn pc))) := ch_setM _ _ _ _ _ _
  have y0 := HY4.out.c0
  have y1 := HY4.out.c1
  have y2 := HY4.out.c2
  have y3 := HY4.out.c3
  have y4 := HY4.out.c4
  have y5 := HY4.out.c5
  have y6 := HY4.out.c6
  have y7 := HY4.out.c7
  have y8 := HY4.out.c8
  have hz := HY4.out.z
  have x0 := HX4.out.c0
  have x1 := HX4.out.c1
  have x2 := HX4.out.c2
  have x3 := HX4.out.c3
  have x4 := HX4.out.c4
  have x5 := HX4.out.c5
  have x6 := HX4.out.c6
  have x7 := HX4.out.c7
  have x8 := HX4.out.c8
  go_wp2_with fail
  show bodyPost _ _ _ _ _ (setM w4 Q m (.slice ea en ec) (.slice qa qn qc) (.slice pa pn pc))
  clear y0 y1 y2 y3 y4 y5 y6 y7 y8 x0 x1 x2 x3 x4 x5 x6 x7 x8 hz
  generalize setM w4 Q m (.slice ea en ec) (.slice qa qn qc) (.slice pa pn pc) = w9 at HR HCS ⊢
  have y0 := HR.out.c0
  have y1 := HR.out.c1
  have y2 := HR.out.c2
  have y3 := HR.out.c3
  have y4 := HR.out.c4
  have y5 := HR.out.c5
  have y6 := HR.out.c6
  have y7 := HR.out.c7
  have y8 := HR.out.c8
  refine bodyPost_ret (v := .tuple #[.agg #[.int .i64 m.K, .int .i64 m.F, .int .i64 m.T, .int .i64 m.B, .int .i64 m.A, .int .i64 m.C, .slice ea en ec, .slice qa qn qc, .slice pa pn pc], .int .i64 0]) (by simp [results, Try.results19, go_sem, y0, y1, y2, y3, y4, y5, y6, y7, y8]) rfl ?_
  refine ⟨rfl, HN4.out.ch HCS.out (fun y hy => ?_), HW4.out.trans HCS.out (fun y hy => by right; rw [hy]; exact HQ.out)⟩
  subst hy
  intro hy
  rcases hy with h | h | ⟨z, hz, h1, h2⟩
  · exact HQL.out.1 h
  · exact HQL.out.2 h
  · exact HOFF.out z (mem_out hz).1 h1 h2
set_option maxRecDepth 100000 in
set_option maxHeartbeats 4000000 in
theorem deliver_out {w : World} {P b r nx : Nat} {L : List En} {k : Int} (hn : Nt w P b r nx L) (hk : in64 k) (hat : atN L k = none) : Calls Try.prog 19 #[.pointer (some ⟨P, 0, none⟩), .int .i64 k] w fun e w' => e = .returned (.tuple #[zMsg, .int .i64 161]) ∧ Below w.heap.size w w' := by
  unfold zMsg
  have HN : Hid (Nt w P b r nx L) := hn
  have HB0 : Hid _ := below_alloc w (Obj.cells #[.int .i64 0, .int .i64 0, .int .i64 0, .int .i64 0, .int .i64 0, .int .i64 0, .slice none 0 0, .slice none 0 0, .slice none 0 0] 35)
  have HY0 : Hid _ := mx_zero w
  clear hn
  go_enter Try.func19, Try.ntmps19
  go_upto_region 1 with fail
  obtain ⟨Q, hQ⟩ : ∃ Q, Q = w.heap.size := ⟨_, rfl⟩
  have HQ : Hid (w.heap.size ≤ Q) := by show _ ≤ _; omega
  rw [← hQ] at HY0 ⊢
  clear hQ
  generalize w.alloc (Obj.cells #[.int .i64 0, .int .i64 0, .int .i64 0, .int .i64 0, .int .i64 0, .int .i64 0, .slice none 0 0, .slice none 0 0, .slice none 0 0] 35) = w1 at HB0 HY0 ⊢
  have HN1 : Hid _ := HN.out.below HB0.out
  go_wp2_with fail
  refine (at_out HN1.out hk hat).mono ?_
  rintro e w2 ⟨he, hb2⟩
  unfold zMsg at he
  subst he
  have HB2 : Hid (Below w.heap.size w w2) := below_trans HB0.out hb2
  have HY2 : Hid _ := HY0.out.keep hb2
  clear hat HN HN1 hb2 HB0 HY0
  go_upto_region 2 with fail
  have HY : Hid _ := mx_old HY2.out (Obj.cells #[.int .i64 0, .int .i64 0, .int .i64 0, .int .i64 0, .int .i64 0, .int .i64 0, .slice none 0 0, .slice none 0 0, .slice none 0 0] 35)
  have HB3 : Hid _ := below_trans HB2.out (below_alloc w2 (Obj.cells #[.int .i64 0, .int .i64 0, .int .i64 0, .int .i64 0, .int .i64 0, .int .i64 0, .slice none 0 0, .slice none 0 0, .slice none 0 0] 35))
  rw [mc_zero]
  generalize w2.alloc (Obj.cells #[.int .i64 0, .int .i64 0, .int .i64 0, .int .i64 0, .int .i64 0, .int .i64 0, .slice none 0 0, .slice none 0 0, .slice none 0 0] 35) = w3 at HY HB3 ⊢
  clear HB2 HY2
  have HR : Hid _ := HY.out.over zeroMs (.slice none 0 0) (.slice none 0 0) (.slice none 0 0)
  have HCS : Hid (Ch (fun x => x = Q) w3 (setM w3 Q zeroMs (.slice none 0 0) (.slice none 0 0) (.slice none 0 0))) := ch_setM _ _ _ _ _ _
  have y0 := HY.out.c0
  have y1 := HY.out.c1
  have y2 := HY.out.c2
  have y3 := HY.out.c3
  have y4 := HY.out.c4
  have y5 := HY.out.c5
  have y6 := HY.out.c6
  have y7 := HY.out.c7
  have y8 := HY.out.c8
  have hz := HY.out.z
  go_wp2_with fail
  show bodyPost _ _ _ _ _ (setM w3 Q zeroMs (.slice none 0 0) (.slice none 0 0) (.slice none 0 0))
  clear y0 y1 y2 y3 y4 y5 y6 y7 y8 hz
  generalize setM w3 Q zeroMs (.slice none 0 0) (.slice none 0 0) (.slice none 0 0) = w9 at HR HCS ⊢
  have y0 := HR.out.c0
  have y1 := HR.out.c1
  have y2 := HR.out.c2
  have y3 := HR.out.c3
  have y4 := HR.out.c4
  have y5 := HR.out.c5
  have y6 := HR.out.c6
  have y7 := HR.out.c7
  have y8 := HR.out.c8
  refine bodyPost_ret (v := .tuple #[.agg #[.int .i64 zeroMs.K, .int .i64 zeroMs.F, .int .i64 zeroMs.T, .int .i64 zeroMs.B, .int .i64 zeroMs.A, .int .i64 zeroMs.C, .slice none 0 0, .slice none 0 0, .slice none 0 0], .int .i64 161]) (by simp [results, Try.results19, go_sem, y0, y1, y2, y3, y4, y5, y6, y7, y8]) rfl ?_
  exact ⟨rfl, ch_below HB3.out HCS.out HQ.out⟩
set_option maxRecDepth 100000 in
set_option maxHeartbeats 4000000 in
theorem deliver_nil (k : Int) (w : World) : Calls Try.prog 19 #[.pointer none, .int .i64 k] w fun e w' => e = .returned (.tuple #[zMsg, .int .i64 2]) ∧ Below w.heap.size w w' := by
  unfold zMsg
  have HB0 : Hid _ := below_alloc w (Obj.cells #[.int .i64 0, .int .i64 0, .int .i64 0, .int .i64 0, .int .i64 0, .int .i64 0, .slice none 0 0, .slice none 0 0, .slice none 0 0] 35)
  have HY0 : Hid _ := mx_zero w
  go_enter Try.func19, Try.ntmps19
  go_upto_region 1 with fail
  obtain ⟨Q, hQ⟩ : ∃ Q, Q = w.heap.size := ⟨_, rfl⟩
  have HQ : Hid (w.heap.size ≤ Q) := by show _ ≤ _; omega
  rw [← hQ] at HY0 ⊢
  clear hQ
  generalize w.alloc (Obj.cells #[.int .i64 0, .int .i64 0, .int .i64 0, .int .i64 0, .int .i64 0, .int .i64 0, .slice none 0 0, .slice none 0 0, .slice none 0 0] 35) = w1 at HB0 HY0 ⊢
  go_wp2_with fail
  refine (at_nil k _).mono ?_
  rintro e w2 ⟨he, hb2⟩
  unfold zMsg at he
  subst he
  have HB2 : Hid (Below w.heap.size w w2) := below_trans HB0.out hb2
  have HY2 : Hid _ := HY0.out.keep hb2
  clear hb2 HB0 HY0
  go_upto_region 2 with fail
  have HY : Hid _ := mx_old HY2.out (Obj.cells #[.int .i64 0, .int .i64 0, .int .i64 0, .int .i64 0, .int .i64 0, .int .i64 0, .slice none 0 0, .slice none 0 0, .slice none 0 0] 35)
  have HB3 : Hid _ := below_trans HB2.out (below_alloc w2 (Obj.cells #[.int .i64 0, .int .i64 0, .int .i64 0, .int .i64 0, .int .i64 0, .int .i64 0, .slice none 0 0, .slice none 0 0, .slice none 0 0] 35))
  rw [mc_zero]
  generalize w2.alloc (Obj.cells #[.int .i64 0, .int .i64 0, .int .i64 0, .int .i64 0, .int .i64 0, .int .i64 0, .slice none 0 0, .slice none 0 0, .slice none 0 0] 35) = w3 at HY HB3 ⊢
  clear HB2 HY2
  have HR : Hid _ := HY.out.over zeroMs (.slice none 0 0) (.slice none 0 0) (.slice none 0 0)
  have HCS : Hid (Ch (fun x => x = Q) w3 (setM w3 Q zeroMs (.slice none 0 0) (.slice none 0 0) (.slice none 0 0))) := ch_setM _ _ _ _ _ _
  have y0 := HY.out.c0
  have y1 := HY.out.c1
  have y2 := HY.out.c2
  have y3 := HY.out.c3
  have y4 := HY.out.c4
  have y5 := HY.out.c5
  have y6 := HY.out.c6
  have y7 := HY.out.c7
  have y8 := HY.out.c8
  have hz := HY.out.z
  go_wp2_with fail
  show bodyPost _ _ _ _ _ (setM w3 Q zeroMs (.slice none 0 0) (.slice none 0 0) (.slice none 0 0))
  clear y0 y1 y2 y3 y4 y5 y6 y7 y8 hz
  generalize setM w3 Q zeroMs (.slice none 0 0) (.slice none 0 0) (.slice none 0 0) = w9 at HR HCS ⊢
  have y0 := HR.out.c0
  have y1 := HR.out.c1
  have y2 := HR.out.c2
  have y3 := HR.out.c3
  have y4 := HR.out.c4
  have y5 := HR.out.c5
  have y6 := HR.out.c6
  have y7 := HR.out.c7
  have y8 := HR.out.c8
  refine bodyPost_ret (v := .tuple #[.agg #[.int .i64 zeroMs.K, .int .i64 zeroMs.F, .int .i64 zeroMs.T, .int .i64 zeroMs.B, .int .i64 zeroMs.A, .int .i64 zeroMs.C, .slice none 0 0, .slice none 0 0, .slice none 0 0], .int .i64 2]) (by simp [results, Try.results19, go_sem, y0, y1, y2, y3, y4, y5, y6, y7, y8]) rfl ?_
  exact ⟨rfl, ch_below HB3.out HCS.out HQ.out⟩
end Go.Proofs.Ytonnlhehbhiiiaa


