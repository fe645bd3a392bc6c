/- Contracts of the reference's Deliver, Drop, Copy, Flights. -/
import Derived.Test.YtokfbnpjndlccaaEc

namespace Go.Proofs.Ytokfbnpjndlccaa

open Go.RowKit



theorem in64_n {n : Nat} (h : n < 9223372036854775800) : in64 (n : Int) := ⟨by omega, by omega⟩
/-- What the reference's Deliver leaves. -/
def RdGot (w : World) (B R r nx : Nat) (L : List En) (p : Nat) (x : En) (e : Ending) (w' : World) : Prop :=
  ∃ v', e = .returned (.tuple #[mvE x, .int .i64 0]) ∧ Rt w' B R r nx v' (L.eraseIdx p) ∧ Ch (fun y => y = R) w w' ∧ ∀ y, v'.ownBlock = some y → w.heap.size ≤ y
set_option maxRecDepth 100000 in
set_option maxHeartbeats 4000000 in
theorem rdeliver_in {w : World} {B R r nx : Nat} {v : Value} {L : List En} {p : Nat} {x : En} (h : Rt w B R r nx v L) (hpx : L[p]? = some x) : Calls Try.prog 24 #[.pointer (some ⟨R, 0, none⟩), .int .i64 (x.n : Int)] w (RdGot w B R r nx L p x) := by
  have HR0 : Hid _ := h
  have HPX : Hid _ := hpx
  have hpl : (p : Int) ≤ 4096 := by have := (List.getElem?_eq_some_iff.1 hpx).1; have := h.len; have := h.room; omega
  have hpn : ¬ (p : Int) < 0 := by omega
  obtain ⟨ea, en, ec, qa, qn, qc, pa, pn, pc, e1, e2, e3⟩ := en_form (h.fr.ent x (List.mem_of_getElem? hpx))
  obtain ⟨m, hm⟩ : ∃ m, m = x.m := ⟨_, rfl⟩
  have HV : Hid (mvE x = .agg #[.int .i64 m.K, .int .i64 m.F, .int .i64 m.T, .int .i64 m.B, .int .i64 m.A, .int .i64 m.C, .slice ea en ec, .slice qa qn qc, .slice pa pn pc]) := by show _ = _; unfold mvE; rw [e1, e2, e3, ← hm]
  clear h hpx e1 e2 e3 hm
  have HB0 : Hid _ := below_alloc w (Obj.cells #[.int .i64 0, .int .i64 0, .int .i64 0, .int .i64 0, .int .i64 0, .int .i64 0, .slice none 0 0, .slice none 0 0, .slice none 0 0] 35)
  have HY0 : Hid _ := mx_zero w
  go_enter Try.func24, Try.ntmps24
  go_upto_region 1 with fail
  obtain ⟨Q, hQ⟩ : ∃ Q, Q = w.heap.size := ⟨_, rfl⟩
  have HQ : Hid (w.heap.size ≤ Q) := by show _ ≤ _; omega
  rw [← hQ] at HY0 ⊢
  clear hQ
  generalize w.alloc (Obj.cells #[.int .i64 0, .int .i64 0, .int .i64 0, .int .i64 0, .int .i64 0, .int .i64 0, .slice none 0 0, .slice none 0 0, .slice none 0 0] 35) = w1 at HB0 HY0 ⊢
  go_wp2_with fail
  refine (place_in (HR0.out.below HB0.out) HPX.out).mono ?_
  rintro e w2 ⟨rfl, hw2⟩
  rw [← hw2] at HB0 HY0
  clear hw2
  go_wp2_with fail
  refine (take_walk (HR0.out.below HB0.out) HPX.out).mono ?_
  rintro e w3 ⟨v', he, hrt, hc, hnb⟩
  rw [HV.out] at he
  subst he
  have HRT : Hid _ := hrt
  have HC : Hid _ := hc
  have HNB : Hid _ := hnb
  have HQR : Hid (¬ Q = R) := by have h1 := HR0.out.lo.2; have h2 := HQ.out; show ¬ Q = R; omega
  have HY3 : Hid _ := HY0.out.ch hc HQR.out
  have HQL : Hid (Q < w2.heap.size) := cell_lt HY0.out.c0
  clear hrt hc hnb HY0
  have HR : Hid _ := HY3.out.over m (.slice ea en ec) (.slice qa qn qc) (.slice pa pn pc)
  have HCS : Hid (Ch (fun x => x = Q) w3 (setM w3 Q m (.slice ea en ec) (.slice qa qn qc) (.slice pa pn pc))) := ch_setM _ _ _ _ _ _
  have y0 := HY3.out.c0
  have y1 := HY3.out.c1
  have y2 := HY3.out.c2
  have y3 := HY3.out.c3
  have y4 := HY3.out.c4
  have y5 := HY3.out.c5
  have y6 := HY3.out.c6
  have y7 := HY3.out.c7
  have y8 := HY3.out.c8
  have hz := HY3.out.z
  go_wp2_with fail
  show bodyPost _ _ _ _ _ (setM w3 Q m (.slice ea en ec) (.slice qa qn qc) (.slice pa pn pc))
  clear y0 y1 y2 y3 y4 y5 y6 y7 y8 hz
  generalize setM w3 Q m (.slice ea en ec) (.slice qa qn qc) (.slice pa pn pc) = w9 at HR HCS ⊢
  have y0 := HR.out.c0
  have y1 := HR.out.c1
  have y2 := HR.out.c2
  have y3 := HR.out.c3
  have y4 := HR.out.c4
  have y5 := HR.out.c5
  have y6 := HR.out.c6
  have y7 := HR.out.c7
  have y8 := HR.out.c8
  refine bodyPost_ret (v := .tuple #[.agg #[.int .i64 m.K, .int .i64 m.F, .int .i64 m.T, .int .i64 m.B, .int .i64 m.A, .int .i64 m.C, .slice ea en ec, .slice qa qn qc, .slice pa pn pc], .int .i64 0]) (by simp [results, Try.results24, go_sem, y0, y1, y2, y3, y4, y5, y6, y7, y8]) rfl ?_
  refine ⟨v', by rw [HV.out], HRT.out.ch HCS.out (fun y hy => ?_), ((Ch.of_below HB0.out).trans HC.out (fun y hy => .inl hy)).trans HCS.out (fun y hy => by right; rw [hy]; exact HQ.out), fun y hy => by have h1 := HNB.out y hy; have h2 := HB0.out.size; omega⟩
  subst hy
  intro hk
  rcases hk with q | q | ⟨z, hz, h3, h4⟩
  · exact HQR.out q
  · have h1 := HNB.out _ q; have h2 := HQL.out; omega
  · have h1 := (HR0.out.fr.ent z (List.mem_of_mem_eraseIdx hz)).hi; have h2 := HQ.out; omega
set_option maxRecDepth 100000 in
set_option maxHeartbeats 4000000 in
theorem rdeliver_out {w : World} {B R r nx : Nat} {v : Value} {L : List En} {k : Int} (h : Rt w B R r nx v L) (hat : atN L k = none) : Calls Try.prog 24 #[.pointer (some ⟨R, 0, none⟩), .int .i64 k] w fun e w' => e = .returned (.tuple #[zMsg, .int .i64 161]) ∧ Below w.heap.size w w' := by
  unfold zMsg
  have HR0 : Hid _ := h
  clear h
  have HB0 : Hid _ := below_alloc w (Obj.cells #[.int .i64 0, .int .i64 0, .int .i64 0, .int .i64 0, .int .i64 0, .int .i64 0, .slice none 0 0, .slice none 0 0, .slice none 0 0] 35)
  have HY0 : Hid _ := mx_zero w
  go_enter Try.func24, Try.ntmps24
  go_upto_region 1 with fail
  obtain ⟨Q, hQ⟩ : ∃ Q, Q = w.heap.size := ⟨_, rfl⟩
  have HQ : Hid (w.heap.size ≤ Q) := by show _ ≤ _; omega
  rw [← hQ] at HY0 ⊢
  clear hQ
  generalize w.alloc (Obj.cells #[.int .i64 0, .int .i64 0, .int .i64 0, .int .i64 0, .int .i64 0, .int .i64 0, .slice none 0 0, .slice none 0 0, .slice none 0 0] 35) = w1 at HB0 HY0 ⊢
  go_wp2_with fail
  refine (place_out (HR0.out.below HB0.out) hat).mono ?_
  rintro e w2 ⟨rfl, hw2⟩
  rw [← hw2] at HB0 HY0
  clear hw2 hat
  have HR : Hid _ := HY0.out.over zeroMs (.slice none 0 0) (.slice none 0 0) (.slice none 0 0)
  have HCS : Hid (Ch (fun x => x = Q) w2 (setM w2 Q zeroMs (.slice none 0 0) (.slice none 0 0) (.slice none 0 0))) := ch_setM _ _ _ _ _ _
  have y0 := HY0.out.c0
  have y1 := HY0.out.c1
  have y2 := HY0.out.c2
  have y3 := HY0.out.c3
  have y4 := HY0.out.c4
  have y5 := HY0.out.c5
  have y6 := HY0.out.c6
  have y7 := HY0.out.c7
  have y8 := HY0.out.c8
  have hz := HY0.out.z
  go_wp2_with fail
  show bodyPost _ _ _ _ _ (setM w2 Q zeroMs (.slice none 0 0) (.slice none 0 0) (.slice none 0 0))
  clear y0 y1 y2 y3 y4 y5 y6 y7 y8 hz
  generalize setM w2 Q zeroMs (.slice none 0 0) (.slice none 0 0) (.slice none 0 0) = w9 at HR HCS ⊢
  have y0 := HR.out.c0
  have y1 := HR.out.c1
  have y2 := HR.out.c2
  have y3 := HR.out.c3
  have y4 := HR.out.c4
  have y5 := HR.out.c5
  have y6 := HR.out.c6
  have y7 := HR.out.c7
  have y8 := HR.out.c8
  refine bodyPost_ret (v := .tuple #[.agg #[.int .i64 zeroMs.K, .int .i64 zeroMs.F, .int .i64 zeroMs.T, .int .i64 zeroMs.B, .int .i64 zeroMs.A, .int .i64 zeroMs.C, .slice none 0 0, .slice none 0 0, .slice none 0 0], .int .i64 161]) (by simp [results, Try.results24, go_sem, y0, y1, y2, y3, y4, y5, y6, y7, y8]) rfl ?_
  exact ⟨rfl, ch_below HB0.out HCS.out HQ.out⟩
set_option maxRecDepth 100000 in
set_option maxHeartbeats 4000000 in
theorem rdeliver_nil (k : Int) (w : World) : Calls Try.prog 24 #[.pointer none, .int .i64 k] w fun e w' => e = .returned (.tuple #[zMsg, .int .i64 2]) ∧ Below w.heap.size w w' := by
  unfold zMsg
  have HB0 : Hid _ := below_alloc w (Obj.cells #[.int .i64 0, .int .i64 0, .int .i64 0, .int .i64 0, .int .i64 0, .int .i64 0, .slice none 0 0, .slice none 0 0, .slice none 0 0] 35)
  have HY0 : Hid _ := mx_zero w
  go_enter Try.func24, Try.ntmps24
  go_upto_region 1 with fail
  obtain ⟨Q, hQ⟩ : ∃ Q, Q = w.heap.size := ⟨_, rfl⟩
  have HQ : Hid (w.heap.size ≤ Q) := by show _ ≤ _; omega
  rw [← hQ] at HY0 ⊢
  clear hQ
  generalize w.alloc (Obj.cells #[.int .i64 0, .int .i64 0, .int .i64 0, .int .i64 0, .int .i64 0, .int .i64 0, .slice none 0 0, .slice none 0 0, .slice none 0 0] 35) = w1 at HB0 HY0 ⊢
  have HR : Hid _ := HY0.out.over zeroMs (.slice none 0 0) (.slice none 0 0) (.slice none 0 0)
  have HCS : Hid (Ch (fun x => x = Q) w1 (setM w1 Q zeroMs (.slice none 0 0) (.slice none 0 0) (.slice none 0 0))) := ch_setM _ _ _ _ _ _
  have y0 := HY0.out.c0
  have y1 := HY0.out.c1
  have y2 := HY0.out.c2
  have y3 := HY0.out.c3
  have y4 := HY0.out.c4
  have y5 := HY0.out.c5
  have y6 := HY0.out.c6
  have y7 := HY0.out.c7
  have y8 := HY0.out.c8
  have hz := HY0.out.z
  go_wp2_with fail
  show bodyPost _ _ _ _ _ (setM w1 Q zeroMs (.slice none 0 0) (.slice none 0 0) (.slice none 0 0))
  clear y0 y1 y2 y3 y4 y5 y6 y7 y8 hz
  generalize setM w1 Q zeroMs (.slice none 0 0) (.slice none 0 0) (.slice none 0 0) = w9 at HR HCS ⊢
  have y0 := HR.out.c0
  have y1 := HR.out.c1
  have y2 := HR.out.c2
  have y3 := HR.out.c3
  have y4 := HR.out.c4
  have y5 := HR.out.c5
  have y6 := HR.out.c6
  have y7 := HR.out.c7
  have y8 := HR.out.c8
  refine bodyPost_ret (v := .tuple #[.agg #[.int .i64 zeroMs.K, .int .i64 zeroMs.F, .int .i64 zeroMs.T, .int .i64 zeroMs.B, .int .i64 zeroMs.A, .int .i64 zeroMs.C, .slice none 0 0, .slice none 0 0, .slice none 0 0], .int .i64 2]) (by simp [results, Try.results24, go_sem, y0, y1, y2, y3, y4, y5, y6, y7, y8]) rfl ?_
  exact ⟨rfl, ch_below HB0.out HCS.out HQ.out⟩
/-- What the reference's Drop leaves. -/
def RpGot (w : World) (B R r nx : Nat) (L : List En) (p : Nat) (e : Ending) (w' : World) : Prop :=
  ∃ v', e = .returned (.int .i64 0) ∧ Rt w' B R r nx v' (L.eraseIdx p) ∧ Ch (fun y => y = R) w w' ∧ ∀ y, v'.ownBlock = some y → w.heap.size ≤ y
set_option maxRecDepth 100000 in
set_option maxHeartbeats 4000000 in
theorem rdrop_in {w : World} {B R r nx : Nat} {v : Value} {L : List En} {p : Nat} {x : En} (h : Rt w B R r nx v L) (hpx : L[p]? = some x) : Calls Try.prog 25 #[.pointer (some ⟨R, 0, none⟩), .int .i64 (x.n : Int)] w (RpGot w B R r nx L p) := by
  obtain ⟨ea, en, ec, qa, qn, qc, pa, pn, pc, e1, e2, e3⟩ := en_form (h.fr.ent x (List.mem_of_getElem? hpx))
  go_enter Try.func25, Try.ntmps25
  go_wp2_with fail
  refine (rdeliver_in h hpx).mono ?_
  rintro e w2 ⟨v', he, hrt, hc, hnb⟩
  unfold mvE at he
  rw [e1, e2, e3] at he
  subst he
  have HRT : Hid _ := hrt
  have HC : Hid _ := hc
  have HNB : Hid _ := hnb
  clear hrt hc hnb e1 e2 e3 h hpx
  go_wp2_with fail
  go_ret
  exact ⟨v', rfl, HRT.out.below (below_alloc _ _), HC.out.trans (Ch.of_below (D := fun _ => False) (below_alloc _ _)) (fun x hx => hx.elim), HNB.out⟩
set_option maxRecDepth 100000 in
set_option maxHeartbeats 4000000 in
theorem rdrop_out {w : World} {B R r nx : Nat} {v : Value} {L : List En} {k : Int} (h : Rt w B R r nx v L) (hat : atN L k = none) : Calls Try.prog 25 #[.pointer (some ⟨R, 0, none⟩), .int .i64 k] w fun e w' => e = .returned (.int .i64 161) ∧ Below w.heap.size w w' := by
  go_enter Try.func25, Try.ntmps25
  go_wp2_with fail
  refine (rdeliver_out h hat).mono ?_
  rintro e w2 ⟨he, hb2⟩
  have HB2 : Hid _ := hb2
  unfold zMsg at he
  subst he
  clear hb2
  go_wp2_with fail
  go_ret
  exact ⟨rfl, below_trans HB2.out (below_alloc _ _)⟩
set_option maxRecDepth 100000 in
set_option maxHeartbeats 4000000 in
theorem rdrop_nil (k : Int) (w : World) : Calls Try.prog 25 #[.pointer none, .int .i64 k] w fun e w' => e = .returned (.int .i64 2) ∧ Below w.heap.size w w' := by
  go_enter Try.func25, Try.ntmps25
  go_wp2_with fail
  refine (rdeliver_nil k _).mono ?_
  rintro e w2 ⟨he, hb2⟩
  have HB2 : Hid _ := hb2
  unfold zMsg at he
  subst he
  clear hb2
  go_wp2_with fail
  go_ret
  exact ⟨rfl, below_trans HB2.out (below_alloc _ _)⟩
set_option maxRecDepth 100000 in
set_option maxHeartbeats 4000000 in
theorem rcopy_out {w : World} {B R r nx : Nat} {v : Value} {L : List En} {k : Int} (h : Rt w B R r nx v L) (hat : atN L k = none) : Calls Try.prog 26 #[.pointer (some ⟨R, 0, none⟩), .int .i64 k] w fun e w' => e = .returned (.tuple #[.int .i64 0, .int .i64 161]) ∧ w' = w := by
  go_enter Try.func26, Try.ntmps26
  go_wp2_with fail
  refine (place_out h hat).mono ?_
  rintro e w2 ⟨rfl, rfl⟩
  clear h hat
  go_wp2_with fail
  go_ret2
  exact ⟨rfl, rfl⟩
theorem rcopy_nil (k : Int) (w : World) : Calls Try.prog 26 #[.pointer none, .int .i64 k] w fun e w' => e = .returned (.tuple #[.int .i64 0, .int .i64 2]) ∧ w' = w := by
  go_enter Try.func26, Try.ntmps26
  go_wp2_with fail
  go_ret2
  exact ⟨rfl, rfl⟩
theorem rsend_nil {m : Ms} {ev qv pv : Value} (w : World) : Calls Try.prog 23 #[.pointer none, .agg #[.int .i64 m.K, .int .i64 m.F, .int .i64 m.T, .int .i64 m.B, .int .i64 m.A, .int .i64 m.C, ev, qv, pv]] w fun e w' => e = .returned (.tuple #[.int .i64 0, .int .i64 2]) ∧ Below w.heap.size w w' := by
  go_enter Try.func23, Try.ntmps23
  go_wp2_with fail
  go_ret2
  exact ⟨rfl, below_alloc _ _⟩
set_option maxRecDepth 100000 in
set_option maxHeartbeats 4000000 in
theorem rcopy_in {w : World} {B R r nx : Nat} {v : Value} {L : List En} {p : Nat} {x : En} (h : Rt w B R r nx v L) (hpx : L[p]? = some x) (hnx : nx < 9223372036854775800) : Calls Try.prog 26 #[.pointer (some ⟨R, 0, none⟩), .int .i64 (x.n : Int)] w (RaGot w B R r nx v L x.m) := by
  have HR0 : Hid _ := h
  obtain ⟨hp, hpy⟩ := List.getElem?_eq_some_iff.1 hpx
  have hpl : (p : Int) ≤ 4096 := by have := h.len; have := h.room; omega
  have hpi : (p : Int) < (L.length : Int) := by omega
  have hpn : ¬ (p : Int) < 0 := by omega
  have hmem := List.mem_of_getElem? hpx
  have HE : Hid _ := h.fr.ent x hmem
  have HSN : Hid _ := h.snd x hmem
  obtain ⟨ea, en, ec, qa, qn, qc, pa, pn, pc, e1, e2, e3⟩ := en_form HE.out
  obtain ⟨va, vc, hva⟩ := own_formN h.fr.own
  subst hva
  obtain ⟨gb, goff, hga, hfx⟩ := fv_at h.fr.fv hp
  subst hga
  rw [hpy, e1, e2, e3] at hfx
  have HL : Hid (ML w x.m (.slice ea en ec) (.slice qa qn qc) (.slice pa pn pc)) := by have k := HE.out.mo.l; rw [e1, e2, e3] at k; exact k
  have hll : (L.length : Int) ≤ 4096 := by have := h.len; have := h.room; omega
  have HFX : Hid _ := hfx
  have HPX : Hid _ := hpx
  have c1 := h.c1
  clear h e1 e2 e3 hfx hmem hp hpy hpx
  go_enter Try.func26, Try.ntmps26
  go_wp2_with fail
  refine (place_in HR0.out HPX.out).mono ?_
  rintro e w2 ⟨rfl, rfl⟩
  obtain ⟨f0, f1, f2, f3, f4, f5, f6, f7, f8, f9⟩ := HFX.out
  go_wp2_with fail
  refine (rsend_walk HR0.out HL.out HE.out.ok hnx).mono ?_
  rintro e w3 (⟨hs, _⟩ | ⟨_, h3⟩)
  · rw [HSN.out] at hs; cases hs
  clear c1 f0 f1 f2 f3 f4 f5 f6 f7 f8 f9
  rcases h3 with ⟨h1, rfl, h3⟩ | ⟨h1, rfl, h3⟩
  · have H3 : Hid _ := h3
    clear h3
    go_wp2_with fail
    go_ret2
    exact .inl ⟨h1, rfl, H3.out⟩
  · have H3 : Hid _ := h3
    clear h3
    go_wp2_with fail
    go_ret2
    exact .inr ⟨h1, rfl, H3.out⟩
theorem fr_fv0 (w : World) : Fr (w.alloc (Obj.cells #[] 55)) w.heap.size (.slice (some ⟨w.heap.size, 0, none⟩) 0 0) [] := fr_nil w
set_option maxRecDepth 100000 in
set_option maxHeartbeats 4000000 in
theorem rflights_nil (w : World) : Calls Try.prog 13 #[.pointer none] w (FlGot w []) := by
  go_enter Try.func13, Try.ntmps13
  go_upto_region 3 with fail
  go_loopw [3, 4] (fun lv iv wr => lv = .slice (some ⟨w.heap.size, 0, none⟩) 0 0 ∧ iv = .int .i64 0 ∧ wr = w.alloc (Obj.cells #[] 55)) (fun _ _ _ => 0)
  case atStart => exact ⟨rfl, rfl, rfl⟩
  case round =>
    obtain ⟨rfl, rfl, rfl⟩ := hrel
    go_wp2_with fail
    go_ret
    exact ⟨_, [], rfl, fr_nil w, rfl, below_alloc _ _⟩
set_option maxRecDepth 100000 in
set_option maxHeartbeats 4000000 in
theorem rflights_walk {w : World} {B R r nx : Nat} {v : Value} {L : List En} (h : Rt w B R r nx v L) : Calls Try.prog 13 #[.pointer (some ⟨R, 0, none⟩)] w (FlGot w L) := by
  have HR : Hid _ := h
  have hll : (L.length : Int) ≤ 4096 := by have := h.len; have := h.room; omega
  obtain ⟨va, vc, hva⟩ := own_formN h.fr.own
  subst hva
  clear h
  go_enter Try.func13, Try.ntmps13
  go_upto_region 3 with fail
  have HI : Hid (Fr (w.alloc (Obj.cells #[] 55)) w.heap.size (.slice (some ⟨w.heap.size, 0, none⟩) 0 0) []) := fr_nil w
  go_loopw [3, 4] (fun lv iv wr => ∃ (i : Nat) (F : List En), iv = .int .i64 i ∧ i ≤ L.length ∧ Fr wr w.heap.size lv F ∧ F.map nmE = (L.take i).map nmE ∧ Below w.heap.size w wr) (fun _ iv _ => L.length - (intOf iv).toNat)
  case atStart => exact ⟨0, [], rfl, Nat.zero_le _, HI.out, rfl, below_alloc _ _⟩
  case round =>
    obtain ⟨i, F, rfl, hil, hfr, hnm, hB⟩ := hrel
    obtain ⟨la, lc, hla⟩ := own_formN hfr.own
    subst hla
    have HF : Hid _ := hfr
    have HNM : Hid _ := hnm
    have HB : Hid _ := hB
    have HRr : Hid _ := HR.out.below hB
    clear hfr hnm hB HI
    have c1 := HRr.out.c1
    by_cases hlt : i < L.length
    · have hlti : (i : Int) < (L.length : Int) := by omega
      obtain ⟨gb, goff, hga, hfx⟩ := fv_at HRr.out.fr.fv hlt
      subst hga
      obtain ⟨x, hx⟩ : ∃ x, x = L[i] := ⟨_, rfl⟩
      have HXE : Hid (L[i]? = some x) := by show _ = _; rw [List.getElem?_eq_getElem hlt, ← hx]
      have hfx' : Fx wr gb (goff + i * 10) x.n x.m x.e x.q x.p := by rw [hx]; exact hfx
      have hmem : x ∈ L := by rw [hx]; exact List.getElem_mem _
      have hE := HRr.out.fr.ent x hmem
      have HSX : Hid _ := HRr.out.snd x hmem
      have HKX : Hid _ := hE.ok
      obtain ⟨ea, en, ec, qa, qn, qc, pa, pn, pc, e1, e2, e3⟩ := en_form hE
      have HEQ : Hid (x.e = .slice ea en ec ∧ x.q = .slice qa qn qc ∧ x.p = .slice pa pn pc) := ⟨e1, e2, e3⟩
      rw [e1, e2, e3] at hfx'
      have HML : Hid (ML wr x.m (.slice ea en ec) (.slice qa qn qc) (.slice pa pn pc)) := by have k := hE.mo.l; rw [e1, e2, e3] at k; exact k
      have HFX : Hid _ := hfx'
      have HLT : Hid (i < L.length) := hlt
      clear hfx hfx' hx hmem hE e1 e2 e3 hlt hil
      have k : ∀ wx, Below wr.heap.size wr wx → wx.cell? ⟨R, 1, none⟩ = some (.slice (some ⟨gb, goff, none⟩) L.length vc) := fun wx hx => (HRr.out.below hx).c1
      have k0 : ∀ wx, Below wr.heap.size wr wx → wx.cell? ⟨gb, goff + i * 10, none⟩ = some (.int .i64 x.n) := fun wx hx => (HFX.out.below hx).c0
      have k1 : ∀ wx, Below wr.heap.size wr wx → wx.cell? ⟨gb, goff + i * 10 + 1, none⟩ = some (.int .i64 x.m.K) := fun wx hx => (HFX.out.below hx).c1
      have k2 : ∀ wx, Below wr.heap.size wr wx → wx.cell? ⟨gb, goff + i * 10 + 1 + 1, none⟩ = some (.int .i64 x.m.F) := fun wx hx => (HFX.out.below hx).c2
      have k3 : ∀ wx, Below wr.heap.size wr wx → wx.cell? ⟨gb, goff + i * 10 + 1 + 2, none⟩ = some (.int .i64 x.m.T) := fun wx hx => (HFX.out.below hx).c3
      have k4 : ∀ wx, Below wr.heap.size wr wx → wx.cell? ⟨gb, goff + i * 10 + 1 + 3, none⟩ = some (.int .i64 x.m.B) := fun wx hx => (HFX.out.below hx).c4
      have k5 : ∀ wx, Below wr.heap.size wr wx → wx.cell? ⟨gb, goff + i * 10 + 1 + 4, none⟩ = some (.int .i64 x.m.A) := fun wx hx => (HFX.out.below hx).c5
      have k6 : ∀ wx, Below wr.heap.size wr wx → wx.cell? ⟨gb, goff + i * 10 + 1 + 5, none⟩ = some (.int .i64 x.m.C) := fun wx hx => (HFX.out.below hx).c6
      have k7 : ∀ wx, Below wr.heap.size wr wx → wx.cell? ⟨gb, goff + i * 10 + 1 + 6, none⟩ = some (.slice ea en ec) := fun wx hx => (HFX.out.below hx).c7
      have k8 : ∀ wx, Below wr.heap.size wr wx → wx.cell? ⟨gb, goff + i * 10 + 1 + 7, none⟩ = some (.slice qa qn qc) := fun wx hx => (HFX.out.below hx).c8
      have k9 : ∀ wx, Below wr.heap.size wr wx → wx.cell? ⟨gb, goff + i * 10 + 1 + 8, none⟩ = some (.slice pa pn pc) := fun wx hx => (HFX.out.below hx).c9
      go_upto_region 5 with fail
      refine wp_region_noPanic ?_
      refine wp_region_held_drew (S := fun wx => wx.cell? ⟨R, 1, none⟩ = some (.slice (some ⟨gb, goff, none⟩) L.length vc) ∧ wx.cell? ⟨gb, goff + i * 10, none⟩ = some (.int .i64 x.n) ∧ wx.cell? ⟨gb, goff + i * 10 + 1, none⟩ = some (.int .i64 x.m.K) ∧ wx.cell? ⟨gb, goff + i * 10 + 1 + 1, none⟩ = some (.int .i64 x.m.F) ∧ wx.cell? ⟨gb, goff + i * 10 + 1 + 2, none⟩ = some (.int .i64 x.m.T) ∧ wx.cell? ⟨gb, goff + i * 10 + 1 + 3, none⟩ = some (.int .i64 x.m.B) ∧ wx.cell? ⟨gb, goff + i * 10 + 1 + 4, none⟩ = some (.int .i64 x.m.A) ∧ wx.cell? ⟨gb, goff + i * 10 + 1 + 5, none⟩ = some (.int .i64 x.m.C) ∧ wx.cell? ⟨gb, goff + i * 10 + 1 + 6, none⟩ = some (.slice ea en ec) ∧ wx.cell? ⟨gb, goff + i * 10 + 1 + 7, none⟩ = some (.slice qa qn qc) ∧ wx.cell? ⟨gb, goff + i * 10 + 1 + 8, none⟩ = some (.slice pa pn pc)) (by kernel_rfl) ?_ (fun hHeld => ?_)
      · exact ⟨k _ (below_drewN wr 1), k0 _ (below_drewN wr 1), k1 _ (below_drewN wr 1), k2 _ (below_drewN wr 1), k3 _ (below_drewN wr 1), k4 _ (below_drewN wr 1), k5 _ (below_drewN wr 1), k6 _ (below_drewN wr 1), k7 _ (below_drewN wr 1), k8 _ (below_drewN wr 1), k9 _ (below_drewN wr 1)⟩
      refine wpAnyH_take (i := 0) (oi := ⟨some 19, _, _, _, _, _⟩) (v := ?_) rfl (by kernel_rfl) (by kernel_rfl) (by kernel_rfl) (fun _ _ _ h => h) (Or.inl ⟨by rfl, ?_⟩) hHeld ?_
      rotate_left
      · intro w hSw; (try dsimp only at hSw); go_simp; all_goals (with_reducible rfl)
      try simp only [Act.put, List.setIfInBounds_toArray, List.set_cons_zero, List.set_cons_succ]
      refine wpAnyH_take (i := 1) (oi := ⟨some 20, _, _, _, _, _⟩) (v := ?_) rfl (by kernel_rfl) (by kernel_rfl) (by kernel_rfl) (fun _ _ _ h => h) (Or.inl ⟨by rfl, ?_⟩) hHeld ?_
      rotate_left
      · intro w hSw; (try dsimp only at hSw); go_simp; all_goals (with_reducible rfl)
      try simp only [Act.put, List.setIfInBounds_toArray, List.set_cons_zero, List.set_cons_succ]
      refine wpAnyH_take (i := 2) (oi := ⟨some 21, _, _, _, _, _⟩) (v := ?_) rfl (by kernel_rfl) (by kernel_rfl) (by kernel_rfl) (fun _ _ _ h => h) (Or.inl ⟨by rfl, ?_⟩) hHeld ?_
      rotate_left
      · intro w hSw; (try dsimp only at hSw); go_simp; all_goals (with_reducible rfl)
      try simp only [Act.put, List.setIfInBounds_toArray, List.set_cons_zero, List.set_cons_succ]
      refine wpAnyH_take (i := 3) (oi := ⟨some 22, _, _, _, _, _⟩) (v := ?_) rfl (by kernel_rfl) (by kernel_rfl) (by kernel_rfl) (fun _ _ _ h => h) (Or.inl ⟨by rfl, ?_⟩) hHeld ?_
      rotate_left
      · intro w hSw; (try dsimp only at hSw); go_simp; all_goals (with_reducible rfl)
      try simp only [Act.put, List.setIfInBounds_toArray, List.set_cons_zero, List.set_cons_succ]
      refine wpAnyH_take (i := 4) (oi := ⟨some 23, _, _, _, _, _⟩) (v := ?_) rfl (by kernel_rfl) (by kernel_rfl) (by kernel_rfl) (fun _ _ _ h => h) (Or.inl ⟨by rfl, ?_⟩) hHeld ?_
      rotate_left
      · intro w hSw; (try dsimp only at hSw); go_simp; all_goals (with_reducible rfl)
      try simp only [Act.put, List.setIfInBounds_toArray, List.set_cons_zero, List.set_cons_succ]
      refine wpAnyH_take (i := 5) (oi := ⟨some 24, _, _, _, _, _⟩) (v := ?_) rfl (by kernel_rfl) (by kernel_rfl) (by kernel_rfl) (fun _ _ _ h => h) (Or.inl ⟨by rfl, ?_⟩) hHeld ?_
      rotate_left
      · intro w hSw; (try dsimp only at hSw); go_simp; all_goals (with_reducible rfl)
      try simp only [Act.put, List.setIfInBounds_toArray, List.set_cons_zero, List.set_cons_succ]
      refine wpAnyH_take (i := 6) (oi := ⟨some 25, _, _, _, _, _⟩) (v := ?_) rfl (by kernel_rfl) (by kernel_rfl) (by kernel_rfl) (fun _ _ _ h => h) (Or.inl ⟨by rfl, ?_⟩) hHeld ?_
      rotate_left
      · intro w hSw; (try dsimp only at hSw); go_simp; all_goals (with_reducible rfl)
      try simp only [Act.put, List.setIfInBounds_toArray, List.set_cons_zero, List.set_cons_succ]
      refine wpAnyH_take (i := 7) (oi := ⟨some 26, _, _, _, _, _⟩) (v := ?_) rfl (by kernel_rfl) (by kernel_rfl) (by kernel_rfl) (fun _ _ _ h => h) (Or.inl ⟨by rfl, ?_⟩) hHeld ?_
      rotate_left
      · intro w hSw; (try dsimp only at hSw); go_simp; all_goals (with_reducible rfl)
      try simp only [Act.put, List.setIfInBounds_toArray, List.set_cons_zero, List.set_cons_succ]
      refine wpAnyH_take (i := 8) (oi := ⟨some 27, _, _, _, _, _⟩) (v := ?_) rfl (by kernel_rfl) (by kernel_rfl) (by kernel_rfl) (fun _ _ _ h => h) (Or.inl ⟨by rfl, ?_⟩) hHeld ?_
      rotate_left
      · intro w hSw; (try dsimp only at hSw); go_simp; all_goals (with_reducible rfl)
      try simp only [Act.put, List.setIfInBounds_toArray, List.set_cons_zero, List.set_cons_succ]
      refine wpAnyH_take (i := 9) (oi := ⟨some 28, _, _, _, _, _⟩) (v := ?_) rfl (by kernel_rfl) (by kernel_rfl) (by kernel_rfl) (fun _ _ _ h => h) (Or.inl ⟨by rfl, ?_⟩) hHeld ?_
      rotate_left
      · intro w hSw; (try dsimp only at hSw); go_simp; all_goals (with_reducible rfl)
      try simp only [Act.put, List.setIfInBounds_toArray, List.set_cons_zero, List.set_cons_succ]
      refine wpAnyH_take (i := 10) (oi := ⟨some 29, _, _, _, _, _⟩) (v := ?_) rfl (by kernel_rfl) (by kernel_rfl) (by kernel_rfl) (fun _ _ _ h => h) (Or.inl ⟨by rfl, ?_⟩) hHeld ?_
      rotate_left
      · intro w hSw; (try dsimp only at hSw); go_simp; all_goals (with_reducible rfl)
      try simp only [Act.put, List.setIfInBounds_toArray, List.set_cons_zero, List.set_cons_succ]
      refine wpAnyH_take (i := 11) (oi := ⟨some 30, _, _, _, _, _⟩) (v := ?_) rfl (by kernel_rfl) (by kernel_rfl) (by kernel_rfl) (fun _ _ _ h => h) (Or.inl ⟨by rfl, ?_⟩) hHeld ?_
      rotate_left
      · intro w hSw; (try dsimp only at hSw); go_simp; all_goals (with_reducible rfl)
      try simp only [Act.put, List.setIfInBounds_toArray, List.set_cons_zero, List.set_cons_succ]
      refine wpAnyH_take (i := 12) (oi := ⟨some 31, _, _, _, _, _⟩) (v := ?_) rfl (by kernel_rfl) (by kernel_rfl) (by kernel_rfl) (fun _ _ _ h => h) (Or.inl ⟨by rfl, ?_⟩) hHeld ?_
      rotate_left
      · intro w hSw; (try dsimp only at hSw); go_simp; all_goals (with_reducible rfl)
      try simp only [Act.put, List.setIfInBounds_toArray, List.set_cons_zero, List.set_cons_succ]
      refine wpAnyH_take (i := 13) (oi := ⟨some 32, _, _, _, _, _⟩) (v := ?_) rfl (by kernel_rfl) (by kernel_rfl) (by kernel_rfl) (fun _ _ _ h => h) (Or.inl ⟨by rfl, ?_⟩) hHeld ?_
      rotate_left
      · intro w hSw; (try dsimp only at hSw); go_simp; all_goals (with_reducible rfl)
      try simp only [Act.put, List.setIfInBounds_toArray, List.set_cons_zero, List.set_cons_succ]
      refine wpAnyH_take (i := 14) (oi := ⟨some 33, _, _, _, _, _⟩) (v := ?_) rfl (by kernel_rfl) (by kernel_rfl) (by kernel_rfl) (fun _ _ _ h => h) (Or.inl ⟨by rfl, ?_⟩) hHeld ?_
      rotate_left
      · intro w hSw; (try dsimp only at hSw); go_simp; all_goals (with_reducible rfl)
      try simp only [Act.put, List.setIfInBounds_toArray, List.set_cons_zero, List.set_cons_succ]
      refine wpAnyH_take (i := 15) (oi := ⟨some 34, _, _, _, _, _⟩) (v := ?_) rfl (by kernel_rfl) (by kernel_rfl) (by kernel_rfl) (fun _ _ _ h => h) (Or.inl ⟨by rfl, ?_⟩) hHeld ?_
      rotate_left
      · intro w hSw; (try dsimp only at hSw); go_simp; all_goals (with_reducible rfl)
      try simp only [Act.put, List.setIfInBounds_toArray, List.set_cons_zero, List.set_cons_succ]
      refine wpAnyH_take (i := 16) (oi := ⟨some 35, _, _, _, _, _⟩) (v := ?_) rfl (by kernel_rfl) (by kernel_rfl) (by kernel_rfl) (fun _ _ _ h => h) (Or.inl ⟨by rfl, ?_⟩) hHeld ?_
      rotate_left
      · intro w hSw; (try dsimp only at hSw); go_simp; all_goals (with_reducible rfl)
      try simp only [Act.put, List.setIfInBounds_toArray, List.set_cons_zero, List.set_cons_succ]
      refine wpAnyH_ready (rs := [17]) (by kernel_rfl) (by simp) ?_
      refine AllReadyH.cons (o := ⟨some 36, _, _, _, _, _⟩) rfl (fun K hK => ?_) AllReadyH.nil
      go_simp
      refine (copied_walk (HML.out.below (below_drewN wr 1)) HKX.out (snd_len HSX.out).1 (snd_len HSX.out).2.1 (snd_len HSX.out).2.2).mono ?_
      rintro e w4 ⟨a1, a2, a3, rfl, hmo, hb4⟩
      have HB4 : Hid (Below wr.heap.size wr w4) := below_trans (below_drewN wr 1) hb4
      have HMO : Hid (Mo w4 wr.heap.size w4.heap.size x.m a1 a2 a3) := hmo
      clear hmo hb4
      obtain ⟨ya, yn, yc, za, zn, zc, ua, un, uc, rfl, rfl, rfl⟩ := ml_form HMO.out.l
      refine hK.out _ _ ?_ (fun hHeld => ?_)
      · exact ⟨k _ HB4.out, k0 _ HB4.out, k1 _ HB4.out, k2 _ HB4.out, k3 _ HB4.out, k4 _ HB4.out, k5 _ HB4.out, k6 _ HB4.out, k7 _ HB4.out, k8 _ HB4.out, k9 _ HB4.out⟩
      clear hK K
      try simp only [Act.put, List.setIfInBounds_toArray, List.set_cons_zero, List.set_cons_succ]
      refine wpAnyH_take (i := 18) (oi := ⟨some 37, _, _, _, _, _⟩) (v := ?_) rfl (by kernel_rfl) (by kernel_rfl) (by kernel_rfl) (fun _ _ _ h => h) (Or.inl ⟨by rfl, ?_⟩) hHeld ?_
      rotate_left
      · intro w hSw; (try dsimp only at hSw); go_simp; all_goals (with_reducible rfl)
      try simp only [Act.put, List.setIfInBounds_toArray, List.set_cons_zero, List.set_cons_succ]
      refine wpAnyH_ready (rs := [19]) (by kernel_rfl) (by simp) ?_
      refine AllReadyH.cons (o := ⟨some 38, _, _, _, _, _⟩) rfl (fun K hK => ?_) AllReadyH.nil
      go_simp
      refine hK.out _ _ ?_ (fun hHeld => ?_)
      · exact ⟨k _ (below_trans HB4.out (below_alloc _ _)), k0 _ (below_trans HB4.out (below_alloc _ _)), k1 _ (below_trans HB4.out (below_alloc _ _)), k2 _ (below_trans HB4.out (below_alloc _ _)), k3 _ (below_trans HB4.out (below_alloc _ _)), k4 _ (below_trans HB4.out (below_alloc _ _)), k5 _ (below_trans HB4.out (below_alloc _ _)), k6 _ (below_trans HB4.out (below_alloc _ _)), k7 _ (below_trans HB4.out (below_alloc _ _)), k8 _ (below_trans HB4.out (below_alloc _ _)), k9 _ (below_trans HB4.out (below_alloc _ _))⟩
      clear hK K
      try simp only [Act.put, List.setIfInBounds_toArray, List.set_cons_zero, List.set_cons_succ]
      refine wpAnyH_ready (rs := [20]) (by kernel_rfl) (by simp) ?_
      refine AllReadyH.cons (o := ⟨some 39, _, _, _, _, _⟩) rfl (fun K hK => ?_) AllReadyH.nil
      have HEn : Hid (Eo w4 (En.mk x.n x.m (.slice ya yn yc) (.slice za zn zc) (.slice ua un uc) wr.heap.size w4.heap.size)) := ⟨HMO.out, HKX.out, Nat.le_refl _⟩
      have hFL : F.length ≤ 5000 := by have h := congrArg List.length HNM.out; rw [List.length_map, List.length_map, List.length_take] at h; omega
      refine step_app_fl rfl (.tmp 19) (.tmp 38) rfl (.slice la F.length lc) F.length (flatF F) (by simp [Act.eval]) (own_belowC HF.out.own (below_trans HB4.out (below_alloc _ _))) w4.heap.size (En.mk x.n x.m (.slice ya yn yc) (.slice za zn zc) (.slice ua un uc) wr.heap.size w4.heap.size) (by simp [Act.eval]) (@cells_lit w4 (En.mk x.n x.m (.slice ya yn yc) (.slice za zn zc) (.slice ua un uc) wr.heap.size w4.heap.size) 55) (cellsE_one HEn.out) hFL (by have h1 := HB.out.size; have h2 := HB4.out.size; rw [size_allocC]; omega) ?_
      intro v6 w6 hown hgrow hat
      have HJ : Hid _ := HF.out.join (below_trans HB4.out (below_alloc _ _)) (HEn.out.below (below_alloc _ _)) (Nat.le_refl _) HB.out.size hown hgrow hat
      have HN6 : Hid ((F ++ [(En.mk x.n x.m (.slice ya yn yc) (.slice za zn zc) (.slice ua un uc) wr.heap.size w4.heap.size)]).map nmE = (L.take (i + 1)).map nmE) := by show _ = _; rw [List.map_append, HNM.out, List.take_add_one, HXE.out, List.map_append]; simp [nmE]
      have hc6 : Ch (fun y => (Value.slice la F.length lc).ownBlock = some y) (w4.alloc (Obj.cells #[.int .i64 x.n, .int .i64 x.m.K, .int .i64 x.m.F, .int .i64 x.m.T, .int .i64 x.m.B, .int .i64 x.m.A, .int .i64 x.m.C, .slice ya yn yc, .slice za zn zc, .slice ua un uc] 55)) w6 := Ch.of_grown hgrow (fun y hy => hy)
      have HB6 : Hid (Below w.heap.size w w6) := (HB.out.trans ((below_trans HB4.out (below_alloc _ _)).mono HB.out.size)).trans (hc6.to_below (by have h1 := HB.out.size; have h2 := HB4.out.size; rw [size_allocC]; omega) (fun y hy => (HF.out.own.lt y hy).1))
      have HFW : Hid (Fx w6 gb (goff + i * 10) x.n x.m (.slice ea en ec) (.slice qa qn qc) (.slice pa pn pc)) := by
        have h := HR.out.below HB6.out
        obtain ⟨gb', goff', hg', hf'⟩ := fv_at h.fr.fv HLT.out
        cases hg'
        have hx' : L[i]'HLT.out = x := by have h := HXE.out; rw [List.getElem?_eq_getElem HLT.out] at h; exact Option.some.inj h
        rw [hx', HEQ.out.1, HEQ.out.2.1, HEQ.out.2.2] at hf'
        exact hf'
      have HS6 : Hid (w6.cell? ⟨R, 1, none⟩ = some (.slice (some ⟨gb, goff, none⟩) L.length vc) ∧ w6.cell? ⟨gb, goff + i * 10, none⟩ = some (.int .i64 x.n) ∧ w6.cell? ⟨gb, goff + i * 10 + 1, none⟩ = some (.int .i64 x.m.K) ∧ w6.cell? ⟨gb, goff + i * 10 + 1 + 1, none⟩ = some (.int .i64 x.m.F) ∧ w6.cell? ⟨gb, goff + i * 10 + 1 + 2, none⟩ = some (.int .i64 x.m.T) ∧ w6.cell? ⟨gb, goff + i * 10 + 1 + 3, none⟩ = some (.int .i64 x.m.B) ∧ w6.cell? ⟨gb, goff + i * 10 + 1 + 4, none⟩ = some (.int .i64 x.m.A) ∧ w6.cell? ⟨gb, goff + i * 10 + 1 + 5, none⟩ = some (.int .i64 x.m.C) ∧ w6.cell? ⟨gb, goff + i * 10 + 1 + 6, none⟩ = some (.slice ea en ec) ∧ w6.cell? ⟨gb, goff + i * 10 + 1 + 7, none⟩ = some (.slice qa qn qc) ∧ w6.cell? ⟨gb, goff + i * 10 + 1 + 8, none⟩ = some (.slice pa pn pc)) := ⟨(HR.out.below HB6.out).c1, HFW.out.c0, HFW.out.c1, HFW.out.c2, HFW.out.c3, HFW.out.c4, HFW.out.c5, HFW.out.c6, HFW.out.c7, HFW.out.c8, HFW.out.c9⟩
      clear hown hgrow hat hc6 hFL
      refine hK.out _ _ ?_ (fun hHeld => ?_)
      · exact HS6.out
      clear hK K
      try simp only [Act.put, List.setIfInBounds_toArray, List.set_cons_zero, List.set_cons_succ]
      refine wpAnyH_take (i := 21) (oi := ⟨some 3, _, _, _, _, _⟩) (v := ?_) rfl (by kernel_rfl) (by kernel_rfl) (by kernel_rfl) (fun _ _ _ h => h) (Or.inl ⟨by rfl, ?_⟩) hHeld ?_
      rotate_left
      · intro w hSw; (try dsimp only at hSw); go_simp; all_goals (with_reducible rfl)
      try simp only [Act.put, List.setIfInBounds_toArray, List.set_cons_zero, List.set_cons_succ]
      refine wpAnyH_done (by kernel_rfl) ?_ _
      refine NoPanic.normal ?_
      clear k k0 k1 k2 k3 k4 k5 k6 k7 k8 k9
      obtain ⟨a6, c6, e6⟩ := own_formN HJ.out.own
      subst e6
      go_wp2_with fail
      go_roundw
      case rel => exact ⟨i + 1, _, by go_num, HLT.out, HJ.out, HN6.out, HB6.out⟩
      case measure => have := HLT.out; simp [intOf]; omega
    · have hlti : ¬ (i : Int) < (L.length : Int) := by omega
      obtain rfl : i = L.length := by omega
      go_wp2_with fail
      go_ret
      exact ⟨_, F, rfl, HF.out, by rw [HNM.out, List.take_length], HB.out⟩
end Go.Proofs.Ytokfbnpjndlccaa


