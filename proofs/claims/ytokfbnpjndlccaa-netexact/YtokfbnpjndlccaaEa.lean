/- The reference's net in memory; contracts of its Copied, New, Next. -/
import Derived.Test.YtokfbnpjndlccaaNj

namespace Go.Proofs.Ytokfbnpjndlccaa

open Go.RowKit



theorem own_made0 (w : World) (e s : Nat) {base : Nat} (hb : base ≤ w.heap.size) : (w.alloc (.cells #[] e)).ownsRow base e s (.slice (some ⟨w.heap.size, 0, none⟩) 0 0) 0 [] :=
  ⟨by simp, .inr ⟨_, 0, #[], rfl, hb, heap_alloc_new w _, Nat.le_refl _, by simp [maxLen], by simp, by simp⟩⟩
theorem below_app {w w2 : World} {o : Obj} (hg : (w.alloc o).grownBy w2 (some w.heap.size)) : Below w.heap.size w w2 := by
  have hc : Ch (fun x => x = w.heap.size) (w.alloc o) w2 := Ch.of_grown hg (fun x hx => by cases hx; rfl)
  exact (below_alloc w o).trans (hc.to_below (by rw [size_allocC]; omega) (fun x hx => by rw [hx]; exact Nat.le_refl _))
set_option maxRecDepth 100000 in
set_option maxHeartbeats 4000000 in
theorem copied_walk {w : World} {m : Ms} {ev qv pv : Value} (h : ML w m ev qv pv) (hok : m.ok) (hE : m.E.length ≤ 64) (hQ : m.Q.length ≤ 64) (hPl : m.P.length ≤ 64) :
    Calls Try.prog 30 #[.agg #[.int .i64 m.K, .int .i64 m.F, .int .i64 m.T, .int .i64 m.B, .int .i64 m.A, .int .i64 m.C, ev, qv, pv]] w fun e w' => ∃ a b c, e = .returned (.agg #[.int .i64 m.K, .int .i64 m.F, .int .i64 m.T, .int .i64 m.B, .int .i64 m.A, .int .i64 m.C, a, b, c]) ∧ Mo w' w.heap.size w'.heap.size m a b c ∧ Below w.heap.size w w' := by
  have HL : Hid (ML w m ev qv pv) := h
  have HK : Hid (m.ok) := hok
  have HLE : Hid (m.E.length ≤ 64 ∧ m.Q.length ≤ 64 ∧ m.P.length ≤ 64) := ⟨hE, hQ, hPl⟩
  obtain ⟨ea, en, ec, rfl, he, hem⟩ := sv_le h.e
  obtain ⟨qa, qn, qc, rfl, hq, hqm⟩ := sv_le h.q
  obtain ⟨pa, pn, pc, rfl, hp, hpm⟩ := qv_le h.p
  clear h hok hE hQ hPl he hq hp hem hqm hpm
  have HX := (mx_new w m (.slice ea en ec) (.slice qa qn qc) (.slice pa pn pc)).keep (below_alloc _ (Obj.cells #[.int .i64 0, .int .i64 0, .int .i64 0, .int .i64 0, .int .i64 0, .int .i64 0, .slice none 0 0, .slice none 0 0, .slice none 0 0] 35))
  have HY := mx_zero1 w (Obj.cells #[.int .i64 m.K, .int .i64 m.F, .int .i64 m.T, .int .i64 m.B, .int .i64 m.A, .int .i64 m.C, .slice ea en ec, .slice qa qn qc, .slice pa pn pc] 35)
  have HW := below_trans (below_alloc w (Obj.cells #[.int .i64 m.K, .int .i64 m.F, .int .i64 m.T, .int .i64 m.B, .int .i64 m.A, .int .i64 m.C, .slice ea en ec, .slice qa qn qc, .slice pa pn pc] 35)) (below_alloc _ (Obj.cells #[.int .i64 0, .int .i64 0, .int .i64 0, .int .i64 0, .int .i64 0, .int .i64 0, .slice none 0 0, .slice none 0 0, .slice none 0 0] 35))
  have HC : Hid (Cn w w.heap.size m (.slice ea en ec) (.slice qa qn qc) (.slice pa pn pc) _) := ⟨HX, HY, HW⟩
  clear HX HY HW
  go_enter Try.func30, Try.ntmps30
  go_upto_region 1 with fail
  obtain ⟨P, hP⟩ : ∃ P, P = w.heap.size := ⟨_, rfl⟩
  rw [← hP] at HC ⊢
  have HP : Hid (P = w.heap.size) := hP
  clear hP
  generalize (w.alloc (Obj.cells #[.int .i64 m.K, .int .i64 m.F, .int .i64 m.T, .int .i64 m.B, .int .i64 m.A, .int .i64 m.C, .slice ea en ec, .slice qa qn qc, .slice pa pn pc] 35)).alloc (Obj.cells #[.int .i64 0, .int .i64 0, .int .i64 0, .int .i64 0, .int .i64 0, .int .i64 0, .slice none 0 0, .slice none 0 0, .slice none 0 0] 35) = w1 at HC ⊢
  have HBS : Hid (P + 2 ≤ w1.heap.size) := cell_lt HC.out.rx.c0
  have HV : Hid _ := HL.out.below (by have := HC.out.b; rw [HP.out] at this; exact this)
  have k6 := (HC.out.mx.keep (below_alloc w1 (Obj.cells #[] 3))).c6
  have z6 := HC.out.mx.z 6
  go_upto_region 3 with (at_builtin; refine wpList_append_sv (by rfl) (.tmp 7) (.tmp 9) 31 (by rfl) (P + 2) 3 .i64 8 Try.underlying31 info_intN _ 0 [] (by rfl) (own_made0 _ _ _ HBS.out) _ _ (by rfl) (HV.out.below (below_alloc _ _)).e (by have := HLE.out; have := ib_len m.Q; unfold maxLen; omega) (by have := HLE.out; have := ib_len m.Q; omega) (by have := HBS.out; rw [size_allocC]; omega) ?_; intro v1 w2 hown hgrow; rw [Nat.zero_add, List.nil_append] at hown; obtain ⟨a1, c1, rfl⟩ := own_formN hown; have HO1 : Hid _ := hown; have HG : Hid _ := below_app hgrow)
  clear hown hgrow k6 z6
  have k6 := (HC.out.mx.keep HG.out).c6
  have z6 := (HC.out.mx.keep HG.out).z 6
  go_upto_region 4 with fail
  have HC2 : Hid _ := HC.out.set HP.out HG.out 6 ((HC.out.mx.keep HG.out).s6 (.slice a1 m.E.length c1))
  have HO1b : Hid _ := own_setN (j := 6) (u := .slice a1 m.E.length c1) HO1.out
  clear k6 z6 HC HO1 HG HV HBS
  generalize w2.setCell ⟨P, 6, none⟩ _ = w3 at HC2 HO1b ⊢
  have HC : Hid _ := HC2.out
  have HO1 : Hid _ := HO1b.out
  clear HC2 HO1b
  have HBS : Hid (P + 2 ≤ w3.heap.size) := cell_lt HC.out.rx.c0
  have HV : Hid _ := HL.out.below (by have := HC.out.b; rw [HP.out] at this; exact this)
  have k7 := (HC.out.mx.keep (below_alloc w3 (Obj.cells #[] 56))).c7
  have z7 := HC.out.mx.z 7
  go_upto_region 6 with (at_builtin; refine wpList_append_sv (by rfl) (.tmp 14) (.tmp 16) 32 (by rfl) (P + 2) 56 .u64 8 Try.underlying32 info_u64N _ 0 [] (by rfl) (own_made0 _ _ _ HBS.out) _ _ (by rfl) (HV.out.below (below_alloc _ _)).q (by have := HLE.out; have := ib_len m.Q; unfold maxLen; omega) (by have := HLE.out; have := ib_len m.Q; omega) (by have := HBS.out; rw [size_allocC]; omega) ?_; intro v2 w4 hown hgrow; rw [Nat.zero_add, List.nil_append, ib_len] at hown; obtain ⟨a2, c2, rfl⟩ := own_formN hown; have HO2 : Hid _ := hown; have HG : Hid _ := below_app hgrow)
  clear hown hgrow k7 z7
  have k7 := (HC.out.mx.keep HG.out).c7
  have z7 := (HC.out.mx.keep HG.out).z 7
  go_upto_region 7 with fail
  have HC2 : Hid _ := HC.out.set HP.out HG.out 7 ((HC.out.mx.keep HG.out).s7 (.slice a2 m.Q.length c2))
  have HO1b : Hid _ := own_stepN (j := 7) (u := .slice a2 m.Q.length c2) HO1.out HG.out
  have HO2b : Hid _ := own_setN (j := 7) (u := .slice a2 m.Q.length c2) HO2.out
  clear k7 z7 HC HO1 HO2 HG HV HBS
  generalize w4.setCell ⟨P, 7, none⟩ _ = w5 at HC2 HO1b HO2b ⊢
  have HC : Hid _ := HC2.out
  have HO1 : Hid _ := HO1b.out
  have HO2 : Hid _ := HO2b.out
  clear HC2 HO1b HO2b
  have HBS : Hid (P + 2 ≤ w5.heap.size) := cell_lt HC.out.rx.c0
  have HV : Hid _ := HL.out.below (by have := HC.out.b; rw [HP.out] at this; exact this)
  have k8 := (HC.out.mx.keep (below_alloc w5 (Obj.cells #[] 60))).c8
  have z8 := HC.out.mx.z 8
  obtain ⟨i0, hi0, hz0, hz1, hz2⟩ := info_partsQ info_pairN
  go_upto_region 9 with (at_builtin; refine wpList_append_qs (by rfl) (.tmp 21) (.tmp 23) 33 (by rfl) (P + 2) 60 i0 Try.underlying33 hi0 hz0 hz1 hz2 _ 0 [] (by rfl) (own_made0 _ _ _ HBS.out) _ _ (by rfl) (HV.out.below (below_alloc _ _)).p (by have := HLE.out; simp only [maxLen]; omega) (by have := HLE.out; omega) (by have := HBS.out; rw [size_allocC]; omega) ?_; intro v3 w6 hown hgrow; rw [Nat.zero_add, List.nil_append] at hown; obtain ⟨a3, c3, rfl⟩ := own_formN hown; have HO3 : Hid _ := hown; have HG : Hid _ := below_app hgrow)
  clear hown hgrow k8 z8
  have k8 := (HC.out.mx.keep HG.out).c8
  have z8 := (HC.out.mx.keep HG.out).z 8
  go_upto_region 10 with fail
  have HC2 : Hid _ := HC.out.set HP.out HG.out 8 ((HC.out.mx.keep HG.out).s8 (.slice a3 m.P.length c3))
  have HO1b : Hid _ := own_stepN (j := 8) (u := .slice a3 m.P.length c3) HO1.out HG.out
  have HO2b : Hid _ := own_stepN (j := 8) (u := .slice a3 m.P.length c3) HO2.out HG.out
  have HO3b : Hid _ := own_setN (j := 8) (u := .slice a3 m.P.length c3) HO3.out
  clear k8 z8 HC HO1 HO2 HO3 HG HV HBS hi0 hz0 hz1 hz2
  generalize w6.setCell ⟨P, 8, none⟩ _ = w7 at HC2 HO1b HO2b HO3b ⊢
  have HR : Hid _ := HC2.out.rx.over m (.slice a1 m.E.length c1) (.slice a2 m.Q.length c2) (.slice a3 m.P.length c3)
  have HM : Hid (Mo (setM w7 (P + 1) m (.slice a1 m.E.length c1) (.slice a2 m.Q.length c2) (.slice a3 m.P.length c3)) (P + 2) (setM w7 (P + 1) m (.slice a1 m.E.length c1) (.slice a2 m.Q.length c2) (.slice a3 m.P.length c3)).heap.size m (.slice a1 m.E.length c1) (.slice a2 m.Q.length c2) (.slice a3 m.P.length c3)) :=
    ML.of_own HK.out (own_ch HO1b.out (ch_setM _ _ _ _ _ _) (fun x hx => by rw [hx]; omega)) (own_ch HO2b.out (ch_setM _ _ _ _ _ _) (fun x hx => by rw [hx]; omega)) (own_ch HO3b.out (ch_setM _ _ _ _ _ _) (fun x hx => by rw [hx]; omega))
  have HBB : Hid (Below P w (setM w7 (P + 1) m (.slice a1 m.E.length c1) (.slice a2 m.Q.length c2) (.slice a3 m.P.length c3))) := HC2.out.b.trans ((ch_setM _ _ _ _ _ _).to_below (by have := cell_lt HC2.out.mx.c0; show P ≤ _; exact Nat.le_of_lt this) (fun x hx => by rw [hx]; omega))
  have x0 := HC2.out.mx.c0
  have x1 := HC2.out.mx.c1
  have x2 := HC2.out.mx.c2
  have x3 := HC2.out.mx.c3
  have x4 := HC2.out.mx.c4
  have x5 := HC2.out.mx.c5
  have x6 := HC2.out.mx.c6
  have x7 := HC2.out.mx.c7
  have x8 := HC2.out.mx.c8
  have y0 := HC2.out.rx.c0
  have y1 := HC2.out.rx.c1
  have y2 := HC2.out.rx.c2
  have y3 := HC2.out.rx.c3
  have y4 := HC2.out.rx.c4
  have y5 := HC2.out.rx.c5
  have y6 := HC2.out.rx.c6
  have y7 := HC2.out.rx.c7
  have y8 := HC2.out.rx.c8
  have hz := HC2.out.rx.z
  clear HO1b HO2b HO3b HC2
  go_wp2_with fail
  show bodyPost _ _ _ _ _ (setM w7 (P + 1) m (.slice a1 m.E.length c1) (.slice a2 m.Q.length c2) (.slice a3 m.P.length c3))
  generalize setM w7 (P + 1) m (.slice a1 m.E.length c1) (.slice a2 m.Q.length c2) (.slice a3 m.P.length c3) = w9 at HR HM HBB ⊢
  clear x0 x1 x2 x3 x4 x5 x6 x7 x8 y0 y1 y2 y3 y4 y5 y6 y7 y8
  have y0 := HR.out.c0
  have y1 := HR.out.c1
  have y2 := HR.out.c2
  have y3 := HR.out.c3
  have y4 := HR.out.c4
  have y5 := HR.out.c5
  have y6 := HR.out.c6
  have y7 := HR.out.c7
  have y8 := HR.out.c8
  refine bodyPost_ret (v := .agg #[.int .i64 m.K, .int .i64 m.F, .int .i64 m.T, .int .i64 m.B, .int .i64 m.A, .int .i64 m.C, .slice a1 m.E.length c1, .slice a2 m.Q.length c2, .slice a3 m.P.length c3]) (by simp [results, Try.results30, go_sem, y0, y1, y2, y3, y4, y5, y6, y7, y8]) rfl ?_
  have hp := HP.out
  exact ⟨_, _, _, rfl, HM.out.wide (by omega) (Nat.le_refl _), by rw [← hp]; exact HBB.out⟩
/-- Block R holds the reference's net. -/
structure Rt (w : World) (B R r nx : Nat) (v : Value) (L : List En) : Prop where
  c0 : w.cell? ⟨R, 0, none⟩ = some (.int .i64 r)
  c1 : w.cell? ⟨R, 1, none⟩ = some v
  c2 : w.cell? ⟨R, 2, none⟩ = some (.int .i64 nx)
  z : ∀ j, w.frozen? ⟨R, j, none⟩ = false
  fr : Fr w B v L
  rv : v.ownBlock ≠ some R
  off : ∀ x ∈ L, R < x.lo
  snd : ∀ x ∈ L, sndM x.m = true
  num : RiseE L
  lt : ∀ x ∈ L, x.n < nx
  len : L.length ≤ r
  room : r ≤ 4096
  lo : B ≤ R ∧ R < w.heap.size
/-- Its blocks. -/
def Br (R : Nat) (v : Value) (L : List En) (x : Nat) : Prop := x = R ∨ v.ownBlock = some x ∨ ∃ y ∈ L, y.lo ≤ x ∧ x < y.hi
theorem Fr.ch {D : Nat → Prop} {w w' : World} {B : Nat} {v : Value} {F : List En} (h : Fr w B v F) (hc : Ch D w w') (hd : ∀ g, v.ownBlock = some g → ¬ D g) (he : ∀ x ∈ F, ∀ y, x.lo ≤ y → y < x.hi → ¬ D y) : Fr w' B v F := by
  refine ⟨⟨h.own.1, ?_⟩, fun x hx => (h.ent x hx).ch hc (he x hx), h.lo, h.rise, h.apart⟩
  rcases h.own.2 with h' | ⟨g, cap, cur, hv, hg, hh, r⟩
  · exact .inl h'
  · exact .inr ⟨g, cap, cur, hv, hg, by rw [hc.block g ((Array.getElem?_eq_some_iff.1 hh).1) (hd g (by rw [hv]; rfl))]; exact hh, r⟩
theorem Rt.ch {D : Nat → Prop} {w w' : World} {B R r nx : Nat} {v : Value} {L : List En} (h : Rt w B R r nx v L) (hc : Ch D w w') (hd : ∀ x, D x → ¬ Br R v L x) : Rt w' B R r nx v L := by
  have hR : ¬ D R := fun e => hd R e (.inl rfl)
  exact ⟨hc.cell h.c0 hR, hc.cell h.c1 hR, hc.cell h.c2 hR, fun j => by rw [hc.frozen h.lo.2 hR]; exact h.z j, h.fr.ch hc (fun g hg e => hd g e (.inr (.inl hg))) (fun x hx y h1 h2 e => hd y e (.inr (.inr ⟨x, hx, h1, h2⟩))), h.rv, h.off, h.snd, h.num, h.lt, h.len, h.room, ⟨h.lo.1, Nat.lt_of_lt_of_le h.lo.2 hc.size⟩⟩
theorem Rt.below {w w' : World} {B R r nx : Nat} {v : Value} {L : List En} (h : Rt w B R r nx v L) (hb : Below w.heap.size w w') : Rt w' B R r nx v L := h.ch (D := fun _ => False) (Ch.of_below hb) (fun _ e => e.elim)
theorem Rt.lt' {w : World} {B R r nx : Nat} {v : Value} {L : List En} (h : Rt w B R r nx v L) {x : Nat} (hx : Br R v L x) : x < w.heap.size := by
  rcases hx with rfl | hx | ⟨y, hy, _, h2⟩
  · exact h.lo.2
  · exact (h.fr.own.lt x hx).2
  · have := (h.fr.ent y hy).hi; omega
theorem Rt.ge {w : World} {B R r nx : Nat} {v : Value} {L : List En} (h : Rt w B R r nx v L) {x : Nat} (hx : Br R v L x) : B ≤ x := by
  rcases hx with rfl | hx | ⟨y, hy, h1, _⟩
  · exact h.lo.1
  · exact (h.fr.own.lt x hx).1
  · have := h.fr.lo y hy; omega
theorem rnew_bad {x : Int} (hx : x < 0 ∨ 4096 < x) (w : World) : Calls Try.prog 9 #[.int .i64 x] w fun e w' => e = .returned (.tuple #[.pointer none, .int .i64 1]) ∧ w' = w := by
  by_cases h1 : x < 0
  · go_enter Try.func9, Try.ntmps9
    go_wp2_with fail
    go_ret2
    exact ⟨rfl, rfl⟩
  · have h2 : (4096 : Int) < x := by omega
    go_enter Try.func9, Try.ntmps9
    go_wp2_with fail
    go_ret2
    exact ⟨rfl, rfl⟩
/-- What New leaves. -/
def RwGot (w : World) (r : Nat) (e : Ending) (w' : World) : Prop := e = .returned (.tuple #[.pointer (some ⟨w.heap.size, 0, none⟩), .int .i64 0]) ∧ Rt w' w.heap.size w.heap.size r 0 (.slice none 0 0) [] ∧ Below w.heap.size w w'
theorem rnew_walk {k : Nat} (hk : k ≤ 4096) (w : World) : Calls Try.prog 9 #[.int .i64 (k : Int)] w (RwGot w k) := by
  have h1 : ¬ (k : Int) < 0 := by omega
  have h2 : ¬ (4096 : Int) < (k : Int) := by omega
  have HK : Hid (k ≤ 4096) := hk
  go_enter Try.func9, Try.ntmps9
  go_wp2_with fail
  go_ret2
  refine ⟨rfl, ⟨?_, ?_, ?_, fun j => ?_, ⟨World.ownsRow_nil _ _ _ _, by simp, by simp, List.Pairwise.nil, by simp⟩, by simp [Value.ownBlock], by simp, by simp, List.Pairwise.nil, by simp, by simp, HK.out, ⟨Nat.le_refl _, by rw [size_allocC]; omega⟩⟩, below_alloc _ _⟩ <;> simp [go_sem]
theorem rnext_walk {w : World} {B R r nx : Nat} {v : Value} {L : List En} (h : Rt w B R r nx v L) : Calls Try.prog 15 #[.pointer (some ⟨R, 0, none⟩)] w fun e w' => e = .returned (.int .i64 nx) ∧ w' = w := by
  have p1 := h.c2
  clear h
  go_enter Try.func15, Try.ntmps15
  go_wp2_with fail
  go_ret
  exact ⟨rfl, rfl⟩
theorem rnext_nil (w : World) : Calls Try.prog 15 #[.pointer none] w fun e w' => e = .returned (.int .i64 0) ∧ w' = w := by
  go_enter Try.func15, Try.ntmps15
  go_wp2_with fail
  go_ret
  exact ⟨rfl, rfl⟩
end Go.Proofs.Ytokfbnpjndlccaa


