/- Contract of assign. -/
import Derived.Test.YtopjedgknbbgkaaGreatAe
import Derived.Test.YtopjedgknbbgkaaGreatM20
import Derived.Test.YtopjedgknbbgkaaGreatM23
namespace Go.Proofs.YtopjedgknbbgkaaGreat

open Go.RowKit



/-- What a call leaves: the messages r.1 in new memory, the worker that holds r.2. -/
def TkR (w : World) (P b : Nat) (ov : Value) (p : Pn) (nd : Int) (L : List At) (r : List Ms × List Hh) (v : Value) (w' : World) : Prop :=
  ∃ M lo L', Mr w' lo v M ∧ M.map (·.m) = r.1 ∧ Wm w' P b ov p nd L' ∧ L'.map (·.h) = r.2 ∧ w.heap.size ≤ lo ∧ lo ≤ w'.heap.size ∧ (∀ x, Bk P b ov L' x → (Bk P b ov L x ∨ w.heap.size ≤ x) ∧ x < lo) ∧ Ch (Bk P b ov L) w w'
theorem tk_none {w w' : World} {P b : Nat} {ov : Value} {p : Pn} {nd : Int} {L : List At} (hn : Wm w P b ov p nd L) (hb : Below w.heap.size w w') : TkR w P b ov p nd L ([], L.map (·.h)) (.slice none 0 0) w' :=
  ⟨[], w'.heap.size, L, mr_nil _ _, rfl, hn.below hb, rfl, hb.size, Nat.le_refl _, fun x hx => ⟨.inl hx, Nat.lt_of_lt_of_le (hn.lt x hx) hb.size⟩, Ch.of_below hb⟩
theorem Pn.is_kn {p : Pn} (h : p.is = true) : checkB p.l = true ∧ knownB p.A = true := by
  unfold Pn.is Pn.num at h
  simp only [Bool.and_eq_true] at h
  exact ⟨h.2, h.1.1.2⟩
theorem Pn.n_is {p : Pn} (h : p.is = true) : p.n = p.S.toNat := by unfold Pn.n; rw [h]; rfl
theorem Pn.n_le {p : Pn} (h : p.is = true) : 1 ≤ p.n ∧ p.n ≤ 4 := by
  have := Pn.is_num h
  rw [Pn.n_is h]
  omega
theorem form_fits {S : Sc} {a : List Int} {m : Int} (h1 : 1 ≤ m) (h2 : m ≤ 16) (h : formI S a m = 0) : Fit S a := by
  unfold formI at h
  rw [if_neg (by omega)] at h
  split at h
  · rename_i q; exact Fit.of q
  · cases h
theorem made_bl (w : World) (n : Nat) (hn : n ≤ 4) : (w.alloc (Obj.cells (madeCells #[Value.bool false] n) 4)).ownsRow w.heap.size 4 1 (.slice (some ⟨w.heap.size, 0, none⟩) n n) n ((List.replicate n false).map Value.bool) := by
  have e : (madeCells #[(Value.bool false)] n) = ((List.replicate n false).map Value.bool).toArray := by
    apply Array.ext_getElem?
    intro i
    by_cases hi : i < n
    · simp [madeCells, hi, Nat.mod_one]
    · rw [Array.getElem?_eq_none (by rw [size_madeCells]; omega), Array.getElem?_eq_none (by simp; omega)]
  rw [e]
  have := World.ownsRow_lit (base := w.heap.size) (e := 4) (size := 1) w ((List.replicate n false).map Value.bool).toArray n (Nat.le_refl _) (by simp [maxLen]; omega) (by simp)
  simpa using this
theorem make_bl {p : Pn} (hp : p.is = true) : ∀ wx : World, (Instr.makeSlice 130 (.int .i64 p.S) (.int .i64 p.S)).run Tryz.prog wx = .ok (.slice (some ⟨wx.heap.size, 0, none⟩) p.S.toNat p.S.toNat) (wx.alloc (.cells (madeCells #[.bool false] p.S.toNat) 4)) := fun wx => by
  obtain ⟨_, ⟨s1, s2⟩, _⟩ := Pn.is_num hp
  obtain ⟨i0, hi0, hz0, hz1, hz2⟩ := info_partsQ info_blN
  have := run_make (P := Tryz.prog) wx 130 4 i0 (.bool false) Tryz.underlying130 hi0 hz0 .i64 .i64 p.S p.S (by omega) (Int.le_refl _) (by rw [hz2]; omega) (by omega)
  rw [hz1, Nat.mul_one] at this
  exact this
/-- The table of the records between the ends. -/
theorem tab_rec {S : Sc} (hok : S.ok) {a : List Int} {m : Int} (hl : a.length ≤ 4) : (formR S a m).length ≤ 1024 ∧ ∀ r ∈ formR S a m, r.ok := by
  unfold formR
  split
  · exact ⟨Nat.le_trans (betS_le hok _ _ _) (by omega), betS_ok hok _ _ _⟩
  · simp
theorem say_ok {nd k t : Int} {m : Ms} {E : List Int} {Q : List Nat} {T : List Pr} (hk : in64 k) (hd : in64 nd) (ht : in64 t) (hB : in64 m.B) (hA : in64 m.A) (hE : In64 E) (hQ : keysOk Q) (hT : okT T) : (sayM nd k t m E Q T).ok :=
  ⟨hk, hd, ht, hB, hA, ⟨by show _ ≤ (0 : Int); omega, by show (0 : Int) < _; omega⟩, hE, hQ, hT⟩
theorem i64_s {x : Int} (h0 : -1000 ≤ x) (h1 : x ≤ 1000) : in64 x := ⟨by omega, by omega⟩
theorem Wm.nd64 {w : World} {P b : Nat} {ov : Value} {p : Pn} {nd : Int} {L : List At} (h : Wm w P b ov p nd L) : in64 nd := by have := h.nd; exact i64_s (by omega) (by omega)
/-- A message with ends alone, in a row of its own. -/
theorem mr_ends {w9 w10 : World} {nd k : Int} {m : Ms} {E : List Int} {v : Value} (hd : in64 nd) (hk : in64 k) (hB : in64 m.B) (hA : in64 m.A) (hE : In64 E) (hB10 : Below w9.heap.size w9 w10) (hrow : w10.ownsRow w9.heap.size 3 1 v E.length (cellsN E)) :
    Mr (w10.alloc (Obj.cells #[.int .i64 k, .int .i64 nd, .int .i64 0, .int .i64 m.B, .int .i64 m.A, .int .i64 0, v, .slice none 0 0, .slice none 0 0] 44)) w9.heap.size (.slice (some ⟨w10.heap.size, 0, none⟩) 1 1) [⟨sayM nd k 0 m E [] [], v, .slice none 0 0, .slice none 0 0⟩] :=
  mr_one (x := ⟨sayM nd k 0 m E [] [], v, .slice none 0 0, .slice none 0 0⟩) ⟨hrow, World.ownsRow_nil _ _ _ _, World.ownsRow_nil _ _ _ _, say_ok hk hd (i64_s (by omega) (by omega)) hB hA hE (by intro x hx; simp at hx) (by intro x hx; simp at hx)⟩ hB10.size
theorem asg_end {w w8 w9 w10 : World} {P b : Nat} {ov : Value} {p : Pn} {nd : Int} {L : List At} {m : Ms} {y : At} {v : Value} {E : List Int} {H0 : Hh} {k : Int} (hyE : y.h.E = E) (hyH : y.h = H0) (hyk : y.h.n = k) (hn : Wm w P b ov p nd L) (hB8 : Below w.heap.size w w8) (hao : Ao w8 p y) (hg : w8.grownBy w9 (some b)) (h9 : Wm w9 P b ov p nd (insL kA y (outL kA L y.h.n)))
    (hlo : w.heap.size ≤ y.lo) (hB10 : Below w9.heap.size w9 w10) (hrow : w10.ownsRow w9.heap.size 3 1 v y.h.E.length (cellsN y.h.E)) (hB : in64 m.B) (hA : in64 m.A) :
    TkR w P b ov p nd L ([sayM nd 2 0 m E [] []], insL kH H0 (outL kH (L.map (·.h)) k)) (.slice (some ⟨w10.heap.size, 0, none⟩) 1 1) (w10.alloc (Obj.cells #[.int .i64 2, .int .i64 nd, .int .i64 0, .int .i64 m.B, .int .i64 m.A, .int .i64 0, v, .slice none 0 0, .slice none 0 0] 44)) := by
  subst hyE hyH hyk
  have hc : Ch (fun x => x = b) w8 w9 := Ch.of_grown hg (fun x hx => by cases hx; rfl)
  have hb11 := below_trans hB10 (below_alloc w10 (Obj.cells #[.int .i64 2, .int .i64 nd, .int .i64 0, .int .i64 m.B, .int .i64 m.A, .int .i64 0, v, .slice none 0 0, .slice none 0 0] 44))
  have s8 := hB8.size
  have s9 := hc.size
  have s10 := hb11.size
  refine ⟨[⟨sayM nd 2 0 m y.h.E [] [], v, .slice none 0 0, .slice none 0 0⟩], w9.heap.size, insL kA y (outL kA L y.h.n), mr_ends hn.nd64 (i64_s (by omega) (by omega)) hB hA hao.eok hB10 hrow, rfl, h9.below hb11, ?_, by omega, s10, fun x hx => ?_, ?_⟩
  · rw [outL_map (f := kH) (h := At.h), insL_map (f := kH) (h := At.h)]
    rfl
  · rcases bw_put hx with h | ⟨h1, h2⟩
    · exact ⟨.inl h, by have := hn.lt x h; omega⟩
    · exact ⟨.inr (by omega), by have := hao.hi; omega⟩
  · exact ((Ch.of_below hB8).trans hc (fun x hx => .inl (.inr (.inl hx)))).trans (Ch.of_below (D := fun _ => False) hb11) (fun x hx => hx.elim)
/-- The attempt that assign makes. -/
theorem asg_ao {w w4 w5 w7 : World} {p : Pn} {m : Ms} {T : List Pr} {E : List Int} {ev dv av : Value} {vs : Nat → Value} (h4 : w.heap.size ≤ w4.heap.size) (h5 : w.heap.size ≤ w5.heap.size) (hs : w5.heap.size ≤ w7.heap.size) (hT : w7.ownsRow w4.heap.size 3 1 ev E.length (cellsN E)) (hE : In64 E) (hl : E.length ≤ 4) (hD : Dl w5.heap.size w7 dv p.n vs (dealF p T)) (ho : okT T) (htl : T.length ≤ 1024)
    (hA : w7.ownsRow w5.heap.size 4 1 av p.n ((List.replicate p.n false).map Value.bool)) (ha : in64 m.A) (hn : in64 m.B) :
    Ao (w7.alloc (Obj.cells #[.int .i64 m.A, ev, dv, av, .bool false] 132)) p ⟨⟨m.B, m.A, E, T, List.replicate p.n false, false⟩, w7.heap.size, ev, dv, av, w.heap.size, w7.heap.size + 1⟩ := by
  have hb := below_alloc w7 (Obj.cells #[.int .i64 m.A, ev, dv, av, .bool false] 132)
  refine ⟨heap_alloc_new w7 _, own_baseC (own_belowC hT hb) h4, hE, ⟨vs, ⟨own_baseC (own_belowC hD.row hb) h5, fun i hi => own_baseC (own_belowC (hD.own i hi) hb) h5⟩, fun i y hi hy => ?_⟩, ho, htl, hl, ?_, by simp, ⟨by show w.heap.size ≤ w7.heap.size; omega, by show w7.heap.size < w7.heap.size + 1; omega⟩, fun y hy => ?_, fun y hy => ?_, fun y hy => ?_, by rw [size_allocC]; exact Nat.le_refl _, ha, hn⟩
  · have := ((hD.own i hi).lt y hy).2; show y < w7.heap.size + 1; omega
  · have e : (List.replicate p.n false).length = p.n := by simp
    show World.ownsRow _ _ _ _ _ (List.replicate p.n false).length _
    rw [e]
    exact own_baseC (own_belowC hA hb) h5
  · have := (hT.lt y hy).2; show y < w7.heap.size + 1; omega
  · have := (hD.row.lt y hy).2; show y < w7.heap.size + 1; omega
  · have := (hA.lt y hy).2; show y < w7.heap.size + 1; omega
set_option maxRecDepth 100000 in
set_option maxHeartbeats 4000000 in
theorem assign_walk {w : World} {P b : Nat} {ov : Value} {p : Pn} {nd : Int} {L : List At} {D : Nat → Prop} {sb : Nat} {S : Sc} {m : Ms} {ea qa pa : Option Addr} {en ec qn qc pn pc : Nat} (hn : Wm w P b ov p nd L) (hs : Src D w (.pointer (some ⟨sb, 0, none⟩)) S) (hv : Nv w (.slice ea en ec) m.E) (hk : in64 m.B) (hka : in64 m.A) (hL : L.length ≤ 4096) :
    Calls Tryz.prog 72 #[.pointer (some ⟨P, 0, none⟩), .pointer (some ⟨sb, 0, none⟩), .agg #[.int .i64 m.K, .int .i64 m.F, .int .i64 m.T, .int .i64 m.B, .int .i64 m.A, .int .i64 m.C, .slice ea en ec, .slice qa qn qc, .slice pa pn pc]] w fun e w' => ∃ v, e = .returned v ∧ TkR w P b ov p nd L (asgH p nd S m (L.map (·.h))) v w' := by
  have HN : Hid (Wm w P b ov p nd L) := hn
  have HS : Hid (Src D w (.pointer (some ⟨sb, 0, none⟩)) S) := hs
  have HV : Hid (Nv w (.slice ea en ec) m.E) := hv
  have HIS : Hid (p.is = true) := hn.is
  have HKA : Hid (in64 m.A) := hka
  have HK : Hid (in64 m.B) := hk
  have HL : Hid (L.length ≤ 4096) := hL
  have HX0 : Hid _ := mx_new w m (.slice ea en ec) (.slice qa qn qc) (.slice pa pn pc)
  have HB0 : Hid _ := below_alloc w (Obj.cells #[.int .i64 m.K, .int .i64 m.F, .int .i64 m.T, .int .i64 m.B, .int .i64 m.A, .int .i64 m.C, .slice ea en ec, .slice qa qn qc, .slice pa pn pc] 44)
  obtain ⟨oa, oc, hov⟩ := own_formN hn.ops
  subst hov
  obtain ⟨_, ⟨s1, s2⟩, ⟨w1, w2⟩, _, ⟨b1, b2⟩, _⟩ := Pn.is_num hn.is
  clear hn hs hv hka hL
  go_enter Tryz.func72, Tryz.ntmps72
  go_upto_region 1 with fail
  obtain ⟨Q, hQ⟩ : ∃ Q, Q = w.heap.size := ⟨_, rfl⟩
  have HQ : Hid (Q = w.heap.size) := hQ
  rw [← hQ] at HX0 ⊢
  clear hQ
  generalize w.alloc (Obj.cells #[.int .i64 m.K, .int .i64 m.F, .int .i64 m.T, .int .i64 m.B, .int .i64 m.A, .int .i64 m.C, .slice ea en ec, .slice qa qn qc, .slice pa pn pc] 44) = wx at HX0 HB0 ⊢
  have HN1 : Hid _ := HN.out.below HB0.out
  have p9 := HN1.out.cells.2.2.2.2.2.2.2.2.2
  have x3 := HX0.out.c3
  have hlk : ∀ n, (Instr.lookup 94 (.map (some b)) (.int .i64 m.B) false).run Tryz.prog (wx.drewN n) = .ok (lkA L m.B) (wx.drewN n) := fun n => look_A (own_mapB HN1.out.own (below_drewN wx n)) hk
  have HM : Hid (atK kH (L.map (·.h)) m.B = (atK kA L m.B).map (·.h)) := atK_map L m.B
  cases hat : atK kA L m.B with
  | none =>
    have e1 : lkA L m.B = .pointer none := by unfold lkA; rw [hat]
    rw [e1] at hlk
    have HMN : Hid (heldB (L.map (·.h)) m = false) := by show _ = _; unfold heldB; rw [HM.out, hat]; rfl
    clear e1 hat HM hk
    go_quiet (fail)
    go_upto_region 2 with fail
    generalize hw : wx.drewN nq = wy
    have HBy : Hid (Below w.heap.size w wy) := by rw [← hw]; exact below_trans HB0.out (below_drewN _ _)
    have HXy : Hid (MX wy Q m (.slice ea en ec) (.slice qa qn qc) (.slice pa pn pc)) := by have h := HX0.out.keep (below_drewN wx nq); rw [hw] at h; exact h
    clear hw p9 x3 hlk HX0 HB0 HN1
    have x4 := HXy.out.c4
    go_quiet (fail)
    go_upto_region 4 with fail
    generalize hw : wy.drewN nq = w3
    have HB3 : Hid (Below w.heap.size w w3) := by rw [← hw]; exact below_trans HBy.out (below_drewN _ _)
    have HX3 : Hid (MX w3 Q m (.slice ea en ec) (.slice qa qn qc) (.slice pa pn pc)) := by have h := HXy.out.keep (below_drewN wy nq); rw [hw] at h; exact h
    clear hw x4 HXy HBy
    have HN3 : Hid _ := HN.out.below HB3.out
    have HS3 : Hid (Src D w3 (.pointer (some ⟨sb, 0, none⟩)) S) := HS.out.below HB3.out
    have HV3 : Hid (Nv w3 (.slice ea en ec) m.E) := HV.out.below HB3.out
    have c5 := fun wx (h : Below w3.heap.size w3 wx) => (HN3.out.below h).cells.2.2.2.2.2.1
    have x6 := fun wx (h : Below w3.heap.size w3 wx) => (HX3.out.keep h).c6
    by_cases hf : formI S m.E p.B = 0
    rotate_left
    · obtain ⟨c, hc⟩ : ∃ c, c = formI S m.E p.B := ⟨_, rfl⟩
      have HF : Hid (formI S m.E p.B = c) := hc.symm
      have hc0 : (c != 0) = true := by rw [bne_iff_ne, hc]; exact hf
      have HR0 : Hid (asgH p nd S m (L.map (·.h)) = ([], L.map (·.h))) := by show _ = _; unfold asgH; rw [if_neg (by rw [HMN.out]; simp), if_neg hf]
      clear hc hf
      refine wp_region_noPanic ?_
      refine wp_region_held_drew (S := fun wx => Below w3.heap.size w3 wx) (by kernel_rfl) ?_ (fun hHeld => ?_)
      · exact below_drewN w3 1
      refine wpAnyH_take (i := 0) (oi := ⟨some 34, _, _, _, _, _⟩) (v := ?_) rfl (by kernel_rfl) (by kernel_rfl) (by kernel_rfl) (fun _ _ _ h => h) (Or.inl ⟨by rfl, ?_⟩) hHeld ?_
      rotate_left
      · intro w hSw; (try dsimp only at hSw); go_simp; all_goals (with_reducible rfl)
      try simp only [Act.put, List.setIfInBounds_toArray, List.set_cons_zero, List.set_cons_succ]
      refine wpAnyH_take (i := 1) (oi := ⟨some 35, _, _, _, _, _⟩) (v := ?_) rfl (by kernel_rfl) (by kernel_rfl) (by kernel_rfl) (fun _ _ _ h => h) (Or.inl ⟨by rfl, ?_⟩) hHeld ?_
      rotate_left
      · intro w hSw; (try dsimp only at hSw); go_simp; all_goals (with_reducible rfl)
      try simp only [Act.put, List.setIfInBounds_toArray, List.set_cons_zero, List.set_cons_succ]
      refine wpAnyH_take (i := 2) (oi := ⟨some 36, _, _, _, _, _⟩) (v := ?_) rfl (by kernel_rfl) (by kernel_rfl) (by kernel_rfl) (fun _ _ _ h => h) (Or.inl ⟨by rfl, ?_⟩) hHeld ?_
      rotate_left
      · intro w hSw; (try dsimp only at hSw); go_simp; all_goals (with_reducible rfl)
      try simp only [Act.put, List.setIfInBounds_toArray, List.set_cons_zero, List.set_cons_succ]
      refine wpAnyH_take (i := 3) (oi := ⟨some 37, _, _, _, _, _⟩) (v := ?_) rfl (by kernel_rfl) (by kernel_rfl) (by kernel_rfl) (fun _ _ _ h => h) (Or.inl ⟨by rfl, ?_⟩) hHeld ?_
      rotate_left
      · intro w hSw; (try dsimp only at hSw); go_simp; all_goals (with_reducible rfl)
      try simp only [Act.put, List.setIfInBounds_toArray, List.set_cons_zero, List.set_cons_succ]
      refine wpAnyH_take (i := 4) (oi := ⟨some 38, _, _, _, _, _⟩) (v := ?_) rfl (by kernel_rfl) (by kernel_rfl) (by kernel_rfl) (fun _ _ _ h => h) (Or.inl ⟨by rfl, ?_⟩) hHeld ?_
      rotate_left
      · intro w hSw; (try dsimp only at hSw); go_simp; all_goals (with_reducible rfl)
      try simp only [Act.put, List.setIfInBounds_toArray, List.set_cons_zero, List.set_cons_succ]
      refine wpAnyH_take (i := 5) (oi := ⟨some 39, _, _, _, _, _⟩) (v := ?_) rfl (by kernel_rfl) (by kernel_rfl) (by kernel_rfl) (fun _ _ _ h => h) (Or.inl ⟨by rfl, ?_⟩) hHeld ?_
      rotate_left
      · intro w hSw; (try dsimp only at hSw); go_simp; all_goals (with_reducible rfl)
      try simp only [Act.put, List.setIfInBounds_toArray, List.set_cons_zero, List.set_cons_succ]
      refine wpAnyH_take (i := 6) (oi := ⟨some 40, _, _, _, _, _⟩) (v := ?_) rfl (by kernel_rfl) (by kernel_rfl) (by kernel_rfl) (fun _ _ _ h => h) (Or.inl ⟨by rfl, ?_⟩) hHeld ?_
      rotate_left
      · intro w hSw; (try dsimp only at hSw); go_simp; all_goals (with_reducible rfl)
      try simp only [Act.put, List.setIfInBounds_toArray, List.set_cons_zero, List.set_cons_succ]
      refine wpAnyH_take (i := 7) (oi := ⟨some 41, _, _, _, _, _⟩) (v := ?_) rfl (by kernel_rfl) (by kernel_rfl) (by kernel_rfl) (fun _ _ _ h => h) (Or.inl ⟨by rfl, ?_⟩) hHeld ?_
      rotate_left
      · intro w hSw; (try dsimp only at hSw); go_simp; all_goals (with_reducible rfl)
      try simp only [Act.put, List.setIfInBounds_toArray, List.set_cons_zero, List.set_cons_succ]
      refine wpAnyH_ready (rs := [8]) (by kernel_rfl) (by simp) ?_
      refine AllReadyH.cons (o := ⟨some 42, _, _, _, _, _⟩) rfl (fun K hK => ?_) AllReadyH.nil
      go_simp
      refine (form_walk (m := p.B) (HS3.out.below (below_drewN w3 1)) (HV3.out.below (below_drewN w3 1))).mono ?_
      rintro e w4 ⟨tv, rv, he, hT, hR, hTR, hB⟩
      rw [HF.out] at he
      obtain ⟨ta, tc, rfl⟩ := own_formN hT
      obtain ⟨ra, rc, rfl⟩ := own_formN hR
      subst he
      have HB34 : Hid (Below w3.heap.size w3 w4) := below_trans (below_drewN w3 1) hB
      have HT : Hid (w4.ownsRow w3.heap.size 3 1 (.slice ta (formL S m.E p.B).length tc) (formL S m.E p.B).length (cellsN (formL S m.E p.B))) := hT
      have HR : Hid (w4.ownsRow w3.heap.size 53 2 (.slice ra (formR S m.E p.B).length rc) (formR S m.E p.B).length (flatR (formR S m.E p.B))) := hR
      clear hB hT hR hTR
      refine hK.out _ _ ?_ (fun hHeld => ?_)
      · exact HB34.out
      clear hK K
      try simp only [Act.put, List.setIfInBounds_toArray, List.set_cons_zero, List.set_cons_succ]
      refine wpAnyH_take (i := 9) (oi := ⟨some 33, _, _, _, _, _⟩) (v := ?_) rfl (by kernel_rfl) (by kernel_rfl) (by kernel_rfl) (fun _ _ _ h => h) (Or.inl ⟨by rfl, ?_⟩) hHeld ?_
      rotate_left
      · intro w hSw; (try dsimp only at hSw); go_simp; all_goals (with_reducible rfl)
      try simp only [Act.put, List.setIfInBounds_toArray, List.set_cons_zero, List.set_cons_succ]
      refine wpAnyH_take (i := 10) (oi := ⟨some 43, _, _, _, _, _⟩) (v := ?_) rfl (by kernel_rfl) (by kernel_rfl) (by kernel_rfl) (fun _ _ _ h => h) (Or.inl ⟨by rfl, ?_⟩) hHeld ?_
      rotate_left
      · intro w hSw; (try dsimp only at hSw); go_simp; all_goals (with_reducible rfl)
      try simp only [Act.put, List.setIfInBounds_toArray, List.set_cons_zero, List.set_cons_succ]
      refine wpAnyH_take (i := 11) (oi := ⟨some 44, _, _, _, _, _⟩) (v := ?_) rfl (by kernel_rfl) (by kernel_rfl) (by kernel_rfl) (fun _ _ _ h => h) (Or.inl ⟨by rfl, ?_⟩) hHeld ?_
      rotate_left
      · intro w hSw; (try dsimp only at hSw); go_simp; all_goals (with_reducible rfl)
      try simp only [Act.put, List.setIfInBounds_toArray, List.set_cons_zero, List.set_cons_succ]
      refine wpAnyH_take (i := 12) (oi := ⟨some 45, _, _, _, _, _⟩) (v := ?_) rfl (by kernel_rfl) (by kernel_rfl) (by kernel_rfl) (fun _ _ _ h => h) (Or.inl ⟨by rfl, ?_⟩) hHeld ?_
      rotate_left
      · intro w hSw; (try dsimp only at hSw); go_simp; all_goals (with_reducible rfl)
      try simp only [Act.put, List.setIfInBounds_toArray, List.set_cons_zero, List.set_cons_succ]
      refine wpAnyH_take (i := 13) (oi := ⟨some 8, _, _, _, _, _⟩) (v := ?_) rfl (by kernel_rfl) (by kernel_rfl) (by kernel_rfl) (fun _ _ _ h => h) (Or.inl ⟨by rfl, ?_⟩) hHeld ?_
      rotate_left
      · intro w hSw; (try dsimp only at hSw); go_simp; all_goals (with_reducible rfl)
      try simp only [Act.put, List.setIfInBounds_toArray, List.set_cons_zero, List.set_cons_succ]
      refine wpAnyH_take (i := 14) (oi := ⟨some 9, _, _, _, _, _⟩) (v := ?_) rfl (by kernel_rfl) (by kernel_rfl) (by kernel_rfl) (fun _ _ _ h => h) (Or.inl ⟨by rfl, ?_⟩) hHeld ?_
      rotate_left
      · intro w hSw; (try dsimp only at hSw); go_simp; all_goals (with_reducible rfl)
      try simp only [Act.put, List.setIfInBounds_toArray, List.set_cons_zero, List.set_cons_succ]
      refine wpAnyH_take (i := 15) (oi := ⟨some 10, _, _, _, _, _⟩) (v := ?_) rfl (by kernel_rfl) (by kernel_rfl) (by kernel_rfl) (fun _ _ _ h => h) (Or.inl ⟨by rfl, ?_⟩) hHeld ?_
      rotate_left
      · intro w hSw; (try dsimp only at hSw); go_simp; all_goals (with_reducible rfl)
      try simp only [Act.put, List.setIfInBounds_toArray, List.set_cons_zero, List.set_cons_succ]
      refine wpAnyH_done (by kernel_rfl) ?_ _
      refine NoPanic.normal ?_
      go_wp2_with fail
      go_ret
      refine ⟨_, rfl, ?_⟩
      rw [HR0.out]
      exact tk_none HN.out (below_trans HB3.out HB34.out)
    have HF : Hid (formI S m.E p.B = 0) := hf
    have HR0 : Hid (asgH p nd S m (L.map (·.h)) = ([sayM nd 2 0 m (formL S m.E p.B) [] []], insL kH ⟨m.B, m.A, formL S m.E p.B, batchT p.l p.A (formR S m.E p.B), List.replicate p.n false, false⟩ (outL kH (L.map (·.h)) m.B))) := by show _ = _; unfold asgH; rw [if_neg (by rw [HMN.out]; simp), if_pos hf]
    clear hf
    refine wp_region_noPanic ?_
    refine wp_region_held_drew (S := fun wx => Below w3.heap.size w3 wx) (by kernel_rfl) ?_ (fun hHeld => ?_)
    · exact below_drewN w3 1
    refine wpAnyH_take (i := 0) (oi := ⟨some 34, _, _, _, _, _⟩) (v := ?_) rfl (by kernel_rfl) (by kernel_rfl) (by kernel_rfl) (fun _ _ _ h => h) (Or.inl ⟨by rfl, ?_⟩) hHeld ?_
    rotate_left
    · intro w hSw; (try dsimp only at hSw); go_simp; all_goals (with_reducible rfl)
    try simp only [Act.put, List.setIfInBounds_toArray, List.set_cons_zero, List.set_cons_succ]
    refine wpAnyH_take (i := 1) (oi := ⟨some 35, _, _, _, _, _⟩) (v := ?_) rfl (by kernel_rfl) (by kernel_rfl) (by kernel_rfl) (fun _ _ _ h => h) (Or.inl ⟨by rfl, ?_⟩) hHeld ?_
    rotate_left
    · intro w hSw; (try dsimp only at hSw); go_simp; all_goals (with_reducible rfl)
    try simp only [Act.put, List.setIfInBounds_toArray, List.set_cons_zero, List.set_cons_succ]
    refine wpAnyH_take (i := 2) (oi := ⟨some 36, _, _, _, _, _⟩) (v := ?_) rfl (by kernel_rfl) (by kernel_rfl) (by kernel_rfl) (fun _ _ _ h => h) (Or.inl ⟨by rfl, ?_⟩) hHeld ?_
    rotate_left
    · intro w hSw; (try dsimp only at hSw); go_simp; all_goals (with_reducible rfl)
    try simp only [Act.put, List.setIfInBounds_toArray, List.set_cons_zero, List.set_cons_succ]
    refine wpAnyH_take (i := 3) (oi := ⟨some 37, _, _, _, _, _⟩) (v := ?_) rfl (by kernel_rfl) (by kernel_rfl) (by kernel_rfl) (fun _ _ _ h => h) (Or.inl ⟨by rfl, ?_⟩) hHeld ?_
    rotate_left
    · intro w hSw; (try dsimp only at hSw); go_simp; all_goals (with_reducible rfl)
    try simp only [Act.put, List.setIfInBounds_toArray, List.set_cons_zero, List.set_cons_succ]
    refine wpAnyH_take (i := 4) (oi := ⟨some 38, _, _, _, _, _⟩) (v := ?_) rfl (by kernel_rfl) (by kernel_rfl) (by kernel_rfl) (fun _ _ _ h => h) (Or.inl ⟨by rfl, ?_⟩) hHeld ?_
    rotate_left
    · intro w hSw; (try dsimp only at hSw); go_simp; all_goals (with_reducible rfl)
    try simp only [Act.put, List.setIfInBounds_toArray, List.set_cons_zero, List.set_cons_succ]
    refine wpAnyH_take (i := 5) (oi := ⟨some 39, _, _, _, _, _⟩) (v := ?_) rfl (by kernel_rfl) (by kernel_rfl) (by kernel_rfl) (fun _ _ _ h => h) (Or.inl ⟨by rfl, ?_⟩) hHeld ?_
    rotate_left
    · intro w hSw; (try dsimp only at hSw); go_simp; all_goals (with_reducible rfl)
    try simp only [Act.put, List.setIfInBounds_toArray, List.set_cons_zero, List.set_cons_succ]
    refine wpAnyH_take (i := 6) (oi := ⟨some 40, _, _, _, _, _⟩) (v := ?_) rfl (by kernel_rfl) (by kernel_rfl) (by kernel_rfl) (fun _ _ _ h => h) (Or.inl ⟨by rfl, ?_⟩) hHeld ?_
    rotate_left
    · intro w hSw; (try dsimp only at hSw); go_simp; all_goals (with_reducible rfl)
    try simp only [Act.put, List.setIfInBounds_toArray, List.set_cons_zero, List.set_cons_succ]
    refine wpAnyH_take (i := 7) (oi := ⟨some 41, _, _, _, _, _⟩) (v := ?_) rfl (by kernel_rfl) (by kernel_rfl) (by kernel_rfl) (fun _ _ _ h => h) (Or.inl ⟨by rfl, ?_⟩) hHeld ?_
    rotate_left
    · intro w hSw; (try dsimp only at hSw); go_simp; all_goals (with_reducible rfl)
    try simp only [Act.put, List.setIfInBounds_toArray, List.set_cons_zero, List.set_cons_succ]
    refine wpAnyH_ready (rs := [8]) (by kernel_rfl) (by simp) ?_
    refine AllReadyH.cons (o := ⟨some 42, _, _, _, _, _⟩) rfl (fun K hK => ?_) AllReadyH.nil
    go_simp
    refine (form_walk (m := p.B) (HS3.out.below (below_drewN w3 1)) (HV3.out.below (below_drewN w3 1))).mono ?_
    rintro e w4 ⟨tv, rv, he, hT, hR, hTR, hB⟩
    rw [HF.out] at he
    obtain ⟨ta, tc, rfl⟩ := own_formN hT
    obtain ⟨ra, rc, rfl⟩ := own_formN hR
    subst he
    have HB34 : Hid (Below w3.heap.size w3 w4) := below_trans (below_drewN w3 1) hB
    have HT : Hid (w4.ownsRow w3.heap.size 3 1 (.slice ta (formL S m.E p.B).length tc) (formL S m.E p.B).length (cellsN (formL S m.E p.B))) := hT
    have HR : Hid (w4.ownsRow w3.heap.size 53 2 (.slice ra (formR S m.E p.B).length rc) (formR S m.E p.B).length (flatR (formR S m.E p.B))) := hR
    clear hB hT hR hTR
    refine hK.out _ _ ?_ (fun hHeld => ?_)
    · exact HB34.out
    clear hK K
    try simp only [Act.put, List.setIfInBounds_toArray, List.set_cons_zero, List.set_cons_succ]
    refine wpAnyH_take (i := 9) (oi := ⟨some 33, _, _, _, _, _⟩) (v := ?_) rfl (by kernel_rfl) (by kernel_rfl) (by kernel_rfl) (fun _ _ _ h => h) (Or.inl ⟨by rfl, ?_⟩) hHeld ?_
    rotate_left
    · intro w hSw; (try dsimp only at hSw); go_simp; all_goals (with_reducible rfl)
    try simp only [Act.put, List.setIfInBounds_toArray, List.set_cons_zero, List.set_cons_succ]
    refine wpAnyH_take (i := 10) (oi := ⟨some 43, _, _, _, _, _⟩) (v := ?_) rfl (by kernel_rfl) (by kernel_rfl) (by kernel_rfl) (fun _ _ _ h => h) (Or.inl ⟨by rfl, ?_⟩) hHeld ?_
    rotate_left
    · intro w hSw; (try dsimp only at hSw); go_simp; all_goals (with_reducible rfl)
    try simp only [Act.put, List.setIfInBounds_toArray, List.set_cons_zero, List.set_cons_succ]
    refine wpAnyH_take (i := 11) (oi := ⟨some 44, _, _, _, _, _⟩) (v := ?_) rfl (by kernel_rfl) (by kernel_rfl) (by kernel_rfl) (fun _ _ _ h => h) (Or.inl ⟨by rfl, ?_⟩) hHeld ?_
    rotate_left
    · intro w hSw; (try dsimp only at hSw); go_simp; all_goals (with_reducible rfl)
    try simp only [Act.put, List.setIfInBounds_toArray, List.set_cons_zero, List.set_cons_succ]
    refine wpAnyH_take (i := 12) (oi := ⟨some 45, _, _, _, _, _⟩) (v := ?_) rfl (by kernel_rfl) (by kernel_rfl) (by kernel_rfl) (fun _ _ _ h => h) (Or.inl ⟨by rfl, ?_⟩) hHeld ?_
    rotate_left
    · intro w hSw; (try dsimp only at hSw); go_simp; all_goals (with_reducible rfl)
    try simp only [Act.put, List.setIfInBounds_toArray, List.set_cons_zero, List.set_cons_succ]
    refine wpAnyH_take (i := 13) (oi := ⟨some 8, _, _, _, _, _⟩) (v := ?_) rfl (by kernel_rfl) (by kernel_rfl) (by kernel_rfl) (fun _ _ _ h => h) (Or.inl ⟨by rfl, ?_⟩) hHeld ?_
    rotate_left
    · intro w hSw; (try dsimp only at hSw); go_simp; all_goals (with_reducible rfl)
    try simp only [Act.put, List.setIfInBounds_toArray, List.set_cons_zero, List.set_cons_succ]
    refine wpAnyH_take (i := 14) (oi := ⟨some 9, _, _, _, _, _⟩) (v := ?_) rfl (by kernel_rfl) (by kernel_rfl) (by kernel_rfl) (fun _ _ _ h => h) (Or.inl ⟨by rfl, ?_⟩) hHeld ?_
    rotate_left
    · intro w hSw; (try dsimp only at hSw); go_simp; all_goals (with_reducible rfl)
    try simp only [Act.put, List.setIfInBounds_toArray, List.set_cons_zero, List.set_cons_succ]
    refine wpAnyH_take (i := 15) (oi := ⟨some 10, _, _, _, _, _⟩) (v := ?_) rfl (by kernel_rfl) (by kernel_rfl) (by kernel_rfl) (fun _ _ _ h => h) (Or.inl ⟨by rfl, ?_⟩) hHeld ?_
    rotate_left
    · intro w hSw; (try dsimp only at hSw); go_simp; all_goals (with_reducible rfl)
    try simp only [Act.put, List.setIfInBounds_toArray, List.set_cons_zero, List.set_cons_succ]
    refine wpAnyH_done (by kernel_rfl) ?_ _
    refine NoPanic.normal ?_
    have HFit : Hid (Fit S m.E) := form_fits b1 b2 HF.out
    have HEL : Hid (m.E.length ≤ 4) := by have h1 := HFit.out.1; have h2 := HS.out.good.np4; show _ ≤ _; omega
    have HRC : Hid _ := tab_rec HS.out.good (a := m.E) (m := p.B) HEL.out
    have HEQ : Hid (formL S m.E p.B = formT S m.E p.B) := by show _ = _; unfold formL; rw [if_pos HF.out]
    have HB4 : Hid (Below w.heap.size w w4) := below_trans HB3.out HB34.out
    have HX4 : Hid _ := HX3.out.keep HB34.out
    have HN4 : Hid _ := HN.out.below HB4.out
    obtain ⟨nt, hnt⟩ : ∃ nt, nt = (formL S m.E p.B).length := ⟨_, rfl⟩
    obtain ⟨nr, hnr⟩ : ∃ nr, nr = (formR S m.E p.B).length := ⟨_, rfl⟩
    rw [← hnt] at HT ⊢
    rw [← hnr] at HR ⊢
    have HNT : Hid (nt = (formL S m.E p.B).length) := hnt
    have HNR : Hid (nr = (formR S m.E p.B).length) := hnr
    clear hnt hnr c5 x6
    go_upto_region 7 with fail
    have c3 := fun wx (h : Below w4.heap.size w4 wx) => (HN4.out.below h).cells.2.2.2.1
    have c4 := fun wx (h : Below w4.heap.size w4 wx) => (HN4.out.below h).cells.2.2.2.2.1
    refine wp_region_noPanic ?_
    refine wp_region_held_drew (S := fun wx => Below w4.heap.size w4 wx) (by kernel_rfl) ?_ (fun hHeld => ?_)
    · exact below_drewN w4 1
    refine wpAnyH_take (i := 0) (oi := ⟨some 49, _, _, _, _, _⟩) (v := ?_) rfl (by kernel_rfl) (by kernel_rfl) (by kernel_rfl) (fun _ _ _ h => h) (Or.inl ⟨by rfl, ?_⟩) hHeld ?_
    rotate_left
    · intro w hSw; (try dsimp only at hSw); go_simp; all_goals (with_reducible rfl)
    try simp only [Act.put, List.setIfInBounds_toArray, List.set_cons_zero, List.set_cons_succ]
    refine wpAnyH_take (i := 1) (oi := ⟨some 50, _, _, _, _, _⟩) (v := ?_) rfl (by kernel_rfl) (by kernel_rfl) (by kernel_rfl) (fun _ _ _ h => h) (Or.inl ⟨by rfl, ?_⟩) hHeld ?_
    rotate_left
    · intro w hSw; (try dsimp only at hSw); go_simp; all_goals (with_reducible rfl)
    try simp only [Act.put, List.setIfInBounds_toArray, List.set_cons_zero, List.set_cons_succ]
    refine wpAnyH_take (i := 2) (oi := ⟨some 51, _, _, _, _, _⟩) (v := ?_) rfl (by kernel_rfl) (by kernel_rfl) (by kernel_rfl) (fun _ _ _ h => h) (Or.inl ⟨by rfl, ?_⟩) hHeld ?_
    rotate_left
    · intro w hSw; (try dsimp only at hSw); go_simp; all_goals (with_reducible rfl)
    try simp only [Act.put, List.setIfInBounds_toArray, List.set_cons_zero, List.set_cons_succ]
    refine wpAnyH_take (i := 3) (oi := ⟨some 52, _, _, _, _, _⟩) (v := ?_) rfl (by kernel_rfl) (by kernel_rfl) (by kernel_rfl) (fun _ _ _ h => h) (Or.inl ⟨by rfl, ?_⟩) hHeld ?_
    rotate_left
    · intro w hSw; (try dsimp only at hSw); go_simp; all_goals (with_reducible rfl)
    try simp only [Act.put, List.setIfInBounds_toArray, List.set_cons_zero, List.set_cons_succ]
    refine wpAnyH_take (i := 4) (oi := ⟨some 53, _, _, _, _, _⟩) (v := ?_) rfl (by kernel_rfl) (by kernel_rfl) (by kernel_rfl) (fun _ _ _ h => h) (Or.inl ⟨by rfl, ?_⟩) hHeld ?_
    rotate_left
    · intro w hSw; (try dsimp only at hSw); go_simp; all_goals (with_reducible rfl)
    try simp only [Act.put, List.setIfInBounds_toArray, List.set_cons_zero, List.set_cons_succ]
    refine wpAnyH_take (i := 5) (oi := ⟨some 54, _, _, _, _, _⟩) (v := ?_) rfl (by kernel_rfl) (by kernel_rfl) (by kernel_rfl) (fun _ _ _ h => h) (Or.inl ⟨by rfl, ?_⟩) hHeld ?_
    rotate_left
    · intro w hSw; (try dsimp only at hSw); go_simp; all_goals (with_reducible rfl)
    try simp only [Act.put, List.setIfInBounds_toArray, List.set_cons_zero, List.set_cons_succ]
    refine wpAnyH_take (i := 6) (oi := ⟨some 55, _, _, _, _, _⟩) (v := ?_) rfl (by kernel_rfl) (by kernel_rfl) (by kernel_rfl) (fun _ _ _ h => h) (Or.inl ⟨by rfl, ?_⟩) hHeld ?_
    rotate_left
    · intro w hSw; (try dsimp only at hSw); go_simp; all_goals (with_reducible rfl)
    try simp only [Act.put, List.setIfInBounds_toArray, List.set_cons_zero, List.set_cons_succ]
    refine wpAnyH_take (i := 7) (oi := ⟨some 56, _, _, _, _, _⟩) (v := ?_) rfl (by kernel_rfl) (by kernel_rfl) (by kernel_rfl) (fun _ _ _ h => h) (Or.inl ⟨by rfl, ?_⟩) hHeld ?_
    rotate_left
    · intro w hSw; (try dsimp only at hSw); go_simp; all_goals (with_reducible rfl)
    try simp only [Act.put, List.setIfInBounds_toArray, List.set_cons_zero, List.set_cons_succ]
    refine wpAnyH_take (i := 8) (oi := ⟨some 57, _, _, _, _, _⟩) (v := ?_) rfl (by kernel_rfl) (by kernel_rfl) (by kernel_rfl) (fun _ _ _ h => h) (Or.inl ⟨by rfl, ?_⟩) hHeld ?_
    rotate_left
    · intro w hSw; (try dsimp only at hSw); go_simp; all_goals (with_reducible rfl)
    try simp only [Act.put, List.setIfInBounds_toArray, List.set_cons_zero, List.set_cons_succ]
    refine wpAnyH_take (i := 9) (oi := ⟨some 58, _, _, _, _, _⟩) (v := ?_) rfl (by kernel_rfl) (by kernel_rfl) (by kernel_rfl) (fun _ _ _ h => h) (Or.inl ⟨by rfl, ?_⟩) hHeld ?_
    rotate_left
    · intro w hSw; (try dsimp only at hSw); go_simp; all_goals (with_reducible rfl)
    try simp only [Act.put, List.setIfInBounds_toArray, List.set_cons_zero, List.set_cons_succ]
    refine wpAnyH_take (i := 10) (oi := ⟨some 59, _, _, _, _, _⟩) (v := ?_) rfl (by kernel_rfl) (by kernel_rfl) (by kernel_rfl) (fun _ _ _ h => h) (Or.inl ⟨by rfl, ?_⟩) hHeld ?_
    rotate_left
    · intro w hSw; (try dsimp only at hSw); go_simp; all_goals (with_reducible rfl)
    try simp only [Act.put, List.setIfInBounds_toArray, List.set_cons_zero, List.set_cons_succ]
    refine wpAnyH_ready (rs := [11]) (by kernel_rfl) (by simp) ?_
    refine AllReadyH.cons (o := ⟨some 60, _, _, _, _, _⟩) rfl (fun K hK => ?_) AllReadyH.nil
    go_simp
    refine (batch_good (kind := p.A) (l := p.l) (recs := formR S m.E p.B) (HN4.out.below (below_drewN w4 1)).ov ((own_rv HR.out HRC.out.2).below (below_drewN w4 1)) (Pn.is_kn HIS.out).1 (Pn.is_kn HIS.out).2 (by have := HRC.out.1; omega)).mono ?_
    rintro e w5 ⟨g, rfl, hMq, hg1, hg2, hB⟩
    have HB45 : Hid (Below w4.heap.size w4 w5) := below_trans (below_drewN w4 1) hB
    have HMQ : Hid (Mq w5 g (batchT p.l p.A (formR S m.E p.B))) := hMq
    have HGL : Hid (w4.heap.size ≤ g ∧ g < w5.heap.size) := ⟨hg1, hg2⟩
    clear hMq hg1 hg2 hB
    refine hK.out _ _ ?_ (fun hHeld => ?_)
    · exact HB45.out
    clear hK K
    try simp only [Act.put, List.setIfInBounds_toArray, List.set_cons_zero, List.set_cons_succ]
    refine wpAnyH_take (i := 12) (oi := ⟨some 48, _, _, _, _, _⟩) (v := ?_) rfl (by kernel_rfl) (by kernel_rfl) (by kernel_rfl) (fun _ _ _ h => h) (Or.inl ⟨by rfl, ?_⟩) hHeld ?_
    rotate_left
    · intro w hSw; (try dsimp only at hSw); go_simp; all_goals (with_reducible rfl)
    try simp only [Act.put, List.setIfInBounds_toArray, List.set_cons_zero, List.set_cons_succ]
    refine wpAnyH_take (i := 13) (oi := ⟨some 61, _, _, _, _, _⟩) (v := ?_) rfl (by kernel_rfl) (by kernel_rfl) (by kernel_rfl) (fun _ _ _ h => h) (Or.inl ⟨by rfl, ?_⟩) hHeld ?_
    rotate_left
    · intro w hSw; (try dsimp only at hSw); go_simp; all_goals (with_reducible rfl)
    try simp only [Act.put, List.setIfInBounds_toArray, List.set_cons_zero, List.set_cons_succ]
    refine wpAnyH_take (i := 14) (oi := ⟨some 62, _, _, _, _, _⟩) (v := ?_) rfl (by kernel_rfl) (by kernel_rfl) (by kernel_rfl) (fun _ _ _ h => h) (Or.inl ⟨by rfl, ?_⟩) hHeld ?_
    rotate_left
    · intro w hSw; (try dsimp only at hSw); go_simp; all_goals (with_reducible rfl)
    try simp only [Act.put, List.setIfInBounds_toArray, List.set_cons_zero, List.set_cons_succ]
    refine wpAnyH_take (i := 15) (oi := ⟨some 63, _, _, _, _, _⟩) (v := ?_) rfl (by kernel_rfl) (by kernel_rfl) (by kernel_rfl) (fun _ _ _ h => h) (Or.inl ⟨by rfl, ?_⟩) hHeld ?_
    rotate_left
    · intro w hSw; (try dsimp only at hSw); go_simp; all_goals (with_reducible rfl)
    try simp only [Act.put, List.setIfInBounds_toArray, List.set_cons_zero, List.set_cons_succ]
    refine wpAnyH_take (i := 16) (oi := ⟨some 11, _, _, _, _, _⟩) (v := ?_) rfl (by kernel_rfl) (by kernel_rfl) (by kernel_rfl) (fun _ _ _ h => h) (Or.inl ⟨by rfl, ?_⟩) hHeld ?_
    rotate_left
    · intro w hSw; (try dsimp only at hSw); go_simp; all_goals (with_reducible rfl)
    try simp only [Act.put, List.setIfInBounds_toArray, List.set_cons_zero, List.set_cons_succ]
    refine wpAnyH_take (i := 17) (oi := ⟨some 12, _, _, _, _, _⟩) (v := ?_) rfl (by kernel_rfl) (by kernel_rfl) (by kernel_rfl) (fun _ _ _ h => h) (Or.inl ⟨by rfl, ?_⟩) hHeld ?_
    rotate_left
    · intro w hSw; (try dsimp only at hSw); go_simp; all_goals (with_reducible rfl)
    try simp only [Act.put, List.setIfInBounds_toArray, List.set_cons_zero, List.set_cons_succ]
    refine wpAnyH_take (i := 18) (oi := ⟨some 13, _, _, _, _, _⟩) (v := ?_) rfl (by kernel_rfl) (by kernel_rfl) (by kernel_rfl) (fun _ _ _ h => h) (Or.inl ⟨by rfl, ?_⟩) hHeld ?_
    rotate_left
    · intro w hSw; (try dsimp only at hSw); go_simp; all_goals (with_reducible rfl)
    try simp only [Act.put, List.setIfInBounds_toArray, List.set_cons_zero, List.set_cons_succ]
    refine wpAnyH_done (by kernel_rfl) ?_ _
    refine NoPanic.normal ?_
    have HB5 : Hid (Below w.heap.size w w5) := below_trans HB4.out HB45.out
    have HX5 : Hid _ := HX4.out.keep HB45.out
    have HN5 : Hid _ := HN.out.below HB5.out
    have HTOK : Hid (okT (batchT p.l p.A (formR S m.E p.B))) := batch_ok HRC.out.2
    have HTL : Hid ((batchT p.l p.A (formR S m.E p.B)).length ≤ 1024) := Nat.le_trans (batch_len _ _ _) HRC.out.1
    obtain ⟨T, hTT⟩ : ∃ T, T = batchT p.l p.A (formR S m.E p.B) := ⟨_, rfl⟩
    rw [← hTT] at HMQ HTOK HTL HR0 ⊢
    clear hTT
    have HQV : Hid (Qv w5 (.slice (some ⟨g, 0, none⟩) T.length T.length) T) := by have h := mq_qv HMQ.out (Nat.le_refl _) (Nat.le_refl T.length) (by have := HTL.out; unfold maxLen; omega) HTOK.out; rw [List.take_length] at h; exact h
    have HT5 : Hid _ := own_belowC HT.out HB45.out
    clear HMQ c3 c4 HR HT HX4 HN4
    go_upto_region 8 with fail
    have c0 := fun wx (h : Below w5.heap.size w5 wx) => (HN5.out.below h).cells.1
    have c1 := fun wx (h : Below w5.heap.size w5 wx) => (HN5.out.below h).cells.2.1
    have c2 := fun wx (h : Below w5.heap.size w5 wx) => (HN5.out.below h).cells.2.2.1
    have c3 := fun wx (h : Below w5.heap.size w5 wx) => (HN5.out.below h).cells.2.2.2.1
    have c4 := fun wx (h : Below w5.heap.size w5 wx) => (HN5.out.below h).cells.2.2.2.2.1
    have c5 := fun wx (h : Below w5.heap.size w5 wx) => (HN5.out.below h).cells.2.2.2.2.2.1
    have c6 := fun wx (h : Below w5.heap.size w5 wx) => (HN5.out.below h).cells.2.2.2.2.2.2.1
    have c7 := fun wx (h : Below w5.heap.size w5 wx) => (HN5.out.below h).cells.2.2.2.2.2.2.2.1
    have x4 := fun wx (h : Below w5.heap.size w5 wx) => (HX5.out.keep h).c4
    have hmk := make_bl HIS.out
    refine wp_region_noPanic ?_
    refine wp_region_held_drew (S := fun wx => Below w5.heap.size w5 wx) (by kernel_rfl) ?_ (fun hHeld => ?_)
    · exact below_drewN w5 1
    refine wpAnyH_take (i := 0) (oi := ⟨some 64, _, _, _, _, _⟩) (v := ?_) rfl (by kernel_rfl) (by kernel_rfl) (by kernel_rfl) (fun _ _ _ h => h) (Or.inl ⟨by rfl, ?_⟩) hHeld ?_
    rotate_left
    · intro w hSw; (try dsimp only at hSw); go_simp; all_goals (with_reducible rfl)
    try simp only [Act.put, List.setIfInBounds_toArray, List.set_cons_zero, List.set_cons_succ]
    refine wpAnyH_take (i := 1) (oi := ⟨some 65, _, _, _, _, _⟩) (v := ?_) rfl (by kernel_rfl) (by kernel_rfl) (by kernel_rfl) (fun _ _ _ h => h) (Or.inl ⟨by rfl, ?_⟩) hHeld ?_
    rotate_left
    · intro w hSw; (try dsimp only at hSw); go_simp; all_goals (with_reducible rfl)
    try simp only [Act.put, List.setIfInBounds_toArray, List.set_cons_zero, List.set_cons_succ]
    refine wpAnyH_take (i := 2) (oi := ⟨some 66, _, _, _, _, _⟩) (v := ?_) rfl (by kernel_rfl) (by kernel_rfl) (by kernel_rfl) (fun _ _ _ h => h) (Or.inl ⟨by rfl, ?_⟩) hHeld ?_
    rotate_left
    · intro w hSw; (try dsimp only at hSw); go_simp; all_goals (with_reducible rfl)
    try simp only [Act.put, List.setIfInBounds_toArray, List.set_cons_zero, List.set_cons_succ]
    refine wpAnyH_take (i := 3) (oi := ⟨some 67, _, _, _, _, _⟩) (v := ?_) rfl (by kernel_rfl) (by kernel_rfl) (by kernel_rfl) (fun _ _ _ h => h) (Or.inl ⟨by rfl, ?_⟩) hHeld ?_
    rotate_left
    · intro w hSw; (try dsimp only at hSw); go_simp; all_goals (with_reducible rfl)
    try simp only [Act.put, List.setIfInBounds_toArray, List.set_cons_zero, List.set_cons_succ]
    refine wpAnyH_take (i := 4) (oi := ⟨some 68, _, _, _, _, _⟩) (v := ?_) rfl (by kernel_rfl) (by kernel_rfl) (by kernel_rfl) (fun _ _ _ h => h) (Or.inl ⟨by rfl, ?_⟩) hHeld ?_
    rotate_left
    · intro w hSw; (try dsimp only at hSw); go_simp; all_goals (with_reducible rfl)
    try simp only [Act.put, List.setIfInBounds_toArray, List.set_cons_zero, List.set_cons_succ]
    refine wpAnyH_take (i := 5) (oi := ⟨some 69, _, _, _, _, _⟩) (v := ?_) rfl (by kernel_rfl) (by kernel_rfl) (by kernel_rfl) (fun _ _ _ h => h) (Or.inl ⟨by rfl, ?_⟩) hHeld ?_
    rotate_left
    · intro w hSw; (try dsimp only at hSw); go_simp; all_goals (with_reducible rfl)
    try simp only [Act.put, List.setIfInBounds_toArray, List.set_cons_zero, List.set_cons_succ]
    refine wpAnyH_take (i := 6) (oi := ⟨some 70, _, _, _, _, _⟩) (v := ?_) rfl (by kernel_rfl) (by kernel_rfl) (by kernel_rfl) (fun _ _ _ h => h) (Or.inl ⟨by rfl, ?_⟩) hHeld ?_
    rotate_left
    · intro w hSw; (try dsimp only at hSw); go_simp; all_goals (with_reducible rfl)
    try simp only [Act.put, List.setIfInBounds_toArray, List.set_cons_zero, List.set_cons_succ]
    refine wpAnyH_take (i := 7) (oi := ⟨some 71, _, _, _, _, _⟩) (v := ?_) rfl (by kernel_rfl) (by kernel_rfl) (by kernel_rfl) (fun _ _ _ h => h) (Or.inl ⟨by rfl, ?_⟩) hHeld ?_
    rotate_left
    · intro w hSw; (try dsimp only at hSw); go_simp; all_goals (with_reducible rfl)
    try simp only [Act.put, List.setIfInBounds_toArray, List.set_cons_zero, List.set_cons_succ]
    refine wpAnyH_take (i := 9) (oi := ⟨some 73, _, _, _, _, _⟩) (v := ?_) rfl (by kernel_rfl) (by kernel_rfl) (by kernel_rfl) (fun _ _ _ h => h) (Or.inl ⟨by rfl, ?_⟩) hHeld ?_
    rotate_left
    · intro w hSw; (try dsimp only at hSw); go_simp; all_goals (with_reducible rfl)
    try simp only [Act.put, List.setIfInBounds_toArray, List.set_cons_zero, List.set_cons_succ]
    refine wpAnyH_take (i := 10) (oi := ⟨some 74, _, _, _, _, _⟩) (v := ?_) rfl (by kernel_rfl) (by kernel_rfl) (by kernel_rfl) (fun _ _ _ h => h) (Or.inl ⟨by rfl, ?_⟩) hHeld ?_
    rotate_left
    · intro w hSw; (try dsimp only at hSw); go_simp; all_goals (with_reducible rfl)
    try simp only [Act.put, List.setIfInBounds_toArray, List.set_cons_zero, List.set_cons_succ]
    refine wpAnyH_take (i := 11) (oi := ⟨some 75, _, _, _, _, _⟩) (v := ?_) rfl (by kernel_rfl) (by kernel_rfl) (by kernel_rfl) (fun _ _ _ h => h) (Or.inl ⟨by rfl, ?_⟩) hHeld ?_
    rotate_left
    · intro w hSw; (try dsimp only at hSw); go_simp; all_goals (with_reducible rfl)
    try simp only [Act.put, List.setIfInBounds_toArray, List.set_cons_zero, List.set_cons_succ]
    refine wpAnyH_take (i := 12) (oi := ⟨some 76, _, _, _, _, _⟩) (v := ?_) rfl (by kernel_rfl) (by kernel_rfl) (by kernel_rfl) (fun _ _ _ h => h) (Or.inl ⟨by rfl, ?_⟩) hHeld ?_
    rotate_left
    · intro w hSw; (try dsimp only at hSw); go_simp; all_goals (with_reducible rfl)
    try simp only [Act.put, List.setIfInBounds_toArray, List.set_cons_zero, List.set_cons_succ]
    refine wpAnyH_take (i := 13) (oi := ⟨some 77, _, _, _, _, _⟩) (v := ?_) rfl (by kernel_rfl) (by kernel_rfl) (by kernel_rfl) (fun _ _ _ h => h) (Or.inl ⟨by rfl, ?_⟩) hHeld ?_
    rotate_left
    · intro w hSw; (try dsimp only at hSw); go_simp; all_goals (with_reducible rfl)
    try simp only [Act.put, List.setIfInBounds_toArray, List.set_cons_zero, List.set_cons_succ]
    refine wpAnyH_ready (rs := [8, 14]) (by kernel_rfl) (by simp) ?_
    refine AllReadyH.cons (o := ⟨some 72, _, _, _, _, _⟩) rfl (fun K hK => ?_) (AllReadyH.cons (o := ⟨some 78, _, _, _, _, _⟩) rfl (fun K hK => ?_) AllReadyH.nil)
    · go_simp
      refine (deal_walk (p := p) (HN5.out.below (below_drewN w5 1)).ov (HQV.out.below (below_drewN w5 1)) (by have := HTL.out; omega)).mono ?_
      rintro e w6 ⟨dv, rfl, ⟨vs, hDl, _⟩, hB⟩
      have HDL0 : Hid (Dl w5.heap.size w6 dv p.n vs (dealF p T)) := ⟨own_baseC hDl.row (Below.size (below_drewN w5 1)), fun i hi => own_baseC (hDl.own i hi) (Below.size (below_drewN w5 1))⟩
      obtain ⟨da, dc, rfl⟩ := own_formN hDl.row
      have HB5B : Hid (Below w5.heap.size w5 w6) := below_trans (below_drewN w5 1) hB
      clear hDl hB
      refine hK.out _ _ ?_ (fun hHeld => ?_)
      · exact HB5B.out
      clear hK K
      try simp only [Act.put, List.setIfInBounds_toArray, List.set_cons_zero, List.set_cons_succ]
      refine wpAnyH_ready (rs := [14]) (by kernel_rfl) (by simp) ?_
      refine AllReadyH.cons (o := ⟨some 78, _, _, _, _, _⟩) rfl (fun K hK => ?_) AllReadyH.nil
      go_simp
      refine hK.out _ _ ?_ (fun hHeld => ?_)
      · exact (below_trans HB5B.out (below_alloc _ _))
      clear hK K
      try simp only [Act.put, List.setIfInBounds_toArray, List.set_cons_zero, List.set_cons_succ]
      refine wpAnyH_take (i := 15) (oi := ⟨some 79, _, _, _, _, _⟩) (v := ?_) rfl (by kernel_rfl) (by kernel_rfl) (by kernel_rfl) (fun _ _ _ h => h) (Or.inl ⟨by rfl, ?_⟩) hHeld ?_
      rotate_left
      · intro w hSw; (try dsimp only at hSw); go_simp; all_goals (with_reducible rfl)
      try simp only [Act.put, List.setIfInBounds_toArray, List.set_cons_zero, List.set_cons_succ]
      refine wpAnyH_ready (rs := [16]) (by kernel_rfl) (by simp) ?_
      refine AllReadyH.cons (o := ⟨some 80, _, _, _, _, _⟩) rfl (fun K hK => ?_) AllReadyH.nil
      go_simp
      refine hK.out _ _ ?_ (fun hHeld => ?_)
      · exact (below_trans (below_trans HB5B.out (below_alloc _ _)) (below_alloc _ _))
      clear hK K
      try simp only [Act.put, List.setIfInBounds_toArray, List.set_cons_zero, List.set_cons_succ]
      refine wpAnyH_take (i := 17) (oi := ⟨some 14, _, _, _, _, _⟩) (v := ?_) rfl (by kernel_rfl) (by kernel_rfl) (by kernel_rfl) (fun _ _ _ h => h) (Or.inl ⟨by rfl, ?_⟩) hHeld ?_
      rotate_left
      · intro w hSw; (try dsimp only at hSw); go_simp; all_goals (with_reducible rfl)
      try simp only [Act.put, List.setIfInBounds_toArray, List.set_cons_zero, List.set_cons_succ]
      refine wpAnyH_done (by kernel_rfl) ?_ _
      refine NoPanic.normal ?_
      obtain ⟨w7, hw7⟩ : ∃ w7, w7 = w6.alloc (Obj.cells (madeCells #[Value.bool false] p.S.toNat) 4) := ⟨_, rfl⟩
      have HDL : Hid (Dl w5.heap.size w7 (.slice da p.n dc) p.n vs (dealF p T)) := by rw [hw7]; exact HDL0.out.below (below_alloc _ _)
      have HAV : Hid (w7.ownsRow w5.heap.size 4 1 (.slice (some ⟨w6.heap.size, 0, none⟩) p.S.toNat p.S.toNat) p.S.toNat ((List.replicate p.S.toNat false).map Value.bool)) := by rw [hw7]; exact own_baseC (made_bl w6 p.S.toNat (by omega)) HB5B.out.size
      have HB57 : Hid (Below w5.heap.size w5 w7) := by rw [hw7]; exact below_trans HB5B.out (below_alloc _ _)
      have hsz : w6.heap.size + 1 = w7.heap.size := by rw [hw7, size_allocC]
      rw [hsz, ← hw7]
      clear hsz hw7
      generalize w6.heap.size = ga at HAV ⊢
      clear HDL0 HB5B
      have HB7 : Hid (Below w.heap.size w w7) := below_trans HB5.out HB57.out
      rw [← Pn.n_is HIS.out] at HAV ⊢
      have HAO : Hid (Ao (w7.alloc (Obj.cells #[.int .i64 m.A, .slice ta nt tc, .slice da p.n dc, .slice (some ⟨ga, 0, none⟩) p.n p.n, .bool false] 132)) p ⟨⟨m.B, m.A, formL S m.E p.B, T, List.replicate p.n false, false⟩, w7.heap.size, .slice ta nt tc, .slice da p.n dc, .slice (some ⟨ga, 0, none⟩) p.n p.n, w.heap.size, w7.heap.size + 1⟩) := asg_ao HB3.out.size HB5.out.size HB57.out.size (by have h := own_belowC HT5.out HB57.out; rw [HNT.out] at h ⊢; exact h) (by rw [HEQ.out]; exact form_in64 HS.out.good HFit.out b1) (by rw [HEQ.out, form_len]; exact HEL.out) HDL.out HTOK.out HTL.out HAV.out HKA.out HK.out
      have HB8 : Hid _ := below_trans HB7.out (below_alloc w7 (Obj.cells #[.int .i64 m.A, .slice ta nt tc, .slice da p.n dc, .slice (some ⟨ga, 0, none⟩) p.n p.n, .bool false] 132))
      have HX8 : Hid _ := (HX5.out.keep HB57.out).keep (below_alloc w7 (Obj.cells #[.int .i64 m.A, .slice ta nt tc, .slice da p.n dc, .slice (some ⟨ga, 0, none⟩) p.n p.n, .bool false] 132))
      obtain ⟨y, hy⟩ : ∃ y : At, y = ⟨⟨m.B, m.A, formL S m.E p.B, T, List.replicate p.n false, false⟩, w7.heap.size, .slice ta nt tc, .slice da p.n dc, .slice (some ⟨ga, 0, none⟩) p.n p.n, w.heap.size, w7.heap.size + 1⟩ := ⟨_, rfl⟩
      rw [← hy] at HAO
      generalize w7.alloc (Obj.cells #[.int .i64 m.A, .slice ta nt tc, .slice da p.n dc, .slice (some ⟨ga, 0, none⟩) p.n p.n, .bool false] 132) = w8 at HAO HB8 HX8 ⊢
      have HYX : Hid (y.x = w7.heap.size ∧ y.lo = w.heap.size ∧ y.h.n = m.B ∧ y.h.E = formL S m.E p.B ∧ y.h = ⟨m.B, m.A, formL S m.E p.B, T, List.replicate p.n false, false⟩) := by rw [hy]; exact ⟨rfl, rfl, rfl, rfl, rfl⟩
      generalize w7.heap.size = X at HYX ⊢
      clear hy HDL HAV HB57 HB7 HT5 HQV c0 c1 c2 c3 c4 c5 c6 c7 x4 hmk HN5 HX5 HB45 HB34
      go_upto_region 9 with fail
      have HN8 : Hid _ := HN.out.below HB8.out
      have HQB : Hid (Q ≠ b) := by have h1 := HN.out.ltb; have h2 := HQ.out; show ¬ Q = b; omega
      have HSF : Hid (∀ wz, Ch (fun z => z = b) w8 wz → wz.cell? ⟨P, 9, none⟩ = some (.map (some b)) ∧ wz.cell? ⟨Q, 3, none⟩ = some (.int .i64 m.B)) := fun wz h => ⟨h.cell HN8.out.cells.2.2.2.2.2.2.2.2.2 HN8.out.pb, h.cell HX8.out.c3 HQB.out⟩
      refine wp_region_noPanic ?_
      refine wp_region_held_drew (S := fun wz => wz.cell? ⟨P, 9, none⟩ = some (.map (some b)) ∧ wz.cell? ⟨Q, 3, none⟩ = some (.int .i64 m.B)) (by kernel_rfl) ?_ (fun hHeld => ?_)
      · exact (HSF.out _ (Ch.of_below (below_drewN w8 1)))
      refine wpAnyH_take (i := 0) (oi := ⟨some 81, _, _, _, _, _⟩) (v := ?_) rfl (by kernel_rfl) (by kernel_rfl) (by kernel_rfl) (fun _ _ _ h => h) (Or.inl ⟨by rfl, ?_⟩) hHeld ?_
      rotate_left
      · intro w hSw; (try dsimp only at hSw); go_simp; all_goals (with_reducible rfl)
      try simp only [Act.put, List.setIfInBounds_toArray, List.set_cons_zero, List.set_cons_succ]
      refine wpAnyH_take (i := 1) (oi := ⟨some 82, _, _, _, _, _⟩) (v := ?_) rfl (by kernel_rfl) (by kernel_rfl) (by kernel_rfl) (fun _ _ _ h => h) (Or.inl ⟨by rfl, ?_⟩) hHeld ?_
      rotate_left
      · intro w hSw; (try dsimp only at hSw); go_simp; all_goals (with_reducible rfl)
      try simp only [Act.put, List.setIfInBounds_toArray, List.set_cons_zero, List.set_cons_succ]
      refine wpAnyH_take (i := 2) (oi := ⟨some 83, _, _, _, _, _⟩) (v := ?_) rfl (by kernel_rfl) (by kernel_rfl) (by kernel_rfl) (fun _ _ _ h => h) (Or.inl ⟨by rfl, ?_⟩) hHeld ?_
      rotate_left
      · intro w hSw; (try dsimp only at hSw); go_simp; all_goals (with_reducible rfl)
      try simp only [Act.put, List.setIfInBounds_toArray, List.set_cons_zero, List.set_cons_succ]
      refine wpAnyH_take (i := 3) (oi := ⟨some 84, _, _, _, _, _⟩) (v := ?_) rfl (by kernel_rfl) (by kernel_rfl) (by kernel_rfl) (fun _ _ _ h => h) (Or.inl ⟨by rfl, ?_⟩) hHeld ?_
      rotate_left
      · intro w hSw; (try dsimp only at hSw); go_simp; all_goals (with_reducible rfl)
      try simp only [Act.put, List.setIfInBounds_toArray, List.set_cons_zero, List.set_cons_succ]
      refine wpAnyH_take (i := 4) (oi := ⟨some 85, _, _, _, _, _⟩) (v := ?_) rfl (by kernel_rfl) (by kernel_rfl) (by kernel_rfl) (fun _ _ _ h => h) (Or.inl ⟨by rfl, ?_⟩) hHeld ?_
      rotate_left
      · intro w hSw; (try dsimp only at hSw); go_simp; all_goals (with_reducible rfl)
      try simp only [Act.put, List.setIfInBounds_toArray, List.set_cons_zero, List.set_cons_succ]
      refine wpAnyH_take (i := 5) (oi := ⟨some 86, _, _, _, _, _⟩) (v := ?_) rfl (by kernel_rfl) (by kernel_rfl) (by kernel_rfl) (fun _ _ _ h => h) (Or.inl ⟨by rfl, ?_⟩) hHeld ?_
      rotate_left
      · intro w hSw; (try dsimp only at hSw); go_simp; all_goals (with_reducible rfl)
      try simp only [Act.put, List.setIfInBounds_toArray, List.set_cons_zero, List.set_cons_succ]
      refine wpAnyH_take (i := 6) (oi := ⟨some 87, _, _, _, _, _⟩) (v := ?_) rfl (by kernel_rfl) (by kernel_rfl) (by kernel_rfl) (fun _ _ _ h => h) (Or.inl ⟨by rfl, ?_⟩) hHeld ?_
      rotate_left
      · intro w hSw; (try dsimp only at hSw); go_simp; all_goals (with_reducible rfl)
      try simp only [Act.put, List.setIfInBounds_toArray, List.set_cons_zero, List.set_cons_succ]
      refine wpAnyH_ready (rs := [7]) (by kernel_rfl) (by simp) ?_
      refine AllReadyH.cons (o := ⟨none, _, _, _, _, _⟩) rfl (fun K hK => ?_) AllReadyH.nil
      obtain ⟨w9, hrun, hown9, hg9⟩ := World.ownsMap.update (own_mapB HN8.out.own (below_drewN w8 1)) law_i Tryz.underlying94 (by have := HL.out; unfold maxLen; omega) (key_i HK.out) (show heldE (.pointer (some ⟨X, 0, none⟩)) = some (.held _, []) from rfl)
      have hrun2 : Sem.run Tryz.prog (Instr.mapUpdate 94 (.map (some b)) (.int .i64 m.B) (.pointer (some ⟨X, 0, none⟩))) w8.drew = .ok () w9 := hrun
      go_simp
      refine hK.out _ _ ?_ (fun hHeld => ?_)
      · exact (HSF.out _ ((Ch.of_below (below_drewN w8 1)).self (Ch.of_grown hg9 (fun z hz => by cases hz; rfl))))
      clear hK K
      try simp only [Act.put, List.setIfInBounds_toArray, List.set_cons_zero, List.set_cons_succ]
      refine wpAnyH_done (by kernel_rfl) ?_ _
      refine NoPanic.normal ?_
      have HC9 : Hid (Ch (fun z => z = b) w8 w9) := (Ch.of_below (below_drewN w8 1)).self (Ch.of_grown hg9 (fun z hz => by cases hz; rfl))
      have HG9 : Hid (w8.grownBy w9 (some b)) := ⟨HC9.out.os, HC9.out.tape, HC9.out.output, HC9.out.size, fun z hz hne => HC9.out.block z hz (fun e => hne (by rw [e]))⟩
      have HW9 : Hid _ := HN.out.put (below_trans HB8.out (below_drewN w8 1)) (HAO.out.below (below_drewN w8 1)) (by rw [HYX.out.2.1]; exact Nat.le_refl _) (y := y) (by unfold ptA; rw [HYX.out.1, HYX.out.2.2.1]; exact hown9) hg9
      have HX9 : Hid _ := HX8.out.ch HC9.out HQB.out
      clear hown9 hg9 hrun hrun2 HX8 HN8 HSF
      have x0 := HX9.out.c0
      have x1 := HX9.out.c1
      have x2 := HX9.out.c2
      have x3 := HX9.out.c3
      have x4 := HX9.out.c4
      have x5 := HX9.out.c5
      have x6 := HX9.out.c6
      have x7 := HX9.out.c7
      have x8 := HX9.out.c8
      go_wp2_with fail
      rw [← HYX.out.1]
      refine (ofEnds_walk 2 HW9.out (a := y) (ins_mem.2 (.inl rfl))).mono ?_
      rintro e w10 ⟨v, rfl, hrow, hB10⟩
      obtain ⟨va, vc, rfl⟩ := own_formN hrow
      clear x0 x1 x2 x3 x4 x5 x6 x7 x8
      go_wp2_with fail
      go_ret
      refine ⟨_, rfl, ?_⟩
      rw [HR0.out]
      exact asg_end (m := m) HYX.out.2.2.2.1 HYX.out.2.2.2.2 HYX.out.2.2.1 HN.out HB8.out HAO.out HG9.out HW9.out (by rw [HYX.out.2.1]; exact Nat.le_refl _) hB10 hrow HK.out HKA.out
    · go_simp
      refine hK.out _ _ ?_ (fun hHeld => ?_)
      · exact (below_trans (below_drewN w5 1) (below_alloc _ _))
      clear hK K
      try simp only [Act.put, List.setIfInBounds_toArray, List.set_cons_zero, List.set_cons_succ]
      refine wpAnyH_ready (rs := [8]) (by kernel_rfl) (by simp) ?_
      refine AllReadyH.cons (o := ⟨some 72, _, _, _, _, _⟩) rfl (fun K hK => ?_) AllReadyH.nil
      go_simp
      refine (deal_walk (p := p) (HN5.out.below (below_trans (below_drewN w5 1) (below_alloc _ _))).ov (HQV.out.below (below_trans (below_drewN w5 1) (below_alloc _ _))) (by have := HTL.out; omega)).mono ?_
      rintro e w6 ⟨dv, rfl, ⟨vs, hDl, _⟩, hB⟩
      have HDL0 : Hid (Dl w5.heap.size w6 dv p.n vs (dealF p T)) := ⟨own_baseC hDl.row (Below.size (below_trans (below_drewN w5 1) (below_alloc _ _))), fun i hi => own_baseC (hDl.own i hi) (Below.size (below_trans (below_drewN w5 1) (below_alloc _ _)))⟩
      obtain ⟨da, dc, rfl⟩ := own_formN hDl.row
      have HB5B : Hid (Below w5.heap.size w5 w6) := below_trans (below_trans (below_drewN w5 1) (below_alloc _ _)) hB
      have HAV0 : Hid _ := own_belowC (own_baseC (made_bl (w5.drewN 1) p.S.toNat (by omega)) (below_drewN w5 1).size) hB
      clear hDl hB
      refine hK.out _ _ ?_ (fun hHeld => ?_)
      · exact HB5B.out
      clear hK K
      try simp only [Act.put, List.setIfInBounds_toArray, List.set_cons_zero, List.set_cons_succ]
      refine wpAnyH_take (i := 15) (oi := ⟨some 79, _, _, _, _, _⟩) (v := ?_) rfl (by kernel_rfl) (by kernel_rfl) (by kernel_rfl) (fun _ _ _ h => h) (Or.inl ⟨by rfl, ?_⟩) hHeld ?_
      rotate_left
      · intro w hSw; (try dsimp only at hSw); go_simp; all_goals (with_reducible rfl)
      try simp only [Act.put, List.setIfInBounds_toArray, List.set_cons_zero, List.set_cons_succ]
      refine wpAnyH_ready (rs := [16]) (by kernel_rfl) (by simp) ?_
      refine AllReadyH.cons (o := ⟨some 80, _, _, _, _, _⟩) rfl (fun K hK => ?_) AllReadyH.nil
      go_simp
      refine hK.out _ _ ?_ (fun hHeld => ?_)
      · exact (below_trans HB5B.out (below_alloc _ _))
      clear hK K
      try simp only [Act.put, List.setIfInBounds_toArray, List.set_cons_zero, List.set_cons_succ]
      refine wpAnyH_take (i := 17) (oi := ⟨some 14, _, _, _, _, _⟩) (v := ?_) rfl (by kernel_rfl) (by kernel_rfl) (by kernel_rfl) (fun _ _ _ h => h) (Or.inl ⟨by rfl, ?_⟩) hHeld ?_
      rotate_left
      · intro w hSw; (try dsimp only at hSw); go_simp; all_goals (with_reducible rfl)
      try simp only [Act.put, List.setIfInBounds_toArray, List.set_cons_zero, List.set_cons_succ]
      refine wpAnyH_done (by kernel_rfl) ?_ _
      refine NoPanic.normal ?_
      obtain ⟨w7, hw7⟩ : ∃ w7, w7 = w6 := ⟨_, rfl⟩
      rw [← hw7] at HDL0 HAV0 HB5B ⊢
      have HDL : Hid (Dl w5.heap.size w7 (.slice da p.n dc) p.n vs (dealF p T)) := HDL0.out
      have HAVX : Hid (w7.ownsRow w5.heap.size 4 1 (.slice (some ⟨w5.heap.size, 0, none⟩) p.S.toNat p.S.toNat) p.S.toNat ((List.replicate p.S.toNat false).map Value.bool)) := HAV0.out
      have HB57 : Hid (Below w5.heap.size w5 w7) := HB5B.out
      obtain ⟨ga, hga⟩ : ∃ ga, ga = w5.heap.size := ⟨_, rfl⟩
      have HAV : Hid (w7.ownsRow w5.heap.size 4 1 (.slice (some ⟨ga, 0, none⟩) p.S.toNat p.S.toNat) p.S.toNat ((List.replicate p.S.toNat false).map Value.bool)) := by rw [hga]; exact HAVX.out
      clear HAVX
      rw [← hga]
      clear hw7 HDL0 HAV0 HB5B hga
      have HB7 : Hid (Below w.heap.size w w7) := below_trans HB5.out HB57.out
      rw [← Pn.n_is HIS.out] at HAV ⊢
      have HAO : Hid (Ao (w7.alloc (Obj.cells #[.int .i64 m.A, .slice ta nt tc, .slice da p.n dc, .slice (some ⟨ga, 0, none⟩) p.n p.n, .bool false] 132)) p ⟨⟨m.B, m.A, formL S m.E p.B, T, List.replicate p.n false, false⟩, w7.heap.size, .slice ta nt tc, .slice da p.n dc, .slice (some ⟨ga, 0, none⟩) p.n p.n, w.heap.size, w7.heap.size + 1⟩) := asg_ao HB3.out.size HB5.out.size HB57.out.size (by have h := own_belowC HT5.out HB57.out; rw [HNT.out] at h ⊢; exact h) (by rw [HEQ.out]; exact form_in64 HS.out.good HFit.out b1) (by rw [HEQ.out, form_len]; exact HEL.out) HDL.out HTOK.out HTL.out HAV.out HKA.out HK.out
      have HB8 : Hid _ := below_trans HB7.out (below_alloc w7 (Obj.cells #[.int .i64 m.A, .slice ta nt tc, .slice da p.n dc, .slice (some ⟨ga, 0, none⟩) p.n p.n, .bool false] 132))
      have HX8 : Hid _ := (HX5.out.keep HB57.out).keep (below_alloc w7 (Obj.cells #[.int .i64 m.A, .slice ta nt tc, .slice da p.n dc, .slice (some ⟨ga, 0, none⟩) p.n p.n, .bool false] 132))
      obtain ⟨y, hy⟩ : ∃ y : At, y = ⟨⟨m.B, m.A, formL S m.E p.B, T, List.replicate p.n false, false⟩, w7.heap.size, .slice ta nt tc, .slice da p.n dc, .slice (some ⟨ga, 0, none⟩) p.n p.n, w.heap.size, w7.heap.size + 1⟩ := ⟨_, rfl⟩
      rw [← hy] at HAO
      generalize w7.alloc (Obj.cells #[.int .i64 m.A, .slice ta nt tc, .slice da p.n dc, .slice (some ⟨ga, 0, none⟩) p.n p.n, .bool false] 132) = w8 at HAO HB8 HX8 ⊢
      have HYX : Hid (y.x = w7.heap.size ∧ y.lo = w.heap.size ∧ y.h.n = m.B ∧ y.h.E = formL S m.E p.B ∧ y.h = ⟨m.B, m.A, formL S m.E p.B, T, List.replicate p.n false, false⟩) := by rw [hy]; exact ⟨rfl, rfl, rfl, rfl, rfl⟩
      generalize w7.heap.size = X at HYX ⊢
      clear hy HDL HAV HB57 HB7 HT5 HQV c0 c1 c2 c3 c4 c5 c6 c7 x4 hmk HN5 HX5 HB45 HB34
      go_upto_region 9 with fail
      have HN8 : Hid _ := HN.out.below HB8.out
      have HQB : Hid (Q ≠ b) := by have h1 := HN.out.ltb; have h2 := HQ.out; show ¬ Q = b; omega
      have HSF : Hid (∀ wz, Ch (fun z => z = b) w8 wz → wz.cell? ⟨P, 9, none⟩ = some (.map (some b)) ∧ wz.cell? ⟨Q, 3, none⟩ = some (.int .i64 m.B)) := fun wz h => ⟨h.cell HN8.out.cells.2.2.2.2.2.2.2.2.2 HN8.out.pb, h.cell HX8.out.c3 HQB.out⟩
      refine wp_region_noPanic ?_
      refine wp_region_held_drew (S := fun wz => wz.cell? ⟨P, 9, none⟩ = some (.map (some b)) ∧ wz.cell? ⟨Q, 3, none⟩ = some (.int .i64 m.B)) (by kernel_rfl) ?_ (fun hHeld => ?_)
      · exact (HSF.out _ (Ch.of_below (below_drewN w8 1)))
      refine wpAnyH_take (i := 0) (oi := ⟨some 81, _, _, _, _, _⟩) (v := ?_) rfl (by kernel_rfl) (by kernel_rfl) (by kernel_rfl) (fun _ _ _ h => h) (Or.inl ⟨by rfl, ?_⟩) hHeld ?_
      rotate_left
      · intro w hSw; (try dsimp only at hSw); go_simp; all_goals (with_reducible rfl)
      try simp only [Act.put, List.setIfInBounds_toArray, List.set_cons_zero, List.set_cons_succ]
      refine wpAnyH_take (i := 1) (oi := ⟨some 82, _, _, _, _, _⟩) (v := ?_) rfl (by kernel_rfl) (by kernel_rfl) (by kernel_rfl) (fun _ _ _ h => h) (Or.inl ⟨by rfl, ?_⟩) hHeld ?_
      rotate_left
      · intro w hSw; (try dsimp only at hSw); go_simp; all_goals (with_reducible rfl)
      try simp only [Act.put, List.setIfInBounds_toArray, List.set_cons_zero, List.set_cons_succ]
      refine wpAnyH_take (i := 2) (oi := ⟨some 83, _, _, _, _, _⟩) (v := ?_) rfl (by kernel_rfl) (by kernel_rfl) (by kernel_rfl) (fun _ _ _ h => h) (Or.inl ⟨by rfl, ?_⟩) hHeld ?_
      rotate_left
      · intro w hSw; (try dsimp only at hSw); go_simp; all_goals (with_reducible rfl)
      try simp only [Act.put, List.setIfInBounds_toArray, List.set_cons_zero, List.set_cons_succ]
      refine wpAnyH_take (i := 3) (oi := ⟨some 84, _, _, _, _, _⟩) (v := ?_) rfl (by kernel_rfl) (by kernel_rfl) (by kernel_rfl) (fun _ _ _ h => h) (Or.inl ⟨by rfl, ?_⟩) hHeld ?_
      rotate_left
      · intro w hSw; (try dsimp only at hSw); go_simp; all_goals (with_reducible rfl)
      try simp only [Act.put, List.setIfInBounds_toArray, List.set_cons_zero, List.set_cons_succ]
      refine wpAnyH_take (i := 4) (oi := ⟨some 85, _, _, _, _, _⟩) (v := ?_) rfl (by kernel_rfl) (by kernel_rfl) (by kernel_rfl) (fun _ _ _ h => h) (Or.inl ⟨by rfl, ?_⟩) hHeld ?_
      rotate_left
      · intro w hSw; (try dsimp only at hSw); go_simp; all_goals (with_reducible rfl)
      try simp only [Act.put, List.setIfInBounds_toArray, List.set_cons_zero, List.set_cons_succ]
      refine wpAnyH_take (i := 5) (oi := ⟨some 86, _, _, _, _, _⟩) (v := ?_) rfl (by kernel_rfl) (by kernel_rfl) (by kernel_rfl) (fun _ _ _ h => h) (Or.inl ⟨by rfl, ?_⟩) hHeld ?_
      rotate_left
      · intro w hSw; (try dsimp only at hSw); go_simp; all_goals (with_reducible rfl)
      try simp only [Act.put, List.setIfInBounds_toArray, List.set_cons_zero, List.set_cons_succ]
      refine wpAnyH_take (i := 6) (oi := ⟨some 87, _, _, _, _, _⟩) (v := ?_) rfl (by kernel_rfl) (by kernel_rfl) (by kernel_rfl) (fun _ _ _ h => h) (Or.inl ⟨by rfl, ?_⟩) hHeld ?_
      rotate_left
      · intro w hSw; (try dsimp only at hSw); go_simp; all_goals (with_reducible rfl)
      try simp only [Act.put, List.setIfInBounds_toArray, List.set_cons_zero, List.set_cons_succ]
      refine wpAnyH_ready (rs := [7]) (by kernel_rfl) (by simp) ?_
      refine AllReadyH.cons (o := ⟨none, _, _, _, _, _⟩) rfl (fun K hK => ?_) AllReadyH.nil
      obtain ⟨w9, hrun, hown9, hg9⟩ := World.ownsMap.update (own_mapB HN8.out.own (below_drewN w8 1)) law_i Tryz.underlying94 (by have := HL.out; unfold maxLen; omega) (key_i HK.out) (show heldE (.pointer (some ⟨X, 0, none⟩)) = some (.held _, []) from rfl)
      have hrun2 : Sem.run Tryz.prog (Instr.mapUpdate 94 (.map (some b)) (.int .i64 m.B) (.pointer (some ⟨X, 0, none⟩))) w8.drew = .ok () w9 := hrun
      go_simp
      refine hK.out _ _ ?_ (fun hHeld => ?_)
      · exact (HSF.out _ ((Ch.of_below (below_drewN w8 1)).self (Ch.of_grown hg9 (fun z hz => by cases hz; rfl))))
      clear hK K
      try simp only [Act.put, List.setIfInBounds_toArray, List.set_cons_zero, List.set_cons_succ]
      refine wpAnyH_done (by kernel_rfl) ?_ _
      refine NoPanic.normal ?_
      have HC9 : Hid (Ch (fun z => z = b) w8 w9) := (Ch.of_below (below_drewN w8 1)).self (Ch.of_grown hg9 (fun z hz => by cases hz; rfl))
      have HG9 : Hid (w8.grownBy w9 (some b)) := ⟨HC9.out.os, HC9.out.tape, HC9.out.output, HC9.out.size, fun z hz hne => HC9.out.block z hz (fun e => hne (by rw [e]))⟩
      have HW9 : Hid _ := HN.out.put (below_trans HB8.out (below_drewN w8 1)) (HAO.out.below (below_drewN w8 1)) (by rw [HYX.out.2.1]; exact Nat.le_refl _) (y := y) (by unfold ptA; rw [HYX.out.1, HYX.out.2.2.1]; exact hown9) hg9
      have HX9 : Hid _ := HX8.out.ch HC9.out HQB.out
      clear hown9 hg9 hrun hrun2 HX8 HN8 HSF
      have x0 := HX9.out.c0
      have x1 := HX9.out.c1
      have x2 := HX9.out.c2
      have x3 := HX9.out.c3
      have x4 := HX9.out.c4
      have x5 := HX9.out.c5
      have x6 := HX9.out.c6
      have x7 := HX9.out.c7
      have x8 := HX9.out.c8
      go_wp2_with fail
      rw [← HYX.out.1]
      refine (ofEnds_walk 2 HW9.out (a := y) (ins_mem.2 (.inl rfl))).mono ?_
      rintro e w10 ⟨v, rfl, hrow, hB10⟩
      obtain ⟨va, vc, rfl⟩ := own_formN hrow
      clear x0 x1 x2 x3 x4 x5 x6 x7 x8
      go_wp2_with fail
      go_ret
      refine ⟨_, rfl, ?_⟩
      rw [HR0.out]
      exact asg_end (m := m) HYX.out.2.2.2.1 HYX.out.2.2.2.2 HYX.out.2.2.1 HN.out HB8.out HAO.out HG9.out HW9.out (by rw [HYX.out.2.1]; exact Nat.le_refl _) hB10 hrow HK.out HKA.out
  | some x =>
    have e1 : lkA L m.B = .pointer (some ⟨x.x, 0, none⟩) := by unfold lkA; rw [hat]; rfl
    have HXM : Hid (x ∈ L) := (atK_mem hat).1
    rw [e1] at hlk
    by_cases hge : m.A ≤ x.h.a
    · have HR0 : Hid (asgH p nd S m (L.map (·.h)) = ([], L.map (·.h))) := by show _ = _; unfold asgH; rw [if_pos (by unfold heldB; rw [HM.out, hat]; exact decide_eq_true hge)]
      clear e1 hat HM hk
      go_quiet (fail)
      go_upto_region 2 with fail
      generalize hw : wx.drewN nq = wy
      have HBy : Hid (Below w.heap.size w wy) := by rw [← hw]; exact below_trans HB0.out (below_drewN _ _)
      have HXy : Hid (MX wy Q m (.slice ea en ec) (.slice qa qn qc) (.slice pa pn pc)) := by have h := HX0.out.keep (below_drewN wx nq); rw [hw] at h; exact h
      clear hw p9 x3 hlk HX0 HB0 HN1
      have x4 := HXy.out.c4
      have a0 := (HN.out.below HBy.out).ent x HXM.out |>.cells.1
      go_quiet (fail)
      go_wp2_with fail
      go_ret
      refine ⟨_, rfl, ?_⟩
      rw [HR0.out]
      exact tk_none HN.out (below_trans HBy.out (below_drewN _ _))
    have HMN : Hid (heldB (L.map (·.h)) m = false) := by show _ = _; unfold heldB; rw [HM.out, hat]; exact decide_eq_false hge
    clear e1 hat HM hk
    go_quiet (fail)
    go_upto_region 2 with fail
    generalize hw : wx.drewN nq = wy
    have HBy : Hid (Below w.heap.size w wy) := by rw [← hw]; exact below_trans HB0.out (below_drewN _ _)
    have HXy : Hid (MX wy Q m (.slice ea en ec) (.slice qa qn qc) (.slice pa pn pc)) := by have h := HX0.out.keep (below_drewN wx nq); rw [hw] at h; exact h
    clear hw p9 x3 hlk HX0 HB0 HN1
    have x4 := HXy.out.c4
    have a0 := (HN.out.below HBy.out).ent x HXM.out |>.cells.1
    go_quiet (fail)
    clear a0
    go_upto_region 4 with fail
    generalize hw : wy.drewN nq = w3
    have HB3 : Hid (Below w.heap.size w w3) := by rw [← hw]; exact below_trans HBy.out (below_drewN _ _)
    have HX3 : Hid (MX w3 Q m (.slice ea en ec) (.slice qa qn qc) (.slice pa pn pc)) := by have h := HXy.out.keep (below_drewN wy nq); rw [hw] at h; exact h
    clear hw x4 HXy HBy
    have HN3 : Hid _ := HN.out.below HB3.out
    have HS3 : Hid (Src D w3 (.pointer (some ⟨sb, 0, none⟩)) S) := HS.out.below HB3.out
    have HV3 : Hid (Nv w3 (.slice ea en ec) m.E) := HV.out.below HB3.out
    have c5 := fun wx (h : Below w3.heap.size w3 wx) => (HN3.out.below h).cells.2.2.2.2.2.1
    have x6 := fun wx (h : Below w3.heap.size w3 wx) => (HX3.out.keep h).c6
    by_cases hf : formI S m.E p.B = 0
    rotate_left
    · obtain ⟨c, hc⟩ : ∃ c, c = formI S m.E p.B := ⟨_, rfl⟩
      have HF : Hid (formI S m.E p.B = c) := hc.symm
      have hc0 : (c != 0) = true := by rw [bne_iff_ne, hc]; exact hf
      have HR0 : Hid (asgH p nd S m (L.map (·.h)) = ([], L.map (·.h))) := by show _ = _; unfold asgH; rw [if_neg (by rw [HMN.out]; simp), if_neg hf]
      clear hc hf
      refine wp_region_noPanic ?_
      refine wp_region_held_drew (S := fun wx => Below w3.heap.size w3 wx) (by kernel_rfl) ?_ (fun hHeld => ?_)
      · exact below_drewN w3 1
      refine wpAnyH_take (i := 0) (oi := ⟨some 34, _, _, _, _, _⟩) (v := ?_) rfl (by kernel_rfl) (by kernel_rfl) (by kernel_rfl) (fun _ _ _ h => h) (Or.inl ⟨by rfl, ?_⟩) hHeld ?_
      rotate_left
      · intro w hSw; (try dsimp only at hSw); go_simp; all_goals (with_reducible rfl)
      try simp only [Act.put, List.setIfInBounds_toArray, List.set_cons_zero, List.set_cons_succ]
      refine wpAnyH_take (i := 1) (oi := ⟨some 35, _, _, _, _, _⟩) (v := ?_) rfl (by kernel_rfl) (by kernel_rfl) (by kernel_rfl) (fun _ _ _ h => h) (Or.inl ⟨by rfl, ?_⟩) hHeld ?_
      rotate_left
      · intro w hSw; (try dsimp only at hSw); go_simp; all_goals (with_reducible rfl)
      try simp only [Act.put, List.setIfInBounds_toArray, List.set_cons_zero, List.set_cons_succ]
      refine wpAnyH_take (i := 2) (oi := ⟨some 36, _, _, _, _, _⟩) (v := ?_) rfl (by kernel_rfl) (by kernel_rfl) (by kernel_rfl) (fun _ _ _ h => h) (Or.inl ⟨by rfl, ?_⟩) hHeld ?_
      rotate_left
      · intro w hSw; (try dsimp only at hSw); go_simp; all_goals (with_reducible rfl)
      try simp only [Act.put, List.setIfInBounds_toArray, List.set_cons_zero, List.set_cons_succ]
      refine wpAnyH_take (i := 3) (oi := ⟨some 37, _, _, _, _, _⟩) (v := ?_) rfl (by kernel_rfl) (by kernel_rfl) (by kernel_rfl) (fun _ _ _ h => h) (Or.inl ⟨by rfl, ?_⟩) hHeld ?_
      rotate_left
      · intro w hSw; (try dsimp only at hSw); go_simp; all_goals (with_reducible rfl)
      try simp only [Act.put, List.setIfInBounds_toArray, List.set_cons_zero, List.set_cons_succ]
      refine wpAnyH_take (i := 4) (oi := ⟨some 38, _, _, _, _, _⟩) (v := ?_) rfl (by kernel_rfl) (by kernel_rfl) (by kernel_rfl) (fun _ _ _ h => h) (Or.inl ⟨by rfl, ?_⟩) hHeld ?_
      rotate_left
      · intro w hSw; (try dsimp only at hSw); go_simp; all_goals (with_reducible rfl)
      try simp only [Act.put, List.setIfInBounds_toArray, List.set_cons_zero, List.set_cons_succ]
      refine wpAnyH_take (i := 5) (oi := ⟨some 39, _, _, _, _, _⟩) (v := ?_) rfl (by kernel_rfl) (by kernel_rfl) (by kernel_rfl) (fun _ _ _ h => h) (Or.inl ⟨by rfl, ?_⟩) hHeld ?_
      rotate_left
      · intro w hSw; (try dsimp only at hSw); go_simp; all_goals (with_reducible rfl)
      try simp only [Act.put, List.setIfInBounds_toArray, List.set_cons_zero, List.set_cons_succ]
      refine wpAnyH_take (i := 6) (oi := ⟨some 40, _, _, _, _, _⟩) (v := ?_) rfl (by kernel_rfl) (by kernel_rfl) (by kernel_rfl) (fun _ _ _ h => h) (Or.inl ⟨by rfl, ?_⟩) hHeld ?_
      rotate_left
      · intro w hSw; (try dsimp only at hSw); go_simp; all_goals (with_reducible rfl)
      try simp only [Act.put, List.setIfInBounds_toArray, List.set_cons_zero, List.set_cons_succ]
      refine wpAnyH_take (i := 7) (oi := ⟨some 41, _, _, _, _, _⟩) (v := ?_) rfl (by kernel_rfl) (by kernel_rfl) (by kernel_rfl) (fun _ _ _ h => h) (Or.inl ⟨by rfl, ?_⟩) hHeld ?_
      rotate_left
      · intro w hSw; (try dsimp only at hSw); go_simp; all_goals (with_reducible rfl)
      try simp only [Act.put, List.setIfInBounds_toArray, List.set_cons_zero, List.set_cons_succ]
      refine wpAnyH_ready (rs := [8]) (by kernel_rfl) (by simp) ?_
      refine AllReadyH.cons (o := ⟨some 42, _, _, _, _, _⟩) rfl (fun K hK => ?_) AllReadyH.nil
      go_simp
      refine (form_walk (m := p.B) (HS3.out.below (below_drewN w3 1)) (HV3.out.below (below_drewN w3 1))).mono ?_
      rintro e w4 ⟨tv, rv, he, hT, hR, hTR, hB⟩
      rw [HF.out] at he
      obtain ⟨ta, tc, rfl⟩ := own_formN hT
      obtain ⟨ra, rc, rfl⟩ := own_formN hR
      subst he
      have HB34 : Hid (Below w3.heap.size w3 w4) := below_trans (below_drewN w3 1) hB
      have HT : Hid (w4.ownsRow w3.heap.size 3 1 (.slice ta (formL S m.E p.B).length tc) (formL S m.E p.B).length (cellsN (formL S m.E p.B))) := hT
      have HR : Hid (w4.ownsRow w3.heap.size 53 2 (.slice ra (formR S m.E p.B).length rc) (formR S m.E p.B).length (flatR (formR S m.E p.B))) := hR
      clear hB hT hR hTR
      refine hK.out _ _ ?_ (fun hHeld => ?_)
      · exact HB34.out
      clear hK K
      try simp only [Act.put, List.setIfInBounds_toArray, List.set_cons_zero, List.set_cons_succ]
      refine wpAnyH_take (i := 9) (oi := ⟨some 33, _, _, _, _, _⟩) (v := ?_) rfl (by kernel_rfl) (by kernel_rfl) (by kernel_rfl) (fun _ _ _ h => h) (Or.inl ⟨by rfl, ?_⟩) hHeld ?_
      rotate_left
      · intro w hSw; (try dsimp only at hSw); go_simp; all_goals (with_reducible rfl)
      try simp only [Act.put, List.setIfInBounds_toArray, List.set_cons_zero, List.set_cons_succ]
      refine wpAnyH_take (i := 10) (oi := ⟨some 43, _, _, _, _, _⟩) (v := ?_) rfl (by kernel_rfl) (by kernel_rfl) (by kernel_rfl) (fun _ _ _ h => h) (Or.inl ⟨by rfl, ?_⟩) hHeld ?_
      rotate_left
      · intro w hSw; (try dsimp only at hSw); go_simp; all_goals (with_reducible rfl)
      try simp only [Act.put, List.setIfInBounds_toArray, List.set_cons_zero, List.set_cons_succ]
      refine wpAnyH_take (i := 11) (oi := ⟨some 44, _, _, _, _, _⟩) (v := ?_) rfl (by kernel_rfl) (by kernel_rfl) (by kernel_rfl) (fun _ _ _ h => h) (Or.inl ⟨by rfl, ?_⟩) hHeld ?_
      rotate_left
      · intro w hSw; (try dsimp only at hSw); go_simp; all_goals (with_reducible rfl)
      try simp only [Act.put, List.setIfInBounds_toArray, List.set_cons_zero, List.set_cons_succ]
      refine wpAnyH_take (i := 12) (oi := ⟨some 45, _, _, _, _, _⟩) (v := ?_) rfl (by kernel_rfl) (by kernel_rfl) (by kernel_rfl) (fun _ _ _ h => h) (Or.inl ⟨by rfl, ?_⟩) hHeld ?_
      rotate_left
      · intro w hSw; (try dsimp only at hSw); go_simp; all_goals (with_reducible rfl)
      try simp only [Act.put, List.setIfInBounds_toArray, List.set_cons_zero, List.set_cons_succ]
      refine wpAnyH_take (i := 13) (oi := ⟨some 8, _, _, _, _, _⟩) (v := ?_) rfl (by kernel_rfl) (by kernel_rfl) (by kernel_rfl) (fun _ _ _ h => h) (Or.inl ⟨by rfl, ?_⟩) hHeld ?_
      rotate_left
      · intro w hSw; (try dsimp only at hSw); go_simp; all_goals (with_reducible rfl)
      try simp only [Act.put, List.setIfInBounds_toArray, List.set_cons_zero, List.set_cons_succ]
      refine wpAnyH_take (i := 14) (oi := ⟨some 9, _, _, _, _, _⟩) (v := ?_) rfl (by kernel_rfl) (by kernel_rfl) (by kernel_rfl) (fun _ _ _ h => h) (Or.inl ⟨by rfl, ?_⟩) hHeld ?_
      rotate_left
      · intro w hSw; (try dsimp only at hSw); go_simp; all_goals (with_reducible rfl)
      try simp only [Act.put, List.setIfInBounds_toArray, List.set_cons_zero, List.set_cons_succ]
      refine wpAnyH_take (i := 15) (oi := ⟨some 10, _, _, _, _, _⟩) (v := ?_) rfl (by kernel_rfl) (by kernel_rfl) (by kernel_rfl) (fun _ _ _ h => h) (Or.inl ⟨by rfl, ?_⟩) hHeld ?_
      rotate_left
      · intro w hSw; (try dsimp only at hSw); go_simp; all_goals (with_reducible rfl)
      try simp only [Act.put, List.setIfInBounds_toArray, List.set_cons_zero, List.set_cons_succ]
      refine wpAnyH_done (by kernel_rfl) ?_ _
      refine NoPanic.normal ?_
      go_wp2_with fail
      go_ret
      refine ⟨_, rfl, ?_⟩
      rw [HR0.out]
      exact tk_none HN.out (below_trans HB3.out HB34.out)
    have HF : Hid (formI S m.E p.B = 0) := hf
    have HR0 : Hid (asgH p nd S m (L.map (·.h)) = ([sayM nd 2 0 m (formL S m.E p.B) [] []], insL kH ⟨m.B, m.A, formL S m.E p.B, batchT p.l p.A (formR S m.E p.B), List.replicate p.n false, false⟩ (outL kH (L.map (·.h)) m.B))) := by show _ = _; unfold asgH; rw [if_neg (by rw [HMN.out]; simp), if_pos hf]
    clear hf
    refine wp_region_noPanic ?_
    refine wp_region_held_drew (S := fun wx => Below w3.heap.size w3 wx) (by kernel_rfl) ?_ (fun hHeld => ?_)
    · exact below_drewN w3 1
    refine wpAnyH_take (i := 0) (oi := ⟨some 34, _, _, _, _, _⟩) (v := ?_) rfl (by kernel_rfl) (by kernel_rfl) (by kernel_rfl) (fun _ _ _ h => h) (Or.inl ⟨by rfl, ?_⟩) hHeld ?_
    rotate_left
    · intro w hSw; (try dsimp only at hSw); go_simp; all_goals (with_reducible rfl)
    try simp only [Act.put, List.setIfInBounds_toArray, List.set_cons_zero, List.set_cons_succ]
    refine wpAnyH_take (i := 1) (oi := ⟨some 35, _, _, _, _, _⟩) (v := ?_) rfl (by kernel_rfl) (by kernel_rfl) (by kernel_rfl) (fun _ _ _ h => h) (Or.inl ⟨by rfl, ?_⟩) hHeld ?_
    rotate_left
    · intro w hSw; (try dsimp only at hSw); go_simp; all_goals (with_reducible rfl)
    try simp only [Act.put, List.setIfInBounds_toArray, List.set_cons_zero, List.set_cons_succ]
    refine wpAnyH_take (i := 2) (oi := ⟨some 36, _, _, _, _, _⟩) (v := ?_) rfl (by kernel_rfl) (by kernel_rfl) (by kernel_rfl) (fun _ _ _ h => h) (Or.inl ⟨by rfl, ?_⟩) hHeld ?_
    rotate_left
    · intro w hSw; (try dsimp only at hSw); go_simp; all_goals (with_reducible rfl)
    try simp only [Act.put, List.setIfInBounds_toArray, List.set_cons_zero, List.set_cons_succ]
    refine wpAnyH_take (i := 3) (oi := ⟨some 37, _, _, _, _, _⟩) (v := ?_) rfl (by kernel_rfl) (by kernel_rfl) (by kernel_rfl) (fun _ _ _ h => h) (Or.inl ⟨by rfl, ?_⟩) hHeld ?_
    rotate_left
    · intro w hSw; (try dsimp only at hSw); go_simp; all_goals (with_reducible rfl)
    try simp only [Act.put, List.setIfInBounds_toArray, List.set_cons_zero, List.set_cons_succ]
    refine wpAnyH_take (i := 4) (oi := ⟨some 38, _, _, _, _, _⟩) (v := ?_) rfl (by kernel_rfl) (by kernel_rfl) (by kernel_rfl) (fun _ _ _ h => h) (Or.inl ⟨by rfl, ?_⟩) hHeld ?_
    rotate_left
    · intro w hSw; (try dsimp only at hSw); go_simp; all_goals (with_reducible rfl)
    try simp only [Act.put, List.setIfInBounds_toArray, List.set_cons_zero, List.set_cons_succ]
    refine wpAnyH_take (i := 5) (oi := ⟨some 39, _, _, _, _, _⟩) (v := ?_) rfl (by kernel_rfl) (by kernel_rfl) (by kernel_rfl) (fun _ _ _ h => h) (Or.inl ⟨by rfl, ?_⟩) hHeld ?_
    rotate_left
    · intro w hSw; (try dsimp only at hSw); go_simp; all_goals (with_reducible rfl)
    try simp only [Act.put, List.setIfInBounds_toArray, List.set_cons_zero, List.set_cons_succ]
    refine wpAnyH_take (i := 6) (oi := ⟨some 40, _, _, _, _, _⟩) (v := ?_) rfl (by kernel_rfl) (by kernel_rfl) (by kernel_rfl) (fun _ _ _ h => h) (Or.inl ⟨by rfl, ?_⟩) hHeld ?_
    rotate_left
    · intro w hSw; (try dsimp only at hSw); go_simp; all_goals (with_reducible rfl)
    try simp only [Act.put, List.setIfInBounds_toArray, List.set_cons_zero, List.set_cons_succ]
    refine wpAnyH_take (i := 7) (oi := ⟨some 41, _, _, _, _, _⟩) (v := ?_) rfl (by kernel_rfl) (by kernel_rfl) (by kernel_rfl) (fun _ _ _ h => h) (Or.inl ⟨by rfl, ?_⟩) hHeld ?_
    rotate_left
    · intro w hSw; (try dsimp only at hSw); go_simp; all_goals (with_reducible rfl)
    try simp only [Act.put, List.setIfInBounds_toArray, List.set_cons_zero, List.set_cons_succ]
    refine wpAnyH_ready (rs := [8]) (by kernel_rfl) (by simp) ?_
    refine AllReadyH.cons (o := ⟨some 42, _, _, _, _, _⟩) rfl (fun K hK => ?_) AllReadyH.nil
    go_simp
    refine (form_walk (m := p.B) (HS3.out.below (below_drewN w3 1)) (HV3.out.below (below_drewN w3 1))).mono ?_
    rintro e w4 ⟨tv, rv, he, hT, hR, hTR, hB⟩
    rw [HF.out] at he
    obtain ⟨ta, tc, rfl⟩ := own_formN hT
    obtain ⟨ra, rc, rfl⟩ := own_formN hR
    subst he
    have HB34 : Hid (Below w3.heap.size w3 w4) := below_trans (below_drewN w3 1) hB
    have HT : Hid (w4.ownsRow w3.heap.size 3 1 (.slice ta (formL S m.E p.B).length tc) (formL S m.E p.B).length (cellsN (formL S m.E p.B))) := hT
    have HR : Hid (w4.ownsRow w3.heap.size 53 2 (.slice ra (formR S m.E p.B).length rc) (formR S m.E p.B).length (flatR (formR S m.E p.B))) := hR
    clear hB hT hR hTR
    refine hK.out _ _ ?_ (fun hHeld => ?_)
    · exact HB34.out
    clear hK K
    try simp only [Act.put, List.setIfInBounds_toArray, List.set_cons_zero, List.set_cons_succ]
    refine wpAnyH_take (i := 9) (oi := ⟨some 33, _, _, _, _, _⟩) (v := ?_) rfl (by kernel_rfl) (by kernel_rfl) (by kernel_rfl) (fun _ _ _ h => h) (Or.inl ⟨by rfl, ?_⟩) hHeld ?_
    rotate_left
    · intro w hSw; (try dsimp only at hSw); go_simp; all_goals (with_reducible rfl)
    try simp only [Act.put, List.setIfInBounds_toArray, List.set_cons_zero, List.set_cons_succ]
    refine wpAnyH_take (i := 10) (oi := ⟨some 43, _, _, _, _, _⟩) (v := ?_) rfl (by kernel_rfl) (by kernel_rfl) (by kernel_rfl) (fun _ _ _ h => h) (Or.inl ⟨by rfl, ?_⟩) hHeld ?_
    rotate_left
    · intro w hSw; (try dsimp only at hSw); go_simp; all_goals (with_reducible rfl)
    try simp only [Act.put, List.setIfInBounds_toArray, List.set_cons_zero, List.set_cons_succ]
    refine wpAnyH_take (i := 11) (oi := ⟨some 44, _, _, _, _, _⟩) (v := ?_) rfl (by kernel_rfl) (by kernel_rfl) (by kernel_rfl) (fun _ _ _ h => h) (Or.inl ⟨by rfl, ?_⟩) hHeld ?_
    rotate_left
    · intro w hSw; (try dsimp only at hSw); go_simp; all_goals (with_reducible rfl)
    try simp only [Act.put, List.setIfInBounds_toArray, List.set_cons_zero, List.set_cons_succ]
    refine wpAnyH_take (i := 12) (oi := ⟨some 45, _, _, _, _, _⟩) (v := ?_) rfl (by kernel_rfl) (by kernel_rfl) (by kernel_rfl) (fun _ _ _ h => h) (Or.inl ⟨by rfl, ?_⟩) hHeld ?_
    rotate_left
    · intro w hSw; (try dsimp only at hSw); go_simp; all_goals (with_reducible rfl)
    try simp only [Act.put, List.setIfInBounds_toArray, List.set_cons_zero, List.set_cons_succ]
    refine wpAnyH_take (i := 13) (oi := ⟨some 8, _, _, _, _, _⟩) (v := ?_) rfl (by kernel_rfl) (by kernel_rfl) (by kernel_rfl) (fun _ _ _ h => h) (Or.inl ⟨by rfl, ?_⟩) hHeld ?_
    rotate_left
    · intro w hSw; (try dsimp only at hSw); go_simp; all_goals (with_reducible rfl)
    try simp only [Act.put, List.setIfInBounds_toArray, List.set_cons_zero, List.set_cons_succ]
    refine wpAnyH_take (i := 14) (oi := ⟨some 9, _, _, _, _, _⟩) (v := ?_) rfl (by kernel_rfl) (by kernel_rfl) (by kernel_rfl) (fun _ _ _ h => h) (Or.inl ⟨by rfl, ?_⟩) hHeld ?_
    rotate_left
    · intro w hSw; (try dsimp only at hSw); go_simp; all_goals (with_reducible rfl)
    try simp only [Act.put, List.setIfInBounds_toArray, List.set_cons_zero, List.set_cons_succ]
    refine wpAnyH_take (i := 15) (oi := ⟨some 10, _, _, _, _, _⟩) (v := ?_) rfl (by kernel_rfl) (by kernel_rfl) (by kernel_rfl) (fun _ _ _ h => h) (Or.inl ⟨by rfl, ?_⟩) hHeld ?_
    rotate_left
    · intro w hSw; (try dsimp only at hSw); go_simp; all_goals (with_reducible rfl)
    try simp only [Act.put, List.setIfInBounds_toArray, List.set_cons_zero, List.set_cons_succ]
    refine wpAnyH_done (by kernel_rfl) ?_ _
    refine NoPanic.normal ?_
    have HFit : Hid (Fit S m.E) := form_fits b1 b2 HF.out
    have HEL : Hid (m.E.length ≤ 4) := by have h1 := HFit.out.1; have h2 := HS.out.good.np4; show _ ≤ _; omega
    have HRC : Hid _ := tab_rec HS.out.good (a := m.E) (m := p.B) HEL.out
    have HEQ : Hid (formL S m.E p.B = formT S m.E p.B) := by show _ = _; unfold formL; rw [if_pos HF.out]
    have HB4 : Hid (Below w.heap.size w w4) := below_trans HB3.out HB34.out
    have HX4 : Hid _ := HX3.out.keep HB34.out
    have HN4 : Hid _ := HN.out.below HB4.out
    obtain ⟨nt, hnt⟩ : ∃ nt, nt = (formL S m.E p.B).length := ⟨_, rfl⟩
    obtain ⟨nr, hnr⟩ : ∃ nr, nr = (formR S m.E p.B).length := ⟨_, rfl⟩
    rw [← hnt] at HT ⊢
    rw [← hnr] at HR ⊢
    have HNT : Hid (nt = (formL S m.E p.B).length) := hnt
    have HNR : Hid (nr = (formR S m.E p.B).length) := hnr
    clear hnt hnr c5 x6
    go_upto_region 7 with fail
    have c3 := fun wx (h : Below w4.heap.size w4 wx) => (HN4.out.below h).cells.2.2.2.1
    have c4 := fun wx (h : Below w4.heap.size w4 wx) => (HN4.out.below h).cells.2.2.2.2.1
    refine wp_region_noPanic ?_
    refine wp_region_held_drew (S := fun wx => Below w4.heap.size w4 wx) (by kernel_rfl) ?_ (fun hHeld => ?_)
    · exact below_drewN w4 1
    refine wpAnyH_take (i := 0) (oi := ⟨some 49, _, _, _, _, _⟩) (v := ?_) rfl (by kernel_rfl) (by kernel_rfl) (by kernel_rfl) (fun _ _ _ h => h) (Or.inl ⟨by rfl, ?_⟩) hHeld ?_
    rotate_left
    · intro w hSw; (try dsimp only at hSw); go_simp; all_goals (with_reducible rfl)
    try simp only [Act.put, List.setIfInBounds_toArray, List.set_cons_zero, List.set_cons_succ]
    refine wpAnyH_take (i := 1) (oi := ⟨some 50, _, _, _, _, _⟩) (v := ?_) rfl (by kernel_rfl) (by kernel_rfl) (by kernel_rfl) (fun _ _ _ h => h) (Or.inl ⟨by rfl, ?_⟩) hHeld ?_
    rotate_left
    · intro w hSw; (try dsimp only at hSw); go_simp; all_goals (with_reducible rfl)
    try simp only [Act.put, List.setIfInBounds_toArray, List.set_cons_zero, List.set_cons_succ]
    refine wpAnyH_take (i := 2) (oi := ⟨some 51, _, _, _, _, _⟩) (v := ?_) rfl (by kernel_rfl) (by kernel_rfl) (by kernel_rfl) (fun _ _ _ h => h) (Or.inl ⟨by rfl, ?_⟩) hHeld ?_
    rotate_left
    · intro w hSw; (try dsimp only at hSw); go_simp; all_goals (with_reducible rfl)
    try simp only [Act.put, List.setIfInBounds_toArray, List.set_cons_zero, List.set_cons_succ]
    refine wpAnyH_take (i := 3) (oi := ⟨some 52, _, _, _, _, _⟩) (v := ?_) rfl (by kernel_rfl) (by kernel_rfl) (by kernel_rfl) (fun _ _ _ h => h) (Or.inl ⟨by rfl, ?_⟩) hHeld ?_
    rotate_left
    · intro w hSw; (try dsimp only at hSw); go_simp; all_goals (with_reducible rfl)
    try simp only [Act.put, List.setIfInBounds_toArray, List.set_cons_zero, List.set_cons_succ]
    refine wpAnyH_take (i := 4) (oi := ⟨some 53, _, _, _, _, _⟩) (v := ?_) rfl (by kernel_rfl) (by kernel_rfl) (by kernel_rfl) (fun _ _ _ h => h) (Or.inl ⟨by rfl, ?_⟩) hHeld ?_
    rotate_left
    · intro w hSw; (try dsimp only at hSw); go_simp; all_goals (with_reducible rfl)
    try simp only [Act.put, List.setIfInBounds_toArray, List.set_cons_zero, List.set_cons_succ]
    refine wpAnyH_take (i := 5) (oi := ⟨some 54, _, _, _, _, _⟩) (v := ?_) rfl (by kernel_rfl) (by kernel_rfl) (by kernel_rfl) (fun _ _ _ h => h) (Or.inl ⟨by rfl, ?_⟩) hHeld ?_
    rotate_left
    · intro w hSw; (try dsimp only at hSw); go_simp; all_goals (with_reducible rfl)
    try simp only [Act.put, List.setIfInBounds_toArray, List.set_cons_zero, List.set_cons_succ]
    refine wpAnyH_take (i := 6) (oi := ⟨some 55, _, _, _, _, _⟩) (v := ?_) rfl (by kernel_rfl) (by kernel_rfl) (by kernel_rfl) (fun _ _ _ h => h) (Or.inl ⟨by rfl, ?_⟩) hHeld ?_
    rotate_left
    · intro w hSw; (try dsimp only at hSw); go_simp; all_goals (with_reducible rfl)
    try simp only [Act.put, List.setIfInBounds_toArray, List.set_cons_zero, List.set_cons_succ]
    refine wpAnyH_take (i := 7) (oi := ⟨some 56, _, _, _, _, _⟩) (v := ?_) rfl (by kernel_rfl) (by kernel_rfl) (by kernel_rfl) (fun _ _ _ h => h) (Or.inl ⟨by rfl, ?_⟩) hHeld ?_
    rotate_left
    · intro w hSw; (try dsimp only at hSw); go_simp; all_goals (with_reducible rfl)
    try simp only [Act.put, List.setIfInBounds_toArray, List.set_cons_zero, List.set_cons_succ]
    refine wpAnyH_take (i := 8) (oi := ⟨some 57, _, _, _, _, _⟩) (v := ?_) rfl (by kernel_rfl) (by kernel_rfl) (by kernel_rfl) (fun _ _ _ h => h) (Or.inl ⟨by rfl, ?_⟩) hHeld ?_
    rotate_left
    · intro w hSw; (try dsimp only at hSw); go_simp; all_goals (with_reducible rfl)
    try simp only [Act.put, List.setIfInBounds_toArray, List.set_cons_zero, List.set_cons_succ]
    refine wpAnyH_take (i := 9) (oi := ⟨some 58, _, _, _, _, _⟩) (v := ?_) rfl (by kernel_rfl) (by kernel_rfl) (by kernel_rfl) (fun _ _ _ h => h) (Or.inl ⟨by rfl, ?_⟩) hHeld ?_
    rotate_left
    · intro w hSw; (try dsimp only at hSw); go_simp; all_goals (with_reducible rfl)
    try simp only [Act.put, List.setIfInBounds_toArray, List.set_cons_zero, List.set_cons_succ]
    refine wpAnyH_take (i := 10) (oi := ⟨some 59, _, _, _, _, _⟩) (v := ?_) rfl (by kernel_rfl) (by kernel_rfl) (by kernel_rfl) (fun _ _ _ h => h) (Or.inl ⟨by rfl, ?_⟩) hHeld ?_
    rotate_left
    · intro w hSw; (try dsimp only at hSw); go_simp; all_goals (with_reducible rfl)
    try simp only [Act.put, List.setIfInBounds_toArray, List.set_cons_zero, List.set_cons_succ]
    refine wpAnyH_ready (rs := [11]) (by kernel_rfl) (by simp) ?_
    refine AllReadyH.cons (o := ⟨some 60, _, _, _, _, _⟩) rfl (fun K hK => ?_) AllReadyH.nil
    go_simp
    refine (batch_good (kind := p.A) (l := p.l) (recs := formR S m.E p.B) (HN4.out.below (below_drewN w4 1)).ov ((own_rv HR.out HRC.out.2).below (below_drewN w4 1)) (Pn.is_kn HIS.out).1 (Pn.is_kn HIS.out).2 (by have := HRC.out.1; omega)).mono ?_
    rintro e w5 ⟨g, rfl, hMq, hg1, hg2, hB⟩
    have HB45 : Hid (Below w4.heap.size w4 w5) := below_trans (below_drewN w4 1) hB
    have HMQ : Hid (Mq w5 g (batchT p.l p.A (formR S m.E p.B))) := hMq
    have HGL : Hid (w4.heap.size ≤ g ∧ g < w5.heap.size) := ⟨hg1, hg2⟩
    clear hMq hg1 hg2 hB
    refine hK.out _ _ ?_ (fun hHeld => ?_)
    · exact HB45.out
    clear hK K
    try simp only [Act.put, List.setIfInBounds_toArray, List.set_cons_zero, List.set_cons_succ]
    refine wpAnyH_take (i := 12) (oi := ⟨some 48, _, _, _, _, _⟩) (v := ?_) rfl (by kernel_rfl) (by kernel_rfl) (by kernel_rfl) (fun _ _ _ h => h) (Or.inl ⟨by rfl, ?_⟩) hHeld ?_
    rotate_left
    · intro w hSw; (try dsimp only at hSw); go_simp; all_goals (with_reducible rfl)
    try simp only [Act.put, List.setIfInBounds_toArray, List.set_cons_zero, List.set_cons_succ]
    refine wpAnyH_take (i := 13) (oi := ⟨some 61, _, _, _, _, _⟩) (v := ?_) rfl (by kernel_rfl) (by kernel_rfl) (by kernel_rfl) (fun _ _ _ h => h) (Or.inl ⟨by rfl, ?_⟩) hHeld ?_
    rotate_left
    · intro w hSw; (try dsimp only at hSw); go_simp; all_goals (with_reducible rfl)
    try simp only [Act.put, List.setIfInBounds_toArray, List.set_cons_zero, List.set_cons_succ]
    refine wpAnyH_take (i := 14) (oi := ⟨some 62, _, _, _, _, _⟩) (v := ?_) rfl (by kernel_rfl) (by kernel_rfl) (by kernel_rfl) (fun _ _ _ h => h) (Or.inl ⟨by rfl, ?_⟩) hHeld ?_
    rotate_left
    · intro w hSw; (try dsimp only at hSw); go_simp; all_goals (with_reducible rfl)
    try simp only [Act.put, List.setIfInBounds_toArray, List.set_cons_zero, List.set_cons_succ]
    refine wpAnyH_take (i := 15) (oi := ⟨some 63, _, _, _, _, _⟩) (v := ?_) rfl (by kernel_rfl) (by kernel_rfl) (by kernel_rfl) (fun _ _ _ h => h) (Or.inl ⟨by rfl, ?_⟩) hHeld ?_
    rotate_left
    · intro w hSw; (try dsimp only at hSw); go_simp; all_goals (with_reducible rfl)
    try simp only [Act.put, List.setIfInBounds_toArray, List.set_cons_zero, List.set_cons_succ]
    refine wpAnyH_take (i := 16) (oi := ⟨some 11, _, _, _, _, _⟩) (v := ?_) rfl (by kernel_rfl) (by kernel_rfl) (by kernel_rfl) (fun _ _ _ h => h) (Or.inl ⟨by rfl, ?_⟩) hHeld ?_
    rotate_left
    · intro w hSw; (try dsimp only at hSw); go_simp; all_goals (with_reducible rfl)
    try simp only [Act.put, List.setIfInBounds_toArray, List.set_cons_zero, List.set_cons_succ]
    refine wpAnyH_take (i := 17) (oi := ⟨some 12, _, _, _, _, _⟩) (v := ?_) rfl (by kernel_rfl) (by kernel_rfl) (by kernel_rfl) (fun _ _ _ h => h) (Or.inl ⟨by rfl, ?_⟩) hHeld ?_
    rotate_left
    · intro w hSw; (try dsimp only at hSw); go_simp; all_goals (with_reducible rfl)
    try simp only [Act.put, List.setIfInBounds_toArray, List.set_cons_zero, List.set_cons_succ]
    refine wpAnyH_take (i := 18) (oi := ⟨some 13, _, _, _, _, _⟩) (v := ?_) rfl (by kernel_rfl) (by kernel_rfl) (by kernel_rfl) (fun _ _ _ h => h) (Or.inl ⟨by rfl, ?_⟩) hHeld ?_
    rotate_left
    · intro w hSw; (try dsimp only at hSw); go_simp; all_goals (with_reducible rfl)
    try simp only [Act.put, List.setIfInBounds_toArray, List.set_cons_zero, List.set_cons_succ]
    refine wpAnyH_done (by kernel_rfl) ?_ _
    refine NoPanic.normal ?_
    have HB5 : Hid (Below w.heap.size w w5) := below_trans HB4.out HB45.out
    have HX5 : Hid _ := HX4.out.keep HB45.out
    have HN5 : Hid _ := HN.out.below HB5.out
    have HTOK : Hid (okT (batchT p.l p.A (formR S m.E p.B))) := batch_ok HRC.out.2
    have HTL : Hid ((batchT p.l p.A (formR S m.E p.B)).length ≤ 1024) := Nat.le_trans (batch_len _ _ _) HRC.out.1
    obtain ⟨T, hTT⟩ : ∃ T, T = batchT p.l p.A (formR S m.E p.B) := ⟨_, rfl⟩
    rw [← hTT] at HMQ HTOK HTL HR0 ⊢
    clear hTT
    have HQV : Hid (Qv w5 (.slice (some ⟨g, 0, none⟩) T.length T.length) T) := by have h := mq_qv HMQ.out (Nat.le_refl _) (Nat.le_refl T.length) (by have := HTL.out; unfold maxLen; omega) HTOK.out; rw [List.take_length] at h; exact h
    have HT5 : Hid _ := own_belowC HT.out HB45.out
    clear HMQ c3 c4 HR HT HX4 HN4
    go_upto_region 8 with fail
    have c0 := fun wx (h : Below w5.heap.size w5 wx) => (HN5.out.below h).cells.1
    have c1 := fun wx (h : Below w5.heap.size w5 wx) => (HN5.out.below h).cells.2.1
    have c2 := fun wx (h : Below w5.heap.size w5 wx) => (HN5.out.below h).cells.2.2.1
    have c3 := fun wx (h : Below w5.heap.size w5 wx) => (HN5.out.below h).cells.2.2.2.1
    have c4 := fun wx (h : Below w5.heap.size w5 wx) => (HN5.out.below h).cells.2.2.2.2.1
    have c5 := fun wx (h : Below w5.heap.size w5 wx) => (HN5.out.below h).cells.2.2.2.2.2.1
    have c6 := fun wx (h : Below w5.heap.size w5 wx) => (HN5.out.below h).cells.2.2.2.2.2.2.1
    have c7 := fun wx (h : Below w5.heap.size w5 wx) => (HN5.out.below h).cells.2.2.2.2.2.2.2.1
    have x4 := fun wx (h : Below w5.heap.size w5 wx) => (HX5.out.keep h).c4
    have hmk := make_bl HIS.out
    refine wp_region_noPanic ?_
    refine wp_region_held_drew (S := fun wx => Below w5.heap.size w5 wx) (by kernel_rfl) ?_ (fun hHeld => ?_)
    · exact below_drewN w5 1
    refine wpAnyH_take (i := 0) (oi := ⟨some 64, _, _, _, _, _⟩) (v := ?_) rfl (by kernel_rfl) (by kernel_rfl) (by kernel_rfl) (fun _ _ _ h => h) (Or.inl ⟨by rfl, ?_⟩) hHeld ?_
    rotate_left
    · intro w hSw; (try dsimp only at hSw); go_simp; all_goals (with_reducible rfl)
    try simp only [Act.put, List.setIfInBounds_toArray, List.set_cons_zero, List.set_cons_succ]
    refine wpAnyH_take (i := 1) (oi := ⟨some 65, _, _, _, _, _⟩) (v := ?_) rfl (by kernel_rfl) (by kernel_rfl) (by kernel_rfl) (fun _ _ _ h => h) (Or.inl ⟨by rfl, ?_⟩) hHeld ?_
    rotate_left
    · intro w hSw; (try dsimp only at hSw); go_simp; all_goals (with_reducible rfl)
    try simp only [Act.put, List.setIfInBounds_toArray, List.set_cons_zero, List.set_cons_succ]
    refine wpAnyH_take (i := 2) (oi := ⟨some 66, _, _, _, _, _⟩) (v := ?_) rfl (by kernel_rfl) (by kernel_rfl) (by kernel_rfl) (fun _ _ _ h => h) (Or.inl ⟨by rfl, ?_⟩) hHeld ?_
    rotate_left
    · intro w hSw; (try dsimp only at hSw); go_simp; all_goals (with_reducible rfl)
    try simp only [Act.put, List.setIfInBounds_toArray, List.set_cons_zero, List.set_cons_succ]
    refine wpAnyH_take (i := 3) (oi := ⟨some 67, _, _, _, _, _⟩) (v := ?_) rfl (by kernel_rfl) (by kernel_rfl) (by kernel_rfl) (fun _ _ _ h => h) (Or.inl ⟨by rfl, ?_⟩) hHeld ?_
    rotate_left
    · intro w hSw; (try dsimp only at hSw); go_simp; all_goals (with_reducible rfl)
    try simp only [Act.put, List.setIfInBounds_toArray, List.set_cons_zero, List.set_cons_succ]
    refine wpAnyH_take (i := 4) (oi := ⟨some 68, _, _, _, _, _⟩) (v := ?_) rfl (by kernel_rfl) (by kernel_rfl) (by kernel_rfl) (fun _ _ _ h => h) (Or.inl ⟨by rfl, ?_⟩) hHeld ?_
    rotate_left
    · intro w hSw; (try dsimp only at hSw); go_simp; all_goals (with_reducible rfl)
    try simp only [Act.put, List.setIfInBounds_toArray, List.set_cons_zero, List.set_cons_succ]
    refine wpAnyH_take (i := 5) (oi := ⟨some 69, _, _, _, _, _⟩) (v := ?_) rfl (by kernel_rfl) (by kernel_rfl) (by kernel_rfl) (fun _ _ _ h => h) (Or.inl ⟨by rfl, ?_⟩) hHeld ?_
    rotate_left
    · intro w hSw; (try dsimp only at hSw); go_simp; all_goals (with_reducible rfl)
    try simp only [Act.put, List.setIfInBounds_toArray, List.set_cons_zero, List.set_cons_succ]
    refine wpAnyH_take (i := 6) (oi := ⟨some 70, _, _, _, _, _⟩) (v := ?_) rfl (by kernel_rfl) (by kernel_rfl) (by kernel_rfl) (fun _ _ _ h => h) (Or.inl ⟨by rfl, ?_⟩) hHeld ?_
    rotate_left
    · intro w hSw; (try dsimp only at hSw); go_simp; all_goals (with_reducible rfl)
    try simp only [Act.put, List.setIfInBounds_toArray, List.set_cons_zero, List.set_cons_succ]
    refine wpAnyH_take (i := 7) (oi := ⟨some 71, _, _, _, _, _⟩) (v := ?_) rfl (by kernel_rfl) (by kernel_rfl) (by kernel_rfl) (fun _ _ _ h => h) (Or.inl ⟨by rfl, ?_⟩) hHeld ?_
    rotate_left
    · intro w hSw; (try dsimp only at hSw); go_simp; all_goals (with_reducible rfl)
    try simp only [Act.put, List.setIfInBounds_toArray, List.set_cons_zero, List.set_cons_succ]
    refine wpAnyH_take (i := 9) (oi := ⟨some 73, _, _, _, _, _⟩) (v := ?_) rfl (by kernel_rfl) (by kernel_rfl) (by kernel_rfl) (fun _ _ _ h => h) (Or.inl ⟨by rfl, ?_⟩) hHeld ?_
    rotate_left
    · intro w hSw; (try dsimp only at hSw); go_simp; all_goals (with_reducible rfl)
    try simp only [Act.put, List.setIfInBounds_toArray, List.set_cons_zero, List.set_cons_succ]
    refine wpAnyH_take (i := 10) (oi := ⟨some 74, _, _, _, _, _⟩) (v := ?_) rfl (by kernel_rfl) (by kernel_rfl) (by kernel_rfl) (fun _ _ _ h => h) (Or.inl ⟨by rfl, ?_⟩) hHeld ?_
    rotate_left
    · intro w hSw; (try dsimp only at hSw); go_simp; all_goals (with_reducible rfl)
    try simp only [Act.put, List.setIfInBounds_toArray, List.set_cons_zero, List.set_cons_succ]
    refine wpAnyH_take (i := 11) (oi := ⟨some 75, _, _, _, _, _⟩) (v := ?_) rfl (by kernel_rfl) (by kernel_rfl) (by kernel_rfl) (fun _ _ _ h => h) (Or.inl ⟨by rfl, ?_⟩) hHeld ?_
    rotate_left
    · intro w hSw; (try dsimp only at hSw); go_simp; all_goals (with_reducible rfl)
    try simp only [Act.put, List.setIfInBounds_toArray, List.set_cons_zero, List.set_cons_succ]
    refine wpAnyH_take (i := 12) (oi := ⟨some 76, _, _, _, _, _⟩) (v := ?_) rfl (by kernel_rfl) (by kernel_rfl) (by kernel_rfl) (fun _ _ _ h => h) (Or.inl ⟨by rfl, ?_⟩) hHeld ?_
    rotate_left
    · intro w hSw; (try dsimp only at hSw); go_simp; all_goals (with_reducible rfl)
    try simp only [Act.put, List.setIfInBounds_toArray, List.set_cons_zero, List.set_cons_succ]
    refine wpAnyH_take (i := 13) (oi := ⟨some 77, _, _, _, _, _⟩) (v := ?_) rfl (by kernel_rfl) (by kernel_rfl) (by kernel_rfl) (fun _ _ _ h => h) (Or.inl ⟨by rfl, ?_⟩) hHeld ?_
    rotate_left
    · intro w hSw; (try dsimp only at hSw); go_simp; all_goals (with_reducible rfl)
    try simp only [Act.put, List.setIfInBounds_toArray, List.set_cons_zero, List.set_cons_succ]
    refine wpAnyH_ready (rs := [8, 14]) (by kernel_rfl) (by simp) ?_
    refine AllReadyH.cons (o := ⟨some 72, _, _, _, _, _⟩) rfl (fun K hK => ?_) (AllReadyH.cons (o := ⟨some 78, _, _, _, _, _⟩) rfl (fun K hK => ?_) AllReadyH.nil)
    · go_simp
      refine (deal_walk (p := p) (HN5.out.below (below_drewN w5 1)).ov (HQV.out.below (below_drewN w5 1)) (by have := HTL.out; omega)).mono ?_
      rintro e w6 ⟨dv, rfl, ⟨vs, hDl, _⟩, hB⟩
      have HDL0 : Hid (Dl w5.heap.size w6 dv p.n vs (dealF p T)) := ⟨own_baseC hDl.row (Below.size (below_drewN w5 1)), fun i hi => own_baseC (hDl.own i hi) (Below.size (below_drewN w5 1))⟩
      obtain ⟨da, dc, rfl⟩ := own_formN hDl.row
      have HB5B : Hid (Below w5.heap.size w5 w6) := below_trans (below_drewN w5 1) hB
      clear hDl hB
      refine hK.out _ _ ?_ (fun hHeld => ?_)
      · exact HB5B.out
      clear hK K
      try simp only [Act.put, List.setIfInBounds_toArray, List.set_cons_zero, List.set_cons_succ]
      refine wpAnyH_ready (rs := [14]) (by kernel_rfl) (by simp) ?_
      refine AllReadyH.cons (o := ⟨some 78, _, _, _, _, _⟩) rfl (fun K hK => ?_) AllReadyH.nil
      go_simp
      refine hK.out _ _ ?_ (fun hHeld => ?_)
      · exact (below_trans HB5B.out (below_alloc _ _))
      clear hK K
      try simp only [Act.put, List.setIfInBounds_toArray, List.set_cons_zero, List.set_cons_succ]
      refine wpAnyH_take (i := 15) (oi := ⟨some 79, _, _, _, _, _⟩) (v := ?_) rfl (by kernel_rfl) (by kernel_rfl) (by kernel_rfl) (fun _ _ _ h => h) (Or.inl ⟨by rfl, ?_⟩) hHeld ?_
      rotate_left
      · intro w hSw; (try dsimp only at hSw); go_simp; all_goals (with_reducible rfl)
      try simp only [Act.put, List.setIfInBounds_toArray, List.set_cons_zero, List.set_cons_succ]
      refine wpAnyH_ready (rs := [16]) (by kernel_rfl) (by simp) ?_
      refine AllReadyH.cons (o := ⟨some 80, _, _, _, _, _⟩) rfl (fun K hK => ?_) AllReadyH.nil
      go_simp
      refine hK.out _ _ ?_ (fun hHeld => ?_)
      · exact (below_trans (below_trans HB5B.out (below_alloc _ _)) (below_alloc _ _))
      clear hK K
      try simp only [Act.put, List.setIfInBounds_toArray, List.set_cons_zero, List.set_cons_succ]
      refine wpAnyH_take (i := 17) (oi := ⟨some 14, _, _, _, _, _⟩) (v := ?_) rfl (by kernel_rfl) (by kernel_rfl) (by kernel_rfl) (fun _ _ _ h => h) (Or.inl ⟨by rfl, ?_⟩) hHeld ?_
      rotate_left
      · intro w hSw; (try dsimp only at hSw); go_simp; all_goals (with_reducible rfl)
      try simp only [Act.put, List.setIfInBounds_toArray, List.set_cons_zero, List.set_cons_succ]
      refine wpAnyH_done (by kernel_rfl) ?_ _
      refine NoPanic.normal ?_
      obtain ⟨w7, hw7⟩ : ∃ w7, w7 = w6.alloc (Obj.cells (madeCells #[Value.bool false] p.S.toNat) 4) := ⟨_, rfl⟩
      have HDL : Hid (Dl w5.heap.size w7 (.slice da p.n dc) p.n vs (dealF p T)) := by rw [hw7]; exact HDL0.out.below (below_alloc _ _)
      have HAV : Hid (w7.ownsRow w5.heap.size 4 1 (.slice (some ⟨w6.heap.size, 0, none⟩) p.S.toNat p.S.toNat) p.S.toNat ((List.replicate p.S.toNat false).map Value.bool)) := by rw [hw7]; exact own_baseC (made_bl w6 p.S.toNat (by omega)) HB5B.out.size
      have HB57 : Hid (Below w5.heap.size w5 w7) := by rw [hw7]; exact below_trans HB5B.out (below_alloc _ _)
      have hsz : w6.heap.size + 1 = w7.heap.size := by rw [hw7, size_allocC]
      rw [hsz, ← hw7]
      clear hsz hw7
      generalize w6.heap.size = ga at HAV ⊢
      clear HDL0 HB5B
      have HB7 : Hid (Below w.heap.size w w7) := below_trans HB5.out HB57.out
      rw [← Pn.n_is HIS.out] at HAV ⊢
      have HAO : Hid (Ao (w7.alloc (Obj.cells #[.int .i64 m.A, .slice ta nt tc, .slice da p.n dc, .slice (some ⟨ga, 0, none⟩) p.n p.n, .bool false] 132)) p ⟨⟨m.B, m.A, formL S m.E p.B, T, List.replicate p.n false, false⟩, w7.heap.size, .slice ta nt tc, .slice da p.n dc, .slice (some ⟨ga, 0, none⟩) p.n p.n, w.heap.size, w7.heap.size + 1⟩) := asg_ao HB3.out.size HB5.out.size HB57.out.size (by have h := own_belowC HT5.out HB57.out; rw [HNT.out] at h ⊢; exact h) (by rw [HEQ.out]; exact form_in64 HS.out.good HFit.out b1) (by rw [HEQ.out, form_len]; exact HEL.out) HDL.out HTOK.out HTL.out HAV.out HKA.out HK.out
      have HB8 : Hid _ := below_trans HB7.out (below_alloc w7 (Obj.cells #[.int .i64 m.A, .slice ta nt tc, .slice da p.n dc, .slice (some ⟨ga, 0, none⟩) p.n p.n, .bool false] 132))
      have HX8 : Hid _ := (HX5.out.keep HB57.out).keep (below_alloc w7 (Obj.cells #[.int .i64 m.A, .slice ta nt tc, .slice da p.n dc, .slice (some ⟨ga, 0, none⟩) p.n p.n, .bool false] 132))
      obtain ⟨y, hy⟩ : ∃ y : At, y = ⟨⟨m.B, m.A, formL S m.E p.B, T, List.replicate p.n false, false⟩, w7.heap.size, .slice ta nt tc, .slice da p.n dc, .slice (some ⟨ga, 0, none⟩) p.n p.n, w.heap.size, w7.heap.size + 1⟩ := ⟨_, rfl⟩
      rw [← hy] at HAO
      generalize w7.alloc (Obj.cells #[.int .i64 m.A, .slice ta nt tc, .slice da p.n dc, .slice (some ⟨ga, 0, none⟩) p.n p.n, .bool false] 132) = w8 at HAO HB8 HX8 ⊢
      have HYX : Hid (y.x = w7.heap.size ∧ y.lo = w.heap.size ∧ y.h.n = m.B ∧ y.h.E = formL S m.E p.B ∧ y.h = ⟨m.B, m.A, formL S m.E p.B, T, List.replicate p.n false, false⟩) := by rw [hy]; exact ⟨rfl, rfl, rfl, rfl, rfl⟩
      generalize w7.heap.size = X at HYX ⊢
      clear hy HDL HAV HB57 HB7 HT5 HQV c0 c1 c2 c3 c4 c5 c6 c7 x4 hmk HN5 HX5 HB45 HB34
      go_upto_region 9 with fail
      have HN8 : Hid _ := HN.out.below HB8.out
      have HQB : Hid (Q ≠ b) := by have h1 := HN.out.ltb; have h2 := HQ.out; show ¬ Q = b; omega
      have HSF : Hid (∀ wz, Ch (fun z => z = b) w8 wz → wz.cell? ⟨P, 9, none⟩ = some (.map (some b)) ∧ wz.cell? ⟨Q, 3, none⟩ = some (.int .i64 m.B)) := fun wz h => ⟨h.cell HN8.out.cells.2.2.2.2.2.2.2.2.2 HN8.out.pb, h.cell HX8.out.c3 HQB.out⟩
      refine wp_region_noPanic ?_
      refine wp_region_held_drew (S := fun wz => wz.cell? ⟨P, 9, none⟩ = some (.map (some b)) ∧ wz.cell? ⟨Q, 3, none⟩ = some (.int .i64 m.B)) (by kernel_rfl) ?_ (fun hHeld => ?_)
      · exact (HSF.out _ (Ch.of_below (below_drewN w8 1)))
      refine wpAnyH_take (i := 0) (oi := ⟨some 81, _, _, _, _, _⟩) (v := ?_) rfl (by kernel_rfl) (by kernel_rfl) (by kernel_rfl) (fun _ _ _ h => h) (Or.inl ⟨by rfl, ?_⟩) hHeld ?_
      rotate_left
      · intro w hSw; (try dsimp only at hSw); go_simp; all_goals (with_reducible rfl)
      try simp only [Act.put, List.setIfInBounds_toArray, List.set_cons_zero, List.set_cons_succ]
      refine wpAnyH_take (i := 1) (oi := ⟨some 82, _, _, _, _, _⟩) (v := ?_) rfl (by kernel_rfl) (by kernel_rfl) (by kernel_rfl) (fun _ _ _ h => h) (Or.inl ⟨by rfl, ?_⟩) hHeld ?_
      rotate_left
      · intro w hSw; (try dsimp only at hSw); go_simp; all_goals (with_reducible rfl)
      try simp only [Act.put, List.setIfInBounds_toArray, List.set_cons_zero, List.set_cons_succ]
      refine wpAnyH_take (i := 2) (oi := ⟨some 83, _, _, _, _, _⟩) (v := ?_) rfl (by kernel_rfl) (by kernel_rfl) (by kernel_rfl) (fun _ _ _ h => h) (Or.inl ⟨by rfl, ?_⟩) hHeld ?_
      rotate_left
      · intro w hSw; (try dsimp only at hSw); go_simp; all_goals (with_reducible rfl)
      try simp only [Act.put, List.setIfInBounds_toArray, List.set_cons_zero, List.set_cons_succ]
      refine wpAnyH_take (i := 3) (oi := ⟨some 84, _, _, _, _, _⟩) (v := ?_) rfl (by kernel_rfl) (by kernel_rfl) (by kernel_rfl) (fun _ _ _ h => h) (Or.inl ⟨by rfl, ?_⟩) hHeld ?_
      rotate_left
      · intro w hSw; (try dsimp only at hSw); go_simp; all_goals (with_reducible rfl)
      try simp only [Act.put, List.setIfInBounds_toArray, List.set_cons_zero, List.set_cons_succ]
      refine wpAnyH_take (i := 4) (oi := ⟨some 85, _, _, _, _, _⟩) (v := ?_) rfl (by kernel_rfl) (by kernel_rfl) (by kernel_rfl) (fun _ _ _ h => h) (Or.inl ⟨by rfl, ?_⟩) hHeld ?_
      rotate_left
      · intro w hSw; (try dsimp only at hSw); go_simp; all_goals (with_reducible rfl)
      try simp only [Act.put, List.setIfInBounds_toArray, List.set_cons_zero, List.set_cons_succ]
      refine wpAnyH_take (i := 5) (oi := ⟨some 86, _, _, _, _, _⟩) (v := ?_) rfl (by kernel_rfl) (by kernel_rfl) (by kernel_rfl) (fun _ _ _ h => h) (Or.inl ⟨by rfl, ?_⟩) hHeld ?_
      rotate_left
      · intro w hSw; (try dsimp only at hSw); go_simp; all_goals (with_reducible rfl)
      try simp only [Act.put, List.setIfInBounds_toArray, List.set_cons_zero, List.set_cons_succ]
      refine wpAnyH_take (i := 6) (oi := ⟨some 87, _, _, _, _, _⟩) (v := ?_) rfl (by kernel_rfl) (by kernel_rfl) (by kernel_rfl) (fun _ _ _ h => h) (Or.inl ⟨by rfl, ?_⟩) hHeld ?_
      rotate_left
      · intro w hSw; (try dsimp only at hSw); go_simp; all_goals (with_reducible rfl)
      try simp only [Act.put, List.setIfInBounds_toArray, List.set_cons_zero, List.set_cons_succ]
      refine wpAnyH_ready (rs := [7]) (by kernel_rfl) (by simp) ?_
      refine AllReadyH.cons (o := ⟨none, _, _, _, _, _⟩) rfl (fun K hK => ?_) AllReadyH.nil
      obtain ⟨w9, hrun, hown9, hg9⟩ := World.ownsMap.update (own_mapB HN8.out.own (below_drewN w8 1)) law_i Tryz.underlying94 (by have := HL.out; unfold maxLen; omega) (key_i HK.out) (show heldE (.pointer (some ⟨X, 0, none⟩)) = some (.held _, []) from rfl)
      have hrun2 : Sem.run Tryz.prog (Instr.mapUpdate 94 (.map (some b)) (.int .i64 m.B) (.pointer (some ⟨X, 0, none⟩))) w8.drew = .ok () w9 := hrun
      go_simp
      refine hK.out _ _ ?_ (fun hHeld => ?_)
      · exact (HSF.out _ ((Ch.of_below (below_drewN w8 1)).self (Ch.of_grown hg9 (fun z hz => by cases hz; rfl))))
      clear hK K
      try simp only [Act.put, List.setIfInBounds_toArray, List.set_cons_zero, List.set_cons_succ]
      refine wpAnyH_done (by kernel_rfl) ?_ _
      refine NoPanic.normal ?_
      have HC9 : Hid (Ch (fun z => z = b) w8 w9) := (Ch.of_below (below_drewN w8 1)).self (Ch.of_grown hg9 (fun z hz => by cases hz; rfl))
      have HG9 : Hid (w8.grownBy w9 (some b)) := ⟨HC9.out.os, HC9.out.tape, HC9.out.output, HC9.out.size, fun z hz hne => HC9.out.block z hz (fun e => hne (by rw [e]))⟩
      have HW9 : Hid _ := HN.out.put (below_trans HB8.out (below_drewN w8 1)) (HAO.out.below (below_drewN w8 1)) (by rw [HYX.out.2.1]; exact Nat.le_refl _) (y := y) (by unfold ptA; rw [HYX.out.1, HYX.out.2.2.1]; exact hown9) hg9
      have HX9 : Hid _ := HX8.out.ch HC9.out HQB.out
      clear hown9 hg9 hrun hrun2 HX8 HN8 HSF
      have x0 := HX9.out.c0
      have x1 := HX9.out.c1
      have x2 := HX9.out.c2
      have x3 := HX9.out.c3
      have x4 := HX9.out.c4
      have x5 := HX9.out.c5
      have x6 := HX9.out.c6
      have x7 := HX9.out.c7
      have x8 := HX9.out.c8
      go_wp2_with fail
      rw [← HYX.out.1]
      refine (ofEnds_walk 2 HW9.out (a := y) (ins_mem.2 (.inl rfl))).mono ?_
      rintro e w10 ⟨v, rfl, hrow, hB10⟩
      obtain ⟨va, vc, rfl⟩ := own_formN hrow
      clear x0 x1 x2 x3 x4 x5 x6 x7 x8
      go_wp2_with fail
      go_ret
      refine ⟨_, rfl, ?_⟩
      rw [HR0.out]
      exact asg_end (m := m) HYX.out.2.2.2.1 HYX.out.2.2.2.2 HYX.out.2.2.1 HN.out HB8.out HAO.out HG9.out HW9.out (by rw [HYX.out.2.1]; exact Nat.le_refl _) hB10 hrow HK.out HKA.out
    · go_simp
      refine hK.out _ _ ?_ (fun hHeld => ?_)
      · exact (below_trans (below_drewN w5 1) (below_alloc _ _))
      clear hK K
      try simp only [Act.put, List.setIfInBounds_toArray, List.set_cons_zero, List.set_cons_succ]
      refine wpAnyH_ready (rs := [8]) (by kernel_rfl) (by simp) ?_
      refine AllReadyH.cons (o := ⟨some 72, _, _, _, _, _⟩) rfl (fun K hK => ?_) AllReadyH.nil
      go_simp
      refine (deal_walk (p := p) (HN5.out.below (below_trans (below_drewN w5 1) (below_alloc _ _))).ov (HQV.out.below (below_trans (below_drewN w5 1) (below_alloc _ _))) (by have := HTL.out; omega)).mono ?_
      rintro e w6 ⟨dv, rfl, ⟨vs, hDl, _⟩, hB⟩
      have HDL0 : Hid (Dl w5.heap.size w6 dv p.n vs (dealF p T)) := ⟨own_baseC hDl.row (Below.size (below_trans (below_drewN w5 1) (below_alloc _ _))), fun i hi => own_baseC (hDl.own i hi) (Below.size (below_trans (below_drewN w5 1) (below_alloc _ _)))⟩
      obtain ⟨da, dc, rfl⟩ := own_formN hDl.row
      have HB5B : Hid (Below w5.heap.size w5 w6) := below_trans (below_trans (below_drewN w5 1) (below_alloc _ _)) hB
      have HAV0 : Hid _ := own_belowC (own_baseC (made_bl (w5.drewN 1) p.S.toNat (by omega)) (below_drewN w5 1).size) hB
      clear hDl hB
      refine hK.out _ _ ?_ (fun hHeld => ?_)
      · exact HB5B.out
      clear hK K
      try simp only [Act.put, List.setIfInBounds_toArray, List.set_cons_zero, List.set_cons_succ]
      refine wpAnyH_take (i := 15) (oi := ⟨some 79, _, _, _, _, _⟩) (v := ?_) rfl (by kernel_rfl) (by kernel_rfl) (by kernel_rfl) (fun _ _ _ h => h) (Or.inl ⟨by rfl, ?_⟩) hHeld ?_
      rotate_left
      · intro w hSw; (try dsimp only at hSw); go_simp; all_goals (with_reducible rfl)
      try simp only [Act.put, List.setIfInBounds_toArray, List.set_cons_zero, List.set_cons_succ]
      refine wpAnyH_ready (rs := [16]) (by kernel_rfl) (by simp) ?_
      refine AllReadyH.cons (o := ⟨some 80, _, _, _, _, _⟩) rfl (fun K hK => ?_) AllReadyH.nil
      go_simp
      refine hK.out _ _ ?_ (fun hHeld => ?_)
      · exact (below_trans HB5B.out (below_alloc _ _))
      clear hK K
      try simp only [Act.put, List.setIfInBounds_toArray, List.set_cons_zero, List.set_cons_succ]
      refine wpAnyH_take (i := 17) (oi := ⟨some 14, _, _, _, _, _⟩) (v := ?_) rfl (by kernel_rfl) (by kernel_rfl) (by kernel_rfl) (fun _ _ _ h => h) (Or.inl ⟨by rfl, ?_⟩) hHeld ?_
      rotate_left
      · intro w hSw; (try dsimp only at hSw); go_simp; all_goals (with_reducible rfl)
      try simp only [Act.put, List.setIfInBounds_toArray, List.set_cons_zero, List.set_cons_succ]
      refine wpAnyH_done (by kernel_rfl) ?_ _
      refine NoPanic.normal ?_
      obtain ⟨w7, hw7⟩ : ∃ w7, w7 = w6 := ⟨_, rfl⟩
      rw [← hw7] at HDL0 HAV0 HB5B ⊢
      have HDL : Hid (Dl w5.heap.size w7 (.slice da p.n dc) p.n vs (dealF p T)) := HDL0.out
      have HAVX : Hid (w7.ownsRow w5.heap.size 4 1 (.slice (some ⟨w5.heap.size, 0, none⟩) p.S.toNat p.S.toNat) p.S.toNat ((List.replicate p.S.toNat false).map Value.bool)) := HAV0.out
      have HB57 : Hid (Below w5.heap.size w5 w7) := HB5B.out
      obtain ⟨ga, hga⟩ : ∃ ga, ga = w5.heap.size := ⟨_, rfl⟩
      have HAV : Hid (w7.ownsRow w5.heap.size 4 1 (.slice (some ⟨ga, 0, none⟩) p.S.toNat p.S.toNat) p.S.toNat ((List.replicate p.S.toNat false).map Value.bool)) := by rw [hga]; exact HAVX.out
      clear HAVX
      rw [← hga]
      clear hw7 HDL0 HAV0 HB5B hga
      have HB7 : Hid (Below w.heap.size w w7) := below_trans HB5.out HB57.out
      rw [← Pn.n_is HIS.out] at HAV ⊢
      have HAO : Hid (Ao (w7.alloc (Obj.cells #[.int .i64 m.A, .slice ta nt tc, .slice da p.n dc, .slice (some ⟨ga, 0, none⟩) p.n p.n, .bool false] 132)) p ⟨⟨m.B, m.A, formL S m.E p.B, T, List.replicate p.n false, false⟩, w7.heap.size, .slice ta nt tc, .slice da p.n dc, .slice (some ⟨ga, 0, none⟩) p.n p.n, w.heap.size, w7.heap.size + 1⟩) := asg_ao HB3.out.size HB5.out.size HB57.out.size (by have h := own_belowC HT5.out HB57.out; rw [HNT.out] at h ⊢; exact h) (by rw [HEQ.out]; exact form_in64 HS.out.good HFit.out b1) (by rw [HEQ.out, form_len]; exact HEL.out) HDL.out HTOK.out HTL.out HAV.out HKA.out HK.out
      have HB8 : Hid _ := below_trans HB7.out (below_alloc w7 (Obj.cells #[.int .i64 m.A, .slice ta nt tc, .slice da p.n dc, .slice (some ⟨ga, 0, none⟩) p.n p.n, .bool false] 132))
      have HX8 : Hid _ := (HX5.out.keep HB57.out).keep (below_alloc w7 (Obj.cells #[.int .i64 m.A, .slice ta nt tc, .slice da p.n dc, .slice (some ⟨ga, 0, none⟩) p.n p.n, .bool false] 132))
      obtain ⟨y, hy⟩ : ∃ y : At, y = ⟨⟨m.B, m.A, formL S m.E p.B, T, List.replicate p.n false, false⟩, w7.heap.size, .slice ta nt tc, .slice da p.n dc, .slice (some ⟨ga, 0, none⟩) p.n p.n, w.heap.size, w7.heap.size + 1⟩ := ⟨_, rfl⟩
      rw [← hy] at HAO
      generalize w7.alloc (Obj.cells #[.int .i64 m.A, .slice ta nt tc, .slice da p.n dc, .slice (some ⟨ga, 0, none⟩) p.n p.n, .bool false] 132) = w8 at HAO HB8 HX8 ⊢
      have HYX : Hid (y.x = w7.heap.size ∧ y.lo = w.heap.size ∧ y.h.n = m.B ∧ y.h.E = formL S m.E p.B ∧ y.h = ⟨m.B, m.A, formL S m.E p.B, T, List.replicate p.n false, false⟩) := by rw [hy]; exact ⟨rfl, rfl, rfl, rfl, rfl⟩
      generalize w7.heap.size = X at HYX ⊢
      clear hy HDL HAV HB57 HB7 HT5 HQV c0 c1 c2 c3 c4 c5 c6 c7 x4 hmk HN5 HX5 HB45 HB34
      go_upto_region 9 with fail
      have HN8 : Hid _ := HN.out.below HB8.out
      have HQB : Hid (Q ≠ b) := by have h1 := HN.out.ltb; have h2 := HQ.out; show ¬ Q = b; omega
      have HSF : Hid (∀ wz, Ch (fun z => z = b) w8 wz → wz.cell? ⟨P, 9, none⟩ = some (.map (some b)) ∧ wz.cell? ⟨Q, 3, none⟩ = some (.int .i64 m.B)) := fun wz h => ⟨h.cell HN8.out.cells.2.2.2.2.2.2.2.2.2 HN8.out.pb, h.cell HX8.out.c3 HQB.out⟩
      refine wp_region_noPanic ?_
      refine wp_region_held_drew (S := fun wz => wz.cell? ⟨P, 9, none⟩ = some (.map (some b)) ∧ wz.cell? ⟨Q, 3, none⟩ = some (.int .i64 m.B)) (by kernel_rfl) ?_ (fun hHeld => ?_)
      · exact (HSF.out _ (Ch.of_below (below_drewN w8 1)))
      refine wpAnyH_take (i := 0) (oi := ⟨some 81, _, _, _, _, _⟩) (v := ?_) rfl (by kernel_rfl) (by kernel_rfl) (by kernel_rfl) (fun _ _ _ h => h) (Or.inl ⟨by rfl, ?_⟩) hHeld ?_
      rotate_left
      · intro w hSw; (try dsimp only at hSw); go_simp; all_goals (with_reducible rfl)
      try simp only [Act.put, List.setIfInBounds_toArray, List.set_cons_zero, List.set_cons_succ]
      refine wpAnyH_take (i := 1) (oi := ⟨some 82, _, _, _, _, _⟩) (v := ?_) rfl (by kernel_rfl) (by kernel_rfl) (by kernel_rfl) (fun _ _ _ h => h) (Or.inl ⟨by rfl, ?_⟩) hHeld ?_
      rotate_left
      · intro w hSw; (try dsimp only at hSw); go_simp; all_goals (with_reducible rfl)
      try simp only [Act.put, List.setIfInBounds_toArray, List.set_cons_zero, List.set_cons_succ]
      refine wpAnyH_take (i := 2) (oi := ⟨some 83, _, _, _, _, _⟩) (v := ?_) rfl (by kernel_rfl) (by kernel_rfl) (by kernel_rfl) (fun _ _ _ h => h) (Or.inl ⟨by rfl, ?_⟩) hHeld ?_
      rotate_left
      · intro w hSw; (try dsimp only at hSw); go_simp; all_goals (with_reducible rfl)
      try simp only [Act.put, List.setIfInBounds_toArray, List.set_cons_zero, List.set_cons_succ]
      refine wpAnyH_take (i := 3) (oi := ⟨some 84, _, _, _, _, _⟩) (v := ?_) rfl (by kernel_rfl) (by kernel_rfl) (by kernel_rfl) (fun _ _ _ h => h) (Or.inl ⟨by rfl, ?_⟩) hHeld ?_
      rotate_left
      · intro w hSw; (try dsimp only at hSw); go_simp; all_goals (with_reducible rfl)
      try simp only [Act.put, List.setIfInBounds_toArray, List.set_cons_zero, List.set_cons_succ]
      refine wpAnyH_take (i := 4) (oi := ⟨some 85, _, _, _, _, _⟩) (v := ?_) rfl (by kernel_rfl) (by kernel_rfl) (by kernel_rfl) (fun _ _ _ h => h) (Or.inl ⟨by rfl, ?_⟩) hHeld ?_
      rotate_left
      · intro w hSw; (try dsimp only at hSw); go_simp; all_goals (with_reducible rfl)
      try simp only [Act.put, List.setIfInBounds_toArray, List.set_cons_zero, List.set_cons_succ]
      refine wpAnyH_take (i := 5) (oi := ⟨some 86, _, _, _, _, _⟩) (v := ?_) rfl (by kernel_rfl) (by kernel_rfl) (by kernel_rfl) (fun _ _ _ h => h) (Or.inl ⟨by rfl, ?_⟩) hHeld ?_
      rotate_left
      · intro w hSw; (try dsimp only at hSw); go_simp; all_goals (with_reducible rfl)
      try simp only [Act.put, List.setIfInBounds_toArray, List.set_cons_zero, List.set_cons_succ]
      refine wpAnyH_take (i := 6) (oi := ⟨some 87, _, _, _, _, _⟩) (v := ?_) rfl (by kernel_rfl) (by kernel_rfl) (by kernel_rfl) (fun _ _ _ h => h) (Or.inl ⟨by rfl, ?_⟩) hHeld ?_
      rotate_left
      · intro w hSw; (try dsimp only at hSw); go_simp; all_goals (with_reducible rfl)
      try simp only [Act.put, List.setIfInBounds_toArray, List.set_cons_zero, List.set_cons_succ]
      refine wpAnyH_ready (rs := [7]) (by kernel_rfl) (by simp) ?_
      refine AllReadyH.cons (o := ⟨none, _, _, _, _, _⟩) rfl (fun K hK => ?_) AllReadyH.nil
      obtain ⟨w9, hrun, hown9, hg9⟩ := World.ownsMap.update (own_mapB HN8.out.own (below_drewN w8 1)) law_i Tryz.underlying94 (by have := HL.out; unfold maxLen; omega) (key_i HK.out) (show heldE (.pointer (some ⟨X, 0, none⟩)) = some (.held _, []) from rfl)
      have hrun2 : Sem.run Tryz.prog (Instr.mapUpdate 94 (.map (some b)) (.int .i64 m.B) (.pointer (some ⟨X, 0, none⟩))) w8.drew = .ok () w9 := hrun
      go_simp
      refine hK.out _ _ ?_ (fun hHeld => ?_)
      · exact (HSF.out _ ((Ch.of_below (below_drewN w8 1)).self (Ch.of_grown hg9 (fun z hz => by cases hz; rfl))))
      clear hK K
      try simp only [Act.put, List.setIfInBounds_toArray, List.set_cons_zero, List.set_cons_succ]
      refine wpAnyH_done (by kernel_rfl) ?_ _
      refine NoPanic.normal ?_
      have HC9 : Hid (Ch (fun z => z = b) w8 w9) := (Ch.of_below (below_drewN w8 1)).self (Ch.of_grown hg9 (fun z hz => by cases hz; rfl))
      have HG9 : Hid (w8.grownBy w9 (some b)) := ⟨HC9.out.os, HC9.out.tape, HC9.out.output, HC9.out.size, fun z hz hne => HC9.out.block z hz (fun e => hne (by rw [e]))⟩
      have HW9 : Hid _ := HN.out.put (below_trans HB8.out (below_drewN w8 1)) (HAO.out.below (below_drewN w8 1)) (by rw [HYX.out.2.1]; exact Nat.le_refl _) (y := y) (by unfold ptA; rw [HYX.out.1, HYX.out.2.2.1]; exact hown9) hg9
      have HX9 : Hid _ := HX8.out.ch HC9.out HQB.out
      clear hown9 hg9 hrun hrun2 HX8 HN8 HSF
      have x0 := HX9.out.c0
      have x1 := HX9.out.c1
      have x2 := HX9.out.c2
      have x3 := HX9.out.c3
      have x4 := HX9.out.c4
      have x5 := HX9.out.c5
      have x6 := HX9.out.c6
      have x7 := HX9.out.c7
      have x8 := HX9.out.c8
      go_wp2_with fail
      rw [← HYX.out.1]
      refine (ofEnds_walk 2 HW9.out (a := y) (ins_mem.2 (.inl rfl))).mono ?_
      rintro e w10 ⟨v, rfl, hrow, hB10⟩
      obtain ⟨va, vc, rfl⟩ := own_formN hrow
      clear x0 x1 x2 x3 x4 x5 x6 x7 x8
      go_wp2_with fail
      go_ret
      refine ⟨_, rfl, ?_⟩
      rw [HR0.out]
      exact asg_end (m := m) HYX.out.2.2.2.1 HYX.out.2.2.2.2 HYX.out.2.2.1 HN.out HB8.out HAO.out HG9.out HW9.out (by rw [HYX.out.2.1]; exact Nat.le_refl _) hB10 hrow HK.out HKA.out
end Go.Proofs.YtopjedgknbbgkaaGreat
