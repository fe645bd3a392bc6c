/- Contracts of apply and note. -/
import Derived.Test.YtopjedgknbbgkaaGreatAi
namespace Go.Proofs.YtopjedgknbbgkaaGreat

open Go.RowKit



/-- What apply leaves. -/
def ApR (w : World) (r : List Ms) (v : Value) (w' : World) : Prop := ∃ M, Mr w' w.heap.size v M ∧ M.map (·.m) = r ∧ Below w.heap.size w w'
set_option maxRecDepth 100000 in
set_option maxHeartbeats 4000000 in
theorem apply_walk {w : World} {P b : Nat} {ov : Value} {p : Pn} {nd : Int} {L : List At} {m : Ms} {ea qa pa : Option Addr} {en ec qn qc pn pc : Nat} {x : At} {k : Nat} (hn : Wm w P b ov p nd L) (hx : x ∈ L) (hF : m.F = 1 + p.W + (k : Int)) (hkn : k < p.n) (hk : in64 m.B) (hka : in64 m.A) :
    Calls Tryz.prog 75 #[.pointer (some ⟨P, 0, none⟩), .agg #[.int .i64 m.K, .int .i64 m.F, .int .i64 m.T, .int .i64 m.B, .int .i64 m.A, .int .i64 m.C, .slice ea en ec, .slice qa qn qc, .slice pa pn pc], .pointer (some ⟨x.x, 0, none⟩)] w fun e w' => ∃ v, e = .returned v ∧ ApR w [sayM nd 6 m.F m [] [] (dealF p x.h.T k)] v w' := by
  have HN : Hid (Wm w P b ov p nd L) := hn
  have HIS : Hid (p.is = true) := hn.is
  have HKA : Hid (in64 m.A) := hka
  have HK : Hid (in64 m.B) := hk
  have HXM : Hid (x ∈ L) := hx
  have HFK : Hid (m.F = 1 + p.W + (k : Int)) := hF
  have HKN : Hid (k < p.n) := hkn
  have HX0 : Hid _ := mx_new w m (.slice ea en ec) (.slice qa qn qc) (.slice pa pn pc)
  have HB0 : Hid _ := below_alloc w (Obj.cells #[.int .i64 m.K, .int .i64 m.F, .int .i64 m.T, .int .i64 m.B, .int .i64 m.A, .int .i64 m.C, .slice ea en ec, .slice qa qn qc, .slice pa pn pc] 44)
  have HPN : Hid (1 ≤ p.n ∧ p.n ≤ 4) := Pn.n_le hn.is
  obtain ⟨_, ⟨s1, s2⟩, ⟨w1, w2⟩, _⟩ := Pn.is_num hn.is
  have hki : (k : Int) ≤ 3 := by have := HPN.out.2; omega
  have hk0 : (0 : Int) ≤ (k : Int) := by omega
  clear hn hka hk hx hF hkn
  go_enter Tryz.func75, Tryz.ntmps75
  go_upto_region 1 with fail
  obtain ⟨Q, hQ⟩ : ∃ Q, Q = w.heap.size := ⟨_, rfl⟩
  have HQ : Hid (Q = w.heap.size) := hQ
  rw [← hQ] at HX0 ⊢
  clear hQ
  generalize w.alloc (Obj.cells #[.int .i64 m.K, .int .i64 m.F, .int .i64 m.T, .int .i64 m.B, .int .i64 m.A, .int .i64 m.C, .slice ea en ec, .slice qa qn qc, .slice pa pn pc] 44) = wx at HX0 HB0 ⊢
  have x0 := HX0.out.c0
  have x1 := HX0.out.c1
  have x2 := HX0.out.c2
  have x3 := HX0.out.c3
  have x4 := HX0.out.c4
  have x5 := HX0.out.c5
  have x6 := HX0.out.c6
  have x7 := HX0.out.c7
  have x8 := HX0.out.c8
  go_wp2_with fail
  refine (reply_walk (m := m) 6 m.F (HN.out.below HB0.out)).mono ?_
  rintro e w2 ⟨rfl, hB2⟩
  have HB2 : Hid (Below w.heap.size w w2) := below_trans HB0.out hB2
  have HX2 : Hid _ := HX0.out.keep hB2
  clear hB2 x0 x1 x2 x3 x4 x5 x6 x7 x8 HX0 HB0
  go_upto_region 2 with fail
  have HO : Hid _ := mx_new w2 ⟨6, nd, m.F, m.B, m.A, 0, [], [], []⟩ (.slice none 0 0) (.slice none 0 0) (.slice none 0 0)
  have HX3 : Hid _ := HX2.out.keep (below_alloc w2 (Obj.cells #[.int .i64 6, .int .i64 nd, .int .i64 m.F, .int .i64 m.B, .int .i64 m.A, .int .i64 0, .slice none 0 0, .slice none 0 0, .slice none 0 0] 44))
  have HB3 : Hid _ := below_trans HB2.out (below_alloc w2 (Obj.cells #[.int .i64 6, .int .i64 nd, .int .i64 m.F, .int .i64 m.B, .int .i64 m.A, .int .i64 0, .slice none 0 0, .slice none 0 0, .slice none 0 0] 44))
  have HOL : Hid (w.heap.size ≤ w2.heap.size) := HB2.out.size
  have HQO : Hid (¬ Q = w2.heap.size) := by have h : Q < w2.heap.size := cell_lt HX2.out.c0; show ¬ _; omega
  obtain ⟨O, hO⟩ : ∃ O, O = w2.heap.size := ⟨_, rfl⟩
  rw [← hO] at HO HOL HQO ⊢
  clear hO
  dsimp only at HO
  generalize w2.alloc (Obj.cells #[.int .i64 6, .int .i64 nd, .int .i64 m.F, .int .i64 m.B, .int .i64 m.A, .int .i64 0, .slice none 0 0, .slice none 0 0, .slice none 0 0] 44) = w3 at HO HX3 HB3 ⊢
  clear HX2 HB2
  have HA3 : Hid (Ao w3 p x) := (HN.out.below HB3.out).ent x HXM.out
  have HN3 : Hid _ := HN.out.below HB3.out
  obtain ⟨vs, hdl, _⟩ := HA3.out.prt
  have HDL : Hid (Dl x.lo w3 x.pv p.n vs (dealF p x.h.T)) := hdl
  clear hdl
  obtain ⟨g, cap, ka, kn, kc, hg, hvi, c0, hkn⟩ := dl_at HDL.out HKN.out
  have HQL : Hid (w3.ownsRow x.lo 65 3 (.slice ka kn kc) (dealF p x.h.T k).length (flatQ (dealF p x.h.T k))) := by have h := HDL.out.own k HKN.out; rw [hvi] at h; exact h
  have HKQ : Hid (kn = (dealF p x.h.T k).length) := hkn
  have HOK : Hid (okT (dealF p x.h.T k)) := deal_ok HA3.out.tok k
  have HKL : Hid ((dealF p x.h.T k).length ≤ 1024) := Nat.le_trans (deal_len p x.h.T k) HA3.out.tl
  have HC0 : Hid (w3.cell? ⟨g, k, none⟩ = some (.slice ka kn kc)) := c0
  have HGL : Hid (g < w.heap.size) := by have h0 := HN.out.ent x HXM.out; have h1 := h0.hp g (by rw [hg]; rfl); have h2 := h0.hi; show _ < _; omega
  have HSF : Hid (∀ wz, Ch (fun z => z = O) w3 wz → wz.cell? ⟨x.x, 2, none⟩ = some (.slice (some ⟨g, 0, none⟩) p.n cap) ∧ wz.cell? ⟨g, k, none⟩ = some (.slice ka kn kc) ∧ wz.cell? ⟨Q, 1, none⟩ = some (.int .i64 (1 + p.W + (k : Int)))) := fun wz h =>
    ⟨by rw [← hg]; exact h.cell HA3.out.cells.2.2.1 (by have h0 := HN.out.ent x HXM.out; have h1 := h0.lx; have h2 := h0.hi; have h3 := HOL.out; show ¬ x.x = O; omega), h.cell HC0.out (by have h1 := HGL.out; have h3 := HOL.out; show ¬ g = O; omega), by rw [← HFK.out]; exact h.cell HX3.out.c1 HQO.out⟩
  have hkn' : (k : Int) < (p.n : Int) := by have := HKN.out; omega
  have hkd : decide (k < p.n) = true := decide_eq_true HKN.out
  have hwr : IntKind.i64.wrap (1 + p.W + (k : Int) - (1 + p.W)) = (k : Int) := by rw [show 1 + p.W + (k : Int) - (1 + p.W) = (k : Int) by omega]; exact wrap_small (by omega) (by omega)
  clear hg hvi c0 hkn HDL
  refine wp_region_noPanic ?_
  refine wp_region_held_drew (S := fun wz => wz.cell? ⟨x.x, 2, none⟩ = some (.slice (some ⟨g, 0, none⟩) p.n cap) ∧ wz.cell? ⟨g, k, none⟩ = some (.slice ka kn kc) ∧ wz.cell? ⟨Q, 1, none⟩ = some (.int .i64 (1 + p.W + (k : Int)))) (by kernel_rfl) ?_ (fun hHeld => ?_)
  · exact (HSF.out _ (Ch.of_below (below_drewN w3 1)))
  refine wpAnyH_take (i := 0) (oi := ⟨some 13, _, _, _, _, _⟩) (v := ?_) rfl (by kernel_rfl) (by kernel_rfl) (by kernel_rfl) (fun _ _ _ h => h) (Or.inl ⟨by rfl, ?_⟩) hHeld ?_
  rotate_left
  · intro w hSw; (try dsimp only at hSw); go_simp; all_goals (with_reducible rfl)
  try simp only [Act.put, List.setIfInBounds_toArray, List.set_cons_zero, List.set_cons_succ]
  refine wpAnyH_take (i := 1) (oi := ⟨some 14, _, _, _, _, _⟩) (v := ?_) rfl (by kernel_rfl) (by kernel_rfl) (by kernel_rfl) (fun _ _ _ h => h) (Or.inl ⟨by rfl, ?_⟩) hHeld ?_
  rotate_left
  · intro w hSw; (try dsimp only at hSw); go_simp; all_goals (with_reducible rfl)
  try simp only [Act.put, List.setIfInBounds_toArray, List.set_cons_zero, List.set_cons_succ]
  refine wpAnyH_take (i := 2) (oi := ⟨some 15, _, _, _, _, _⟩) (v := ?_) rfl (by kernel_rfl) (by kernel_rfl) (by kernel_rfl) (fun _ _ _ h => h) (Or.inl ⟨by rfl, ?_⟩) hHeld ?_
  rotate_left
  · intro w hSw; (try dsimp only at hSw); go_simp; all_goals (with_reducible rfl)
  try simp only [Act.put, List.setIfInBounds_toArray, List.set_cons_zero, List.set_cons_succ]
  refine wpAnyH_take (i := 3) (oi := ⟨some 16, _, _, _, _, _⟩) (v := ?_) rfl (by kernel_rfl) (by kernel_rfl) (by kernel_rfl) (fun _ _ _ h => h) (Or.inl ⟨by rfl, ?_⟩) hHeld ?_
  rotate_left
  · intro w hSw; (try dsimp only at hSw); go_simp; all_goals (with_reducible rfl)
  try simp only [Act.put, List.setIfInBounds_toArray, List.set_cons_zero, List.set_cons_succ]
  refine wpAnyH_take (i := 4) (oi := ⟨some 17, _, _, _, _, _⟩) (v := ?_) rfl (by kernel_rfl) (by kernel_rfl) (by kernel_rfl) (fun _ _ _ h => h) (Or.inl ⟨by rfl, ?_⟩) hHeld ?_
  rotate_left
  · intro w hSw; (try dsimp only at hSw); go_simp; all_goals (with_reducible rfl)
  try simp only [Act.put, List.setIfInBounds_toArray, List.set_cons_zero, List.set_cons_succ]
  refine wpAnyH_take (i := 5) (oi := ⟨some 18, _, _, _, _, _⟩) (v := ?_) rfl (by kernel_rfl) (by kernel_rfl) (by kernel_rfl) (fun _ _ _ h => h) (Or.inl ⟨by rfl, ?_⟩) hHeld ?_
  rotate_left
  · intro w hSw; (try dsimp only at hSw); go_simp; all_goals (with_reducible rfl)
  try simp only [Act.put, List.setIfInBounds_toArray, List.set_cons_zero, List.set_cons_succ]
  refine wpAnyH_take (i := 6) (oi := ⟨some 19, _, _, _, _, _⟩) (v := ?_) rfl (by kernel_rfl) (by kernel_rfl) (by kernel_rfl) (fun _ _ _ h => h) (Or.inl ⟨by rfl, ?_⟩) hHeld ?_
  rotate_left
  · intro w hSw; (try dsimp only at hSw); go_simp; all_goals (with_reducible rfl)
  try simp only [Act.put, List.setIfInBounds_toArray, List.set_cons_zero, List.set_cons_succ]
  refine wpAnyH_ready (rs := [7]) (by kernel_rfl) (by simp) ?_
  refine AllReadyH.cons (o := ⟨some 20, _, _, _, _, _⟩) rfl (fun K hK => ?_) AllReadyH.nil
  go_simp
  refine (fstore_walk (HN3.out.below (below_drewN w3 1))).mono ?_
  rintro e w4 ⟨rfl, hB⟩
  have HB4 : Hid (Below w3.heap.size w3 w4) := below_trans (below_drewN w3 1) hB
  clear hB
  refine hK.out _ _ ?_ (fun hHeld => ?_)
  · exact (HSF.out _ (Ch.of_below HB4.out))
  clear hK K
  try simp only [Act.put, List.setIfInBounds_toArray, List.set_cons_zero, List.set_cons_succ]
  refine wpAnyH_take (i := 8) (oi := ⟨some 21, _, _, _, _, _⟩) (v := ?_) rfl (by kernel_rfl) (by kernel_rfl) (by kernel_rfl) (fun _ _ _ h => h) (Or.inl ⟨by rfl, ?_⟩) hHeld ?_
  rotate_left
  · intro w hSw; (try dsimp only at hSw); go_simp; all_goals (with_reducible rfl)
  try simp only [Act.put, List.setIfInBounds_toArray, List.set_cons_zero, List.set_cons_succ]
  refine wpAnyH_take (i := 9) (oi := ⟨some 22, _, _, _, _, _⟩) (v := ?_) rfl (by kernel_rfl) (by kernel_rfl) (by kernel_rfl) (fun _ _ _ h => h) (Or.inl ⟨by rfl, ?_⟩) hHeld ?_
  rotate_left
  · intro w hSw; (try dsimp only at hSw); go_simp; all_goals (with_reducible rfl)
  try simp only [Act.put, List.setIfInBounds_toArray, List.set_cons_zero, List.set_cons_succ]
  refine wpAnyH_take (i := 10) (oi := ⟨some 23, _, _, _, _, _⟩) (v := ?_) rfl (by kernel_rfl) (by kernel_rfl) (by kernel_rfl) (fun _ _ _ h => h) (Or.inl ⟨by rfl, ?_⟩) hHeld ?_
  rotate_left
  · intro w hSw; (try dsimp only at hSw); go_simp; all_goals (with_reducible rfl)
  try simp only [Act.put, List.setIfInBounds_toArray, List.set_cons_zero, List.set_cons_succ]
  refine wpAnyH_ready (rs := [11]) (by kernel_rfl) (by simp) ?_
  refine AllReadyH.cons (o := ⟨some 24, _, _, _, _, _⟩) rfl (fun K hK => ?_) AllReadyH.nil
  go_simp
  have HQV : Hid (Qv w4 (.slice ka kn kc) (dealF p x.h.T k)) := own_qv (own_belowC HQL.out HB4.out) HOK.out
  refine (cloneQ_walk HQV.out (by have := HKL.out; omega)).mono ?_
  rintro e w5 ⟨v', rfl, hrow, hB⟩
  obtain ⟨ra, rc, rfl⟩ := own_formN hrow
  have HRW : Hid (w5.ownsRow w4.heap.size 65 3 (.slice ra (dealF p x.h.T k).length rc) (dealF p x.h.T k).length (flatQ (dealF p x.h.T k))) := hrow
  have HB5 : Hid (Below w3.heap.size w3 w5) := below_trans HB4.out hB
  have HO5 : Hid _ := HO.out.keep HB5.out
  clear hrow hB
  refine hK.out _ _ ?_ (fun hHeld => ?_)
  · exact (HSF.out _ (Ch.of_below HB5.out))
  clear hK K
  try simp only [Act.put, List.setIfInBounds_toArray, List.set_cons_zero, List.set_cons_succ]
  refine wpAnyH_take (i := 12) (oi := ⟨some 25, _, _, _, _, _⟩) (v := ?_) rfl (by kernel_rfl) (by kernel_rfl) (by kernel_rfl) (fun _ _ _ h => h) (Or.inl ⟨by rfl, ?_⟩) hHeld ?_
  rotate_left
  · intro w hSw; (try dsimp only at hSw); go_simp; all_goals (with_reducible rfl)
  try simp only [Act.put, List.setIfInBounds_toArray, List.set_cons_zero, List.set_cons_succ]
  refine wpAnyH_ready (rs := [13]) (by kernel_rfl) (by simp) ?_
  refine AllReadyH.cons (o := ⟨none, _, _, _, _, _⟩) rfl (fun K hK => ?_) AllReadyH.nil
  have y8 := HO5.out.c8
  have hz := HO5.out.z 8
  go_simp
  show K _ (w5.setCell ⟨O, 8, none⟩ (.slice ra (dealF p x.h.T k).length rc))
  clear y8 hz
  refine hK.out _ _ ?_ (fun hHeld => ?_)
  · exact (HSF.out _ ((Ch.of_below HB5.out).self (ch_set _ _ _ _)))
  clear hK K
  try simp only [Act.put, List.setIfInBounds_toArray, List.set_cons_zero, List.set_cons_succ]
  refine wpAnyH_done (by kernel_rfl) ?_ _
  refine NoPanic.normal ?_
  have HO6 : Hid _ := HO5.out.s8 (.slice ra (dealF p x.h.T k).length rc)
  have HC6 : Hid _ := ch_set w5 O 8 (.slice ra (dealF p x.h.T k).length rc)
  have HO3L : Hid (O < w3.heap.size) := cell_lt HO.out.c0
  generalize w5.setCell ⟨O, 8, none⟩ (.slice ra (dealF p x.h.T k).length rc) = w6 at HO6 HC6 ⊢
  have HB6 : Hid (Below w.heap.size w w6) := (below_trans HB3.out HB5.out).trans (HC6.out.to_below (below_trans HB3.out HB5.out).size (fun z hz => by rw [hz]; exact HOL.out))
  have x0 := HO6.out.c0
  have x1 := HO6.out.c1
  have x2 := HO6.out.c2
  have x3 := HO6.out.c3
  have x4 := HO6.out.c4
  have x5 := HO6.out.c5
  have x6 := HO6.out.c6
  have x7 := HO6.out.c7
  have x8 := HO6.out.c8
  go_wp2_with fail
  go_ret
  refine ⟨_, rfl, [⟨sayM nd 6 m.F m [] [] (dealF p x.h.T k), .slice none 0 0, .slice none 0 0, .slice ra (dealF p x.h.T k).length rc⟩], mr_one (x := ⟨sayM nd 6 m.F m [] [] (dealF p x.h.T k), .slice none 0 0, .slice none 0 0, .slice ra (dealF p x.h.T k).length rc⟩) ⟨World.ownsRow_nil _ _ _ _, World.ownsRow_nil _ _ _ _, ?_, ?_⟩ HB6.out.size, rfl, below_trans HB6.out (below_alloc _ _)⟩
  · exact own_baseC (own_ch HRW.out HC6.out (fun z hz e => by have h1 := (HRW.out.lt z hz).1; have h2 := HO3L.out; have h3 := HB4.out.size; omega)) (Nat.le_trans HB3.out.size HB4.out.size)
  · exact say_ok (i64_s (by omega) (by omega)) HN.out.nd64 (by rw [HFK.out]; exact i64_s (by omega) (by omega)) HK.out HKA.out (by intro z hz; simp at hz) (by intro z hz; simp at hz) HOK.out
def appA (k : Nat) (a : At) : At := { a with h := { a.h with A := setB a.h.A k } }
theorem Ao.app1 {w : World} {p : Pn} {a : At} {g cap k : Nat} (h : Ao w p a) (hg : a.av = .slice (some ⟨g, 0, none⟩) a.h.A.length cap) : Ao (w.setCell ⟨g, k, none⟩ (.bool true)) p (appA k a) := by
  have hc := ch_set w g k (.bool true)
  have hr := h.app
  rw [hg] at hr
  have hgb : ∃ c, w.heap[g]? = some (.cells c 4 (0, 0)) := by
    rcases hr.2 with ⟨h1, _⟩ | ⟨g', cap', cur, hv, _, hh, _⟩
    · cases h1
    · cases hv; exact ⟨cur, hh⟩
  obtain ⟨c, hgb⟩ := hgb
  have hxg : ¬ a.x = g := by rintro e; have := h.blk; rw [e, hgb] at this; cases this
  obtain ⟨vs, hv, hvy⟩ := h.prt
  refine ⟨by rw [show (appA k a).x = a.x from rfl, hc.block a.x (Array.getElem?_eq_some_iff.1 h.blk).1 hxg]; exact h.blk, own_ch h.ends hc (fun y hy e => own_nb h.ends hgb (by decide) (hy.trans (congrArg some e))), h.eok, ⟨vs, ⟨own_ch hv.row hc (fun y hy e => own_nb hv.row hgb (by decide) (hy.trans (congrArg some e))), fun i hi => own_ch (hv.own i hi) hc (fun y hy e => own_nb (hv.own i hi) hgb (by decide) (hy.trans (congrArg some e)))⟩, hvy⟩, h.tok, h.tl, h.el, ?_, ?_, h.lx, h.he, h.hp, h.ha, Nat.le_trans h.hi hc.size, h.ar, h.nr⟩
  · have h2 := own_setRN (o := k) (.bool true) hr
    show (w.setCell ⟨g, k, none⟩ (.bool true)).ownsRow a.lo 4 1 a.av (setB a.h.A k).length ((setB a.h.A k).map Value.bool)
    unfold setB
    rw [List.length_set, List.map_set, hg]
    exact h2
  · show (setB a.h.A k).length = p.n
    unfold setB; rw [List.length_set]; exact h.al
theorem Wm.app1 {w : World} {P b : Nat} {ov : Value} {p : Pn} {nd : Int} {L : List At} (h : Wm w P b ov p nd L) {j : Int} {y : At} (hy : atK kA L j = some y) {g cap k : Nat} (hg : y.av = .slice (some ⟨g, 0, none⟩) y.h.A.length cap) : Wm (w.setCell ⟨g, k, none⟩ (.bool true)) P b ov p nd (updK kA L j (appA k)) :=
  have ha := h.ent y (atK_mem hy).1
  h.turn hy (fun _ => rfl) (fun _ => ⟨rfl, rfl, rfl⟩) (ha.app1 hg) ((ch_set w g k (.bool true)).mono (fun x e => by have h1 := ha.ha g (by rw [hg]; rfl); have h2 := (ha.app.lt g (by rw [hg]; rfl)).1; omega))
theorem upd_mem {L : List At} {j : Int} {y : At} {g : At → At} (h : atK kA L j = some y) : g y ∈ updK kA L j g := by
  obtain ⟨hm, hk⟩ := atK_mem h
  exact List.mem_map.2 ⟨y, hm, by rw [if_pos hk]⟩
/-- What note leaves. -/
def ntH (p : Pn) (nd : Int) (m : Ms) (x : Hh) (k : Nat) (H : List Hh) : List Ms × List Hh := (if (setB x.A k).countP id < p.n then [] else [sayM nd 8 0 m x.E [] []], updK kH H m.B fun h => { h with A := setB h.A k })
theorem nt_fin {w w5 w6 : World} {P b : Nat} {ov : Value} {p : Pn} {nd : Int} {L : List At} {m : Ms} {x : At} {k lo : Nat} {v : Value} {M : List Tq} {D : Nat → Prop} (hn : Wm w P b ov p nd L) (hx : x ∈ L) (h5 : Wm w5 P b ov p nd (updK kA L m.B (appA k))) (hD : ∀ z, D z → (x.lo ≤ z ∧ z < x.hi) ∨ w.heap.size ≤ z) (hc : Ch D w w5) (h6 : Below w5.heap.size w5 w6) (hl : w5.heap.size ≤ lo) (hlo : lo ≤ w6.heap.size) (hM : Mr w6 lo v M) (hm : M.map (·.m) = (ntH p nd m x.h k (L.map (·.h))).1) : TkR w P b ov p nd L (ntH p nd m x.h k (L.map (·.h))) v w6 := by
  have s1 := hc.size
  refine ⟨M, lo, updK kA L m.B (appA k), hM, hm, h5.below h6, ?_, by omega, hlo, fun z hz => ?_, ?_⟩
  · show _ = updK kH (L.map (·.h)) m.B fun h => { h with A := setB h.A k }
    rw [updK_map (f := kH) (h := At.h) (g := appA k) (fun _ => rfl)]; rfl
  · have h1 := bw_turn (g := appA k) (fun _ => ⟨rfl, rfl, rfl⟩) hz
    exact ⟨.inl h1, by have := hn.lt z h1; omega⟩
  · have h7 : Ch (Bk P b ov L) w w5 := ⟨hc.os, hc.tape, hc.output, hc.size, fun z hz hd => hc.block z hz (fun e => by rcases hD z e with q | q; exact hd (.inr (.inr (.inr ⟨x, hx, q⟩))); omega)⟩
    exact h7.trans (Ch.of_below (D := fun _ => False) h6) (fun z hz => hz.elim)
set_option maxRecDepth 100000 in
set_option maxHeartbeats 4000000 in
theorem note_walk {w : World} {P b : Nat} {ov : Value} {p : Pn} {nd : Int} {L : List At} {m : Ms} {ea qa pa : Option Addr} {en ec qn qc pn pc : Nat} {x : At} {k : Nat} (hn : Wm w P b ov p nd L) (hat : atK kA L m.B = some x) (hx : x ∈ L) (hF : m.F = 1 + p.W + (k : Int)) (hkn : k < p.n) (hk : in64 m.B) (hka : in64 m.A) :
    Calls Tryz.prog 76 #[.pointer (some ⟨P, 0, none⟩), .agg #[.int .i64 m.K, .int .i64 m.F, .int .i64 m.T, .int .i64 m.B, .int .i64 m.A, .int .i64 m.C, .slice ea en ec, .slice qa qn qc, .slice pa pn pc], .pointer (some ⟨x.x, 0, none⟩)] w fun e w' => ∃ v, e = .returned v ∧ TkR w P b ov p nd L (ntH p nd m x.h k (L.map (·.h))) v w' := by
  have HAT : Hid (atK kA L m.B = some x) := hat
  clear hat
  have HN : Hid (Wm w P b ov p nd L) := hn
  have HIS : Hid (p.is = true) := hn.is
  have HKA : Hid (in64 m.A) := hka
  have HK : Hid (in64 m.B) := hk
  have HXM : Hid (x ∈ L) := hx
  have HFK : Hid (m.F = 1 + p.W + (k : Int)) := hF
  have HKN : Hid (k < p.n) := hkn
  have HX0 : Hid _ := mx_new w m (.slice ea en ec) (.slice qa qn qc) (.slice pa pn pc)
  have HB0 : Hid _ := below_alloc w (Obj.cells #[.int .i64 m.K, .int .i64 m.F, .int .i64 m.T, .int .i64 m.B, .int .i64 m.A, .int .i64 m.C, .slice ea en ec, .slice qa qn qc, .slice pa pn pc] 44)
  have HPN : Hid (1 ≤ p.n ∧ p.n ≤ 4) := Pn.n_le hn.is
  obtain ⟨_, ⟨s1, s2⟩, ⟨w1, w2⟩, _⟩ := Pn.is_num hn.is
  have hki : (k : Int) ≤ 3 := by have := HPN.out.2; omega
  have hk0 : (0 : Int) ≤ (k : Int) := by omega
  clear hn hka hk hx hF hkn
  go_enter Tryz.func76, Tryz.ntmps76
  go_upto_region 1 with fail
  obtain ⟨Q, hQ⟩ : ∃ Q, Q = w.heap.size := ⟨_, rfl⟩
  have HQ : Hid (Q = w.heap.size) := hQ
  rw [← hQ] at HX0 ⊢
  clear hQ
  generalize w.alloc (Obj.cells #[.int .i64 m.K, .int .i64 m.F, .int .i64 m.T, .int .i64 m.B, .int .i64 m.A, .int .i64 m.C, .slice ea en ec, .slice qa qn qc, .slice pa pn pc] 44) = wx at HX0 HB0 ⊢
  have HN3 : Hid _ := HN.out.below HB0.out
  have HA3 : Hid (Ao wx p x) := HN3.out.ent x HXM.out
  obtain ⟨g, cap, hg, _, _, hgl, _⟩ := row_formN HA3.out.app (by rw [HA3.out.al]; exact HPN.out.1)
  have HG : Hid (x.av = .slice (some ⟨g, 0, none⟩) x.h.A.length cap) := hg
  have HGX : Hid (x.lo ≤ g ∧ g < x.hi ∧ x.hi ≤ w.heap.size) := ⟨hgl, HA3.out.ha g (by rw [hg]; rfl), (HN.out.ent x HXM.out).hi⟩
  have HAP : Hid (wx.ownsRow x.lo 4 1 (.slice (some ⟨g, 0, none⟩) x.h.A.length cap) x.h.A.length (x.h.A.map Value.bool)) := by have h := HA3.out.app; rw [hg] at h; exact h
  have HAL : Hid (x.h.A.length = p.n) := HA3.out.al
  have hkl : k < x.h.A.length := by rw [HAL.out]; exact HKN.out
  have HCG : Hid (wx.cell? ⟨g, k, none⟩ = some (.bool x.h.A[k]) ∧ wx.frozen? ⟨g, k, none⟩ = false) := own_cellN HAP.out (j := k) (u := .bool x.h.A[k]) (by rw [List.getElem?_map, List.getElem?_eq_getElem hkl]; rfl)
  generalize x.h.A[k] = yb at HCG
  clear hkl
  have HXG : Hid (¬ x.x = g) := by
    rcases HAP.out.2 with ⟨h1, _⟩ | ⟨g', cap', cur, hv, _, hh, _⟩
    · cases h1
    · cases hv
      intro e3
      have := HA3.out.blk
      rw [e3, hh] at this
      cases this
  have HAVE : Hid ((Value.slice (some ⟨g, 0, none⟩) p.n cap) = x.av) := by show _ = _; rw [hg, HAL.out]
  have HSF : Hid (∀ wz, Ch (fun z => z = g) wx wz → wz.cell? ⟨x.x, 3, none⟩ = some (.slice (some ⟨g, 0, none⟩) p.n cap) ∧ wz.cell? ⟨Q, 1, none⟩ = some (.int .i64 (1 + p.W + (k : Int)))) := by
    intro wz h
    refine ⟨?_, ?_⟩
    · rw [HAVE.out]; exact h.cell HA3.out.cells.2.2.2.1 HXG.out
    · rw [← HFK.out]; exact h.cell HX0.out.c1 (by have h1 := HGX.out; have h2 := HQ.out; show ¬ Q = g; omega)
  have hkn' : (k : Int) < (p.n : Int) := by have := HKN.out; omega
  have hkd : decide (k < p.n) = true := decide_eq_true HKN.out
  have hwr : IntKind.i64.wrap (1 + p.W + (k : Int) - (1 + p.W)) = (k : Int) := by rw [show 1 + p.W + (k : Int) - (1 + p.W) = (k : Int) by omega]; exact wrap_small (by omega) (by omega)
  clear hg hgl
  refine wp_region_noPanic ?_
  refine wp_region_held_drew (S := fun wz => wz.cell? ⟨x.x, 3, none⟩ = some (.slice (some ⟨g, 0, none⟩) p.n cap) ∧ wz.cell? ⟨Q, 1, none⟩ = some (.int .i64 (1 + p.W + (k : Int)))) (by kernel_rfl) ?_ (fun hHeld => ?_)
  · exact (HSF.out _ (Ch.of_below (below_drewN wx 1)))
  refine wpAnyH_take (i := 0) (oi := ⟨some 7, _, _, _, _, _⟩) (v := ?_) rfl (by kernel_rfl) (by kernel_rfl) (by kernel_rfl) (fun _ _ _ h => h) (Or.inl ⟨by rfl, ?_⟩) hHeld ?_
  rotate_left
  · intro w hSw; (try dsimp only at hSw); go_simp; all_goals (with_reducible rfl)
  try simp only [Act.put, List.setIfInBounds_toArray, List.set_cons_zero, List.set_cons_succ]
  refine wpAnyH_take (i := 1) (oi := ⟨some 8, _, _, _, _, _⟩) (v := ?_) rfl (by kernel_rfl) (by kernel_rfl) (by kernel_rfl) (fun _ _ _ h => h) (Or.inl ⟨by rfl, ?_⟩) hHeld ?_
  rotate_left
  · intro w hSw; (try dsimp only at hSw); go_simp; all_goals (with_reducible rfl)
  try simp only [Act.put, List.setIfInBounds_toArray, List.set_cons_zero, List.set_cons_succ]
  refine wpAnyH_take (i := 2) (oi := ⟨some 9, _, _, _, _, _⟩) (v := ?_) rfl (by kernel_rfl) (by kernel_rfl) (by kernel_rfl) (fun _ _ _ h => h) (Or.inl ⟨by rfl, ?_⟩) hHeld ?_
  rotate_left
  · intro w hSw; (try dsimp only at hSw); go_simp; all_goals (with_reducible rfl)
  try simp only [Act.put, List.setIfInBounds_toArray, List.set_cons_zero, List.set_cons_succ]
  refine wpAnyH_take (i := 3) (oi := ⟨some 10, _, _, _, _, _⟩) (v := ?_) rfl (by kernel_rfl) (by kernel_rfl) (by kernel_rfl) (fun _ _ _ h => h) (Or.inl ⟨by rfl, ?_⟩) hHeld ?_
  rotate_left
  · intro w hSw; (try dsimp only at hSw); go_simp; all_goals (with_reducible rfl)
  try simp only [Act.put, List.setIfInBounds_toArray, List.set_cons_zero, List.set_cons_succ]
  refine wpAnyH_take (i := 4) (oi := ⟨some 11, _, _, _, _, _⟩) (v := ?_) rfl (by kernel_rfl) (by kernel_rfl) (by kernel_rfl) (fun _ _ _ h => h) (Or.inl ⟨by rfl, ?_⟩) hHeld ?_
  rotate_left
  · intro w hSw; (try dsimp only at hSw); go_simp; all_goals (with_reducible rfl)
  try simp only [Act.put, List.setIfInBounds_toArray, List.set_cons_zero, List.set_cons_succ]
  refine wpAnyH_take (i := 5) (oi := ⟨some 12, _, _, _, _, _⟩) (v := ?_) rfl (by kernel_rfl) (by kernel_rfl) (by kernel_rfl) (fun _ _ _ h => h) (Or.inl ⟨by rfl, ?_⟩) hHeld ?_
  rotate_left
  · intro w hSw; (try dsimp only at hSw); go_simp; all_goals (with_reducible rfl)
  try simp only [Act.put, List.setIfInBounds_toArray, List.set_cons_zero, List.set_cons_succ]
  refine wpAnyH_take (i := 6) (oi := ⟨some 13, _, _, _, _, _⟩) (v := ?_) rfl (by kernel_rfl) (by kernel_rfl) (by kernel_rfl) (fun _ _ _ h => h) (Or.inl ⟨by rfl, ?_⟩) hHeld ?_
  rotate_left
  · intro w hSw; (try dsimp only at hSw); go_simp; all_goals (with_reducible rfl)
  try simp only [Act.put, List.setIfInBounds_toArray, List.set_cons_zero, List.set_cons_succ]
  refine wpAnyH_ready (rs := [7]) (by kernel_rfl) (by simp) ?_
  refine AllReadyH.cons (o := ⟨some 14, _, _, _, _, _⟩) rfl (fun K hK => ?_) AllReadyH.nil
  go_simp
  refine (fstore_walk (HN3.out.below (below_drewN wx 1))).mono ?_
  rintro e w4 ⟨rfl, hB⟩
  have HB4 : Hid (Below wx.heap.size wx w4) := below_trans (below_drewN wx 1) hB
  clear hB
  refine hK.out _ _ ?_ (fun hHeld => ?_)
  · exact (HSF.out _ (Ch.of_below HB4.out))
  clear hK K
  try simp only [Act.put, List.setIfInBounds_toArray, List.set_cons_zero, List.set_cons_succ]
  refine wpAnyH_take (i := 8) (oi := ⟨some 15, _, _, _, _, _⟩) (v := ?_) rfl (by kernel_rfl) (by kernel_rfl) (by kernel_rfl) (fun _ _ _ h => h) (Or.inl ⟨by rfl, ?_⟩) hHeld ?_
  rotate_left
  · intro w hSw; (try dsimp only at hSw); go_simp; all_goals (with_reducible rfl)
  try simp only [Act.put, List.setIfInBounds_toArray, List.set_cons_zero, List.set_cons_succ]
  refine wpAnyH_take (i := 9) (oi := ⟨some 16, _, _, _, _, _⟩) (v := ?_) rfl (by kernel_rfl) (by kernel_rfl) (by kernel_rfl) (fun _ _ _ h => h) (Or.inl ⟨by rfl, ?_⟩) hHeld ?_
  rotate_left
  · intro w hSw; (try dsimp only at hSw); go_simp; all_goals (with_reducible rfl)
  try simp only [Act.put, List.setIfInBounds_toArray, List.set_cons_zero, List.set_cons_succ]
  refine wpAnyH_ready (rs := [10]) (by kernel_rfl) (by simp) ?_
  refine AllReadyH.cons (o := ⟨none, _, _, _, _, _⟩) rfl (fun K hK => ?_) AllReadyH.nil
  have y8 : w4.cell? ⟨g, k, none⟩ = some (.bool yb) := by rw [HB4.out.cell (p := ⟨g, k, none⟩) (cell_lt HCG.out.1)]; exact HCG.out.1
  have hz : w4.frozen? ⟨g, k, none⟩ = false := by rw [(Ch.of_below (D := fun _ => False) HB4.out).frozen (cell_lt HCG.out.1) (fun e => e)]; exact HCG.out.2
  go_simp
  show K _ (w4.setCell ⟨g, k, none⟩ (.bool true))
  clear y8 hz
  refine hK.out _ _ ?_ (fun hHeld => ?_)
  · exact (HSF.out _ ((Ch.of_below HB4.out).self (ch_set _ _ _ _)))
  clear hK K
  try simp only [Act.put, List.setIfInBounds_toArray, List.set_cons_zero, List.set_cons_succ]
  refine wpAnyH_done (by kernel_rfl) ?_ _
  refine NoPanic.normal ?_
  have HB4w : Hid (Below w.heap.size w w4) := below_trans HB0.out HB4.out
  have HN4 : Hid _ := HN.out.below HB4w.out
  have HN5 : Hid _ := HN4.out.app1 (k := k) HAT.out HG.out
  have HA5 : Hid (Ao (w4.setCell ⟨g, k, none⟩ (.bool true)) p (appA k x)) := (HN4.out.ent x HXM.out).app1 HG.out
  have HC5 : Hid _ := ch_set w4 g k (.bool true)
  have HX5 : Hid _ := (HX0.out.keep HB4.out).ch HC5.out (by have h1 := HGX.out; have h2 := HQ.out; show ¬ Q = g; omega)
  generalize w4.setCell ⟨g, k, none⟩ (.bool true) = w5 at HN5 HA5 HC5 HX5 ⊢
  have HCW : Hid (Ch (fun z => z = g) w w5) := (Ch.of_below HB4w.out).self HC5.out
  have HDG : Hid (∀ z, z = g → (x.lo ≤ z ∧ z < x.hi) ∨ w.heap.size ≤ z) := fun z hz => .inl (by rw [hz]; exact ⟨HGX.out.1, HGX.out.2.1⟩)
  clear HSF HCG HAP HX0 HA3 HN3 hwr
  go_upto_region 2 with fail
  have a3 : ∀ wz, Below w5.heap.size w5 wz → wz.cell? ⟨x.x, 3, none⟩ = some (.slice (some ⟨g, 0, none⟩) p.n cap) := fun wz h => by have h1 : wz.cell? ⟨x.x, 3, none⟩ = some x.av := (HA5.out.below h).cells.2.2.2.1; rw [HG.out, HAL.out] at h1; exact h1
  have HCT : Hid ((appA k x).h.A.countP id = (setB x.h.A k).countP id) := rfl
  have hcl : (((appA k x).h.A.countP id : Nat) : Int) ≤ 4 := by have h1 := List.countP_le_length (p := id) (l := (appA k x).h.A); have h2 : (appA k x).h.A.length = p.n := HA5.out.al; have h3 := HPN.out.2; omega
  by_cases hlt : (appA k x).h.A.countP id < p.n
  · have hlti : (((appA k x).h.A.countP id : Nat) : Int) < (p.n : Int) := by omega
    have HLT : Hid ((setB x.h.A k).countP id < p.n) := hlt
    clear hlt
    refine wp_region_noPanic ?_
    refine wp_region_held_drew (S := fun wz => Below w5.heap.size w5 wz) (by kernel_rfl) ?_ (fun hHeld => ?_)
    · exact below_drewN w5 1
    refine wpAnyH_take (i := 0) (oi := ⟨some 17, _, _, _, _, _⟩) (v := ?_) rfl (by kernel_rfl) (by kernel_rfl) (by kernel_rfl) (fun _ _ _ h => h) (Or.inl ⟨by rfl, ?_⟩) hHeld ?_
    rotate_left
    · intro w hSw; (try dsimp only at hSw); go_simp; all_goals (with_reducible rfl)
    try simp only [Act.put, List.setIfInBounds_toArray, List.set_cons_zero, List.set_cons_succ]
    refine wpAnyH_take (i := 2) (oi := ⟨some 19, _, _, _, _, _⟩) (v := ?_) rfl (by kernel_rfl) (by kernel_rfl) (by kernel_rfl) (fun _ _ _ h => h) (Or.inl ⟨by rfl, ?_⟩) hHeld ?_
    rotate_left
    · intro w hSw; (try dsimp only at hSw); go_simp; all_goals (with_reducible rfl)
    try simp only [Act.put, List.setIfInBounds_toArray, List.set_cons_zero, List.set_cons_succ]
    refine wpAnyH_take (i := 3) (oi := ⟨some 20, _, _, _, _, _⟩) (v := ?_) rfl (by kernel_rfl) (by kernel_rfl) (by kernel_rfl) (fun _ _ _ h => h) (Or.inl ⟨by rfl, ?_⟩) hHeld ?_
    rotate_left
    · intro w hSw; (try dsimp only at hSw); go_simp; all_goals (with_reducible rfl)
    try simp only [Act.put, List.setIfInBounds_toArray, List.set_cons_zero, List.set_cons_succ]
    refine wpAnyH_take (i := 4) (oi := ⟨some 21, _, _, _, _, _⟩) (v := ?_) rfl (by kernel_rfl) (by kernel_rfl) (by kernel_rfl) (fun _ _ _ h => h) (Or.inl ⟨by rfl, ?_⟩) hHeld ?_
    rotate_left
    · intro w hSw; (try dsimp only at hSw); go_simp; all_goals (with_reducible rfl)
    try simp only [Act.put, List.setIfInBounds_toArray, List.set_cons_zero, List.set_cons_succ]
    refine wpAnyH_take (i := 5) (oi := ⟨some 22, _, _, _, _, _⟩) (v := ?_) rfl (by kernel_rfl) (by kernel_rfl) (by kernel_rfl) (fun _ _ _ h => h) (Or.inl ⟨by rfl, ?_⟩) hHeld ?_
    rotate_left
    · intro w hSw; (try dsimp only at hSw); go_simp; all_goals (with_reducible rfl)
    try simp only [Act.put, List.setIfInBounds_toArray, List.set_cons_zero, List.set_cons_succ]
    refine wpAnyH_take (i := 6) (oi := ⟨some 23, _, _, _, _, _⟩) (v := ?_) rfl (by kernel_rfl) (by kernel_rfl) (by kernel_rfl) (fun _ _ _ h => h) (Or.inl ⟨by rfl, ?_⟩) hHeld ?_
    rotate_left
    · intro w hSw; (try dsimp only at hSw); go_simp; all_goals (with_reducible rfl)
    try simp only [Act.put, List.setIfInBounds_toArray, List.set_cons_zero, List.set_cons_succ]
    refine wpAnyH_ready (rs := [1]) (by kernel_rfl) (by simp) ?_
    refine AllReadyH.cons (o := ⟨some 18, _, _, _, _, _⟩) rfl (fun K hK => ?_) AllReadyH.nil
    go_simp
    refine (count_walk (HA5.out.below (below_drewN w5 1)) HPN.out.2).mono ?_
    rintro e w6 ⟨rfl, hB⟩
    have HB6 : Hid (Below w5.heap.size w5 w6) := below_trans (below_drewN w5 1) hB
    clear hB
    refine hK.out _ _ ?_ (fun hHeld => ?_)
    · exact HB6.out
    clear hK K
    try simp only [Act.put, List.setIfInBounds_toArray, List.set_cons_zero, List.set_cons_succ]
    refine wpAnyH_take (i := 7) (oi := ⟨some 24, _, _, _, _, _⟩) (v := ?_) rfl (by kernel_rfl) (by kernel_rfl) (by kernel_rfl) (fun _ _ _ h => h) (Or.inl ⟨by rfl, ?_⟩) hHeld ?_
    rotate_left
    · intro w hSw; (try dsimp only at hSw); go_simp; all_goals (with_reducible rfl)
    try simp only [Act.put, List.setIfInBounds_toArray, List.set_cons_zero, List.set_cons_succ]
    refine wpAnyH_done (by kernel_rfl) ?_ _
    refine NoPanic.normal ?_
    go_wp2_with fail
    go_ret
    refine ⟨_, rfl, nt_fin HN.out HXM.out HN5.out HDG.out HCW.out HB6.out HB6.out.size (Nat.le_refl _) (mr_nil _ _) ?_⟩
    unfold ntH; rw [if_pos HLT.out]; rfl
  · have hlti : ¬ (((appA k x).h.A.countP id : Nat) : Int) < (p.n : Int) := by omega
    have HLT : Hid (¬ (setB x.h.A k).countP id < p.n) := hlt
    clear hlt
    refine wp_region_noPanic ?_
    refine wp_region_held_drew (S := fun wz => Below w5.heap.size w5 wz) (by kernel_rfl) ?_ (fun hHeld => ?_)
    · exact below_drewN w5 1
    refine wpAnyH_take (i := 0) (oi := ⟨some 17, _, _, _, _, _⟩) (v := ?_) rfl (by kernel_rfl) (by kernel_rfl) (by kernel_rfl) (fun _ _ _ h => h) (Or.inl ⟨by rfl, ?_⟩) hHeld ?_
    rotate_left
    · intro w hSw; (try dsimp only at hSw); go_simp; all_goals (with_reducible rfl)
    try simp only [Act.put, List.setIfInBounds_toArray, List.set_cons_zero, List.set_cons_succ]
    refine wpAnyH_take (i := 2) (oi := ⟨some 19, _, _, _, _, _⟩) (v := ?_) rfl (by kernel_rfl) (by kernel_rfl) (by kernel_rfl) (fun _ _ _ h => h) (Or.inl ⟨by rfl, ?_⟩) hHeld ?_
    rotate_left
    · intro w hSw; (try dsimp only at hSw); go_simp; all_goals (with_reducible rfl)
    try simp only [Act.put, List.setIfInBounds_toArray, List.set_cons_zero, List.set_cons_succ]
    refine wpAnyH_take (i := 3) (oi := ⟨some 20, _, _, _, _, _⟩) (v := ?_) rfl (by kernel_rfl) (by kernel_rfl) (by kernel_rfl) (fun _ _ _ h => h) (Or.inl ⟨by rfl, ?_⟩) hHeld ?_
    rotate_left
    · intro w hSw; (try dsimp only at hSw); go_simp; all_goals (with_reducible rfl)
    try simp only [Act.put, List.setIfInBounds_toArray, List.set_cons_zero, List.set_cons_succ]
    refine wpAnyH_take (i := 4) (oi := ⟨some 21, _, _, _, _, _⟩) (v := ?_) rfl (by kernel_rfl) (by kernel_rfl) (by kernel_rfl) (fun _ _ _ h => h) (Or.inl ⟨by rfl, ?_⟩) hHeld ?_
    rotate_left
    · intro w hSw; (try dsimp only at hSw); go_simp; all_goals (with_reducible rfl)
    try simp only [Act.put, List.setIfInBounds_toArray, List.set_cons_zero, List.set_cons_succ]
    refine wpAnyH_take (i := 5) (oi := ⟨some 22, _, _, _, _, _⟩) (v := ?_) rfl (by kernel_rfl) (by kernel_rfl) (by kernel_rfl) (fun _ _ _ h => h) (Or.inl ⟨by rfl, ?_⟩) hHeld ?_
    rotate_left
    · intro w hSw; (try dsimp only at hSw); go_simp; all_goals (with_reducible rfl)
    try simp only [Act.put, List.setIfInBounds_toArray, List.set_cons_zero, List.set_cons_succ]
    refine wpAnyH_take (i := 6) (oi := ⟨some 23, _, _, _, _, _⟩) (v := ?_) rfl (by kernel_rfl) (by kernel_rfl) (by kernel_rfl) (fun _ _ _ h => h) (Or.inl ⟨by rfl, ?_⟩) hHeld ?_
    rotate_left
    · intro w hSw; (try dsimp only at hSw); go_simp; all_goals (with_reducible rfl)
    try simp only [Act.put, List.setIfInBounds_toArray, List.set_cons_zero, List.set_cons_succ]
    refine wpAnyH_ready (rs := [1]) (by kernel_rfl) (by simp) ?_
    refine AllReadyH.cons (o := ⟨some 18, _, _, _, _, _⟩) rfl (fun K hK => ?_) AllReadyH.nil
    go_simp
    refine (count_walk (HA5.out.below (below_drewN w5 1)) HPN.out.2).mono ?_
    rintro e w6 ⟨rfl, hB⟩
    have HB6 : Hid (Below w5.heap.size w5 w6) := below_trans (below_drewN w5 1) hB
    clear hB
    refine hK.out _ _ ?_ (fun hHeld => ?_)
    · exact HB6.out
    clear hK K
    try simp only [Act.put, List.setIfInBounds_toArray, List.set_cons_zero, List.set_cons_succ]
    refine wpAnyH_take (i := 7) (oi := ⟨some 24, _, _, _, _, _⟩) (v := ?_) rfl (by kernel_rfl) (by kernel_rfl) (by kernel_rfl) (fun _ _ _ h => h) (Or.inl ⟨by rfl, ?_⟩) hHeld ?_
    rotate_left
    · intro w hSw; (try dsimp only at hSw); go_simp; all_goals (with_reducible rfl)
    try simp only [Act.put, List.setIfInBounds_toArray, List.set_cons_zero, List.set_cons_succ]
    refine wpAnyH_done (by kernel_rfl) ?_ _
    refine NoPanic.normal ?_
    have HX6 : Hid _ := HX5.out.keep HB6.out
    have HN6 : Hid _ := HN5.out.below HB6.out
    have x0 := HX6.out.c0
    have x1 := HX6.out.c1
    have x2 := HX6.out.c2
    have x3 := HX6.out.c3
    have x4 := HX6.out.c4
    have x5 := HX6.out.c5
    have x6 := HX6.out.c6
    have x7 := HX6.out.c7
    have x8 := HX6.out.c8
    go_wp2_with fail
    refine (ofEnds_walk 8 HN6.out (a := appA k x) (upd_mem HAT.out)).mono ?_
    rintro e w7 ⟨v, rfl, hrow, hB7⟩
    obtain ⟨va, vc, rfl⟩ := own_formN hrow
    clear x0 x1 x2 x3 x4 x5 x6 x7 x8
    go_wp2_with fail
    go_ret
    refine ⟨_, rfl, nt_fin (lo := w6.heap.size) HN.out HXM.out HN5.out HDG.out HCW.out (below_trans (below_trans HB6.out hB7) (below_alloc _ _)) HB6.out.size (below_trans hB7 (below_alloc _ _)).size (mr_ends HN.out.nd64 (i64_s (by omega) (by omega)) HK.out HKA.out HA5.out.eok hB7 hrow) ?_⟩
    unfold ntH; rw [if_neg HLT.out]; rfl
end Go.Proofs.YtopjedgknbbgkaaGreat
