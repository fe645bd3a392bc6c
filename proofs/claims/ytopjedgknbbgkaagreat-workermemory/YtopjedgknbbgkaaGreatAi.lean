/- Contract of begin. -/
import Derived.Test.YtopjedgknbbgkaaGreatAh
namespace Go.Proofs.YtopjedgknbbgkaaGreat

open Go.RowKit



theorem own_nb {w : World} {lo e s n x e' : Nat} {v : Value} {xs : List Value} {c : Array Value} {k : Nat × Nat} (h : w.ownsRow lo e s v n xs) (hx : w.heap[x]? = some (.cells c e' k)) (hne : e ≠ e') : v.ownBlock ≠ some x := by
  intro he
  rcases h.2 with ⟨h1, _⟩ | ⟨g, cap, cur, hv, hg, hh, q⟩
  · rw [h1] at he; cases he
  · rw [hv] at he; cases he; rw [hh] at hx; cases hx; exact hne rfl
def begA (a : At) : At := { a with h := { a.h with g := true } }
theorem set_row {w : World} {x i e : Nat} {c : Array Value} {u : Value} (h : w.heap[x]? = some (.cells c e (0, 0))) : (w.setCell ⟨x, i, none⟩ u).heap[x]? = some (.cells (c.setIfInBounds i u) e (0, 0)) := by
  rw [Sort.setCell_eq]
  simp [Sort.mapBlock, Array.getElem?_modify, h, Sort.onCells]
theorem Ao.beg {w : World} {p : Pn} {a : At} (h : Ao w p a) : Ao (w.setCell ⟨a.x, 4, none⟩ (.bool true)) p (begA a) := by
  have hc := ch_set w a.x 4 (.bool true)
  obtain ⟨vs, hv, hvy⟩ := h.prt
  refine ⟨by rw [show (begA a).x = a.x from rfl, set_row h.blk]; rfl, own_ch h.ends hc (fun y hy e => own_nb h.ends h.blk (by decide) (hy.trans (congrArg some e))), h.eok, ⟨vs, ⟨own_ch hv.row hc (fun y hy e => own_nb hv.row h.blk (by decide) (hy.trans (congrArg some e))), fun i hi => own_ch (hv.own i hi) hc (fun y hy e => own_nb (hv.own i hi) h.blk (by decide) (hy.trans (congrArg some e)))⟩, hvy⟩, h.tok, h.tl, h.el, own_ch h.app hc (fun y hy e => own_nb h.app h.blk (by decide) (hy.trans (congrArg some e))), h.al, h.lx, h.he, h.hp, h.ha, Nat.le_trans h.hi hc.size, h.ar, h.nr⟩
theorem Wm.beg {w : World} {P b : Nat} {ov : Value} {p : Pn} {nd : Int} {L : List At} (h : Wm w P b ov p nd L) {k : Int} {y : At} (hy : atK kA L k = some y) : Wm (w.setCell ⟨y.x, 4, none⟩ (.bool true)) P b ov p nd (updK kA L k begA) :=
  h.turn hy (fun _ => rfl) (fun _ => ⟨rfl, rfl, rfl⟩) (h.ent y (atK_mem hy).1).beg ((ch_set w y.x 4 (.bool true)).mono (fun x e => by have := (h.ent y (atK_mem hy).1).lx; omega))
theorem Mr.join {w w2 w3 : World} {lo : Nat} {v v' : Value} {M : List Tq} {x : Tq} (h : Mr w lo v M) (hb : Below w.heap.size w w2) (hx : To w2 lo x) (ho : w3.ownsRow lo 44 9 v' (M.length + 1) (flatT M ++ cellsT x)) (hg : w2.grownBy w3 v.ownBlock) : Mr w3 lo v' (M ++ [x]) := by
  have h2 := h.below hb
  have hc : Ch (fun y => v.ownBlock = some y) w2 w3 := Ch.of_grown hg (fun y hy => hy)
  have hne : ∀ {e s n : Nat} {u : Value} {xs : List Value}, w2.ownsRow lo e s u n xs → (44 : Nat) ≠ e → ∀ y, u.ownBlock = some y → ¬ v.ownBlock = some y := by
    intro e s n u xs hu hn y hy hv
    rcases own_ne h2.own hu hn with q | q
    · rw [q] at hv; cases hv
    · exact q (hv.trans hy.symm)
  have hto : ∀ z, To w2 lo z → To w3 lo z := fun z hz => ⟨own_ch hz.e hc (hne hz.e (by decide)), own_ch hz.q hc (hne hz.q (by decide)), own_ch hz.p hc (hne hz.p (by decide)), hz.ok⟩
  refine ⟨by rw [flatT_app, List.length_append]; exact ho, fun y hy => ?_⟩
  rcases List.mem_append.1 hy with hy | hy
  · exact hto y (h2.ent y hy)
  · rw [List.mem_singleton] at hy; subst hy; exact hto _ hx
theorem mr_empty (w : World) : Mr (w.alloc (Obj.cells #[] 44)) w.heap.size (.slice (some ⟨w.heap.size, 0, none⟩) 0 0) [] :=
  ⟨⟨rfl, .inr ⟨_, 0, #[], rfl, Nat.le_refl _, heap_alloc_new w _, Nat.le_refl _, by simp [maxLen], rfl, rfl⟩⟩, by simp⟩
theorem keys_of_ok {T : List Pr} (h : okT T) : keysOk (T.map (·.k)) := by
  intro k hk
  obtain ⟨q, hq, rfl⟩ := List.mem_map.1 hk
  exact (h q hq).1
/-- The message that opens the attempt at store i. -/
def bgM (p : Pn) (nd : Int) (m : Ms) (T : List Pr) (i : Nat) : Ms := sayM nd 4 (1 + p.W + (i : Int)) m [] ((dealF p T i).map (·.k)) []
theorem dl_at {lo : Nat} {w : World} {v : Value} {n : Nat} {vs : Nat → Value} {ls : Nat → List Pr} (h : Dl lo w v n vs ls) {i : Nat} (hi : i < n) : ∃ g cap a k c, v = .slice (some ⟨g, 0, none⟩) n cap ∧ vs i = .slice a k c ∧ w.cell? ⟨g, i, none⟩ = some (.slice a k c) ∧ k = (ls i).length := by
  obtain ⟨g, cap, hg, _⟩ := row_formN h.row (by omega)
  obtain ⟨a, c, hv⟩ := own_formN (h.own i hi)
  have hr := h.row
  rw [hg] at hr
  have := (own_cellN hr (j := i) (u := vs i) (by rw [List.getElem?_map, List.getElem?_range hi]; rfl)).1
  exact ⟨g, cap, a, _, c, hg, hv, by rw [this, hv], rfl⟩


set_option maxRecDepth 100000 in
set_option maxHeartbeats 4000000 in
theorem begin_walk {w : World} {P b : Nat} {ov : Value} {p : Pn} {nd : Int} {L : List At} {m : Ms} {ea qa pa : Option Addr} {en ec qn qc pn pc : Nat} (hn : Wm w P b ov p nd L) (hv : Nv w (.slice ea en ec) m.E) (hk : in64 m.B) (hka : in64 m.A) :
    Calls Tryz.prog 73 #[.pointer (some ⟨P, 0, none⟩), .agg #[.int .i64 m.K, .int .i64 m.F, .int .i64 m.T, .int .i64 m.B, .int .i64 m.A, .int .i64 m.C, .slice ea en ec, .slice qa qn qc, .slice pa pn pc]] w fun e w' => ∃ v, e = .returned v ∧ TkR w P b ov p nd L (goH p nd m (L.map (·.h))) v w' := by
  have HN : Hid (Wm w P b ov p nd L) := hn
  have HV : Hid (Nv w (.slice ea en ec) m.E) := hv
  have HIS : Hid (p.is = true) := hn.is
  have HKA : Hid (in64 m.A) := hka
  have HK : Hid (in64 m.B) := hk
  have HX0 : Hid _ := mx_new w m (.slice ea en ec) (.slice qa qn qc) (.slice pa pn pc)
  have HB0 : Hid _ := below_alloc w (Obj.cells #[.int .i64 m.K, .int .i64 m.F, .int .i64 m.T, .int .i64 m.B, .int .i64 m.A, .int .i64 m.C, .slice ea en ec, .slice qa qn qc, .slice pa pn pc] 44)
  have HPN : Hid (1 ≤ p.n ∧ p.n ≤ 4) := Pn.n_le hn.is
  obtain ⟨_, ⟨s1, s2⟩, ⟨w1, w2⟩, _⟩ := Pn.is_num hn.is
  clear hn hv hka hk
  go_enter Tryz.func73, Tryz.ntmps73
  go_upto_region 1 with fail
  obtain ⟨Q, hQ⟩ : ∃ Q, Q = w.heap.size := ⟨_, rfl⟩
  have HQ : Hid (Q = w.heap.size) := hQ
  rw [← hQ] at HX0 ⊢
  clear hQ
  generalize w.alloc (Obj.cells #[.int .i64 m.K, .int .i64 m.F, .int .i64 m.T, .int .i64 m.B, .int .i64 m.A, .int .i64 m.C, .slice ea en ec, .slice qa qn qc, .slice pa pn pc] 44) = wx at HX0 HB0 ⊢
  have x0 := HX0.out.c0
  have x1 := HX0.out.c1
  have x2 := HX0.out.c2
  have x3 := HX0.out.c3
  have x4 := HX0.out.c4
  have x5 := HX0.out.c5
  have x6 := HX0.out.c6
  have x7 := HX0.out.c7
  have x8 := HX0.out.c8
  go_wp2_with fail
  refine (find_walk (m := m) (HN.out.below HB0.out) HK.out).mono ?_
  rintro e w3 ⟨he, hB3⟩
  have HB3 : Hid (Below w.heap.size w w3) := below_trans HB0.out hB3
  have HX3 : Hid _ := HX0.out.keep hB3
  have HM : Hid (atK kH (L.map (·.h)) m.B = (atK kA L m.B).map (·.h)) := atK_map L m.B
  clear hB3 HX0 HB0 x0 x1 x2 x3 x4 x5 x6 x7 x8
  cases hat : atK kA L m.B with
  | none =>
    have HR0 : Hid (goH p nd m (L.map (·.h)) = ([], L.map (·.h))) := by show _ = _; unfold goH; rw [HM.out, hat]; rfl
    have e2 : fndA L m = .pointer none := by unfold fndA; rw [hat]
    rw [e2] at he
    subst he
    clear e2 hat
    go_upto_region 2 with fail
    refine wp_region_noPanic ?_
    refine wp_region_held_drew (S := fun wz => Below w3.heap.size w3 wz) (by kernel_rfl) ?_ (fun hHeld => ?_)
    · exact below_drewN w3 1
    refine wpAnyH_take (i := 0) (oi := ⟨some 13, _, _, _, _, _⟩) (v := ?_) rfl (by kernel_rfl) (by kernel_rfl) (by kernel_rfl) (fun _ _ _ h => h) (Or.inl ⟨by rfl, ?_⟩) hHeld ?_
    rotate_left
    · intro w hSw; (try dsimp only at hSw); go_simp; all_goals (with_reducible rfl)
    try simp only [Act.put, List.setIfInBounds_toArray, List.set_cons_zero, List.set_cons_succ]
    refine wpAnyH_take (i := 1) (oi := ⟨some 14, _, _, _, _, _⟩) (v := ?_) rfl (by kernel_rfl) (by kernel_rfl) (by kernel_rfl) (fun _ _ _ h => h) (Or.inl ⟨by rfl, ?_⟩) hHeld ?_
    rotate_left
    · intro w hSw; (try dsimp only at hSw); go_simp; all_goals (with_reducible rfl)
    try simp only [Act.put, List.setIfInBounds_toArray, List.set_cons_zero, List.set_cons_succ]
    refine wpAnyH_take (i := 2) (oi := ⟨some 15, _, _, _, _, _⟩) (v := ?_) rfl (by kernel_rfl) (by kernel_rfl) (by kernel_rfl) (fun _ _ _ h => h) (Or.inl ⟨by rfl, ?_⟩) hHeld ?_
    rotate_left
    · intro w hSw; (try dsimp only at hSw); go_simp; all_goals (with_reducible rfl)
    try simp only [Act.put, List.setIfInBounds_toArray, List.set_cons_zero, List.set_cons_succ]
    refine wpAnyH_take (i := 3) (oi := ⟨some 16, _, _, _, _, _⟩) (v := undef) rfl (by kernel_rfl) (by kernel_rfl) (by kernel_rfl) (fun _ _ _ h => h) (Or.inr ⟨by rfl, rfl⟩) hHeld ?_
    try simp only [Act.put, List.setIfInBounds_toArray, List.set_cons_zero, List.set_cons_succ]
    refine wpAnyH_take (i := 4) (oi := ⟨some 17, _, _, _, _, _⟩) (v := undef) rfl (by kernel_rfl) (by kernel_rfl) (by kernel_rfl) (fun _ _ _ h => h) (Or.inr ⟨by rfl, rfl⟩) hHeld ?_
    try simp only [Act.put, List.setIfInBounds_toArray, List.set_cons_zero, List.set_cons_succ]
    refine wpAnyH_take (i := 5) (oi := ⟨some 18, _, _, _, _, _⟩) (v := undef) rfl (by kernel_rfl) (by kernel_rfl) (by kernel_rfl) (fun _ _ _ h => h) (Or.inr ⟨by rfl, rfl⟩) hHeld ?_
    try simp only [Act.put, List.setIfInBounds_toArray, List.set_cons_zero, List.set_cons_succ]
    refine wpAnyH_take (i := 6) (oi := ⟨some 19, _, _, _, _, _⟩) (v := undef) rfl (by kernel_rfl) (by kernel_rfl) (by kernel_rfl) (fun _ _ _ h => h) (Or.inr ⟨by rfl, rfl⟩) hHeld ?_
    try simp only [Act.put, List.setIfInBounds_toArray, List.set_cons_zero, List.set_cons_succ]
    refine wpAnyH_take (i := 7) (oi := ⟨some 20, _, _, _, _, _⟩) (v := ?_) rfl (by kernel_rfl) (by kernel_rfl) (by kernel_rfl) (fun _ _ _ h => h) (Or.inl ⟨by rfl, ?_⟩) hHeld ?_
    rotate_left
    · intro w hSw; (try dsimp only at hSw); go_simp; all_goals (with_reducible rfl)
    try simp only [Act.put, List.setIfInBounds_toArray, List.set_cons_zero, List.set_cons_succ]
    refine wpAnyH_take (i := 8) (oi := ⟨some 21, _, _, _, _, _⟩) (v := ?_) rfl (by kernel_rfl) (by kernel_rfl) (by kernel_rfl) (fun _ _ _ h => h) (Or.inl ⟨by rfl, ?_⟩) hHeld ?_
    rotate_left
    · intro w hSw; (try dsimp only at hSw); go_simp; all_goals (with_reducible rfl)
    try simp only [Act.put, List.setIfInBounds_toArray, List.set_cons_zero, List.set_cons_succ]
    refine wpAnyH_take (i := 9) (oi := ⟨some 22, _, _, _, _, _⟩) (v := undef) rfl (by kernel_rfl) (by kernel_rfl) (by kernel_rfl) (fun _ _ _ h => h) (Or.inr ⟨by rfl, rfl⟩) hHeld ?_
    try simp only [Act.put, List.setIfInBounds_toArray, List.set_cons_zero, List.set_cons_succ]
    refine wpAnyH_take (i := 10) (oi := ⟨some 23, _, _, _, _, _⟩) (v := undef) rfl (by kernel_rfl) (by kernel_rfl) (by kernel_rfl) (fun _ _ _ h => h) (Or.inr ⟨by rfl, rfl⟩) hHeld ?_
    try simp only [Act.put, List.setIfInBounds_toArray, List.set_cons_zero, List.set_cons_succ]
    refine wpAnyH_take (i := 11) (oi := ⟨some 24, _, _, _, _, _⟩) (v := undef) rfl (by kernel_rfl) (by kernel_rfl) (by kernel_rfl) (fun _ _ _ h => h) (Or.inr ⟨by rfl, rfl⟩) hHeld ?_
    try simp only [Act.put, List.setIfInBounds_toArray, List.set_cons_zero, List.set_cons_succ]
    refine wpAnyH_take (i := 12) (oi := ⟨some 25, _, _, _, _, _⟩) (v := undef) rfl (by kernel_rfl) (by kernel_rfl) (by kernel_rfl) (fun _ _ _ h => h) (Or.inr ⟨by rfl, rfl⟩) hHeld ?_
    try simp only [Act.put, List.setIfInBounds_toArray, List.set_cons_zero, List.set_cons_succ]
    refine wpAnyH_take (i := 13) (oi := ⟨some 26, _, _, _, _, _⟩) (v := undef) rfl (by kernel_rfl) (by kernel_rfl) (by kernel_rfl) (fun _ _ _ h => h) (Or.inr ⟨by rfl, rfl⟩) hHeld ?_
    try simp only [Act.put, List.setIfInBounds_toArray, List.set_cons_zero, List.set_cons_succ]
    refine wpAnyH_take (i := 14) (oi := ⟨some 27, _, _, _, _, _⟩) (v := undef) rfl (by kernel_rfl) (by kernel_rfl) (by kernel_rfl) (fun _ _ _ h => h) (Or.inr ⟨by rfl, rfl⟩) hHeld ?_
    try simp only [Act.put, List.setIfInBounds_toArray, List.set_cons_zero, List.set_cons_succ]
    refine wpAnyH_take (i := 15) (oi := ⟨some 28, _, _, _, _, _⟩) (v := undef) rfl (by kernel_rfl) (by kernel_rfl) (by kernel_rfl) (fun _ _ _ h => h) (Or.inr ⟨by rfl, rfl⟩) hHeld ?_
    try simp only [Act.put, List.setIfInBounds_toArray, List.set_cons_zero, List.set_cons_succ]
    refine wpAnyH_take (i := 16) (oi := ⟨some 29, _, _, _, _, _⟩) (v := undef) rfl (by kernel_rfl) (by kernel_rfl) (by kernel_rfl) (fun _ _ _ h => h) (Or.inr ⟨by rfl, rfl⟩) hHeld ?_
    try simp only [Act.put, List.setIfInBounds_toArray, List.set_cons_zero, List.set_cons_succ]
    refine wpAnyH_take (i := 17) (oi := ⟨some 30, _, _, _, _, _⟩) (v := ?_) rfl (by kernel_rfl) (by kernel_rfl) (by kernel_rfl) (fun _ _ _ h => h) (Or.inl ⟨by rfl, ?_⟩) hHeld ?_
    rotate_left
    · intro w hSw; (try dsimp only at hSw); go_simp; all_goals (with_reducible rfl)
    try simp only [Act.put, List.setIfInBounds_toArray, List.set_cons_zero, List.set_cons_succ]
    refine wpAnyH_done (by kernel_rfl) ?_ _
    refine NoPanic.normal ?_
    go_wp2_with fail
    go_ret
    refine ⟨_, rfl, ?_⟩
    rw [HR0.out]
    exact tk_none HN.out (below_trans HB3.out (below_drewN w3 1))
  | some x =>
    by_cases hA : x.h.a = m.A
    rotate_left
    · have HR0 : Hid (goH p nd m (L.map (·.h)) = ([], L.map (·.h))) := by show _ = _; unfold goH; rw [HM.out, hat]; exact if_neg (fun h => hA h.1)
      have e2 : fndA L m = .pointer none := by unfold fndA; rw [hat]; exact if_neg hA
      rw [e2] at he
      subst he
      clear e2 hat
      go_upto_region 2 with fail
      refine wp_region_noPanic ?_
      refine wp_region_held_drew (S := fun wz => Below w3.heap.size w3 wz) (by kernel_rfl) ?_ (fun hHeld => ?_)
      · exact below_drewN w3 1
      refine wpAnyH_take (i := 0) (oi := ⟨some 13, _, _, _, _, _⟩) (v := ?_) rfl (by kernel_rfl) (by kernel_rfl) (by kernel_rfl) (fun _ _ _ h => h) (Or.inl ⟨by rfl, ?_⟩) hHeld ?_
      rotate_left
      · intro w hSw; (try dsimp only at hSw); go_simp; all_goals (with_reducible rfl)
      try simp only [Act.put, List.setIfInBounds_toArray, List.set_cons_zero, List.set_cons_succ]
      refine wpAnyH_take (i := 1) (oi := ⟨some 14, _, _, _, _, _⟩) (v := ?_) rfl (by kernel_rfl) (by kernel_rfl) (by kernel_rfl) (fun _ _ _ h => h) (Or.inl ⟨by rfl, ?_⟩) hHeld ?_
      rotate_left
      · intro w hSw; (try dsimp only at hSw); go_simp; all_goals (with_reducible rfl)
      try simp only [Act.put, List.setIfInBounds_toArray, List.set_cons_zero, List.set_cons_succ]
      refine wpAnyH_take (i := 2) (oi := ⟨some 15, _, _, _, _, _⟩) (v := ?_) rfl (by kernel_rfl) (by kernel_rfl) (by kernel_rfl) (fun _ _ _ h => h) (Or.inl ⟨by rfl, ?_⟩) hHeld ?_
      rotate_left
      · intro w hSw; (try dsimp only at hSw); go_simp; all_goals (with_reducible rfl)
      try simp only [Act.put, List.setIfInBounds_toArray, List.set_cons_zero, List.set_cons_succ]
      refine wpAnyH_take (i := 3) (oi := ⟨some 16, _, _, _, _, _⟩) (v := undef) rfl (by kernel_rfl) (by kernel_rfl) (by kernel_rfl) (fun _ _ _ h => h) (Or.inr ⟨by rfl, rfl⟩) hHeld ?_
      try simp only [Act.put, List.setIfInBounds_toArray, List.set_cons_zero, List.set_cons_succ]
      refine wpAnyH_take (i := 4) (oi := ⟨some 17, _, _, _, _, _⟩) (v := undef) rfl (by kernel_rfl) (by kernel_rfl) (by kernel_rfl) (fun _ _ _ h => h) (Or.inr ⟨by rfl, rfl⟩) hHeld ?_
      try simp only [Act.put, List.setIfInBounds_toArray, List.set_cons_zero, List.set_cons_succ]
      refine wpAnyH_take (i := 5) (oi := ⟨some 18, _, _, _, _, _⟩) (v := undef) rfl (by kernel_rfl) (by kernel_rfl) (by kernel_rfl) (fun _ _ _ h => h) (Or.inr ⟨by rfl, rfl⟩) hHeld ?_
      try simp only [Act.put, List.setIfInBounds_toArray, List.set_cons_zero, List.set_cons_succ]
      refine wpAnyH_take (i := 6) (oi := ⟨some 19, _, _, _, _, _⟩) (v := undef) rfl (by kernel_rfl) (by kernel_rfl) (by kernel_rfl) (fun _ _ _ h => h) (Or.inr ⟨by rfl, rfl⟩) hHeld ?_
      try simp only [Act.put, List.setIfInBounds_toArray, List.set_cons_zero, List.set_cons_succ]
      refine wpAnyH_take (i := 7) (oi := ⟨some 20, _, _, _, _, _⟩) (v := ?_) rfl (by kernel_rfl) (by kernel_rfl) (by kernel_rfl) (fun _ _ _ h => h) (Or.inl ⟨by rfl, ?_⟩) hHeld ?_
      rotate_left
      · intro w hSw; (try dsimp only at hSw); go_simp; all_goals (with_reducible rfl)
      try simp only [Act.put, List.setIfInBounds_toArray, List.set_cons_zero, List.set_cons_succ]
      refine wpAnyH_take (i := 8) (oi := ⟨some 21, _, _, _, _, _⟩) (v := ?_) rfl (by kernel_rfl) (by kernel_rfl) (by kernel_rfl) (fun _ _ _ h => h) (Or.inl ⟨by rfl, ?_⟩) hHeld ?_
      rotate_left
      · intro w hSw; (try dsimp only at hSw); go_simp; all_goals (with_reducible rfl)
      try simp only [Act.put, List.setIfInBounds_toArray, List.set_cons_zero, List.set_cons_succ]
      refine wpAnyH_take (i := 9) (oi := ⟨some 22, _, _, _, _, _⟩) (v := undef) rfl (by kernel_rfl) (by kernel_rfl) (by kernel_rfl) (fun _ _ _ h => h) (Or.inr ⟨by rfl, rfl⟩) hHeld ?_
      try simp only [Act.put, List.setIfInBounds_toArray, List.set_cons_zero, List.set_cons_succ]
      refine wpAnyH_take (i := 10) (oi := ⟨some 23, _, _, _, _, _⟩) (v := undef) rfl (by kernel_rfl) (by kernel_rfl) (by kernel_rfl) (fun _ _ _ h => h) (Or.inr ⟨by rfl, rfl⟩) hHeld ?_
      try simp only [Act.put, List.setIfInBounds_toArray, List.set_cons_zero, List.set_cons_succ]
      refine wpAnyH_take (i := 11) (oi := ⟨some 24, _, _, _, _, _⟩) (v := undef) rfl (by kernel_rfl) (by kernel_rfl) (by kernel_rfl) (fun _ _ _ h => h) (Or.inr ⟨by rfl, rfl⟩) hHeld ?_
      try simp only [Act.put, List.setIfInBounds_toArray, List.set_cons_zero, List.set_cons_succ]
      refine wpAnyH_take (i := 12) (oi := ⟨some 25, _, _, _, _, _⟩) (v := undef) rfl (by kernel_rfl) (by kernel_rfl) (by kernel_rfl) (fun _ _ _ h => h) (Or.inr ⟨by rfl, rfl⟩) hHeld ?_
      try simp only [Act.put, List.setIfInBounds_toArray, List.set_cons_zero, List.set_cons_succ]
      refine wpAnyH_take (i := 13) (oi := ⟨some 26, _, _, _, _, _⟩) (v := undef) rfl (by kernel_rfl) (by kernel_rfl) (by kernel_rfl) (fun _ _ _ h => h) (Or.inr ⟨by rfl, rfl⟩) hHeld ?_
      try simp only [Act.put, List.setIfInBounds_toArray, List.set_cons_zero, List.set_cons_succ]
      refine wpAnyH_take (i := 14) (oi := ⟨some 27, _, _, _, _, _⟩) (v := undef) rfl (by kernel_rfl) (by kernel_rfl) (by kernel_rfl) (fun _ _ _ h => h) (Or.inr ⟨by rfl, rfl⟩) hHeld ?_
      try simp only [Act.put, List.setIfInBounds_toArray, List.set_cons_zero, List.set_cons_succ]
      refine wpAnyH_take (i := 15) (oi := ⟨some 28, _, _, _, _, _⟩) (v := undef) rfl (by kernel_rfl) (by kernel_rfl) (by kernel_rfl) (fun _ _ _ h => h) (Or.inr ⟨by rfl, rfl⟩) hHeld ?_
      try simp only [Act.put, List.setIfInBounds_toArray, List.set_cons_zero, List.set_cons_succ]
      refine wpAnyH_take (i := 16) (oi := ⟨some 29, _, _, _, _, _⟩) (v := undef) rfl (by kernel_rfl) (by kernel_rfl) (by kernel_rfl) (fun _ _ _ h => h) (Or.inr ⟨by rfl, rfl⟩) hHeld ?_
      try simp only [Act.put, List.setIfInBounds_toArray, List.set_cons_zero, List.set_cons_succ]
      refine wpAnyH_take (i := 17) (oi := ⟨some 30, _, _, _, _, _⟩) (v := ?_) rfl (by kernel_rfl) (by kernel_rfl) (by kernel_rfl) (fun _ _ _ h => h) (Or.inl ⟨by rfl, ?_⟩) hHeld ?_
      rotate_left
      · intro w hSw; (try dsimp only at hSw); go_simp; all_goals (with_reducible rfl)
      try simp only [Act.put, List.setIfInBounds_toArray, List.set_cons_zero, List.set_cons_succ]
      refine wpAnyH_done (by kernel_rfl) ?_ _
      refine NoPanic.normal ?_
      go_wp2_with fail
      go_ret
      refine ⟨_, rfl, ?_⟩
      rw [HR0.out]
      exact tk_none HN.out (below_trans HB3.out (below_drewN w3 1))
    have HXM : Hid (x ∈ L) := (atK_mem hat).1
    have e2 : fndA L m = .pointer (some ⟨x.x, 0, none⟩) := by unfold fndA; rw [hat]; exact if_pos hA
    rw [e2] at he
    subst he
    clear e2
    have HA3 : Hid (Ao w3 p x) := (HN.out.below HB3.out).ent x HXM.out
    have a4 := fun wz (h : Below w3.heap.size w3 wz) => (HA3.out.below h).cells.2.2.2.2
    cases hg : x.h.g with
    | true =>
      have HR0 : Hid (goH p nd m (L.map (·.h)) = ([], L.map (·.h))) := by show _ = _; unfold goH; rw [HM.out, hat]; exact if_neg (fun h => by have h2 : x.h.g = false := h.2.1; rw [hg] at h2; cases h2)
      rw [hg] at a4
      clear hat hg
      go_upto_region 2 with fail
      refine wp_region_noPanic ?_
      refine wp_region_held_drew (S := fun wz => Below w3.heap.size w3 wz) (by kernel_rfl) ?_ (fun hHeld => ?_)
      · exact below_drewN w3 1
      refine wpAnyH_take (i := 0) (oi := ⟨some 13, _, _, _, _, _⟩) (v := ?_) rfl (by kernel_rfl) (by kernel_rfl) (by kernel_rfl) (fun _ _ _ h => h) (Or.inl ⟨by rfl, ?_⟩) hHeld ?_
      rotate_left
      · intro w hSw; (try dsimp only at hSw); go_simp; all_goals (with_reducible rfl)
      try simp only [Act.put, List.setIfInBounds_toArray, List.set_cons_zero, List.set_cons_succ]
      refine wpAnyH_take (i := 1) (oi := ⟨some 14, _, _, _, _, _⟩) (v := ?_) rfl (by kernel_rfl) (by kernel_rfl) (by kernel_rfl) (fun _ _ _ h => h) (Or.inl ⟨by rfl, ?_⟩) hHeld ?_
      rotate_left
      · intro w hSw; (try dsimp only at hSw); go_simp; all_goals (with_reducible rfl)
      try simp only [Act.put, List.setIfInBounds_toArray, List.set_cons_zero, List.set_cons_succ]
      refine wpAnyH_take (i := 2) (oi := ⟨some 15, _, _, _, _, _⟩) (v := ?_) rfl (by kernel_rfl) (by kernel_rfl) (by kernel_rfl) (fun _ _ _ h => h) (Or.inl ⟨by rfl, ?_⟩) hHeld ?_
      rotate_left
      · intro w hSw; (try dsimp only at hSw); go_simp; all_goals (with_reducible rfl)
      try simp only [Act.put, List.setIfInBounds_toArray, List.set_cons_zero, List.set_cons_succ]
      refine wpAnyH_take (i := 3) (oi := ⟨some 16, _, _, _, _, _⟩) (v := ?_) rfl (by kernel_rfl) (by kernel_rfl) (by kernel_rfl) (fun _ _ _ h => h) (Or.inl ⟨by rfl, ?_⟩) hHeld ?_
      rotate_left
      · intro w hSw; (try dsimp only at hSw); go_simp; all_goals (with_reducible rfl)
      try simp only [Act.put, List.setIfInBounds_toArray, List.set_cons_zero, List.set_cons_succ]
      refine wpAnyH_take (i := 4) (oi := ⟨some 17, _, _, _, _, _⟩) (v := ?_) rfl (by kernel_rfl) (by kernel_rfl) (by kernel_rfl) (fun _ _ _ h => h) (Or.inl ⟨by rfl, ?_⟩) hHeld ?_
      rotate_left
      · intro w hSw; (try dsimp only at hSw); go_simp; all_goals (with_reducible rfl)
      try simp only [Act.put, List.setIfInBounds_toArray, List.set_cons_zero, List.set_cons_succ]
      refine wpAnyH_take (i := 5) (oi := ⟨some 18, _, _, _, _, _⟩) (v := ?_) rfl (by kernel_rfl) (by kernel_rfl) (by kernel_rfl) (fun _ _ _ h => h) (Or.inl ⟨by rfl, ?_⟩) hHeld ?_
      rotate_left
      · intro w hSw; (try dsimp only at hSw); go_simp; all_goals (with_reducible rfl)
      try simp only [Act.put, List.setIfInBounds_toArray, List.set_cons_zero, List.set_cons_succ]
      refine wpAnyH_take (i := 6) (oi := ⟨some 19, _, _, _, _, _⟩) (v := ?_) rfl (by kernel_rfl) (by kernel_rfl) (by kernel_rfl) (fun _ _ _ h => h) (Or.inl ⟨by rfl, ?_⟩) hHeld ?_
      rotate_left
      · intro w hSw; (try dsimp only at hSw); go_simp; all_goals (with_reducible rfl)
      try simp only [Act.put, List.setIfInBounds_toArray, List.set_cons_zero, List.set_cons_succ]
      refine wpAnyH_take (i := 7) (oi := ⟨some 20, _, _, _, _, _⟩) (v := ?_) rfl (by kernel_rfl) (by kernel_rfl) (by kernel_rfl) (fun _ _ _ h => h) (Or.inl ⟨by rfl, ?_⟩) hHeld ?_
      rotate_left
      · intro w hSw; (try dsimp only at hSw); go_simp; all_goals (with_reducible rfl)
      try simp only [Act.put, List.setIfInBounds_toArray, List.set_cons_zero, List.set_cons_succ]
      refine wpAnyH_take (i := 8) (oi := ⟨some 21, _, _, _, _, _⟩) (v := ?_) rfl (by kernel_rfl) (by kernel_rfl) (by kernel_rfl) (fun _ _ _ h => h) (Or.inl ⟨by rfl, ?_⟩) hHeld ?_
      rotate_left
      · intro w hSw; (try dsimp only at hSw); go_simp; all_goals (with_reducible rfl)
      try simp only [Act.put, List.setIfInBounds_toArray, List.set_cons_zero, List.set_cons_succ]
      refine wpAnyH_take (i := 9) (oi := ⟨some 22, _, _, _, _, _⟩) (v := undef) rfl (by kernel_rfl) (by kernel_rfl) (by kernel_rfl) (fun _ _ _ h => h) (Or.inr ⟨by rfl, rfl⟩) hHeld ?_
      try simp only [Act.put, List.setIfInBounds_toArray, List.set_cons_zero, List.set_cons_succ]
      refine wpAnyH_take (i := 10) (oi := ⟨some 23, _, _, _, _, _⟩) (v := undef) rfl (by kernel_rfl) (by kernel_rfl) (by kernel_rfl) (fun _ _ _ h => h) (Or.inr ⟨by rfl, rfl⟩) hHeld ?_
      try simp only [Act.put, List.setIfInBounds_toArray, List.set_cons_zero, List.set_cons_succ]
      refine wpAnyH_take (i := 11) (oi := ⟨some 24, _, _, _, _, _⟩) (v := undef) rfl (by kernel_rfl) (by kernel_rfl) (by kernel_rfl) (fun _ _ _ h => h) (Or.inr ⟨by rfl, rfl⟩) hHeld ?_
      try simp only [Act.put, List.setIfInBounds_toArray, List.set_cons_zero, List.set_cons_succ]
      refine wpAnyH_take (i := 12) (oi := ⟨some 25, _, _, _, _, _⟩) (v := undef) rfl (by kernel_rfl) (by kernel_rfl) (by kernel_rfl) (fun _ _ _ h => h) (Or.inr ⟨by rfl, rfl⟩) hHeld ?_
      try simp only [Act.put, List.setIfInBounds_toArray, List.set_cons_zero, List.set_cons_succ]
      refine wpAnyH_take (i := 13) (oi := ⟨some 26, _, _, _, _, _⟩) (v := undef) rfl (by kernel_rfl) (by kernel_rfl) (by kernel_rfl) (fun _ _ _ h => h) (Or.inr ⟨by rfl, rfl⟩) hHeld ?_
      try simp only [Act.put, List.setIfInBounds_toArray, List.set_cons_zero, List.set_cons_succ]
      refine wpAnyH_take (i := 14) (oi := ⟨some 27, _, _, _, _, _⟩) (v := undef) rfl (by kernel_rfl) (by kernel_rfl) (by kernel_rfl) (fun _ _ _ h => h) (Or.inr ⟨by rfl, rfl⟩) hHeld ?_
      try simp only [Act.put, List.setIfInBounds_toArray, List.set_cons_zero, List.set_cons_succ]
      refine wpAnyH_take (i := 15) (oi := ⟨some 28, _, _, _, _, _⟩) (v := undef) rfl (by kernel_rfl) (by kernel_rfl) (by kernel_rfl) (fun _ _ _ h => h) (Or.inr ⟨by rfl, rfl⟩) hHeld ?_
      try simp only [Act.put, List.setIfInBounds_toArray, List.set_cons_zero, List.set_cons_succ]
      refine wpAnyH_take (i := 16) (oi := ⟨some 29, _, _, _, _, _⟩) (v := undef) rfl (by kernel_rfl) (by kernel_rfl) (by kernel_rfl) (fun _ _ _ h => h) (Or.inr ⟨by rfl, rfl⟩) hHeld ?_
      try simp only [Act.put, List.setIfInBounds_toArray, List.set_cons_zero, List.set_cons_succ]
      refine wpAnyH_take (i := 17) (oi := ⟨some 30, _, _, _, _, _⟩) (v := ?_) rfl (by kernel_rfl) (by kernel_rfl) (by kernel_rfl) (fun _ _ _ h => h) (Or.inl ⟨by rfl, ?_⟩) hHeld ?_
      rotate_left
      · intro w hSw; (try dsimp only at hSw); go_simp; all_goals (with_reducible rfl)
      try simp only [Act.put, List.setIfInBounds_toArray, List.set_cons_zero, List.set_cons_succ]
      refine wpAnyH_done (by kernel_rfl) ?_ _
      refine NoPanic.normal ?_
      go_wp2_with fail
      go_ret
      refine ⟨_, rfl, ?_⟩
      rw [HR0.out]
      exact tk_none HN.out (below_trans HB3.out (below_drewN w3 1))
    | false =>
      rw [hg] at a4
      have a1 := fun wz (h : Below w3.heap.size w3 wz) => (HA3.out.below h).cells.2.1
      obtain ⟨va, vc, hev⟩ := own_formN HA3.out.ends
      have HNV : Hid (Nv w3 (.slice va x.h.E.length vc) x.h.E) := by have h := own_nv HA3.out.ends HA3.out.eok; rw [hev] at h; exact h
      rw [hev] at a1
      clear hev
      have x6 := fun wz (h : Below w3.heap.size w3 wz) => (HX3.out.keep h).c6
      by_cases hE : x.h.E = m.E
      rotate_left
      · have HR0 : Hid (goH p nd m (L.map (·.h)) = ([], L.map (·.h))) := by show _ = _; unfold goH; rw [HM.out, hat]; exact if_neg (fun h => hE h.2.2)
        have HEN : Hid (¬ x.h.E = m.E) := hE
        clear hat hg hE
        go_upto_region 2 with fail
        refine wp_region_noPanic ?_
        refine wp_region_held_drew (S := fun wz => Below w3.heap.size w3 wz) (by kernel_rfl) ?_ (fun hHeld => ?_)
        · exact below_drewN w3 1
        refine wpAnyH_take (i := 0) (oi := ⟨some 13, _, _, _, _, _⟩) (v := ?_) rfl (by kernel_rfl) (by kernel_rfl) (by kernel_rfl) (fun _ _ _ h => h) (Or.inl ⟨by rfl, ?_⟩) hHeld ?_
        rotate_left
        · intro w hSw; (try dsimp only at hSw); go_simp; all_goals (with_reducible rfl)
        try simp only [Act.put, List.setIfInBounds_toArray, List.set_cons_zero, List.set_cons_succ]
        refine wpAnyH_take (i := 1) (oi := ⟨some 14, _, _, _, _, _⟩) (v := ?_) rfl (by kernel_rfl) (by kernel_rfl) (by kernel_rfl) (fun _ _ _ h => h) (Or.inl ⟨by rfl, ?_⟩) hHeld ?_
        rotate_left
        · intro w hSw; (try dsimp only at hSw); go_simp; all_goals (with_reducible rfl)
        try simp only [Act.put, List.setIfInBounds_toArray, List.set_cons_zero, List.set_cons_succ]
        refine wpAnyH_take (i := 2) (oi := ⟨some 15, _, _, _, _, _⟩) (v := ?_) rfl (by kernel_rfl) (by kernel_rfl) (by kernel_rfl) (fun _ _ _ h => h) (Or.inl ⟨by rfl, ?_⟩) hHeld ?_
        rotate_left
        · intro w hSw; (try dsimp only at hSw); go_simp; all_goals (with_reducible rfl)
        try simp only [Act.put, List.setIfInBounds_toArray, List.set_cons_zero, List.set_cons_succ]
        refine wpAnyH_take (i := 3) (oi := ⟨some 16, _, _, _, _, _⟩) (v := ?_) rfl (by kernel_rfl) (by kernel_rfl) (by kernel_rfl) (fun _ _ _ h => h) (Or.inl ⟨by rfl, ?_⟩) hHeld ?_
        rotate_left
        · intro w hSw; (try dsimp only at hSw); go_simp; all_goals (with_reducible rfl)
        try simp only [Act.put, List.setIfInBounds_toArray, List.set_cons_zero, List.set_cons_succ]
        refine wpAnyH_take (i := 4) (oi := ⟨some 17, _, _, _, _, _⟩) (v := ?_) rfl (by kernel_rfl) (by kernel_rfl) (by kernel_rfl) (fun _ _ _ h => h) (Or.inl ⟨by rfl, ?_⟩) hHeld ?_
        rotate_left
        · intro w hSw; (try dsimp only at hSw); go_simp; all_goals (with_reducible rfl)
        try simp only [Act.put, List.setIfInBounds_toArray, List.set_cons_zero, List.set_cons_succ]
        refine wpAnyH_take (i := 5) (oi := ⟨some 18, _, _, _, _, _⟩) (v := ?_) rfl (by kernel_rfl) (by kernel_rfl) (by kernel_rfl) (fun _ _ _ h => h) (Or.inl ⟨by rfl, ?_⟩) hHeld ?_
        rotate_left
        · intro w hSw; (try dsimp only at hSw); go_simp; all_goals (with_reducible rfl)
        try simp only [Act.put, List.setIfInBounds_toArray, List.set_cons_zero, List.set_cons_succ]
        refine wpAnyH_take (i := 6) (oi := ⟨some 19, _, _, _, _, _⟩) (v := ?_) rfl (by kernel_rfl) (by kernel_rfl) (by kernel_rfl) (fun _ _ _ h => h) (Or.inl ⟨by rfl, ?_⟩) hHeld ?_
        rotate_left
        · intro w hSw; (try dsimp only at hSw); go_simp; all_goals (with_reducible rfl)
        try simp only [Act.put, List.setIfInBounds_toArray, List.set_cons_zero, List.set_cons_succ]
        refine wpAnyH_take (i := 7) (oi := ⟨some 20, _, _, _, _, _⟩) (v := ?_) rfl (by kernel_rfl) (by kernel_rfl) (by kernel_rfl) (fun _ _ _ h => h) (Or.inl ⟨by rfl, ?_⟩) hHeld ?_
        rotate_left
        · intro w hSw; (try dsimp only at hSw); go_simp; all_goals (with_reducible rfl)
        try simp only [Act.put, List.setIfInBounds_toArray, List.set_cons_zero, List.set_cons_succ]
        refine wpAnyH_take (i := 8) (oi := ⟨some 21, _, _, _, _, _⟩) (v := ?_) rfl (by kernel_rfl) (by kernel_rfl) (by kernel_rfl) (fun _ _ _ h => h) (Or.inl ⟨by rfl, ?_⟩) hHeld ?_
        rotate_left
        · intro w hSw; (try dsimp only at hSw); go_simp; all_goals (with_reducible rfl)
        try simp only [Act.put, List.setIfInBounds_toArray, List.set_cons_zero, List.set_cons_succ]
        refine wpAnyH_take (i := 9) (oi := ⟨some 22, _, _, _, _, _⟩) (v := ?_) rfl (by kernel_rfl) (by kernel_rfl) (by kernel_rfl) (fun _ _ _ h => h) (Or.inl ⟨by rfl, ?_⟩) hHeld ?_
        rotate_left
        · intro w hSw; (try dsimp only at hSw); go_simp; all_goals (with_reducible rfl)
        try simp only [Act.put, List.setIfInBounds_toArray, List.set_cons_zero, List.set_cons_succ]
        refine wpAnyH_take (i := 10) (oi := ⟨some 23, _, _, _, _, _⟩) (v := ?_) rfl (by kernel_rfl) (by kernel_rfl) (by kernel_rfl) (fun _ _ _ h => h) (Or.inl ⟨by rfl, ?_⟩) hHeld ?_
        rotate_left
        · intro w hSw; (try dsimp only at hSw); go_simp; all_goals (with_reducible rfl)
        try simp only [Act.put, List.setIfInBounds_toArray, List.set_cons_zero, List.set_cons_succ]
        refine wpAnyH_take (i := 11) (oi := ⟨some 24, _, _, _, _, _⟩) (v := ?_) rfl (by kernel_rfl) (by kernel_rfl) (by kernel_rfl) (fun _ _ _ h => h) (Or.inl ⟨by rfl, ?_⟩) hHeld ?_
        rotate_left
        · intro w hSw; (try dsimp only at hSw); go_simp; all_goals (with_reducible rfl)
        try simp only [Act.put, List.setIfInBounds_toArray, List.set_cons_zero, List.set_cons_succ]
        refine wpAnyH_take (i := 12) (oi := ⟨some 25, _, _, _, _, _⟩) (v := ?_) rfl (by kernel_rfl) (by kernel_rfl) (by kernel_rfl) (fun _ _ _ h => h) (Or.inl ⟨by rfl, ?_⟩) hHeld ?_
        rotate_left
        · intro w hSw; (try dsimp only at hSw); go_simp; all_goals (with_reducible rfl)
        try simp only [Act.put, List.setIfInBounds_toArray, List.set_cons_zero, List.set_cons_succ]
        refine wpAnyH_take (i := 13) (oi := ⟨some 26, _, _, _, _, _⟩) (v := ?_) rfl (by kernel_rfl) (by kernel_rfl) (by kernel_rfl) (fun _ _ _ h => h) (Or.inl ⟨by rfl, ?_⟩) hHeld ?_
        rotate_left
        · intro w hSw; (try dsimp only at hSw); go_simp; all_goals (with_reducible rfl)
        try simp only [Act.put, List.setIfInBounds_toArray, List.set_cons_zero, List.set_cons_succ]
        refine wpAnyH_take (i := 14) (oi := ⟨some 27, _, _, _, _, _⟩) (v := ?_) rfl (by kernel_rfl) (by kernel_rfl) (by kernel_rfl) (fun _ _ _ h => h) (Or.inl ⟨by rfl, ?_⟩) hHeld ?_
        rotate_left
        · intro w hSw; (try dsimp only at hSw); go_simp; all_goals (with_reducible rfl)
        try simp only [Act.put, List.setIfInBounds_toArray, List.set_cons_zero, List.set_cons_succ]
        refine wpAnyH_ready (rs := [15]) (by kernel_rfl) (by simp) ?_
        refine AllReadyH.cons (o := ⟨some 28, _, _, _, _, _⟩) rfl (fun K hK => ?_) AllReadyH.nil
        go_simp
        refine (nequal_walk (HNV.out.below (below_drewN w3 1)) ((HV.out.below HB3.out).below (below_drewN w3 1))).mono ?_
        rintro e w4 ⟨⟨t, rfl, ht⟩, hB⟩
        have HB34 : Hid (Below w3.heap.size w3 w4) := below_trans (below_drewN w3 1) hB
        have ht0 : t = false := by cases t; rfl; exact absurd (ht.1 rfl) HEN.out
        subst ht0
        clear hB ht
        refine hK.out _ _ ?_ (fun hHeld => ?_)
        · exact HB34.out
        clear hK K
        try simp only [Act.put, List.setIfInBounds_toArray, List.set_cons_zero, List.set_cons_succ]
        refine wpAnyH_take (i := 16) (oi := ⟨some 29, _, _, _, _, _⟩) (v := ?_) rfl (by kernel_rfl) (by kernel_rfl) (by kernel_rfl) (fun _ _ _ h => h) (Or.inl ⟨by rfl, ?_⟩) hHeld ?_
        rotate_left
        · intro w hSw; (try dsimp only at hSw); go_simp; all_goals (with_reducible rfl)
        try simp only [Act.put, List.setIfInBounds_toArray, List.set_cons_zero, List.set_cons_succ]
        refine wpAnyH_take (i := 17) (oi := ⟨some 30, _, _, _, _, _⟩) (v := ?_) rfl (by kernel_rfl) (by kernel_rfl) (by kernel_rfl) (fun _ _ _ h => h) (Or.inl ⟨by rfl, ?_⟩) hHeld ?_
        rotate_left
        · intro w hSw; (try dsimp only at hSw); go_simp; all_goals (with_reducible rfl)
        try simp only [Act.put, List.setIfInBounds_toArray, List.set_cons_zero, List.set_cons_succ]
        refine wpAnyH_done (by kernel_rfl) ?_ _
        refine NoPanic.normal ?_
        go_wp2_with fail
        go_ret
        refine ⟨_, rfl, ?_⟩
        rw [HR0.out]
        exact tk_none HN.out (below_trans HB3.out HB34.out)
      have HR0 : Hid (goH p nd m (L.map (·.h)) = ((List.range p.n).map (bgM p nd m x.h.T), updK kH (L.map (·.h)) m.B fun h => { h with g := true })) := by show _ = _; unfold goH; rw [HM.out, hat]; exact if_pos ⟨hA, hg, hE⟩
      have HEN : Hid (x.h.E = m.E) := hE
      have HAT : Hid (atK kA L m.B = some x) := hat
      clear hat hg hE
      go_upto_region 2 with fail
      refine wp_region_noPanic ?_
      refine wp_region_held_drew (S := fun wz => Below w3.heap.size w3 wz) (by kernel_rfl) ?_ (fun hHeld => ?_)
      · exact below_drewN w3 1
      refine wpAnyH_take (i := 0) (oi := ⟨some 13, _, _, _, _, _⟩) (v := ?_) rfl (by kernel_rfl) (by kernel_rfl) (by kernel_rfl) (fun _ _ _ h => h) (Or.inl ⟨by rfl, ?_⟩) hHeld ?_
      rotate_left
      · intro w hSw; (try dsimp only at hSw); go_simp; all_goals (with_reducible rfl)
      try simp only [Act.put, List.setIfInBounds_toArray, List.set_cons_zero, List.set_cons_succ]
      refine wpAnyH_take (i := 1) (oi := ⟨some 14, _, _, _, _, _⟩) (v := ?_) rfl (by kernel_rfl) (by kernel_rfl) (by kernel_rfl) (fun _ _ _ h => h) (Or.inl ⟨by rfl, ?_⟩) hHeld ?_
      rotate_left
      · intro w hSw; (try dsimp only at hSw); go_simp; all_goals (with_reducible rfl)
      try simp only [Act.put, List.setIfInBounds_toArray, List.set_cons_zero, List.set_cons_succ]
      refine wpAnyH_take (i := 2) (oi := ⟨some 15, _, _, _, _, _⟩) (v := ?_) rfl (by kernel_rfl) (by kernel_rfl) (by kernel_rfl) (fun _ _ _ h => h) (Or.inl ⟨by rfl, ?_⟩) hHeld ?_
      rotate_left
      · intro w hSw; (try dsimp only at hSw); go_simp; all_goals (with_reducible rfl)
      try simp only [Act.put, List.setIfInBounds_toArray, List.set_cons_zero, List.set_cons_succ]
      refine wpAnyH_take (i := 3) (oi := ⟨some 16, _, _, _, _, _⟩) (v := ?_) rfl (by kernel_rfl) (by kernel_rfl) (by kernel_rfl) (fun _ _ _ h => h) (Or.inl ⟨by rfl, ?_⟩) hHeld ?_
      rotate_left
      · intro w hSw; (try dsimp only at hSw); go_simp; all_goals (with_reducible rfl)
      try simp only [Act.put, List.setIfInBounds_toArray, List.set_cons_zero, List.set_cons_succ]
      refine wpAnyH_take (i := 4) (oi := ⟨some 17, _, _, _, _, _⟩) (v := ?_) rfl (by kernel_rfl) (by kernel_rfl) (by kernel_rfl) (fun _ _ _ h => h) (Or.inl ⟨by rfl, ?_⟩) hHeld ?_
      rotate_left
      · intro w hSw; (try dsimp only at hSw); go_simp; all_goals (with_reducible rfl)
      try simp only [Act.put, List.setIfInBounds_toArray, List.set_cons_zero, List.set_cons_succ]
      refine wpAnyH_take (i := 5) (oi := ⟨some 18, _, _, _, _, _⟩) (v := ?_) rfl (by kernel_rfl) (by kernel_rfl) (by kernel_rfl) (fun _ _ _ h => h) (Or.inl ⟨by rfl, ?_⟩) hHeld ?_
      rotate_left
      · intro w hSw; (try dsimp only at hSw); go_simp; all_goals (with_reducible rfl)
      try simp only [Act.put, List.setIfInBounds_toArray, List.set_cons_zero, List.set_cons_succ]
      refine wpAnyH_take (i := 6) (oi := ⟨some 19, _, _, _, _, _⟩) (v := ?_) rfl (by kernel_rfl) (by kernel_rfl) (by kernel_rfl) (fun _ _ _ h => h) (Or.inl ⟨by rfl, ?_⟩) hHeld ?_
      rotate_left
      · intro w hSw; (try dsimp only at hSw); go_simp; all_goals (with_reducible rfl)
      try simp only [Act.put, List.setIfInBounds_toArray, List.set_cons_zero, List.set_cons_succ]
      refine wpAnyH_take (i := 7) (oi := ⟨some 20, _, _, _, _, _⟩) (v := ?_) rfl (by kernel_rfl) (by kernel_rfl) (by kernel_rfl) (fun _ _ _ h => h) (Or.inl ⟨by rfl, ?_⟩) hHeld ?_
      rotate_left
      · intro w hSw; (try dsimp only at hSw); go_simp; all_goals (with_reducible rfl)
      try simp only [Act.put, List.setIfInBounds_toArray, List.set_cons_zero, List.set_cons_succ]
      refine wpAnyH_take (i := 8) (oi := ⟨some 21, _, _, _, _, _⟩) (v := ?_) rfl (by kernel_rfl) (by kernel_rfl) (by kernel_rfl) (fun _ _ _ h => h) (Or.inl ⟨by rfl, ?_⟩) hHeld ?_
      rotate_left
      · intro w hSw; (try dsimp only at hSw); go_simp; all_goals (with_reducible rfl)
      try simp only [Act.put, List.setIfInBounds_toArray, List.set_cons_zero, List.set_cons_succ]
      refine wpAnyH_take (i := 9) (oi := ⟨some 22, _, _, _, _, _⟩) (v := ?_) rfl (by kernel_rfl) (by kernel_rfl) (by kernel_rfl) (fun _ _ _ h => h) (Or.inl ⟨by rfl, ?_⟩) hHeld ?_
      rotate_left
      · intro w hSw; (try dsimp only at hSw); go_simp; all_goals (with_reducible rfl)
      try simp only [Act.put, List.setIfInBounds_toArray, List.set_cons_zero, List.set_cons_succ]
      refine wpAnyH_take (i := 10) (oi := ⟨some 23, _, _, _, _, _⟩) (v := ?_) rfl (by kernel_rfl) (by kernel_rfl) (by kernel_rfl) (fun _ _ _ h => h) (Or.inl ⟨by rfl, ?_⟩) hHeld ?_
      rotate_left
      · intro w hSw; (try dsimp only at hSw); go_simp; all_goals (with_reducible rfl)
      try simp only [Act.put, List.setIfInBounds_toArray, List.set_cons_zero, List.set_cons_succ]
      refine wpAnyH_take (i := 11) (oi := ⟨some 24, _, _, _, _, _⟩) (v := ?_) rfl (by kernel_rfl) (by kernel_rfl) (by kernel_rfl) (fun _ _ _ h => h) (Or.inl ⟨by rfl, ?_⟩) hHeld ?_
      rotate_left
      · intro w hSw; (try dsimp only at hSw); go_simp; all_goals (with_reducible rfl)
      try simp only [Act.put, List.setIfInBounds_toArray, List.set_cons_zero, List.set_cons_succ]
      refine wpAnyH_take (i := 12) (oi := ⟨some 25, _, _, _, _, _⟩) (v := ?_) rfl (by kernel_rfl) (by kernel_rfl) (by kernel_rfl) (fun _ _ _ h => h) (Or.inl ⟨by rfl, ?_⟩) hHeld ?_
      rotate_left
      · intro w hSw; (try dsimp only at hSw); go_simp; all_goals (with_reducible rfl)
      try simp only [Act.put, List.setIfInBounds_toArray, List.set_cons_zero, List.set_cons_succ]
      refine wpAnyH_take (i := 13) (oi := ⟨some 26, _, _, _, _, _⟩) (v := ?_) rfl (by kernel_rfl) (by kernel_rfl) (by kernel_rfl) (fun _ _ _ h => h) (Or.inl ⟨by rfl, ?_⟩) hHeld ?_
      rotate_left
      · intro w hSw; (try dsimp only at hSw); go_simp; all_goals (with_reducible rfl)
      try simp only [Act.put, List.setIfInBounds_toArray, List.set_cons_zero, List.set_cons_succ]
      refine wpAnyH_take (i := 14) (oi := ⟨some 27, _, _, _, _, _⟩) (v := ?_) rfl (by kernel_rfl) (by kernel_rfl) (by kernel_rfl) (fun _ _ _ h => h) (Or.inl ⟨by rfl, ?_⟩) hHeld ?_
      rotate_left
      · intro w hSw; (try dsimp only at hSw); go_simp; all_goals (with_reducible rfl)
      try simp only [Act.put, List.setIfInBounds_toArray, List.set_cons_zero, List.set_cons_succ]
      refine wpAnyH_ready (rs := [15]) (by kernel_rfl) (by simp) ?_
      refine AllReadyH.cons (o := ⟨some 28, _, _, _, _, _⟩) rfl (fun K hK => ?_) AllReadyH.nil
      go_simp
      refine (nequal_walk (HNV.out.below (below_drewN w3 1)) ((HV.out.below HB3.out).below (below_drewN w3 1))).mono ?_
      rintro e w4 ⟨⟨t, rfl, ht⟩, hB⟩
      have HB34 : Hid (Below w3.heap.size w3 w4) := below_trans (below_drewN w3 1) hB
      have ht0 : t = true := ht.2 HEN.out
      subst ht0
      clear hB ht
      refine hK.out _ _ ?_ (fun hHeld => ?_)
      · exact HB34.out
      clear hK K
      try simp only [Act.put, List.setIfInBounds_toArray, List.set_cons_zero, List.set_cons_succ]
      refine wpAnyH_take (i := 16) (oi := ⟨some 29, _, _, _, _, _⟩) (v := ?_) rfl (by kernel_rfl) (by kernel_rfl) (by kernel_rfl) (fun _ _ _ h => h) (Or.inl ⟨by rfl, ?_⟩) hHeld ?_
      rotate_left
      · intro w hSw; (try dsimp only at hSw); go_simp; all_goals (with_reducible rfl)
      try simp only [Act.put, List.setIfInBounds_toArray, List.set_cons_zero, List.set_cons_succ]
      refine wpAnyH_take (i := 17) (oi := ⟨some 30, _, _, _, _, _⟩) (v := ?_) rfl (by kernel_rfl) (by kernel_rfl) (by kernel_rfl) (fun _ _ _ h => h) (Or.inl ⟨by rfl, ?_⟩) hHeld ?_
      rotate_left
      · intro w hSw; (try dsimp only at hSw); go_simp; all_goals (with_reducible rfl)
      try simp only [Act.put, List.setIfInBounds_toArray, List.set_cons_zero, List.set_cons_succ]
      refine wpAnyH_done (by kernel_rfl) ?_ _
      refine NoPanic.normal ?_
      have HB4 : Hid (Below w.heap.size w w4) := below_trans HB3.out HB34.out
      have HX4 : Hid _ := HX3.out.keep HB34.out
      have HN4 : Hid _ := HN.out.below HB4.out
      have HA4 : Hid (Ao w4 p x) := HA3.out.below HB34.out
      clear a1 a4 x6 HA3 HNV HX3
      have a4 := HA4.out.cells.2.2.2.2
      have hzA := HA4.out.soft 4
      go_upto_region 5 with fail
      show Code.wp _ _ _ _ (w4.setCell ⟨x.x, 4, none⟩ (.bool true))
      have HN5 : Hid _ := HN4.out.beg HAT.out
      have HA5 : Hid (Ao (w4.setCell ⟨x.x, 4, none⟩ (.bool true)) p (begA x)) := HA4.out.beg
      have HC5 : Hid _ := ch_set w4 x.x 4 (.bool true)
      have HXX : Hid (x.x < w.heap.size ∧ x.lo ≤ x.x ∧ x.x < x.hi) := by have h0 := HN.out.ent x HXM.out; have h1 := h0.lx; have h2 := h0.hi; exact ⟨by omega, h1.1, h1.2⟩
      have HX5 : Hid _ := HX4.out.ch HC5.out (by have h1 := HXX.out.1; have h2 := HQ.out; show ¬ Q = x.x; omega)
      clear a4 hzA HX4 HA4
      generalize w4.setCell ⟨x.x, 4, none⟩ (.bool true) = w5 at HN5 HA5 HC5 HX5 ⊢
      obtain ⟨vs, hdl, _⟩ := HA5.out.prt
      have HDL : Hid (Dl x.lo w5 x.pv p.n vs (dealF p x.h.T)) := hdl
      clear hdl
      obtain ⟨da, dc, hdv⟩ := own_formN HDL.out.row
      have HI0 : Hid _ := mr_empty w5
      have HBA : Hid _ := below_alloc w5 (Obj.cells #[] 44)
      have hpn : (p.n : Int) ≤ 4 := by have := HPN.out.2; omega
      go_upto_region 6 with fail
      generalize w5.alloc (Obj.cells #[] 44) = w6 at HI0 HBA ⊢
      have a2 : w6.cell? ⟨x.x, 2, none⟩ = some x.pv := (HA5.out.below HBA.out).cells.2.2.1
      rw [hdv] at a2 HDL
      clear hdv
      go_wp2_with fail
      clear a2
      go_loopw [6, 40] (fun lv iv wr => ∃ (i : Nat) (M : List Tq), iv = .int .i64 i ∧ i ≤ p.n ∧ Mr wr w5.heap.size lv M ∧ M.map (·.m) = (List.range i).map (bgM p nd m x.h.T) ∧ Below w5.heap.size w5 wr) (fun _ iv _ => p.n - (intOf iv).toNat)
      case atStart => exact ⟨0, [], rfl, Nat.zero_le _, HI0.out, rfl, HBA.out⟩
      case round =>
        obtain ⟨i, M, rfl, hil, hmr, hmm, hbw⟩ := hrel
        have HMR : Hid (Mr wr w5.heap.size u6 M) := hmr
        have HMM : Hid (M.map (·.m) = (List.range i).map (bgM p nd m x.h.T)) := hmm
        have HBW : Hid (Below w5.heap.size w5 wr) := hbw
        clear hmr hmm hbw HI0 HBA
        obtain ⟨ua, uc, rfl⟩ := own_formN HMR.out.own
        have HNr : Hid _ := HN5.out.below HBW.out
        have HML : Hid (M.length = i) := by have h := congrArg List.length HMM.out; rw [List.length_map, List.length_map, List.length_range] at h; exact h
        by_cases hlt : i < p.n
        · have hlti : (i : Int) < (p.n : Int) := by omega
          have hltd : decide (i < p.n) = true := decide_eq_true hlt
          have hi0 : (0 : Int) ≤ (i : Int) := by omega
          have HLT : Hid (i < p.n) := hlt
          have HDr : Hid (Dl x.lo wr (.slice da p.n dc) p.n vs (dealF p x.h.T)) := HDL.out.below HBW.out
          obtain ⟨g, cap, ka, kn, kc, hg, hvi, c0, hkn⟩ := dl_at HDr.out hlt
          cases hg
          have HQL : Hid (wr.ownsRow x.lo 65 3 (.slice ka kn kc) (dealF p x.h.T i).length (flatQ (dealF p x.h.T i))) := by have h := HDr.out.own i hlt; rw [hvi] at h; exact h
          have HKN : Hid (kn = (dealF p x.h.T i).length) := hkn
          clear hlt hvi hkn HDr
          have HXr : Hid _ := HX5.out.keep HBW.out
          have hW1 : (0 : Int) ≤ 1 + p.W + (i : Int) := by omega
          have hW2 : 1 + p.W + (i : Int) ≤ 1000 := by omega
          go_upto_region 9 with fail
          clear c0
          have x0 := fun wz (h : Below wr.heap.size wr wz) => (HXr.out.keep h).c0
          have x1 := fun wz (h : Below wr.heap.size wr wz) => (HXr.out.keep h).c1
          have x2 := fun wz (h : Below wr.heap.size wr wz) => (HXr.out.keep h).c2
          have x3 := fun wz (h : Below wr.heap.size wr wz) => (HXr.out.keep h).c3
          have x4 := fun wz (h : Below wr.heap.size wr wz) => (HXr.out.keep h).c4
          have x5 := fun wz (h : Below wr.heap.size wr wz) => (HXr.out.keep h).c5
          have x6 := fun wz (h : Below wr.heap.size wr wz) => (HXr.out.keep h).c6
          have x7 := fun wz (h : Below wr.heap.size wr wz) => (HXr.out.keep h).c7
          have x8 := fun wz (h : Below wr.heap.size wr wz) => (HXr.out.keep h).c8
          refine wp_region_noPanic ?_
          refine wp_region_held_drew (S := fun wz => Below wr.heap.size wr wz) (by kernel_rfl) ?_ (fun hHeld => ?_)
          · exact below_drewN wr 1
          refine wpAnyH_take (i := 0) (oi := ⟨some 45, _, _, _, _, _⟩) (v := ?_) rfl (by kernel_rfl) (by kernel_rfl) (by kernel_rfl) (fun _ _ _ h => h) (Or.inl ⟨by rfl, ?_⟩) hHeld ?_
          rotate_left
          · intro w hSw; (try dsimp only at hSw); go_simp; all_goals (with_reducible rfl)
          try simp only [Act.put, List.setIfInBounds_toArray, List.set_cons_zero, List.set_cons_succ]
          refine wpAnyH_take (i := 1) (oi := ⟨some 46, _, _, _, _, _⟩) (v := ?_) rfl (by kernel_rfl) (by kernel_rfl) (by kernel_rfl) (fun _ _ _ h => h) (Or.inl ⟨by rfl, ?_⟩) hHeld ?_
          rotate_left
          · intro w hSw; (try dsimp only at hSw); go_simp; all_goals (with_reducible rfl)
          try simp only [Act.put, List.setIfInBounds_toArray, List.set_cons_zero, List.set_cons_succ]
          refine wpAnyH_take (i := 2) (oi := ⟨some 47, _, _, _, _, _⟩) (v := ?_) rfl (by kernel_rfl) (by kernel_rfl) (by kernel_rfl) (fun _ _ _ h => h) (Or.inl ⟨by rfl, ?_⟩) hHeld ?_
          rotate_left
          · intro w hSw; (try dsimp only at hSw); go_simp; all_goals (with_reducible rfl)
          try simp only [Act.put, List.setIfInBounds_toArray, List.set_cons_zero, List.set_cons_succ]
          refine wpAnyH_take (i := 4) (oi := ⟨some 49, _, _, _, _, _⟩) (v := ?_) rfl (by kernel_rfl) (by kernel_rfl) (by kernel_rfl) (fun _ _ _ h => h) (Or.inl ⟨by rfl, ?_⟩) hHeld ?_
          rotate_left
          · intro w hSw; (try dsimp only at hSw); go_simp; all_goals (with_reducible rfl)
          try simp only [Act.put, List.setIfInBounds_toArray, List.set_cons_zero, List.set_cons_succ]
          refine wpAnyH_ready (rs := [3, 7]) (by kernel_rfl) (by simp) ?_
          refine AllReadyH.cons (o := ⟨some 48, _, _, _, _, _⟩) rfl (fun K hK => ?_) (AllReadyH.cons (o := ⟨some 9, _, _, _, _, _⟩) rfl (fun K hK => ?_) AllReadyH.nil)
          · go_simp
            refine (fstore_walk (HNr.out.below (below_drewN wr 1))).mono ?_
            rintro e w7 ⟨rfl, hB⟩
            have HB7 : Hid (Below wr.heap.size wr w7) := below_trans (below_drewN wr 1) hB
            clear hB
            refine hK.out _ _ ?_ (fun hHeld => ?_)
            · exact HB7.out
            clear hK K
            try simp only [Act.put, List.setIfInBounds_toArray, List.set_cons_zero, List.set_cons_succ]
            refine wpAnyH_take (i := 5) (oi := ⟨some 50, _, _, _, _, _⟩) (v := ?_) rfl (by kernel_rfl) (by kernel_rfl) (by kernel_rfl) (fun _ _ _ h => h) (Or.inl ⟨by rfl, ?_⟩) hHeld ?_
            rotate_left
            · intro w hSw; (try dsimp only at hSw); go_simp; all_goals (with_reducible rfl)
            try simp only [Act.put, List.setIfInBounds_toArray, List.set_cons_zero, List.set_cons_succ]
            refine wpAnyH_ready (rs := [6, 7]) (by kernel_rfl) (by simp) ?_
            refine AllReadyH.cons (o := ⟨some 51, _, _, _, _, _⟩) rfl (fun K hK => ?_) (AllReadyH.cons (o := ⟨some 9, _, _, _, _, _⟩) rfl (fun K hK => ?_) AllReadyH.nil)
            · go_simp
              rw [wrap_small hW1 (Int.lt_of_le_of_lt hW2 (by decide))]
              refine (reply_walk (m := m) 4 (1 + p.W + (i : Int)) (HNr.out.below HB7.out)).mono ?_
              rintro e w8 ⟨rfl, hB⟩
              have HB8 : Hid (Below wr.heap.size wr w8) := below_trans HB7.out hB
              clear hB
              refine hK.out _ _ ?_ (fun hHeld => ?_)
              · exact HB8.out
              clear hK K
              try simp only [Act.put, List.setIfInBounds_toArray, List.set_cons_zero, List.set_cons_succ]
              refine wpAnyH_ready (rs := [7]) (by kernel_rfl) (by simp) ?_
              refine AllReadyH.cons (o := ⟨some 9, _, _, _, _, _⟩) rfl (fun K hK => ?_) AllReadyH.nil
              go_simp
              refine hK.out _ _ ?_ (fun hHeld => ?_)
              · exact (below_trans HB8.out (below_alloc _ _))
              clear hK K
              try simp only [Act.put, List.setIfInBounds_toArray, List.set_cons_zero, List.set_cons_succ]
              refine wpAnyH_ready (rs := [8]) (by kernel_rfl) (by simp) ?_
              refine AllReadyH.cons (o := ⟨none, _, _, _, _, _⟩) rfl (fun K hK => ?_) AllReadyH.nil
              go_simp
              show K _ (w8.alloc (Obj.cells #[.int .i64 4, .int .i64 nd, .int .i64 (1 + p.W + (i : Int)), .int .i64 m.B, .int .i64 m.A, .int .i64 0, .slice none 0 0, .slice none 0 0, .slice none 0 0] 44))
              refine hK.out _ _ ?_ (fun hHeld => ?_)
              · exact (below_trans HB8.out (below_alloc _ _))
              clear hK K
              try simp only [Act.put, List.setIfInBounds_toArray, List.set_cons_zero, List.set_cons_succ]
              refine wpAnyH_done (by kernel_rfl) ?_ _
              refine NoPanic.normal ?_
              have HO9 : Hid (MX (w8.alloc (Obj.cells #[.int .i64 4, .int .i64 nd, .int .i64 (1 + p.W + (i : Int)), .int .i64 m.B, .int .i64 m.A, .int .i64 0, .slice none 0 0, .slice none 0 0, .slice none 0 0] 44)) w8.heap.size ⟨4, nd, 1 + p.W + (i : Int), m.B, m.A, 0, [], [], []⟩ (.slice none 0 0) (.slice none 0 0) (.slice none 0 0)) := mx_new w8 ⟨4, nd, 1 + p.W + (i : Int), m.B, m.A, 0, [], [], []⟩ (.slice none 0 0) (.slice none 0 0) (.slice none 0 0)
              have HB9 : Hid _ := below_trans HB8.out (below_alloc w8 (Obj.cells #[.int .i64 4, .int .i64 nd, .int .i64 (1 + p.W + (i : Int)), .int .i64 m.B, .int .i64 m.A, .int .i64 0, .slice none 0 0, .slice none 0 0, .slice none 0 0] 44))
              have HOL : Hid (wr.heap.size ≤ w8.heap.size) := HB8.out.size
              generalize w8.heap.size = O at HO9 HOL ⊢
              generalize w8.alloc (Obj.cells #[.int .i64 4, .int .i64 nd, .int .i64 (1 + p.W + (i : Int)), .int .i64 m.B, .int .i64 m.A, .int .i64 0, .slice none 0 0, .slice none 0 0, .slice none 0 0] 44) = w9 at HO9 HB9 ⊢
              clear x0 x1 x2 x3 x4 x5 x6 x7 x8
              have HQ9 : Hid _ := own_belowC HQL.out HB9.out
              have HOK : Hid (okT (dealF p x.h.T i)) := deal_ok HA5.out.tok i
              have HKL : Hid ((dealF p x.h.T i).length ≤ 1024) := Nat.le_trans (deal_len p x.h.T i) HA5.out.tl
              have HQV : Hid (Ql w9 ka (dealF p x.h.T i)) := (own_qv HQ9.out HOK.out).ql
              rw [HKN.out]
              go_wp2_with fail
              refine (keys_walk (ca := kc) (l := dealF p x.h.T i) (by have := HKL.out; omega) HQV.out).mono ?_
              rintro e w10 ⟨v, rfl, hrow, hB⟩
              obtain ⟨qa', qc', rfl⟩ := own_formN hrow
              have HRW : Hid (w10.ownsRow w9.heap.size 50 1 (.slice qa' (dealF p x.h.T i).length qc') (dealF p x.h.T i).length ((keyL (dealF p x.h.T i)).map (Value.int .u64))) := hrow
              have HO10 : Hid _ := HO9.out.keep hB
              have HB10 : Hid (Below wr.heap.size wr w10) := below_trans HB9.out hB
              have HO9L : Hid (O < w9.heap.size) := cell_lt HO9.out.c0
              clear hrow hB
              have y7 := HO10.out.c7
              have hz := HO10.out.z 7
              go_upto_region 11 with fail
              show Code.wp _ _ _ _ (w10.setCell ⟨O, 7, none⟩ (.slice qa' (dealF p x.h.T i).length qc'))
              have HO11 : Hid _ := HO10.out.s7 (.slice qa' (dealF p x.h.T i).length qc')
              have HC11 : Hid _ := ch_set w10 O 7 (.slice qa' (dealF p x.h.T i).length qc')
              clear y7 hz
              generalize w10.setCell ⟨O, 7, none⟩ (.slice qa' (dealF p x.h.T i).length qc') = w11 at HO11 HC11 ⊢
              have HB11 : Hid (Below wr.heap.size wr w11) := HB10.out.trans (HC11.out.to_below HB10.out.size (fun z hz => by rw [hz]; exact HOL.out))
              have HTO : Hid (To w11 w5.heap.size ⟨bgM p nd m x.h.T i, .slice none 0 0, .slice qa' (dealF p x.h.T i).length qc', .slice none 0 0⟩) := ⟨World.ownsRow_nil _ _ _ _, by have h := own_baseC (own_ch HRW.out HC11.out (fun z hz e => by have h1 := (HRW.out.lt z hz).1; have h2 := HO9L.out; omega)) (Nat.le_trans HBW.out.size HB9.out.size); have e1 : ((dealF p x.h.T i).map (·.k)).length = (dealF p x.h.T i).length := (by simp); have e2 : (((dealF p x.h.T i).map (·.k)).map fun k : Nat => Value.int .u64 (k : Int)) = (keyL (dealF p x.h.T i)).map (Value.int .u64) := (by unfold keyL; rw [List.map_map, List.map_map]; rfl); show w11.ownsRow w5.heap.size 50 1 (.slice qa' (dealF p x.h.T i).length qc') ((dealF p x.h.T i).map (·.k)).length (((dealF p x.h.T i).map (·.k)).map fun k : Nat => Value.int .u64 (k : Int)); rw [e1, e2]; exact h, World.ownsRow_nil _ _ _ _, say_ok (i64_s (by omega) (by omega)) HN.out.nd64 (i64_s (by omega) hW2) HK.out HKA.out (by intro z hz; simp at hz) (keys_of_ok HOK.out) (by intro z hz; simp at hz)⟩
              have HCL : Hid _ := @cells_litT w11 ⟨bgM p nd m x.h.T i, .slice none 0 0, .slice qa' (dealF p x.h.T i).length qc', .slice none 0 0⟩ 44
              have x0 := HO11.out.c0
              have x1 := HO11.out.c1
              have x2 := HO11.out.c2
              have x3 := HO11.out.c3
              have x4 := HO11.out.c4
              have x5 := HO11.out.c5
              have x6 := HO11.out.c6
              have x7 := HO11.out.c7
              have x8 := HO11.out.c8
              go_wp2_with (at_builtin; refine wpList_append_ms (by rfl) (.tmp 55) (.tmp 57) (by rfl) w5.heap.size _ M.length (flatT M) (by rfl) (HMR.out.own |> (own_belowC · (below_trans HB11.out (below_alloc _ _)))) w11.heap.size 1 ⟨bgM p nd m x.h.T i, .slice none 0 0, .slice qa' (dealF p x.h.T i).length qc', .slice none 0 0⟩ (by rfl) HCL.out (cellsT_one HTO.out.ml) (by have := HML.out; have := HLT.out; omega) (by have h1 := HBW.out.size; have h2 := HB11.out.size; rw [size_allocC]; omega) ?_; intro v5 w12 hown hgrow hat)
              go_roundw
              case rel => exact ⟨i + 1, M ++ [⟨bgM p nd m x.h.T i, .slice none 0 0, .slice qa' (dealF p x.h.T i).length qc', .slice none 0 0⟩], by go_num, HLT.out, HMR.out.join (below_trans HB11.out (below_alloc _ _)) (HTO.out.below (below_alloc _ _)) hown hgrow, by rw [List.map_append, HMM.out, List.range_succ, List.map_append]; rfl, (HBW.out.trans ((below_trans HB11.out (below_alloc _ _)).mono HBW.out.size)).grown hgrow (by have h1 := HBW.out.size; have h2 := HB11.out.size; rw [size_allocC]; omega) (fun z hz => (HMR.out.own.lt z hz).1)⟩
              case measure => have := HLT.out; simp [intOf]; omega
            · go_simp
              refine hK.out _ _ ?_ (fun hHeld => ?_)
              · exact (below_trans HB7.out (below_alloc _ _))
              clear hK K
              try simp only [Act.put, List.setIfInBounds_toArray, List.set_cons_zero, List.set_cons_succ]
              refine wpAnyH_ready (rs := [6]) (by kernel_rfl) (by simp) ?_
              refine AllReadyH.cons (o := ⟨some 51, _, _, _, _, _⟩) rfl (fun K hK => ?_) AllReadyH.nil
              go_simp
              rw [wrap_small hW1 (Int.lt_of_le_of_lt hW2 (by decide))]
              refine (reply_walk (m := m) 4 (1 + p.W + (i : Int)) (HNr.out.below (below_trans HB7.out (below_alloc _ _)))).mono ?_
              rintro e w8 ⟨rfl, hB⟩
              have HB8 : Hid (Below wr.heap.size wr w8) := below_trans (below_trans HB7.out (below_alloc _ _)) hB
              have HO8 : Hid (MX w8 w7.heap.size zeroMs (.slice none 0 0) (.slice none 0 0) (.slice none 0 0)) := (mx_zero w7).keep hB
              have HOL : Hid (wr.heap.size ≤ w7.heap.size) := HB7.out.size
              clear hB
              refine hK.out _ _ ?_ (fun hHeld => ?_)
              · exact HB8.out
              clear hK K
              try simp only [Act.put, List.setIfInBounds_toArray, List.set_cons_zero, List.set_cons_succ]
              refine wpAnyH_ready (rs := [8]) (by kernel_rfl) (by simp) ?_
              refine AllReadyH.cons (o := ⟨none, _, _, _, _, _⟩) rfl (fun K hK => ?_) AllReadyH.nil
              have y0 := HO8.out.c0
              have y1 := HO8.out.c1
              have y2 := HO8.out.c2
              have y3 := HO8.out.c3
              have y4 := HO8.out.c4
              have y5 := HO8.out.c5
              have y6 := HO8.out.c6
              have y7 := HO8.out.c7
              have y8 := HO8.out.c8
              have hz := HO8.out.z
              go_simp
              show K _ (setM w8 w7.heap.size ⟨4, nd, 1 + p.W + (i : Int), m.B, m.A, 0, [], [], []⟩ (.slice none 0 0) (.slice none 0 0) (.slice none 0 0))
              clear y0 y1 y2 y3 y4 y5 y6 y7 y8 hz
              refine hK.out _ _ ?_ (fun hHeld => ?_)
              · exact (HB8.out.trans ((ch_setM w8 w7.heap.size ⟨4, nd, 1 + p.W + (i : Int), m.B, m.A, 0, [], [], []⟩ (.slice none 0 0) (.slice none 0 0) (.slice none 0 0)).to_below HB8.out.size (fun z hz => by rw [hz]; exact HOL.out)))
              clear hK K
              try simp only [Act.put, List.setIfInBounds_toArray, List.set_cons_zero, List.set_cons_succ]
              refine wpAnyH_done (by kernel_rfl) ?_ _
              refine NoPanic.normal ?_
              have HO9 : Hid (MX (setM w8 w7.heap.size ⟨4, nd, 1 + p.W + (i : Int), m.B, m.A, 0, [], [], []⟩ (.slice none 0 0) (.slice none 0 0) (.slice none 0 0)) w7.heap.size ⟨4, nd, 1 + p.W + (i : Int), m.B, m.A, 0, [], [], []⟩ (.slice none 0 0) (.slice none 0 0) (.slice none 0 0)) := HO8.out.over ⟨4, nd, 1 + p.W + (i : Int), m.B, m.A, 0, [], [], []⟩ (.slice none 0 0) (.slice none 0 0) (.slice none 0 0)
              have HB9 : Hid _ := HB8.out.trans ((ch_setM w8 w7.heap.size ⟨4, nd, 1 + p.W + (i : Int), m.B, m.A, 0, [], [], []⟩ (.slice none 0 0) (.slice none 0 0) (.slice none 0 0)).to_below HB8.out.size (fun z hz => by rw [hz]; exact HOL.out))
              generalize setM w8 w7.heap.size ⟨4, nd, 1 + p.W + (i : Int), m.B, m.A, 0, [], [], []⟩ (.slice none 0 0) (.slice none 0 0) (.slice none 0 0) = w9 at HO9 HB9 ⊢
              obtain ⟨O, hO⟩ : ∃ O, O = w7.heap.size := ⟨_, rfl⟩
              have HO9x : Hid (MX w9 O ⟨4, nd, 1 + p.W + (i : Int), m.B, m.A, 0, [], [], []⟩ (.slice none 0 0) (.slice none 0 0) (.slice none 0 0)) := by rw [hO]; exact HO9.out
              have HOLx : Hid (wr.heap.size ≤ O) := by rw [hO]; exact HOL.out
              rw [← hO]
              clear hO HO9 HOL
              have HO9 : Hid (MX w9 O ⟨4, nd, 1 + p.W + (i : Int), m.B, m.A, 0, [], [], []⟩ (.slice none 0 0) (.slice none 0 0) (.slice none 0 0)) := HO9x.out
              have HOL : Hid (wr.heap.size ≤ O) := HOLx.out
              clear HO9x HOLx
              clear x0 x1 x2 x3 x4 x5 x6 x7 x8
              have HQ9 : Hid _ := own_belowC HQL.out HB9.out
              have HOK : Hid (okT (dealF p x.h.T i)) := deal_ok HA5.out.tok i
              have HKL : Hid ((dealF p x.h.T i).length ≤ 1024) := Nat.le_trans (deal_len p x.h.T i) HA5.out.tl
              have HQV : Hid (Ql w9 ka (dealF p x.h.T i)) := (own_qv HQ9.out HOK.out).ql
              rw [HKN.out]
              go_wp2_with fail
              refine (keys_walk (ca := kc) (l := dealF p x.h.T i) (by have := HKL.out; omega) HQV.out).mono ?_
              rintro e w10 ⟨v, rfl, hrow, hB⟩
              obtain ⟨qa', qc', rfl⟩ := own_formN hrow
              have HRW : Hid (w10.ownsRow w9.heap.size 50 1 (.slice qa' (dealF p x.h.T i).length qc') (dealF p x.h.T i).length ((keyL (dealF p x.h.T i)).map (Value.int .u64))) := hrow
              have HO10 : Hid _ := HO9.out.keep hB
              have HB10 : Hid (Below wr.heap.size wr w10) := below_trans HB9.out hB
              have HO9L : Hid (O < w9.heap.size) := cell_lt HO9.out.c0
              clear hrow hB
              have y7 := HO10.out.c7
              have hz := HO10.out.z 7
              go_upto_region 11 with fail
              show Code.wp _ _ _ _ (w10.setCell ⟨O, 7, none⟩ (.slice qa' (dealF p x.h.T i).length qc'))
              have HO11 : Hid _ := HO10.out.s7 (.slice qa' (dealF p x.h.T i).length qc')
              have HC11 : Hid _ := ch_set w10 O 7 (.slice qa' (dealF p x.h.T i).length qc')
              clear y7 hz
              generalize w10.setCell ⟨O, 7, none⟩ (.slice qa' (dealF p x.h.T i).length qc') = w11 at HO11 HC11 ⊢
              have HB11 : Hid (Below wr.heap.size wr w11) := HB10.out.trans (HC11.out.to_below HB10.out.size (fun z hz => by rw [hz]; exact HOL.out))
              have HTO : Hid (To w11 w5.heap.size ⟨bgM p nd m x.h.T i, .slice none 0 0, .slice qa' (dealF p x.h.T i).length qc', .slice none 0 0⟩) := ⟨World.ownsRow_nil _ _ _ _, by have h := own_baseC (own_ch HRW.out HC11.out (fun z hz e => by have h1 := (HRW.out.lt z hz).1; have h2 := HO9L.out; omega)) (Nat.le_trans HBW.out.size HB9.out.size); have e1 : ((dealF p x.h.T i).map (·.k)).length = (dealF p x.h.T i).length := (by simp); have e2 : (((dealF p x.h.T i).map (·.k)).map fun k : Nat => Value.int .u64 (k : Int)) = (keyL (dealF p x.h.T i)).map (Value.int .u64) := (by unfold keyL; rw [List.map_map, List.map_map]; rfl); show w11.ownsRow w5.heap.size 50 1 (.slice qa' (dealF p x.h.T i).length qc') ((dealF p x.h.T i).map (·.k)).length (((dealF p x.h.T i).map (·.k)).map fun k : Nat => Value.int .u64 (k : Int)); rw [e1, e2]; exact h, World.ownsRow_nil _ _ _ _, say_ok (i64_s (by omega) (by omega)) HN.out.nd64 (i64_s (by omega) hW2) HK.out HKA.out (by intro z hz; simp at hz) (keys_of_ok HOK.out) (by intro z hz; simp at hz)⟩
              have HCL : Hid _ := @cells_litT w11 ⟨bgM p nd m x.h.T i, .slice none 0 0, .slice qa' (dealF p x.h.T i).length qc', .slice none 0 0⟩ 44
              have x0 := HO11.out.c0
              have x1 := HO11.out.c1
              have x2 := HO11.out.c2
              have x3 := HO11.out.c3
              have x4 := HO11.out.c4
              have x5 := HO11.out.c5
              have x6 := HO11.out.c6
              have x7 := HO11.out.c7
              have x8 := HO11.out.c8
              go_wp2_with (at_builtin; refine wpList_append_ms (by rfl) (.tmp 55) (.tmp 57) (by rfl) w5.heap.size _ M.length (flatT M) (by rfl) (HMR.out.own |> (own_belowC · (below_trans HB11.out (below_alloc _ _)))) w11.heap.size 1 ⟨bgM p nd m x.h.T i, .slice none 0 0, .slice qa' (dealF p x.h.T i).length qc', .slice none 0 0⟩ (by rfl) HCL.out (cellsT_one HTO.out.ml) (by have := HML.out; have := HLT.out; omega) (by have h1 := HBW.out.size; have h2 := HB11.out.size; rw [size_allocC]; omega) ?_; intro v5 w12 hown hgrow hat)
              go_roundw
              case rel => exact ⟨i + 1, M ++ [⟨bgM p nd m x.h.T i, .slice none 0 0, .slice qa' (dealF p x.h.T i).length qc', .slice none 0 0⟩], by go_num, HLT.out, HMR.out.join (below_trans HB11.out (below_alloc _ _)) (HTO.out.below (below_alloc _ _)) hown hgrow, by rw [List.map_append, HMM.out, List.range_succ, List.map_append]; rfl, (HBW.out.trans ((below_trans HB11.out (below_alloc _ _)).mono HBW.out.size)).grown hgrow (by have h1 := HBW.out.size; have h2 := HB11.out.size; rw [size_allocC]; omega) (fun z hz => (HMR.out.own.lt z hz).1)⟩
              case measure => have := HLT.out; simp [intOf]; omega
          · go_simp
            refine hK.out _ _ ?_ (fun hHeld => ?_)
            · exact (below_trans (below_drewN wr 1) (below_alloc _ _))
            clear hK K
            try simp only [Act.put, List.setIfInBounds_toArray, List.set_cons_zero, List.set_cons_succ]
            refine wpAnyH_ready (rs := [3]) (by kernel_rfl) (by simp) ?_
            refine AllReadyH.cons (o := ⟨some 48, _, _, _, _, _⟩) rfl (fun K hK => ?_) AllReadyH.nil
            go_simp
            refine (fstore_walk (HNr.out.below (below_trans (below_drewN wr 1) (below_alloc _ _)))).mono ?_
            rintro e w7 ⟨rfl, hB⟩
            have HB7 : Hid (Below wr.heap.size wr w7) := below_trans (below_trans (below_drewN wr 1) (below_alloc _ _)) hB
            have HO7 : Hid (MX w7 wr.heap.size zeroMs (.slice none 0 0) (.slice none 0 0) (.slice none 0 0)) := (mx_zero (wr.drewN 1)).keep hB
            clear hB
            refine hK.out _ _ ?_ (fun hHeld => ?_)
            · exact HB7.out
            clear hK K
            try simp only [Act.put, List.setIfInBounds_toArray, List.set_cons_zero, List.set_cons_succ]
            refine wpAnyH_take (i := 5) (oi := ⟨some 50, _, _, _, _, _⟩) (v := ?_) rfl (by kernel_rfl) (by kernel_rfl) (by kernel_rfl) (fun _ _ _ h => h) (Or.inl ⟨by rfl, ?_⟩) hHeld ?_
            rotate_left
            · intro w hSw; (try dsimp only at hSw); go_simp; all_goals (with_reducible rfl)
            try simp only [Act.put, List.setIfInBounds_toArray, List.set_cons_zero, List.set_cons_succ]
            refine wpAnyH_ready (rs := [6]) (by kernel_rfl) (by simp) ?_
            refine AllReadyH.cons (o := ⟨some 51, _, _, _, _, _⟩) rfl (fun K hK => ?_) AllReadyH.nil
            go_simp
            rw [wrap_small hW1 (Int.lt_of_le_of_lt hW2 (by decide))]
            refine (reply_walk (m := m) 4 (1 + p.W + (i : Int)) (HNr.out.below HB7.out)).mono ?_
            rintro e w8 ⟨rfl, hB⟩
            have HB8 : Hid (Below wr.heap.size wr w8) := below_trans HB7.out hB
            have HO8 : Hid (MX w8 wr.heap.size zeroMs (.slice none 0 0) (.slice none 0 0) (.slice none 0 0)) := HO7.out.keep hB
            have HOL : Hid (wr.heap.size ≤ wr.heap.size) := Nat.le_refl _
            clear hB
            refine hK.out _ _ ?_ (fun hHeld => ?_)
            · exact HB8.out
            clear hK K
            try simp only [Act.put, List.setIfInBounds_toArray, List.set_cons_zero, List.set_cons_succ]
            refine wpAnyH_ready (rs := [8]) (by kernel_rfl) (by simp) ?_
            refine AllReadyH.cons (o := ⟨none, _, _, _, _, _⟩) rfl (fun K hK => ?_) AllReadyH.nil
            have y0 := HO8.out.c0
            have y1 := HO8.out.c1
            have y2 := HO8.out.c2
            have y3 := HO8.out.c3
            have y4 := HO8.out.c4
            have y5 := HO8.out.c5
            have y6 := HO8.out.c6
            have y7 := HO8.out.c7
            have y8 := HO8.out.c8
            have hz := HO8.out.z
            go_simp
            show K _ (setM w8 wr.heap.size ⟨4, nd, 1 + p.W + (i : Int), m.B, m.A, 0, [], [], []⟩ (.slice none 0 0) (.slice none 0 0) (.slice none 0 0))
            clear y0 y1 y2 y3 y4 y5 y6 y7 y8 hz
            refine hK.out _ _ ?_ (fun hHeld => ?_)
            · exact (HB8.out.trans ((ch_setM w8 wr.heap.size ⟨4, nd, 1 + p.W + (i : Int), m.B, m.A, 0, [], [], []⟩ (.slice none 0 0) (.slice none 0 0) (.slice none 0 0)).to_below HB8.out.size (fun z hz => by rw [hz]; exact HOL.out)))
            clear hK K
            try simp only [Act.put, List.setIfInBounds_toArray, List.set_cons_zero, List.set_cons_succ]
            refine wpAnyH_done (by kernel_rfl) ?_ _
            refine NoPanic.normal ?_
            have HO9 : Hid (MX (setM w8 wr.heap.size ⟨4, nd, 1 + p.W + (i : Int), m.B, m.A, 0, [], [], []⟩ (.slice none 0 0) (.slice none 0 0) (.slice none 0 0)) wr.heap.size ⟨4, nd, 1 + p.W + (i : Int), m.B, m.A, 0, [], [], []⟩ (.slice none 0 0) (.slice none 0 0) (.slice none 0 0)) := HO8.out.over ⟨4, nd, 1 + p.W + (i : Int), m.B, m.A, 0, [], [], []⟩ (.slice none 0 0) (.slice none 0 0) (.slice none 0 0)
            have HB9 : Hid _ := HB8.out.trans ((ch_setM w8 wr.heap.size ⟨4, nd, 1 + p.W + (i : Int), m.B, m.A, 0, [], [], []⟩ (.slice none 0 0) (.slice none 0 0) (.slice none 0 0)).to_below HB8.out.size (fun z hz => by rw [hz]; exact HOL.out))
            generalize setM w8 wr.heap.size ⟨4, nd, 1 + p.W + (i : Int), m.B, m.A, 0, [], [], []⟩ (.slice none 0 0) (.slice none 0 0) (.slice none 0 0) = w9 at HO9 HB9 ⊢
            obtain ⟨O, hO⟩ : ∃ O, O = wr.heap.size := ⟨_, rfl⟩
            have HO9x : Hid (MX w9 O ⟨4, nd, 1 + p.W + (i : Int), m.B, m.A, 0, [], [], []⟩ (.slice none 0 0) (.slice none 0 0) (.slice none 0 0)) := by rw [hO]; exact HO9.out
            have HOLx : Hid (wr.heap.size ≤ O) := by rw [hO]; exact HOL.out
            rw [← hO]
            clear hO HO9 HOL
            have HO9 : Hid (MX w9 O ⟨4, nd, 1 + p.W + (i : Int), m.B, m.A, 0, [], [], []⟩ (.slice none 0 0) (.slice none 0 0) (.slice none 0 0)) := HO9x.out
            have HOL : Hid (wr.heap.size ≤ O) := HOLx.out
            clear HO9x HOLx
            clear x0 x1 x2 x3 x4 x5 x6 x7 x8
            have HQ9 : Hid _ := own_belowC HQL.out HB9.out
            have HOK : Hid (okT (dealF p x.h.T i)) := deal_ok HA5.out.tok i
            have HKL : Hid ((dealF p x.h.T i).length ≤ 1024) := Nat.le_trans (deal_len p x.h.T i) HA5.out.tl
            have HQV : Hid (Ql w9 ka (dealF p x.h.T i)) := (own_qv HQ9.out HOK.out).ql
            rw [HKN.out]
            go_wp2_with fail
            refine (keys_walk (ca := kc) (l := dealF p x.h.T i) (by have := HKL.out; omega) HQV.out).mono ?_
            rintro e w10 ⟨v, rfl, hrow, hB⟩
            obtain ⟨qa', qc', rfl⟩ := own_formN hrow
            have HRW : Hid (w10.ownsRow w9.heap.size 50 1 (.slice qa' (dealF p x.h.T i).length qc') (dealF p x.h.T i).length ((keyL (dealF p x.h.T i)).map (Value.int .u64))) := hrow
            have HO10 : Hid _ := HO9.out.keep hB
            have HB10 : Hid (Below wr.heap.size wr w10) := below_trans HB9.out hB
            have HO9L : Hid (O < w9.heap.size) := cell_lt HO9.out.c0
            clear hrow hB
            have y7 := HO10.out.c7
            have hz := HO10.out.z 7
            go_upto_region 11 with fail
            show Code.wp _ _ _ _ (w10.setCell ⟨O, 7, none⟩ (.slice qa' (dealF p x.h.T i).length qc'))
            have HO11 : Hid _ := HO10.out.s7 (.slice qa' (dealF p x.h.T i).length qc')
            have HC11 : Hid _ := ch_set w10 O 7 (.slice qa' (dealF p x.h.T i).length qc')
            clear y7 hz
            generalize w10.setCell ⟨O, 7, none⟩ (.slice qa' (dealF p x.h.T i).length qc') = w11 at HO11 HC11 ⊢
            have HB11 : Hid (Below wr.heap.size wr w11) := HB10.out.trans (HC11.out.to_below HB10.out.size (fun z hz => by rw [hz]; exact HOL.out))
            have HTO : Hid (To w11 w5.heap.size ⟨bgM p nd m x.h.T i, .slice none 0 0, .slice qa' (dealF p x.h.T i).length qc', .slice none 0 0⟩) := ⟨World.ownsRow_nil _ _ _ _, by have h := own_baseC (own_ch HRW.out HC11.out (fun z hz e => by have h1 := (HRW.out.lt z hz).1; have h2 := HO9L.out; omega)) (Nat.le_trans HBW.out.size HB9.out.size); have e1 : ((dealF p x.h.T i).map (·.k)).length = (dealF p x.h.T i).length := (by simp); have e2 : (((dealF p x.h.T i).map (·.k)).map fun k : Nat => Value.int .u64 (k : Int)) = (keyL (dealF p x.h.T i)).map (Value.int .u64) := (by unfold keyL; rw [List.map_map, List.map_map]; rfl); show w11.ownsRow w5.heap.size 50 1 (.slice qa' (dealF p x.h.T i).length qc') ((dealF p x.h.T i).map (·.k)).length (((dealF p x.h.T i).map (·.k)).map fun k : Nat => Value.int .u64 (k : Int)); rw [e1, e2]; exact h, World.ownsRow_nil _ _ _ _, say_ok (i64_s (by omega) (by omega)) HN.out.nd64 (i64_s (by omega) hW2) HK.out HKA.out (by intro z hz; simp at hz) (keys_of_ok HOK.out) (by intro z hz; simp at hz)⟩
            have HCL : Hid _ := @cells_litT w11 ⟨bgM p nd m x.h.T i, .slice none 0 0, .slice qa' (dealF p x.h.T i).length qc', .slice none 0 0⟩ 44
            have x0 := HO11.out.c0
            have x1 := HO11.out.c1
            have x2 := HO11.out.c2
            have x3 := HO11.out.c3
            have x4 := HO11.out.c4
            have x5 := HO11.out.c5
            have x6 := HO11.out.c6
            have x7 := HO11.out.c7
            have x8 := HO11.out.c8
            go_wp2_with (at_builtin; refine wpList_append_ms (by rfl) (.tmp 55) (.tmp 57) (by rfl) w5.heap.size _ M.length (flatT M) (by rfl) (HMR.out.own |> (own_belowC · (below_trans HB11.out (below_alloc _ _)))) w11.heap.size 1 ⟨bgM p nd m x.h.T i, .slice none 0 0, .slice qa' (dealF p x.h.T i).length qc', .slice none 0 0⟩ (by rfl) HCL.out (cellsT_one HTO.out.ml) (by have := HML.out; have := HLT.out; omega) (by have h1 := HBW.out.size; have h2 := HB11.out.size; rw [size_allocC]; omega) ?_; intro v5 w12 hown hgrow hat)
            go_roundw
            case rel => exact ⟨i + 1, M ++ [⟨bgM p nd m x.h.T i, .slice none 0 0, .slice qa' (dealF p x.h.T i).length qc', .slice none 0 0⟩], by go_num, HLT.out, HMR.out.join (below_trans HB11.out (below_alloc _ _)) (HTO.out.below (below_alloc _ _)) hown hgrow, by rw [List.map_append, HMM.out, List.range_succ, List.map_append]; rfl, (HBW.out.trans ((below_trans HB11.out (below_alloc _ _)).mono HBW.out.size)).grown hgrow (by have h1 := HBW.out.size; have h2 := HB11.out.size; rw [size_allocC]; omega) (fun z hz => (HMR.out.own.lt z hz).1)⟩
            case measure => have := HLT.out; simp [intOf]; omega
        · have hlti : ¬ (i : Int) < (p.n : Int) := by omega
          obtain rfl : i = p.n := by omega
          go_wp2_with fail
          go_ret
          refine ⟨_, rfl, ?_⟩
          rw [HR0.out]
          refine ⟨M, w5.heap.size, updK kA L m.B begA, HMR.out, HMM.out, HNr.out, ?_, Nat.le_trans HB4.out.size HC5.out.size, HBW.out.size, fun z hz => ?_, ?_⟩
          · rw [updK_map (f := kH) (h := At.h) (g := begA) (fun _ => rfl)]; rfl
          · have h1 := bw_turn (g := begA) (fun _ => ⟨rfl, rfl, rfl⟩) hz
            exact ⟨.inl h1, by have := HN.out.lt z h1; have := HB4.out.size; have := HC5.out.size; omega⟩
          · exact ((Ch.of_below HB4.out).trans HC5.out (fun z hz => .inl (.inr (.inr (.inr ⟨x, HXM.out, by rw [hz]; exact HXX.out.2⟩))))).trans (Ch.of_below (D := fun _ => False) HBW.out) (fun z hz => hz.elim)
end Go.Proofs.YtopjedgknbbgkaaGreat
