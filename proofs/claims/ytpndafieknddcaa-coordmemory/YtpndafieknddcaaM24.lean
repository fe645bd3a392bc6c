/- Co Cp Cq -/
import Derived.Test.YtpndafieknddcaaCn
namespace Go.Proofs.Ytpndafieknddcaa

open Ieee Go.RowKit

theorem flatY_one' {w : World} {L : List Ye} (h : ∀ x ∈ L, Yl w x) : ∀ u ∈ flatY L, u.oneCell' = true := by
  intro u hu
  unfold flatY at hu
  obtain ⟨x, hx, hu⟩ := List.mem_flatMap.1 hu
  exact cellsY_one (h x hx) u hu
theorem wpList_append_yr {w : World} {ops : Array Oper} {rest : List Oper} {o : Oper} {a : Act} {Q : Exit → Act → World → Prop} (hgd : o.guard = none) (s x : Operand)
    (ho : o.op = .call { callee := .builtin .append, args := #[s, x], argTypes := #[44, 44] })
    (base : Nat) (v : Value) (n : Nat) (xs : List Value) (hs : a.eval s = v) (hown : w.ownsRow base 43 7 v n xs)
    (g c : Nat) (L : List Ye) (hx : a.eval x = .slice (some ⟨g, 0, none⟩) L.length c) (hy : w.ownsRow 0 43 7 (.slice (some ⟨g, 0, none⟩) L.length c) L.length (flatY L)) (hl : ∀ x ∈ L, Yl w x)
    (h63 : n + L.length ≤ 5000) (hbase : base ≤ w.heap.size)
    (h : ∀ v' w', w'.ownsRow base 43 7 v' (n + L.length) (xs ++ flatY L) → w.grownBy w' v.ownBlock → wpList Try.prog ops Q rest (a.put o.dst v') w') : wpList Try.prog ops Q (o :: rest) a w := by
  obtain ⟨i0, hi0, hz0, hz1, hz2⟩ := info_partsY info_try
  refine wpList_append_own_at w hgd s x 44 ho base 43 i0 _ 7 88 Try.underlying44 hi0 hz0 hz1 hz2 rfl (by decide) v n xs hs hown ⟨g, 0, none⟩ L.length c (flatY L) hx (flatY_len L) ?_ (flatY_one' hl) (by unfold maxLen; omega) (by omega) hbase (fun v' w' h2 h3 _ _ => h v' w' h2 h3)
  intro j u hj
  rw [WideShapes.add_plain, Nat.zero_add]
  exact (own_cellY hy hj).1
set_option maxRecDepth 100000 in
theorem cloneY_walk {v : Value} {L : List Ye} {w : World} (hr : Yr w v L) (hl : L.length ≤ 4) :
    Calls Try.prog 30 #[v] w fun e w' => ∃ v', e = .returned v' ∧ w'.ownsRow w.heap.size 43 7 v' L.length (flatY L) ∧ Below w.heap.size w w' := by
  have HL : Hid (L.length ≤ 4) := hl
  have q : ∀ (w : World) (a : Option Addr) (n c : Nat), (binOp .eql 44 (.slice a n c) (.slice none 0 0)).run Try.prog w = .ok (.bool a.isNone) w := fun w a n c => Lib.run_eql_slice_nil w 44 43 a n c 0 0 Try.underlying44
  rcases hr.row.2 with ⟨e, h0⟩ | ⟨g, cap, cur, rfl, _⟩
  · subst e
    have hL : L = [] := List.eq_nil_of_length_eq_zero h0
    subst hL
    clear hr hl h0
    rw [List.length_nil]
    go_enter Try.func30, Try.ntmps30
    go_wp2_with fail
    go_ret
    exact ⟨_, rfl, World.ownsRow_nil _ _ _ _, below_same _⟩
  · have HR : Hid (Yr w (.slice (some ⟨g, 0, none⟩) L.length cap) L) := hr
    clear hr hl
    go_enter Try.func30, Try.ntmps30
    go_wp2_with (at_builtin; refine wpList_append_yr (by rfl) _ _ (by rfl) w.heap.size _ 0 [] (by rfl) (World.ownsRow_made w #[] 0 (Nat.le_refl _) (by simp [maxLen]) (by simp)) g cap L (by rfl) (own_below HR.out.row (below_alloc _ _)) (fun x hx => (HR.out.ls x hx).below (below_alloc _ _)) (by have := HL.out; omega) (by simp) ?_; intro v' w2 hown hgrow; go_frame)
    go_ret
    refine ⟨_, rfl, by simpa using hown, ?_⟩
    exact (below_alloc w (Obj.cells #[] 43)).grown hgrow (by simp) (by simp [Value.ownBlock])
/-- What Tries answers: rows and lists of its own. -/
def TrG (w : World) (L : List Yt) (e : Ending) (w' : World) : Prop := ∃ v W, e = .returned v ∧ W.map Ye.y = L ∧ w'.ownsRow w.heap.size 43 7 v W.length (flatY W) ∧ (∀ x ∈ W, OwN w.heap.size w' x.fv x.y.f ∧ OwN w.heap.size w' x.ev x.y.e) ∧ Below w.heap.size w w'
theorem ctries_nil {w : World} : Calls Try.prog 8 #[.pointer none] w (TrG w []) := by
  go_enter Try.func8, Try.ntmps8
  go_wp2_with fail
  go_ret
  exact ⟨_, [], rfl, rfl, World.ownsRow_nil _ _ _ _, by simp, below_same _⟩
section

variable {wz w w' w2 : World} {A E C : Nat → Prop} {sb cb jb : Nat} {c : Cs} {p : Pn} {q : Int} {J : Jn} {S : Dk} {F dv jv tv : Value} {f : Yt → Bool} {V : List Ye} {o : Bool} {m : Ms} {ev qv pv : Value} {l : List Int}

/-- The answer as far as round k. -/
structure TrK (w wr : World) (v : Value) (V W : List Ye) (k : Nat) : Prop where
  ln : W.length = V.length
  row : wr.ownsRow w.heap.size 43 7 v V.length (flatY W)
  ys : W.map Ye.y = V.map Ye.y
  new : ∀ i (hi : i < W.length), i < k → OwN w.heap.size wr W[i].fv W[i].y.f ∧ OwN w.heap.size wr W[i].ev W[i].y.e
  old : ∀ i (hi : i < W.length), k ≤ i → W[i] = V[i]'(by omega)
  bel : Below w.heap.size w wr
theorem trk_step {wr w4 : World} {g cap k : Nat} {W : List Ye} (h : TrK w wr (.slice (some ⟨g, 0, none⟩) V.length cap) V W k) (hk : k < V.length) (hb : Below wr.heap.size wr w4) {x : Ye} (hx : x = V[k]) {fv' ev' : Value} (hf : OwN wr.heap.size w4 fv' x.y.f) (he : OwN wr.heap.size w4 ev' x.y.e) :
    TrK w ((w4.setCell ⟨g, k * 7 + 5, none⟩ fv').setCell ⟨g, k * 7 + 6, none⟩ ev') (.slice (some ⟨g, 0, none⟩) V.length cap) V (W.set k ⟨x.y, fv', ev'⟩) (k + 1) := by
  have hgl := h.row.lt g rfl
  have hkW : k < W.length := by rw [h.ln]; exact hk
  have hWk : W[k] = x := by rw [hx]; exact h.old k hkW (Nat.le_refl _)
  have r4 := own_below h.row hb
  have r5 := own_setY (o := k * 7 + 5) fv' r4
  rw [flatY_upd W k 5 fv' ⟨x.y, fv', x.ev⟩ hkW (by omega) (by rw [hWk]; rfl)] at r5
  have r6 := own_setY (o := k * 7 + 6) ev' r5
  rw [flatY_upd (W.set k ⟨x.y, fv', x.ev⟩) k 6 ev' ⟨x.y, fv', ev'⟩ (by simpa using hkW) (by omega) (by rw [List.getElem_set_self]; rfl), List.set_set] at r6
  have hc : Ch (fun b => b = g) w4 ((w4.setCell ⟨g, k * 7 + 5, none⟩ fv').setCell ⟨g, k * 7 + 6, none⟩ ev') := (ch_set _ _ _ _).self (ch_set _ _ _ _)
  have hs := h.bel.size
  have keep : ∀ {v : Value} {l : List Int} {b0 : Nat}, OwN b0 w4 v l → OwN b0 ((w4.setCell ⟨g, k * 7 + 5, none⟩ fv').setCell ⟨g, k * 7 + 6, none⟩ ev') v l := by
    intro v l b0 ho
    exact row_keep ho fun b hb' => hc.block b (ho.lt b hb').2 (fun e => row_ne r4 ho (by decide) (show (Value.slice (some ⟨g, 0, none⟩) V.length cap).ownBlock = some g from rfl) hb' e.symm)
  have hb4 : Below w.heap.size w w4 := h.bel.trans (hb.mono h.bel.size)
  refine ⟨by rw [List.length_set]; exact h.ln, r6, ?_, fun i hi hik => ?_, fun i hi hik => ?_, hb4.trans (hc.to_below hb4.size (fun b hb' => by rw [hb']; exact hgl.1))⟩
  · rw [List.map_set, h.ys]
    have : (V.map Ye.y)[k]'(by simpa using hk) = x.y := by rw [hx]; simp
    rw [← this]; exact set_same (by simpa using hk)
  · by_cases e : i = k
    · subst e
      simp only [List.getElem_set_self]
      exact ⟨keep (own_base hf hs), keep (own_base he hs)⟩
    · have hi2 : i < W.length := by rw [List.length_set] at hi; exact hi
      have := h.new i hi2 (by omega)
      rw [List.getElem_set_ne (by omega)]
      exact ⟨keep (row_keep this.1 fun b hb' => hb.block b (this.1.lt b hb').2), keep (row_keep this.2 fun b hb' => hb.block b (this.2.lt b hb').2)⟩
  · have hi2 : i < W.length := by rw [List.length_set] at hi; exact hi
    rw [List.getElem_set_ne (by omega)]
    exact h.old i hi2 (by omega)
set_option maxRecDepth 100000 in
set_option maxHeartbeats 2000000 in
theorem ctries_walk (h : CW wz A sb cb c w) : Calls Try.prog 8 #[Pt cb] w (TrG w c.L) := by
  obtain ⟨C, jb, tv, V, h1, h2, h3, h4⟩ := h.ex
  have hlen : V.length = c.L.length := by rw [← h4, List.length_map]
  have HV4 : Hid (V.length ≤ 4) := by have := h.ok.ln; show _ ≤ _; omega
  have HR : Hid (Yr w tv V) := h3.yr
  have H4 : Hid (V.map Ye.y = c.L) := h4
  have HYO : Hid (∀ x ∈ V, x.y.ok) := fun x hx => (h3.ls x hx).ok
  obtain ⟨ta, tc, rfl, _, _⟩ := h3.form
  have c10 : w.cell? ⟨cb, 10, none⟩ = some (.slice ta V.length tc) := h3.cell 10
  clear h h1 h2 h3 h4 hlen
  go_enter Try.func8, Try.ntmps8
  go_wp2_with fail
  refine (cloneY_walk HR.out HV4.out).mono ?_
  rintro e w1 ⟨v1, rfl, hr1, hB1⟩
  have HK1 : Hid (TrK w w1 v1 V V 0) := ⟨rfl, hr1, rfl, fun i _ hi => by omega, fun i _ _ => rfl, hB1⟩
  obtain ⟨ga, gc, rfl, _, _⟩ := own_formY hr1
  have hlm : (V.length : Int) ≤ 9223372036854775807 := by have := HV4.out; omega
  clear hr1 hB1 c10
  go_wp2_with fail
  go_loopw [15] (fun iv wr => ∃ (k : Nat) (W : List Ye), k ≤ V.length ∧ iv = .int .i64 k ∧ TrK w wr (.slice ga V.length gc) V W k) (fun iv _ => V.length - (intOf iv).toNat)
  case atStart => exact ⟨0, V, Nat.zero_le _, rfl, HK1.out⟩
  case round =>
    obtain ⟨k, W, hk, rfl, hT⟩ := hrel
    have HT : Hid (TrK w wr (.slice ga V.length gc) V W k) := hT
    by_cases hlt : k < V.length
    · obtain ⟨g, cap, e1, hcp, hcm, _, hgl⟩ := row_formY hT.row (by omega)
      cases e1
      have hkW : k < W.length := by rw [hT.ln]; exact hlt
      obtain ⟨x, hx⟩ : ∃ x, x = V[k] := ⟨_, rfl⟩
      have HX : Hid (x = V[k]) := hx
      have hWk : W[k] = x := by rw [hx]; exact hT.old k hkW (Nat.le_refl _)
      have hyl : Yl wr x := by rw [hx]; exact (HR.out.ls _ (List.getElem_mem hlt)).below hT.bel
      have HYL : Hid (Yl wr x) := hyl
      have hxo := HYO.out x (by rw [hx]; exact List.getElem_mem hlt)
      have HFL : Hid (x.y.f.length * 8 ≤ 140737488355328) := by have := hxo.fl; show _ ≤ _; omega
      have HEL : Hid (x.y.e.length * 8 ≤ 140737488355328) := by have := hxo.el; show _ ≤ _; omega
      obtain ⟨fa, fc, ea, ec, e5, e6⟩ := hyl.form
      have HE5 : Hid (x.fv = .slice fa x.y.f.length fc) := e5
      have HE6 : Hid (x.ev = .slice ea x.y.e.length ec) := e6
      have hc : ∀ j (hj : j < 7), wr.cell? ⟨g, k * 7 + j, none⟩ = some ((cellsY x)[j]'(by simpa [cellsY] using hj)) := fun j hj => (own_cellY hT.row (by rw [flatY_get W k j hkW hj, hWk, List.getElem?_eq_getElem])).1
      have d0 := hc 0 (by omega)
      have d1 := hc 1 (by omega)
      have d2 := hc 2 (by omega)
      have d3 := hc 3 (by omega)
      have d4 := hc 4 (by omega)
      have d5 := hc 5 (by omega)
      have d6 := hc 6 (by omega)
      simp only [cellsY, List.getElem_cons_zero, List.getElem_cons_succ, Nat.add_zero] at d0 d1 d2 d3 d4 d5 d6
      rw [e5] at d5
      rw [e6] at d6
      have hlti : (k : Int) < (V.length : Int) := by omega
      obtain ⟨w2, hw2⟩ : ∃ w2, w2 = wr.alloc (.cells #[.int .i64 x.y.b, .int .i64 x.y.a, .int .i64 x.y.n, .int .i64 x.y.h, .int .i64 x.y.t, .slice fa x.y.f.length fc, .slice ea x.y.e.length ec] 43) := ⟨_, rfl⟩
      have HW2 : Hid (w2 = wr.alloc (.cells #[.int .i64 x.y.b, .int .i64 x.y.a, .int .i64 x.y.n, .int .i64 x.y.h, .int .i64 x.y.t, .slice fa x.y.f.length fc, .slice ea x.y.e.length ec] 43)) := hw2
      have HB2 : Hid (Below wr.heap.size wr w2) := by show Below _ _ _; rw [hw2]; exact below_alloc _ _
      have HBX : Hid (w2.heap[wr.heap.size]? = some (.cells #[.int .i64 x.y.b, .int .i64 x.y.a, .int .i64 x.y.n, .int .i64 x.y.h, .int .i64 x.y.t, .slice fa x.y.f.length fc, .slice ea x.y.e.length ec] 43 (0, 0))) := by show _ = _; rw [hw2]; exact alloc_at rfl
      have HFN : Hid (Nv w2 (.slice fa x.y.f.length fc) x.y.f) := by show Nv _ _ _; rw [← e5]; exact hyl.f.below HB2.out
      have HEN : Hid (Nv w2 (.slice ea x.y.e.length ec) x.y.e) := by show Nv _ _ _; rw [← e6]; exact hyl.e.below HB2.out
      have b5 : ∀ wx : World, wx.heap[wr.heap.size]? = some (.cells #[.int .i64 x.y.b, .int .i64 x.y.a, .int .i64 x.y.n, .int .i64 x.y.h, .int .i64 x.y.t, .slice fa x.y.f.length fc, .slice ea x.y.e.length ec] 43 (0, 0)) → wx.cell? ⟨wr.heap.size, 5, none⟩ = some (.slice fa x.y.f.length fc) := fun wx h => by rw [blk_cell h]; rfl
      have b6 : ∀ wx : World, wx.heap[wr.heap.size]? = some (.cells #[.int .i64 x.y.b, .int .i64 x.y.a, .int .i64 x.y.n, .int .i64 x.y.h, .int .i64 x.y.t, .slice fa x.y.f.length fc, .slice ea x.y.e.length ec] 43 (0, 0)) → wx.cell? ⟨wr.heap.size, 6, none⟩ = some (.slice ea x.y.e.length ec) := fun wx h => by rw [blk_cell h]; rfl
      have HROW : Hid (wr.ownsRow w.heap.size 43 7 (.slice (some ⟨g, 0, none⟩) V.length gc) V.length (flatY W)) := hT.row
      have HWK : Hid (W[k]? = some x) := by show _ = _; rw [List.getElem?_eq_getElem hkW, hWk]
      have hgn : ¬ wr.heap.size = g := by omega
      clear hT hx hWk hyl hxo e5 e6 hc hw2 hcm
      go_wp2_with fail
      rw [← HW2.out]
      refine wp_region_noPanic ?_
      refine wp_region_held_drew (S := (fun wx : World => wx.heap[wr.heap.size]? = some (.cells #[.int .i64 x.y.b, .int .i64 x.y.a, .int .i64 x.y.n, .int .i64 x.y.h, .int .i64 x.y.t, .slice fa x.y.f.length fc, .slice ea x.y.e.length ec] 43 (0, 0)))) (by kernel_rfl) ?_ (fun hHeld => ?_)
      · exact (blk_below HBX.out (below_drewN w2 1))
      refine wpAnyH_take (i := 0) (oi := ⟨some 20, _, _, _, _, _⟩) (v := ?_) rfl (by kernel_rfl) (by kernel_rfl) (by kernel_rfl) (fun _ _ _ h => h) (Or.inl ⟨by rfl, ?_⟩) hHeld ?_
      rotate_left
      · intro w hSw; (try dsimp only at hSw); go_simp; all_goals (with_reducible rfl)
      try simp only [Act.put, List.setIfInBounds_toArray, List.set_cons_zero, List.set_cons_succ]
      refine wpAnyH_take (i := 1) (oi := ⟨some 21, _, _, _, _, _⟩) (v := ?_) rfl (by kernel_rfl) (by kernel_rfl) (by kernel_rfl) (fun _ _ _ h => h) (Or.inl ⟨by rfl, ?_⟩) hHeld ?_
      rotate_left
      · intro w hSw; (try dsimp only at hSw); go_simp; all_goals (with_reducible rfl)
      try simp only [Act.put, List.setIfInBounds_toArray, List.set_cons_zero, List.set_cons_succ]
      refine wpAnyH_take (i := 2) (oi := ⟨some 22, _, _, _, _, _⟩) (v := ?_) rfl (by kernel_rfl) (by kernel_rfl) (by kernel_rfl) (fun _ _ _ h => h) (Or.inl ⟨by rfl, ?_⟩) hHeld ?_
      rotate_left
      · intro w hSw; (try dsimp only at hSw); go_simp; all_goals (with_reducible rfl)
      try simp only [Act.put, List.setIfInBounds_toArray, List.set_cons_zero, List.set_cons_succ]
      refine wpAnyH_take (i := 3) (oi := ⟨some 23, _, _, _, _, _⟩) (v := ?_) rfl (by kernel_rfl) (by kernel_rfl) (by kernel_rfl) (fun _ _ _ h => h) (Or.inl ⟨by rfl, ?_⟩) hHeld ?_
      rotate_left
      · intro w hSw; (try dsimp only at hSw); go_simp; all_goals (with_reducible rfl)
      try simp only [Act.put, List.setIfInBounds_toArray, List.set_cons_zero, List.set_cons_succ]
      refine wpAnyH_take (i := 4) (oi := ⟨some 24, _, _, _, _, _⟩) (v := ?_) rfl (by kernel_rfl) (by kernel_rfl) (by kernel_rfl) (fun _ _ _ h => h) (Or.inl ⟨by rfl, ?_⟩) hHeld ?_
      rotate_left
      · intro w hSw; (try dsimp only at hSw); go_simp; all_goals (with_reducible rfl)
      try simp only [Act.put, List.setIfInBounds_toArray, List.set_cons_zero, List.set_cons_succ]
      refine wpAnyH_take (i := 5) (oi := ⟨some 25, _, _, _, _, _⟩) (v := ?_) rfl (by kernel_rfl) (by kernel_rfl) (by kernel_rfl) (fun _ _ _ h => h) (Or.inl ⟨by rfl, ?_⟩) hHeld ?_
      rotate_left
      · intro w hSw; (try dsimp only at hSw); go_simp; all_goals (with_reducible rfl)
      try simp only [Act.put, List.setIfInBounds_toArray, List.set_cons_zero, List.set_cons_succ]
      refine wpAnyH_take (i := 7) (oi := ⟨some 27, _, _, _, _, _⟩) (v := ?_) rfl (by kernel_rfl) (by kernel_rfl) (by kernel_rfl) (fun _ _ _ h => h) (Or.inl ⟨by rfl, ?_⟩) hHeld ?_
      rotate_left
      · intro w hSw; (try dsimp only at hSw); go_simp; all_goals (with_reducible rfl)
      try simp only [Act.put, List.setIfInBounds_toArray, List.set_cons_zero, List.set_cons_succ]
      refine wpAnyH_take (i := 8) (oi := ⟨some 28, _, _, _, _, _⟩) (v := ?_) rfl (by kernel_rfl) (by kernel_rfl) (by kernel_rfl) (fun _ _ _ h => h) (Or.inl ⟨by rfl, ?_⟩) hHeld ?_
      rotate_left
      · intro w hSw; (try dsimp only at hSw); go_simp; all_goals (with_reducible rfl)
      try simp only [Act.put, List.setIfInBounds_toArray, List.set_cons_zero, List.set_cons_succ]
      refine wpAnyH_ready (rs := [6]) (by kernel_rfl) (by simp) ?_
      refine AllReadyH.cons (o := ⟨some 26, _, _, _, _, _⟩) rfl (fun K hK => ?_) AllReadyH.nil
      go_simp
      refine (cloneN_walk (HFN.out.below (below_drewN w2 1)) HFL.out).mono ?_
      rintro e w3 ⟨v3, rfl, ho3, hB3⟩
      have HO3 : Hid (OwN wr.heap.size w3 v3 x.y.f) := own_base ho3 (Nat.le_trans HB2.out.size (below_drewN w2 1).size)
      have HB3 : Hid (Below w2.heap.size w2 w3) := below_trans (below_drewN w2 1) hB3
      obtain ⟨_, f3, k3, rfl, _⟩ := own_nl ho3
      clear ho3 hB3
      refine hK.out _ _ ?_ (fun hHeld => ?_)
      · exact (blk_below HBX.out HB3.out)
      clear hK K
      try simp only [Act.put, List.setIfInBounds_toArray, List.set_cons_zero, List.set_cons_succ]
      refine wpAnyH_ready (rs := [9]) (by kernel_rfl) (by simp) ?_
      refine AllReadyH.cons (o := ⟨some 29, _, _, _, _, _⟩) rfl (fun K hK => ?_) AllReadyH.nil
      go_simp
      refine (cloneN_walk (HEN.out.below HB3.out) HEL.out).mono ?_
      rintro e w4 ⟨v4, rfl, ho4, hB4⟩
      have HO4 : Hid (OwN wr.heap.size w4 v4 x.y.e) := own_base ho4 (Nat.le_trans HB2.out.size HB3.out.size)
      have HO3b : Hid (OwN wr.heap.size w4 (.slice f3 x.y.f.length k3) x.y.f) := row_keep HO3.out fun b hb => hB4.block b (HO3.out.lt b hb).2
      have HB4 : Hid (Below wr.heap.size wr w4) := below_trans HB2.out (below_trans HB3.out hB4)
      obtain ⟨_, f4, k4, rfl, _⟩ := own_nl ho4
      have hr4 := own_below HROW.out HB4.out
      have HBX4 : Hid (w4.heap[wr.heap.size]? = some (.cells #[.int .i64 x.y.b, .int .i64 x.y.a, .int .i64 x.y.n, .int .i64 x.y.h, .int .i64 x.y.t, .slice fa x.y.f.length fc, .slice ea x.y.e.length ec] 43 (0, 0))) := blk_below (blk_below HBX.out HB3.out) hB4
      have hgx : ∀ j (hj : j < 7), w4.cell? ⟨g, k * 7 + j, none⟩ = some ((cellsY x)[j]'(by simpa [cellsY] using hj)) := fun j hj => (own_cellY hr4 (by rw [flatY_get W k j hkW hj, (List.getElem?_eq_some_iff.1 HWK.out).2, List.getElem?_eq_getElem])).1
      have q5 : w4.cell? ⟨g, k * 7 + 5, none⟩ = some (.slice fa x.y.f.length fc) := by have := hgx 5 (by omega); simp only [cellsY, List.getElem_cons_zero, List.getElem_cons_succ] at this; rw [this, HE5.out]
      have q6 : w4.cell? ⟨g, k * 7 + 6, none⟩ = some (.slice ea x.y.e.length ec) := by have := hgx 6 (by omega); simp only [cellsY, List.getElem_cons_zero, List.getElem_cons_succ] at this; rw [this, HE6.out]
      have y5 : w4.frozen? ⟨g, k * 7 + 5, none⟩ = false := (own_cellY (j := k * 7 + 5) (u := (flatY W)[k * 7 + 5]'(by rw [flatY_len]; omega)) hr4 (by rw [List.getElem?_eq_getElem])).2
      have y6 : w4.frozen? ⟨g, k * 7 + 6, none⟩ = false := (own_cellY (j := k * 7 + 6) (u := (flatY W)[k * 7 + 6]'(by rw [flatY_len]; omega)) hr4 (by rw [List.getElem?_eq_getElem])).2
      clear ho4 hB4 hr4 hgx
      refine hK.out _ _ ?_ (fun hHeld => ?_)
      · exact HBX4.out
      clear hK K
      try simp only [Act.put, List.setIfInBounds_toArray, List.set_cons_zero, List.set_cons_succ]
      refine wpAnyH_take (i := 10) (oi := ⟨some 30, _, _, _, _, _⟩) (v := ?_) rfl (by kernel_rfl) (by kernel_rfl) (by kernel_rfl) (fun _ _ _ h => h) (Or.inl ⟨by rfl, ?_⟩) hHeld ?_
      rotate_left
      · intro w hSw; (try dsimp only at hSw); go_simp; all_goals (with_reducible rfl)
      try simp only [Act.put, List.setIfInBounds_toArray, List.set_cons_zero, List.set_cons_succ]
      refine wpAnyH_take (i := 11) (oi := ⟨some 31, _, _, _, _, _⟩) (v := ?_) rfl (by kernel_rfl) (by kernel_rfl) (by kernel_rfl) (fun _ _ _ h => h) (Or.inl ⟨by rfl, ?_⟩) hHeld ?_
      rotate_left
      · intro w hSw; (try dsimp only at hSw); go_simp; all_goals (with_reducible rfl)
      try simp only [Act.put, List.setIfInBounds_toArray, List.set_cons_zero, List.set_cons_succ]
      refine wpAnyH_ready (rs := [12]) (by kernel_rfl) (by simp) ?_
      refine AllReadyH.cons (o := ⟨none, _, _, _, _, _⟩) rfl (fun K hK => ?_) AllReadyH.nil
      go_simp
      refine hK.out _ _ ?_ (fun hHeld => ?_)
      · exact (by rw [set_other _ _ hgn]; exact HBX4.out)
      clear hK K
      try simp only [Act.put, List.setIfInBounds_toArray, List.set_cons_zero, List.set_cons_succ]
      refine wpAnyH_take (i := 13) (oi := ⟨some 32, _, _, _, _, _⟩) (v := ?_) rfl (by kernel_rfl) (by kernel_rfl) (by kernel_rfl) (fun _ _ _ h => h) (Or.inl ⟨by rfl, ?_⟩) hHeld ?_
      rotate_left
      · intro w hSw; (try dsimp only at hSw); go_simp; all_goals (with_reducible rfl)
      try simp only [Act.put, List.setIfInBounds_toArray, List.set_cons_zero, List.set_cons_succ]
      refine wpAnyH_take (i := 14) (oi := ⟨some 33, _, _, _, _, _⟩) (v := ?_) rfl (by kernel_rfl) (by kernel_rfl) (by kernel_rfl) (fun _ _ _ h => h) (Or.inl ⟨by rfl, ?_⟩) hHeld ?_
      rotate_left
      · intro w hSw; (try dsimp only at hSw); go_simp; all_goals (with_reducible rfl)
      try simp only [Act.put, List.setIfInBounds_toArray, List.set_cons_zero, List.set_cons_succ]
      refine wpAnyH_ready (rs := [15]) (by kernel_rfl) (by simp) ?_
      refine AllReadyH.cons (o := ⟨none, _, _, _, _, _⟩) rfl (fun K hK => ?_) AllReadyH.nil
      go_simp
      refine hK.out _ _ ?_ (fun hHeld => ?_)
      · exact (by rw [set_other _ _ hgn, set_other _ _ hgn]; exact HBX4.out)
      clear hK K
      try simp only [Act.put, List.setIfInBounds_toArray, List.set_cons_zero, List.set_cons_succ]
      refine wpAnyH_done (by kernel_rfl) ?_ _
      refine NoPanic.normal ?_
      go_wp2_with fail
      go_roundw
      case rel => exact ⟨k + 1, _, by omega, by go_num, trk_step HT.out hlt HB4.out HX.out HO3b.out HO4.out⟩
      case measure => simp [intOf]; omega
    · have hnl : ¬ ((k : Int) < (V.length : Int)) := by omega
      have hkn : k = V.length := by omega
      have HKN : Hid (k = V.length) := hkn
      clear hkn hT
      go_wp2_with fail
      go_ret
      refine ⟨_, W, rfl, by rw [HT.out.ys, H4.out], by rw [HT.out.ln]; exact HT.out.row, fun x hx => ?_, HT.out.bel⟩
      obtain ⟨i, hi, rfl⟩ := List.mem_iff_getElem.1 hx
      exact HT.out.new i hi (by rw [HKN.out, ← HT.out.ln]; exact hi)
end

end Go.Proofs.Ytpndafieknddcaa

namespace Go.Proofs.Ytpndafieknddcaa

open Ieee Go.RowKit

def newC (p : Pn) (g : Nat) (n : Nt) (h : Nat) (S : Dk) : Cs := ⟨{ p with l := [] }, ⟨g, n, h, false⟩, S, [], false⟩
/-- What Open answers. -/
def OpC (wz : World) (A : Nat → Prop) (sb jb : Nat) (q : Int) (J : Jn) (S : Dk) (p : Pn) (w : World) (e : Ending) (w' : World) : Prop := ChA wz A w w' ∧ ((p.chk ≠ 0 ∧ e = .returned (.tuple #[.pointer none, .int .i64 p.chk]) ∧ Lw wz A sb jb q J S w') ∨ (p.chk = 0 ∧ opnI S p.P ≠ 0 ∧ e = .returned (.tuple #[.pointer none, .int .i64 (opnI S p.P)]) ∧ Lw wz A sb jb q J (opnS S p.P) w') ∨ ∃ (h g : Nat) (n : Nt) (cb : Nat), p.chk = 0 ∧ opnI S p.P = 0 ∧ opK p.P S 2 = some (h, g, n) ∧ e = .returned (.tuple #[Pt cb, .int .i64 0]) ∧ w.heap.size ≤ cb ∧ CW wz A sb cb (newC p g n h (opnS S p.P)) w')
theorem is_less {p : Pn} (h : p.is = true) : ({ p with l := [] } : Pn).is = true := by
  unfold Pn.is at h ⊢
  rw [Bool.and_eq_true] at h ⊢
  exact ⟨h.1, rfl⟩
section

variable {wz w w' w2 : World} {A E C : Nat → Prop} {sb cb jb : Nat} {c : Cs} {p : Pn} {q : Int} {J : Jn} {S : Dk} {F dv jv tv ov : Value}

theorem open_end {w3 w4 : World} {PB hh g : Nat} {n : Nt} {jb' : Nat} (hA : ∀ x, A x → x < w.heap.size) (hw3 : w.heap.size ≤ w3.heap.size) (hPB : w.heap.size ≤ PB) (hc : Ch (fun x => x = PB) w3 w4) (hz : wz.heap.size ≤ w.heap.size) (his : p.is = true) (hLP : Lw wz (fun x => A x ∨ x = PB) sb jb' p.P ⟨g, n, hh, false⟩ S w3) :
    CW wz A sb w4.heap.size (newC p g n hh S) (w4.alloc (Obj.cells #[.int .i64 p.P, .int .i64 p.S, .int .i64 p.W, .slice none 0 0, .int .i64 p.A, .int .i64 p.B, .int .i64 p.N, .int .i64 p.G, Pt sb, Pt jb', .slice none 0 0, .bool false] 72)) := by
  have hs4 : w3.heap.size ≤ w4.heap.size := hc.size
  have hL4 : Lw wz (fun x => A x ∨ x = PB) sb jb' p.P ⟨g, n, hh, false⟩ S w4 := hLP.ch hc (fun x hx => .inr hx) (fun x hx => by rw [hx]; omega)
  refine ⟨⟨fun x => x = w4.heap.size, jb', .slice none 0 0, [], fun x hx => ?_, ?_, ?_, rfl⟩, ⟨is_less his, rfl, by show (0 : Nat) ≤ 4; omega⟩⟩
  · rw [hx]; exact ⟨by omega, fun h => by have := hA _ h; omega⟩
  · refine (hL4.more (below_alloc _ _)).less ?_
    rintro x (h | h)
    · exact .inl (.inl h)
    · rw [h]; exact .inr ⟨Nat.le_refl _, by simp⟩
  · exact ⟨alloc_at rfl, World.ownsRow_nil _ _ _ _, by simp, rfl, fun x hx => (by cases hx), fun x hx => (by rw [hx]; simp)⟩
set_option maxRecDepth 100000 in
set_option maxHeartbeats 2000000 in
theorem copen_walk (h : Lw wz A sb jb q J S w) (ho : Ov w ov p.l) (hrd : S.rd < 9223372036854775800) : Calls Try.prog 38 #[.agg #[.int .i64 p.P, .int .i64 p.S, .int .i64 p.W, ov, .int .i64 p.A, .int .i64 p.B, .int .i64 p.N, .int .i64 p.G], Pt sb] w (OpC wz A sb jb q J S p w) := by
  have HRD : Hid (S.rd < 9223372036854775800) := hrd
  obtain ⟨w0, hw0⟩ : ∃ w0, w0 = w.alloc (Obj.cells #[.int .i64 p.P, .int .i64 p.S, .int .i64 p.W, ov, .int .i64 p.A, .int .i64 p.B, .int .i64 p.N, .int .i64 p.G] 24) := ⟨_, rfl⟩
  have hb0 : Below w.heap.size w w0 := by rw [hw0]; exact below_alloc _ _
  have HB0 : Hid (Below w.heap.size w w0) := hb0
  have HO : Hid (Ov w0 ov p.l) := ho.below hb0
  have HBX : Hid (w0.heap[w.heap.size]? = some (.cells #[.int .i64 p.P, .int .i64 p.S, .int .i64 p.W, ov, .int .i64 p.A, .int .i64 p.B, .int .i64 p.N, .int .i64 p.G] 24 (0, 0))) := by show _ = _; rw [hw0]; exact alloc_at rfl
  have hsz : w0.heap.size = w.heap.size + 1 := by rw [hw0]; simp
  have HSZ : Hid (w0.heap.size = w.heap.size + 1) := hsz
  have HL : Hid (Lw wz (fun x => A x ∨ x = w.heap.size) sb jb q J S w0) := (h.more hb0).less (fun x hx => hx.imp id (fun e => by rw [e]; exact ⟨Nat.le_refl _, by omega⟩))
  have HLW : Hid (Lw wz A sb jb q J S w) := h
  obtain ⟨⟨oa, oc, rfl, _⟩, _⟩ := ho
  have HW0 : Hid (w0 = w.alloc (Obj.cells #[.int .i64 p.P, .int .i64 p.S, .int .i64 p.W, .slice oa p.l.length oc, .int .i64 p.A, .int .i64 p.B, .int .i64 p.N, .int .i64 p.G] 24)) := hw0
  obtain ⟨ck, hck⟩ : ∃ ck, ck = p.chk := ⟨_, rfl⟩
  have HCK : Hid (ck = p.chk) := hck
  clear h hrd hw0 hb0 hsz hck
  go_enter Try.func38, Try.ntmps38
  go_wp2_with fail
  rw [← HW0.out]
  refine (pcheck_walk HO.out).mono ?_
  rw [← HCK.out]
  rintro e w1 ⟨rfl, hB1⟩
  have HB1 : Hid (Below w0.heap.size w0 w1) := hB1
  have HL1 : Hid (Lw wz (fun x => A x ∨ x = w.heap.size) sb jb q J S w1) := HL.out.below hB1
  have hX1 := blk_below HBX.out hB1
  have HX1 : Hid (w1.heap[w.heap.size]? = some (.cells #[.int .i64 p.P, .int .i64 p.S, .int .i64 p.W, .slice oa p.l.length oc, .int .i64 p.A, .int .i64 p.B, .int .i64 p.N, .int .i64 p.G] 24 (0, 0))) := hX1
  have b0 : w1.cell? ⟨w.heap.size, 0, none⟩ = some (.int .i64 p.P) := by rw [blk_cell hX1]; rfl
  have HBW1 : Hid (Below w.heap.size w w1) := HB0.out.trans (hB1.mono HB0.out.size)
  clear hB1 hX1
  by_cases hk : ck = 0
  rotate_left
  · have qk : (ck != 0) = true := by simp [hk]
    have HK : Hid (p.chk ≠ 0) := by show _ ≠ _; rw [← HCK.out]; exact hk
    clear hk
    go_wp2_with fail
    go_ret2
    exact ⟨Ch.of_below HBW1.out, .inl ⟨HK.out, by rw [HCK.out]; rfl, HL1.out.less (fun x hx => .inl hx)⟩⟩
  · have HK : Hid (p.chk = 0) := by show _ = _; rw [← HCK.out]; exact hk
    have HIS : Hid (p.is = true) := by have := p.chk_is; rw [HK.out] at this; exact this.symm
    subst hk
    go_wp2_with fail
    refine (lw_open HL1.out p.P HRD.out).mono ?_
    rintro e w2 ⟨hch, hcase⟩
    have HCH2 : Hid (ChA wz (fun x => A x ∨ x = w.heap.size) w1 w2) := hch
    have HCHA : Hid (ChA wz A w w2) := (Ch.of_below HBW1.out).self (ch_le hch (fun x hx => ⟨hx.1, fun h => hx.2 (.inl h)⟩))
    rcases hcase with ⟨hne, rfl, hL2⟩ | ⟨hh, g, n, jb', h0, hop, rfl, hL2⟩
    · obtain ⟨oi, hoi⟩ : ∃ oi, oi = opnI S p.P := ⟨_, rfl⟩
      rw [← hoi] at hne ⊢
      have qk : (oi != 0) = true := by simp [hne]
      have HOI : Hid (oi = opnI S p.P) := hoi
      have HNE : Hid (oi ≠ 0) := hne
      have HL2 : Hid (Lw wz (fun x => A x ∨ x = w.heap.size) sb jb q J (opnS S p.P) w2) := hL2
      clear hne hoi hL2 hch
      go_wp2_with fail
      go_ret2
      exact ⟨HCHA.out, .inr (.inl ⟨HK.out, by rw [← HOI.out]; exact HNE.out, by rw [HOI.out]; rfl, HL2.out.less (fun x hx => .inl hx)⟩)⟩
    · have HL2 : Hid (Lw wz (fun x => A x ∨ x = w.heap.size) sb jb' p.P ⟨g, n, hh, false⟩ (opnS S p.P) w2) := hL2
      have H0 : Hid (opnI S p.P = 0) := h0
      have HOP : Hid (opK p.P S 2 = some (hh, g, n)) := hop
      have hX2 : w2.heap[w.heap.size]? = some (.cells #[.int .i64 p.P, .int .i64 p.S, .int .i64 p.W, .slice oa p.l.length oc, .int .i64 p.A, .int .i64 p.B, .int .i64 p.N, .int .i64 p.G] 24 (0, 0)) := by rw [hch.block _ (blk_lt HX1.out) (fun h => h.2 (.inr rfl))]; exact HX1.out
      obtain ⟨w3, hw3⟩ : ∃ w3, w3 = w2.setCell ⟨w.heap.size, 3, none⟩ (.slice none 0 0) := ⟨_, rfl⟩
      have HW3 : Hid (w3 = w2.setCell ⟨w.heap.size, 3, none⟩ (.slice none 0 0)) := hw3
      have HC3 : Hid (Ch (fun x => x = w.heap.size) w2 w3) := by show Ch _ _ _; rw [hw3]; exact ch_set _ _ _ _
      have hX3 : w3.heap[w.heap.size]? = some (.cells #[.int .i64 p.P, .int .i64 p.S, .int .i64 p.W, .slice none 0 0, .int .i64 p.A, .int .i64 p.B, .int .i64 p.N, .int .i64 p.G] 24 (0, 0)) := by rw [hw3, set_row hX2]; rfl
      have x3 : w2.cell? ⟨w.heap.size, 3, none⟩ = some (.slice oa p.l.length oc) := by rw [blk_cell hX2]; rfl
      have z3 : w2.frozen? ⟨w.heap.size, 3, none⟩ = false := blk_soft hX2 3
      have y0 : w3.cell? ⟨w.heap.size, 0, none⟩ = some (.int .i64 p.P) := by rw [blk_cell hX3]; rfl
      have y1 : w3.cell? ⟨w.heap.size, 1, none⟩ = some (.int .i64 p.S) := by rw [blk_cell hX3]; rfl
      have y2 : w3.cell? ⟨w.heap.size, 2, none⟩ = some (.int .i64 p.W) := by rw [blk_cell hX3]; rfl
      have y3 : w3.cell? ⟨w.heap.size, 3, none⟩ = some (.slice none 0 0) := by rw [blk_cell hX3]; rfl
      have y4 : w3.cell? ⟨w.heap.size, 4, none⟩ = some (.int .i64 p.A) := by rw [blk_cell hX3]; rfl
      have y5 : w3.cell? ⟨w.heap.size, 5, none⟩ = some (.int .i64 p.B) := by rw [blk_cell hX3]; rfl
      have y6 : w3.cell? ⟨w.heap.size, 6, none⟩ = some (.int .i64 p.N) := by rw [blk_cell hX3]; rfl
      have y7 : w3.cell? ⟨w.heap.size, 7, none⟩ = some (.int .i64 p.G) := by rw [blk_cell hX3]; rfl
      clear h0 hop hL2 hX2 hX3 hw3 hch b0
      go_upto_region 8 with fail
      rw [← HW3.out]
      go_wp2_with fail
      go_ret2
      have hall := HLW.out.al
      have hsz2 : w.heap.size ≤ w2.heap.size := HCHA.out.size
      have hCW := open_end (p := p) hall hsz2 (Nat.le_refl _) HC3.out HLW.out.bel.size HIS.out HL2.out
      refine ⟨(HCHA.out.self (ch_le HC3.out (fun x hx => ?_))).self (Ch.of_below (below_alloc _ _)), .inr (.inr ⟨hh, g, n, w3.heap.size, HK.out, H0.out, HOP.out, rfl, ?_, hCW⟩)⟩
      · rw [hx]; exact ⟨HLW.out.bel.size, fun h => by have := hall _ h; omega⟩
      · have := HC3.out.size; omega
end

end Go.Proofs.Ytpndafieknddcaa

namespace Go.Proofs.Ytpndafieknddcaa

open Ieee Go.RowKit

/-- The state of a new coordinator. -/
def frS (P : Int) : Dk := fmtS (loadS (List.replicate 2 [])) P
def frC (p : Pn) : Cs := newC p 1 (n0 p.P.toNat) 0 (rdK (frS p.P) 2)
/-- What fresh answers. -/
def FrG (p : Pn) (w : World) (e : Ending) (w' : World) : Prop := (p.is = false ∧ Below w.heap.size w w' ∧ ∃ d, e = .returned (.tuple #[.pointer d, .pointer none])) ∨ (p.is = true ∧ ∃ sb cb, e = .returned (.tuple #[Pt sb, Pt cb]) ∧ CW w (fun _ => False) sb cb (frC p) w')
section

variable {wz w w' w2 : World} {A E C : Nat → Prop} {sb cb jb : Nat} {c : Cs} {p : Pn} {q : Int} {J : Jn} {S : Dk} {F dv jv tv ov av bv : Value} {a b : List Int}

theorem Lw.low {wy : World} (h : Lw wz A sb jb q J S w) (hb : Below wy.heap.size wy w) (hs : wy.heap.size ≤ wz.heap.size) : Lw wy A sb jb q J S w := by
  obtain ⟨D, K, h1, h2⟩ := h.ex
  exact ⟨⟨D, K, h1, fun x hx => ⟨Nat.le_trans hs (h2 x hx).1, (h2 x hx).2⟩⟩, hb, h.al⟩
theorem CW.low {wy : World} (h : CW wz A sb cb c w) (hb : Below wy.heap.size wy w) (hs : wy.heap.size ≤ wz.heap.size) : CW wy A sb cb c w := by
  obtain ⟨C, jb, tv, V, h1, h2, h3, h4⟩ := h.ex
  exact ⟨⟨C, jb, tv, V, fun x hx => ⟨Nat.le_trans hs (h1 x hx).1, (h1 x hx).2⟩, h2.low hb hs, h3, h4⟩, h.ok⟩
theorem small_walk : Calls Try.prog 15 #[] w fun e w' => e = .returned (.agg #[.int .i64 1, .int .i64 1, .int .i64 2, .slice none 0 0, .int .i64 1, .int .i64 4, .int .i64 2, .int .i64 8]) ∧ Below w.heap.size w w' := by
  go_enter Try.func15, Try.ntmps15
  go_wp2_with fail
  (try simp only [Exit.inBlock, Exit.then])
  refine bodyPost_ret (v := .agg #[.int .i64 1, .int .i64 1, .int .i64 2, .slice none 0 0, .int .i64 1, .int .i64 4, .int .i64 2, .int .i64 8]) (by rw [results_cell1 rfl]; go_simp) rfl ?_
  exact ⟨rfl, below_alloc _ _⟩
theorem is_P (h : p.is = true) : ∃ k : Nat, p.P = k ∧ 1 ≤ k ∧ k ≤ 4 := by
  obtain ⟨⟨h1, h2⟩, _⟩ := Pn.is_num h
  exact ⟨p.P.toNat, by omega, by omega, by omega⟩
theorem fr_ok {p : Pn} (h : refJ p.P = 0) : fmtI (loadS (List.replicate 2 [])) p.P = 0 ∧ (frS p.P).wr = 2 ∧ (frS p.P).rd = 0 ∧ Gd p.P ⟨1, n0 p.P.toNat, 0, false⟩ (frS p.P) := by
  obtain ⟨k, hk, h1, h4⟩ := refJ_ok h
  unfold frS
  rw [hk, Int.toNat_natCast]
  exact gd_new h1 h4
theorem is_ref (h : p.is = true) : refJ p.P = 0 := by
  obtain ⟨⟨h1, h2⟩, _⟩ := Pn.is_num h
  exact if_neg (by omega)
set_option maxRecDepth 100000 in
set_option maxHeartbeats 2000000 in
theorem fresh_walk (ho : Ov w ov p.l) : Calls Try.prog 14 #[.agg #[.int .i64 p.P, .int .i64 p.S, .int .i64 p.W, ov, .int .i64 p.A, .int .i64 p.B, .int .i64 p.N, .int .i64 p.G]] w (FrG p w) := by
  obtain ⟨w0, hw0⟩ : ∃ w0, w0 = w.alloc (Obj.cells #[.int .i64 p.P, .int .i64 p.S, .int .i64 p.W, ov, .int .i64 p.A, .int .i64 p.B, .int .i64 p.N, .int .i64 p.G] 24) := ⟨_, rfl⟩
  have hb0 : Below w.heap.size w w0 := by rw [hw0]; exact below_alloc _ _
  have HB0 : Hid (Below w.heap.size w w0) := hb0
  have HO : Hid (Ov w0 ov p.l) := ho.below hb0
  have HBX : Hid (w0.heap[w.heap.size]? = some (.cells #[.int .i64 p.P, .int .i64 p.S, .int .i64 p.W, ov, .int .i64 p.A, .int .i64 p.B, .int .i64 p.N, .int .i64 p.G] 24 (0, 0))) := by show _ = _; rw [hw0]; exact alloc_at rfl
  obtain ⟨⟨oa, oc, rfl, _⟩, _⟩ := ho
  have HW0 : Hid (w0 = w.alloc (Obj.cells #[.int .i64 p.P, .int .i64 p.S, .int .i64 p.W, .slice oa p.l.length oc, .int .i64 p.A, .int .i64 p.B, .int .i64 p.N, .int .i64 p.G] 24)) := hw0
  clear hw0 hb0
  go_enter Try.func14, Try.ntmps14
  go_wp2_with fail
  rw [← HW0.out]
  refine (new_walk (n := 2) (by omega) (by omega)).mono ?_
  rintro e w1 ⟨v1, D1, rfl, hD1, hB1, hDn⟩
  have HD1 : Hid (Dsk 117 D1 w1 v1 (loadS (List.replicate 2 []))) := hD1
  have HBW1 : Hid (Below w.heap.size w w1 ∧ ∀ x, D1 x → w.heap.size ≤ x) := ⟨HB0.out.trans (hB1.mono HB0.out.size), fun x hx => Nat.le_trans HB0.out.size (hDn x hx)⟩
  obtain ⟨sb, gp, capp, rfl, _, _⟩ := hD1
  have hX1 := blk_below HBX.out hB1
  have HX1 : Hid (w1.heap[w.heap.size]? = some (.cells #[.int .i64 p.P, .int .i64 p.S, .int .i64 p.W, .slice oa p.l.length oc, .int .i64 p.A, .int .i64 p.B, .int .i64 p.N, .int .i64 p.G] 24 (0, 0))) := hX1
  have HO1 : Hid (Ov w1 (.slice oa p.l.length oc) p.l) := HO.out.below hB1
  have b0 : w1.cell? ⟨w.heap.size, 0, none⟩ = some (.int .i64 p.P) := by rw [blk_cell hX1]; rfl
  have HDN : Hid (∀ x, D1 x → w0.heap.size ≤ x) := hDn
  have HB1 : Hid (Below w0.heap.size w0 w1) := hB1
  have HS0 : Hid (w.heap.size < w0.heap.size) := blk_lt HBX.out
  clear hB1 hDn hX1
  go_wp2_with fail
  refine (lw_format (wz := w0) HD1.out HB1.out HDN.out (by show (0 : Nat) < _; omega) p.P).mono ?_
  rintro e w2 ⟨hB2, hcase⟩
  have HB2 : Hid (Below w0.heap.size w0 w2) := hB2
  have HBW2 : Hid (Below w.heap.size w w2) := HB0.out.trans (hB2.mono HB0.out.size)
  have hX2 := blk_below HBX.out hB2
  have HO2 : Hid (Ov w2 (.slice oa p.l.length oc) p.l) := HO.out.below hB2
  have y0 : w2.cell? ⟨w.heap.size, 0, none⟩ = some (.int .i64 p.P) := by rw [blk_cell hX2]; rfl
  have y1 : w2.cell? ⟨w.heap.size, 1, none⟩ = some (.int .i64 p.S) := by rw [blk_cell hX2]; rfl
  have y2 : w2.cell? ⟨w.heap.size, 2, none⟩ = some (.int .i64 p.W) := by rw [blk_cell hX2]; rfl
  have y3 : w2.cell? ⟨w.heap.size, 3, none⟩ = some (.slice oa p.l.length oc) := by rw [blk_cell hX2]; rfl
  have y4 : w2.cell? ⟨w.heap.size, 4, none⟩ = some (.int .i64 p.A) := by rw [blk_cell hX2]; rfl
  have y5 : w2.cell? ⟨w.heap.size, 5, none⟩ = some (.int .i64 p.B) := by rw [blk_cell hX2]; rfl
  have y6 : w2.cell? ⟨w.heap.size, 6, none⟩ = some (.int .i64 p.N) := by rw [blk_cell hX2]; rfl
  have y7 : w2.cell? ⟨w.heap.size, 7, none⟩ = some (.int .i64 p.G) := by rw [blk_cell hX2]; rfl
  clear hB2 hX2 b0
  rcases hcase with ⟨hne, rfl⟩ | ⟨h0, jb, rfl, hLw⟩
  · obtain ⟨fi, hfi⟩ : ∃ fi, fi = fmtI (loadS (List.replicate 2 [])) p.P := ⟨_, rfl⟩
    rw [← hfi] at hne ⊢
    have qk : (fi != 0) = true := by simp [hne]
    have HIS : Hid (p.is = false) := by
      cases hp : p.is
      · rfl
      · exact absurd (hfi.trans (fr_ok (is_ref hp)).1) hne
    clear hne hfi
    go_wp2_with fail
    go_ret2
    exact .inl ⟨HIS.out, HBW2.out, none, rfl⟩
  · have HREF : Hid (refJ p.P = 0) := by
      by_cases h : refJ p.P = 0
      · exact h
      · exfalso
        unfold fmtI at h0
        rw [if_pos h] at h0
        cases h0
    rw [h0] at *
    have HLW : Hid (Lw w0 (fun _ => False) sb jb p.P ⟨1, n0 p.P.toNat, 0, false⟩ (frS p.P) w2) := hLw
    have HGD : Hid (Gd p.P ⟨1, n0 p.P.toNat, 0, false⟩ (frS p.P)) := (fr_ok HREF.out).2.2.2
    have HRD : Hid ((frS p.P).rd < 9223372036854775800) := by show _ < _; rw [(fr_ok HREF.out).2.2.1]; omega
    clear h0 hLw
    go_wp2_with fail
    refine (copen_walk (p := p) HLW.out HO2.out HRD.out).mono ?_
    rintro e w3 ⟨hch, hcase⟩
    have HBW3 : Hid (Below w.heap.size w w3) := HBW2.out.trans (hch.to_below (Nat.le_trans (Nat.le_of_lt HS0.out) HB2.out.size |> fun h => by have := HBW2.out.size; omega) (fun x hx => by have := hx.1; have := HS0.out; omega))
    clear hch
    rcases hcase with ⟨hk, rfl, _⟩ | ⟨hk, hop, _⟩ | ⟨hh, g, n, cb, hk, h0, hop, rfl, _, hcw⟩
    · have qk : (p.chk != 0) = true := by simp [hk]
      have HIS : Hid (p.is = false) := by
        cases hp : p.is
        · rfl
        · exact absurd (Pn.chk_ok hp) hk
      generalize p.chk = ck at qk
      clear hk
      go_wp2_with fail
      go_ret2
      exact .inl ⟨HIS.out, HBW3.out, _, rfl⟩
    · exfalso
      obtain ⟨k, hk1, hk2, hk3⟩ := refJ_ok HREF.out
      exact hop (HGD.out.opn (by omega)).1
    · have HIS : Hid (p.is = true) := by have := p.chk_is; rw [hk] at this; exact this.symm
      have HCW : Hid (CW w (fun _ => False) sb cb (frC p) w3) := by
        obtain ⟨k, hk1, hk2, hk3⟩ := refJ_ok HREF.out
        rw [HGD.out.found] at hop
        cases hop
        have e := (HGD.out.opn (by omega)).2
        rw [e] at hcw
        exact hcw.low HBW3.out (Nat.le_of_lt HS0.out)
      clear hk h0 hop hcw
      go_wp2_with fail
      go_ret2
      exact .inr ⟨HIS.out, sb, cb, rfl, HCW.out⟩
end

end Go.Proofs.Ytpndafieknddcaa
