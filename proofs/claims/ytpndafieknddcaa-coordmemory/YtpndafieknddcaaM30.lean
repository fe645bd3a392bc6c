/- Cz Ha -/
import Derived.Test.YtpndafieknddcaaM28
namespace Go.Proofs.Ytpndafieknddcaa

open Ieee Go.RowKit

theorem wl_app2 {P : Program} {w : World} {ops : Array Oper} {rest : List Oper} {o : Oper} {a : Act} {Q : Exit → Act → World → Prop} (hgd : o.guard = none) (s x : Operand)
    (ho : o.op = .call { callee := .builtin .append, args := #[s, x], argTypes := #[25, 25] })
    (ht : P.underlying 25 = some (.slice 3)) (hinf : (P.info? 3).map (fun i => (i.zero, i.size, i.bytes)) = some (some (.int .i64 0), 1, 8))
    (w6 : World) (hw : w = w6.alloc (Obj.cells #[] 3)) (hs : a.eval s = .slice (some ⟨w6.heap.size, 0, none⟩) 0 0) (y : Value) (l : List Int) (hx : a.eval x = y) (hy : Nv w6 y l) (hl : l.length ≤ 4)
    (h : ∀ v' w', OwN w6.heap.size w' v' l → Below w6.heap.size w6 w' → wpList P ops Q rest (a.put o.dst v') w') : wpList P ops Q (o :: rest) a w := by
  subst hw
  refine wpList_append_nv hgd s x 25 ho w6.heap.size 3 ht hinf _ 0 [] hs (World.ownsRow_made w6 #[] 0 (Nat.le_refl _) (by simp [maxLen]) (by simp)) y l hx (hy.below (below_alloc _ _)) (by unfold maxLen; omega) (by omega) (by simp) ?_
  intro v' w' h1 h2
  exact h v' w' (by simpa using h1) ((below_alloc w6 (Obj.cells #[] 3)).grown h2 (by simp) (by simp [Value.ownBlock]))
def onR (B b : Int) : Int := (IntKind.u64.wrap b).tmod (B + 1)
def onE (B x b : Int) : Int := if 256 < x + onR B b then 256 else x + onR B b
def onw (B : Int) : List Int → List Int → List Int
  | [], _ => []
  | x :: t, [] => x :: t
  | x :: t, b :: s => onE B x b :: onw B t s
theorem onR_le {B b : Int} (h0 : 0 ≤ B) : 0 ≤ onR B b ∧ onR B b ≤ B := by
  have h1 : 0 ≤ IntKind.u64.wrap b := wrap_u64_nonneg b
  unfold onR
  rw [Int.tmod_eq_emod_of_nonneg h1]
  have h2 := Int.emod_nonneg (IntKind.u64.wrap b) (show B + 1 ≠ 0 by omega)
  have h3 := Int.emod_lt_of_pos (IntKind.u64.wrap b) (show 0 < B + 1 by omega)
  exact ⟨h2, by omega⟩
theorem onw_len (B : Int) : ∀ (f l : List Int), (onw B f l).length = f.length
  | [], _ => by simp [onw]
  | x :: t, [] => by simp [onw]
  | x :: t, b :: s => by rw [onw, List.length_cons, onw_len B t s, List.length_cons]
theorem onw_nth (B : Int) : ∀ (f l : List Int) (i : Nat), i < f.length → nth (onw B f l) i = if i < l.length then onE B (nth f i) (nth l i) else nth f i
  | [], _, i, h => by simp at h
  | x :: t, [], i, _ => by rw [onw, if_neg (by simp)]
  | x :: t, b :: s, 0, _ => by rw [onw, if_pos (by simp)]; rfl
  | x :: t, b :: s, i + 1, h => by
    have ih := onw_nth B t s i (by simpa using h)
    rw [onw]
    simp only [nth, List.getD_cons_succ, List.length_cons] at ih ⊢
    rw [ih]
    simp
/-- The answer as far as round k. -/
structure OnK (w wr : World) (v : Value) (B : Int) (f l o : List Int) (k : Nat) : Prop where
  ln : o.length = f.length
  row : OwN w.heap.size wr v o
  lo : ∀ i, i < k → nth o i = onE B (nth f i) (nth l i)
  hi : ∀ i, k ≤ i → nth o i = nth f i
  bel : Below w.heap.size w wr
/-- What region 5 of onward reads beside its own row. -/
def OnS (PB bb bo : Nat) (B b : Int) (wx : World) : Prop := wx.cell? ⟨PB, 5, none⟩ = some (.int .i64 B) ∧ wx.cell? ⟨bb, bo, none⟩ = some (.int .i64 b)
theorem own_setN {w : World} {b g n cap k : Nat} {l : List Int} (x : Int) (h : OwN b w (.slice (some ⟨g, 0, none⟩) n cap) l) (hn : n = l.length) : OwN b (w.setCell ⟨g, k, none⟩ (.int .i64 x)) (.slice (some ⟨g, 0, none⟩) n cap) (l.set k x) := by
  subst hn
  have := own_setY (o := k) (.int .i64 x) h
  have e : (cellsN l).set k (.int .i64 x) = cellsN (l.set k x) := by unfold cellsN; rw [List.map_set]
  rw [e] at this
  have e2 : (l.set k x).length = l.length := List.length_set
  show World.ownsRow _ _ _ _ _ (l.set k x).length _
  rw [e2]; exact this
theorem nth_set {l : List Int} {k i : Nat} {x : Int} (hk : k < l.length) : nth (l.set k x) i = if i = k then x else nth l i := by
  unfold nth
  rw [List.getD_eq_getElem?_getD, List.getD_eq_getElem?_getD, List.getElem?_set]
  split
  · rename_i h; subst h; rw [if_pos rfl]; rfl
  · rename_i h; rw [if_neg (fun e => h e.symm)]
theorem OnK.step {w wd w' : World} {v : Value} {B e : Int} {f l o : List Int} {k : Nat} (h : OnK w wd v B f l o k) (hk : k < f.length) (he : e = onE B (nth f k) (nth l k)) (hr : OwN w.heap.size w' v (o.set k e)) (hb : Below w.heap.size w w') : OnK w w' v B f l (o.set k e) (k + 1) := by
  have hko : k < o.length := by rw [h.ln]; exact hk
  refine ⟨by rw [List.length_set]; exact h.ln, hr, fun i hi => ?_, fun i hi => ?_, hb⟩
  · rw [nth_set hko]
    split
    · rename_i e; rw [e]; exact he
    · exact h.lo i (by omega)
  · rw [nth_set hko, if_neg (by omega)]; exact h.hi i (by omega)
set_option maxRecDepth 100000 in
set_option maxHeartbeats 4000000 in
theorem onward_walk {w : World} {p : Pn} {ov fv bv : Value} {f l : List Int} (hov : ∃ a n c, ov = .slice a n c) (hf : Nv w fv f) (hl : Nv w bv l) (hfm : ∀ v ∈ f, 0 ≤ v ∧ v ≤ 256) (hf4 : f.length ≤ 4) (hB0 : 0 ≤ p.B) (hB1 : p.B ≤ 16) :
    Calls Try.prog 10 #[.agg #[.int .i64 p.P, .int .i64 p.S, .int .i64 p.W, ov, .int .i64 p.A, .int .i64 p.B, .int .i64 p.N, .int .i64 p.G], fv, bv] w fun e w' => ∃ v, e = .returned v ∧ OwN w.heap.size w' v (onw p.B f l) ∧ Below w.heap.size w w' := by
  obtain ⟨oa, on, oc, rfl⟩ := hov
  obtain ⟨w0, hw0⟩ : ∃ w0, w0 = w.alloc (Obj.cells #[.int .i64 p.P, .int .i64 p.S, .int .i64 p.W, .slice oa on oc, .int .i64 p.A, .int .i64 p.B, .int .i64 p.N, .int .i64 p.G] 24) := ⟨_, rfl⟩
  have hb0 : Below w.heap.size w w0 := by rw [hw0]; exact below_alloc _ _
  have HB0 : Hid (Below w.heap.size w w0) := hb0
  have HBX : Hid (w0.heap[w.heap.size]? = some (.cells #[.int .i64 p.P, .int .i64 p.S, .int .i64 p.W, .slice oa on oc, .int .i64 p.A, .int .i64 p.B, .int .i64 p.N, .int .i64 p.G] 24 (0, 0))) := by show _ = _; rw [hw0]; exact alloc_at rfl
  have HW0 : Hid (w0 = w.alloc (Obj.cells #[.int .i64 p.P, .int .i64 p.S, .int .i64 p.W, .slice oa on oc, .int .i64 p.A, .int .i64 p.B, .int .i64 p.N, .int .i64 p.G] 24)) := hw0
  have HF : Hid (Nv w0 fv f) := hf.below hb0
  have HL : Hid (Nv w bv l) := hl
  have HFM : Hid (∀ v ∈ f, 0 ≤ v ∧ v ≤ 256) := hfm
  have HF4 : Hid (f.length ≤ 4) := hf4
  have HPB : Hid (0 ≤ p.B ∧ p.B ≤ 16) := ⟨hB0, hB1⟩
  obtain ⟨fa, fc, rfl, _⟩ := hf.form
  obtain ⟨ba, bc, rfl, hbl, _⟩ := hl.form
  clear hf hl hfm hf4 hB0 hB1 hw0 hb0
  go_enter Try.func10, Try.ntmps10
  go_upto_region 1 with fail
  rw [← HW0.out]
  go_wp2_with (at_builtin; refine wl_app2 (by rfl) _ _ (by rfl) Try.underlying25 info_int w0 rfl (by rfl) _ f (by rfl) HF.out HF4.out ?_; intro v1 w1 ho1 hb1; obtain ⟨ga, gc, rfl, _, _⟩ := own_formY ho1; go_frame)
  have HK1 : Hid (OnK w w1 (.slice ga f.length gc) p.B f l f 0) := ⟨rfl, own_base ho1 HB0.out.size, fun i hi => by omega, fun i _ => rfl, HB0.out.trans (hb1.mono HB0.out.size)⟩
  have HPX : Hid (w1.heap[w.heap.size]? = some (.cells #[.int .i64 p.P, .int .i64 p.S, .int .i64 p.W, .slice oa on oc, .int .i64 p.A, .int .i64 p.B, .int .i64 p.N, .int .i64 p.G] 24 (0, 0)) ∧ ∀ x, (Value.slice ga f.length gc).ownBlock = some x → x ≠ w.heap.size) := ⟨blk_below HBX.out hb1, fun x hx e => by have h1 := (ho1.lt x hx).1; have h2 := blk_lt HBX.out; omega⟩
  have hlm : (f.length : Int) ≤ 9223372036854775807 := by have := HF4.out; omega
  clear ho1 hb1
  go_loopw [8] (fun iv wr => ∃ (k : Nat) (o : List Int), k ≤ f.length ∧ k ≤ l.length ∧ iv = .int .i64 k ∧ OnK w wr (.slice ga f.length gc) p.B f l o k ∧ wr.heap[w.heap.size]? = w1.heap[w.heap.size]?) (fun iv _ => f.length - (intOf iv).toNat)
  case atStart => exact ⟨0, f, Nat.zero_le _, Nat.zero_le _, rfl, HK1.out, rfl⟩
  case round =>
    obtain ⟨k, o, hkf, hkl, rfl, hK, hPk⟩ := hrel
    have HK : Hid (OnK w wr (.slice ga f.length gc) p.B f l o k) := hK
    have HPK : Hid (wr.heap[w.heap.size]? = w1.heap[w.heap.size]?) := hPk
    by_cases hlt : k < f.length
    rotate_left
    · have hnl : ¬ ((k : Int) < (f.length : Int)) := by omega
      have HEND : Hid (o = onw p.B f l) := nth_ext (by rw [hK.ln, onw_len]) (fun i hi => by
        rw [hK.ln] at hi
        rw [onw_nth p.B f l i hi, if_pos (by omega), hK.lo i (by omega)])
      clear hK hPk
      go_wp2_with fail
      go_ret
      exact ⟨_, rfl, by rw [← HEND.out]; exact HK.out.row, HK.out.bel⟩
    have hlti : (k : Int) < (f.length : Int) := by omega
    by_cases hll : k < l.length
    rotate_left
    · have hnl : ¬ ((k : Int) < (l.length : Int)) := by omega
      have HEND : Hid (o = onw p.B f l) := nth_ext (by rw [hK.ln, onw_len]) (fun i hi => by
        rw [hK.ln] at hi
        rw [onw_nth p.B f l i hi]
        split
        · rw [hK.lo i (by omega)]
        · rw [hK.hi i (by omega)])
      clear hK hPk
      go_wp2_with fail
      go_ret
      exact ⟨_, rfl, by rw [← HEND.out]; exact HK.out.row, HK.out.bel⟩
    have hltl : (k : Int) < (l.length : Int) := by omega
    obtain ⟨wd, hwd⟩ : ∃ wd, wd = wr.drew := ⟨_, rfl⟩
    have HWD : Hid (wd = wr.drew) := hwd
    have hbd : Below wr.heap.size wr wd := by rw [hwd]; exact below_drewN wr 1
    have hKd : OnK w wd (.slice ga f.length gc) p.B f l o k := ⟨hK.ln, own_below hK.row hbd, hK.lo, hK.hi, hK.bel.trans (hbd.mono hK.bel.size)⟩
    have hPd : wd.heap[w.heap.size]? = w1.heap[w.heap.size]? := by rw [hwd]; exact hPk
    have HKD : Hid (OnK w wd (.slice ga f.length gc) p.B f l o k) := hKd
    obtain ⟨g, cap, e1, _, _, hgb, hgl⟩ := row_formY hKd.row (by rw [hKd.ln]; omega)
    rw [hKd.ln] at e1
    cases e1
    obtain ⟨x, hx⟩ : ∃ x, x = nth f k := ⟨_, rfl⟩
    have hox : nth o k = x := by rw [hKd.hi k (Nat.le_refl _), hx]
    have hx0 : 0 ≤ x ∧ x ≤ 256 := by rw [hx]; exact nth_of HFM.out hlt
    obtain ⟨b, hb⟩ : ∃ b, b = nth l k := ⟨_, rfl⟩
    obtain ⟨bb, boff, rfl, hbc⟩ := (HL.out.below hKd.bel).at hll
    rw [← hb] at hbc
    have hko : k < o.length := by rw [hKd.ln]; exact hlt
    have hrw0 : wd.ownsRow w.heap.size 3 1 (.slice (some ⟨g, 0, none⟩) f.length gc) f.length (cellsN o) := by have := hKd.row; unfold OwN at this; rw [hKd.ln] at this; exact this
    have hoc := own_cellY (j := k) (u := .int .i64 x) hrw0 (by unfold cellsN; rw [List.getElem?_map, List.getElem?_eq_getElem hko]; have := nth_at hko; rw [← this, hox]; rfl)
    have c0 := hoc.1
    have z0 := hoc.2
    obtain ⟨r, hr⟩ : ∃ r, r = onR p.B b := ⟨_, rfl⟩
    have hr0 : 0 ≤ r ∧ r ≤ p.B := by rw [hr]; exact onR_le HPB.out.1
    have hpb := HPB.out
    have hwb : IntKind.i64.wrap (p.B + 1) = p.B + 1 := by rw [IntKind.wrap_i64]; omega
    have hub : IntKind.u64.wrap (p.B + 1) = p.B + 1 := by rw [IntKind.wrap_u64]; omega
    have hB0 : ¬ p.B + 1 = 0 := by omega
    have hrw : IntKind.i64.wrap ((IntKind.u64.wrap b).tmod (p.B + 1)) = r := by
      have e : (IntKind.u64.wrap b).tmod (p.B + 1) = r := by rw [hr]; rfl
      rw [e, IntKind.wrap_i64]; omega
    have hsw : IntKind.i64.wrap (x + r) = x + r := by rw [IntKind.wrap_i64]; omega
    have HS0 : Hid (OnS w.heap.size bb (boff + k) p.B b wd) := ⟨by rw [blk_cell (hPd.trans HPX.out.1)]; rfl, hbc⟩
    have q5 : ∀ wx, OnS w.heap.size bb (boff + k) p.B b wx → wx.cell? ⟨w.heap.size, 5, none⟩ = some (.int .i64 p.B) := fun _ h => h.1
    have qb : ∀ wx, OnS w.heap.size bb (boff + k) p.B b wx → wx.cell? ⟨bb, boff + k, none⟩ = some (.int .i64 b) := fun _ h => h.2
    have HGP : Hid (g ≠ w.heap.size) := HPX.out.2 g rfl
    have hbbl : bb < w.heap.size := by
      have := HL.out.at hll
      obtain ⟨b2, o2, e2, c2⟩ := this
      cases e2
      exact cell_lt c2
    have HGB : Hid (g ≠ bb) := by show _ ≠ _; omega
    obtain ⟨w5, hw5⟩ : ∃ w5, w5 = wd.setCell ⟨g, k, none⟩ (.int .i64 (x + r)) := ⟨_, rfl⟩
    have hrow5 : OwN w.heap.size w5 (.slice (some ⟨g, 0, none⟩) f.length gc) (o.set k (x + r)) := by rw [hw5]; exact own_setN (x + r) hKd.row hKd.ln.symm
    have hc5 : Ch (fun y => y = g) wd w5 := by rw [hw5]; exact ch_set _ _ _ _
    have hrw5 : w5.ownsRow w.heap.size 3 1 (.slice (some ⟨g, 0, none⟩) f.length gc) f.length (cellsN (o.set k (x + r))) := by have := hrow5; unfold OwN at this; rw [List.length_set, hKd.ln] at this; exact this
    have hoc5 := own_cellY (j := k) (u := .int .i64 (x + r)) hrw5 (by unfold cellsN; rw [List.getElem?_map, List.getElem?_set_self hko]; rfl)
    have HW5 : Hid (w5 = wd.setCell ⟨g, k, none⟩ (.int .i64 (x + r))) := hw5
    have HROW5 : Hid (OwN w.heap.size w5 (.slice (some ⟨g, 0, none⟩) f.length gc) (o.set k (x + r))) := hrow5
    have HC5 : Hid (Ch (fun y => y = g) wd w5) := hc5
    have hB5 : Below w.heap.size w w5 := hKd.bel.trans (hc5.to_below hKd.bel.size (fun y hy => by rw [hy]; exact hgb))
    have HB5 : Hid (Below w.heap.size w w5) := hB5
    have hP5 : w5.heap[w.heap.size]? = w1.heap[w.heap.size]? := (hc5.block _ (blk_lt (hPd.trans HPX.out.1)) (fun e => HGP.out e.symm)).trans hPd
    have HP5 : Hid (w5.heap[w.heap.size]? = w1.heap[w.heap.size]?) := hP5
    have HS5 : Hid (OnS w.heap.size bb (boff + k) p.B b w5) := ⟨by rw [blk_cell (hP5.trans HPX.out.1)]; rfl, by
      obtain ⟨b2, o2, e2, c2⟩ := (HL.out.below hB5).at hll
      cases e2
      rw [hb]; exact c2⟩
    clear hB5 hP5
    have d0 := hoc5.1
    have y0 := hoc5.2
    have HR : Hid (r = onR p.B b) := hr
    have HX : Hid (x = nth f k) := hx
    have HBB : Hid (b = nth l k) := hb
    have HGb : Hid (w.heap.size ≤ g) := hgb
    have HKO : Hid (k < o.length) := hko
    clear hK hPk hKd hPd hbd hwd hox hoc hoc5 hrw0 hrw5 hr hx hb hw5 hrow5 hc5 hpb hbc hbbl hgb hgl
    go_upto_region 5 with fail
    refine wp_region_noPanic ?_
    refine wp_region_held_drew (S := (fun wx => OnS w.heap.size bb (boff + k) p.B b wx)) (by kernel_rfl) ?_ (fun hHeld => ?_)
    · exact (by rw [← HWD.out]; exact HS0.out)
    rw [← HWD.out] at hHeld ⊢
    refine wpAnyH_take (i := 0) (oi := ⟨some 24, _, _, _, _, _⟩) (v := ?_) rfl (by kernel_rfl) (by kernel_rfl) (by kernel_rfl) (fun _ _ _ h => h) (Or.inl ⟨by rfl, ?_⟩) hHeld ?_
    rotate_left
    · intro w hSw; (try dsimp only at hSw); go_simp; all_goals (with_reducible rfl)
    try simp only [Act.put, List.setIfInBounds_toArray, List.set_cons_zero, List.set_cons_succ]
    refine wpAnyH_take (i := 1) (oi := ⟨some 25, _, _, _, _, _⟩) (v := ?_) rfl (by kernel_rfl) (by kernel_rfl) (by kernel_rfl) (fun _ _ _ h => h) (Or.inl ⟨by rfl, ?_⟩) hHeld ?_
    rotate_left
    · intro w hSw; (try dsimp only at hSw); go_simp; all_goals (with_reducible rfl)
    try simp only [Act.put, List.setIfInBounds_toArray, List.set_cons_zero, List.set_cons_succ]
    refine wpAnyH_take (i := 2) (oi := ⟨some 26, _, _, _, _, _⟩) (v := ?_) rfl (by kernel_rfl) (by kernel_rfl) (by kernel_rfl) (fun _ _ _ h => h) (Or.inl ⟨by rfl, ?_⟩) hHeld ?_
    rotate_left
    · intro w hSw; (try dsimp only at hSw); go_simp; all_goals (with_reducible rfl)
    try simp only [Act.put, List.setIfInBounds_toArray, List.set_cons_zero, List.set_cons_succ]
    refine wpAnyH_take (i := 4) (oi := ⟨some 28, _, _, _, _, _⟩) (v := ?_) rfl (by kernel_rfl) (by kernel_rfl) (by kernel_rfl) (fun _ _ _ h => h) (Or.inl ⟨by rfl, ?_⟩) hHeld ?_
    rotate_left
    · intro w hSw; (try dsimp only at hSw); go_simp; all_goals (with_reducible rfl)
    try simp only [Act.put, List.setIfInBounds_toArray, List.set_cons_zero, List.set_cons_succ]
    refine wpAnyH_take (i := 5) (oi := ⟨some 29, _, _, _, _, _⟩) (v := ?_) rfl (by kernel_rfl) (by kernel_rfl) (by kernel_rfl) (fun _ _ _ h => h) (Or.inl ⟨by rfl, ?_⟩) hHeld ?_
    rotate_left
    · intro w hSw; (try dsimp only at hSw); go_simp; all_goals (with_reducible rfl)
    try simp only [Act.put, List.setIfInBounds_toArray, List.set_cons_zero, List.set_cons_succ]
    refine wpAnyH_take (i := 6) (oi := ⟨some 30, _, _, _, _, _⟩) (v := ?_) rfl (by kernel_rfl) (by kernel_rfl) (by kernel_rfl) (fun _ _ _ h => h) (Or.inl ⟨by rfl, ?_⟩) hHeld ?_
    rotate_left
    · intro w hSw; (try dsimp only at hSw); go_simp; all_goals (with_reducible rfl)
    try simp only [Act.put, List.setIfInBounds_toArray, List.set_cons_zero, List.set_cons_succ]
    refine wpAnyH_take (i := 7) (oi := ⟨some 31, _, _, _, _, _⟩) (v := ?_) rfl (by kernel_rfl) (by kernel_rfl) (by kernel_rfl) (fun _ _ _ h => h) (Or.inl ⟨by rfl, ?_⟩) hHeld ?_
    rotate_left
    · intro w hSw; (try dsimp only at hSw); go_simp; all_goals (with_reducible rfl)
    try simp only [Act.put, List.setIfInBounds_toArray, List.set_cons_zero, List.set_cons_succ]
    refine wpAnyH_take (i := 8) (oi := ⟨some 32, _, _, _, _, _⟩) (v := ?_) rfl (by kernel_rfl) (by kernel_rfl) (by kernel_rfl) (fun _ _ _ h => h) (Or.inl ⟨by rfl, ?_⟩) hHeld ?_
    rotate_left
    · intro w hSw; (try dsimp only at hSw); go_simp; all_goals (with_reducible rfl)
    try simp only [Act.put, List.setIfInBounds_toArray, List.set_cons_zero, List.set_cons_succ]
    refine wpAnyH_take (i := 9) (oi := ⟨some 33, _, _, _, _, _⟩) (v := ?_) rfl (by kernel_rfl) (by kernel_rfl) (by kernel_rfl) (fun _ _ _ h => h) (Or.inl ⟨by rfl, ?_⟩) hHeld ?_
    rotate_left
    · intro w hSw; (try dsimp only at hSw); go_simp; all_goals (with_reducible rfl)
    try simp only [Act.put, List.setIfInBounds_toArray, List.set_cons_zero, List.set_cons_succ]
    refine wpAnyH_take (i := 10) (oi := ⟨some 34, _, _, _, _, _⟩) (v := ?_) rfl (by kernel_rfl) (by kernel_rfl) (by kernel_rfl) (fun _ _ _ h => h) (Or.inl ⟨by rfl, ?_⟩) hHeld ?_
    rotate_left
    · intro w hSw; (try dsimp only at hSw); go_simp; all_goals (with_reducible rfl)
    try simp only [Act.put, List.setIfInBounds_toArray, List.set_cons_zero, List.set_cons_succ]
    refine wpAnyH_take (i := 11) (oi := ⟨some 35, _, _, _, _, _⟩) (v := ?_) rfl (by kernel_rfl) (by kernel_rfl) (by kernel_rfl) (fun _ _ _ h => h) (Or.inl ⟨by rfl, ?_⟩) hHeld ?_
    rotate_left
    · intro w hSw; (try dsimp only at hSw); go_simp; all_goals (with_reducible rfl)
    try simp only [Act.put, List.setIfInBounds_toArray, List.set_cons_zero, List.set_cons_succ]
    refine wpAnyH_take (i := 12) (oi := ⟨some 36, _, _, _, _, _⟩) (v := ?_) rfl (by kernel_rfl) (by kernel_rfl) (by kernel_rfl) (fun _ _ _ h => h) (Or.inl ⟨by rfl, ?_⟩) hHeld ?_
    rotate_left
    · intro w hSw; (try dsimp only at hSw); go_simp; all_goals (with_reducible rfl)
    try simp only [Act.put, List.setIfInBounds_toArray, List.set_cons_zero, List.set_cons_succ]
    refine wpAnyH_take (i := 13) (oi := ⟨some 37, _, _, _, _, _⟩) (v := ?_) rfl (by kernel_rfl) (by kernel_rfl) (by kernel_rfl) (fun _ _ _ h => h) (Or.inl ⟨by rfl, ?_⟩) hHeld ?_
    rotate_left
    · intro w hSw; (try dsimp only at hSw); go_simp; all_goals (with_reducible rfl)
    try simp only [Act.put, List.setIfInBounds_toArray, List.set_cons_zero, List.set_cons_succ]
    refine wpAnyH_take (i := 14) (oi := ⟨some 38, _, _, _, _, _⟩) (v := ?_) rfl (by kernel_rfl) (by kernel_rfl) (by kernel_rfl) (fun _ _ _ h => h) (Or.inl ⟨by rfl, ?_⟩) hHeld ?_
    rotate_left
    · intro w hSw; (try dsimp only at hSw); go_simp; all_goals (with_reducible rfl)
    try simp only [Act.put, List.setIfInBounds_toArray, List.set_cons_zero, List.set_cons_succ]
    refine wpAnyH_ready (rs := [3]) (by kernel_rfl) (by simp) ?_
    refine AllReadyH.cons (o := ⟨some 27, _, _, _, _, _⟩) rfl (fun K hK => ?_) AllReadyH.nil
    go_simp
    refine hK.out _ _ ?_ (fun hHeld => ?_)
    · exact HS0.out
    clear hK K
    try simp only [Act.put, List.setIfInBounds_toArray, List.set_cons_zero, List.set_cons_succ]
    refine wpAnyH_take (i := 15) (oi := ⟨some 39, _, _, _, _, _⟩) (v := ?_) rfl (by kernel_rfl) (by kernel_rfl) (by kernel_rfl) (fun _ _ _ h => h) (Or.inl ⟨by rfl, ?_⟩) hHeld ?_
    rotate_left
    · intro w hSw; (try dsimp only at hSw); go_simp; all_goals (with_reducible rfl)
    try simp only [Act.put, List.setIfInBounds_toArray, List.set_cons_zero, List.set_cons_succ]
    refine wpAnyH_take (i := 16) (oi := ⟨some 40, _, _, _, _, _⟩) (v := ?_) rfl (by kernel_rfl) (by kernel_rfl) (by kernel_rfl) (fun _ _ _ h => h) (Or.inl ⟨by rfl, ?_⟩) hHeld ?_
    rotate_left
    · intro w hSw; (try dsimp only at hSw); go_simp; all_goals (with_reducible rfl)
    try simp only [Act.put, List.setIfInBounds_toArray, List.set_cons_zero, List.set_cons_succ]
    refine wpAnyH_ready (rs := [17]) (by kernel_rfl) (by simp) ?_
    refine AllReadyH.cons (o := ⟨none, _, _, _, _, _⟩) rfl (fun K hK => ?_) AllReadyH.nil
    go_simp
    rw [← HW5.out]
    refine hK.out _ _ ?_ (fun hHeld => ?_)
    · exact HS5.out
    clear hK K
    try simp only [Act.put, List.setIfInBounds_toArray, List.set_cons_zero, List.set_cons_succ]
    refine wpAnyH_done (by kernel_rfl) ?_ _
    refine NoPanic.normal ?_
    clear q5 qb c0 z0 HS0 HS5
    by_cases hbig : x + r > 256
    · go_wp2_with fail
      have hr6 : OwN w.heap.size (w5.setCell ⟨g, k, none⟩ (.int .i64 256)) (.slice (some ⟨g, 0, none⟩) f.length gc) (o.set k 256) := by
        have h9 := own_setN (k := k) 256 HROW5.out (by rw [List.length_set, HKD.out.ln])
        rw [List.set_set] at h9; exact h9
      have hc6 := ch_set w5 g k (.int .i64 256)
      refine ⟨⟨k + 1, o.set k 256, by omega, by omega, rfl, HKD.out.step hlt ?_ hr6 (HB5.out.trans (hc6.to_below HB5.out.size (fun y hy => by rw [hy]; exact HGb.out))), ?_⟩, ?_⟩
      · unfold onE; rw [← HX.out, ← HBB.out, ← HR.out, if_pos (by omega)]
      · exact (hc6.block _ (blk_lt (HP5.out.trans HPX.out.1)) (fun e => HGP.out e.symm)).trans HP5.out
      · show f.length - ((k : Int) + 1).toNat < f.length - (k : Int).toNat
        omega
    · go_wp2_with fail
      refine ⟨⟨k + 1, o.set k (x + r), by omega, by omega, rfl, HKD.out.step hlt ?_ HROW5.out HB5.out, HP5.out⟩, ?_⟩
      · unfold onE; rw [← HX.out, ← HBB.out, ← HR.out, if_neg (by omega)]
      · show f.length - ((k : Int) + 1).toNat < f.length - (k : Int).toNat
        omega
end Go.Proofs.Ytpndafieknddcaa

namespace Go.Proofs.Ytpndafieknddcaa

open Ieee Go.RowKit



/-- A try's numbers. -/
structure Yg (p : Pn) (a : Int) (y : Yt) : Prop where
  a1 : 1 ≤ y.a
  a2 : y.a ≤ a
  n : y.n = (p0 p).worker y.a
/-- Tries one behind the other, from batch b on, from the ends f on; s: whether the first is the first of all. -/
def Chn (p : Pn) (a : Int) : Bool → Int → List Int → List Yt → Prop
  | _, _, _, [] => True
  | s, b, f, y :: t => Yg p a y ∧ y.b = b ∧ y.f = f ∧ ((y.h = 1 ∧ y.e = [] ∧ t = []) ∨ (y.h = (if s = true then 3 else 2) ∧ Fwd f y.e ∧ f ≠ y.e ∧ Chn p a false (b + 1) y.e t))
section

variable {p : Pn} {a a' b : Int} {s : Bool} {f e : List Int} {L : List Yt} {y : Yt} {i : Nat}

theorem Chn.mono (h : Chn p a s b f L) (ha : a ≤ a') : Chn p a' s b f L := by
  induction L generalizing s b f with
  | nil => trivial
  | cons y t ih =>
    obtain ⟨h1, h2, h3, h4⟩ := h
    refine ⟨⟨h1.a1, by have := h1.a2; omega, h1.n⟩, h2, h3, ?_⟩
    rcases h4 with h4 | ⟨h5, h6, h7, h8⟩
    · exact .inl h4
    · exact .inr ⟨h5, h6, h7, ih h8⟩
theorem age_same (y : Yt) : (ageY y).b = y.b ∧ (ageY y).a = y.a ∧ (ageY y).n = y.n ∧ (ageY y).h = y.h ∧ (ageY y).f = y.f ∧ (ageY y).e = y.e ∧ y.t ≤ (ageY y).t ∧ (ageY y).t ≤ y.t + 1 := by
  unfold ageY
  split
  · exact ⟨rfl, rfl, rfl, rfl, rfl, rfl, by show y.t ≤ y.t + 1; omega, by show y.t + 1 ≤ y.t + 1; omega⟩
  · exact ⟨rfl, rfl, rfl, rfl, rfl, rfl, by omega, by omega⟩
theorem Chn.age (h : Chn p a s b f L) : Chn p a s b f (L.map ageY) := by
  induction L generalizing s b f with
  | nil => trivial
  | cons y t ih =>
    obtain ⟨h1, h2, h3, h4⟩ := h
    obtain ⟨e1, e2, e3, e4, e5, e6, _, _⟩ := age_same y
    refine ⟨⟨by rw [e2]; exact h1.a1, by rw [e2]; exact h1.a2, by rw [e3, e2]; exact h1.n⟩, by rw [e1]; exact h2, by rw [e5]; exact h3, ?_⟩
    rw [e4, e6]
    rcases h4 with ⟨h5, h6, h7⟩ | ⟨h5, h6, h7, h8⟩
    · exact .inl ⟨h5, h6, by rw [h7]; rfl⟩
    · exact .inr ⟨h5, h6, h7, ih h8⟩
theorem Chn.take (h : Chn p a s b f L) (k : Nat) : Chn p a s b f (L.take k) := by
  induction L generalizing s b f k with
  | nil => simp [Chn]
  | cons y t ih =>
    cases k with
    | zero => trivial
    | succ k =>
      obtain ⟨h1, h2, h3, h4⟩ := h
      refine ⟨h1, h2, h3, ?_⟩
      rcases h4 with ⟨h5, h6, h7⟩ | ⟨h5, h6, h7, h8⟩
      · exact .inl ⟨h5, h6, by rw [h7]; simp⟩
      · exact .inr ⟨h5, h6, h7, ih h8 k⟩
theorem Chn.app (h : Chn p a s b f L) (hl : (L.getLast?.map Yt.h).getD 0 ≠ 1) (hy : Yg p a y) (hb : y.b = b + L.length) (hf : y.f = (L.getLast?.map Yt.e).getD f) (hh : y.h = 1) (he : y.e = []) : Chn p a s b f (L ++ [y]) := by
  induction L generalizing s b f with
  | nil => exact ⟨hy, by simpa using hb, by simpa using hf, .inl ⟨hh, he, rfl⟩⟩
  | cons z t ih =>
    obtain ⟨h1, h2, h3, h4⟩ := h
    refine ⟨h1, h2, h3, ?_⟩
    rcases h4 with ⟨h5, h6, h7⟩ | ⟨h5, h6, h7, h8⟩
    · subst h7
      exact absurd (by simpa using h5) hl
    · refine .inr ⟨h5, h6, h7, ih h8 ?_ (by rw [hb]; simp; omega) ?_⟩
      · cases t with
        | nil => simp
        | cons z2 t2 => rw [List.getLast?_cons_cons] at hl; exact hl
      · cases t with
        | nil => simpa using hf
        | cons z2 t2 => rw [List.getLast?_cons_cons] at hf; rw [hf]; simp [List.getLast?_cons]
theorem Chn.last1 (h : Chn p a s b f L) (hi : i < L.length) (h1 : L[i].h = 1) : i + 1 = L.length := by
  induction L generalizing s b f i with
  | nil => simp at hi
  | cons y t ih =>
    obtain ⟨_, _, _, h4⟩ := h
    cases i with
    | zero =>
      rcases h4 with ⟨_, _, h7⟩ | ⟨h5, _⟩
      · rw [h7]; rfl
      · have : y.h = 1 := h1
        rw [this] at h5; split at h5 <;> omega
    | succ j =>
      rcases h4 with ⟨_, _, h7⟩ | ⟨_, _, _, h8⟩
      · subst h7; simp at hi
      · have := ih h8 (i := j) (by simpa using hi) (by simpa using h1)
        simp; omega
theorem Chn.setF (h : Chn p a false b f L) (hi : i < L.length) (h1 : L[i].h = 1) (hF : Fwd L[i].f e) (hne : L[i].f ≠ e) : Chn p a false b f (L.set i (rdyY L[i] e)) := by
  induction L generalizing b f i with
  | nil => simp at hi
  | cons y t ih =>
    obtain ⟨h2, h3, h4, h5⟩ := h
    cases i with
    | zero =>
      have h1' : y.h = 1 := h1
      have hF' : Fwd y.f e := hF
      have hne' : y.f ≠ e := hne
      rcases h5 with ⟨_, _, h7⟩ | ⟨h5, _⟩
      · subst h7
        exact ⟨⟨h2.a1, h2.a2, h2.n⟩, h3, h4, .inr ⟨rfl, by rw [← h4]; exact hF', by rw [← h4]; exact hne', trivial⟩⟩
      · rw [h1'] at h5; simp at h5
    | succ j =>
      rcases h5 with ⟨_, _, h7⟩ | ⟨h5, h6, h7, h8⟩
      · subst h7; simp at hi
      · exact ⟨h2, h3, h4, .inr ⟨h5, h6, h7, ih h8 (i := j) (by simpa using hi) (by simpa using h1) (by simpa using hF) (by simpa using hne)⟩⟩
theorem Chn.ready (h : Chn p a true b f L) (hi : i < L.length) (h1 : L[i].h = 1) (hF : Fwd L[i].f e) (hne : L[i].f ≠ e) : Chn p a true b f (advL (L.set i (rdyY L[i] e))) := by
  cases L with
  | nil => simp at hi
  | cons y t =>
    obtain ⟨h2, h3, h4, h5⟩ := h
    cases i with
    | zero =>
      have h1' : y.h = 1 := h1
      have hF' : Fwd y.f e := hF
      have hne' : y.f ≠ e := hne
      rcases h5 with ⟨_, _, h7⟩ | ⟨h5, _⟩
      · subst h7
        exact ⟨⟨h2.a1, h2.a2, h2.n⟩, h3, h4, .inr ⟨rfl, by rw [← h4]; exact hF', by rw [← h4]; exact hne', trivial⟩⟩
      · rw [h1'] at h5; simp at h5
    | succ j =>
      rcases h5 with ⟨_, _, h7⟩ | ⟨h5, h6, h7, h8⟩
      · subst h7; simp at hi
      · have hp : ¬ inPh [2] y = true := by
          have : y.h = 3 := by simpa using h5
          unfold inPh; rw [this]; decide
        rw [List.set_cons_succ, advL, if_neg hp]
        exact ⟨h2, h3, h4, .inr ⟨h5, h6, h7, h8.setF (i := j) (by simpa using hi) (by simpa using h1) (by simpa using hF) (by simpa using hne)⟩⟩
theorem Chn.commit {t : List Yt} (h : Chn p a true b f (y :: t)) (h3 : y.h = 3) : Fwd f y.e ∧ Chn p a true (b + 1) y.e (advL t) := by
  obtain ⟨_, _, _, h5⟩ := h
  rcases h5 with ⟨h6, _⟩ | ⟨_, h6, _, h8⟩
  · omega
  refine ⟨h6, ?_⟩
  cases t with
  | nil => trivial
  | cons z t =>
    obtain ⟨k1, k2, k3, k4⟩ := h8
    by_cases hp : inPh [2] z = true
    · rw [advL, if_pos hp]
      have hz : z.h = 2 := by unfold inPh at hp; simpa using hp
      rcases k4 with ⟨k5, _⟩ | ⟨k5, k6, k7, k8⟩
      · omega
      · exact ⟨⟨k1.a1, k1.a2, k1.n⟩, k2, k3, .inr ⟨rfl, k6, k7, k8⟩⟩
    · rw [advL, if_neg hp]
      have hz : z.h ≠ 2 := by unfold inPh at hp; simpa using hp
      rcases k4 with ⟨k5, k6, k7⟩ | ⟨k5, _⟩
      · exact ⟨k1, k2, k3, .inl ⟨k5, k6, k7⟩⟩
      · exact absurd (by simpa using k5) hz
theorem Chn.len (h : Chn p a s b f L) : ∀ y ∈ L, y.f.length = f.length ∧ Yg p a y ∧ b ≤ y.b ∧ y.b < b + L.length ∧ (y.e = [] ∨ (Fwd y.f y.e ∧ y.e.length = f.length)) := by
  induction L generalizing s b f with
  | nil => intro y hy; cases hy
  | cons z t ih =>
    obtain ⟨h1, h2, h3, h4⟩ := h
    intro y hy
    rcases List.mem_cons.1 hy with rfl | hy
    · refine ⟨by rw [h3], h1, by omega, by simp; omega, ?_⟩
      rcases h4 with ⟨_, h6, _⟩ | ⟨_, h6, _, _⟩
      · exact .inl h6
      · exact .inr ⟨by rw [h3]; exact h6, h6.1.symm⟩
    · rcases h4 with ⟨_, _, h7⟩ | ⟨_, h6, _, h8⟩
      · subst h7; cases hy
      · obtain ⟨k1, k2, k3, k4, k5⟩ := ih h8 y hy
        refine ⟨by rw [k1, ← h6.1], k2, by omega, by simp; omega, ?_⟩
        rcases k5 with k5 | ⟨k5, k6⟩
        · exact .inl k5
        · exact .inr ⟨k5, by rw [k6, ← h6.1]⟩
def Tkb (G : Int) (L : List Yt) : Prop := ∀ y ∈ L, 0 ≤ y.t ∧ y.t < G
theorem Tkb.adv {G : Int} (h : Tkb G L) (hG : 0 < G) : Tkb G (advL L) := by
  cases L with
  | nil => exact h
  | cons z t =>
    intro y hy
    rw [advL] at hy
    split at hy
    · rcases List.mem_cons.1 hy with rfl | hy
      · exact ⟨by show (0 : Int) ≤ 0; omega, by show (0 : Int) < G; omega⟩
      · exact h y (List.mem_cons_of_mem _ hy)
    · exact h y hy
theorem Tkb.set {G : Int} (h : Tkb G L) (i : Nat) (hy : 0 ≤ y.t ∧ y.t < G) : Tkb G (L.set i y) := fun z hz => by
  rcases List.mem_or_eq_of_mem_set hz with hz | hz
  · exact h z hz
  · rw [hz]; exact hy
theorem Tkb.take {G : Int} (h : Tkb G L) (k : Nat) : Tkb G (L.take k) := fun z hz => h z (List.mem_of_mem_take hz)
theorem Tkb.drop {G : Int} (h : Tkb G L) (k : Nat) : Tkb G (L.drop k) := fun z hz => h z (List.mem_of_mem_drop hz)
theorem cut_le (G : Int) (L : List Yt) : ∃ k, cutO G L = L.take k := by
  unfold cutO
  split
  · exact ⟨L.length, by simp⟩
  · exact ⟨_, rfl⟩
theorem Tkb.tick {G : Int} (h : Tkb G L) : Tkb G (cutO G (L.map ageY)) := by
  have h0 : ∀ y ∈ L.map ageY, 0 ≤ y.t := fun y hy => by
    obtain ⟨z, hz, rfl⟩ := List.mem_map.1 hy
    have := h z hz
    have := (age_same z).2.2.2.2.2.2.1
    omega
  unfold cutO
  rcases idxY_cases (overD G) (L.map ageY) 0 with ⟨h1, h2⟩ | ⟨i, hi, h1, h2, h3⟩
  · rw [h1, if_pos (by omega)]
    intro y hy
    have := h2 y hy
    unfold overD at this
    exact ⟨h0 y hy, by have := of_decide_eq_false this; omega⟩
  · rw [h1, if_neg (by omega)]
    intro y hy
    obtain ⟨j, hj, rfl⟩ := List.getElem_of_mem hy
    have hj' : j < i := by rw [List.length_take] at hj; omega
    have := h3 j hj'
    unfold overD at this
    rw [List.getElem_take]
    exact ⟨h0 _ (List.getElem_mem _), by have := of_decide_eq_false this; omega⟩
end



/-- What holds behind i acts. -/
structure Ai (p : Pn) (i : Nat) (c : Cs) : Prop where
  pl : c.p = p0 p
  gd : ∃ S0, Gd p.P c.J S0 ∧ (c.S = S0 ∨ c.S = cutS S0 0)
  o : c.o = false
  rd : c.S.rd ≤ 2 + 2 * i
  wr : c.S.wr ≤ 2 + i
  g : c.J.g ≤ 1 + i
  a : c.J.n.a ≤ i
  b : c.J.n.b ≤ i
  ch : Chn p c.J.n.a true (c.J.n.b + 1) c.J.n.c c.L
  tk : Tkb p.G c.L
  wn : (c.L.length : Int) ≤ p.N
/-- What an act did. -/
structure Ao (p : Pn) (c c' : Cs) (mo : Option Ms) : Prop where
  nt : c'.J.n = c.J.n ∨ c'.J.n = { c.J.n with a := c.J.n.a + 1 } ∨ ∃ e, c'.J.n = ⟨c.J.n.b + 1, c.J.n.c, e, c.J.n.a⟩ ∧ Fwd c.J.n.c e
  ms : ∀ m, mo = some m → m.F = 0 ∧ (∃ k, 1 ≤ k ∧ m.T = (p0 p).worker k) ∧ ((m.K = 1 ∧ m.A = c'.J.n.a ∧ c'.J.n.a = c.J.n.a + 1) ∨ (m.K = 3 ∧ m.B = c'.J.n.b + 1))
/-- Where an act comes out: as the call left it, or started again where the power went. -/
def Lnd (p : Pn) (c1 : Cs) (mo : Option Ms) (er : Int) (c' : Cs) : Prop := (er = 0 ∧ c' = c1) ∨ (er = 80 ∧ mo = none ∧ c1.S.down = true ∧ c1.S.rd < 9223372036854775800 ∧ ∃ J S0, onS c1.S = S0 ∧ Gd p.P J S0 ∧ c' = ⟨p0 p, J, rdK S0 2, [], false⟩)
section

variable {p : Pn} {i : Nat} {c : Cs} {m : Ms}

theorem Ai.endB (h : Ai p i c) : c.endB = false := by
  obtain ⟨S0, h1, h2⟩ := h.gd
  unfold Cs.endB
  have : c.S.down = false := by rcases h2 with e | e <;> rw [e] <;> exact h1.dn
  rw [h.o, h1.no, this]; rfl
theorem on_cut {q : Int} {J : Jn} {S : Dk} (h : Gd q J S) : onS S = S ∧ onS (cutS S 0) = S := by
  obtain ⟨bl, dn, lf, rd, wr⟩ := S
  have e1 : dn = false := h.dn
  have e2 : lf = -1 := h.lf
  subst e1 e2
  exact ⟨rfl, rfl⟩
theorem Gd.cutd {q : Int} {J : Jn} {S : Dk} {n : Nt} (h : Gd q J S) (hr : Rgt n q) (hf : folB n J.n = true) (hg : J.g < 1099511627776) : (savS J (cutS S 0) q n).down = true := by
  have hh := h.ok.h1
  have hl := h.l2
  have hn : ¬ (J.o = true ∨ (cutS S 0).down = true) := by rw [h.no, show (cutS S 0).down = S.down from rfl, h.dn]; simp
  have h1 : ¬ rgtB n q = false := by rw [hr.yes]; simp
  have h2 : ¬ folB n J.n = false := by rw [hf]; simp
  have h3 : ¬ J.g = 1099511627776 := by omega
  have e : ((1 : Int) - J.h) = ((1 - J.h : Nat) : Int) := by omega
  have hrf : refI (cutS S 0) ((1 - J.h : Nat) : Int) = 0 := ref_in (S := cutS S 0) h.dn (by show 1 - J.h < S.bl.length; omega)
  have hln : ¬ 1024 < (savB J n).length := by have := h.len hr (J.g + 1); show ¬ 1024 < (bytN (J.g + 1) n).length; omega
  have h0 : (cutS S 0).left = 0 := rfl
  unfold savS
  rw [if_neg hn, if_neg h1, if_neg h2, if_neg h3]
  unfold writeS
  rw [e, if_neg (by rw [hrf]; simp), if_neg hln, if_pos h0]
  rfl
theorem Ai.again (h : Ai p i c) {J : Jn} {S0 : Dk} (hg : Gd p.P J S0) (hn : J.n = c.J.n) (hgg : J.g ≤ 1 + i) (hrd : S0.rd ≤ c.S.rd) (hwr : S0.wr ≤ c.S.wr) : Ai p (i + 1) ⟨p0 p, J, rdK S0 2, [], false⟩ := by
  obtain ⟨_, _, _, k4, k5⟩ := rdK_same S0 2
  have := h.rd; have := h.wr; have := h.a; have := h.b
  refine ⟨rfl, ⟨rdK S0 2, hg.rd 2, .inl rfl⟩, rfl, by show (rdK S0 2).rd ≤ _; omega, by show (rdK S0 2).wr ≤ _; omega, by show J.g ≤ _; omega, by show J.n.a ≤ _; rw [hn]; omega, by show J.n.b ≤ _; rw [hn]; omega, trivial, fun y hy => (List.not_mem_nil hy).elim, ?_⟩
  show ((0 : Nat) : Int) ≤ p.N
  have := h.wn
  omega
theorem ta_rd2 (he : c.endB = false) (ho : c.o = false) (hs : sndM m = true) (hT : m.T = 0) (hK : m.K = 2) : taC c m = { c with L := rdyL c m } ∧ taM c m = rdyM c m ∧ taE c m = 0 := by
  have he : ¬ c.endB = true := by rw [he]; simp
  have hs' : ¬ sndM m = false := by rw [hs]; simp
  have hT' : ¬ m.T ≠ 0 := fun h => h hT
  have h0 : ta0 c = c := by unfold ta0; cases c; simp only at ho; subst ho; rfl
  refine ⟨?_, ?_, ?_⟩
  · unfold taC; rw [if_neg he, if_neg hs', if_neg hT', if_pos hK, h0]
  · unfold taM; rw [if_neg he, if_neg hs', if_neg hT', if_pos hK, h0]
  · unfold taE; rw [if_neg he, if_neg hs', if_neg hT', if_pos hK]
theorem ta_cm2 (he : c.endB = false) (ho : c.o = false) (hs : sndM m = true) (hT : m.T = 0) (hK : m.K = 8) : taC c m = cmtC c m ∧ taM c m = cmtM c m ∧ taE c m = cmtR c m := by
  have he : ¬ c.endB = true := by rw [he]; simp
  have hs' : ¬ sndM m = false := by rw [hs]; simp
  have hT' : ¬ m.T ≠ 0 := fun h => h hT
  have hK' : ¬ m.K = 2 := by rw [hK]; decide
  have h0 : ta0 c = c := by unfold ta0; cases c; simp only at ho; subst ho; rfl
  refine ⟨?_, ?_, ?_⟩
  · unfold taC; rw [if_neg he, if_neg hs', if_neg hT', if_neg hK', if_pos hK, h0]
  · unfold taM; rw [if_neg he, if_neg hs', if_neg hT', if_neg hK', if_pos hK, h0]
  · unfold taE; rw [if_neg he, if_neg hs', if_neg hT', if_neg hK', if_pos hK, h0]
/-- The same coordinator with other tries. -/
theorem Ai.turn (h : Ai p i c) {L : List Yt} (h1 : Chn p c.J.n.a true (c.J.n.b + 1) c.J.n.c L) (h2 : Tkb p.G L) (h3 : (L.length : Int) ≤ p.N) : Ai p (i + 1) { c with L := L } :=
  ⟨h.pl, h.gd, h.o, by have := h.rd; show c.S.rd ≤ _; omega, by have := h.wr; show c.S.wr ≤ _; omega, by have := h.g; show c.J.g ≤ _; omega, by have := h.a; show c.J.n.a ≤ _; omega, by have := h.b; show c.J.n.b ≤ _; omega, h1, h2, h3⟩
theorem adv_len (L : List Yt) : (advL L).length = L.length := by
  cases L with
  | nil => rfl
  | cons y t => rw [advL]; split <;> rfl
/-- What advance sends. -/
theorem adv_ms {a b : Int} {s : Bool} {f : List Int} {L : List Yt} (h : Chn p a s b f (advL L)) : ∀ m, advM L = some m → m.F = 0 ∧ (∃ k, 1 ≤ k ∧ m.T = (p0 p).worker k) ∧ m.K = 3 ∧ m.B = b := by
  intro m hm
  cases L with
  | nil => cases hm
  | cons y t =>
    rw [advM] at hm
    by_cases hp : inPh [2] y = true
    · rw [if_pos hp] at hm
      rw [advL, if_pos hp] at h
      obtain ⟨h1, h2, _, _⟩ := h
      cases hm
      exact ⟨rfl, ⟨y.a, h1.a1, h1.n⟩, rfl, h2⟩
    · rw [if_neg hp] at hm; cases hm
theorem ready_math (h : Ai p i c) (hp : p.is = true) (hs : sndM m = true) (hT : m.T = 0) (hK : m.K = 2) : ∃ c', Lnd p (taC c m) (taM c m) (taE c m) c' ∧ Ai p (i + 1) c' ∧ Ao p c c' (taM c m) := by
  obtain ⟨t1, t2, t3⟩ := ta_rd2 h.endB h.o hs hT hK
  obtain ⟨_, _, _, _, _, _, hG, _⟩ := Pn.is_num hp
  rw [t1, t2, t3]
  refine ⟨_, .inl ⟨rfl, rfl⟩, ?_⟩
  have hno : (rdyM c m = none ∧ Chn p c.J.n.a true (c.J.n.b + 1) c.J.n.c (rdyL c m) ∧ Tkb p.G (rdyL c m) ∧ ((rdyL c m).length : Int) ≤ p.N) ∨ (Chn p c.J.n.a true (c.J.n.b + 1) c.J.n.c (rdyL c m) ∧ Tkb p.G (rdyL c m) ∧ ((rdyL c m).length : Int) ≤ p.N ∧ ∃ L, rdyL c m = advL L ∧ rdyM c m = advM L) := by
    have hw := h.wn
    rcases idxY_cases (rdyF c m) c.L 0 with ⟨h1, _⟩ | ⟨k, hk, h1, h2, _⟩
    · have hi : rdyI c m < 0 := by unfold rdyI; rw [h1]; omega
      refine .inl ⟨by unfold rdyM; rw [if_pos hi], ?_⟩
      have e : rdyL c m = c.L := by unfold rdyL; rw [if_pos hi]
      rw [e]; exact ⟨h.ch, h.tk, hw⟩
    · have hi : rdyI c m = (k : Int) := by unfold rdyI; rw [h1]; simp
      have hn : ¬ rdyI c m < 0 := by rw [hi]; omega
      have hk2 : (rdyI c m).toNat = k := by rw [hi]; rfl
      have hget : c.L.getD (rdyI c m).toNat yD = c.L[k] := by rw [hk2, List.getD_eq_getElem?_getD, List.getElem?_eq_getElem hk]; rfl
      by_cases he : c.L[k].f = m.E
      · refine .inl ⟨by unfold rdyM; rw [if_neg hn, hget, if_pos he], ?_⟩
        have e : rdyL c m = c.L.take k := by unfold rdyL; rw [if_neg hn, hget, if_pos he, hk2]
        rw [e]
        exact ⟨h.ch.take k, h.tk.take k, by rw [List.length_take]; omega⟩
      · have e : rdyL c m = advL (c.L.set k (rdyY c.L[k] m.E)) := by unfold rdyL rdyS; rw [if_neg hn, hget, if_neg he, hk2]
        have e2 : rdyM c m = advM (c.L.set k (rdyY c.L[k] m.E)) := by unfold rdyM rdyS; rw [if_neg hn, hget, if_neg he, hk2]
        have hf : rdyF c m c.L[k] = true := h2
        rw [rdyF_eq] at hf
        simp only [Bool.and_eq_true] at hf
        obtain ⟨_, hf2, hf3, _⟩ := hf
        have hh : c.L[k].h = 1 := by unfold inPh at hf2; simpa using hf2
        have hF : Fwd c.L[k].f m.E := by unfold rchB at hf3; rw [Bool.and_eq_true] at hf3; exact Fwd.of hf3.1
        refine .inr ⟨by rw [e]; exact h.ch.ready hk hh hF he, ?_, ?_, ⟨_, e, e2⟩⟩
        · rw [e]
          exact (h.tk.set k ⟨by show (0 : Int) ≤ 0; omega, by show (0 : Int) < p.G; omega⟩).adv (by omega)
        · rw [e, adv_len, List.length_set]; exact hw
  rcases hno with ⟨h1, h2, h3, h4⟩ | ⟨h2, h3, h4, L, e1, e2⟩
  · exact ⟨h.turn h2 h3 h4, ⟨.inl rfl, fun m' hm' => by rw [h1] at hm'; cases hm'⟩⟩
  · refine ⟨h.turn h2 h3 h4, ⟨.inl rfl, fun m' hm' => ?_⟩⟩
    rw [e2] at hm'
    rw [e1] at h2
    obtain ⟨k1, k2, k3, k4⟩ := adv_ms h2 m' hm'
    exact ⟨k1, k2, .inr ⟨k3, k4⟩⟩
theorem Ai.rgt (h : Ai p i c) : Rgt c.J.n p.P := by
  obtain ⟨S0, h1, _⟩ := h.gd
  exact h1.ok.r
theorem begN_rgt (h : Ai p i c) (hi : i ≤ 1000) : Rgt (begN c) p.P ∧ folB (begN c) c.J.n = true := ⟨rgt_att h.rgt (by have := h.rgt.a0; omega) (by have := h.a; omega), fol_att (by omega)⟩
theorem tick_math (h : Ai p i c) (hp : p.is = true) (hi : i ≤ 1000) : ∃ c', Lnd p (tikC c) (tikM c) (tikE c) c' ∧ Ai p (i + 1) c' ∧ Ao p c c' (tikM c) := by
  have hend : ¬ c.endB = true := by rw [h.endB]; simp
  obtain ⟨_, _, _, _, _, _, hG, _⟩ := Pn.is_num hp
  have hpG : c.p.G = p.G := by rw [h.pl]; rfl
  have hpN : c.p.N = p.N := by rw [h.pl]; rfl
  have hpP : c.p.P = p.P := by rw [h.pl]; rfl
  obtain ⟨L, hL⟩ : ∃ L, L = cutO c.p.G (c.L.map ageY) := ⟨_, rfl⟩
  have t1 : tik1 c = { c with L := L } := by
    have ho := h.o
    unfold tik1; rw [← hL]; cases c; simp only at ho; subst ho; rfl
  obtain ⟨k, hk⟩ := cut_le c.p.G (c.L.map ageY)
  have hch : Chn p c.J.n.a true (c.J.n.b + 1) c.J.n.c L := by rw [hL, hk]; exact h.ch.age.take k
  have htk : Tkb p.G L := by rw [hL, hpG]; exact h.tk.tick
  have hwn : (L.length : Int) ≤ p.N := by
    have := h.wn
    rw [hL, hk, List.length_take, List.length_map]; omega
  have h1 : Ai p (i + 1) { c with L := L } := h.turn hch htk hwn
  have e1 : tikC c = if mayB (tik1 c) = true then begC (tik1 c) else tik1 c := by unfold tikC; rw [if_neg hend]
  have e2 : tikM c = if mayB (tik1 c) = true then begM (tik1 c) else none := by unfold tikM; rw [if_neg hend]
  have e3 : tikE c = if mayB (tik1 c) = true then begE (tik1 c) else 0 := by unfold tikE; rw [if_neg hend]
  rw [e1, e2, e3, t1]
  by_cases hm : mayB { c with L := L } = true
  rotate_left
  · rw [if_neg hm, if_neg hm, if_neg hm]
    exact ⟨_, .inl ⟨rfl, rfl⟩, h1, ⟨.inl rfl, fun m' hm' => by cases hm'⟩⟩
  rw [if_pos hm, if_pos hm, if_pos hm]
  unfold mayB at hm
  rw [Bool.and_eq_true] at hm
  have hm1 : (L.length : Int) < p.N := by have := of_decide_eq_true hm.1; rw [← hpN]; exact this
  have hm2 : (L.getLast?.map Yt.h).getD 0 ≠ 1 := by
    have := hm.2
    rw [Bool.or_eq_true] at this
    rcases this with q | q
    · have q0 : L.length = 0 := of_decide_eq_true q
      rw [List.length_eq_zero_iff.1 q0]; simp
    · simpa using q
  obtain ⟨S0, hg, hS⟩ := h.gd
  have hg' : Gd c.p.P c.J S0 := by rw [hpP]; exact hg
  obtain ⟨r1, r2⟩ := begN_rgt h hi
  have hgg : c.J.g < 1099511627776 := by have := h.g; omega
  rcases hS with hS | hS
  · have hb := beg_gd (c := { c with L := L }) (by show Gd c.p.P c.J c.S; rw [hS]; exact hg') (by have := h.a; show c.J.n.a < _; omega) hgg
    obtain ⟨b1, b2, b3, b4, b5⟩ := hb
    have b2' : Gd p.P (savJ c.J c.S c.p.P (begN c)) (savS c.J c.S c.p.P (begN c)) := by rw [← hpP]; exact b2
    have b3' : savJ c.J c.S c.p.P (begN c) = ⟨c.J.g + 1, begN c, 1 - c.J.h, false⟩ := b3
    have b4' : (savS c.J c.S c.p.P (begN c)).wr = c.S.wr + 1 := b4
    have b5' : (savS c.J c.S c.p.P (begN c)).rd = c.S.rd := b5
    have hC : begC { c with L := L } = ⟨c.p, savJ c.J c.S c.p.P (begN c), savS c.J c.S c.p.P (begN c), L ++ [newY { c with L := L }], c.o⟩ := by unfold begC; rw [if_pos b1]; rfl
    have hM : begM { c with L := L } = some (abtM 1 (newY { c with L := L }) (frm { c with L := L })) := by unfold begM; rw [if_pos b1]
    have hE : begE { c with L := L } = 0 := by unfold begE; rw [if_pos b1]
    have hr0 := h.rgt.a0
    have hy : Yg p (c.J.n.a + 1) (newY { c with L := L }) := ⟨by show 1 ≤ c.J.n.a + 1; omega, by show c.J.n.a + 1 ≤ c.J.n.a + 1; omega, by show c.p.worker _ = _; rw [h.pl]; rfl⟩
    rw [hC, hM, hE]
    refine ⟨_, .inl ⟨rfl, rfl⟩, ⟨h.pl, ⟨_, b2', .inl rfl⟩, h.o, ?_, ?_, ?_, ?_, ?_, ?_, ?_, ?_⟩, ⟨.inr (.inl ?_), ?_⟩⟩
    · show (savS c.J c.S c.p.P (begN c)).rd ≤ _; have := h.rd; omega
    · show (savS c.J c.S c.p.P (begN c)).wr ≤ _; have := h.wr; omega
    · show (savJ c.J c.S c.p.P (begN c)).g ≤ _; rw [b3']; have := h.g; show c.J.g + 1 ≤ _; omega
    · show (savJ c.J c.S c.p.P (begN c)).n.a ≤ _; rw [b3']; have := h.a; show c.J.n.a + 1 ≤ _; omega
    · show (savJ c.J c.S c.p.P (begN c)).n.b ≤ _; rw [b3']; have := h.b; show c.J.n.b ≤ _; omega
    · show Chn p (savJ c.J c.S c.p.P (begN c)).n.a true ((savJ c.J c.S c.p.P (begN c)).n.b + 1) (savJ c.J c.S c.p.P (begN c)).n.c (L ++ [newY { c with L := L }])
      rw [b3']
      exact (hch.mono (a' := c.J.n.a + 1) (by omega)).app hm2 hy (by show c.J.n.b + (L.length : Int) + 1 = _; omega) rfl rfl rfl
    · intro y hy
      rcases List.mem_append.1 hy with hy | hy
      · exact htk y hy
      · rw [List.mem_singleton] at hy
        rw [hy]
        exact ⟨by show (0 : Int) ≤ 0; omega, by show (0 : Int) < p.G; omega⟩
    · show ((L ++ [newY { c with L := L }]).length : Int) ≤ p.N
      rw [List.length_append]; simp; omega
    · show (savJ c.J c.S c.p.P (begN c)).n = _; rw [b3']; rfl
    · intro m' hm'
      cases hm'
      refine ⟨rfl, ⟨c.J.n.a + 1, by omega, by show c.p.worker _ = _; rw [h.pl]⟩, .inl ⟨rfl, ?_, ?_⟩⟩
      · show c.J.n.a + 1 = (savJ c.J c.S c.p.P (begN c)).n.a; rw [b3']; rfl
      · show (savJ c.J c.S c.p.P (begN c)).n.a = _; rw [b3']; rfl
  · obtain ⟨c1, c2, c3⟩ := hg.cut r1 r2 hgg
    have c4 := hg.cutd r1 r2 hgg
    have b1 : begI { c with L := L } = 80 := by unfold begI; show savI c.J c.S c.p.P (begN c) = 80; rw [hS, hpP]; exact c1
    have hne : ¬ begI { c with L := L } = 0 := by rw [b1]; decide
    have hM : begM { c with L := L } = none := by unfold begM; rw [if_neg hne]
    have hE : begE { c with L := L } = 80 := by unfold begE; rw [if_neg hne, b1]; rfl
    have hrd : (savS c.J (cutS S0 0) p.P (begN c)).rd = S0.rd := by
      have : (onS (savS c.J (cutS S0 0) p.P (begN c))).rd = S0.rd := by rw [c3]
      exact this
    have hCS : (begC { c with L := L }).S = savS c.J (cutS S0 0) p.P (begN c) := by show savS c.J c.S c.p.P (begN c) = _; rw [hS, hpP]
    have hr0 : c.S.rd = S0.rd := by rw [hS]; rfl
    have hw0 : c.S.wr = S0.wr := by rw [hS]; rfl
    rw [hM, hE]
    refine ⟨⟨p0 p, c.J, rdK S0 2, [], false⟩, .inr ⟨rfl, rfl, by rw [hCS]; exact c4, ?_, c.J, S0, by rw [hCS]; exact c3, hg, rfl⟩, h.again hg rfl h.g (by omega) (by omega), ⟨.inl rfl, fun m' hm' => by cases hm'⟩⟩
    rw [hCS, hrd]; have := h.rd; omega
theorem cmtF_of {y : Yt} (h : cmtF m y = true) : y.h = 3 ∧ y.e = m.E ∧ y.b = m.B := by
  rw [cmtF_eq] at h
  simp only [Bool.and_eq_true] at h
  obtain ⟨h1, h2, h3, _⟩ := h
  refine ⟨by unfold inPh at h2; simpa using h2, by unfold endAt at h3; exact of_decide_eq_true h3, ?_⟩
  unfold saidB at h1
  simp only [Bool.and_eq_true, beq_iff_eq] at h1
  exact h1.1.1
theorem commit_math (h : Ai p i c) (hp : p.is = true) (hi : i ≤ 1000) (hok : ∀ y ∈ c.L, y.ok) (hs : sndM m = true) (hT : m.T = 0) (hK : m.K = 8) : ∃ c', Lnd p (taC c m) (taM c m) (taE c m) c' ∧ Ai p (i + 1) c' ∧ Ao p c c' (taM c m) := by
  obtain ⟨t1, t2, t3⟩ := ta_cm2 h.endB h.o hs hT hK
  obtain ⟨_, _, _, _, _, _, hG, _⟩ := Pn.is_num hp
  have hpP : c.p.P = p.P := by rw [h.pl]; rfl
  rw [t1, t2, t3]
  by_cases h0 : cmtI c m = 0
  rotate_left
  · have e1 : cmtC c m = c := by unfold cmtC; rw [if_pos h0]
    have e2 : cmtM c m = none := by unfold cmtM; rw [if_pos h0]
    have e3 : cmtR c m = 0 := by unfold cmtR; rw [if_pos h0]
    rw [e1, e2, e3]
    exact ⟨c, .inl ⟨rfl, rfl⟩, by have := h.turn h.ch h.tk h.wn; exact this, ⟨.inl rfl, fun m' hm' => by cases hm'⟩⟩
  obtain ⟨y, t, hL, hy⟩ : ∃ y t, c.L = y :: t ∧ cmtF m y = true := by
    rcases idxY_cases (cmtF m) c.L 0 with ⟨h1, _⟩ | ⟨k, hk, h1, h2, _⟩
    · unfold cmtI at h0; rw [h1] at h0; exact absurd h0 (by omega)
    · unfold cmtI at h0; rw [h1] at h0
      have hk0 : k = 0 := by omega
      subst hk0
      cases hc : c.L with
      | nil => rw [hc] at hk; simp at hk
      | cons y t => refine ⟨y, t, rfl, ?_⟩; simp only [hc, List.getElem_cons_zero] at h2; exact h2
  obtain ⟨y3, ye, _⟩ := cmtF_of hy
  have hch := h.ch
  rw [hL] at hch
  obtain ⟨hF, hch2⟩ := hch.commit y3
  have hyok : y.ok := hok y (by rw [hL]; exact List.mem_cons_self)
  have hgg : c.J.g < 1099511627776 := by have := h.g; omega
  have hbb : c.J.n.b < 1099511627776 := by have := h.b; omega
  obtain ⟨S0, hg, hS⟩ := h.gd
  have hg' : Gd c.p.P c.J S0 := by rw [hpP]; exact hg
  have hn0 : ¬ cmtI c m ≠ 0 := fun q => q h0
  have hdrop : c.L.drop 1 = t := by rw [hL]; rfl
  have htk2 : Tkb p.G (advL t) := Tkb.adv (fun z hz => h.tk z (by rw [hL]; exact List.mem_cons_of_mem _ hz)) (by omega)
  have hwn2 : ((advL t).length : Int) ≤ p.N := by have := h.wn; rw [hL] at this; rw [adv_len]; simp at this; omega
  rcases hS with hS | hS
  · obtain ⟨b1, b2, b3, b4, b5⟩ := cmt_gd (c := c) (by rw [hS]; exact hg') hL hyok hF hbb hgg
    have b2' : Gd p.P (savJ c.J c.S c.p.P (cmtN c)) (savS c.J c.S c.p.P (cmtN c)) := by rw [← hpP]; exact b2
    have hn1 : ¬ cmtE c ≠ 0 := fun q => q b1
    have e1 : cmtC c m = ⟨c.p, savJ c.J c.S c.p.P (cmtN c), savS c.J c.S c.p.P (cmtN c), advL t, c.o⟩ := by unfold cmtC; rw [if_neg hn0, if_neg hn1, hdrop]; rfl
    have e2 : cmtM c m = advM t := by unfold cmtM; rw [if_neg hn0, if_neg hn1, hdrop]
    have e3 : cmtR c m = 0 := by unfold cmtR; rw [if_neg hn0, if_neg hn1]
    rw [e1, e2, e3]
    refine ⟨_, .inl ⟨rfl, rfl⟩, ⟨h.pl, ⟨_, b2', .inl rfl⟩, h.o, ?_, ?_, ?_, ?_, ?_, ?_, htk2, hwn2⟩, ⟨.inr (.inr ⟨y.e, ?_, hF⟩), ?_⟩⟩
    · show (savS c.J c.S c.p.P (cmtN c)).rd ≤ _; have := h.rd; omega
    · show (savS c.J c.S c.p.P (cmtN c)).wr ≤ _; have := h.wr; omega
    · show (savJ c.J c.S c.p.P (cmtN c)).g ≤ _; rw [b3]; have := h.g; show c.J.g + 1 ≤ _; omega
    · show (savJ c.J c.S c.p.P (cmtN c)).n.a ≤ _; rw [b3]; have := h.a; show c.J.n.a ≤ _; omega
    · show (savJ c.J c.S c.p.P (cmtN c)).n.b ≤ _; rw [b3]; have := h.b; show c.J.n.b + 1 ≤ _; omega
    · show Chn p (savJ c.J c.S c.p.P (cmtN c)).n.a true ((savJ c.J c.S c.p.P (cmtN c)).n.b + 1) (savJ c.J c.S c.p.P (cmtN c)).n.c (advL t)
      rw [b3]; exact hch2
    · show (savJ c.J c.S c.p.P (cmtN c)).n = _; rw [b3]
    · intro m' hm'
      obtain ⟨k1, k2, k3, k4⟩ := adv_ms hch2 m' hm'
      refine ⟨k1, k2, .inr ⟨k3, ?_⟩⟩
      show m'.B = (savJ c.J c.S c.p.P (cmtN c)).n.b + 1
      rw [b3]; exact k4
  · have hN : cmtN c = ⟨c.J.n.b + 1, c.J.n.c, y.e, c.J.n.a⟩ := by
      have hI : stepI c.J.n.tp y.e = 0 := by
        unfold stepI
        rw [if_pos (step_yes h.rgt.r hF), if_neg (by show ¬ 1099511627776 ≤ c.J.n.b; omega)]
      have hT : cmtT c = ⟨c.J.n.b + 1, c.J.n.c, y.e⟩ := by
        unfold cmtT; rw [hL]
        show stepT c.J.n.tp y.e = _
        unfold stepT; rw [if_pos hI]; rfl
      unfold cmtN; rw [hT]
    have hgd1 := (cmt_gd (c := { c with S := S0 }) hg' hL hyok hF hbb hgg).2.1
    have hJ1 := (cmt_gd (c := { c with S := S0 }) hg' hL hyok hF hbb hgg).2.2.1
    have hr : Rgt (cmtN c) p.P := by
      have := hgd1.ok.r
      rw [hJ1] at this
      rw [hN, ← hpP]; exact this
    have hf : folB (cmtN c) c.J.n = true := by
      rw [hN]; unfold folB
      simp
      left; omega
    obtain ⟨c1, c2, c3⟩ := hg.cut hr hf hgg
    have c4 := hg.cutd hr hf hgg
    have b1 : cmtE c = 80 := by unfold cmtE; rw [hS, hpP]; exact c1
    have hn1 : cmtE c ≠ 0 := by rw [b1]; decide
    have e1 : cmtC c m = cmtJ c := by unfold cmtC; rw [if_neg hn0, if_pos hn1]
    have e2 : cmtM c m = none := by unfold cmtM; rw [if_neg hn0, if_pos hn1]
    have e3 : cmtR c m = 80 := by unfold cmtR; rw [if_neg hn0, if_pos hn1, b1]; rfl
    have hrd : (savS c.J (cutS S0 0) p.P (cmtN c)).rd = S0.rd := by
      have : (onS (savS c.J (cutS S0 0) p.P (cmtN c))).rd = S0.rd := by rw [c3]
      exact this
    have hCS : (cmtJ c).S = savS c.J (cutS S0 0) p.P (cmtN c) := by show savS c.J c.S c.p.P (cmtN c) = _; rw [hS, hpP]
    have hr0 : c.S.rd = S0.rd := by rw [hS]; rfl
    have hw0 : c.S.wr = S0.wr := by rw [hS]; rfl
    rw [e1, e2, e3]
    refine ⟨⟨p0 p, c.J, rdK S0 2, [], false⟩, .inr ⟨rfl, rfl, by rw [hCS]; exact c4, ?_, c.J, S0, by rw [hCS]; exact c3, hg, rfl⟩, h.again hg rfl h.g (by omega) (by omega), ⟨.inl rfl, fun m' hm' => by cases hm'⟩⟩
    rw [hCS, hrd]; have := h.rd; omega
/-- A message that may come. -/
structure Mok (m : Ms) : Prop where
  s : sndM m = true
  t : m.T = 0
  k : m.K = 2 ∨ m.K = 8
  q : m.Q = []
  p : m.P = []
theorem take_math (h : Ai p i c) (hp : p.is = true) (hi : i ≤ 1000) (hok : ∀ y ∈ c.L, y.ok) (hm : Mok m) : ∃ c', Lnd p (taC c m) (taM c m) (taE c m) c' ∧ Ai p (i + 1) c' ∧ Ao p c c' (taM c m) := by
  rcases hm.k with k | k
  · exact ready_math h hp hm.s hm.t k
  · exact commit_math h hp hi hok hm.s hm.t k
theorem stay_math (h : Ai p i c) : Ai p (i + 1) c ∧ Ao p c c none := ⟨by have := h.turn h.ch h.tk h.wn; exact this, ⟨.inl rfl, fun m' hm' => by cases hm'⟩⟩
theorem cut_math (h : Ai p i c) : Ai p (i + 1) { c with S := cutS c.S 0 } ∧ Ao p c { c with S := cutS c.S 0 } none := by
  obtain ⟨S0, hg, hS⟩ := h.gd
  refine ⟨⟨h.pl, ⟨S0, hg, .inr ?_⟩, h.o, by have := h.rd; show c.S.rd ≤ _; omega, by have := h.wr; show c.S.wr ≤ _; omega, by have := h.g; show c.J.g ≤ _; omega, by have := h.a; show c.J.n.a ≤ _; omega, by have := h.b; show c.J.n.b ≤ _; omega, h.ch, h.tk, h.wn⟩, ⟨.inl rfl, fun m' hm' => by cases hm'⟩⟩
  show cutS c.S 0 = cutS S0 0
  rcases hS with e | e <;> rw [e]
  rfl
theorem open_math (h : Ai p i c) : ∃ S0, onS c.S = S0 ∧ Gd p.P c.J S0 ∧ Ai p (i + 1) ⟨p0 p, c.J, rdK S0 2, [], false⟩ ∧ Ao p c ⟨p0 p, c.J, rdK S0 2, [], false⟩ none := by
  obtain ⟨S0, hg, hS⟩ := h.gd
  have hr0 : c.S.rd = S0.rd := by rcases hS with e | e <;> rw [e]; rfl
  have hw0 : c.S.wr = S0.wr := by rcases hS with e | e <;> rw [e]; rfl
  refine ⟨S0, ?_, hg, h.again hg rfl h.g (by omega) (by omega), ⟨.inl rfl, fun m' hm' => by cases hm'⟩⟩
  rcases hS with e | e <;> rw [e]
  · exact (on_cut hg).1
  · exact (on_cut hg).2
/-- The messages that the statements make. -/
theorem mok_of (h : Ai p i c) (hp : p.is = true) (hi : i ≤ 1000) {y : Yt} (hy : y ∈ c.L) {k : Int} (hk : k = 2 ∨ k = 8) {l : List Int} (hl : 1 ≤ l.length ∧ l.length ≤ 4) (hm : ∀ v ∈ l, 0 ≤ v ∧ v ≤ 256) : Mok ⟨k, y.n, 0, y.b, y.a, 0, l, [], []⟩ := by
  obtain ⟨_, h2, h3, h4, _⟩ := h.ch.len y hy
  obtain ⟨_, _, ⟨hW1, hW4⟩, _, _, ⟨_, hN⟩, _⟩ := Pn.is_num hp
  have hb0 : 0 ≤ c.J.n.b := h.rgt.r.1
  have := h.b; have := h.a; have := h2.a1; have := h2.a2; have := h.wn
  have hwk : 0 ≤ y.n ∧ y.n < 9 := by
    rw [h2.n]
    unfold Pn.worker
    have hps : (p0 p).is = true := is_less hp
    rw [hps, decide_eq_true h2.a1, if_pos (by rfl)]
    show 0 ≤ 1 + y.a % p.W ∧ 1 + y.a % p.W < 9
    have h5 := Int.emod_nonneg y.a (show p.W ≠ 0 by omega)
    have h6 := Int.emod_lt_of_pos y.a (show 0 < p.W by omega)
    omega
  exact ⟨snd_ok hk hwk ⟨by omega, by omega⟩ ⟨by omega, by omega⟩ hl hm, rfl, hk, rfl, rfl⟩
end

end Go.Proofs.Ytpndafieknddcaa
