/- The statements' world beside its coordinator: what was sent. -/
import Derived.Test.YtpndafieknddcaaM30
namespace Go.Proofs.Ytpndafieknddcaa

open Ieee Go.RowKit



/-- A message and its lists. -/
structure Tq where
  m : Ms
  e : Value
  q : Value
  p : Value
def cellsT (x : Tq) : List Value := [.int .i64 x.m.K, .int .i64 x.m.F, .int .i64 x.m.T, .int .i64 x.m.B, .int .i64 x.m.A, .int .i64 x.m.C, x.e, x.q, x.p]
def flatT (F : List Tq) : List Value := F.flatMap cellsT
theorem flatT_len (F : List Tq) : (flatT F).length = F.length * 9 := by
  induction F with
  | nil => rfl
  | cons a t ih => simp only [flatT, List.flatMap_cons, List.length_append] at ih ⊢; rw [ih]; simp [cellsT]; omega
theorem flatT_app (F : List Tq) (x : Tq) : flatT (F ++ [x]) = flatT F ++ cellsT x := by simp [flatT]
theorem flatT_get : ∀ (F : List Tq) (i j : Nat) (h : i < F.length), j < 9 → (flatT F)[i * 9 + j]? = (cellsT F[i])[j]?
  | [], i, j, h, _ => by simp at h
  | a :: t, 0, j, h, hj => by
    have e : (cellsT a).length = 9 := rfl
    simp only [flatT, List.flatMap_cons, Nat.zero_mul, Nat.zero_add, List.getElem_cons_zero]
    rw [List.getElem?_append_left (by omega)]
  | a :: t, i + 1, j, h, hj => by
    have e : (cellsT a).length = 9 := rfl
    have ih := flatT_get t i j (by simpa using h) hj
    simp only [flatT, List.flatMap_cons, List.getElem_cons_succ] at ih ⊢
    rw [List.getElem?_append_right (by omega), e, show (i + 1) * 9 + j - 9 = i * 9 + j by omega]
    exact ih
theorem info_msN : (Try.prog.info? 41).map (fun i => (i.zero, i.size, i.bytes)) = some (some (.agg #[.int .i64 0, .int .i64 0, .int .i64 0, .int .i64 0, .int .i64 0, .int .i64 0, .slice none 0 0, .slice none 0 0, .slice none 0 0]), 9, 120) := by kernel_rfl
theorem step_app_ms {ops : Array Oper} {o : Oper} {a : Act} {w : World} {K : Act → World → Prop} {Q : Exit → Act → World → Prop} {E : Prop}
    (hg : o.guard = none) (s x : Operand) (hop : o.op = Op.call { callee := Callee.builtin Builtin.append, args := #[s, x], argTypes := #[29, 29] })
    {base : Nat} (v : Value) (n : Nat) (xs : List Value) (hs : a.eval s = v) (hown : w.ownsRow base 41 9 v n xs)
    (q : Nat) (en : Tq) (hx : a.eval x = .slice (some ⟨q, 0, none⟩) 1 1) (hnews : ∀ j u, (cellsT en)[j]? = some u → w.cell? ⟨q, j, none⟩ = some u) (h1 : ∀ u ∈ cellsT en, u.oneCell' = true) (hn : n ≤ 5000) (hb : base ≤ w.heap.size)
    (hK : ∀ v' w', w'.ownsRow base 41 9 v' (n + 1) (xs ++ cellsT en) → w.grownBy w' v.ownBlock → (v'.ownBlock = v.ownBlock ∨ v'.ownBlock = some w.heap.size) → K (a.put o.dst v') w') :
    if Region.wanted o (yielded ops a.tmps) = true then Oper.wp Try.prog o a w K Q else E := by
  have hw : Region.wanted o (yielded ops a.tmps) = true := by simp [Region.wanted, hg]
  rw [if_pos hw]
  obtain ⟨i0, hi, hz0, hz1, hz2⟩ := info_partsY info_msN
  obtain ⟨v', w', hrun, r1, r2, _, r4⟩ := run_append_own_at (P := Try.prog) w base 29 o.type 41 i0 _ 9 120 Try.underlying29 hi hz0 hz1 hz2 rfl (by decide) v n xs hown ⟨q, 0, none⟩ 1 1 (cellsT en) rfl (fun j u hj => by rw [WideShapes.add_plain, Nat.zero_add]; exact hnews j u hj) h1 (by unfold maxLen; omega) (by omega) hb
  unfold Oper.wp
  simp [execOp, hop, resolve, invoke, builtin, hs, hx, hrun, Result.andThen]
  exact hK v' w' r1 r2 r4
theorem row_not {w : World} {b e s n : Nat} {v : Value} {xs : List Value} {N : Nat} {cs : Array Value} {T : TypeId} (ho : w.ownsRow b e s v n xs) (hN : w.heap[N]? = some (.cells cs T (0, 0))) (hT : T ≠ e) : ∀ x, v.ownBlock = some x → x ≠ N := by
  intro x hx e1
  subst e1
  rcases ho.2 with ⟨q, _⟩ | ⟨g, cap, cur, rfl, _, hh, _⟩
  · rw [q] at hx; cases hx
  · have e1 : g = x := Option.some.inj hx
    subst e1
    rw [hN] at hh
    injection hh with h3
    injection h3 with _ h4
    exact hT h4
/-- What was sent: a row of messages, all in blocks of A. -/
structure Sn (A : Nat → Prop) (w : World) (sv : Value) (V : List Tq) : Prop where
  row : w.ownsRow 0 41 9 sv V.length (flatT V)
  kr : ∀ x, sv.ownBlock = some x → A x
  ls : ∀ x ∈ V, OwN 0 w x.e x.m.E
  kl : ∀ x ∈ V, ∀ b, x.e.ownBlock = some b → A b
  nl : ∀ x ∈ V, x.q = .slice none 0 0 ∧ x.p = .slice none 0 0
  good : ∀ x ∈ V, Mok x.m
section

variable {wz w w' w2 : World} {A A' E B K : Nat → Prop} {sb cb WB : Nat} {c c' : Cs} {p : Pn} {ov sv v : Value} {V : List Tq} {M : List Ms} {mo : Option Ms}

theorem Sn.keep (h : Sn A w sv V) (hk : ∀ b, A b → w'.heap[b]? = w.heap[b]?) : Sn A w' sv V :=
  ⟨row_keep h.row fun b hb => hk b (h.kr b hb), h.kr, fun x hx => row_keep (h.ls x hx) fun b hb => hk b (h.kl x hx b hb), h.kl, h.nl, h.good⟩
theorem Sn.mono (h : Sn A w sv V) (hA : ∀ b, A b → A' b) : Sn A' w sv V := ⟨h.row, fun x hx => hA x (h.kr x hx), h.ls, fun x hx b hb => hA b (h.kl x hx b hb), h.nl, h.good⟩
/-- The world's own block is written. -/
theorem Sn.setW {cs : Array Value} {i : Nat} {u : Value} (h : Sn A w sv V) (hW : w.heap[WB]? = some (.cells cs 31 (0, 0))) : Sn A (w.setCell ⟨WB, i, none⟩ u) sv V :=
  ⟨row_keep h.row fun b hb => set_other _ _ (row_not h.row hW (by decide) b hb), h.kr, fun x hx => row_keep (h.ls x hx) fun b hb => set_other _ _ (row_not (h.ls x hx) hW (by decide) b hb), h.kl, h.nl, h.good⟩
theorem Sn.nil (A : Nat → Prop) (w : World) : Sn A w (.slice none 0 0) [] := ⟨World.ownsRow_nil _ _ _ _, fun _ hx => (nomatch hx), fun _ hx => (List.not_mem_nil hx).elim, fun _ hx => (List.not_mem_nil hx).elim, fun _ hx => (List.not_mem_nil hx).elim, fun _ hx => (List.not_mem_nil hx).elim⟩
/-- The statements' world in block WB, above wz, apart from the blocks K. -/
structure AW (wz : World) (K : Nat → Prop) (WB : Nat) (p : Pn) (ov : Value) (c : Cs) (M : List Ms) (w : World) : Prop where
  ex : ∃ (A : Nat → Prop) (sb cb : Nat) (sv : Value) (V : List Tq), (∀ x, A x → wz.heap.size ≤ x ∧ ¬ K x) ∧ CW wz (fun x => K x ∨ A x) sb cb c w ∧ w.heap[WB]? = some (.cells (wC p ov sb cb sv) 31 (0, 0)) ∧ A WB ∧ Sn A w sv V ∧ V.map Tq.m = M
theorem AW.bel (h : AW wz K WB p ov c M w) : Below wz.heap.size wz w := by
  obtain ⟨A, sb, cb, sv, V, _, h2, _⟩ := h.ex
  exact h2.bel
theorem AW.below (h : AW wz K WB p ov c M w) (hb : Below w.heap.size w w') : AW wz K WB p ov c M w' := by
  obtain ⟨A, sb, cb, sv, V, h1, h2, h3, h4, h5, h6⟩ := h.ex
  exact ⟨⟨A, sb, cb, sv, V, h1, h2.below hb, blk_below h3 hb, h4, h5.keep (fun b hA => hb.block b (h2.al (.inr hA))), h6⟩⟩
/-- What a call has made is kept from now on. -/
theorem AW.more (h : AW wz K WB p ov c M w) (hb : Below w.heap.size w w') : AW wz (fun x => K x ∨ (w.heap.size ≤ x ∧ x < w'.heap.size)) WB p ov c M w' := by
  obtain ⟨A, sb, cb, sv, V, h1, h2, h3, h4, h5, h6⟩ := h.ex
  refine ⟨⟨A, sb, cb, sv, V, fun x hx => ⟨(h1 x hx).1, ?_⟩, (h2.more hb).less ?_, blk_below h3 hb, h4, h5.keep (fun b hA => hb.block b (h2.al (.inr hA))), h6⟩⟩
  · rintro (h9 | h9)
    · exact (h1 x hx).2 h9
    · have := h2.al (x := x) (.inr hx); omega
  · rintro x ((h9 | h9) | h9)
    · exact .inl (.inl h9)
    · exact .inr h9
    · exact .inl (.inr h9)
theorem AW.less (h : AW wz K WB p ov c M w) (hE : ∀ x, E x → K x) : AW wz E WB p ov c M w := by
  obtain ⟨A, sb, cb, sv, V, h1, h2, h3, h4, h5, h6⟩ := h.ex
  exact ⟨⟨A, sb, cb, sv, V, fun x hx => ⟨(h1 x hx).1, fun h => (h1 x hx).2 (hE x h)⟩, h2.less (fun x hx => hx.imp (hE x) id), h3, h4, h5, h6⟩⟩
/-- Blocks of K are written. -/
theorem AW.write (h : AW wz K WB p ov c M w) (hc : Ch E w w') (hE : ∀ x, E x → K x) (hz : ∀ x, E x → wz.heap.size ≤ x) : AW wz K WB p ov c M w' := by
  obtain ⟨A, sb, cb, sv, V, h1, h2, h3, h4, h5, h6⟩ := h.ex
  have hk : ∀ b, A b → w'.heap[b]? = w.heap[b]? := fun b hb => hc.block b (h2.al (.inr hb)) (fun he => (h1 b hb).2 (hE b he))
  exact ⟨⟨A, sb, cb, sv, V, h1, h2.write hc (fun x hx => .inl (hE x hx)) hz, by rw [hk WB h4]; exact h3, h4, h5.keep hk, h6⟩⟩
theorem AW.al (h : AW wz K WB p ov c M w) {x : Nat} (hx : K x) : x < w.heap.size := by
  obtain ⟨A, sb, cb, sv, V, h1, h2, h3, h4, h5, h6⟩ := h.ex
  exact h2.al (.inl hx)
theorem AW.yok (h : AW wz K WB p ov c M w) : ∀ y ∈ c.L, y.ok := by
  obtain ⟨A, sb, cb, sv, V, h1, h2, h3, h4, h5, h6⟩ := h.ex
  exact h2.yok
theorem AW.mok (h : AW wz K WB p ov c M w) : ∀ m ∈ M, Mok m := by
  obtain ⟨A, sb, cb, sv, V, h1, h2, h3, h4, h5, h6⟩ := h.ex
  intro m hm
  rw [← h6] at hm
  obtain ⟨x, hx, rfl⟩ := List.mem_map.1 hm
  exact h5.good x hx
/-- What act answers. -/
def AcG (wz : World) (K : Nat → Prop) (WB : Nat) (p : Pn) (ov : Value) (c' : Cs) (M' : List Ms) (mo : Option Ms) (w : World) (e : Ending) (w' : World) : Prop := ∃ v B, e = .returned (.tuple #[v, .bool true]) ∧ MgR B w' v mo ∧ (∀ x, B x → w.heap.size ≤ x) ∧ AW wz (fun x => K x ∨ B x) WB p ov c' M' w' ∧ ChA wz K w w'
theorem cha_less (h : ChA wz A w w') (hE : ∀ x, E x → A x) : ChA wz E w w' := ch_le h (fun x hx => ⟨hx.1, fun h => hx.2 (hE x h)⟩)
/-- Where a call came out well. -/
theorem acg_yes (hA : ∀ x, A x → wz.heap.size ≤ x ∧ ¬ K x) (hAl : ∀ x, A x → x < w.heap.size) (hB : ∀ x, B x → w.heap.size ≤ x) (hmg : MgR B w' v mo) (h : CW wz (fun x => (K x ∨ A x) ∨ B x) sb cb c w') (hW : w'.heap[WB]? = some (.cells (wC p ov sb cb sv) 31 (0, 0))) (aW : A WB) (hS : Sn A w' sv V) (hM : V.map Tq.m = M) (hc : ChA wz K w w') : AcG wz K WB p ov c M mo w (.returned (.tuple #[v, .bool true])) w' := by
  refine ⟨v, B, rfl, hmg, hB, ⟨⟨A, sb, cb, sv, V, fun x hx => ⟨(hA x hx).1, ?_⟩, h.less ?_, hW, aW, hS, hM⟩⟩, hc⟩
  · rintro (h9 | h9)
    · exact (hA x hx).2 h9
    · have := hAl x hx; have := hB x h9; omega
  · rintro x ((h9 | h9) | h9)
    · exact .inl (.inl h9)
    · exact .inr h9
    · exact .inl (.inr h9)
theorem acg_none (hA : ∀ x, A x → wz.heap.size ≤ x ∧ ¬ K x) (hAl : ∀ x, A x → x < w.heap.size) (h : CW wz (fun x => K x ∨ A x) sb cb c w') (hW : w'.heap[WB]? = some (.cells (wC p ov sb cb sv) 31 (0, 0))) (aW : A WB) (hS : Sn A w' sv V) (hM : V.map Tq.m = M) (hc : ChA wz K w w') : AcG wz K WB p ov c M none w (.returned (.tuple #[.slice none 0 0, .bool true])) w' :=
  acg_yes (B := fun _ => False) hA hAl (fun _ h => h.elim) rfl h.or0 hW aW hS hM hc
theorem acg_more (hb : Below w.heap.size w w2) (h : AcG wz K WB p ov c M mo w2 (.returned v) w') : AcG wz K WB p ov c M mo w (.returned v) w' := by
  obtain ⟨u, B, h1, h2, h3, h4, h5⟩ := h
  exact ⟨u, B, h1, h2, fun x hx => Nat.le_trans hb.size (h3 x hx), h4, (Ch.of_below hb).self h5⟩
theorem cw_down (h : CW wz A sb cb c w) : Calls Try.prog 40 #[Pt sb] w fun e w' => e = .returned (.bool c.S.down) ∧ w' = w := by
  obtain ⟨C, jb, tv, V, h1, h2, h3, h4⟩ := h.ex
  exact lw_down h2
def CwD (wz : World) (A : Nat → Prop) (sb cb : Nat) (c' : Cs) (w : World) (e : Ending) (w' : World) : Prop := e = .returned (.tuple #[]) ∧ CW wz A sb cb c' w' ∧ ChA wz A w w'
theorem cw_disk {S' : Dk} {C : Nat → Prop} {jb : Nat} {tv : Value} {U : List Ye} (hok : c.ok) (h1 : ∀ x, C x → wz.heap.size ≤ x ∧ ¬ A x) (h3 : CM C w cb (Pt sb) (Pt jb) c.p tv U c.o) (h4 : U.map Ye.y = c.L) (h5 : Lw wz (fun x => A x ∨ C x) sb jb c.p.P c.J S' w') (h6 : ChA wz (fun x => A x ∨ C x) w w') : CW wz A sb cb { c with S := S' } w' ∧ ChA wz A w w' :=
  ⟨⟨⟨C, jb, tv, U, h1, h5, h3.keep (fun x hx => h6.block x (h3.kl x hx) (fun h => h.2 (.inr hx))) h6.size, h4⟩, ⟨hok.pl, hok.pn, hok.ln⟩⟩, cha_less h6 (fun _ hx => .inl hx)⟩
/-- The coordinator is opened anew. -/
def CwO (wz : World) (A : Nat → Prop) (sb : Nat) (c' : Cs) (w : World) (e : Ending) (w' : World) : Prop := ∃ cb', e = .returned (.tuple #[Pt cb', .int .i64 0]) ∧ CW wz A sb cb' c' w' ∧ ChA wz A w w'
theorem cw_open {J : Jn} (h : CW wz A sb cb c w) (ho : Ov w ov p.l) (hp : p.is = true) (hg : Gd p.P J c.S) (hrd : c.S.rd < 9223372036854775800) : Calls Try.prog 38 #[.agg #[.int .i64 p.P, .int .i64 p.S, .int .i64 p.W, ov, .int .i64 p.A, .int .i64 p.B, .int .i64 p.N, .int .i64 p.G], Pt sb] w (CwO wz A sb ⟨p0 p, J, rdK c.S 2, [], false⟩ w) := by
  obtain ⟨C, jb, tv, V, h1, h2, h3, h4⟩ := h.ex
  refine (copen_walk (p := p) (h2.less (fun x hx => .inl hx)) ho hrd).mono ?_
  obtain ⟨⟨hP, _⟩, _⟩ := Pn.is_num hp
  obtain ⟨k1, k2⟩ := hg.opn hP
  rintro e w' ⟨hch, (⟨h5, _⟩ | ⟨_, h5, _⟩ | ⟨hh, g, n, cb', _, _, h6, rfl, _, h7⟩)⟩
  · exact absurd (by have := p.chk_is; rw [hp] at this; exact eq_of_beq this) h5
  · exact absurd k1 h5
  · rw [hg.found] at h6
    cases h6
    refine ⟨cb', rfl, ?_, hch⟩
    rw [k2] at h7
    have : (⟨J.g, J.n, J.h, false⟩ : Jn) = J := by have := hg.no; cases J; simp only at this; subst this; rfl
    unfold newC at h7
    rw [this] at h7
    exact h7
end

end Go.Proofs.Ytpndafieknddcaa
