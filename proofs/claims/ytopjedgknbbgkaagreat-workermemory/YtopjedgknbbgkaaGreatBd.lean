/- WorkerTables, WorkerMemory: a worker beside its source and whatever else is kept. -/
import Derived.Test.YtopjedgknbbgkaaGreatBc
namespace Go.Proofs.YtopjedgknbbgkaaGreat

open Go.RowKit



/-- A worker beside its source, the attempts that it holds, and whatever else is kept: it stays as long as no block of K is written. -/
structure Sz (w0 : Nat) (K : Nat → Prop) (w : World) (sb : Nat) (S : Sc) (P b : Nat) (ov : Value) (p : Pn) (L : List At) (H : List Hh) (F : World → Prop) : Prop where
  pw : Pw w0 K w sb S P b ov p 1 L
  lh : L.map (·.h) = H
  ph : F w
  st : ∀ (D : Nat → Prop) (u u' : World), F u → (∀ x, K x → ¬ D x) → Ch D u u' → F u'
  w0 : w0 ≤ w.heap.size
section

variable {w0 : Nat} {K : Nat → Prop} {w w' : World} {sb : Nat} {S : Sc} {P b : Nat} {ov : Value} {p : Pn} {L : List At} {H : List Hh} {F : World → Prop}

theorem Sz.nk (h : Sz w0 K w sb S P b ov p L H F) (hc : Ch (NK w0 K) w w') : F w' := h.st _ w w' h.ph (fun _ hx e => e.1 hx) hc
theorem Sz.below (h : Sz w0 K w sb S P b ov p L H F) (hb : Below w.heap.size w w') : Sz w0 K w' sb S P b ov p L H F :=
  ⟨h.pw.below hb, h.lh, h.st (fun _ => False) w w' h.ph (fun _ _ e => e) (Ch.of_below hb), h.st, Nat.le_trans h.w0 hb.size⟩
/-- What a call made is kept besides. -/
theorem Sz.more (h : Sz w0 K w sb S P b ov p L H F) (hb : Below w.heap.size w w') {G : World → Prop} (hg : G w') (hs : ∀ (D : Nat → Prop) (u u' : World), G u → (∀ x, w.heap.size ≤ x → x < w'.heap.size → ¬ D x) → Ch D u u' → G u') :
    Sz w0 (fun z => K z ∨ (w.heap.size ≤ z ∧ z < w'.heap.size)) w' sb S P b ov p L H (fun u => F u ∧ G u) :=
  ⟨h.pw.more hb, h.lh, ⟨(h.below hb).ph, hg⟩, fun D u u' hu hd hc => ⟨h.st D u u' hu.1 (fun _ hx => hd _ (.inl hx)) hc, hs D u u' hu.2 (fun _ h1 h2 => hd _ (.inr ⟨h1, h2⟩)) hc⟩, Nat.le_trans h.w0 hb.size⟩
/-- Something else that is kept already. -/
theorem Sz.add (h : Sz w0 K w sb S P b ov p L H F) {G : World → Prop} (hg : G w) (hs : ∀ (D : Nat → Prop) (u u' : World), G u → (∀ x, K x → ¬ D x) → Ch D u u' → G u') : Sz w0 K w sb S P b ov p L H (fun u => F u ∧ G u) :=
  ⟨h.pw, h.lh, ⟨h.ph, hg⟩, fun D u u' hu hd hc => ⟨h.st D u u' hu.1 hd hc, hs D u u' hu.2 hd hc⟩, h.w0⟩
/-- What isn't needed any more is let go. -/
theorem Sz.less (h : Sz w0 K w sb S P b ov p L H F) {G : World → Prop} (hg : G w) (hs : ∀ (D : Nat → Prop) (u u' : World), G u → (∀ x, K x → ¬ D x) → Ch D u u' → G u') : Sz w0 K w sb S P b ov p L H G :=
  ⟨h.pw, h.lh, hg, hs, h.w0⟩
theorem sz_produce (h : Sz w0 K w sb S P b ov p L H F) (j : Int) {r : Rcd} (hr : r.ok) : Calls Tryz.prog 13 #[.pointer (some ⟨sb, 0, none⟩), .int .i64 j, .agg #[.int .u64 r.k, .float .f64 r.x]] w fun e w' =>
    e = .returned (.int .i64 (prodS S j r).1) ∧ Sz w0 K w' sb (prodS S j r).2 P b ov p L H F ∧ Below w0 w w' := by
  refine (pw_produce h.pw h.w0 j hr).mono ?_
  rintro e w' ⟨rfl, hp, hc⟩
  exact ⟨rfl, ⟨hp, h.lh, h.nk hc, h.st, Nat.le_trans h.w0 hc.size⟩, nk_below hc h.w0⟩
theorem sz_switch (h : Sz w0 K w sb S P b ov p L H F) (j : Int) (on : Bool) : Calls Tryz.prog 14 #[.pointer (some ⟨sb, 0, none⟩), .int .i64 j, .bool on] w fun e w' =>
    e = .returned (.int .i64 (switchI S j)) ∧ Sz w0 K w' sb (switchS S j on) P b ov p L H F ∧ Below w0 w w' := by
  refine (pw_switch h.pw j on).mono ?_
  rintro e w' ⟨rfl, hp, hc⟩
  exact ⟨rfl, ⟨hp, h.lh, h.nk hc, h.st, Nat.le_trans h.w0 hc.size⟩, nk_below hc h.w0⟩
/-- A row is kept. -/
theorem keep_row {base e s n : Nat} {v : Value} {xs : List Value} (hk : ∀ x, v.ownBlock = some x → K x) : ∀ (D : Nat → Prop) (u u' : World), u.ownsRow base e s v n xs → (∀ x, K x → ¬ D x) → Ch D u u' → u'.ownsRow base e s v n xs :=
  fun _ _ _ hu hd hc => own_ch hu hc (fun x hx => hd x (hk x hx))
/-- A plan's block is kept. -/
theorem keep_bx {X : Nat} {ovc : Value} (hk : K X) : ∀ (D : Nat → Prop) (u u' : World), Bx u X p ovc → (∀ x, K x → ¬ D x) → Ch D u u' → Bx u' X p ovc := fun _ _ _ hu hd hc => hu.ch hc (hd X hk)
/-- An answer of Take is kept. -/
theorem MrK.chg {w : World} {lo : Nat} {v : Value} {M : List Tq} {D : Nat → Prop} (h : MrK K w lo v M) (hd : ∀ x, K x → ¬ D x) (hc : Ch D w w') : MrK K w' lo v M := by
  exact ⟨⟨own_ch h.r.own hc (fun x hx => hd x (h.kv x hx)), fun t ht => ⟨own_ch (h.r.ent t ht).e hc (fun x hx => hd x (h.ke t ht x (.inl hx))), own_ch (h.r.ent t ht).q hc (fun x hx => hd x (h.ke t ht x (.inr (.inl hx)))), own_ch (h.r.ent t ht).p hc (fun x hx => hd x (h.ke t ht x (.inr (.inr hx)))), (h.r.ent t ht).ok⟩⟩, h.kv, h.ke⟩
/-- Take: what it answers is kept. -/
theorem sz_take {m : Ms} {ea qa pa : Option Addr} {en ec qn qc pn pc : Nat} (h : Sz w0 K w sb S P b ov p L H F) (hH : H.length ≤ 4096) (hm : ML w m (.slice ea en ec) (.slice qa qn qc) (.slice pa pn pc)) (hok : m.ok) {r : List Ms × List Hh} (ht : takC 1 m = 0 ∧ takA p 1 S m H = r) :
    Calls Tryz.prog 9 #[.pointer (some ⟨P, 0, none⟩), .pointer (some ⟨sb, 0, none⟩), .agg #[.int .i64 m.K, .int .i64 m.F, .int .i64 m.T, .int .i64 m.B, .int .i64 m.A, .int .i64 m.C, .slice ea en ec, .slice qa qn qc, .slice pa pn pc]] w fun e w' =>
      ∃ a c K' L' M lo, e = .returned (.tuple #[.slice a r.1.length c, .int .i64 0]) ∧ M.map (·.m) = r.1 ∧ (∀ x, K x → K' x) ∧ w0 ≤ lo ∧ Sz w0 K' w' sb S P b ov p L' r.2 (fun u => F u ∧ MrK K' u lo (.slice a r.1.length c) M) ∧ Below w0 w w' := by
  refine (pw_take h.pw h.w0 hm hok (by rw [len_h h.lh]; exact hH)).mono ?_
  rintro e w' ⟨v, rfl, K', M, lo, L', hk1, hk2, hM, e1, e2, hlo, hp, hc⟩
  rw [h.lh, ht.2] at e1 e2
  rw [ht.1]
  have hMK : MrK K' w' lo v M := mrk_of hM hk2
  obtain ⟨a, c, rfl⟩ := own_formN hM.own
  have hl : M.length = r.1.length := by rw [← e1, List.length_map]
  rw [hl] at hMK ⊢
  exact ⟨a, c, K', L', M, lo, rfl, e1, hk1, Nat.le_trans h.w0 hlo, ⟨hp, e2, ⟨h.nk hc, hMK⟩, fun D u u' hu hd hc => ⟨h.st D u u' hu.1 (fun x hx => hd x (hk1 x hx)) hc, hu.2.chg hd hc⟩, Nat.le_trans h.w0 hc.size⟩, nk_below hc h.w0⟩
end

/-- A source that has grown. -/
def Grw (S S' : Sc) : Prop := S'.np = S.np ∧ ∀ q, ∃ t, S'.logs q = S.logs q ++ t
theorem grw_refl (S : Sc) : Grw S S := ⟨rfl, fun _ => ⟨[], by simp⟩⟩
theorem grw_adds {S S' : Sc} (h : ∀ q, ∃ t, S'.logs q = S.logs q ++ t) (k : Nat) (r : Rcd) (ks : List Nat) (q : Nat) : ∃ t, (addS S' k r ks).logs q = S.logs q ++ t := by
  obtain ⟨t, ht⟩ := h q
  unfold addS upd
  simp only
  split
  · rename_i e
    exact ⟨t ++ [r], by rw [← e, ht, List.append_assoc]⟩
  · exact ⟨t, ht⟩
theorem grw_prod {S S' : Sc} (h : Grw S S') (j : Int) (r : Rcd) : Grw S (prodS S' j r).2 := by
  refine ⟨(prod_np S' j r).1.trans h.1, fun q => ?_⟩
  unfold prodS
  split
  · split
    · exact h.2 q
    · split
      · split
        · exact grw_adds h.2 _ _ _ q
        · exact h.2 q
      · exact grw_adds h.2 _ _ _ q
  · exact h.2 q
theorem grw_switch {S S' : Sc} (h : Grw S S') (j : Int) (on : Bool) : Grw S (switchS S' j on) := by
  refine ⟨(switch_np S' j on).1.trans h.1, fun q => ?_⟩
  unfold switchS
  split
  · exact h.2 q
  · exact h.2 q
theorem fit_grw {S S' : Sc} {a : List Int} (h : Grw S S') (ha : Fit S a) : Fit S' a := by
  refine ⟨ha.1.trans h.1.symm, fun i hi => ⟨(ha.2 i hi).1, Int.le_trans (ha.2 i hi).2 ?_⟩⟩
  have hi' : i < S.np := by rw [← ha.1]; exact hi
  rw [lenS_at hi', lenS_at (by rw [h.1]; exact hi')]
  obtain ⟨t, ht⟩ := h.2 i
  rw [ht, List.length_append]
  omega
theorem bet_grw {S S' : Sc} {a b : List Int} (h : Grw S S') (ha : Fit S a) (hb : Fit S b) : ∀ k, k ≤ S.np → betS S' a b k = betS S a b k
  | 0, _ => rfl
  | k + 1, hk => by
    obtain ⟨t, ht⟩ := h.2 k
    have h1 := ha.2 k (by rw [ha.1]; omega)
    have h2 := hb.2 k (by rw [hb.1]; omega)
    rw [lenS_at (by omega)] at h1 h2
    simp only [betS]
    rw [bet_grw h ha hb k (by omega), ht, List.drop_append_of_le_length (by omega), List.take_append_of_le_length (by rw [List.length_drop]; omega)]
theorem again_grw {S S' : Sc} {a b : List Int} (h : Grw S S') (ha : Fit S a) (hb : Fit S b) (hf : Fwd a b) : againI S' a b = 0 ∧ againR S' a b = betS S a b a.length := by
  have hy := again_yes ⟨fit_grw h ha, fit_grw h hb, hf⟩
  unfold againI againR
  rw [if_pos hy, if_pos hy]
  exact ⟨rfl, bet_grw h ha hb _ (by rw [ha.1]; exact Nat.le_refl _)⟩
end Go.Proofs.YtopjedgknbbgkaaGreat
