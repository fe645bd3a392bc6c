/- WorkerLate. -/
import Derived.Test.YtgahfhpmlalplaaGreatBa
namespace Go.Proofs.YtgahfhpmlalplaaGreat

open Go.RowKit



/-- A row of ints that is kept. -/
structure Lf (w0 : Nat) (K : Nat → Prop) (w : World) (va : Option Addr) (vc : Nat) (f : List Int) : Prop where
  r : w.ownsRow w0 3 1 (.slice va f.length vc) f.length (cellsN f)
  k : ∀ x, (Value.slice va f.length vc).ownBlock = some x → K x
/-- An answer of Held that is kept. -/
structure Hk (w0 : Nat) (K : Nat → Prop) (w : World) (v : Value) (F : List Hq) : Prop where
  r : Hr w w0 v F
  kv : ∀ x, v.ownBlock = some x → K x
  ke : ∀ t ∈ F, ∀ x, t.ev.ownBlock = some x → K x
/-- All that the statement keeps, behind the first Held. -/
structure Sx (w0 : Nat) (K : Nat → Prop) (w : World) (sb : Nat) (S : Sc) (P b : Nat) (ov : Value) (p : Pn) (L : List At) (H : List Hh) (X R : Nat) (ovc ev : Value) (E : List Int) (va : Option Addr) (vc : Nat) (f : List Int) (bv : Value) (F : List Hq) : Prop where
  pw : Pw w0 K w sb S P b ov p 1 L
  lh : L.map (·.h) = H
  ls : Ls w0 K w X R p ovc ev E
  lf : Lf w0 K w va vc f
  hk : Hk w0 K w bv F
  w0 : w0 ≤ w.heap.size
section

variable {w0 : Nat} {K : Nat → Prop} {w w' : World} {sb : Nat} {S : Sc} {P b : Nat} {ov : Value} {p : Pn} {L : List At} {H : List Hh} {X R : Nat} {ovc ev : Value} {E : List Int} {va : Option Addr} {vc : Nat} {f : List Int} {bv : Value} {F : List Hq}

theorem Lf.below (h : Lf w0 K w va vc f) (hb : Below w.heap.size w w') : Lf w0 K w' va vc f := ⟨own_belowC h.r hb, h.k⟩
theorem Lf.nk (h : Lf w0 K w va vc f) (hc : Ch (NK w0 K) w w') : Lf w0 K w' va vc f := ⟨own_nk h.r hc h.k, h.k⟩
theorem Lf.mono {K' : Nat → Prop} (h : Lf w0 K w va vc f) (hk : ∀ x, K x → K' x) : Lf w0 K' w va vc f := ⟨h.r, fun x hx => hk x (h.k x hx)⟩
theorem Hk.below (h : Hk w0 K w bv F) (hb : Below w.heap.size w w') : Hk w0 K w' bv F := ⟨h.r.below hb, h.kv, h.ke⟩
theorem Hk.nk (h : Hk w0 K w bv F) (hc : Ch (NK w0 K) w w') : Hk w0 K w' bv F := ⟨⟨own_nk h.r.own hc h.kv, fun t ht => ⟨own_nk (h.r.ent t ht).e hc (h.ke t ht), (h.r.ent t ht).ok⟩⟩, h.kv, h.ke⟩
theorem Hk.mono {K' : Nat → Prop} (h : Hk w0 K w bv F) (hk : ∀ x, K x → K' x) : Hk w0 K' w bv F := ⟨h.r, fun x hx => hk x (h.kv x hx), fun t ht x hx => hk x (h.ke t ht x hx)⟩
theorem Sx.below (h : Sx w0 K w sb S P b ov p L H X R ovc ev E va vc f bv F) (hb : Below w.heap.size w w') : Sx w0 K w' sb S P b ov p L H X R ovc ev E va vc f bv F :=
  ⟨h.pw.below hb, h.lh, h.ls.below hb, h.lf.below hb, h.hk.below hb, Nat.le_trans h.w0 hb.size⟩
/-- What a Take leaves of it, whatever it answers. -/
def SxT (w0 : Nat) (w : World) (sb : Nat) (S : Sc) (P b : Nat) (ov : Value) (p : Pn) (r : List Ms × List Hh) (X R : Nat) (ovc ev : Value) (E : List Int) (va : Option Addr) (vc : Nat) (f : List Int) (bv : Value) (F : List Hq) (w' : World) : Prop :=
  ∃ K' L', Sx w0 K' w' sb S P b ov p L' r.2 X R ovc ev E va vc f bv F ∧ Below w0 w w'
theorem sx_take {m : Ms} {ea qa pa : Option Addr} {en ec qn qc pn pc : Nat} (h : Sx w0 K w sb S P b ov p L H X R ovc ev E va vc f bv F) (hH : H.length ≤ 4096) (hm : ML w m (.slice ea en ec) (.slice qa qn qc) (.slice pa pn pc)) (hok : m.ok) {r : List Ms × List Hh} (hc0 : takC 1 m = 0) (ht : takA p 1 S m H = r) :
    Calls Tryz.prog 13 #[.pointer (some ⟨P, 0, none⟩), .pointer (some ⟨sb, 0, none⟩), .agg #[.int .i64 m.K, .int .i64 m.F, .int .i64 m.T, .int .i64 m.B, .int .i64 m.A, .int .i64 m.C, .slice ea en ec, .slice qa qn qc, .slice pa pn pc]] w fun e w' =>
      ∃ a c, e = .returned (.tuple #[.slice a r.1.length c, .int .i64 0]) ∧ SxT w0 w sb S P b ov p r X R ovc ev E va vc f bv F w' := by
  refine (pw_take h.pw h.w0 hm hok (by rw [len_h h.lh]; exact hH)).mono ?_
  rintro e w' ⟨v, rfl, K', M, lo, L', hk1, hk2, hM, e1, e2, hlo, hp, hc⟩
  rw [h.lh, ht] at e1 e2
  rw [hc0]
  obtain ⟨a, c, rfl⟩ := own_formN hM.own
  have hl : M.length = r.1.length := by rw [← e1, List.length_map]
  rw [hl]
  exact ⟨a, c, rfl, K', L', ⟨hp, e2, (h.ls.nk hc).mono hk1, (h.lf.nk hc).mono hk1, (h.hk.nk hc).mono hk1, Nat.le_trans h.w0 hc.size⟩, nk_below hc h.w0⟩
/-- Held once more, held against what was told. -/
theorem sx_held (h : Sx w0 K w sb S P b ov p L H X R ovc ev E va vc f bv F) (hH : H.length ≤ 4096) : Calls Tryz.prog 21 #[.pointer (some ⟨P, 0, none⟩)] w fun e w' => ∃ a c G, e = .returned (.slice a H.length c) ∧ Hr w' w.heap.size (.slice a H.length c) G ∧ G.map (·.h) = H.map heH ∧ Below w.heap.size w w' := by
  refine (held_walk h.pw.wm (by rw [len_h h.lh]; exact hH)).mono ?_
  rintro e w' ⟨v, rfl, G, hG, hm, hb⟩
  have e2 : G.map (·.h) = H.map heH := by rw [hm, ← h.lh, List.map_map]; rfl
  have hl : G.length = H.length := by have := congrArg List.length e2; simpa using this
  obtain ⟨a, c, rfl⟩ := own_formN hG.own
  rw [hl] at hG ⊢
  exact ⟨a, c, G, rfl, hG, e2, hb⟩
end

theorem prod_logs (S : Sc) (j : Int) (r : Rcd) (q : Nat) : (S.logs q).length ≤ ((prodS S j r).2.logs q).length := by
  have h : ∀ (k : Nat) (ks : List Nat), (S.logs q).length ≤ ((addS S k r ks).logs q).length := fun k ks => by
    unfold addS upd
    simp only
    split
    · rename_i e; rw [e]; simp
    · exact Nat.le_refl _
  unfold prodS
  split
  · split
    · exact Nat.le_refl _
    · split
      · split
        · exact h _ _
        · exact Nat.le_refl _
      · exact h _ _
  · exact Nat.le_refl _
theorem fit_prod {S : Sc} {f : List Int} (h : Fit S f) (j : Int) (r : Rcd) : Fit (prodS S j r).2 f := by
  refine ⟨h.1.trans (prod_np S j r).1.symm, fun i hi => ⟨(h.2 i hi).1, Int.le_trans (h.2 i hi).2 ?_⟩⟩
  have hi' : i < S.np := by rw [← h.1]; exact hi
  rw [lenS_at hi', lenS_at (by rw [(prod_np S j r).1]; exact hi')]
  have := prod_logs S j r i
  omega
theorem fit_switch {S : Sc} {f : List Int} (h : Fit S f) (j : Int) (on : Bool) : Fit (switchS S j on) f := by
  refine ⟨h.1.trans (switch_np S j on).1.symm, fun i hi => ?_⟩
  have hi' : i < S.np := by rw [← h.1]; exact hi
  have e : lenS (switchS S j on) i = lenS S i := by
    rw [lenS_at hi', lenS_at (by rw [(switch_np S j on).1]; exact hi')]
    unfold switchS
    split <;> rfl
  rw [e]; exact h.2 i hi


theorem snd_endA {k a : Int} {E : List Int} (hk : k = 1 ∨ k = 3) (hE : endB E = true) (ha : 1 ≤ a ∧ a ≤ 8) : sndM ⟨k, 0, 1, 3, a, 0, E, [], []⟩ = true := by
  have hf : fld k = 1 := by rcases hk with rfl | rfl <;> rfl
  unfold sndM
  simp only
  rw [hf]
  unfold bareB askB
  have h1 : ctB a = true := by unfold ctB; simp; omega
  simp [nodB, h1, hE]
  unfold ctB
  simp
theorem tk_coA {p : Pn} {S : Sc} {k a : Int} {E : List Int} {H : List Hh} (hp : p.is = true) (hk : k = 1 ∨ k = 3) (hE : endB E = true) (ha : 1 ≤ a ∧ a ≤ 8) : takC 1 ⟨k, 0, 1, 3, a, 0, E, [], []⟩ = 0 ∧ takA p 1 S ⟨k, 0, 1, 3, a, 0, E, [], []⟩ H = coH p 1 S ⟨k, 0, 1, 3, a, 0, E, [], []⟩ H := by
  have hs := snd_endA hk hE ha
  unfold takC takA
  rw [hs]
  exact ⟨rfl, by rw [if_pos ⟨rfl, rfl⟩, if_pos (kind_co hp)]⟩
/-- An attempt that is held isn't read anew. -/
theorem tk_again {p : Pn} {S S' : Sc} {f : List Int} {A : List Bool} {a : Int} (hp : p.is = true) (hE : endB f = true) (ha : 1 ≤ a ∧ a ≤ 7) : takC 1 ⟨1, 0, 1, 3, a, 0, f, [], []⟩ = 0 ∧ takA p 1 S' ⟨1, 0, 1, 3, a, 0, f, [], []⟩ [h37 p S f false A] = ([], [h37 p S f false A]) := by
  obtain ⟨h1, h2⟩ := tk_coA (S := S') (H := [h37 p S f false A]) hp (.inl rfl) hE (a := a) (by omega)
  refine ⟨h1, h2.trans ?_⟩
  unfold coH
  rw [if_pos rfl]
  unfold asgH
  rw [if_pos]
  unfold heldB
  simp only
  rw [at_three (h := h37 p S f false A) rfl]
  simp only [h37]
  exact decide_eq_true (by omega)
/-- MsgGo with other ends does nothing. -/
theorem tk_other {p : Pn} {S S' : Sc} {f G : List Int} {A : List Bool} (hp : p.is = true) (hE : endB G = true) (hne : ¬ formT S f p.B = G) : takC 1 ⟨3, 0, 1, 3, 7, 0, G, [], []⟩ = 0 ∧ takA p 1 S' ⟨3, 0, 1, 3, 7, 0, G, [], []⟩ [h37 p S f false A] = ([], [h37 p S f false A]) := by
  obtain ⟨h1, h2⟩ := tk_coA (S := S') (H := [h37 p S f false A]) hp (.inr rfl) hE (a := 7) (by omega)
  refine ⟨h1, h2.trans ?_⟩
  unfold coH
  rw [if_neg (show ¬ (3 : Int) = 1 by decide), if_pos rfl]
  unfold goH
  simp only
  rw [at_three (h := h37 p S f false A) rfl]
  simp only
  rw [if_neg (fun h => hne h.2.2)]
/-- A higher attempt takes its place. -/
def h38 (p : Pn) (S : Sc) (f : List Int) : Hh := ⟨3, 8, formT S f p.B, batchT p.l p.A (betS S f (formT S f p.B) f.length), List.replicate p.n false, false⟩
theorem tk_higher {p : Pn} {S S' : Sc} {f : List Int} {A : List Bool} (hp : p.is = true) (hok : S'.ok) (h : Fit S' f) : takC 1 ⟨1, 0, 1, 3, 8, 0, f, [], []⟩ = 0 ∧ takA p 1 S' ⟨1, 0, 1, 3, 8, 0, f, [], []⟩ [h37 p S f false A] = ([⟨2, 1, 0, 3, 8, 0, formT S' f p.B, [], []⟩], [h38 p S' f]) := by
  obtain ⟨h1, h2⟩ := tk_coA (S := S') (H := [h37 p S f false A]) hp (.inl rfl) (fit_end hok h) (a := 8) (by omega)
  obtain ⟨f0, f1, f2⟩ := fit_form hp h
  refine ⟨h1, h2.trans ?_⟩
  unfold coH
  rw [if_pos rfl]
  unfold asgH
  rw [if_neg, if_pos f0]
  · simp only [f1, f2]
    rfl
  · unfold heldB
    simp only
    rw [at_three (h := h37 p S f false A) rfl]
    simp [h37]
theorem tk_low {p : Pn} {S S' : Sc} {f G : List Int} (hp : p.is = true) (hE : endB G = true) : takC 1 ⟨3, 0, 1, 3, 7, 0, G, [], []⟩ = 0 ∧ takA p 1 S' ⟨3, 0, 1, 3, 7, 0, G, [], []⟩ [h38 p S f] = ([], [h38 p S f]) := by
  obtain ⟨h1, h2⟩ := tk_coA (S := S') (H := [h38 p S f]) hp (.inr rfl) hE (a := 7) (by omega)
  refine ⟨h1, h2.trans ?_⟩
  unfold coH
  rw [if_neg (show ¬ (3 : Int) = 1 by decide), if_pos rfl]
  unfold goH
  simp only
  rw [at_three (h := h38 p S f) rfl]
  simp only
  rw [if_neg (fun h => by have h2 : (8 : Int) = 7 := h.1; omega)]
/-- A code ends the attempt. -/
theorem tk_ends {p : Pn} {S S' : Sc} {f : List Int} {A : List Bool} {k c : Int} {j : Nat} (hp : p.is = true) (hk : k = 5 ∨ k = 7) (hj : j < p.n) (hc : 1 ≤ c ∧ c ≤ 1000) : takC 1 ⟨k, 1 + p.W + (j : Int), 1, 3, 7, c, [], [], []⟩ = 0 ∧ takA p 1 S' ⟨k, 1 + p.W + (j : Int), 1, 3, 7, c, [], [], []⟩ [h37 p S f true A] = ([], []) := by
  obtain ⟨h1, h2⟩ := tk_st (S := S') (H := [h37 p S f true A]) hp hk hj (c := c) (by omega)
  refine ⟨h1, h2.trans ?_⟩
  unfold ansH
  simp only
  rw [at_three (h := h37 p S f true A) rfl]
  simp only
  rw [if_pos ⟨rfl, rfl, hk⟩, if_pos (by omega)]
  rfl
theorem tk_gone {p : Pn} {S' : Sc} {j : Nat} (hp : p.is = true) (hj : j < p.n) : takC 1 ⟨5, 1 + p.W + (j : Int), 1, 3, 7, 0, [], [], []⟩ = 0 ∧ takA p 1 S' ⟨5, 1 + p.W + (j : Int), 1, 3, 7, 0, [], [], []⟩ [] = ([], []) := by
  obtain ⟨h1, h2⟩ := tk_st (S := S') (H := []) hp (.inl rfl) hj (c := 0) (by omega)
  exact ⟨h1, h2.trans rfl⟩


theorem end_nth {E : List Int} (h : endB E = true) : 1 ≤ E.length ∧ E.length ≤ 4 ∧ 0 ≤ nth E 0 ∧ nth E 0 ≤ 256 := by
  cases E with
  | nil => simp [endB] at h
  | cons e t =>
    simp [endB] at h
    simp [nth]
    omega
theorem end_set {E : List Int} (h : endB E = true) {x : Int} (hx : 0 ≤ x ∧ x ≤ 256) : endB (E.set 0 x) = true := by
  cases E with
  | nil => exact h
  | cons e t =>
    simp [endB] at h ⊢
    exact ⟨h.1, hx, h.2.2⟩
theorem end_i64 {E : List Int} (h : endB E = true) : ∀ x ∈ E, in64 x := fun x hx => by
  unfold endB at h
  simp only [Bool.and_eq_true, List.all_eq_true, decide_eq_true_eq] at h
  have := h.2 x hx
  unfold in64
  omega
theorem set_not {E : List Int} {x : Int} (h : 1 ≤ E.length) (hx : ¬ x = nth E 0) : ¬ E = E.set 0 x := by
  cases E with
  | nil => simp at h
  | cons e t => intro he; simp at he; exact hx (by simp [nth]; exact he.symm)
section

variable {w0 : Nat} {K : Nat → Prop} {w w' : World} {sb : Nat} {S : Sc} {P b : Nat} {ov : Value} {p : Pn} {L : List At} {H : List Hh} {X R : Nat} {ovc ev : Value} {E : List Int} {va : Option Addr} {vc : Nat} {f : List Int} {bv : Value} {F : List Hq}

theorem sx_takeN {m : Ms} {ea qa pa : Option Addr} {en ec qn qc pn pc n : Nat} (h : Sx w0 K w sb S P b ov p L H X R ovc ev E va vc f bv F) (hH : H.length ≤ 4096) (hm : ML w m (.slice ea en ec) (.slice qa qn qc) (.slice pa pn pc)) (hok : m.ok) {r : List Ms × List Hh} (ht : takC 1 m = 0 ∧ takA p 1 S m H = r) (hn : r.1.length = n) :
    Calls Tryz.prog 13 #[.pointer (some ⟨P, 0, none⟩), .pointer (some ⟨sb, 0, none⟩), .agg #[.int .i64 m.K, .int .i64 m.F, .int .i64 m.T, .int .i64 m.B, .int .i64 m.A, .int .i64 m.C, .slice ea en ec, .slice qa qn qc, .slice pa pn pc]] w fun e w' =>
      ∃ a c K' L', e = .returned (.tuple #[.slice a n c, .int .i64 0]) ∧ Sx w0 K' w' sb S P b ov p L' r.2 X R ovc ev E va vc f bv F ∧ Below w0 w w' := by
  refine (sx_take h hH hm hok ht.1 ht.2).mono ?_
  rintro e w' ⟨a, c, rfl, K', L', h1, h2⟩
  rw [hn]
  exact ⟨a, c, K', L', rfl, h1, h2⟩
/-- Held once more, kept in the place of what was told. -/
theorem sx_more {h1 : Hh} (h : Sx w0 K w sb S P b ov p L [h1] X R ovc ev E va vc f bv F) : Calls Tryz.prog 21 #[.pointer (some ⟨P, 0, none⟩)] w fun e w' => ∃ a c G K', e = .returned (.slice a 1 c) ∧ Sx w0 K' w' sb S P b ov p L [h1] X R ovc ev E va vc f (.slice a 1 c) G ∧ G.map (·.h) = [heH h1] ∧ Below w.heap.size w w' := by
  refine (sx_held h (by simp)).mono ?_
  rintro e w' ⟨a, c, G, rfl, hG, hm, hb⟩
  have hr : Hr w' w0 (.slice a 1 c) G := ⟨own_baseC hG.own h.w0, fun t ht => ⟨own_baseC (hG.ent t ht).e h.w0, (hG.ent t ht).ok⟩⟩
  exact ⟨a, c, G, fun z => K z ∨ (w.heap.size ≤ z ∧ z < w'.heap.size), rfl, ⟨h.pw.more hb, h.lh, (h.ls.below hb).mono (fun _ h => .inl h), (h.lf.below hb).mono (fun _ h => .inl h), ⟨hr, fun x hx => .inr ⟨(hG.own.lt x hx).1, (hG.own.lt x hx).2⟩, fun t ht x hx => .inr ⟨((hG.ent t ht).e.lt x hx).1, ((hG.ent t ht).e.lt x hx).2⟩⟩, Nat.le_trans h.w0 hb.size⟩, hm, hb⟩
theorem sx_none (h : Sx w0 K w sb S P b ov p L [] X R ovc ev E va vc f bv F) : Calls Tryz.prog 21 #[.pointer (some ⟨P, 0, none⟩)] w fun e w' => ∃ a c, e = .returned (.slice a 0 c) ∧ Below w.heap.size w w' := by
  refine (sx_held h (by simp)).mono ?_
  rintro e w' ⟨a, c, G, rfl, _, _, hb⟩
  exact ⟨a, c, rfl, hb⟩
end

theorem tk_ends0 {p : Pn} {S S' : Sc} {f : List Int} {A : List Bool} {k c : Int} (hp : p.is = true) (hk : k = 5 ∨ k = 7) (hn : 1 ≤ p.n) (hc : 1 ≤ c ∧ c ≤ 1000) : takC 1 ⟨k, 1 + p.W, 1, 3, 7, c, [], [], []⟩ = 0 ∧ takA p 1 S' ⟨k, 1 + p.W, 1, 3, 7, c, [], [], []⟩ [h37 p S f true A] = ([], []) := by
  have h := tk_ends (S := S) (S' := S') (f := f) (A := A) hp hk (j := 0) (by omega) hc
  rw [show (1 + p.W + ((0 : Nat) : Int)) = 1 + p.W by omega] at h
  exact h
theorem tk_gone0 {p : Pn} {S' : Sc} (hp : p.is = true) (hn : 1 ≤ p.n) : takC 1 ⟨5, 1 + p.W, 1, 3, 7, 0, [], [], []⟩ = 0 ∧ takA p 1 S' ⟨5, 1 + p.W, 1, 3, 7, 0, [], [], []⟩ [] = ([], []) := by
  have h := tk_gone (S' := S') hp (j := 0) (by omega)
  rw [show (1 + p.W + ((0 : Nat) : Int)) = 1 + p.W by omega] at h
  exact h


set_option maxRecDepth 100000 in
set_option maxHeartbeats 8000000 in
theorem workerlate_walk {w : World} {p : Pn} {oa ra fa : Option Addr} {oc rc fc : Nat} {recs : List Rcd} {off code how : Int} {fr : List Int} (ho : Ov w (.slice oa p.l.length oc) p.l) (hr : Rv w (.slice ra recs.length rc) recs) (hf : Nv w (.slice fa fr.length fc) fr) :
    Calls Tryz.prog 6 #[.agg #[.int .i64 p.P, .int .i64 p.S, .int .i64 p.W, .slice oa p.l.length oc, .int .i64 p.A, .int .i64 p.B, .int .i64 p.N, .int .i64 p.G, .slice ra recs.length rc, .int .i64 off, .slice fa fr.length fc], .int .i64 code, .int .i64 how] w fun e w' => e = .returned (.bool true) ∧ Below w.heap.size w w' := by
  have HO : Hid (Ov w (.slice oa p.l.length oc) p.l) := ho
  have HRV : Hid (Rv w (.slice ra recs.length rc) recs) := hr
  have HFV : Hid (Nv w (.slice fa fr.length fc) fr) := hf
  have HC0 : Hid _ := cb_new w p (.slice oa p.l.length oc) (.slice ra recs.length rc) off (.slice fa fr.length fc)
  have HB0 : Hid _ := below_alloc w (Obj.cells #[.int .i64 p.P, .int .i64 p.S, .int .i64 p.W, .slice oa p.l.length oc, .int .i64 p.A, .int .i64 p.B, .int .i64 p.N, .int .i64 p.G, .slice ra recs.length rc, .int .i64 off, .slice fa fr.length fc] 64)
  clear ho hr hf
  go_enter Tryz.func6, Tryz.ntmps6
  go_upto_region 1 with fail
  obtain ⟨C, hC⟩ : ∃ C, C = w.heap.size := ⟨_, rfl⟩
  rw [← hC] at HC0 ⊢
  clear hC
  generalize w.alloc (Obj.cells #[.int .i64 p.P, .int .i64 p.S, .int .i64 p.W, .slice oa p.l.length oc, .int .i64 p.A, .int .i64 p.B, .int .i64 p.N, .int .i64 p.G, .slice ra recs.length rc, .int .i64 off, .slice fa fr.length fc] 64) = wa at HC0 HB0 ⊢
  go_wp2_with fail
  refine (awake_walk wa).mono ?_
  rintro e w1 ⟨rfl, hB1⟩
  have HC1 : Hid _ := HC0.out.keep hB1
  have HB1 : Hid (Below w.heap.size w w1) := below_trans HB0.out hB1
  clear hB1 HC0 HB0
  have c0 := HC1.out.b.c0
  have c1 := HC1.out.b.c1
  have c2 := HC1.out.b.c2
  have c3 := HC1.out.b.c3
  have c4 := HC1.out.b.c4
  have c5 := HC1.out.b.c5
  have c6 := HC1.out.b.c6
  have c7 := HC1.out.b.c7
  have c8 := HC1.out.c8
  have c9 := HC1.out.c9
  have c10 := HC1.out.c10
  cases hp : p.is with
  | false =>
    have HP : Hid (p.is = false) := hp
    clear hp
    go_wp2_with fail
    refine (ready_no (HO.out.below HB1.out) (HRV.out.below HB1.out) (HFV.out.below HB1.out) HP.out).mono ?_
    rintro e w2 ⟨rfl, hB2⟩
    have HC2 : Hid _ := HC1.out.keep hB2
    have HB2 : Hid (Below w.heap.size w w2) := below_trans HB1.out hB2
    clear hB2 c0 c1 c2 c3 c4 c5 c6 c7 c8 c9 c10
    have c0 := HC2.out.b.c0
    have c1 := HC2.out.b.c1
    have c2 := HC2.out.b.c2
    have c3 := HC2.out.b.c3
    have c4 := HC2.out.b.c4
    have c5 := HC2.out.b.c5
    have c6 := HC2.out.b.c6
    have c7 := HC2.out.b.c7
    go_wp2_with fail
    refine (pcheck_walk (p := p) (HO.out.below HB2.out)).mono ?_
    rintro e w3 ⟨rfl, hB3⟩
    have HB3 : Hid (Below w.heap.size w w3) := below_trans HB2.out hB3
    have hc : (p.chk != 0) = true := by have h := Pn.chk_no HP.out; rw [bne, h]; rfl
    clear hB3 c0 c1 c2 c3 c4 c5 c6 c7
    go_wp2_with fail
    go_ret
    exact ⟨rfl, HB3.out⟩
  | true =>
    have HP : Hid (p.is = true) := hp
    have HNL : Hid (1 ≤ p.n ∧ p.n ≤ 4) := Pn.n_le hp
    have HSN : Hid (p.S = (p.n : Int)) := by have h1 := Pn.is_num hp; have h2 := Pn.n_is hp; show _ = _; omega
    obtain ⟨_, _, ⟨hw1, hw4⟩, _⟩ := Pn.is_num hp
    clear hp
    go_wp2_with fail
    refine (ready_ok (HO.out.below HB1.out) (HRV.out.below HB1.out) (HFV.out.below HB1.out) HP.out).mono ?_
    rintro e w2 ⟨sb, P, fv, rfl, K0, S, b, ov, f, hpw, hfo, hfk, hfit, hnp, hsl, hB2⟩
    obtain ⟨va, vc, rfl⟩ := own_formN hfo
    have HFO : Hid (w2.ownsRow w1.heap.size 3 1 (.slice va f.length vc) f.length (cellsN f)) := hfo
    have HFK : Hid (∀ x, (Value.slice va f.length vc).ownBlock = some x → K0 x) := hfk
    have HFit : Hid (Fit S f) := hfit
    have HOK : Hid S.ok := by obtain ⟨D, h1, _⟩ := hpw.src; exact h1.good
    have HPW : Hid (Pw w1.heap.size K0 w2 sb S P b ov p 1 []) := hpw
    have HC2 : Hid _ := HC1.out.keep hB2
    have HB2 : Hid (Below w1.heap.size w1 w2) := hB2
    clear hB2 c0 c1 c2 c3 c4 c5 c6 c7 c8 c9 c10 hpw hfo hfk hfit hnp hsl HC1
    have c0 := HC2.out.b.c0
    have c1 := HC2.out.b.c1
    have c2 := HC2.out.b.c2
    have c3 := HC2.out.b.c3
    have c4 := HC2.out.b.c4
    have c5 := HC2.out.b.c5
    have c6 := HC2.out.b.c6
    have c7 := HC2.out.b.c7
    go_upto_region 7 with fail
    clear c0 c1 c2 c3 c4 c5 c6 c7
    have HX3 : Hid (Bx _ w2.heap.size p (.slice oa p.l.length oc)) := box_new w2 p (.slice oa p.l.length oc)
    have HB23 : Hid _ := below_alloc w2 (Obj.cells #[.int .i64 p.P, .int .i64 p.S, .int .i64 p.W, .slice oa p.l.length oc, .int .i64 p.A, .int .i64 p.B, .int .i64 p.N, .int .i64 p.G] 24)
    have HP3 : Hid _ := HPW.out.more HB23.out
    have HXK : Hid (w2.heap.size ≤ w2.heap.size ∧ w2.heap.size < (w2.alloc (Obj.cells #[.int .i64 p.P, .int .i64 p.S, .int .i64 p.W, .slice oa p.l.length oc, .int .i64 p.A, .int .i64 p.B, .int .i64 p.N, .int .i64 p.G] 24)).heap.size) := ⟨Nat.le_refl _, by rw [size_allocC]; omega⟩
    have HFO3 : Hid (World.ownsRow _ w1.heap.size 3 1 (.slice va f.length vc) f.length (cellsN f)) := own_belowC HFO.out HB23.out
    obtain ⟨X, hX⟩ : ∃ X, X = w2.heap.size := ⟨_, rfl⟩
    rw [← hX] at HX3 ⊢
    have HXX : Hid (X = w2.heap.size) := hX
    clear hX
    generalize w2.alloc (Obj.cells #[.int .i64 p.P, .int .i64 p.S, .int .i64 p.W, .slice oa p.l.length oc, .int .i64 p.A, .int .i64 p.B, .int .i64 p.N, .int .i64 p.G] 24) = w3 at HX3 HB23 HP3 HXK HFO3 ⊢
    have HW3 : Hid (Below w1.heap.size w1 w3) := HB2.out.trans (HB23.out.mono HB2.out.size)
    go_wp2_with fail
    refine (msg17 1 0 0).mono ?_
    rintro e w4 ⟨rfl, hB4⟩
    have HP4 : Hid _ := HP3.out.below hB4
    have HX4 : Hid _ := HX3.out.below hB4 (by have h1 := HXK.out; have h2 := HXX.out; omega)
    have HFO4 : Hid (w4.ownsRow w1.heap.size 3 1 (.slice va f.length vc) f.length (cellsN f)) := own_belowC HFO3.out hB4
    have HW4 : Hid (Below w1.heap.size w1 w4) := HW3.out.trans (hB4.mono HW3.out.size)
    clear hB4 HFO HX3 HPW HC2
    go_wp2_with fail
    refine (show Calls Tryz.prog 13 #[.pointer (some ⟨P, 0, none⟩), .pointer (some ⟨sb, 0, none⟩), .agg #[.int .i64 1, .int .i64 0, .int .i64 1, .int .i64 3, .int .i64 7, .int .i64 0, .slice va f.length vc, .slice none 0 0, .slice none 0 0]] w4 _ from pw_take (m := ⟨1, 0, 1, 3, 7, 0, f, [], []⟩) HP4.out HW4.out.size (ml_e HFO4.out) (small_ok (by omega) (fun y hy => fit_i64 HOK.out HFit.out y hy) q0_ok p0_ok) (Nat.zero_le _)).mono ?_
    rintro e w5 ⟨v1, rfl, K1, M1, lo1, L1, hk1, hk2, hM, e1, e2, hlo, hp5, hc⟩
    rw [List.map_nil, (tk_assign HP.out HOK.out HFit.out).2] at e1 e2
    rw [(tk_assign HP.out HOK.out HFit.out).1]
    obtain ⟨g1, q1, ea, ec, xa, xc, ya, yc, rfl, hmx, hto, hke⟩ := mrk_one (mrk_of hM hk2) e1
    have HKX : Hid (K1 X) := hk1 X (.inr (by rw [HXX.out]; exact HXK.out))
    have HX5 : Hid _ := HX4.out.ch hc (fun e => e.1 (.inr (by rw [HXX.out]; exact HXK.out)))
    have HP5 : Hid (Pw w1.heap.size K1 w5 sb S P b ov p 1 L1) := hp5
    have HL1 : Hid (L1.map (·.h) = [h37 p S f false (List.replicate p.n false)]) := e2
    obtain ⟨E, hE⟩ : ∃ E, E = formT S f p.B := ⟨_, rfl⟩
    have HEE : Hid (E = formT S f p.B) := hE
    have HMX : Hid (MXo w5 g1 0 ⟨⟨2, 1, 0, 3, 7, 0, E, [], []⟩, .slice ea E.length ec, .slice xa 0 xc, .slice ya 0 yc⟩) := by rw [hE]; exact hmx
    have HTO : Hid (w5.ownsRow lo1 3 1 (.slice ea E.length ec) E.length (cellsN E)) := by rw [hE]; exact hto.e
    have HEO : Hid (In64 E) := by rw [hE]; exact hto.ok.E
    have HKE : Hid (∀ y, (Value.slice ea E.length ec).ownBlock = some y → K1 y) := by rw [hE]; exact hke
    clear hE
    have HW5 : Hid (Below w1.heap.size w1 w5) := HW4.out.trans (nk_below hc HW4.out.size)
    have HLO : Hid (w1.heap.size ≤ lo1) := Nat.le_trans HW4.out.size hlo
    have HFR5 : Hid (w5.ownsRow w1.heap.size 3 1 (.slice va f.length vc) f.length (cellsN f)) := own_nk HFO4.out hc (fun x hx => .inl (HFK.out x hx))
    have HFK1 : Hid (∀ x, (Value.slice va f.length vc).ownBlock = some x → K1 x) := fun x hx => hk1 x (.inl (HFK.out x hx))
    clear hk1 hk2 hM e1 e2 hlo hp5 hc hmx hto hke HX4 HP3 HP4 HFO3 HFO4 HB23 HB2
    go_wp2_with fail
    refine (show Calls Tryz.prog 27 #[.slice (some ⟨g1, 0, none⟩) 1 q1, .int .i64 0, .int .i64 2, .int .i64 0] w5 _ from one17 (m := ⟨2, 1, 0, 3, 7, 0, E, [], []⟩) (ea := ea) (en := E.length) (ec := ec) (qa := xa) (qn := 0) (qc := xc) (pa := ya) (pn := 0) (pc := yc) HMX.out rfl rfl rfl).mono ?_
    rintro e w6 ⟨rfl, hB6⟩
    dsimp only
    have HP6 : Hid (Pw w1.heap.size K1 w6 sb S P b ov p 1 L1) := HP5.out.below hB6
    have HX6 : Hid _ := HX5.out.below hB6 (cell_lt HX5.out.c0)
    have HTO6 : Hid (w6.ownsRow w1.heap.size 3 1 (.slice ea E.length ec) E.length (cellsN E)) := own_baseC (own_belowC HTO.out hB6) HLO.out
    have HW6 : Hid (Below w1.heap.size w1 w6) := HW5.out.trans (hB6.mono HW5.out.size)
    have HFR6 : Hid (w6.ownsRow w1.heap.size 3 1 (.slice va f.length vc) f.length (cellsN f)) := own_belowC HFR5.out hB6
    clear hB6 HP5 HX5 HTO HW5 HMX HLO HFR5
    go_upto_region 9 with fail
    have HBA : Hid _ := below_alloc w6 (Obj.cells #[.int .i64 2, .int .i64 1, .int .i64 0, .int .i64 3, .int .i64 7, .int .i64 0, .slice ea E.length ec, .slice xa 0 xc, .slice ya 0 yc] 48)
    have HP7 : Hid _ := HP6.out.more HBA.out
    have HRC : Hid ((w6.alloc (Obj.cells #[.int .i64 2, .int .i64 1, .int .i64 0, .int .i64 3, .int .i64 7, .int .i64 0, .slice ea E.length ec, .slice xa 0 xc, .slice ya 0 yc] 48)).cell? ⟨w6.heap.size, 6, none⟩ = some (.slice ea E.length ec)) := by show _ = _; simp [go_sem]
    have HRK : Hid (w6.heap.size ≤ w6.heap.size ∧ w6.heap.size < (w6.alloc (Obj.cells #[.int .i64 2, .int .i64 1, .int .i64 0, .int .i64 3, .int .i64 7, .int .i64 0, .slice ea E.length ec, .slice xa 0 xc, .slice ya 0 yc] 48)).heap.size) := ⟨Nat.le_refl _, by rw [size_allocC]; omega⟩
    have HX7 : Hid _ := HX6.out.below HBA.out (cell_lt HX6.out.c0)
    have HTO7 : Hid (World.ownsRow _ w1.heap.size 3 1 (.slice ea E.length ec) E.length (cellsN E)) := own_belowC HTO6.out HBA.out
    have HFR7 : Hid (World.ownsRow _ w1.heap.size 3 1 (.slice va f.length vc) f.length (cellsN f)) := own_belowC HFR6.out HBA.out
    obtain ⟨R, hR⟩ : ∃ R, R = w6.heap.size := ⟨_, rfl⟩
    have HRR : Hid (R = w6.heap.size) := hR
    rw [← hR] at HRC ⊢
    clear hR
    generalize w6.alloc (Obj.cells #[.int .i64 2, .int .i64 1, .int .i64 0, .int .i64 3, .int .i64 7, .int .i64 0, .slice ea E.length ec, .slice xa 0 xc, .slice ya 0 yc] 48) = w7 at HBA HP7 HRC HRK HX7 HTO7 HFR7 ⊢
    have HW7 : Hid (Below w1.heap.size w1 w7) := HW6.out.trans (HBA.out.mono HW6.out.size)
    obtain ⟨K2, hK2⟩ : ∃ K2 : Nat → Prop, K2 = fun z => K1 z ∨ (w6.heap.size ≤ z ∧ z < w7.heap.size) := ⟨_, rfl⟩
    have HPW : Hid (Pw w1.heap.size K2 w7 sb S P b ov p 1 L1) := by rw [hK2]; exact HP7.out
    have HLS : Hid (Ls w1.heap.size K2 w7 X R p (.slice oa p.l.length oc) (.slice ea E.length ec) E) := by
      rw [hK2]
      exact ⟨HX7.out, HRC.out, HTO7.out, HEO.out, .inl HKX.out, .inr (by rw [HRR.out]; exact HRK.out), fun y hy => .inl (HKE.out y hy)⟩
    have HLF : Hid (Lf w1.heap.size K2 w7 va vc f) := by rw [hK2]; exact ⟨HFR7.out, fun x hx => .inl (HFK1.out x hx)⟩
    clear HFR6 HFR7 HFK1
    clear hK2 HP6 HP7 HX6 HX7 HTO6 HTO7 HRC HRK HKE HKX HW6 HBA HXK HXX HRR HW3 HW4 HFK
    have HSP : Hid (Ls w1.heap.size K2 w7 X R p (.slice oa p.l.length oc) (.slice ea E.length ec) E ∧ Lf w1.heap.size K2 w7 va vc f) := ⟨HLS.out, HLF.out⟩
    obtain ⟨np, hnp⟩ : ∃ np : Nat, p.P = (np : Int) := ⟨p.P.toNat, by have := Pn.is_num HP.out; omega⟩
    have HPP : Hid (p.P = (np : Int)) := hnp
    have hnp4 : (np : Int) ≤ 4 := by have := Pn.is_num HP.out; omega
    clear hnp
    go_wp2_with fail
    go_loopw [15] (fun iv wr => ∃ (k : Nat) (S' : Sc), iv = .int .i64 k ∧ k ≤ np ∧ Pw w1.heap.size K2 wr sb S' P b ov p 1 L1 ∧ Fit S' f ∧ Ls w1.heap.size K2 wr X R p (.slice oa p.l.length oc) (.slice ea E.length ec) E ∧ Lf w1.heap.size K2 wr va vc f ∧ Below w1.heap.size w1 wr) (fun iv _ => np - (intOf iv).toNat)
    case atStart => exact ⟨0, S, rfl, Nat.zero_le _, HPW.out, HFit.out, HSP.out.1, HSP.out.2, HW7.out⟩
    case round =>
      obtain ⟨k, S', rfl, hkn, h1, h2, h3, h4, h5⟩ := hrel
      have HPr : Hid (Pw w1.heap.size K2 wr sb S' P b ov p 1 L1) := h1
      have HFr : Hid (Fit S' f) := h2
      have HLr : Hid (Ls w1.heap.size K2 wr X R p (.slice oa p.l.length oc) (.slice ea E.length ec) E) := h3
      have HLfr : Hid (Lf w1.heap.size K2 wr va vc f) := h4
      have HWr : Hid (Below w1.heap.size w1 wr) := h5
      clear h1 h2 h3 h4 h5 HPW HLS HLF HW7 HSP
      have d0 : wr.cell? ⟨X, 0, none⟩ = some (.int .i64 (np : Int)) := by rw [← HPP.out]; exact HLr.out.x.c0
      by_cases hlt : k < np
      · have hlti : (k : Int) < (np : Int) := by omega
        have HLT : Hid (k < np) := hlt
        clear hlt
        go_wp2_with fail
        refine (show Calls Tryz.prog 16 #[.pointer (some ⟨sb, 0, none⟩), .int .i64 (k : Int), .agg #[.int .u64 1, .float .f64 4607182418800017408]] wr _ from pw_produce HPr.out HWr.out.size (k : Int) (r := ⟨1, 4607182418800017408⟩) (by constructor <;> decide)).mono ?_
        rintro e w8 ⟨rfl, hp8, hc8⟩
        have HP8 : Hid _ := hp8
        have HL8 : Hid _ := HLr.out.nk hc8
        have HLf8 : Hid _ := HLfr.out.nk hc8
        have HW8 : Hid (Below w1.heap.size w1 w8) := HWr.out.trans (nk_below hc8 HWr.out.size)
        clear hp8 hc8 d0
        go_wp2_with fail
        refine (pw_switch HP8.out (k : Int) true).mono ?_
        rintro e w9 ⟨rfl, hp9, hc9⟩
        have HP9 : Hid _ := hp9
        have HL9 : Hid _ := HL8.out.nk hc9
        have HLf9 : Hid _ := HLf8.out.nk hc9
        have HW9 : Hid (Below w1.heap.size w1 w9) := HW8.out.trans (nk_below hc9 HW8.out.size)
        clear hp9 hc9
        go_wp2_with fail
        go_roundw
        case rel => exact ⟨k + 1, _, by go_num, HLT.out, HP9.out, fit_switch (fit_prod HFr.out _ _) _ _, HL9.out, HLf9.out, HW9.out⟩
        case measure => have := HLT.out; simp [intOf]; omega
      have hlti : ¬ (k : Int) < (np : Int) := by omega
      clear hlt
      go_upto_region 16 with fail
      clear d0
      go_wp2_with fail
      refine (held_walk HPr.out.wm (len_one HL1.out)).mono ?_
      rintro e w10 ⟨vb, rfl, Fb, hFb, hFm, hB⟩
      obtain ⟨ba, bc, rfl⟩ := own_formN hFb.own
      have hFm2 : Fb.map (·.h) = [heH (h37 p S f false (List.replicate p.n false))] := by
        rw [hFm]
        have e : (L1.map fun a => heH a.h) = (L1.map (·.h)).map heH := by rw [List.map_map]; rfl
        rw [e, HL1.out]; rfl
      have hFl : Fb.length = 1 := by have := congrArg List.length hFm2; simpa using this
      rw [hFl] at hFb ⊢
      have HFM : Hid (Fb.map (·.h) = [heH (h37 p S f false (List.replicate p.n false))]) := hFm2
      have HOK' : Hid S'.ok := by obtain ⟨D, h1, _⟩ := HPr.out.src; exact h1.good
      obtain ⟨K3, hK3⟩ : ∃ K3 : Nat → Prop, K3 = fun z => K2 z ∨ (wr.heap.size ≤ z ∧ z < w10.heap.size) := ⟨_, rfl⟩
      have HSX : Hid (Sx w1.heap.size K3 w10 sb S' P b ov p L1 [h37 p S f false (List.replicate p.n false)] X R (.slice oa p.l.length oc) (.slice ea E.length ec) E va vc f (.slice ba 1 bc) Fb) := by
        have hr : Hr w10 w1.heap.size (.slice ba 1 bc) Fb := ⟨own_baseC hFb.own HWr.out.size, fun t ht => ⟨own_baseC (hFb.ent t ht).e HWr.out.size, (hFb.ent t ht).ok⟩⟩
        rw [hK3]
        exact ⟨HPr.out.more hB, HL1.out, (HLr.out.below hB).mono (fun _ h => .inl h), (HLfr.out.below hB).mono (fun _ h => .inl h), ⟨hr, fun x hx => .inr ⟨(hFb.own.lt x hx).1, (hFb.own.lt x hx).2⟩, fun t ht x hx => .inr ⟨((hFb.ent t ht).e.lt x hx).1, ((hFb.ent t ht).e.lt x hx).2⟩⟩, Nat.le_trans HWr.out.size hB.size⟩
      have HW10 : Hid (Below w1.heap.size w1 w10) := HWr.out.trans (hB.mono HWr.out.size)
      clear hK3 hFb hFm hFm2 hFl hB HPr HLr HLfr HWr
      go_wp2_with fail
      go_loopw [17] (fun iv wr => ∃ (n : Nat) (K' : Nat → Prop) (L' : List At), iv = .int .i64 n ∧ n ≤ 2 ∧ Sx w1.heap.size K' wr sb S' P b ov p L' [h37 p S f false (List.replicate p.n false)] X R (.slice oa p.l.length oc) (.slice ea E.length ec) E va vc f (.slice ba 1 bc) Fb ∧ Below w1.heap.size w1 wr) (fun iv _ => 2 - (intOf iv).toNat)
      case atStart => exact ⟨0, K3, L1, rfl, Nat.zero_le _, HSX.out, HW10.out⟩
      case round =>
        obtain ⟨n, K4, L4, rfl, hn2, h1, h2⟩ := hrel
        have HX4 : Hid (Sx w1.heap.size K4 wr sb S' P b ov p L4 [h37 p S f false (List.replicate p.n false)] X R (.slice oa p.l.length oc) (.slice ea E.length ec) E va vc f (.slice ba 1 bc) Fb) := h1
        have HW4 : Hid (Below w1.heap.size w1 wr) := h2
        clear h1 h2 HSX HW10
        by_cases hlt : n < 2
        · have hlti : (n : Int) < 2 := by omega
          have HLT : Hid (n < 2) := hlt
          clear hlt
          go_wp2_with fail
          refine (msg17 1 0 0).mono ?_
          rintro e wa1 ⟨rfl, hB⟩
          have HXa1 : Hid _ := HX4.out.below hB
          have HWa1 : Hid (Below w1.heap.size w1 wa1) := HW4.out.trans (hB.mono HW4.out.size)
          clear hB
          go_upto_region 22 with fail
          have HBA : Hid _ := below_alloc wa1 (Obj.cells #[.int .i64 1, .int .i64 0, .int .i64 1, .int .i64 3, .int .i64 (7 - (n : Int)), .int .i64 0, .slice va f.length vc, .slice none 0 0, .slice none 0 0] 48)
          have HMX : Hid _ := mx_new wa1 ⟨1, 0, 1, 3, 7 - (n : Int), 0, [], [], []⟩ (.slice va f.length vc) (.slice none 0 0) (.slice none 0 0)
          generalize wa1.alloc (Obj.cells #[.int .i64 1, .int .i64 0, .int .i64 1, .int .i64 3, .int .i64 (7 - (n : Int)), .int .i64 0, .slice va f.length vc, .slice none 0 0, .slice none 0 0] 48) = wb1 at HBA HMX ⊢
          generalize wa1.heap.size = Zq at HMX ⊢
          have HXb1 : Hid _ := HXa1.out.below HBA.out
          have HWb1 : Hid (Below w1.heap.size w1 wb1) := HWa1.out.trans (HBA.out.mono HWa1.out.size)
          clear HXa1 HBA HWa1
          have y0 := HMX.out.c0
          have y1 := HMX.out.c1
          have y2 := HMX.out.c2
          have y3 := HMX.out.c3
          have y4 := HMX.out.c4
          have y5 := HMX.out.c5
          have y6 := HMX.out.c6
          have y7 := HMX.out.c7
          have y8 := HMX.out.c8
          go_wp2_with fail
          clear y0 y1 y2 y3 y4 y5 y6 y7 y8 HMX
          refine (show Calls Tryz.prog 13 #[.pointer (some ⟨P, 0, none⟩), .pointer (some ⟨sb, 0, none⟩), .agg #[.int .i64 1, .int .i64 (0), .int .i64 1, .int .i64 3, .int .i64 (7 - (n : Int)), .int .i64 (0), .slice va f.length vc, .slice none 0 0, .slice none 0 0]] wb1 _ from sx_takeN (m := ⟨1, 0, 1, 3, 7 - (n : Int), 0, f, [], []⟩) (n := 0) HXb1.out (by simp) (ml_e HXb1.out.lf.r) (small_ok (by omega) (fun y hy => fit_i64 HOK.out HFit.out y hy) q0_ok p0_ok) (tk_again HP.out (fit_end HOK.out HFit.out) (by omega)) rfl).mono ?_
          rintro e wc1 ⟨ta1, tc1, Kc1, Lc1, rfl, hx, hb⟩
          have HXc1 : Hid (Sx w1.heap.size Kc1 wc1 sb S' P b ov p Lc1 [h37 p S f false (List.replicate p.n false)] X R (.slice oa p.l.length oc) (.slice ea E.length ec) E va vc f (.slice ba 1 bc) Fb) := hx
          have HWc1 : Hid (Below w1.heap.size w1 wc1) := HWb1.out.trans hb
          clear hx hb
          go_wp2_with fail
          refine (sx_held HXc1.out (by simp)).mono ?_
          rintro e wd1 ⟨ha1, hc1, G1, rfl, hG, hGm, hB⟩
          have HG1 : Hid (Hr wd1 wc1.heap.size (.slice ha1 1 hc1) G1) := hG
          have HGM1 : Hid (G1.map (·.h) = Fb.map (·.h)) := by rw [hGm, HFM.out]; rfl
          have HXd1 : Hid (Sx w1.heap.size Kc1 wd1 sb S' P b ov p Lc1 [h37 p S f false (List.replicate p.n false)] X R (.slice oa p.l.length oc) (.slice ea E.length ec) E va vc f (.slice ba 1 bc) Fb) := HXc1.out.below hB
          have HWd1 : Hid (Below w1.heap.size w1 wd1) := HWc1.out.trans (hB.mono HWc1.out.size)
          clear hG hGm hB HXc1 HWc1
          go_wp2_with fail
          refine (held17 HG1.out HXd1.out.hk.r HGM1.out).mono ?_
          rintro e we1 ⟨rfl, hB⟩
          have HXe1 : Hid (Sx w1.heap.size Kc1 we1 sb S' P b ov p Lc1 [h37 p S f false (List.replicate p.n false)] X R (.slice oa p.l.length oc) (.slice ea E.length ec) E va vc f (.slice ba 1 bc) Fb) := HXd1.out.below hB
          have HWe1 : Hid (Below w1.heap.size w1 we1) := HWd1.out.trans (hB.mono HWd1.out.size)
          clear hB HG1 HGM1 HXd1 HWd1
          go_wp2_with fail
          go_roundw
          case rel => exact ⟨n + 1, Kc1, Lc1, by go_num, HLT.out, HXe1.out, HWe1.out⟩
          case measure => have := HLT.out; simp [intOf]; omega
        have hlti : ¬ (n : Int) < 2 := by omega
        clear hlt
        go_upto_region 25 with fail
        have HEB : Hid (endB E = true) := by show _ = _; rw [HEE.out]; exact end_form HP.out HOK.out HFit.out
        obtain ⟨e0, he0⟩ : ∃ e0, e0 = nth E 0 := ⟨_, rfl⟩
        have hen := end_nth HEB.out
        rw [← he0] at hen
        obtain ⟨hl1, hl4, he1, he2⟩ := hen
        have HE0 : Hid (e0 = nth E 0) := he0
        have HEL : Hid (1 ≤ E.length ∧ E.length ≤ 4) := ⟨hl1, hl4⟩
        clear he0
        have r6 : (wr.alloc (Obj.cells #[] 3)).cell? ⟨R, 6, none⟩ = some (.slice ea E.length ec) := (HX4.out.below (below_alloc _ _)).ls.r
        go_upto_region 26 with (at_builtin; refine wpList_append_nv (by rfl) _ _ 44 (by rfl) wr.heap.size 3 Tryz.underlying44 info_int _ 0 [] (by rfl) (World.ownsRow_made wr #[] 0 (Nat.le_refl _) (by simp [maxLen]) (by simp)) _ E (by rfl) (own_nv (HX4.out.below (below_alloc _ _)).ls.e HEO.out) (by have := HEL.out; simp only [maxLen]; omega) (by have := HEL.out; omega) (by simp) ?_; intro v' w2 hown hgrow; go_frame)
        have HOW : Hid (w2.ownsRow wr.heap.size 3 1 v' E.length (cellsN E)) := by show World.ownsRow _ _ _ _ _ _ _; simpa using hown
        have HBg : Hid (Below wr.heap.size wr w2) := (below_alloc wr (Obj.cells #[] 3)).grown hgrow (by simp) (by simp [Value.ownBlock])
        clear hown hgrow r6
        obtain ⟨og, ocp, rfl, _, _, hog, _⟩ := row_formN HOW.out (by have := HEL.out; omega)
        have HZ : Hid (Zw w2 og ocp E) := (own_zw HOW.out).1
        have HOG : Hid (wr.heap.size ≤ og) := hog
        have z0 : w2.cell? ⟨og, 0, none⟩ = some (.int .i64 e0) := by rw [HE0.out]; exact HZ.out.cell (by have := HEL.out; omega)
        have z1 : w2.frozen? ⟨og, 0, none⟩ = false := HZ.out.soft 0
        clear hog HOW
        by_cases hgt : 0 < e0
        · have HZ2 : Hid (Zw (w2.setCell ⟨og, 0, none⟩ (.int .i64 (e0 - 1))) og ocp (E.set 0 (e0 - 1))) := HZ.out.set (by have := HEL.out; omega) _
          have HX6 : Hid (Sx w1.heap.size K4 (w2.setCell ⟨og, 0, none⟩ (.int .i64 (e0 - 1))) sb S' P b ov p L4 [h37 p S f false (List.replicate p.n false)] X R (.slice oa p.l.length oc) (.slice ea E.length ec) E va vc f (.slice ba 1 bc) Fb) := HX4.out.below (HBg.out.setCell HOG.out _)
          have HW6 : Hid (Below w1.heap.size w1 (w2.setCell ⟨og, 0, none⟩ (.int .i64 (e0 - 1)))) := HW4.out.trans ((HBg.out.setCell HOG.out _).mono HW4.out.size)
          go_upto_region 29 with fail
          generalize w2.setCell ⟨og, 0, none⟩ (.int .i64 (e0 - 1)) = w3 at HZ2 HX6 HW6 ⊢
          obtain ⟨O, hO⟩ : ∃ O, O = E.set 0 (e0 - 1) := ⟨_, rfl⟩
          have HOE : Hid (endB O = true) := by show _ = _; rw [hO]; exact end_set HEB.out (by omega)
          have HON : Hid (¬ E = O) := by show ¬ _; rw [hO]; exact set_not HEL.out.1 (by rw [← HE0.out]; omega)
          have HOW : Hid (w3.ownsRow 0 3 1 (.slice (some ⟨og, 0, none⟩) E.length ocp) O.length (cellsN O)) := by
            have h := HZ2.out.own (Nat.zero_le og)
            rw [← hO] at h
            have hl : O.length = E.length := by rw [hO, List.length_set]
            rw [hl] at h ⊢
            exact h
          clear hO HZ2 z0 z1
          go_wp2_with fail
          refine (msg17 3 0 0).mono ?_
          rintro e wa2 ⟨rfl, hB⟩
          have HXa2 : Hid _ := HX6.out.below hB
          have HWa2 : Hid (Below w1.heap.size w1 wa2) := HW6.out.trans (hB.mono HW6.out.size)
          have HOWa : Hid (wa2.ownsRow 0 3 1 (.slice (some ⟨og, 0, none⟩) E.length ocp) O.length (cellsN O)) := own_belowC HOW.out hB
          clear hB HOW
          go_wp2_with fail
          refine (show Calls Tryz.prog 13 #[.pointer (some ⟨P, 0, none⟩), .pointer (some ⟨sb, 0, none⟩), .agg #[.int .i64 3, .int .i64 (0), .int .i64 1, .int .i64 3, .int .i64 (7), .int .i64 (0), .slice (some ⟨og, 0, none⟩) E.length ocp, .slice none 0 0, .slice none 0 0]] wa2 _ from sx_takeN (m := ⟨3, 0, 1, 3, 7, 0, O, [], []⟩) (n := 0) HXa2.out (by simp) (ml_e HOWa.out) (small_ok (by omega) (end_i64 HOE.out) q0_ok p0_ok) (tk_other HP.out HOE.out (by rw [← HEE.out]; exact HON.out)) rfl).mono ?_
          rintro e wc2 ⟨ta2, tc2, Kc2, Lc2, rfl, hx, hb⟩
          have HXc2 : Hid (Sx w1.heap.size Kc2 wc2 sb S' P b ov p Lc2 [h37 p S f false (List.replicate p.n false)] X R (.slice oa p.l.length oc) (.slice ea E.length ec) E va vc f (.slice ba 1 bc) Fb) := hx
          have HWc2 : Hid (Below w1.heap.size w1 wc2) := HWa2.out.trans hb
          clear hx hb
          clear HOWa
          go_wp2_with fail
          refine (sx_held HXc2.out (by simp)).mono ?_
          rintro e wd2 ⟨ha2, hc2, G2, rfl, hG, hGm, hB⟩
          have HG2 : Hid (Hr wd2 wc2.heap.size (.slice ha2 1 hc2) G2) := hG
          have HGM2 : Hid (G2.map (·.h) = Fb.map (·.h)) := by rw [hGm, HFM.out]; rfl
          have HXd2 : Hid (Sx w1.heap.size Kc2 wd2 sb S' P b ov p Lc2 [h37 p S f false (List.replicate p.n false)] X R (.slice oa p.l.length oc) (.slice ea E.length ec) E va vc f (.slice ba 1 bc) Fb) := HXc2.out.below hB
          have HWd2 : Hid (Below w1.heap.size w1 wd2) := HWc2.out.trans (hB.mono HWc2.out.size)
          clear hG hGm hB HXc2 HWc2
          go_wp2_with fail
          refine (held17 HG2.out HXd2.out.hk.r HGM2.out).mono ?_
          rintro e we2 ⟨rfl, hB⟩
          have HXe2 : Hid (Sx w1.heap.size Kc2 we2 sb S' P b ov p Lc2 [h37 p S f false (List.replicate p.n false)] X R (.slice oa p.l.length oc) (.slice ea E.length ec) E va vc f (.slice ba 1 bc) Fb) := HXd2.out.below hB
          have HWe2 : Hid (Below w1.heap.size w1 we2) := HWd2.out.trans (hB.mono HWd2.out.size)
          clear hB HG2 HGM2 HXd2 HWd2
          by_cases hev : how.tmod 2 = 0
          · go_wp2_with fail
            refine (msg17 1 0 0).mono ?_
            rintro e wa3 ⟨rfl, hB⟩
            have HXa3 : Hid _ := HXe2.out.below hB
            have HWa3 : Hid (Below w1.heap.size w1 wa3) := HWe2.out.trans (hB.mono HWe2.out.size)
            clear hB
            go_upto_region 35 with fail
            have HBA : Hid _ := below_alloc wa3 (Obj.cells #[.int .i64 1, .int .i64 0, .int .i64 1, .int .i64 3, .int .i64 (8), .int .i64 0, .slice va f.length vc, .slice none 0 0, .slice none 0 0] 48)
            have HMX : Hid _ := mx_new wa3 ⟨1, 0, 1, 3, 8, 0, [], [], []⟩ (.slice va f.length vc) (.slice none 0 0) (.slice none 0 0)
            generalize wa3.alloc (Obj.cells #[.int .i64 1, .int .i64 0, .int .i64 1, .int .i64 3, .int .i64 (8), .int .i64 0, .slice va f.length vc, .slice none 0 0, .slice none 0 0] 48) = wb3 at HBA HMX ⊢
            generalize wa3.heap.size = Zq at HMX ⊢
            have HXb3 : Hid _ := HXa3.out.below HBA.out
            have HWb3 : Hid (Below w1.heap.size w1 wb3) := HWa3.out.trans (HBA.out.mono HWa3.out.size)
            clear HXa3 HBA HWa3
            have y0 := HMX.out.c0
            have y1 := HMX.out.c1
            have y2 := HMX.out.c2
            have y3 := HMX.out.c3
            have y4 := HMX.out.c4
            have y5 := HMX.out.c5
            have y6 := HMX.out.c6
            have y7 := HMX.out.c7
            have y8 := HMX.out.c8
            go_wp2_with fail
            clear y0 y1 y2 y3 y4 y5 y6 y7 y8 HMX
            refine (show Calls Tryz.prog 13 #[.pointer (some ⟨P, 0, none⟩), .pointer (some ⟨sb, 0, none⟩), .agg #[.int .i64 1, .int .i64 (0), .int .i64 1, .int .i64 3, .int .i64 (8), .int .i64 (0), .slice va f.length vc, .slice none 0 0, .slice none 0 0]] wb3 _ from sx_takeN (m := ⟨1, 0, 1, 3, 8, 0, f, [], []⟩) (n := 1) HXb3.out (by simp) (ml_e HXb3.out.lf.r) (small_ok (by omega) (fun y hy => fit_i64 HOK.out HFit.out y hy) q0_ok p0_ok) (tk_higher HP.out HOK'.out HFr.out) rfl).mono ?_
            rintro e wc3 ⟨ta3, tc3, Kc3, Lc3, rfl, hx, hb⟩
            have HXc3 : Hid (Sx w1.heap.size Kc3 wc3 sb S' P b ov p Lc3 [h38 p S' f] X R (.slice oa p.l.length oc) (.slice ea E.length ec) E va vc f (.slice ba 1 bc) Fb) := hx
            have HWc3 : Hid (Below w1.heap.size w1 wc3) := HWb3.out.trans hb
            clear hx hb
            go_wp2_with fail
            refine (sx_more HXc3.out).mono ?_
            rintro e wd3 ⟨qa3, qc3, G3, K9, rfl, hx, hGm, hB⟩
            obtain ⟨hg, hcap, ua, uc, hv, hhx, _⟩ := hr_one hx.hk.r hGm
            injection hv with hv1 _ hv3
            subst hv1 hv3
            have HX9 : Hid (Sx w1.heap.size K9 wd3 sb S' P b ov p Lc3 [h38 p S' f] X R (.slice oa p.l.length oc) (.slice ea E.length ec) E va vc f (.slice (some ⟨hg, 0, none⟩) 1 qc3) G3) := hx
            have HGM3 : Hid (G3.map (·.h) = [heH (h38 p S' f)]) := hGm
            have HW9 : Hid (Below w1.heap.size w1 wd3) := HWc3.out.trans (hB.mono HWc3.out.size)
            have k1 : wd3.cell? ⟨hg, 1, none⟩ = some (.int .i64 8) := hhx.c1
            have k3 : wd3.cell? ⟨hg, 3, none⟩ = some (.bool false) := hhx.c3
            have r6 : wd3.cell? ⟨R, 6, none⟩ = some (.slice ea E.length ec) := hx.ls.r
            clear hx hGm hB hhx
            go_wp2_with fail
            refine (msg17 3 0 0).mono ?_
            rintro e wa4 ⟨rfl, hB⟩
            have HXa4 : Hid _ := HX9.out.below hB
            have HWa4 : Hid (Below w1.heap.size w1 wa4) := HW9.out.trans (hB.mono HW9.out.size)
            clear hB k1 k3 r6
            go_wp2_with fail
            refine (show Calls Tryz.prog 13 #[.pointer (some ⟨P, 0, none⟩), .pointer (some ⟨sb, 0, none⟩), .agg #[.int .i64 3, .int .i64 (0), .int .i64 1, .int .i64 3, .int .i64 (7), .int .i64 (0), .slice ea E.length ec, .slice none 0 0, .slice none 0 0]] wa4 _ from sx_takeN (m := ⟨3, 0, 1, 3, 7, 0, E, [], []⟩) (n := 0) HXa4.out (by simp) (ml_e HXa4.out.ls.e) (small_ok (by omega) HEO.out q0_ok p0_ok) (tk_low HP.out HEB.out) rfl).mono ?_
            rintro e wc4 ⟨ta4, tc4, Kc4, Lc4, rfl, hx, hb⟩
            have HXc4 : Hid (Sx w1.heap.size Kc4 wc4 sb S' P b ov p Lc4 [h38 p S' f] X R (.slice oa p.l.length oc) (.slice ea E.length ec) E va vc f (.slice (some ⟨hg, 0, none⟩) 1 qc3) G3) := hx
            have HWc4 : Hid (Below w1.heap.size w1 wc4) := HWa4.out.trans hb
            clear hx hb
            go_wp2_with fail
            refine (sx_held HXc4.out (by simp)).mono ?_
            rintro e wd4 ⟨ha4, hc4, G4, rfl, hG, hGm, hB⟩
            have HG4 : Hid (Hr wd4 wc4.heap.size (.slice ha4 1 hc4) G4) := hG
            have HGM4 : Hid (G4.map (·.h) = G3.map (·.h)) := by rw [hGm, HGM3.out]; rfl
            have HXd4 : Hid (Sx w1.heap.size Kc4 wd4 sb S' P b ov p Lc4 [h38 p S' f] X R (.slice oa p.l.length oc) (.slice ea E.length ec) E va vc f (.slice (some ⟨hg, 0, none⟩) 1 qc3) G3) := HXc4.out.below hB
            have HWd4 : Hid (Below w1.heap.size w1 wd4) := HWc4.out.trans (hB.mono HWc4.out.size)
            clear hG hGm hB HXc4 HWc4
            go_wp2_with fail
            refine (held17 HG4.out HXd4.out.hk.r HGM4.out).mono ?_
            rintro e we4 ⟨rfl, hB⟩
            have HXe4 : Hid (Sx w1.heap.size Kc4 we4 sb S' P b ov p Lc4 [h38 p S' f] X R (.slice oa p.l.length oc) (.slice ea E.length ec) E va vc f (.slice (some ⟨hg, 0, none⟩) 1 qc3) G3) := HXd4.out.below hB
            have HWe4 : Hid (Below w1.heap.size w1 we4) := HWd4.out.trans (hB.mono HWd4.out.size)
            clear hB HG4 HGM4 HXd4 HWd4
            go_wp2_with fail
            go_ret
            exact ⟨rfl, HB1.out.trans (HWe4.out.mono HB1.out.size)⟩
          · have r6 := HXe2.out.ls.r
            go_wp2_with fail
            refine (msg17 3 0 0).mono ?_
            rintro e wa5 ⟨rfl, hB⟩
            have HXa5 : Hid _ := HXe2.out.below hB
            have HWa5 : Hid (Below w1.heap.size w1 wa5) := HWe2.out.trans (hB.mono HWe2.out.size)
            clear hB r6
            go_wp2_with fail
            have htk := tk_go (S := S) (S' := S') (f := f) (A := List.replicate p.n false) HP.out HOK.out HFit.out
            rw [← HEE.out] at htk
            refine (show Calls Tryz.prog 13 #[.pointer (some ⟨P, 0, none⟩), .pointer (some ⟨sb, 0, none⟩), .agg #[.int .i64 3, .int .i64 (0), .int .i64 1, .int .i64 3, .int .i64 (7), .int .i64 (0), .slice ea E.length ec, .slice none 0 0, .slice none 0 0]] wa5 _ from sx_takeN (m := ⟨3, 0, 1, 3, 7, 0, E, [], []⟩) (n := p.n) HXa5.out (by simp) (ml_e HXa5.out.ls.e) (small_ok (by omega) HEO.out q0_ok p0_ok) htk (by simp)).mono ?_
            clear htk
            rintro e wc5 ⟨ta5, tc5, Kc5, Lc5, rfl, hx, hb⟩
            have HXc5 : Hid (Sx w1.heap.size Kc5 wc5 sb S' P b ov p Lc5 [h37 p S f true (List.replicate p.n false)] X R (.slice oa p.l.length oc) (.slice ea E.length ec) E va vc f (.slice ba 1 bc) Fb) := hx
            have HWc5 : Hid (Below w1.heap.size w1 wc5) := HWa5.out.trans hb
            clear hx hb
            have d1 : wc5.cell? ⟨X, 1, none⟩ = some (.int .i64 (p.n : Int)) := by rw [← HSN.out]; exact HXc5.out.ls.x.c1
            have d2 : wc5.cell? ⟨X, 2, none⟩ = some (.int .i64 p.W) := HXc5.out.ls.x.c2
            have rm : (IntKind.u64.wrap code).tmod 1000 = (parF 1000 code : Int) := parF_rem (by omega)
            have hrl : (parF 1000 code : Int) < 1000 := parF_lt (by omega)
            generalize parF 1000 code = cN at rm hrl
            by_cases h4 : how.tmod 4 = 1
            · go_wp2_with fail
              refine (msg17 7 (1 + p.W) (1 + (cN : Int))).mono ?_
              rintro e wa6 ⟨rfl, hB⟩
              have HXa6 : Hid _ := HXc5.out.below hB
              have HWa6 : Hid (Below w1.heap.size w1 wa6) := HWc5.out.trans (hB.mono HWc5.out.size)
              clear hB d1 d2 rm
              go_wp2_with fail
              refine (show Calls Tryz.prog 13 #[.pointer (some ⟨P, 0, none⟩), .pointer (some ⟨sb, 0, none⟩), .agg #[.int .i64 7, .int .i64 (1 + p.W), .int .i64 1, .int .i64 3, .int .i64 (7), .int .i64 (1 + (cN : Int)), .slice none 0 0, .slice none 0 0, .slice none 0 0]] wa6 _ from sx_takeN (m := ⟨7, 1 + p.W, 1, 3, 7, 1 + (cN : Int), [], [], []⟩) (n := 0) HXa6.out (by simp) (ml_0 _) (small_ok (by omega) e0_ok q0_ok p0_ok) (tk_ends0 HP.out (.inr rfl) HNL.out.1 (by omega)) rfl).mono ?_
              rintro e wc6 ⟨ta6, tc6, Kc6, Lc6, rfl, hx, hb⟩
              have HXc6 : Hid (Sx w1.heap.size Kc6 wc6 sb S' P b ov p Lc6 [] X R (.slice oa p.l.length oc) (.slice ea E.length ec) E va vc f (.slice ba 1 bc) Fb) := hx
              have HWc6 : Hid (Below w1.heap.size w1 wc6) := HWa6.out.trans hb
              clear hx hb
              go_wp2_with fail
              refine (sx_none HXc6.out).mono ?_
              rintro e wd6 ⟨na, nc, rfl, hB⟩
              have HXd6 : Hid _ := HXc6.out.below hB
              have HWd6 : Hid (Below w1.heap.size w1 wd6) := HWc6.out.trans (hB.mono HWc6.out.size)
              have d2 : wd6.cell? ⟨X, 2, none⟩ = some (.int .i64 p.W) := HXd6.out.ls.x.c2
              clear hB
              go_wp2_with fail
              refine (msg17 5 (1 + p.W) 0).mono ?_
              rintro e wa7 ⟨rfl, hB⟩
              have HXa7 : Hid _ := HXd6.out.below hB
              have HWa7 : Hid (Below w1.heap.size w1 wa7) := HWd6.out.trans (hB.mono HWd6.out.size)
              clear hB d2
              go_wp2_with fail
              refine (show Calls Tryz.prog 13 #[.pointer (some ⟨P, 0, none⟩), .pointer (some ⟨sb, 0, none⟩), .agg #[.int .i64 5, .int .i64 (1 + p.W), .int .i64 1, .int .i64 3, .int .i64 (7), .int .i64 (0), .slice none 0 0, .slice none 0 0, .slice none 0 0]] wa7 _ from sx_takeN (m := ⟨5, 1 + p.W, 1, 3, 7, 0, [], [], []⟩) (n := 0) HXa7.out (by simp) (ml_0 _) (small_ok (by omega) e0_ok q0_ok p0_ok) (tk_gone0 HP.out HNL.out.1) rfl).mono ?_
              rintro e wc7 ⟨ta7, tc7, Kc7, Lc7, rfl, hx, hb⟩
              have HXc7 : Hid (Sx w1.heap.size Kc7 wc7 sb S' P b ov p Lc7 [] X R (.slice oa p.l.length oc) (.slice ea E.length ec) E va vc f (.slice ba 1 bc) Fb) := hx
              have HWc7 : Hid (Below w1.heap.size w1 wc7) := HWa7.out.trans hb
              clear hx hb
              go_wp2_with fail
              go_ret
              exact ⟨rfl, HB1.out.trans (HWc7.out.mono HB1.out.size)⟩
            · go_wp2_with fail
              refine (msg17 5 (1 + p.W) (1 + (cN : Int))).mono ?_
              rintro e wa6 ⟨rfl, hB⟩
              have HXa6 : Hid _ := HXc5.out.below hB
              have HWa6 : Hid (Below w1.heap.size w1 wa6) := HWc5.out.trans (hB.mono HWc5.out.size)
              clear hB d1 d2 rm
              go_wp2_with fail
              refine (show Calls Tryz.prog 13 #[.pointer (some ⟨P, 0, none⟩), .pointer (some ⟨sb, 0, none⟩), .agg #[.int .i64 5, .int .i64 (1 + p.W), .int .i64 1, .int .i64 3, .int .i64 (7), .int .i64 (1 + (cN : Int)), .slice none 0 0, .slice none 0 0, .slice none 0 0]] wa6 _ from sx_takeN (m := ⟨5, 1 + p.W, 1, 3, 7, 1 + (cN : Int), [], [], []⟩) (n := 0) HXa6.out (by simp) (ml_0 _) (small_ok (by omega) e0_ok q0_ok p0_ok) (tk_ends0 HP.out (.inl rfl) HNL.out.1 (by omega)) rfl).mono ?_
              rintro e wc6 ⟨ta6, tc6, Kc6, Lc6, rfl, hx, hb⟩
              have HXc6 : Hid (Sx w1.heap.size Kc6 wc6 sb S' P b ov p Lc6 [] X R (.slice oa p.l.length oc) (.slice ea E.length ec) E va vc f (.slice ba 1 bc) Fb) := hx
              have HWc6 : Hid (Below w1.heap.size w1 wc6) := HWa6.out.trans hb
              clear hx hb
              go_wp2_with fail
              refine (sx_none HXc6.out).mono ?_
              rintro e wd6 ⟨na, nc, rfl, hB⟩
              have HXd6 : Hid _ := HXc6.out.below hB
              have HWd6 : Hid (Below w1.heap.size w1 wd6) := HWc6.out.trans (hB.mono HWc6.out.size)
              have d2 : wd6.cell? ⟨X, 2, none⟩ = some (.int .i64 p.W) := HXd6.out.ls.x.c2
              clear hB
              go_wp2_with fail
              refine (msg17 5 (1 + p.W) 0).mono ?_
              rintro e wa7 ⟨rfl, hB⟩
              have HXa7 : Hid _ := HXd6.out.below hB
              have HWa7 : Hid (Below w1.heap.size w1 wa7) := HWd6.out.trans (hB.mono HWd6.out.size)
              clear hB d2
              go_wp2_with fail
              refine (show Calls Tryz.prog 13 #[.pointer (some ⟨P, 0, none⟩), .pointer (some ⟨sb, 0, none⟩), .agg #[.int .i64 5, .int .i64 (1 + p.W), .int .i64 1, .int .i64 3, .int .i64 (7), .int .i64 (0), .slice none 0 0, .slice none 0 0, .slice none 0 0]] wa7 _ from sx_takeN (m := ⟨5, 1 + p.W, 1, 3, 7, 0, [], [], []⟩) (n := 0) HXa7.out (by simp) (ml_0 _) (small_ok (by omega) e0_ok q0_ok p0_ok) (tk_gone0 HP.out HNL.out.1) rfl).mono ?_
              rintro e wc7 ⟨ta7, tc7, Kc7, Lc7, rfl, hx, hb⟩
              have HXc7 : Hid (Sx w1.heap.size Kc7 wc7 sb S' P b ov p Lc7 [] X R (.slice oa p.l.length oc) (.slice ea E.length ec) E va vc f (.slice ba 1 bc) Fb) := hx
              have HWc7 : Hid (Below w1.heap.size w1 wc7) := HWa7.out.trans hb
              clear hx hb
              go_wp2_with fail
              go_ret
              exact ⟨rfl, HB1.out.trans (HWc7.out.mono HB1.out.size)⟩
        · have HZ2 : Hid (Zw (w2.setCell ⟨og, 0, none⟩ (.int .i64 (e0 + 1))) og ocp (E.set 0 (e0 + 1))) := HZ.out.set (by have := HEL.out; omega) _
          have HX6 : Hid (Sx w1.heap.size K4 (w2.setCell ⟨og, 0, none⟩ (.int .i64 (e0 + 1))) sb S' P b ov p L4 [h37 p S f false (List.replicate p.n false)] X R (.slice oa p.l.length oc) (.slice ea E.length ec) E va vc f (.slice ba 1 bc) Fb) := HX4.out.below (HBg.out.setCell HOG.out _)
          have HW6 : Hid (Below w1.heap.size w1 (w2.setCell ⟨og, 0, none⟩ (.int .i64 (e0 + 1)))) := HW4.out.trans ((HBg.out.setCell HOG.out _).mono HW4.out.size)
          go_upto_region 29 with fail
          generalize w2.setCell ⟨og, 0, none⟩ (.int .i64 (e0 + 1)) = w3 at HZ2 HX6 HW6 ⊢
          obtain ⟨O, hO⟩ : ∃ O, O = E.set 0 (e0 + 1) := ⟨_, rfl⟩
          have HOE : Hid (endB O = true) := by show _ = _; rw [hO]; exact end_set HEB.out (by omega)
          have HON : Hid (¬ E = O) := by show ¬ _; rw [hO]; exact set_not HEL.out.1 (by rw [← HE0.out]; omega)
          have HOW : Hid (w3.ownsRow 0 3 1 (.slice (some ⟨og, 0, none⟩) E.length ocp) O.length (cellsN O)) := by
            have h := HZ2.out.own (Nat.zero_le og)
            rw [← hO] at h
            have hl : O.length = E.length := by rw [hO, List.length_set]
            rw [hl] at h ⊢
            exact h
          clear hO HZ2 z0 z1
          go_wp2_with fail
          refine (msg17 3 0 0).mono ?_
          rintro e wa2 ⟨rfl, hB⟩
          have HXa2 : Hid _ := HX6.out.below hB
          have HWa2 : Hid (Below w1.heap.size w1 wa2) := HW6.out.trans (hB.mono HW6.out.size)
          have HOWa : Hid (wa2.ownsRow 0 3 1 (.slice (some ⟨og, 0, none⟩) E.length ocp) O.length (cellsN O)) := own_belowC HOW.out hB
          clear hB HOW
          go_wp2_with fail
          refine (show Calls Tryz.prog 13 #[.pointer (some ⟨P, 0, none⟩), .pointer (some ⟨sb, 0, none⟩), .agg #[.int .i64 3, .int .i64 (0), .int .i64 1, .int .i64 3, .int .i64 (7), .int .i64 (0), .slice (some ⟨og, 0, none⟩) E.length ocp, .slice none 0 0, .slice none 0 0]] wa2 _ from sx_takeN (m := ⟨3, 0, 1, 3, 7, 0, O, [], []⟩) (n := 0) HXa2.out (by simp) (ml_e HOWa.out) (small_ok (by omega) (end_i64 HOE.out) q0_ok p0_ok) (tk_other HP.out HOE.out (by rw [← HEE.out]; exact HON.out)) rfl).mono ?_
          rintro e wc2 ⟨ta2, tc2, Kc2, Lc2, rfl, hx, hb⟩
          have HXc2 : Hid (Sx w1.heap.size Kc2 wc2 sb S' P b ov p Lc2 [h37 p S f false (List.replicate p.n false)] X R (.slice oa p.l.length oc) (.slice ea E.length ec) E va vc f (.slice ba 1 bc) Fb) := hx
          have HWc2 : Hid (Below w1.heap.size w1 wc2) := HWa2.out.trans hb
          clear hx hb
          clear HOWa
          go_wp2_with fail
          refine (sx_held HXc2.out (by simp)).mono ?_
          rintro e wd2 ⟨ha2, hc2, G2, rfl, hG, hGm, hB⟩
          have HG2 : Hid (Hr wd2 wc2.heap.size (.slice ha2 1 hc2) G2) := hG
          have HGM2 : Hid (G2.map (·.h) = Fb.map (·.h)) := by rw [hGm, HFM.out]; rfl
          have HXd2 : Hid (Sx w1.heap.size Kc2 wd2 sb S' P b ov p Lc2 [h37 p S f false (List.replicate p.n false)] X R (.slice oa p.l.length oc) (.slice ea E.length ec) E va vc f (.slice ba 1 bc) Fb) := HXc2.out.below hB
          have HWd2 : Hid (Below w1.heap.size w1 wd2) := HWc2.out.trans (hB.mono HWc2.out.size)
          clear hG hGm hB HXc2 HWc2
          go_wp2_with fail
          refine (held17 HG2.out HXd2.out.hk.r HGM2.out).mono ?_
          rintro e we2 ⟨rfl, hB⟩
          have HXe2 : Hid (Sx w1.heap.size Kc2 we2 sb S' P b ov p Lc2 [h37 p S f false (List.replicate p.n false)] X R (.slice oa p.l.length oc) (.slice ea E.length ec) E va vc f (.slice ba 1 bc) Fb) := HXd2.out.below hB
          have HWe2 : Hid (Below w1.heap.size w1 we2) := HWd2.out.trans (hB.mono HWd2.out.size)
          clear hB HG2 HGM2 HXd2 HWd2
          by_cases hev : how.tmod 2 = 0
          · go_wp2_with fail
            refine (msg17 1 0 0).mono ?_
            rintro e wa3 ⟨rfl, hB⟩
            have HXa3 : Hid _ := HXe2.out.below hB
            have HWa3 : Hid (Below w1.heap.size w1 wa3) := HWe2.out.trans (hB.mono HWe2.out.size)
            clear hB
            go_upto_region 35 with fail
            have HBA : Hid _ := below_alloc wa3 (Obj.cells #[.int .i64 1, .int .i64 0, .int .i64 1, .int .i64 3, .int .i64 (8), .int .i64 0, .slice va f.length vc, .slice none 0 0, .slice none 0 0] 48)
            have HMX : Hid _ := mx_new wa3 ⟨1, 0, 1, 3, 8, 0, [], [], []⟩ (.slice va f.length vc) (.slice none 0 0) (.slice none 0 0)
            generalize wa3.alloc (Obj.cells #[.int .i64 1, .int .i64 0, .int .i64 1, .int .i64 3, .int .i64 (8), .int .i64 0, .slice va f.length vc, .slice none 0 0, .slice none 0 0] 48) = wb3 at HBA HMX ⊢
            generalize wa3.heap.size = Zq at HMX ⊢
            have HXb3 : Hid _ := HXa3.out.below HBA.out
            have HWb3 : Hid (Below w1.heap.size w1 wb3) := HWa3.out.trans (HBA.out.mono HWa3.out.size)
            clear HXa3 HBA HWa3
            have y0 := HMX.out.c0
            have y1 := HMX.out.c1
            have y2 := HMX.out.c2
            have y3 := HMX.out.c3
            have y4 := HMX.out.c4
            have y5 := HMX.out.c5
            have y6 := HMX.out.c6
            have y7 := HMX.out.c7
            have y8 := HMX.out.c8
            go_wp2_with fail
            clear y0 y1 y2 y3 y4 y5 y6 y7 y8 HMX
            refine (show Calls Tryz.prog 13 #[.pointer (some ⟨P, 0, none⟩), .pointer (some ⟨sb, 0, none⟩), .agg #[.int .i64 1, .int .i64 (0), .int .i64 1, .int .i64 3, .int .i64 (8), .int .i64 (0), .slice va f.length vc, .slice none 0 0, .slice none 0 0]] wb3 _ from sx_takeN (m := ⟨1, 0, 1, 3, 8, 0, f, [], []⟩) (n := 1) HXb3.out (by simp) (ml_e HXb3.out.lf.r) (small_ok (by omega) (fun y hy => fit_i64 HOK.out HFit.out y hy) q0_ok p0_ok) (tk_higher HP.out HOK'.out HFr.out) rfl).mono ?_
            rintro e wc3 ⟨ta3, tc3, Kc3, Lc3, rfl, hx, hb⟩
            have HXc3 : Hid (Sx w1.heap.size Kc3 wc3 sb S' P b ov p Lc3 [h38 p S' f] X R (.slice oa p.l.length oc) (.slice ea E.length ec) E va vc f (.slice ba 1 bc) Fb) := hx
            have HWc3 : Hid (Below w1.heap.size w1 wc3) := HWb3.out.trans hb
            clear hx hb
            go_wp2_with fail
            refine (sx_more HXc3.out).mono ?_
            rintro e wd3 ⟨qa3, qc3, G3, K9, rfl, hx, hGm, hB⟩
            obtain ⟨hg, hcap, ua, uc, hv, hhx, _⟩ := hr_one hx.hk.r hGm
            injection hv with hv1 _ hv3
            subst hv1 hv3
            have HX9 : Hid (Sx w1.heap.size K9 wd3 sb S' P b ov p Lc3 [h38 p S' f] X R (.slice oa p.l.length oc) (.slice ea E.length ec) E va vc f (.slice (some ⟨hg, 0, none⟩) 1 qc3) G3) := hx
            have HGM3 : Hid (G3.map (·.h) = [heH (h38 p S' f)]) := hGm
            have HW9 : Hid (Below w1.heap.size w1 wd3) := HWc3.out.trans (hB.mono HWc3.out.size)
            have k1 : wd3.cell? ⟨hg, 1, none⟩ = some (.int .i64 8) := hhx.c1
            have k3 : wd3.cell? ⟨hg, 3, none⟩ = some (.bool false) := hhx.c3
            have r6 : wd3.cell? ⟨R, 6, none⟩ = some (.slice ea E.length ec) := hx.ls.r
            clear hx hGm hB hhx
            go_wp2_with fail
            refine (msg17 3 0 0).mono ?_
            rintro e wa4 ⟨rfl, hB⟩
            have HXa4 : Hid _ := HX9.out.below hB
            have HWa4 : Hid (Below w1.heap.size w1 wa4) := HW9.out.trans (hB.mono HW9.out.size)
            clear hB k1 k3 r6
            go_wp2_with fail
            refine (show Calls Tryz.prog 13 #[.pointer (some ⟨P, 0, none⟩), .pointer (some ⟨sb, 0, none⟩), .agg #[.int .i64 3, .int .i64 (0), .int .i64 1, .int .i64 3, .int .i64 (7), .int .i64 (0), .slice ea E.length ec, .slice none 0 0, .slice none 0 0]] wa4 _ from sx_takeN (m := ⟨3, 0, 1, 3, 7, 0, E, [], []⟩) (n := 0) HXa4.out (by simp) (ml_e HXa4.out.ls.e) (small_ok (by omega) HEO.out q0_ok p0_ok) (tk_low HP.out HEB.out) rfl).mono ?_
            rintro e wc4 ⟨ta4, tc4, Kc4, Lc4, rfl, hx, hb⟩
            have HXc4 : Hid (Sx w1.heap.size Kc4 wc4 sb S' P b ov p Lc4 [h38 p S' f] X R (.slice oa p.l.length oc) (.slice ea E.length ec) E va vc f (.slice (some ⟨hg, 0, none⟩) 1 qc3) G3) := hx
            have HWc4 : Hid (Below w1.heap.size w1 wc4) := HWa4.out.trans hb
            clear hx hb
            go_wp2_with fail
            refine (sx_held HXc4.out (by simp)).mono ?_
            rintro e wd4 ⟨ha4, hc4, G4, rfl, hG, hGm, hB⟩
            have HG4 : Hid (Hr wd4 wc4.heap.size (.slice ha4 1 hc4) G4) := hG
            have HGM4 : Hid (G4.map (·.h) = G3.map (·.h)) := by rw [hGm, HGM3.out]; rfl
            have HXd4 : Hid (Sx w1.heap.size Kc4 wd4 sb S' P b ov p Lc4 [h38 p S' f] X R (.slice oa p.l.length oc) (.slice ea E.length ec) E va vc f (.slice (some ⟨hg, 0, none⟩) 1 qc3) G3) := HXc4.out.below hB
            have HWd4 : Hid (Below w1.heap.size w1 wd4) := HWc4.out.trans (hB.mono HWc4.out.size)
            clear hG hGm hB HXc4 HWc4
            go_wp2_with fail
            refine (held17 HG4.out HXd4.out.hk.r HGM4.out).mono ?_
            rintro e we4 ⟨rfl, hB⟩
            have HXe4 : Hid (Sx w1.heap.size Kc4 we4 sb S' P b ov p Lc4 [h38 p S' f] X R (.slice oa p.l.length oc) (.slice ea E.length ec) E va vc f (.slice (some ⟨hg, 0, none⟩) 1 qc3) G3) := HXd4.out.below hB
            have HWe4 : Hid (Below w1.heap.size w1 we4) := HWd4.out.trans (hB.mono HWd4.out.size)
            clear hB HG4 HGM4 HXd4 HWd4
            go_wp2_with fail
            go_ret
            exact ⟨rfl, HB1.out.trans (HWe4.out.mono HB1.out.size)⟩
          · have r6 := HXe2.out.ls.r
            go_wp2_with fail
            refine (msg17 3 0 0).mono ?_
            rintro e wa5 ⟨rfl, hB⟩
            have HXa5 : Hid _ := HXe2.out.below hB
            have HWa5 : Hid (Below w1.heap.size w1 wa5) := HWe2.out.trans (hB.mono HWe2.out.size)
            clear hB r6
            go_wp2_with fail
            have htk := tk_go (S := S) (S' := S') (f := f) (A := List.replicate p.n false) HP.out HOK.out HFit.out
            rw [← HEE.out] at htk
            refine (show Calls Tryz.prog 13 #[.pointer (some ⟨P, 0, none⟩), .pointer (some ⟨sb, 0, none⟩), .agg #[.int .i64 3, .int .i64 (0), .int .i64 1, .int .i64 3, .int .i64 (7), .int .i64 (0), .slice ea E.length ec, .slice none 0 0, .slice none 0 0]] wa5 _ from sx_takeN (m := ⟨3, 0, 1, 3, 7, 0, E, [], []⟩) (n := p.n) HXa5.out (by simp) (ml_e HXa5.out.ls.e) (small_ok (by omega) HEO.out q0_ok p0_ok) htk (by simp)).mono ?_
            clear htk
            rintro e wc5 ⟨ta5, tc5, Kc5, Lc5, rfl, hx, hb⟩
            have HXc5 : Hid (Sx w1.heap.size Kc5 wc5 sb S' P b ov p Lc5 [h37 p S f true (List.replicate p.n false)] X R (.slice oa p.l.length oc) (.slice ea E.length ec) E va vc f (.slice ba 1 bc) Fb) := hx
            have HWc5 : Hid (Below w1.heap.size w1 wc5) := HWa5.out.trans hb
            clear hx hb
            have d1 : wc5.cell? ⟨X, 1, none⟩ = some (.int .i64 (p.n : Int)) := by rw [← HSN.out]; exact HXc5.out.ls.x.c1
            have d2 : wc5.cell? ⟨X, 2, none⟩ = some (.int .i64 p.W) := HXc5.out.ls.x.c2
            have rm : (IntKind.u64.wrap code).tmod 1000 = (parF 1000 code : Int) := parF_rem (by omega)
            have hrl : (parF 1000 code : Int) < 1000 := parF_lt (by omega)
            generalize parF 1000 code = cN at rm hrl
            by_cases h4 : how.tmod 4 = 1
            · go_wp2_with fail
              refine (msg17 7 (1 + p.W) (1 + (cN : Int))).mono ?_
              rintro e wa6 ⟨rfl, hB⟩
              have HXa6 : Hid _ := HXc5.out.below hB
              have HWa6 : Hid (Below w1.heap.size w1 wa6) := HWc5.out.trans (hB.mono HWc5.out.size)
              clear hB d1 d2 rm
              go_wp2_with fail
              refine (show Calls Tryz.prog 13 #[.pointer (some ⟨P, 0, none⟩), .pointer (some ⟨sb, 0, none⟩), .agg #[.int .i64 7, .int .i64 (1 + p.W), .int .i64 1, .int .i64 3, .int .i64 (7), .int .i64 (1 + (cN : Int)), .slice none 0 0, .slice none 0 0, .slice none 0 0]] wa6 _ from sx_takeN (m := ⟨7, 1 + p.W, 1, 3, 7, 1 + (cN : Int), [], [], []⟩) (n := 0) HXa6.out (by simp) (ml_0 _) (small_ok (by omega) e0_ok q0_ok p0_ok) (tk_ends0 HP.out (.inr rfl) HNL.out.1 (by omega)) rfl).mono ?_
              rintro e wc6 ⟨ta6, tc6, Kc6, Lc6, rfl, hx, hb⟩
              have HXc6 : Hid (Sx w1.heap.size Kc6 wc6 sb S' P b ov p Lc6 [] X R (.slice oa p.l.length oc) (.slice ea E.length ec) E va vc f (.slice ba 1 bc) Fb) := hx
              have HWc6 : Hid (Below w1.heap.size w1 wc6) := HWa6.out.trans hb
              clear hx hb
              go_wp2_with fail
              refine (sx_none HXc6.out).mono ?_
              rintro e wd6 ⟨na, nc, rfl, hB⟩
              have HXd6 : Hid _ := HXc6.out.below hB
              have HWd6 : Hid (Below w1.heap.size w1 wd6) := HWc6.out.trans (hB.mono HWc6.out.size)
              have d2 : wd6.cell? ⟨X, 2, none⟩ = some (.int .i64 p.W) := HXd6.out.ls.x.c2
              clear hB
              go_wp2_with fail
              refine (msg17 5 (1 + p.W) 0).mono ?_
              rintro e wa7 ⟨rfl, hB⟩
              have HXa7 : Hid _ := HXd6.out.below hB
              have HWa7 : Hid (Below w1.heap.size w1 wa7) := HWd6.out.trans (hB.mono HWd6.out.size)
              clear hB d2
              go_wp2_with fail
              refine (show Calls Tryz.prog 13 #[.pointer (some ⟨P, 0, none⟩), .pointer (some ⟨sb, 0, none⟩), .agg #[.int .i64 5, .int .i64 (1 + p.W), .int .i64 1, .int .i64 3, .int .i64 (7), .int .i64 (0), .slice none 0 0, .slice none 0 0, .slice none 0 0]] wa7 _ from sx_takeN (m := ⟨5, 1 + p.W, 1, 3, 7, 0, [], [], []⟩) (n := 0) HXa7.out (by simp) (ml_0 _) (small_ok (by omega) e0_ok q0_ok p0_ok) (tk_gone0 HP.out HNL.out.1) rfl).mono ?_
              rintro e wc7 ⟨ta7, tc7, Kc7, Lc7, rfl, hx, hb⟩
              have HXc7 : Hid (Sx w1.heap.size Kc7 wc7 sb S' P b ov p Lc7 [] X R (.slice oa p.l.length oc) (.slice ea E.length ec) E va vc f (.slice ba 1 bc) Fb) := hx
              have HWc7 : Hid (Below w1.heap.size w1 wc7) := HWa7.out.trans hb
              clear hx hb
              go_wp2_with fail
              go_ret
              exact ⟨rfl, HB1.out.trans (HWc7.out.mono HB1.out.size)⟩
            · go_wp2_with fail
              refine (msg17 5 (1 + p.W) (1 + (cN : Int))).mono ?_
              rintro e wa6 ⟨rfl, hB⟩
              have HXa6 : Hid _ := HXc5.out.below hB
              have HWa6 : Hid (Below w1.heap.size w1 wa6) := HWc5.out.trans (hB.mono HWc5.out.size)
              clear hB d1 d2 rm
              go_wp2_with fail
              refine (show Calls Tryz.prog 13 #[.pointer (some ⟨P, 0, none⟩), .pointer (some ⟨sb, 0, none⟩), .agg #[.int .i64 5, .int .i64 (1 + p.W), .int .i64 1, .int .i64 3, .int .i64 (7), .int .i64 (1 + (cN : Int)), .slice none 0 0, .slice none 0 0, .slice none 0 0]] wa6 _ from sx_takeN (m := ⟨5, 1 + p.W, 1, 3, 7, 1 + (cN : Int), [], [], []⟩) (n := 0) HXa6.out (by simp) (ml_0 _) (small_ok (by omega) e0_ok q0_ok p0_ok) (tk_ends0 HP.out (.inl rfl) HNL.out.1 (by omega)) rfl).mono ?_
              rintro e wc6 ⟨ta6, tc6, Kc6, Lc6, rfl, hx, hb⟩
              have HXc6 : Hid (Sx w1.heap.size Kc6 wc6 sb S' P b ov p Lc6 [] X R (.slice oa p.l.length oc) (.slice ea E.length ec) E va vc f (.slice ba 1 bc) Fb) := hx
              have HWc6 : Hid (Below w1.heap.size w1 wc6) := HWa6.out.trans hb
              clear hx hb
              go_wp2_with fail
              refine (sx_none HXc6.out).mono ?_
              rintro e wd6 ⟨na, nc, rfl, hB⟩
              have HXd6 : Hid _ := HXc6.out.below hB
              have HWd6 : Hid (Below w1.heap.size w1 wd6) := HWc6.out.trans (hB.mono HWc6.out.size)
              have d2 : wd6.cell? ⟨X, 2, none⟩ = some (.int .i64 p.W) := HXd6.out.ls.x.c2
              clear hB
              go_wp2_with fail
              refine (msg17 5 (1 + p.W) 0).mono ?_
              rintro e wa7 ⟨rfl, hB⟩
              have HXa7 : Hid _ := HXd6.out.below hB
              have HWa7 : Hid (Below w1.heap.size w1 wa7) := HWd6.out.trans (hB.mono HWd6.out.size)
              clear hB d2
              go_wp2_with fail
              refine (show Calls Tryz.prog 13 #[.pointer (some ⟨P, 0, none⟩), .pointer (some ⟨sb, 0, none⟩), .agg #[.int .i64 5, .int .i64 (1 + p.W), .int .i64 1, .int .i64 3, .int .i64 (7), .int .i64 (0), .slice none 0 0, .slice none 0 0, .slice none 0 0]] wa7 _ from sx_takeN (m := ⟨5, 1 + p.W, 1, 3, 7, 0, [], [], []⟩) (n := 0) HXa7.out (by simp) (ml_0 _) (small_ok (by omega) e0_ok q0_ok p0_ok) (tk_gone0 HP.out HNL.out.1) rfl).mono ?_
              rintro e wc7 ⟨ta7, tc7, Kc7, Lc7, rfl, hx, hb⟩
              have HXc7 : Hid (Sx w1.heap.size Kc7 wc7 sb S' P b ov p Lc7 [] X R (.slice oa p.l.length oc) (.slice ea E.length ec) E va vc f (.slice ba 1 bc) Fb) := hx
              have HWc7 : Hid (Below w1.heap.size w1 wc7) := HWa7.out.trans hb
              clear hx hb
              go_wp2_with fail
              go_ret
              exact ⟨rfl, HB1.out.trans (HWc7.out.mono HB1.out.size)⟩
end Go.Proofs.YtgahfhpmlalplaaGreat
