/- Seven pages that change all or none; what the pages of a store hold. Nothing is walked here. -/
import Derived.Test.YtofkhgokfdpdiabGreatB27
import Derived.Test.YtofkhgokfdpdiabGreatB25
import Derived.Test.YtofkhgokfdpdiabGreatB26
import Derived.Test.YtofkhgokfdpdiabGreatB36
set_option maxRecDepth 100000
set_option maxHeartbeats 16000000
namespace Go.Proofs.YtofkhgokfdpdiabGreat
section
open Go.RowKit

def cntN (ps : List (Int × List Nat)) : Nat := (ps.filter (fun q => decide (q.2 ≠ []))).length
theorem cnt_app (a : List (Int × List Nat)) (q : Int × List Nat) : cntN (a ++ [q]) = cntN a + (if q.2 = [] then 0 else 1) := by
 unfold cntN
 rw [List.filter_append, List.length_append]
 by_cases h : q.2 = []
 ·rw [if_pos h]; simp [h]
 ·rw [if_neg h]; simp [h]
def withL (W : List (List Nat)) (ps : List (Int × List Nat)) : List (List Nat) := ps.foldl (fun W q => W.set q.1.toNat q.2) W
theorem with_len (ps : List (Int × List Nat)) : ∀ W, (withL W ps).length = W.length := by
 induction ps with
 | nil => intro W; rfl
 | cons q l ih => intro W; show (withL (W.set q.1.toNat q.2) l).length = _; rw [ih]; simp
theorem with_out {p : Nat} : ∀ (ps : List (Int × List Nat)) (W : List (List Nat)), p < W.length → (∀ q ∈ ps, 0 ≤ q.1) → (p : Int) ∉ ps.map (·.1) → bk (withL W ps) p = bk W p := by
 intro ps
 induction ps with
 | nil => intro W _ _ _; rfl
 | cons q l ih =>
  intro W hp h0 hn
  rw [List.map_cons, List.mem_cons] at hn
  show bk (withL (W.set q.1.toNat q.2) l) p = _
  have hq := h0 q (by simp)
  rw [ih _ (by simpa using hp) (fun r hr => h0 r (by simp [hr])) (fun e => hn (.inr e)), bk_set hp, if_neg (fun e => hn (.inl (by omega)))]
theorem with_in : ∀ (ps : List (Int × List Nat)) (W : List (List Nat)) (q : Int × List Nat), q ∈ ps → (∀ q ∈ ps, 0 ≤ q.1 ∧ q.1.toNat < W.length) → (ps.map (·.1)).Nodup → bk (withL W ps) q.1.toNat = q.2 := by
 intro ps
 induction ps with
 | nil => intro W q hq _ _; simp at hq
 | cons r l ih =>
  intro W q hq h0 hn
  rw [List.map_cons, List.nodup_cons] at hn
  show bk (withL (W.set r.1.toNat r.2) l) q.1.toNat = _
  rcases List.mem_cons.1 hq with rfl | hq
  ·have h1 := h0 q (by simp)
   rw [with_out l _ (by simpa using h1.2) (fun s hs => (h0 s (by simp [hs])).1) (by rw [Int.toNat_of_nonneg h1.1]; exact hn.1), bk_set h1.2, if_pos rfl]
  ·exact ih _ q hq (fun s hs => by simpa using h0 s (by simp [hs])) hn.2
structure LC (tab t tk : List Nat) (b : Nat) (S0 S : Dk) (done : List (Int × List Nat)) : Prop where
 li : LI tab t tk b S0.bl.length
 dn : S.down = false
 len : S.bl.length = S0.bl.length
 keep : ∀ x, x ∉ tk → bk S.bl x = bk S0.bl x
 pg : ∀ q ∈ done, (q.2 = [] → tn t q.1.toNat = 0) ∧ (q.2 ≠ [] → tn t q.1.toNat ∈ tk ∧ bk S.bl (tn t q.1.toNat) = q.2)
 oth : ∀ p : Nat, p < tab.length → (p : Int) ∉ done.map (·.1) → tn t p = tn tab p
 wr : S.wr = S0.wr + tk.length
 cnt : tk.length = cntN done
 lf : S0.left = -1 → S.left = -1
 rd : S.rd = S0.rd
theorem LC.start {tab : List Nat} {S : Dk} (h : Tok tab S.bl.length) (hd : S.down = false) : LC tab tab [] 1 S S [] :=
 ⟨LI.start h, hd, rfl, fun _ _ => rfl, fun q hq => by simp at hq, fun _ _ _ => rfl, rfl, rfl, fun h => h, rfl⟩
section

variable {tab t tk : List Nat} {b : Nat} {S0 S : Dk} {done : List (Int × List Nat)} {p : Nat} {d : List Nat}

theorem LC.zero (h : LC tab t tk b S0 S done) (hp : p < tab.length) (hn : (p : Int) ∉ done.map (·.1)) (h0 : ∀ q ∈ done, 0 ≤ q.1 ∧ q.1 < (tab.length : Int)) : LC tab (t.set p 0) tk b S0 S (done ++ [((p : Int), [])]) := by
 have hl := h.li.len
 refine ⟨h.li.zero p, h.dn, h.len, h.keep, fun q hq => ?_, fun r hr hnr => ?_, h.wr, by rw [cnt_app, if_pos rfl]; exact h.cnt, h.lf, h.rd⟩
 ·rcases List.mem_append.1 hq with hq | hq
  ·have hne : p ≠ q.1.toNat := fun e => hn (List.mem_map.2 ⟨q, hq, by have := (h0 q hq).1; omega⟩)
   rw [tn_set (by have := h0 q hq; omega), if_neg hne]; exact h.pg q hq
  ·simp at hq
   subst hq
   refine ⟨fun _ => ?_, fun e => absurd rfl e⟩
   show tn (t.set p 0) (p : Int).toNat = 0
   rw [Int.toNat_natCast, tn_set (by omega), if_pos rfl]
 ·rw [List.map_append, List.mem_append] at hnr
  have hne : p ≠ r := fun e => hnr (.inr (by subst e; simp))
  rw [tn_set (by omega), if_neg hne]; exact h.oth r hr (fun e => hnr (.inl e))
theorem LC.next (h : LC tab t tk b S0 S done) (h64 : ∀ x ∈ tab, x < 64) (hx : nextF tab b < S0.bl.length) (hd : d ≠ []) (hp : p < tab.length) (hn : (p : Int) ∉ done.map (·.1)) (h0 : ∀ q ∈ done, 0 ≤ q.1 ∧ q.1 < (tab.length : Int)) : LC tab (t.set p (nextF tab b)) (nextF tab b :: tk) (nextF tab b) S0 (putS S (nextF tab b) d) (done ++ [((p : Int), d)]) := by
 have hl := h.li.len
 have hgt := next_gt (t := tab) (b := b)
 have hb : nextF tab b < S.bl.length := by rw [h.len]; exact hx
 have hnew : ∀ x ∈ tk, x ≠ nextF tab b := fun x hx e => by have := (h.li.tk2 x hx).2.1; omega
 refine ⟨h.li.next h64 hx p, h.dn, by show (S.bl.set _ _).length = _; rw [List.length_set]; exact h.len, fun x hxn => ?_, fun q hq => ?_, fun r hr hnr => ?_, by show S.wr + 1 = _; rw [h.wr, List.length_cons]; omega, by rw [cnt_app, if_neg hd, List.length_cons, h.cnt], fun e => by show decL S.left = -1; rw [h.lf e]; rfl, h.rd⟩
 ·rw [List.mem_cons] at hxn
  show bk (S.bl.set (nextF tab b) d) x = _
  by_cases hxl : x < S.bl.length
  ·rw [bk_set hxl, if_neg (fun e => hxn (.inl e.symm))]; exact h.keep x (fun e => hxn (.inr e))
  ·have e1 : bk (S.bl.set (nextF tab b) d) x = [] := by unfold bk; rw [List.getD_eq_getElem?_getD, List.getElem?_eq_none (by simpa using hxl)]; rfl
   have e2 : bk S0.bl x = [] := by unfold bk; rw [List.getD_eq_getElem?_getD, List.getElem?_eq_none (by rw [← h.len]; omega)]; rfl
   rw [e1, e2]
 ·rcases List.mem_append.1 hq with hq | hq
  ·have hne : p ≠ q.1.toNat := fun e => hn (List.mem_map.2 ⟨q, hq, by have := (h0 q hq).1; omega⟩)
   rw [tn_set (by have := h0 q hq; omega), if_neg hne]
   refine ⟨(h.pg q hq).1, fun e => ?_⟩
   obtain ⟨a, c⟩ := (h.pg q hq).2 e
   refine ⟨by simp [a], ?_⟩
   have hlt : tn t q.1.toNat < S.bl.length := by rw [h.len]; exact (h.li.tk2 _ a).2.2.1
   show bk (S.bl.set (nextF tab b) d) _ = _
   rw [bk_set hlt, if_neg (fun e => hnew _ a e.symm)]; exact c
  ·simp at hq
   subst hq
   refine ⟨fun e => absurd e hd, fun _ => ?_⟩
   show tn (t.set p (nextF tab b)) (p : Int).toNat ∈ _ ∧ bk (S.bl.set (nextF tab b) d) (tn (t.set p (nextF tab b)) (p : Int).toNat) = d
   rw [Int.toNat_natCast, tn_set (by omega), if_pos rfl]
   exact ⟨by simp, by rw [bk_set hb, if_pos rfl]⟩
 ·rw [List.map_append, List.mem_append] at hnr
  have hne : p ≠ r := fun e => hnr (.inr (by subst e; simp))
  rw [tn_set (by omega), if_neg hne]; exact h.oth r hr (fun e => hnr (.inl e))
end

theorem write_cut {S : Dk} {k : Nat} {d : List Nat} (hd : S.down = false) (hk : k < S.bl.length) (hl : S.left = 0) (hb : d.length ≤ 1024) : writeI S k d = 80 ∧ writeS S k d = offS S := by
 have hr := ref_in hd hk
 exact ⟨by unfold writeI; rw [if_neg (fun e => e hr), if_neg (by omega), if_pos hl], by unfold writeS; rw [if_neg (fun e => e hr), if_neg (by omega), if_pos hl]⟩
theorem lay_all {tab : List Nat} {S0 : Dk} (hT : Tok tab S0.bl.length) (h64 : ∀ x ∈ tab, x < 64) : ∀ (ps : List (Int × List Nat)) (done : List (Int × List Nat)) (t tk : List Nat) (b : Nat) (S : Dk), LC tab t tk b S0 S done → Lok tab.length (done ++ ps) → tk.length + ps.length ≤ tab.length →
  (∃ t' tk' b' S', layS tab ps b t S = (some t', S') ∧ LC tab t' tk' b' S0 S' (done ++ ps)) ∨
  (∃ (S' : Dk) (tk' : List Nat), layS tab ps b t S = (none, S') ∧ S'.down = true ∧ S'.bl.length = S0.bl.length ∧ (∀ x, x ∉ tk' → bk S'.bl x = bk S0.bl x) ∧ (∀ x ∈ tk', 2 ≤ x ∧ x ∉ tab) ∧ S0.left ≠ -1 ∧ S'.rd = S0.rd ∧ S'.wr ≤ S0.wr + tab.length) := by
 intro ps
 induction ps with
 | nil => intro done t tk b S h _ _; exact .inl ⟨t, tk, b, S, rfl, by rw [List.append_nil]; exact h⟩
 | cons a l ih =>
  obtain ⟨p, d⟩ := a
  intro done t tk b S h hL hk
  rw [List.length_cons] at hk
  have hpg := hL.pg (p, d) (by simp)
  have hln := hL.ln (p, d) (by simp)
  have hnd := hL.nd
  simp only at hpg hln
  obtain ⟨q, rfl⟩ : ∃ q : Nat, p = q := ⟨p.toNat, by omega⟩
  have hnq : (q : Int) ∉ done.map (·.1) := fun e => by
   rw [List.map_append, List.map_cons, List.nodup_append] at hnd
   exact hnd.2.2 _ e _ (by simp) rfl
  have h0 : ∀ r ∈ done, 0 ≤ r.1 ∧ r.1 < (tab.length : Int) := fun r hr => hL.pg r (by simp [hr])
  have e3 : done ++ (((q : Int), d) :: l) = (done ++ [((q : Int), d)]) ++ l := by simp
  unfold layS
  by_cases hd : d = []
  ·subst hd
   rw [if_pos rfl, Int.toNat_natCast]
   rw [e3] at hL ⊢
   exact ih (done ++ [((q : Int), [])]) _ tk b S (h.zero (by omega) hnq h0) hL (by omega)
  ·rw [if_neg hd, Int.toNat_natCast]
   have hx := free_in h.li hT (by omega)
   have hxS : nextF tab b < S.bl.length := by rw [h.len]; exact hx
   by_cases hl0 : S.left = 0
   ·obtain ⟨w1, w2⟩ := write_cut h.dn hxS hl0 hln
    rw [if_neg (by rw [w1]; omega), w2]
    refine .inr ⟨offS S, tk, rfl, rfl, h.len, h.keep, fun x hx => ⟨(h.li.tk2 x hx).1, (h.li.tk2 x hx).2.2.2⟩, fun e => ?_, h.rd, by show S.wr ≤ _; rw [h.wr]; omega⟩
    rw [h.lf e] at hl0; omega
   ·obtain ⟨w1, w2⟩ := write_in h.dn hxS hl0 hln
    rw [if_pos w1, w2]
    rw [e3] at hL ⊢
    exact ih (done ++ [((q : Int), d)]) _ _ _ _ (h.next h64 hx hd (by omega) hnq h0) hL (by simp; omega)
structure Iv (P : Bo) (S : Dk) (W : List (List Nat)) : Prop where
 ok : P.ok S.bl.length
 n8 : P.tab.length = 8
 w8 : W.length = 8
 b64 : S.bl.length ≤ 64
 ov : P.over = false
 dn : S.down = false
 root : bk S.bl P.home = rootB P.gen P.tab
 oth : ∀ g t, rootOf (bk S.bl (1 - P.home)) S.bl.length = some (g, t) → g < P.gen
 pg : ∀ p, p < 8 → (tn P.tab p = 0 ∧ bk W p = []) ∨ (tn P.tab p ≠ 0 ∧ bk W p = bk S.bl (tn P.tab p) ∧ bk W p ≠ [])
theorem read_at {S : Dk} {k : Nat} (hd : S.down = false) (hk : k < S.bl.length) : readL S k = bk S.bl k := (read_in hd hk).2.1
theorem rd_dn {S : Dk} (hd : S.down = false) (k : Nat) : (rdS S k).down = false ∧ (rdS S k).bl = S.bl := by
 induction k with
 | zero => exact ⟨hd, rfl⟩
 | succ k ih => unfold rdS; rw [read_bl]; exact ⟨by unfold readS; split; exact ih.1; exact ih.1, ih.2⟩
end
section
open Go.RowKit

structure Iw (P : Bo) (S : Dk) (W : List (List Nat)) : Prop where
 ok : P.ok S.bl.length
 n8 : P.tab.length = 7
 w8 : W.length = 7
 b64 : S.bl.length ≤ 64
 ov : P.over = false
 dn : S.down = false
 root : bk S.bl P.home = rootB P.gen P.tab
 oth : ∀ g t, rootOf (bk S.bl (1 - P.home)) S.bl.length = some (g, t) → g < P.gen
 pg : ∀ p, p < 7 → (tn P.tab p = 0 ∧ bk W p = []) ∨ (tn P.tab p ≠ 0 ∧ bk W p = bk S.bl (tn P.tab p) ∧ bk W p ≠ [])
theorem Iw.two {P : Bo} {S : Dk} {W : List (List Nat)} (h : Iw P S W) : 16 ≤ S.bl.length := by have := h.ok.tok.2.1; have := h.n8; omega
theorem open_iw {P : Bo} {S : Dk} {W : List (List Nat)} (h : Iw P S W) : heldK S 2 = some P := by
 have h16 := h.two
 have e0 : readL (rdS S 0) ((0 : Nat) : Int) = bk S.bl 0 := read_at (S := S) (k := 0) h.dn (Nat.lt_of_lt_of_le (by decide) h16)
 have e1 : readL (rdS S 1) ((1 : Nat) : Int) = bk S.bl 1 := by
  obtain ⟨a, b⟩ := rd_dn h.dn 1
  rw [read_at (k := 1) a (by rw [b]; omega), b]
 have hb := root_back h.ok.g1 h.ok.g40 h.ok.n8 h.b64 h.ok.tok
 have hP : P = ⟨P.gen, P.tab, P.home, false⟩ := by obtain ⟨g, t, ho, ov⟩ := P; have := h.ov; simp only at this; subst this; rfl
 show pickB (pickB none (rootOf (readL (rdS S 0) ((0 : Nat) : Int)) S.bl.length) 0) (rootOf (readL (rdS S 1) ((1 : Nat) : Int)) S.bl.length) 1 = some P
 rw [e0, e1]
 have hr := h.root
 have ho := h.oth
 have h2 := h.ok.h2
 have hh : P.home = 0 ∨ P.home = 1 := by omega
 rcases hh with hh | hh
 ·rw [hh] at hr ho
  rw [hr, hb]
  rw [hh] at hP
  cases hq : rootOf (bk S.bl 1) S.bl.length with
  | none => exact congrArg some hP.symm
  | some q =>
   obtain ⟨g, t⟩ := q
   have := ho g t hq
   show (if P.gen < g then some (Bo.mk g t 1 false) else some (Bo.mk P.gen P.tab 0 false)) = some P
   rw [if_neg (by omega)]; exact congrArg some hP.symm
 ·rw [hh] at hr ho
  rw [hr, hb]
  rw [hh] at hP
  cases hq : rootOf (bk S.bl 0) S.bl.length with
  | none => exact congrArg some hP.symm
  | some q =>
   obtain ⟨g, t⟩ := q
   have := ho g t hq
   show (if g < P.gen then some (Bo.mk P.gen P.tab 1 false) else some (Bo.mk g t 0 false)) = some P
   rw [if_pos this]; exact congrArg some hP.symm
theorem Iw.turn {P : Bo} {S S' : Dk} {W : List (List Nat)} (h : Iw P S W) (hd : S'.down = false) (hl : S'.bl.length = S.bl.length) (hk : ∀ x, x ∈ P.tab ∨ x < 2 → bk S'.bl x = bk S.bl x) : Iw P S' W := by
 have h2 := h.ok.h2
 refine ⟨by rw [hl]; exact h.ok, h.n8, h.w8, by rw [hl]; exact h.b64, h.ov, hd, by rw [hk _ (.inr (by omega))]; exact h.root, fun g t hg => h.oth g t (by rw [hk _ (.inr (by omega)), hl] at hg; exact hg), fun p hp => ?_⟩
 rcases h.pg p hp with q | ⟨a, b, c⟩
 ·exact .inl q
 ·exact .inr ⟨a, by rw [hk _ (.inl (tn_mem (by rw [h.n8]; exact hp)))]; exact b, c⟩
theorem Iw.shut {P : Bo} {S : Dk} {W : List (List Nat)} (h : Iw P S W) : shutB P S = false := by unfold shutB; rw [h.ov, h.dn]; rfl
theorem put_iw {P : Bo} {S : Dk} {W : List (List Nat)} {ps : List (Int × List Nat)} (h : Iw P S W) (hL : Lok 7 ps) (hp : ps ≠ []) (hg : P.gen < 1099511627776) :
  (∃ P' S', putO P S ps = (0, P', S') ∧ Iw P' S' (withL W ps) ∧ P'.gen = P.gen + 1 ∧ P'.home = 1 - P.home ∧ S'.wr = S.wr + cntN ps + 1 ∧ S'.rd = S.rd ∧ (∀ x, (x ∈ P.tab ∧ x ≠ 0) ∨ x = P.home → bk S'.bl x = bk S.bl x) ∧ S'.bl.length = S.bl.length ∧ (S.left = -1 → S'.left = -1)) ∨
  (∃ S', putO P S ps = (80, endB P, S') ∧ S'.down = true ∧ Iw P (onS S') W ∧ S.left ≠ -1 ∧ S'.rd = S.rd ∧ S'.wr ≤ S.wr + 8) := by
 have hsh := h.shut
 have hL' : Lok P.tab.length ps := by rw [h.n8]; exact hL
 have hfa : faultI P.tab.length ps = 0 := fault_of ps [] hL' (fun _ _ => by simp)
 have h64 : ∀ x ∈ P.tab, x < 64 := fun x hx => by have h1 := tok_lt h.ok.tok x hx; have h2 := h.b64; omega
 have h16 := h.two
 have hh := h.ok.h2
 rcases lay_all h.ok.tok h64 ps [] P.tab [] 1 S (LC.start h.ok.tok h.dn) (by rw [List.nil_append]; exact hL') (by simp; exact lok_len hL') with ⟨t, tk, b, S1, hlay, hC⟩ | ⟨S1, tk, hlay, hdn, hlen, hkeep, htk, hlf, hrd, hwr⟩
 ·rw [List.nil_append] at hC
  have htok : Tok t S.bl.length := hC.li.tok h.ok.tok
  have htl : t.length = 7 := by rw [hC.li.len, h.n8]
  have hrs : (rootB (P.gen + 1) t).length ≤ 1024 := Nat.le_trans (root_short (by omega)) (by omega)
  have hin : 1 - P.home < S1.bl.length := by rw [hC.len]; omega
  have htk2 : ∀ x, x ∈ tk → 2 ≤ x ∧ x ∉ P.tab := fun x hx => ⟨(hC.li.tk2 x hx).1, (hC.li.tk2 x hx).2.2.2⟩
  by_cases hl0 : S1.left = 0
  ·obtain ⟨w1, w2⟩ := write_cut hC.dn hin hl0 hrs
   refine .inr ⟨offS S1, by rw [put_cut hsh hfa hp (by omega) hlay (by rw [w1]; omega), w2], rfl, ?_, fun e => by rw [hC.lf e] at hl0; omega, hC.rd, ?_⟩
   ·refine h.turn rfl hC.len (fun x hx => hC.keep x (fun e => ?_))
    have := htk2 x e
    rcases hx with q | q
    ·exact this.2 q
    ·omega
   ·have h1 := hC.wr
    have h2 := hC.cnt
    have h3 : cntN ps ≤ ps.length := List.length_filter_le _ _
    have h4 := lok_len hL
    show S1.wr ≤ _
    omega
  ·obtain ⟨w1, w2⟩ := write_in hC.dn hin hl0 hrs
   have hok : (Bo.mk (P.gen + 1) t (1 - P.home) P.over).ok S.bl.length := ⟨by show 1 ≤ P.gen + 1; omega, by show P.gen + 1 ≤ _; omega, by show t.length ≤ 8; omega, htok, by show 1 - P.home ≤ 1; omega⟩
   have hlen : (putS S1 (1 - P.home) (rootB (P.gen + 1) t)).bl.length = S.bl.length := by show (S1.bl.set _ _).length = _; rw [List.length_set]; exact hC.len
   have hbk : ∀ x, x ≠ 1 - P.home → bk (putS S1 (1 - P.home) (rootB (P.gen + 1) t)).bl x = bk S1.bl x := fun x hx => by
    show bk (S1.bl.set _ _) x = _
    by_cases hxl : x < S1.bl.length
    ·rw [bk_set hxl, if_neg (fun e => hx e.symm)]
    ·unfold bk
     rw [List.getD_eq_getElem?_getD, List.getElem?_eq_none (by simpa using hxl), List.getD_eq_getElem?_getD, List.getElem?_eq_none (by omega)]
   have hnt : ∀ x, x ∈ P.tab → x ≠ 0 → x ≠ 1 - P.home := fun x hx h0 e => by
    obtain ⟨i, hi, e2⟩ := List.getElem_of_mem hx
    have h3 := (tok_iff.1 h.ok.tok).2.2.1 i hi
    rw [tn_at hi, e2] at h3
    omega
   refine .inl ⟨⟨P.gen + 1, t, 1 - P.home, P.over⟩, putS S1 (1 - P.home) (rootB (P.gen + 1) t), by rw [put_ok hsh hfa hp (by omega) hlay w1, w2], ?_, rfl, rfl, ?_, hC.rd, ?_, hlen, fun e => by show decL S1.left = -1; rw [hC.lf e]; rfl⟩
   ·refine ⟨by rw [hlen]; exact hok, htl, by rw [with_len]; exact h.w8, by rw [hlen]; exact h.b64, h.ov, hC.dn, ?_, fun g t' hg => ?_, fun p hp8 => ?_⟩
    ·show bk (S1.bl.set _ _) (1 - P.home) = _
     rw [bk_set hin, if_pos rfl]
    ·show g < P.gen + 1
     have e1 : 1 - (1 - P.home) = P.home := by omega
     rw [show (Bo.mk (P.gen + 1) t (1 - P.home) P.over).home = 1 - P.home from rfl, e1, hbk P.home (by omega), hC.keep P.home (fun e => by have := (htk2 _ e).1; omega), hlen, h.root, root_back h.ok.g1 h.ok.g40 h.ok.n8 h.b64 h.ok.tok] at hg
     simp only [Option.some.injEq, Prod.mk.injEq] at hg
     omega
    ·show (tn t p = 0 ∧ _) ∨ (tn t p ≠ 0 ∧ _)
     by_cases hpm : (p : Int) ∈ ps.map (·.1)
     ·obtain ⟨q, hq, e⟩ := List.mem_map.1 hpm
      have hqp : q.1.toNat = p := by omega
      have hw := with_in ps W q hq (fun r hr => by have := hL.pg r hr; have := h.w8; exact ⟨by omega, by omega⟩) hL.nd
      have hc := hC.pg q hq
      rw [hqp] at hw hc
      by_cases hd : q.2 = []
      ·exact .inl ⟨hc.1 hd, by rw [hw]; exact hd⟩
      ·obtain ⟨a, c⟩ := hc.2 hd
       have := htk2 _ a
       have hn0 : tn t p ≠ 0 := by omega
       refine .inr ⟨hn0, ?_, by rw [hw]; exact hd⟩
       have hn1 : tn t p ≠ 1 - P.home := by omega
       rw [hw]
       show q.2 = bk _ (tn t p)
       rw [hbk _ hn1]; exact c.symm
     ·have e1 := hC.oth p (by rw [h.n8]; exact hp8) hpm
      have e2 := with_out ps W (by rw [h.w8]; exact hp8) (fun r hr => (hL.pg r hr).1) hpm
      rw [e1, e2]
      have hm : tn P.tab p ∈ P.tab := tn_mem (by rw [h.n8]; exact hp8)
      rcases h.pg p hp8 with q | ⟨a, b', c⟩
      ·exact .inl q
      ·refine .inr ⟨a, ?_, c⟩
       rw [b', hbk _ (hnt _ hm a), hC.keep _ (fun e => (htk2 _ e).2 hm)]
   ·show S1.wr + 1 = _
    rw [hC.wr, hC.cnt]
   ·intro x hx
    rcases hx with ⟨q, h0⟩ | q
    ·rw [hbk x (hnt _ q h0), hC.keep x (fun e => (htk2 _ e).2 q)]
    ·subst q
     rw [hbk _ (by omega), hC.keep _ (fun e => by have := (htk2 _ e).1; omega)]
 ·refine .inr ⟨S1, put_lay hsh hfa hp (by omega) hlay, hdn, ?_, hlf, hrd, by rw [h.n8] at hwr; omega⟩
  refine h.turn rfl hlen (fun x hx => hkeep x (fun e => ?_))
  have := htk x e
  rcases hx with q | q
  ·exact this.2 q
  ·omega
theorem Iw.rdd {P : Bo} {S S' : Dk} {W : List (List Nat)} {j : Nat} (h : Iw P S W) (hr : Rdd j S S') : Iw P S' W := h.turn (by rw [hr.dn]; exact h.dn) (by rw [hr.bl]) (fun x _ => by rw [hr.bl])
theorem Iw.get {P : Bo} {S : Dk} {W : List (List Nat)} (h : Iw P S W) {p : Nat} (hp : p < 7) : getL P S (p : Int) = bk W p := by
 unfold getL
 rw [if_neg (by rw [h.shut]; simp), if_neg (by unfold hasB; rw [h.n8]; simp; omega), Int.toNat_natCast]
 rcases h.pg p hp with ⟨a, b⟩ | ⟨a, b, c⟩
 ·rw [if_pos a, b]
 ·rw [if_neg a, read_at h.dn (tok_lt h.ok.tok _ (tn_mem (by rw [h.n8]; exact hp))), b]
end
end Go.Proofs.YtofkhgokfdpdiabGreat
