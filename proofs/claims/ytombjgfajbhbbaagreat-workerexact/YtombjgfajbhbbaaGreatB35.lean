/- The reference's worker: what is found, against the program's. -/
import Derived.Test.YtombjgfajbhbbaaGreatB34
set_option maxRecDepth 100000
set_option maxHeartbeats 16000000
namespace Go.Proofs.YtombjgfajbhbbaaGreat
open Go.RowKit
section
abbrev TH : TypeId := 120
def Hvw (w : World) (v : Value) (M : List Rwt) : Prop := (v = .slice none 0 0 ∧ M = []) ∨ ∃ g off c, v = .slice (some ⟨g, off, none⟩) M.length c ∧ ∀ j u, (flatRt M)[j]? = some u → w.cell? ⟨g, off + j, none⟩ = some u
theorem Hvw.below {w w' : World} {v : Value} {M : List Rwt} (h : Hvw w v M) (hb : Below w.heap.size w w') : Hvw w' v M := by
 rcases h with h | ⟨g, off, c, e, h⟩
 ·exact .inl h
 ·exact .inr ⟨g, off, c, e, fun j u hj => (hb.cell (p := ⟨g, off + j, none⟩) (cell_lt (h j u hj))).trans (h j u hj)⟩
theorem info_held : (Tryz.prog.info? 120).map (fun i => (i.zero, i.size, i.bytes)) = some (some (.agg #[.int .i64 0, .int .i64 0, .slice none 0 0, .slice none 0 0, .bool false, .slice none 0 0]), 6, 96) := by kernel_rfl
theorem wpl_app_held {w : World} {ops : Array Oper} {rest : List Oper} {o : Oper} {a : Act} {Q : Exit → Act → World → Prop} (hgd : o.guard = none) (s x : Operand)
  (ho : o.op = .call { callee := .builtin .append, args := #[s, x], argTypes := #[74, 74] })
  (base : Nat) (v : Value) (n : Nat) (L : List Rwt) (hs : a.eval s = v) (hn : n = L.length) (hown : w.ownsRow base TH 6 v n (flatRt L))
  (y : Value) (M : List Rwt) (hx : a.eval x = y) (hy : Hvw w y M) (h1 : ∀ u ∈ flatRt M, u.oneCell' = true) (h63 : n + M.length ≤ 9000) (hbase : base ≤ w.heap.size)
  (h : ∀ v' w', w'.ownsRow base TH 6 v' (n + M.length) (flatRt (L ++ M)) → w.grownBy w' v.ownBlock → (v'.ownBlock = v.ownBlock ∨ v'.ownBlock = some w.heap.size) → wpList Tryz.prog ops Q rest (a.put o.dst v') w') : wpList Tryz.prog ops Q (o :: rest) a w := by
 obtain ⟨i0, hi0, hz0, hz1, hz2⟩ := info_partsQ info_held;rcases hy with ⟨rfl, rfl⟩ | ⟨g, off, c, rfl, hc⟩
 ·refine wpList_append_own_none hgd s x 74 ho base TH i0 6 Tryz.underlying74 hi0 _ n (flatRt L) hs hown hx ?_;exact h v w (by simpa using hown) ⟨rfl, rfl, rfl, Nat.le_refl _, fun _ _ _ => rfl⟩ (.inl rfl)
 ·refine wpList_append_own_at w hgd s x 74 ho base TH i0 _ 6 96 Tryz.underlying74 hi0 hz0 hz1 hz2 rfl (by decide) v n (flatRt L) hs hown ⟨g, off, none⟩ M.length c (flatRt M) hx (flatRt_len M) ?_ h1 (by unfold maxLen; omega) (by omega) hbase (fun v' w' h2 h3 _ h5 => h v' w' (by rw [flatRt_app]; exact h2) h3 h5);intro j u hj;rw [WideShapes.add_plain];exact hc j u hj
theorem flatRt_one {w : World} {p : Pn} {L : List Rwt} (h : ∀ x ∈ L, Rwo w p x) : ∀ u ∈ flatRt L, u.oneCell' = true := by
 intro u hu;unfold flatRt at hu;obtain ⟨x, hx, hu⟩ := List.mem_flatMap.1 hu;obtain ⟨_, _, e1⟩ := own_formN (h x hx).ends;obtain ⟨vs, hv, _⟩ := (h x hx).prt;obtain ⟨_, _, e2⟩ := own_formN hv.row;obtain ⟨_, _, e3⟩ := own_formN (h x hx).app;unfold cellsR at hu;rw [e1, e2, e3] at hu;simp only [List.mem_cons, List.not_mem_nil, or_false] at hu;rcases hu with rfl | rfl | rfl | rfl | rfl | rfl <;> rfl
section

variable {w w' : World} {P : Nat} {lv ov : Value} {p : Pn} {nd : Int} {L : List Rwt}

theorem Rwk.part (h : Rwk w P lv ov p nd L) {g c : Nat} (e : lv = .slice (some ⟨g, 0, none⟩) L.length c) {k : Nat} (hk : k ≤ L.length) : Hvw w (.slice (some ⟨g, 0, none⟩) k c) (L.take k) ∧ Hvw w (.slice (some ⟨g, k * 6, none⟩) (L.length - k) (c - k)) (L.drop k) := by
 subst e;have hrow := h.row;refine ⟨.inr ⟨g, 0, c, by rw [List.length_take, Nat.min_eq_left hk], fun j u hj => ?_⟩, .inr ⟨g, k * 6, c - k, by rw [List.length_drop], fun j u hj => ?_⟩⟩
 ·rw [← flatRt_take] at hj;rw [Nat.zero_add];rw [List.getElem?_take] at hj
  split at hj
  ·exact (own_cellN hrow hj).1
  ·cases hj
 ·rw [← flatRt_drop, List.getElem?_drop] at hj;exact (own_cellN hrow hj).1
end
end
section
theorem hidI {p : Prop} (h : p) : Hid p := h
theorem set_blk {w : World} {g : Nat} {cur : Array Value} {t : TypeId} (h : w.heap[g]? = some (.cells cur t (0, 0))) (i : Nat) (u : Value) : (w.setCell ⟨g, i, none⟩ u).heap[g]? = some (.cells (cur.setIfInBounds i u) t (0, 0)) := by
 rw [Sort.setCell_eq];simp [Sort.mapBlock, Array.getElem?_modify, h, Sort.onCells]
section

variable {w w1 w' : World} {P : Nat} {lv ov v : Value} {p : Pn} {nd : Int} {L L' : List Rwt}

theorem Rwk.turn (h : Rwk w P lv ov p nd L) (hb : Below w.heap.size w w1) (hrow : w1.ownsRow 0 TH 6 v L'.length (flatRt L')) (hvP : v.ownBlock ≠ some P) (hr : RiseL kR L') (ha : L'.Pairwise apartR) (he : ∀ x ∈ L', Rwo w1 p x) (ho : ∀ x ∈ L', ¬ inR x P ∧ (∀ y, ov.ownBlock = some y → ¬ inR x y) ∧ ∀ y, v.ownBlock = some y → ¬ inR x y) : Rwk (w1.setCell ⟨P, 9, none⟩ v) P v ov p nd L' := by
 have h1 := h.below hb;have hc := ch_set w1 P 9 v;refine ⟨by rw [set_blk h1.blk]; rfl, own_ch h1.ops hc (fun x hx e => h1.oP (by rw [hx, e])), h.lok, h.is, h.nd, own_ch hrow hc (fun x hx e => hvP (by rw [hx, e])), hr, ha, fun x hx => (he x hx).ch hc (fun y y1 y2 e => (ho x hx).1 (by subst e; exact ⟨y1, y2⟩)), ho⟩
theorem Rwk.sub (h : Rwk w P lv ov p nd L) (hb : Below w.heap.size w w1) (hs : L'.Sublist L) (hrow : w1.ownsRow w.heap.size TH 6 v L'.length (flatRt L')) : Rwk (w1.setCell ⟨P, 9, none⟩ v) P v ov p nd L' := by
 have hP := h.ltP;refine h.turn hb (own_baseC hrow (Nat.zero_le _)) (fun e => by have := (hrow.lt P e).1; omega) (h.rise.sublist hs) (h.apart.sublist hs) (fun x hx => ?_) (fun x hx => ⟨(h.off x (hs.subset hx)).1, (h.off x (hs.subset hx)).2.1, fun y hy hi => ?_⟩)
 ·exact (h.ent x (hs.subset hx)).ch (D := fun _ => False) (Ch.of_below hb) (fun _ _ _ e => e)
 ·have h1 := (hrow.lt y hy).1;have h2 := (h.ent x (hs.subset hx)).hi;have h3 := hi.2;omega
end

theorem sub_out {α : Type} (L : List α) (k : Nat) : (L.take k ++ L.drop (k + 1)).Sublist L := by
 have h1 : (L.drop (k + 1)).Sublist (L.drop k) := by
  rw [show L.drop (k + 1) = (L.drop k).drop 1 by rw [List.drop_drop]];exact List.drop_sublist _ _
 have h2 := List.Sublist.append (List.Sublist.refl (L.take k)) h1;rwa [List.take_append_drop] at h2
theorem forget17_walk {w : World} {P : Nat} {lv ov : Value} {p : Pn} {nd : Int} {L : List Rwt} (h : Rwk w P lv ov p nd L) (hL : L.length ≤ 4096) {k : Nat} (hk : k < L.length) : Calls Tryz.prog 83 #[.pointer (some ⟨P, 0, none⟩), .int .i64 k] w fun e w' => e = .returned (.tuple #[]) ∧ ∃ lv', Rwk w' P lv' ov p nd (L.take k ++ L.drop (k + 1)) ∧ Ch (fun x => x = P) w w' ∧ ∀ y, lv'.ownBlock = some y → w.heap.size ≤ y := by
 have H := hidH h;have HL : Hid (L.length ≤ 4096) := hL;have HK : Hid (k < L.length) := hk;have HON := hidI (flatRt_one h.ent);obtain ⟨g, c, e, hcc, _⟩ := h.at hk;subst e;have HPT := hidI (h.part rfl (Nat.le_of_lt hk));have HPD := hidI (h.part rfl (Nat.succ_le_of_lt hk));have HCC := hidI hcc;have hk0 : (0 : Int) ≤ (k : Int) := by omega
 have hkl : (k : Int) < (L.length : Int) := by omega
 have hlc : (L.length : Int) ≤ (c : Int) := by omega
 have hll : (L.length : Int) ≤ 4096 := by omega
 have c9 : ∀ wx, Below w.heap.size w wx → wx.cell? ⟨P, 9, none⟩ = some (.slice (some ⟨g, 0, none⟩) L.length c) := fun wx hb => by rw [(H.out.below hb).cell]; rfl
 clear h hL hcc;go_in;go_upto_region 1 with fail
 obtain ⟨w1, hw1⟩ : ∃ w1, w1 = w.alloc (Obj.cells #[] TH) := ⟨_, rfl⟩;have HW1 := hidI hw1;obtain ⟨G, hG⟩ : ∃ G, G = w.heap.size := ⟨_, rfl⟩;have HG := hidI hG
 have hrow1 : w1.ownsRow w.heap.size TH 6 (.slice (some ⟨G, 0, none⟩) 0 0) 0 (flatRt []) := by
  rw [hw1, hG];exact World.ownsRow_made w #[] 0 (Nat.le_refl _) (by simp [maxLen]) (by simp)
 have HR1 := hidI hrow1;have hb1 : Below w.heap.size w w1 := by rw [hw1]; exact below_alloc _ _
 have HB1 := hidI hb1;have d9 := c9 w1 hb1;clear hw1 hG hrow1 hb1;rw [← HW1.out, ← HG.out];have HLT : Hid (0 + (L.take k).length ≤ 9000) := by have h1 := HL.out; have h2 := List.length_take_le k L; show _ ≤ _; omega
 have HLK : Hid (0 + (L.take k).length = k) := by show _ = _; rw [List.length_take, Nat.zero_add, Nat.min_eq_left (Nat.le_of_lt hk)]
 obtain ⟨q, hq⟩ : ∃ q, q = (L.take k ++ L.drop (k + 1)).length := ⟨_, rfl⟩;have HQ := hidI hq;have HLQ : Hid (k + (L.drop (k + 1)).length = q) := by show _ = _; rw [hq, List.length_append, List.length_take, Nat.min_eq_left (Nat.le_of_lt hk)]
 clear hq;have HM1 : Hid (∀ u ∈ flatRt (L.take k), u.oneCell' = true) := fun u hu => HON.out u (by rw [← flatRt_take] at hu; exact List.mem_of_mem_take hu);have HM2 : Hid (∀ u ∈ flatRt (L.drop (k + 1)), u.oneCell' = true) := fun u hu => HON.out u (by rw [← flatRt_drop] at hu; exact List.mem_of_mem_drop hu);go_upto_region 2 with (at_builtin; refine wpl_app_held (by rfl) _ _ (by rfl) w.heap.size (.slice (some ⟨G, 0, none⟩) 0 0) 0 [] (by rfl) rfl HR1.out _ (L.take k) (by rfl) (HPT.out.1.below HB1.out) HM1.out HLT.out HB1.out.size ?_; intro v2 w2 h2 hg2 ho2; rw [HLK.out] at h2; obtain ⟨a2, c2, e2⟩ := own_formN h2; subst e2)
 have hb2 : Below w.heap.size w w2 := HB1.out.grown hg2 HB1.out.size (fun x hx => by cases hx; rw [HG.out]; exact Nat.le_refl _);have HB2 := hidI hb2;have HR2 := hidI h2;have HO2 : Hid (∀ y, (Value.slice a2 k c2).ownBlock = some y → w.heap.size ≤ y) := fun y hy => (h2.lt y hy).1;have e9 := c9 w2 hb2;have HLD : Hid (k + (L.drop (k + 1)).length ≤ 9000) := by have h1 := HL.out; have h2 := HK.out; have h3 := List.length_drop (i := k + 1) (l := L); show _ ≤ _; omega
 have HN2 : Hid (k = ([] ++ L.take k).length) := by show _ = _; have h1 := HLK.out; simp at h1 ⊢; omega
 have hk1 : (k : Int) + 1 ≤ (L.length : Int) := by omega
 have hk1c : (k : Int) + 1 ≤ (c : Int) := by omega
 clear h2 hg2 ho2 hb2
 have HD : Hid (∀ v3 w3, World.ownsRow w3 w.heap.size TH 6 v3 q (flatRt (([] ++ L.take k) ++ L.drop (k + 1))) → w2.grownBy w3 (Value.slice a2 k c2).ownBlock → Below w.heap.size w w3 ∧ w3.ownsRow w.heap.size TH 6 v3 (L.take k ++ L.drop (k + 1)).length (flatRt (L.take k ++ L.drop (k + 1)))) := fun v3 w3 h3 hg3 => by
  rw [HQ.out] at h3;exact ⟨HB2.out.grown hg3 HB2.out.size HO2.out, h3⟩
 by_cases hcz : c = k + 1
 ·subst hcz;have HD0 : Hid (L.drop (k + 1) = [] ∧ L.length - (k + 1) = 0) := by have h1 := HCC.out; exact ⟨List.drop_eq_nil_of_le (by omega), by omega⟩
  have HP0 : Hid (Hvw w2 (.slice (some ⟨g, 0, none⟩) (L.length - (k + 1)) 0) (L.drop (k + 1))) := by
   rw [HD0.out.1, HD0.out.2];exact .inr ⟨g, 0, 0, rfl, fun j u hj => by simp [flatRt] at hj⟩
  go_upto_region 3 with (at_builtin; refine wpl_app_held (by rfl) _ _ (by rfl) w.heap.size (.slice a2 k c2) _ _ (by rfl) HN2.out HR2.out _ (L.drop (k + 1)) (by rfl) HP0.out HM2.out HLD.out HB2.out.size ?_; intro v3 w3 h3 hg3 ho3; rw [HLQ.out] at h3; obtain ⟨a3, c3, e3⟩ := own_formN h3; subst e3)
  obtain ⟨hb3, hr3⟩ := HD.out _ _ h3 hg3;have HB3 := hidI hb3;have HR3 := hidI hr3;have f9 := c9 w3 hb3;have z9 := (H.out.below hb3).soft 9;have HRW := hidI ((H.out).sub hb3 (sub_out L k) hr3);clear h3 hg3 ho3 hb3 hr3;go_wp2_with fail;refine bodyPost_end (results_none rfl _ _ _) rfl ?_;refine ⟨rfl, _, HRW.out, ?_, fun y hy => (HR3.out.lt y hy).1⟩;exact (Ch.of_below HB3.out).trans (ch_set w3 P 9 _) (fun x hx => .inl hx)
 ·have hcn : ¬ c - (k + 1) = 0 := by omega
  have HP0 := hidI (HPD.out.2.below HB2.out);go_upto_region 3 with (at_builtin; refine wpl_app_held (by rfl) _ _ (by rfl) w.heap.size (.slice a2 k c2) _ _ (by rfl) HN2.out HR2.out _ (L.drop (k + 1)) (by rfl) HP0.out HM2.out HLD.out HB2.out.size ?_; intro v3 w3 h3 hg3 ho3; rw [HLQ.out] at h3; obtain ⟨a3, c3, e3⟩ := own_formN h3; subst e3)
  obtain ⟨hb3, hr3⟩ := HD.out _ _ h3 hg3;have HB3 := hidI hb3;have HR3 := hidI hr3;have f9 := c9 w3 hb3;have z9 := (H.out.below hb3).soft 9;have HRW := hidI ((H.out).sub hb3 (sub_out L k) hr3);clear h3 hg3 ho3 hb3 hr3;go_wp2_with fail;refine bodyPost_end (results_none rfl _ _ _) rfl ?_;refine ⟨rfl, _, HRW.out, ?_, fun y hy => (HR3.out.lt y hy).1⟩;exact (Ch.of_below HB3.out).trans (ch_set w3 P 9 _) (fun x hx => .inl hx)
end
section
def TkW (w : World) (P : Nat) (lv ov : Value) (p : Pn) (nd : Int) (L : List Rwt) (r : List Ms × List Hh) (v : Value) (w' : World) : Prop :=
 ∃ M lo lv' L', Mr w' lo v M ∧ M.map (·.m) = r.1 ∧ Rwk w' P lv' ov p nd L' ∧ L'.map (·.h) = r.2 ∧ w.heap.size ≤ lo ∧ lo ≤ w'.heap.size ∧ (∀ x, Rwb P lv' ov L' x → (Rwb P lv ov L x ∨ w.heap.size ≤ x) ∧ x < lo) ∧ Ch (Rwb P lv ov L) w w'
theorem tkw_none {w w' : World} {P : Nat} {lv ov : Value} {p : Pn} {nd : Int} {L : List Rwt} (hn : Rwk w P lv ov p nd L) (hb : Below w.heap.size w w') : TkW w P lv ov p nd L ([], L.map (·.h)) (.slice none 0 0) w' :=
 ⟨[], w'.heap.size, lv, L, mr_nil _ _, rfl, hn.below hb, rfl, hb.size, Nat.le_refl _, fun x hx => ⟨.inl hx, Nat.lt_of_lt_of_le (hn.lt x hx) hb.size⟩, Ch.of_below hb⟩
theorem ch_le17 {D E : Nat → Prop} {w w' : World} (h : Ch D w w') (hE : ∀ x, D x → E x) : Ch E w w' := ⟨h.os, h.tape, h.output, h.size, fun k hk hd => h.block k hk (fun e => hd (hE k e))⟩
theorem pairwise_set {α : Type} {R : α → α → Prop} {x y : α} : ∀ {L : List α} {i : Nat}, L.Pairwise R → L[i]? = some x → (∀ z, R z x → R z y) → (∀ z, R x z → R y z) → (L.set i y).Pairwise R
 | [], _, _, h, _, _ => by simp at h
 | a :: t, 0, hp, h, h1, h2 => by
  simp only [List.getElem?_cons_zero, Option.some.injEq] at h;subst h;have hq := List.pairwise_cons.1 hp;exact List.pairwise_cons.2 ⟨fun z hz => h2 z (hq.1 z hz), hq.2⟩
 | a :: t, i + 1, hp, h, h1, h2 => by
  have hq := List.pairwise_cons.1 hp;refine List.pairwise_cons.2 ⟨fun z hz => ?_, pairwise_set hq.2 (by simpa using h) h1 h2⟩;rcases List.mem_or_eq_of_mem_set hz with q | q
  ·exact hq.1 z q
  ·rw [q]; exact h1 a (hq.1 x (List.mem_of_getElem? (by simpa using h)))
theorem apart_set {x y : Rwt} : ∀ {L : List Rwt} {i : Nat}, L.Pairwise apartR → L[i]? = some x → ∀ z ∈ L.set i y, z = y ∨ (z ∈ L ∧ apartR z x)
 | [], _, _, h, _, _ => by simp at h
 | a :: t, 0, hp, h, z, hz => by
  simp only [List.getElem?_cons_zero, Option.some.injEq] at h;subst h;have hq := List.pairwise_cons.1 hp;rcases List.mem_cons.1 hz with e | e
  ·exact .inl e
  ·exact .inr ⟨by simp [e], (hq.1 z e).symm⟩
 | a :: t, i + 1, hp, h, z, hz => by
  have hq := List.pairwise_cons.1 hp;rcases List.mem_cons.1 hz with e | e
  ·subst e;exact .inr ⟨by simp, hq.1 x (List.mem_of_getElem? (by simpa using h))⟩
  ·rcases apart_set hq.2 (by simpa using h) z e with q | q
   ·exact .inl q
   ·exact .inr ⟨by simp [q.1], q.2⟩
section

variable {w w' : World} {P : Nat} {lv ov : Value} {p : Pn} {nd : Int} {L : List Rwt} {x y : Rwt} {i : Nat}

theorem Rwk.one (h : Rwk w P lv ov p nd L) (hx : L[i]? = some x) (hk : kR y = kR x) (hlo : y.lo = x.lo) (hhi : y.hi = x.hi) (hrow : w'.ownsRow 0 TH 6 lv L.length (flatRt (L.set i y))) (hro : Rwo w' p y) (hc : Ch (fun z => lv.ownBlock = some z ∨ inR x z) w w') : Rwk w' P lv ov p nd (L.set i y) := by
 have hxm := List.mem_of_getElem? hx;have hof := h.off x hxm;have hlP := h.lP
 have hol : ∀ z, ov.ownBlock = some z → lv.ownBlock ≠ some z := fun z hz e => by
  rcases own_ne h.ops h.row (by decide) with q | q
  ·rw [q] at hz; cases hz
  ·exact q (hz.trans e.symm)
 have hin : ∀ z, inR y z ↔ inR x z := fun z => by unfold inR; rw [hlo, hhi]
 have hnP : ¬ (lv.ownBlock = some P ∨ inR x P) := by rintro (e | e); exact hlP e; exact hof.1 e
 refine ⟨by rw [hc.block P h.ltP hnP]; exact h.blk, own_ch h.ops hc (fun z hz e => ?_), h.lok, h.is, h.nd, by rw [List.length_set]; exact hrow, pairwise_set h.rise hx (fun z e => by rw [hk]; exact e) (fun z e => by rw [hk]; exact e), pairwise_set h.apart hx (fun z e => by unfold apartR at e ⊢; rw [hlo, hhi]; exact e) (fun z e => by unfold apartR at e ⊢; rw [hlo, hhi]; exact e), fun z hz => ?_, fun z hz => ?_⟩
 ·rcases e with e | e
  ·exact hol z hz e
  ·exact hof.2.1 z hz e
 ·rcases apart_set h.apart hx z hz with q | ⟨q1, q2⟩
  ·rw [q]; exact hro
  ·refine (h.ent z q1).ch hc (fun u u1 u2 e => ?_);rcases e with e | e
   ·exact (h.off z q1).2.2 u e ⟨u1, u2⟩
   ·unfold apartR at q2; unfold inR at e; omega
 ·rcases apart_set h.apart hx z hz with q | ⟨q1, _⟩
  ·rw [q]; exact ⟨fun e => hof.1 ((hin P).1 e), fun u hu e => hof.2.1 u hu ((hin u).1 e), fun u hu e => hof.2.2 u hu ((hin u).1 e)⟩
  ·exact h.off z q1
def begR (x : Rwt) : Rwt := { x with h := { x.h with g := true } }
def appR (k : Nat) (x : Rwt) : Rwt := { x with h := { x.h with A := setB x.h.A k } }
theorem flat_beg : ∀ {L : List Rwt} {i : Nat}, L[i]? = some x → (flatRt L).set (i * 6 + 4) (.bool true) = flatRt (L.set i (begR x))
 | [], _, h => by simp at h
 | a :: t, 0, h => by
  simp only [List.getElem?_cons_zero, Option.some.injEq] at h;subst h;rfl
 | a :: t, i + 1, h => by
  have ih := flat_beg (L := t) (i := i) (by simpa using h);have e : (cellsR a).length = 6 := rfl;simp only [flatRt, List.flatMap_cons, List.set_cons_succ] at ih ⊢;rw [show (i + 1) * 6 + 4 = (cellsR a).length + (i * 6 + 4) by omega, List.set_append_right _ _ (by omega), Nat.add_sub_cancel_left, ih]
theorem flat_app {k : Nat} : ∀ {L : List Rwt} {i : Nat}, L[i]? = some x → flatRt (L.set i (appR k x)) = flatRt L
 | [], _, h => by simp at h
 | a :: t, 0, h => by
  simp only [List.getElem?_cons_zero, Option.some.injEq] at h;subst h;rfl
 | a :: t, i + 1, h => by
  have ih := flat_app (k := k) (L := t) (i := i) (by simpa using h);simp only [flatRt, List.flatMap_cons, List.set_cons_succ] at ih ⊢;rw [ih]
theorem Rwk.beg (h : Rwk w P lv ov p nd L) (hx : L[i]? = some x) {g c : Nat} (e : lv = .slice (some ⟨g, 0, none⟩) L.length c) : Rwk (w.setCell ⟨g, i * 6 + 4, none⟩ (.bool true)) P lv ov p nd (L.set i (begR x)) := by
 have hxm := List.mem_of_getElem? hx;have hc := ch_set w g (i * 6 + 4) (.bool true);have hg : lv.ownBlock = some g := by rw [e]; rfl
 have h0 := (h.ent x hxm).ch hc (fun u u1 u2 q => (h.off x hxm).2.2 g hg (by subst q; exact ⟨u1, u2⟩));refine h.one hx rfl rfl rfl ?_ ⟨h0.ends, h0.eok, h0.prt, h0.tok, h0.tl, h0.el, h0.app, h0.al, h0.he, h0.hp, h0.ha, h0.lh, h0.hi, h0.ar, h0.nr⟩ (ch_le17 hc (fun z q => .inl (by rw [hg, q])));rw [← flat_beg hx];have hr := h.row;rw [e] at hr ⊢;exact own_setRN _ hr
theorem Rwk.app1 (h : Rwk w P lv ov p nd L) (hx : L[i]? = some x) {g c k : Nat} (e : x.av = .slice (some ⟨g, 0, none⟩) x.h.A.length c) : Rwk (w.setCell ⟨g, k, none⟩ (.bool true)) P lv ov p nd (L.set i (appR k x)) := by
 have hxm := List.mem_of_getElem? hx;have hc := ch_set w g k (.bool true);have hg : x.av.ownBlock = some g := by rw [e]; rfl
 have hx0 := h.ent x hxm;have hin : inR x g := ⟨(hx0.app.lt g hg).1, hx0.ha g hg⟩;have hr := hx0.app;rw [e] at hr
 have hgb : ∃ c, w.heap[g]? = some (.cells c 4 (0, 0)) := by
  rcases hr.2 with ⟨h1, _⟩ | ⟨g', cap', cur, hv, _, hh, _⟩
  ·cases h1
  ·cases hv; exact ⟨cur, hh⟩
 obtain ⟨cc, hgb⟩ := hgb;obtain ⟨vs, hv, hvy⟩ := hx0.prt;refine h.one hx rfl rfl rfl ?_ ⟨own_ch hx0.ends hc (fun y hy q => own_nb hx0.ends hgb (by decide) (hy.trans (congrArg some q))), hx0.eok, ⟨vs, ⟨own_ch hv.row hc (fun y hy q => own_nb hv.row hgb (by decide) (hy.trans (congrArg some q))), fun j hj => own_ch (hv.own j hj) hc (fun y hy q => own_nb (hv.own j hj) hgb (by decide) (hy.trans (congrArg some q)))⟩, hvy⟩, hx0.tok, hx0.tl, hx0.el, ?_, ?_, hx0.he, hx0.hp, hx0.ha, hx0.lh, Nat.le_trans hx0.hi hc.size, hx0.ar, hx0.nr⟩ (ch_le17 hc (fun z q => .inr (by rw [q]; exact hin)))
 ·rw [flat_app hx];exact own_ch h.row hc (fun y hy q => (h.off x hxm).2.2 y hy (by rw [q]; exact hin))
 ·have h2 := own_setRN (o := k) (.bool true) hr;show (w.setCell ⟨g, k, none⟩ (.bool true)).ownsRow x.lo 4 1 x.av (setB x.h.A k).length ((setB x.h.A k).map Value.bool);unfold setB;rw [List.length_set, List.map_set, e];exact h2
 ·show (setB x.h.A k).length = p.n;unfold setB; rw [List.length_set]; exact hx0.al
end
end
section
section

variable {L : List Rwt} {m : Ms} {p : Pn} {nd b : Int} {x : Rwt} {S : Sc}

theorem hat_r (h : RiseL kR L) : atK kH (L.map (·.h)) b = match L[plF kR L b]? with | some x => if x.h.n = b then some x.h else none | none => none := by
 rw [atK_map (f := kH) (h := Rwt.h)];show (atK kR L b).map _ = _;rw [atK_pl h]
 cases L[plF kR L b]? with
 | none => rfl
 | some x =>
  show Option.map _ (if x.h.n = b then _ else _) = if x.h.n = b then _ else _
  split <;> rfl
theorem fn_yes (hf : fnR L m ≠ -1) : ∃ x, L[plF kR L m.B]? = some x ∧ x.h.n = m.B ∧ x.h.a = m.A ∧ fnR L m = ((plF kR L m.B : Nat) : Int) := by
 unfold fnR at hf ⊢
 cases hx : L[plF kR L m.B]? with
 | none => rw [hx] at hf; exact absurd rfl hf
 | some x =>
  rw [hx] at hf;simp only at hf ⊢;by_cases h1 : x.h.n = m.B
  ·by_cases h2 : x.h.a = m.A
   ·exact ⟨x, rfl, h1, h2, by rw [if_pos h1, if_pos h2]⟩
   ·rw [if_pos h1, if_neg h2] at hf; exact absurd rfl hf
  ·rw [if_neg h1] at hf; exact absurd rfl hf
theorem fn_no (h : RiseL kR L) (hf : fnR L m = -1) : (∀ y, atK kH (L.map (·.h)) m.B = some y → y.a ≠ m.A) := by
 intro y hy ha;rw [hat_r h] at hy;unfold fnR at hf
 cases hx : L[plF kR L m.B]? with
 | none => rw [hx] at hy; cases hy
 | some x =>
  rw [hx] at hy hf;simp only at hy hf;by_cases h1 : x.h.n = m.B
  ·rw [if_pos h1] at hy hf
   cases hy
   rw [if_pos ha] at hf;omega
  ·rw [if_neg h1] at hy; cases hy
theorem hat_yes (h : RiseL kR L) (hx : L[plF kR L m.B]? = some x) (hn : x.h.n = m.B) : atK kH (L.map (·.h)) m.B = some x.h := by
 rw [hat_r h, hx];simp only;rw [if_pos hn]
theorem ans_no (h : RiseL kR L) (hf : fnR L m = -1) : ansH p nd m (L.map (·.h)) = ([], L.map (·.h)) := by
 have h1 := fn_no h hf;unfold ansH
 cases hy : atK kH (L.map (·.h)) m.B with
 | none => rfl
 | some y => simp only; rw [if_neg (fun q => h1 y hy q.1)]
theorem go_no (h : RiseL kR L) (hf : fnR L m = -1) : goH p nd m (L.map (·.h)) = ([], L.map (·.h)) := by
 have h1 := fn_no h hf;unfold goH
 cases hy : atK kH (L.map (·.h)) m.B with
 | none => rfl
 | some y => simp only; rw [if_neg (fun q => h1 y hy q.1)]
theorem ans_g (h : RiseL kR L) (hx : L[plF kR L m.B]? = some x) (hn : x.h.n = m.B) (hg : x.h.g = false) : ansH p nd m (L.map (·.h)) = ([], L.map (·.h)) := by
 unfold ansH;rw [hat_yes h hx hn];simp only;rw [if_neg (fun q => by rw [hg] at q; exact absurd q.2.1 (by decide))]
theorem map_out (h : RiseL kR L) (hx : L[plF kR L m.B]? = some x) (hn : x.h.n = m.B) : outL kH (L.map (·.h)) m.B = (L.take (plF kR L m.B) ++ L.drop (plF kR L m.B + 1)).map (·.h) := by
 rw [outL_map (f := kH) (h := Rwt.h)];exact congrArg _ (out_pl (f := kR) h hx hn)
theorem map_upd (h : RiseL kR L) (hx : L[plF kR L m.B]? = some x) (hn : x.h.n = m.B) {g : Hh → Hh} {f : Rwt → Rwt} (hf : ∀ z : Rwt, (f z).h = g z.h) : updK kH (L.map (·.h)) m.B g = (L.set (plF kR L m.B) (f x)).map (·.h) := by
 rw [updK_map (f := kH) (h := Rwt.h) (g := f) (g' := g) hf];exact congrArg _ (upd_pl (f := kR) h hx hn)
theorem ans_c (h : RiseL kR L) (hx : L[plF kR L m.B]? = some x) (hn : x.h.n = m.B) (ha : x.h.a = m.A) (hg : x.h.g = true) (hK : m.K = 5 ∨ m.K = 7) (hc : m.C ≠ 0) : ansH p nd m (L.map (·.h)) = ([], (L.take (plF kR L m.B) ++ L.drop (plF kR L m.B + 1)).map (·.h)) := by
 unfold ansH;rw [hat_yes h hx hn];simp only;rw [if_pos ⟨ha, hg, hK⟩, if_pos hc, map_out h hx hn]
theorem ans_5 {k : Nat} (h : RiseL kR L) (hx : L[plF kR L m.B]? = some x) (hn : x.h.n = m.B) (ha : x.h.a = m.A) (hg : x.h.g = true) (hK : m.K = 5) (hc : m.C = 0) (hF : m.F = 1 + p.W + (k : Int)) : ansH p nd m (L.map (·.h)) = ([sayM nd 6 m.F m [] [] (dealF p x.h.T k)], L.map (·.h)) := by
 unfold ansH;rw [hat_yes h hx hn];simp only;rw [if_pos ⟨ha, hg, .inl hK⟩, if_neg (fun q => q hc), if_pos hK, show (m.F - (1 + p.W)).toNat = k by omega]
theorem ans_7 {k : Nat} (h : RiseL kR L) (hx : L[plF kR L m.B]? = some x) (hn : x.h.n = m.B) (ha : x.h.a = m.A) (hg : x.h.g = true) (hK : m.K = 7) (hc : m.C = 0) (hF : m.F = 1 + p.W + (k : Int)) : ansH p nd m (L.map (·.h)) = (if (setB x.h.A k).countP id < p.n then [] else [sayM nd 8 0 m x.h.E [] []], (L.set (plF kR L m.B) (appR k x)).map (·.h)) := by
 unfold ansH;rw [hat_yes h hx hn];simp only;rw [if_pos ⟨ha, hg, .inr hK⟩, if_neg (fun q => q hc), if_neg (by omega), show (m.F - (1 + p.W)).toNat = k by omega, map_upd h hx hn (f := appR k) (fun _ => rfl)]
theorem go_yes (h : RiseL kR L) (hx : L[plF kR L m.B]? = some x) (hn : x.h.n = m.B) : goH p nd m (L.map (·.h)) = if x.h.a = m.A ∧ x.h.g = false ∧ x.h.E = m.E then ((List.range p.n).map fun (i : Nat) => sayM nd 4 (1 + p.W + ((i : Nat) : Int)) m [] ((dealF p x.h.T i).map (·.k)) [], (L.set (plF kR L m.B) (begR x)).map (·.h)) else ([], L.map (·.h)) := by
 unfold goH;rw [hat_yes h hx hn];simp only;rw [map_upd h hx hn (f := begR) (fun _ => rfl)]
end

section

variable {w w' : World} {P : Nat} {lv ov lv' : Value} {p : Pn} {nd : Int} {L : List Rwt} {k : Nat}

theorem tkw_out (_hn : Rwk w P lv ov p nd L) {w1 : World} (hb : Below w.heap.size w w1) (hr : Rwk w' P lv' ov p nd (L.take k ++ L.drop (k + 1))) (hc : Ch (fun x => x = P) w1 w') (hl : ∀ y, lv'.ownBlock = some y → w1.heap.size ≤ y) : TkW w P lv ov p nd L ([], (L.take k ++ L.drop (k + 1)).map (·.h)) (.slice none 0 0) w' := by
 have hs := (sub_out L k).subset;refine ⟨[], w'.heap.size, lv', _, mr_nil _ _, rfl, hr, rfl, Nat.le_trans hb.size hc.size, Nat.le_refl _, fun x hx => ⟨?_, hr.lt x hx⟩, (Ch.of_below hb).trans hc (fun x hx => .inl (.inl hx))⟩;rcases hx with e | e | e | ⟨y, hy, e⟩
 ·exact .inl (.inl e)
 ·exact .inr (Nat.le_trans hb.size (hl x e))
 ·exact .inl (.inr (.inr (.inl e)))
 ·exact .inl (.inr (.inr (.inr ⟨y, hs hy, e⟩)))
end
end
end Go.Proofs.YtombjgfajbhbbaaGreat
