/- New; held; a source and a worker beside one another. -/
import Derived.Test.YtombjgfajbhbbaaGreatB34
set_option maxRecDepth 100000
set_option maxHeartbeats 16000000
namespace Go.Proofs.YtombjgfajbhbbaaGreat
open Go.RowKit
section
theorem chk_len {l : List Stp} (h : checkB l = true) : l.length ≤ 8 := by
 unfold checkB at h;simp only [Bool.and_eq_true, decide_eq_true_eq] at h;exact h.1
def NwR (w : World) (p : Pn) (nd : Int) (P b : Nat) (ov : Value) (w' : World) : Prop := Wm w' P b ov p nd [] ∧ (∀ x, Bk P b ov [] x → w.heap.size ≤ x) ∧ Below w.heap.size w w'
theorem wnew_ok {w : World} {p : Pn} {oa : Option Addr} {oc : Nat} {nd : Int} (ho : Ov w (.slice oa p.l.length oc) p.l) (hp : p.is = true) (hk : p.kind nd = 2) :
  Calls Tryz.prog 5 #[.agg #[.int .i64 p.P, .int .i64 p.S, .int .i64 p.W, .slice oa p.l.length oc, .int .i64 p.A, .int .i64 p.B, .int .i64 p.N, .int .i64 p.G], .int .i64 nd] w fun e w' => ∃ P b ov, e = .returned (.tuple #[.pointer (some ⟨P, 0, none⟩), .int .i64 0]) ∧ NwR w p nd P b ov w' := by
 have HO := hidH ho;have HP : Hid (p.is = true) := hp;have HK : Hid (p.kind nd = 2) := hk;have HX0 : Hid (Bx _ w.heap.size p (.slice oa p.l.length oc)) := box_new w p (.slice oa p.l.length oc);have HB0 : Hid _ := below_alloc w (Obj.cells #[.int .i64 p.P, .int .i64 p.S, .int .i64 p.W, .slice oa p.l.length oc, .int .i64 p.A, .int .i64 p.B, .int .i64 p.N, .int .i64 p.G] 24);have HLL : Hid (p.l.length ≤ 8) := chk_len (Pn.is_kn hp).1
 have HND : Hid (1 ≤ nd ∧ nd ≤ 4) := by
  have h1 := hk;have h2 := Pn.is_num hp;unfold Pn.kind at h1
  split at h1
  ·cases h1
  ·split at h1
   ·cases h1
   ·split at h1
    ·exact ⟨by omega, by omega⟩
    ·cases h1
 clear ho hp hk;go_in;go_upto_region 1 with fail
 obtain ⟨X, hX⟩ : ∃ X, X = w.heap.size := ⟨_, rfl⟩;have HXW : Hid (X = w.heap.size) := hX;rw [← hX] at HX0 ⊢;clear hX;have HXL : Hid (X < (w.alloc (Obj.cells #[.int .i64 p.P, .int .i64 p.S, .int .i64 p.W, .slice oa p.l.length oc, .int .i64 p.A, .int .i64 p.B, .int .i64 p.N, .int .i64 p.G] 24)).heap.size) := by have h := HXW.out; show _ < _; rw [size_allocC]; omega
 have HZ0 : Hid ((w.alloc (Obj.cells #[.int .i64 p.P, .int .i64 p.S, .int .i64 p.W, .slice oa p.l.length oc, .int .i64 p.A, .int .i64 p.B, .int .i64 p.N, .int .i64 p.G] 24)).frozen? ⟨X, 3, none⟩ = false) := by show _ = _; rw [HXW.out]; simp [go_sem]
 generalize w.alloc (Obj.cells #[.int .i64 p.P, .int .i64 p.S, .int .i64 p.W, .slice oa p.l.length oc, .int .i64 p.A, .int .i64 p.B, .int .i64 p.N, .int .i64 p.G] 24) = w1 at HX0 HB0 HXL HZ0 ⊢;have c0 := HX0.out.c0;have c1 := HX0.out.c1;have c2 := HX0.out.c2;have c3 := HX0.out.c3;have c4 := HX0.out.c4;have c5 := HX0.out.c5;have c6 := HX0.out.c6;have c7 := HX0.out.c7;go_wp2_with fail;refine (pcheck_walk (p := p) (HO.out.below HB0.out)).mono ?_;rintro e w2 ⟨he, hB2⟩;rw [Pn.chk_ok HP.out] at he;subst he;have HB2 := hidH (below_trans HB0.out hB2);have HX2 : Hid _ := HX0.out.below hB2 HXL.out;have HZ2 : Hid (w2.frozen? ⟨X, 3, none⟩ = false) := by show _ = _; rw [(Ch.of_below (D := fun _ => False) hB2).frozen HXL.out (fun e => e)]; exact HZ0.out
 have HXL2 : Hid (X < w2.heap.size) := Nat.lt_of_lt_of_le HXL.out hB2.size;clear hB2 c0 c1 c2 c3 c4 c5 c6 c7 HX0 HB0 HZ0;have c0 := HX2.out.c0;have c1 := HX2.out.c1;have c2 := HX2.out.c2;have c3 := HX2.out.c3;have c4 := HX2.out.c4;have c5 := HX2.out.c5;have c6 := HX2.out.c6;have c7 := HX2.out.c7;go_wp2_with fail;refine (kind_walk (p := p) nd (HO.out.below HB2.out)).mono ?_;rintro e w3 ⟨he, hB3⟩;rw [HK.out] at he;subst he;have HB3 := hidH (below_trans HB2.out hB3);have HX3 : Hid _ := HX2.out.below hB3 HXL2.out;have HZ3 : Hid (w3.frozen? ⟨X, 3, none⟩ = false) := by show _ = _; rw [(Ch.of_below (D := fun _ => False) hB3).frozen HXL2.out (fun e => e)]; exact HZ2.out
 have HXL3 : Hid (X < w3.heap.size) := Nat.lt_of_lt_of_le HXL2.out hB3.size;have HO3 := hidH (HO.out.below HB3.out);clear hB3 c0 c1 c2 c3 c4 c5 c6 c7 HX2 HB2 HZ2 HXL HXL2 HO;have c3 := HX3.out.c3;go_upto_region 6 with fail
 go_upto_region 7 with (at_builtin; refine wpList_append_sp (by rfl) (.const (.slice none 0 0)) (.tmp 17) 22 (by rfl) w3.heap.size 80 Tryz.underlying22 info_op _ 0 [] (by rfl) (World.ownsRow_nil _ _ _ _) _ p.l (by rfl) HO3.out (by have := HLL.out; simp [maxLen]; omega) (by have := HLL.out; omega) (by simp) ?_; intro v4 w4 hown hgrow; obtain ⟨na, nc, rfl⟩ := own_formN hown; have HZ4 : Hid (w4.frozen? ⟨X, 3, none⟩ = false ∧ w4.cell? ⟨X, 3, none⟩ = some (.slice oa p.l.length oc)) := ⟨by rw [(Ch.of_grown (D := fun _ => False) hgrow (fun z hz => by simp [Value.ownBlock] at hz)).frozen HXL3.out (fun e => e)]; exact HZ3.out, (Ch.of_grown (D := fun _ => False) hgrow (fun z hz => by simp [Value.ownBlock] at hz)).cell HX3.out.c3 (fun e => e)⟩; have hz4 := HZ4.out.1; have hc4 := HZ4.out.2)
 have HOW : Hid (w4.ownsRow w3.heap.size 80 3 (.slice na p.l.length nc) p.l.length (flat p.l)) := by have h := hown; simp only [Nat.zero_add, List.nil_append] at h; exact h
 have HC4 : Hid (Ch (fun _ => False) w3 w4) := Ch.of_grown hgrow (fun z hz => by simp [Value.ownBlock] at hz);have HC5 : Hid _ := ch_set w4 X 3 (.slice na p.l.length nc)
 have HX5 : Hid (Bx (w4.setCell ⟨X, 3, none⟩ (.slice na p.l.length nc)) X p (.slice na p.l.length nc)) := by
  have h : ∀ j u, j ≠ 3 → w3.cell? ⟨X, j, none⟩ = some u → (w4.setCell ⟨X, 3, none⟩ (.slice na p.l.length nc)).cell? ⟨X, j, none⟩ = some u := fun j u hj hu => cell_oth (fun e => hj e.symm) (HC4.out.cell hu (fun e => e));exact ⟨h 0 _ (by decide) HX3.out.c0, h 1 _ (by decide) HX3.out.c1, h 2 _ (by decide) HX3.out.c2, cell_own1 hc4, h 4 _ (by decide) HX3.out.c4, h 5 _ (by decide) HX3.out.c5, h 6 _ (by decide) HX3.out.c6, h 7 _ (by decide) HX3.out.c7⟩
 clear hown hgrow hz4 hc4 c3;generalize w4.setCell ⟨X, 3, none⟩ (.slice na p.l.length nc) = w5 at HC5 HX5 ⊢;have HB5 : Hid (Below w.heap.size w w5) := (HB3.out.trans (HC4.out.to_below HB3.out.size (fun z hz => hz.elim))).trans (HC5.out.to_below (Nat.le_trans HB3.out.size HC4.out.size) (fun z hz => by rw [hz, HXW.out]; exact Nat.le_refl _));have HO5 : Hid (w5.ownsRow w3.heap.size 80 3 (.slice na p.l.length nc) p.l.length (flat p.l)) := own_ch HOW.out HC5.out (fun z hz e => by have h1 := (HOW.out.lt z hz).1; have h2 := HXL3.out; omega);have hmm := @run_makeMap Tryz.prog;have c0 := HX5.out.c0;have c1 := HX5.out.c1;have c2 := HX5.out.c2;have c3 := HX5.out.c3;have c4 := HX5.out.c4;have c5 := HX5.out.c5;have c6 := HX5.out.c6;have c7 := HX5.out.c7;go_wp2_with fail;go_ret2;have s5 : (w5.alloc (.map #[] 0)).heap.size = w5.heap.size + 1 := size_allocC _ _;have s3 := HB3.out.size;have hb1 := below_alloc w5 (.map #[] 0);have hb2 := below_alloc (w5.alloc (.map #[] 0)) (Obj.cells #[.int .i64 p.P, .int .i64 p.S, .int .i64 p.W, .slice na p.l.length nc, .int .i64 p.A, .int .i64 p.B, .int .i64 p.N, .int .i64 p.G, .int .i64 nd, .map (some w5.heap.size)] 73);refine ⟨w5.heap.size + 1, w5.heap.size, .slice na p.l.length nc, rfl, ⟨?_, own_baseC (own_belowC (own_belowC HO5.out hb1) hb2) (Nat.zero_le _), fun o ho => HO3.out.2 o ho, HP.out, HND.out, (World.ownsMap_made w5 Tryz.prog 3 heldE).alloc _, List.Pairwise.nil, List.Pairwise.nil, by simp, by simp⟩, ?_, below_trans HB5.out (below_trans hb1 hb2)⟩
 ·rw [← s5]; exact heap_alloc_new _ _
 ·rintro x (rfl | rfl | h | ⟨y, hy, _⟩)
  ·have := HB5.out.size; omega
  ·exact HB5.out.size
  ·have := (HO5.out.lt x h).1; omega
  ·simp at hy
structure HXo (w : World) (g off : Nat) (x : Hq) : Prop where
 c0 : w.cell? ⟨g, off, none⟩ = some (.int .i64 x.h.n)
 c1 : w.cell? ⟨g, off + 1, none⟩ = some (.int .i64 x.h.a)
 c2 : w.cell? ⟨g, off + 2, none⟩ = some x.ev
 c3 : w.cell? ⟨g, off + 3, none⟩ = some (.bool x.h.g)
 c4 : w.cell? ⟨g, off + 4, none⟩ = some (.int .i64 (x.h.c : Nat))
theorem HXo.below {w w' : World} {g off : Nat} {x : Hq} (h : HXo w g off x) (hb : Below w.heap.size w w') : HXo w' g off x := by
 have hl : g < w.heap.size := cell_lt h.c0;have k : ∀ j u, w.cell? ⟨g, j, none⟩ = some u → w'.cell? ⟨g, j, none⟩ = some u := fun j u hu => by rw [hb.cell (p := ⟨g, j, none⟩) hl]; exact hu
 exact ⟨k _ _ h.c0, k _ _ h.c1, k _ _ h.c2, k _ _ h.c3, k _ _ h.c4⟩
theorem hr_at {w : World} {lo n cap : Nat} {ao : Option Addr} {F : List Hq} (h : Hr w lo (.slice ao n cap) F) {i : Nat} (hi : i < F.length) : ∃ g, ao = some ⟨g, 0, none⟩ ∧ HXo w g (i * 5) F[i] := by
 obtain ⟨g, cap', hg, _⟩ := row_formN h.own (by omega);simp only [Value.slice.injEq] at hg;have hr := h.own;rw [hg.1, hg.2.1] at hr
 have hc : ∀ j u, (cellsH F[i])[j]? = some u → w.cell? ⟨g, i * 5 + j, none⟩ = some u := by
  intro j u hj
  have hj5 : j < 5 := by
   rcases Nat.lt_or_ge j 5 with q | q
   ·exact q
   ·rw [List.getElem?_eq_none (by simpa [cellsH] using q)] at hj; cases hj
  exact (own_cellN hr (j := i * 5 + j) (u := u) (by rw [flatH_get F i j hi hj5]; exact hj)).1
 exact ⟨g, hg.1, hc 0 _ rfl, hc 1 _ rfl, hc 2 _ rfl, hc 3 _ rfl, hc 4 _ rfl⟩
theorem held17 {w : World} {lo lo' : Nat} {a b : Value} {F G : List Hq} (ha : Hr w lo a F) (hb : Hr w lo' b G) (hnm : F.map (·.h) = G.map (·.h)) : Calls Tryz.prog 16 #[a, b] w fun e w' => e = .returned (.bool true) ∧ Below w.heap.size w w' := by
 have HA : Hid (Hr w lo a F) := ha;have HB : Hid (Hr w lo' b G) := hb;have HM : Hid (F.map (·.h) = G.map (·.h)) := hnm;obtain ⟨ao, ac, rfl⟩ := own_formN ha.own;obtain ⟨bo, bc, rfl⟩ := own_formN hb.own;have HLE : Hid (G.length = F.length) := by have h := congrArg List.length hnm; simp only [List.length_map] at h; exact h.symm
 have hle := HLE.out;have hal : F.length ≤ maxLen := by obtain ⟨a1, a2, e, h1, h2⟩ := row_form ha.own; omega
 rw [hle] at HB ⊢;have hli : (F.length : Int) ≤ 9223372036854775807 := by unfold maxLen at hal; omega
 have hne : ((F.length : Int) != (F.length : Int)) = false := by simp
 clear ha hb hnm hal hle;go_in;go_upto_region 4 with fail
 clear hne;go_loopw [5] (fun iv wr => ∃ i : Nat, iv = .int .i64 i ∧ i ≤ F.length ∧ Below w.heap.size w wr) (fun iv _ => F.length - (intOf iv).toNat)
 case atStart => exact ⟨0, rfl, Nat.zero_le _, Below.refl _ _⟩
 case round =>
  obtain ⟨i, rfl, hil, hbel⟩ := hrel;have HR := hidH hbel;clear hbel;by_cases hlt : i < F.length
  ·have hlti : (i : Int) < (F.length : Int) := by omega
   have hlg : i < G.length := by rw [HLE.out]; exact hlt
   obtain ⟨gb, rfl, hfa⟩ := hr_at (HA.out.below HR.out) hlt;obtain ⟨kb, rfl, hfb⟩ := hr_at (HB.out.below HR.out) hlg
   have hxe : F[i].h = G[i].h := by
    have h := congrArg (fun l => l[i]?) HM.out;simp only [List.getElem?_map, List.getElem?_eq_getElem hlt, List.getElem?_eq_getElem hlg, Option.map_some, Option.some.injEq] at h;exact h
   have hma := (HA.out.below HR.out).ent F[i] (List.getElem_mem _);have hmb := (HB.out.below HR.out).ent G[i] (List.getElem_mem _);obtain ⟨x, hx⟩ : ∃ x, x = F[i] := ⟨_, rfl⟩;obtain ⟨y, hy⟩ : ∃ y, y = G[i] := ⟨_, rfl⟩;rw [← hx] at hfa hma hxe;rw [← hy] at hfb hmb hxe;obtain ⟨xm, xe⟩ := x;obtain ⟨ym, ye⟩ := y;simp only at hxe;subst hxe;obtain ⟨ea, ec, e1⟩ := own_formN hma.e;obtain ⟨fa, fc, f1⟩ := own_formN hmb.e;simp only at e1 f1;subst e1 f1;have HFA : Hid _ := hfa;have HFB : Hid _ := hfb;have HNA : Hid (Nv wr (.slice ea xm.E.length ec) xm.E) := own_nv hma.e hma.ok;have HNB : Hid (Nv wr (.slice fa xm.E.length fc) xm.E) := own_nv hmb.e hmb.ok;have HLT : Hid (i < F.length) := hlt;clear hfa hfb hma hmb hx hy hlt hlg;have k0 : ∀ wx, Below wr.heap.size wr wx → wx.cell? ⟨gb, i * 5, none⟩ = some (.int .i64 xm.n) := fun wx hx => (HFA.out.below hx).c0;have k1 : ∀ wx, Below wr.heap.size wr wx → wx.cell? ⟨gb, i * 5 + 1, none⟩ = some (.int .i64 xm.a) := fun wx hx => (HFA.out.below hx).c1;have k2 : ∀ wx, Below wr.heap.size wr wx → wx.cell? ⟨gb, i * 5 + 2, none⟩ = some (.slice ea xm.E.length ec) := fun wx hx => (HFA.out.below hx).c2;have k3 : ∀ wx, Below wr.heap.size wr wx → wx.cell? ⟨gb, i * 5 + 3, none⟩ = some (.bool xm.g) := fun wx hx => (HFA.out.below hx).c3;have k4 : ∀ wx, Below wr.heap.size wr wx → wx.cell? ⟨gb, i * 5 + 4, none⟩ = some (.int .i64 (xm.c : Nat)) := fun wx hx => (HFA.out.below hx).c4;have l0 : ∀ wx, Below wr.heap.size wr wx → wx.cell? ⟨kb, i * 5, none⟩ = some (.int .i64 xm.n) := fun wx hx => (HFB.out.below hx).c0;have l1 : ∀ wx, Below wr.heap.size wr wx → wx.cell? ⟨kb, i * 5 + 1, none⟩ = some (.int .i64 xm.a) := fun wx hx => (HFB.out.below hx).c1;have l2 : ∀ wx, Below wr.heap.size wr wx → wx.cell? ⟨kb, i * 5 + 2, none⟩ = some (.slice fa xm.E.length fc) := fun wx hx => (HFB.out.below hx).c2;have l3 : ∀ wx, Below wr.heap.size wr wx → wx.cell? ⟨kb, i * 5 + 3, none⟩ = some (.bool xm.g) := fun wx hx => (HFB.out.below hx).c3;have l4 : ∀ wx, Below wr.heap.size wr wx → wx.cell? ⟨kb, i * 5 + 4, none⟩ = some (.int .i64 (xm.c : Nat)) := fun wx hx => (HFB.out.below hx).c4;have hk : ∀ z : Int, (z != z) = false := fun z => by simp
   have hkb : ∀ z : Bool, (z != z) = false := fun z => by simp
   go_upto_region 6 with fail
   refine wp_region_noPanic ?_;refine wp_region_held_drew (S := fun wx => Below wr.heap.size wr wx) (by kernel_rfl) ?_ fun hHeld => ?_
   ·exact below_drewN wr 1
   refine tkS 0 17 rfl hHeld ?_;refine tkS 1 18 rfl hHeld ?_;refine tkS 2 19 rfl hHeld ?_;refine tkS 3 20 rfl hHeld ?_;refine tkS 4 21 rfl hHeld ?_;refine tkS 5 22 rfl hHeld ?_;refine tkS 6 23 rfl hHeld ?_;refine tkS 7 24 rfl hHeld ?_;refine tkS 8 25 rfl hHeld ?_;refine tkS 9 26 rfl hHeld ?_;refine tkS 10 27 rfl hHeld ?_;refine tkS 11 28 rfl hHeld ?_;refine tkS 12 29 rfl hHeld ?_;refine tkS 13 30 rfl hHeld ?_;refine tkS 14 31 rfl hHeld ?_;refine tkS 15 32 rfl hHeld ?_;refine tkS 16 33 rfl hHeld ?_;refine tkS 17 34 rfl hHeld ?_;refine tkS 18 35 rfl hHeld ?_;refine tkS 19 36 rfl hHeld ?_;refine tkS 20 37 rfl hHeld ?_;refine tkS 21 38 rfl hHeld ?_;refine tkS 22 39 rfl hHeld ?_;refine tkS 23 40 rfl hHeld ?_;refine tkS 24 41 rfl hHeld ?_;refine tkS 25 42 rfl hHeld ?_;refine tkS 26 43 rfl hHeld ?_;refine tkS 27 44 rfl hHeld ?_;refine tkS 28 45 rfl hHeld ?_;refine tkS 29 46 rfl hHeld ?_;refine tkS 30 47 rfl hHeld ?_;refine tkS 31 48 rfl hHeld ?_;refine tkS 32 49 rfl hHeld ?_;refine tkS 33 50 rfl hHeld ?_;refine tkS 34 51 rfl hHeld ?_;refine tkS 35 52 rfl hHeld ?_;refine tkS 36 53 rfl hHeld ?_;refine tkS 37 54 rfl hHeld ?_;refine tkS 38 55 rfl hHeld ?_;refine tkS 39 56 rfl hHeld ?_;refine tkS 40 57 rfl hHeld ?_;refine tkS 41 58 rfl hHeld ?_;refine tkS 42 59 rfl hHeld ?_;refine tkS 43 60 rfl hHeld ?_;refine tkS 44 61 rfl hHeld ?_;refine tkS 45 62 rfl hHeld ?_;refine tkS 46 63 rfl hHeld ?_;refine tkS 47 64 rfl hHeld ?_;refine tkS 48 65 rfl hHeld ?_;refine tkS 49 66 rfl hHeld ?_;refine tkS 50 67 rfl hHeld ?_;refine tkS 51 68 rfl hHeld ?_;refine tkS 52 69 rfl hHeld ?_;refine tkS 53 70 rfl hHeld ?_;refine tkS 54 71 rfl hHeld ?_;refine tkS 55 72 rfl hHeld ?_;refine tkS 56 73 rfl hHeld ?_;refine tkS 57 74 rfl hHeld ?_;refine tkS 58 75 rfl hHeld ?_;refine tkS 59 76 rfl hHeld ?_;refine tkS 60 77 rfl hHeld ?_;refine rdH 61 78 rfl fun K hK => ?_;go_simp;refine (ints17 (HNA.out.below (below_drewN wr 1)) (HNB.out.below (below_drewN wr 1))).mono ?_;rintro e9 w4 ⟨he, hB4⟩;have he1 : e9 = .returned (.bool true) := by rw [he]; simp
   clear he;subst he1;have HB4 := hidH (below_trans (below_drewN wr 1) hB4);clear hB4;refine hK.out _ _ ?_ fun hHeld => ?_
   ·exact HB4.out
   clear hK K;try simp only [Act.put, zz]
   refine tkS 62 79 rfl hHeld ?_;refine tkS 63 80 rfl hHeld ?_;refine wpAnyH_done (by kernel_rfl) ?_ _;refine NoPanic.normal ?_;clear k0 k1 k2 k3 k4 l0 l1 l2 l3 l4 hk hkb;go_wp2_with fail;go_roundw
   case rel => exact ⟨i + 1, by go_num, HLT.out, below_trans HR.out HB4.out⟩
   case measure => have := HLT.out; simp [intOf]; omega
  ·have hlti : ¬ (i : Int) < (F.length : Int) := by omega
   go_wp2_with fail;go_ret;exact ⟨rfl, HR.out⟩
structure Pw (w0 : Nat) (K : Nat → Prop) (w : World) (sb : Nat) (S : Sc) (P b : Nat) (ov : Value) (p : Pn) (nd : Int) (L : List At) : Prop where
 src : ∃ D, Src D w (.pointer (some ⟨sb, 0, none⟩)) S ∧ ∀ x, D x → w0 ≤ x ∧ ¬ Bk P b ov L x ∧ ¬ K x
 wm : Wm w P b ov p nd L
 wk : ∀ x, Bk P b ov L x → w0 ≤ x ∧ ¬ K x
 kl : ∀ x, K x → x < w.heap.size
def NK (w0 : Nat) (K : Nat → Prop) (x : Nat) : Prop := ¬ K x ∧ w0 ≤ x
section

variable {w0 : Nat} {K : Nat → Prop} {w w' : World} {sb : Nat} {S : Sc} {P b : Nat} {ov : Value} {p : Pn} {nd : Int} {L : List At}

theorem Pw.below (h : Pw w0 K w sb S P b ov p nd L) (hb : Below w.heap.size w w') : Pw w0 K w' sb S P b ov p nd L := by
 obtain ⟨D, h1, h2⟩ := h.src;exact ⟨⟨D, h1.below hb, h2⟩, h.wm.below hb, h.wk, fun x hx => Nat.lt_of_lt_of_le (h.kl x hx) hb.size⟩
theorem ch_nk {D : Nat → Prop} (hc : Ch D w w') (hd : ∀ x, D x → w0 ≤ x ∧ ¬ K x) : Ch (NK w0 K) w w' := hc.mono (fun x hx => ⟨(hd x hx).2, (hd x hx).1⟩)
theorem nk_below (hc : Ch (NK w0 K) w w') (hw : w0 ≤ w.heap.size) : Below w0 w w' := hc.to_below hw (fun _ hx => hx.2)
theorem own_nk {base e s n : Nat} {v : Value} {xs : List Value} (h : w.ownsRow base e s v n xs) (hc : Ch (NK w0 K) w w') (hk : ∀ x, v.ownBlock = some x → K x) : w'.ownsRow base e s v n xs := own_ch h hc (fun x hx e => e.1 (hk x hx))
theorem pw_produce (h : Pw w0 K w sb S P b ov p nd L) (hw : w0 ≤ w.heap.size) (j : Int) {r : Rcd} (hr : r.ok) : Calls Tryz.prog 12 #[.pointer (some ⟨sb, 0, none⟩), .int .i64 j, .agg #[.int .u64 r.k, .float .f64 r.x]] w fun e w' =>
  e = .returned (.int .i64 (prodS S j r).1) ∧ Pw w0 K w' sb (prodS S j r).2 P b ov p nd L ∧ Ch (NK w0 K) w w' := by
 obtain ⟨D, h1, h2⟩ := h.src;refine (produce_walk h1 j hr).mono ?_;rintro e w' ⟨rfl, ⟨D', hs, hc, hd⟩, hq⟩;refine ⟨rfl, ⟨⟨D', hs, fun x hx => ?_⟩, h.wm.ch hc (fun x hx => (h2 x hx).2.1), h.wk, fun x hx => Nat.lt_of_lt_of_le (h.kl x hx) hc.size⟩, ch_nk hc (fun x hx => ⟨(h2 x hx).1, (h2 x hx).2.2⟩)⟩;rcases hd x hx with q | q
 ·exact h2 x q
 ·exact ⟨by omega, fun e => by have := h.wm.lt x e; omega, fun e => by have := h.kl x e; omega⟩
def PtR (w0 : Nat) (K : Nat → Prop) (w : World) (sb : Nat) (S : Sc) (P b : Nat) (ov : Value) (p : Pn) (nd : Int) (r : List Ms × List Hh) (v : Value) (w' : World) : Prop :=
 ∃ K' M lo L', (∀ x, K x → K' x) ∧ (∀ x, lo ≤ x → x < w'.heap.size → K' x) ∧ Mr w' lo v M ∧ M.map (·.m) = r.1 ∧ L'.map (·.h) = r.2 ∧ w.heap.size ≤ lo ∧ Pw w0 K' w' sb S P b ov p nd L' ∧ Ch (NK w0 K) w w'
theorem pw_take {m : Ms} {ea qa pa : Option Addr} {en ec qn qc pn pc : Nat} (h : Pw w0 K w sb S P b ov p nd L) (hw : w0 ≤ w.heap.size) (hm : ML w m (.slice ea en ec) (.slice qa qn qc) (.slice pa pn pc)) (hok : m.ok) (hL : L.length ≤ 4096) :
  Calls Tryz.prog 9 #[.pointer (some ⟨P, 0, none⟩), .pointer (some ⟨sb, 0, none⟩), .agg #[.int .i64 m.K, .int .i64 m.F, .int .i64 m.T, .int .i64 m.B, .int .i64 m.A, .int .i64 m.C, .slice ea en ec, .slice qa qn qc, .slice pa pn pc]] w fun e w' =>
   ∃ v, e = .returned (.tuple #[v, .int .i64 (takC nd m)]) ∧ PtR w0 K w sb S P b ov p nd (takA p nd S m (L.map (·.h))) v w' := by
 obtain ⟨D, h1, h2⟩ := h.src;refine (take_walk h.wm h1 hm hok hL).mono ?_;rintro e w' ⟨v, rfl, M, lo, L', hM, e1, hn, e2, hlo, hl2, hbk, hc⟩;refine ⟨v, rfl, fun x => K x ∨ (lo ≤ x ∧ x < w'.heap.size), M, lo, L', fun _ hx => .inl hx, fun _ h3 h4 => .inr ⟨h3, h4⟩, hM, e1, e2, hlo, ⟨⟨D, h1.keep (fun x hx => hc.block x (h1.lt hx) (h2 x hx).2.1) hc.size, fun x hx => ⟨(h2 x hx).1, fun e => ?_, fun e => ?_⟩⟩, hn, fun x hx => ⟨?_, fun e => ?_⟩, fun x hx => ?_⟩, ch_nk hc h.wk⟩
 ·rcases (hbk x e).1 with q | q
  ·exact (h2 x hx).2.1 q
  ·have := h1.lt hx; omega
 ·rcases e with e | e
  ·exact (h2 x hx).2.2 e
  ·have := h1.lt hx; omega
 ·rcases (hbk x hx).1 with q | q
  ·exact (h.wk x q).1
  ·omega
 ·rcases e with e | e
  ·rcases (hbk x hx).1 with q | q
   ·exact (h.wk x q).2 e
   ·have := h.kl x e; omega
  ·have := (hbk x hx).2; omega
 ·rcases hx with e | e
  ·exact Nat.lt_of_lt_of_le (h.kl x e) hc.size
  ·exact e.2
end
end
end Go.Proofs.YtombjgfajbhbbaaGreat
