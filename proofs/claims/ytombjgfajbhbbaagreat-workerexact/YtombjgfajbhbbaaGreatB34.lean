/- The reference's worker: Copied, Held. -/
import Derived.Test.YtombjgfajbhbbaaGreatB33
set_option maxRecDepth 100000
set_option maxHeartbeats 16000000
namespace Go.Proofs.YtombjgfajbhbbaaGreat
open Go.RowKit
section
open Go.RowKit Go.Maps Go.Sort Go.Shelf

theorem sorts_in (m : Nat) : AnyZI.SortsIn Tryz.prog layss_ren Fence.wide m :=
 ⟨fun blk off cap ss W hH hblk hsz => callsIn_wide.2 (AnyM.slices_Sort_int layst blk off cap ss W hH hblk hsz),
  fun p cap W => callsIn_wide.2 (AnyM.slices_Sort_int_none layst p cap W)⟩
theorem mkeys_walk (mb : Option Nat) (W : World) : Calls Tryz.prog 45 #[.map mb] W fun e w' => e = .returned (.func (.func 89) #[] #[.pointer (some ⟨W.heap.size, 0, none⟩)]) ∧ w' = W.alloc (.cells #[.map mb] 71) :=
 (callsIn_wide (n := 5)).1 (AnyZI.keys_in laysk Fence.wide 5 trivial rfl mb W)
theorem sort_nums {L : List At} (hr : RiseL kA L) {ss : List Int} (h : ss.Perm (intKeys (dA L))) : ss.mergeSort (fun x y => decide (x ≤ y)) = L.map kA := by
 have e : intKeys (dA L) = L.map kA := by
  show (L.map entA).map (fun p => Go.intOf p.1) = _;rw [List.map_map];rfl
 rw [e] at h;refine (mergeSort_of_perm_i h).trans (List.mergeSort_of_pairwise ?_);refine List.pairwise_map.2 (hr.imp fun {a b} hab => ?_);simp [leI]; omega
theorem isorted_walk {w : World} {b nn : Nat} {L : List At} (hown : w.ownsMap Tryz.prog 3 heldE b nn (dA L)) (hl : L.length ≤ 4096) (hr : RiseL kA L) :
  Calls Tryz.prog 44 #[.func (.func 89) #[] #[.pointer (some ⟨w.heap.size, 0, none⟩)]] (w.alloc (.cells #[.map (some b)] 71))
   fun e w' => ∃ v, e = .returned v ∧ w'.ownsRow w.heap.size 3 1 v L.length ((L.map kA).map (Value.int .i64)) ∧ Below w.heap.size w w' := by
 have hbl := World.ownsMap.lt hown;have hmax : Maps.size (dA L) ≤ maxLen := by rw [size_A]; unfold maxLen; omega
 have hbytes : Maps.size (dA L) * 8 ≤ 140737488355328 := by rw [size_A]; omega
 have hseq : SeqGives Fence.wide 2 Tryz.prog 89 #[.pointer (some ⟨w.heap.size, 0, none⟩)] encZ (fun ss => ss.Perm (intKeys (dA L))) (Maps.size (dA L)) (w.alloc (.cells #[.map (some b)] 71)) :=
  AnyZI.keys_gives (ρ := laysk_ren) { laysk with } Fence.wide _ trivial rfl (by omega) w.heap.size b nn (dA L) _ (by simp) (by simp) (by
   obtain ⟨es, clock, hb, Ft, hs, hD⟩ := hown;exact ⟨es, clock, (Below.heap_alloc _ _ b hbl).trans hb, Ft, hs, hD⟩)
 have cS := AnyZI.sorted_in layss Fence.wide 5 trivial trivial trivial trivial rfl (by omega) (sorts_in _) (enters_of Tryz.func88 (by kernel_rfl) rfl) 89 #[.pointer (some ⟨w.heap.size, 0, none⟩)] trivial (enters_of Tryz.func89 (by kernel_rfl) rfl) _ _ hmax hbytes _ hseq;refine ((callsIn_wide (n := 5)).1 cS).mono ?_;rintro e w' ⟨v, ss, rfl, hS, hrow, hnil, hb⟩;have hlen : ss.length = L.length := by rw [hS.length_eq]; simp [intKeys, dA]
 rw [sort_nums hr hS, hlen] at hrow;refine ⟨v, rfl, own_baseC hrow (by rw [size_allocC]; omega), ?_⟩;exact ((Below.refl _ w).alloc (Nat.le_refl _) _).trans (hb.mono (by rw [size_allocC]; omega))
structure He where
 n : Int
 a : Int
 E : List Int
 g : Bool
 c : Nat
structure Hq where
 h : He
 ev : Value
def cellsH (x : Hq) : List Value := [.int .i64 x.h.n, .int .i64 x.h.a, x.ev, .bool x.h.g, .int .i64 x.h.c]
def flatH (F : List Hq) : List Value := F.flatMap cellsH
theorem flatH_app (F : List Hq) (x : Hq) : flatH (F ++ [x]) = flatH F ++ cellsH x := by simp [flatH]
theorem flatH_get : ∀ (F : List Hq) (i j : Nat) (h : i < F.length), j < 5 → (flatH F)[i * 5 + j]? = (cellsH F[i])[j]?
 | [], i, j, h, _ => by simp at h
 | a :: t, 0, j, h, hj => by
  have e : (cellsH a).length = 5 := rfl;simp only [flatH, List.flatMap_cons, Nat.zero_mul, Nat.zero_add, List.getElem_cons_zero];rw [List.getElem?_append_left (by omega)]
 | a :: t, i + 1, j, h, hj => by
  have e : (cellsH a).length = 5 := rfl;have ih := flatH_get t i j (by simpa using h) hj;simp only [flatH, List.flatMap_cons, List.getElem_cons_succ] at ih ⊢;rw [List.getElem?_append_right (by omega), e, show (i + 1) * 5 + j - 5 = i * 5 + j by omega];exact ih
def heH (h : Hh) : He := ⟨h.n, h.a, h.E, h.g, h.A.countP id⟩
structure Ho (w : World) (lo : Nat) (x : Hq) : Prop where
 e : w.ownsRow lo 3 1 x.ev x.h.E.length (cellsN x.h.E)
 ok : In64 x.h.E
theorem Ho.below {w w' : World} {lo : Nat} {x : Hq} (h : Ho w lo x) (hb : Below w.heap.size w w') : Ho w' lo x := ⟨own_belowC h.e hb, h.ok⟩
structure Hr (w : World) (lo : Nat) (v : Value) (F : List Hq) : Prop where
 own : w.ownsRow lo 68 5 v F.length (flatH F)
 ent : ∀ x ∈ F, Ho w lo x
theorem Hr.below {w w' : World} {lo : Nat} {v : Value} {F : List Hq} (h : Hr w lo v F) (hb : Below w.heap.size w w') : Hr w' lo v F := ⟨own_belowC h.own hb, fun x hx => (h.ent x hx).below hb⟩
theorem Hr.join {w w2 w3 : World} {lo : Nat} {v v' : Value} {F : List Hq} {x : Hq} (h : Hr w lo v F) (hb : Below w.heap.size w w2) (hx : Ho w2 lo x) (ho : w3.ownsRow lo 68 5 v' (F.length + 1) (flatH F ++ cellsH x)) (hg : w2.grownBy w3 v.ownBlock) : Hr w3 lo v' (F ++ [x]) := by
 have h2 := h.below hb;have hc : Ch (fun y => v.ownBlock = some y) w2 w3 := Ch.of_grown hg (fun y hy => hy)
 have hto : ∀ z, Ho w2 lo z → Ho w3 lo z := fun z hz => ⟨own_ch hz.e hc (fun y hy hv => by
  rcases own_ne h2.own hz.e (by decide) with q | q
  ·rw [q] at hv; cases hv
  ·exact q (hv.trans hy.symm)), hz.ok⟩
 refine ⟨by rw [flatH_app, List.length_append]; exact ho, fun y hy => ?_⟩;rcases List.mem_append.1 hy with hy | hy
 ·exact hto y (h2.ent y hy)
 ·rw [List.mem_singleton] at hy; subst hy; exact hto _ hx
theorem hr_empty (w : World) : Hr (w.alloc (Obj.cells #[] 68)) w.heap.size (.slice (some ⟨w.heap.size, 0, none⟩) 0 0) [] :=
 ⟨⟨rfl, .inr ⟨_, 0, #[], rfl, Nat.le_refl _, heap_alloc_new w _, Nat.le_refl _, by simp [maxLen], rfl, rfl⟩⟩, by simp⟩
theorem info_hd : (Tryz.prog.info? 68).map (fun i => (i.zero, i.size, i.bytes)) = some (some (.agg #[.int .i64 0, .int .i64 0, .slice none 0 0, .bool false, .int .i64 0]), 5, 56) := by kernel_rfl
theorem cellsH_one {w : World} {lo : Nat} {x : Hq} (h : Ho w lo x) : ∀ u ∈ cellsH x, u.oneCell' = true := by
 obtain ⟨ea, ec, e1⟩ := own_formN h.e;intro u hu;unfold cellsH at hu;rw [e1] at hu;simp only [List.mem_cons, List.not_mem_nil, or_false] at hu;rcases hu with rfl | rfl | rfl | rfl | rfl <;> rfl
theorem cells_litH {w : World} {x : Hq} {t : TypeId} : ∀ j u, (cellsH x)[j]? = some u → (w.alloc (Obj.cells #[.int .i64 x.h.n, .int .i64 x.h.a, x.ev, .bool x.h.g, .int .i64 x.h.c] t)).cell? ⟨w.heap.size, j, none⟩ = some u := by
 intro j u hj;unfold cellsH at hj
 have hj5 : j < 5 := by
  rcases Nat.lt_or_ge j 5 with q | q
  ·exact q
  ·rw [List.getElem?_eq_none (by simpa using q)] at hj; cases hj
 have hc : j = 0 ∨ j = 1 ∨ j = 2 ∨ j = 3 ∨ j = 4 := by omega
 rcases hc with rfl | rfl | rfl | rfl | rfl <;> simp at hj <;> subst hj <;> simp [go_sem]
theorem step_app_hd {ops : Array Oper} {o : Oper} {a : Act} {w : World} {K : Act → World → Prop} {Q : Exit → Act → World → Prop} {E : Prop}
  (hg : o.guard = none) (s x : Operand) (hop : o.op = Op.call { callee := Callee.builtin Builtin.append, args := #[s, x], argTypes := #[59, 59] })
  {base : Nat} (v : Value) (F : List Hq) (hs : a.eval s = v) (hown : w.ownsRow base 68 5 v F.length (flatH F))
  (X : Nat) (q : Hq) (hx : a.eval x = .slice (some ⟨X, 0, none⟩) 1 1) (hc : ∀ j u, (cellsH q)[j]? = some u → w.cell? ⟨X, j, none⟩ = some u) (h1 : ∀ u ∈ cellsH q, u.oneCell' = true) (hn : F.length ≤ 5000) (hb : base ≤ w.heap.size)
  (hK : ∀ v' w', w'.ownsRow base 68 5 v' (F.length + 1) (flatH F ++ cellsH q) → w.grownBy w' v.ownBlock → K (a.put o.dst v') w') :
  if Region.wanted o (yielded ops a.tmps) = true then Oper.wp Tryz.prog o a w K Q else E := by
 have hw : Region.wanted o (yielded ops a.tmps) = true := by simp [Region.wanted, hg]
 rw [if_pos hw];obtain ⟨i0, hi, hz0, hz1, hz2⟩ := info_partsQ info_hd;obtain ⟨v', w', hrun, r1, r2, _, r3⟩ := run_append_own_at (P := Tryz.prog) w base 59 o.type 68 i0 (.agg #[.int .i64 0, .int .i64 0, .slice none 0 0, .bool false, .int .i64 0]) 5 56 Tryz.underlying59 hi hz0 hz1 hz2 rfl (by decide) v F.length (flatH F) hown ⟨X, 0, none⟩ 1 1 (cellsH q) rfl (fun j u hj => by rw [WideShapes.add_plain, Nat.zero_add]; exact hc j u hj) h1 (by simp only [maxLen]; omega) (by omega) hb;unfold Oper.wp;simp [execOp, hop, resolve, invoke, builtin, hs, hx, hrun, Result.andThen];exact hK v' w' r1 r2
def HeR (w : World) (H : List He) (v : Value) (w' : World) : Prop := ∃ F, Hr w' w.heap.size v F ∧ F.map (·.h) = H ∧ Below w.heap.size w w'
theorem look_at {L : List At} (hr : RiseL kA L) {i : Nat} (hi : i < L.length) : atK kA L (kA L[i]) = some L[i] := by
 unfold atK;rw [List.find?_eq_some_iff_getElem];refine ⟨by simp, i, hi, rfl, fun j hj => ?_⟩;have := List.pairwise_iff_getElem.1 hr j i (by omega) hi hj;simp; omega
theorem held_walk {w : World} {P b : Nat} {ov : Value} {p : Pn} {nd : Int} {L : List At} (hn : Wm w P b ov p nd L) (hL : L.length ≤ 4096) : Calls Tryz.prog 17 #[.pointer (some ⟨P, 0, none⟩)] w fun e w' => ∃ v, e = .returned v ∧ HeR w (L.map fun a => heH a.h) v w' := by
 have HN : Hid (Wm w P b ov p nd L) := hn;have HLE : Hid (L.length ≤ 4096) := hL;have HPN : Hid (p.n ≤ 4) := (Pn.n_le hn.is).2;clear hn hL;go_in;go_upto_region 4 with fail
 have HF : Hid _ := hr_empty w;have HB : Hid _ := below_alloc w (Obj.cells #[] 68);generalize w.alloc (Obj.cells #[] 68) = w1 at HF HB ⊢;have HN1 : Hid _ := HN.out.below HB.out;have p9 := HN1.out.cells.2.2.2.2.2.2.2.2.2;go_wp2_with fail;refine (mkeys_walk (some b) w1).mono ?_;rintro e w2 ⟨rfl, rfl⟩;clear p9;go_wp2_with fail;refine (isorted_walk HN1.out.own HLE.out HN1.out.rise).mono ?_;rintro e w3 ⟨v, rfl, hrow, hb3⟩;obtain ⟨ka, kc, rfl⟩ := own_formN hrow;have HI : Hid (Hr w3 w.heap.size (.slice (some ⟨w.heap.size, 0, none⟩) 0 0) [] ∧ w3.ownsRow w.heap.size 3 1 (.slice ka L.length kc) L.length ((L.map kA).map (Value.int .i64)) ∧ Below w.heap.size w w3) := ⟨HF.out.below hb3, own_baseC hrow HB.out.size, below_trans HB.out hb3⟩;clear hrow hb3 HF HB HN1;have hll : (L.length : Int) ≤ 9223372036854775807 := by have := HLE.out; omega
 go_upto_region 5 with fail
 go_loopw [3, 17] (fun lv iv wr => ∃ (i : Nat) (F : List Hq), iv = .int .i64 i ∧ i ≤ L.length ∧ Hr wr w.heap.size lv F ∧ F.map (·.h) = (L.take i).map (fun a => heH a.h) ∧ wr.ownsRow w.heap.size 3 1 (.slice ka L.length kc) L.length ((L.map kA).map (Value.int .i64)) ∧ Below w.heap.size w wr) (fun _ iv _ => L.length - (intOf iv).toNat)
 case atStart => exact ⟨0, [], rfl, Nat.zero_le _, HI.out.1, rfl, HI.out.2.1, HI.out.2.2⟩
 case round =>
  obtain ⟨i, F, rfl, hil, h1, h2, h3, h4⟩ := hrel;have HFR := hidH h1;have HFM : Hid (F.map (·.h) = (L.take i).map (fun a => heH a.h)) := h2;have HKR := hidH h3;have HBW := hidH h4;clear h1 h2 h3 h4 HI;obtain ⟨ua, uc, rfl⟩ := own_formN HFR.out.own;by_cases hlt : i < L.length
  ·have hlti : (i : Int) < (L.length : Int) := by omega
   have hltd : decide (i < L.length) = true := decide_eq_true hlt;obtain ⟨x, hx⟩ : ∃ x, x = L[i] := ⟨_, rfl⟩;obtain ⟨g, cap, hg, _⟩ := row_formN HKR.out (by omega);have hgd := hg;simp only [Value.slice.injEq] at hg;have hrr := HKR.out;rw [hgd] at hrr;have c0 : wr.cell? ⟨g, i, none⟩ = some (.int .i64 x.h.n) := (own_cellN hrr (j := i) (u := .int .i64 x.h.n) (by rw [List.map_map, List.getElem?_map, List.getElem?_eq_getElem hlt, ← hx]; rfl)).1;have hka := hg.1;clear hg hgd hrr;subst hka;have HNr : Hid _ := HN.out.below HBW.out;have HXM : Hid (x ∈ L) := by rw [hx]; exact List.getElem_mem _
   have HXE : Hid (L[i]? = some x) := by show _ = _; rw [hx, List.getElem?_eq_getElem hlt]
   have HA : Hid (Ao wr p x) := HNr.out.ent x HXM.out;have p9 := HNr.out.cells.2.2.2.2.2.2.2.2.2
   have hlk : (Instr.lookup 71 (.map (some b)) (.int .i64 x.h.n) false).run Tryz.prog wr = .ok (.pointer (some ⟨x.x, 0, none⟩)) wr := by
    have h := look_A HNr.out.own (k := x.h.n) HA.out.nr;have e1 : lkA L x.h.n = .pointer (some ⟨x.x, 0, none⟩) := by unfold lkA; rw [show x.h.n = kA L[i] by rw [← hx]; rfl, look_at HN.out.rise hlt, ← hx]; rfl
    rw [e1] at h;exact h
   have HLT : Hid (i < L.length) := hlt;clear hx hlt;go_upto_region 8 with fail
   clear c0 p9 hlk;obtain ⟨va, vc, hev⟩ := own_formN HA.out.ends;have HNV : Hid (Nv wr (.slice va x.h.E.length vc) x.h.E) := by have h := own_nv HA.out.ends HA.out.eok; rw [hev] at h; exact h
   have HXL : Hid (x.x < w.heap.size) := by have h0 := HN.out.ent x HXM.out; have h1 := h0.lx; have h2 := h0.hi; show _ < _; omega
   have HSF : Hid (∀ wz, Ch (fun z => w.heap.size ≤ z) wr wz → wz.cell? ⟨x.x, 0, none⟩ = some (.int .i64 x.h.a) ∧ wz.cell? ⟨x.x, 1, none⟩ = some (.slice va x.h.E.length vc) ∧ wz.cell? ⟨x.x, 4, none⟩ = some (.bool x.h.g)) := by
    intro wz h;have hd : ¬ w.heap.size ≤ x.x := by have := HXL.out; omega
    exact ⟨h.cell HA.out.cells.1 hd, by rw [← hev]; exact h.cell HA.out.cells.2.1 hd, h.cell HA.out.cells.2.2.2.2 hd⟩
   clear hev;have hn1 : (x.h.A.countP id : Int) ≤ 4 := by have h1 := List.countP_le_length (p := id) (l := x.h.A); have h2 := HA.out.al; have h3 := HPN.out; omega
   refine wp_region_noPanic ?_;refine wp_region_held_drew (S := fun wz => wz.cell? ⟨x.x, 0, none⟩ = some (.int .i64 x.h.a) ∧ wz.cell? ⟨x.x, 1, none⟩ = some (.slice va x.h.E.length vc) ∧ wz.cell? ⟨x.x, 4, none⟩ = some (.bool x.h.g)) (by kernel_rfl) ?_ fun hHeld => ?_
   ·exact (HSF.out _ (Ch.of_below (below_drewN wr 1)))
   refine tkS 0 27 rfl hHeld ?_;refine tkS 1 28 rfl hHeld ?_;refine tkS 2 29 rfl hHeld ?_;refine tkS 3 30 rfl hHeld ?_;refine tkS 4 31 rfl hHeld ?_;refine tkS 5 32 rfl hHeld ?_;refine tkS 6 33 rfl hHeld ?_;refine tkS 7 34 rfl hHeld ?_;refine tkS 8 35 rfl hHeld ?_;refine tkS 9 36 rfl hHeld ?_;refine tkS 11 38 rfl hHeld ?_;refine tkS 12 39 rfl hHeld ?_;refine tkS 13 40 rfl hHeld ?_;refine tkS 14 41 rfl hHeld ?_;refine tkS 15 42 rfl hHeld ?_;refine rdH 10 37 rfl fun K hK => ?_;go_simp;refine (cloneN_walk (HNV.out.below (below_drewN wr 1)) (by have := HA.out.el; omega)).mono ?_;rintro e w4 ⟨v', rfl, hrow, hB⟩;obtain ⟨ra, rc, rfl⟩ := own_formN hrow;have HRW : Hid (w4.ownsRow w.heap.size 3 1 (.slice ra x.h.E.length rc) x.h.E.length (cellsN x.h.E)) := own_baseC hrow HBW.out.size;have HB4 := hidH (below_trans (below_drewN wr 1) hB);clear hrow hB;refine hK.out _ _ ?_ fun hHeld => ?_
   ·exact (HSF.out _ (Ch.of_below HB4.out))
   clear hK K;try simp only [Act.put, zz]
   refine rdH 16 43 rfl fun K hK => ?_;go_simp;refine (count_walk (HA.out.below HB4.out) HPN.out).mono ?_;rintro e w5 ⟨rfl, hB⟩;have HB5 := hidH (below_trans HB4.out hB);have HRW5 : Hid (w5.ownsRow w.heap.size 3 1 (.slice ra x.h.E.length rc) x.h.E.length (cellsN x.h.E)) := own_belowC HRW.out hB;clear hB;refine hK.out _ _ ?_ fun hHeld => ?_
   ·exact (HSF.out _ (Ch.of_below HB5.out))
   clear hK K;try simp only [Act.put, zz]
   refine tkS 17 44 rfl hHeld ?_;refine rdH 18 45 rfl fun K hK => ?_;go_simp;refine hK.out _ _ ?_ fun hHeld => ?_
   ·exact (HSF.out _ (Ch.of_below (below_trans HB5.out (below_alloc _ _))))
   clear hK K;try simp only [Act.put, zz]
   refine rdH 19 46 rfl fun K hK => ?_;refine step_app_hd rfl (.tmp 27) (.tmp 45) rfl (.slice ua F.length uc) F rfl (own_belowC HFR.out.own (below_trans HB5.out (below_alloc _ _))) w5.heap.size ⟨heH x.h, .slice ra x.h.E.length rc⟩ rfl (cells_litH (w := w5) (x := ⟨heH x.h, .slice ra x.h.E.length rc⟩)) (cellsH_one (w := w5) (lo := w.heap.size) ⟨HRW5.out, HA.out.eok⟩) (by have h := congrArg List.length HFM.out; rw [List.length_map, List.length_map, List.length_take] at h; have := HLE.out; omega) (by have h1 := HBW.out.size; have h2 := HB5.out.size; rw [size_allocC]; omega) ?_;intro v6 w6 hown hgrow;obtain ⟨ja, jc, rfl⟩ := own_formN hown;have HG6 := hidH hgrow;have HO6 := hidH hown;have HC6 : Hid (Ch (fun z => w.heap.size ≤ z) wr w6) := (Ch.of_below (below_trans HB5.out (below_alloc _ _))).self (Ch.of_grown hgrow (fun z hz => (HFR.out.own.lt z hz).1));clear hown hgrow;refine hK.out _ _ ?_ fun hHeld => ?_
   ·exact (HSF.out _ HC6.out)
   clear hK K;try simp only [Act.put, zz]
   refine tkS 20 3 rfl hHeld ?_;refine wpAnyH_done (by kernel_rfl) ?_ _;refine NoPanic.normal ?_;go_wp2_with fail;go_roundw
   case rel =>
    refine ⟨i + 1, F ++ [⟨heH x.h, .slice ra x.h.E.length rc⟩], by go_num, HLT.out, HFR.out.join (below_trans HB5.out (below_alloc _ _)) (Ho.below ⟨HRW5.out, HA.out.eok⟩ (below_alloc _ _)) HO6.out HG6.out, ?_, ?_, ?_⟩
    ·rw [List.map_append, HFM.out, List.take_add_one, HXE.out, List.map_append];rfl
    ·exact own_ch (own_belowC HKR.out (below_trans HB5.out (below_alloc _ _))) (Ch.of_grown HG6.out (fun z hz => hz)) (fun z hz e => by
      rcases own_ne HFR.out.own HKR.out (by decide) with q | q
      ·rw [q] at e; cases e
      ·exact q (e.trans hz.symm))
    ·exact HBW.out.trans (HC6.out.to_below HBW.out.size (fun z hz => hz))
   case measure => have := HLT.out; simp [intOf]; omega
  ·have hlti : ¬ (i : Int) < (L.length : Int) := by omega
   obtain rfl : i = L.length := by omega
   go_wp2_with fail;go_ret;exact ⟨_, rfl, F, HFR.out, by rw [HFM.out, List.take_length], HBW.out⟩
end
theorem copied17_walk {w : World} {l : List Int} {v : Value} (ho : Nv w v l) (hl : l.length * 8 ≤ 140737488355328) :
  Calls Tryz.prog 48 #[v] w fun e w' => ∃ v', e = .returned v' ∧ w'.ownsRow w.heap.size 3 1 v' l.length (cellsN l) ∧ Below w.heap.size w w' := by
 have HO : Hid (Nv w v l) := ho;have HL := hidH hl;have HM : Hid (l.length ≤ maxLen) := by unfold maxLen; show _ ≤ _; omega
 clear ho hl;go_in;go_wp2_with (at_builtin; refine wpList_append_nv (by rfl) _ _ 44 (by rfl) w.heap.size 3 Tryz.underlying44 info_int _ 0 [] (by rfl) (World.ownsRow_made w #[] 0 (Nat.le_refl _) (by simp [maxLen]) (by simp)) _ l (by rfl) (HO.out.below (below_alloc _ _)) (by have := HM.out; omega) (by have := HL.out; omega) (by simp [go_sem]) ?_; intro v1 w1 hown hgrow);go_ret;refine ⟨_, rfl, by simpa using hown, ?_⟩;exact (below_alloc w (Obj.cells #[] 3)).grown hgrow (by simp) (by simp [Value.ownBlock])
theorem held17r_walk {w : World} {P : Nat} {lv ov : Value} {p : Pn} {nd : Int} {L : List Rwt} (hn : Rwk w P lv ov p nd L) (hL : L.length ≤ 4096) : Calls Tryz.prog 18 #[.pointer (some ⟨P, 0, none⟩)] w fun e w' => ∃ v, e = .returned v ∧ HeR w (L.map fun a => heH a.h) v w' := by
 have HN := hidH hn;have HLE : Hid (L.length ≤ 4096) := hL;have HPN : Hid (p.n ≤ 4) := (Pn.n_le hn.is).2;obtain ⟨la, lc, e⟩ := own_formN hn.row;subst e;have c9 : ∀ wx, Below w.heap.size w wx → wx.cell? ⟨P, 9, none⟩ = some (.slice la L.length lc) := fun wx hb => by rw [(HN.out.below hb).cell]; rfl
 have hll : (L.length : Int) ≤ 4096 := by omega
 clear hn hL;go_in;go_upto_region 2 with fail
 have HF : Hid _ := hr_empty w;have HB : Hid _ := below_alloc w (Obj.cells #[] 68);generalize w.alloc (Obj.cells #[] 68) = w1 at HF HB ⊢;go_wp2_with fail;go_loopw [3, 4] (fun lv iv wr => ∃ (i : Nat) (F : List Hq), iv = .int .i64 i ∧ i ≤ L.length ∧ Hr wr w.heap.size lv F ∧ F.map (·.h) = (L.take i).map (fun a => heH a.h) ∧ Below w.heap.size w wr) (fun _ iv _ => L.length - (intOf iv).toNat)
 case atStart => exact ⟨0, [], rfl, Nat.zero_le _, HF.out, rfl, HB.out⟩
 case round =>
  obtain ⟨i, F, rfl, hil, h1, h2, h4⟩ := hrel;have HFR := hidH h1;have HFM : Hid (F.map (·.h) = (L.take i).map (fun a => heH a.h)) := h2;have HBW := hidH h4;clear h1 h2 HF HB;obtain ⟨ua, uc, rfl⟩ := own_formN HFR.out.own;have d9 := c9 wr h4;clear h4;by_cases hlt : i < L.length
  ·have hlti : (i : Int) < (L.length : Int) := by omega
   obtain ⟨g, c, e, _, hcel⟩ := (HN.out.below HBW.out).at hlt;simp only [Value.slice.injEq] at e;obtain ⟨rfl, _⟩ := e;obtain ⟨x, hx⟩ : ∃ x, x = L[i] := ⟨_, rfl⟩;have HXE : Hid (L[i]? = some x) := by show _ = _; rw [hx, List.getElem?_eq_getElem hlt]
   have HA : Hid (Rwo wr p x) := by have h := (HN.out.below HBW.out).ent L[i] (List.getElem_mem _); rw [← hx] at h; exact h
   rw [← hx] at hcel;have HLT : Hid (i < L.length) := hlt;have q0 := (hcel 0 _ (by omega) rfl).1;have q1 := (hcel 1 _ (by omega) rfl).1;have q2 := (hcel 2 _ (by omega) rfl).1;have q3 := (hcel 3 _ (by omega) rfl).1;have q4 := (hcel 4 _ (by omega) rfl).1;have q5 := (hcel 5 _ (by omega) rfl).1;obtain ⟨va, vc, hev⟩ := own_formN HA.out.ends;obtain ⟨vs, hdl, _⟩ := HA.out.prt;obtain ⟨da, dc, hdv⟩ := own_formN hdl.row;obtain ⟨fa, fc, hav⟩ := own_formN HA.out.app;have HNV : Hid (Nv wr (.slice va x.h.E.length vc) x.h.E) := by have h := own_nv HA.out.ends HA.out.eok; rw [hev] at h; exact h
   have HAV : Hid (x.av = .slice fa x.h.A.length fc) := hav;rw [hev] at q2;rw [hdv] at q3;rw [hav] at q5;rw [Nat.add_zero] at q0;clear hcel hev hdl hdv hx hav;obtain ⟨X, hX⟩ : ∃ X, X = wr.heap.size := ⟨_, rfl⟩;have HX : Hid (X = wr.heap.size) := hX;obtain ⟨w2, hw2⟩ : ∃ w2, w2 = wr.alloc (Obj.cells #[.int .i64 x.h.n, .int .i64 x.h.a, .slice va x.h.E.length vc, .slice da p.n dc, .bool x.h.g, .slice fa x.h.A.length fc] 120) := ⟨_, rfl⟩;have HW2 : Hid (w2 = _) := hw2;have HB2 : Hid (Below wr.heap.size wr w2) := by show Below _ _ _; rw [hw2]; exact below_alloc _ _
   have hbk : w2.heap[X]? = some (.cells #[.int .i64 x.h.n, .int .i64 x.h.a, .slice va x.h.E.length vc, .slice da p.n dc, .bool x.h.g, .slice fa x.h.A.length fc] 120 (0, 0)) := by rw [hw2, hX]; exact heap_alloc_new wr _
   have HSF : Hid (∀ wz, Ch (fun z => (Value.slice ua F.length uc).ownBlock = some z) w2 wz → (fun wz => wz.cell? ⟨X, 0, none⟩ = some (.int .i64 x.h.n) ∧ wz.cell? ⟨X, 1, none⟩ = some (.int .i64 x.h.a) ∧ wz.cell? ⟨X, 2, none⟩ = some (.slice va x.h.E.length vc) ∧ wz.cell? ⟨X, 4, none⟩ = some (.bool x.h.g) ∧ wz.cell? ⟨X, 5, none⟩ = some x.av) wz) := by
    intro wz h;have hd : ¬ (Value.slice ua F.length uc).ownBlock = some X := fun e => by have h1 := (HFR.out.own.lt X e).2; have h2 := HX.out; omega
    have hz : wz.heap[X]? = _ := (h.block X (Array.getElem?_eq_some_iff.1 hbk).1 hd).trans hbk;refine ⟨?_, ?_, ?_, ?_, ?_⟩
    ·rw [cell_of_row wz X _ _ _ (0, 0) hz]; rfl
    ·rw [cell_of_row wz X _ _ _ (0, 0) hz]; rfl
    ·rw [cell_of_row wz X _ _ _ (0, 0) hz]; rfl
    ·rw [cell_of_row wz X _ _ _ (0, 0) hz]; rfl
    ·rw [cell_of_row wz X _ _ _ (0, 0) hz, HAV.out]; rfl
   have hn1 : (x.h.A.countP id : Int) ≤ 4 := by have h1 := List.countP_le_length (p := id) (l := x.h.A); have h2 := HA.out.al; have h3 := HPN.out; omega
   clear hX hw2 hbk hlt;go_upto_region 6 with fail
   rw [← HW2.out, ← HX.out];clear q0 q1 q2 q3 q4 q5 d9;refine wp_region_noPanic ?_;refine wp_region_held_drew (S := fun wz => wz.cell? ⟨X, 0, none⟩ = some (.int .i64 x.h.n) ∧ wz.cell? ⟨X, 1, none⟩ = some (.int .i64 x.h.a) ∧ wz.cell? ⟨X, 2, none⟩ = some (.slice va x.h.E.length vc) ∧ wz.cell? ⟨X, 4, none⟩ = some (.bool x.h.g) ∧ wz.cell? ⟨X, 5, none⟩ = some x.av) (by kernel_rfl) ?_ fun hHeld => ?_
   ·exact (HSF.out _ (Ch.of_below (below_drewN w2 1)))
   refine tkS 0 27 rfl hHeld ?_;refine tkS 1 28 rfl hHeld ?_;refine tkS 2 29 rfl hHeld ?_;refine tkS 3 30 rfl hHeld ?_;refine tkS 4 31 rfl hHeld ?_;refine tkS 5 32 rfl hHeld ?_;refine tkS 6 33 rfl hHeld ?_;refine tkS 8 35 rfl hHeld ?_;refine tkS 9 36 rfl hHeld ?_;refine tkS 10 37 rfl hHeld ?_;refine tkS 11 38 rfl hHeld ?_;refine rdH 7 34 rfl fun K hK => ?_;go_simp;refine (copied17_walk (HNV.out.below (below_trans HB2.out (below_drewN w2 1))) (by have := HA.out.el; omega)).mono ?_;rintro e w4 ⟨v', rfl, hrow, hB⟩;obtain ⟨ra, rc, rfl⟩ := own_formN hrow;have HB4 := hidH (below_trans (below_drewN w2 1) hB);have HRW : Hid (w4.ownsRow w.heap.size 3 1 (.slice ra x.h.E.length rc) x.h.E.length (cellsN x.h.E)) := own_baseC hrow (by have h1 := HBW.out.size; have h2 := HB2.out.size; have h3 := (below_drewN w2 1).size; omega);clear hrow hB;refine hK.out _ _ ?_ fun hHeld => ?_
   ·exact (HSF.out _ (Ch.of_below HB4.out))
   clear hK K;try simp only [Act.put, zz]
   refine rdH 12 39 rfl fun K hK => ?_;go_simp;refine (rcount_walk (B := x.lo) (own_belowC HA.out.app (below_trans HB2.out HB4.out)) (by have h1 := HA.out.al; have h2 := HPN.out; omega)).mono ?_;rintro e w5 ⟨rfl, h5⟩;replace h5 := h5.symm;subst h5;refine hK.out _ _ ?_ fun hHeld => ?_
   ·exact (HSF.out _ (Ch.of_below HB4.out))
   clear hK K;try simp only [Act.put, zz]
   refine tkS 13 40 rfl hHeld ?_;refine rdH 14 41 rfl fun K hK => ?_;go_simp;refine hK.out _ _ ?_ fun hHeld => ?_
   ·exact (HSF.out _ (Ch.of_below (below_trans HB4.out (below_alloc _ _))))
   clear hK K;try simp only [Act.put, zz]
   refine rdH 15 42 rfl fun K hK => ?_;refine step_app_hd rfl (.tmp 27) (.tmp 41) rfl (.slice ua F.length uc) F rfl (own_belowC HFR.out.own (below_trans HB2.out (below_trans HB4.out (below_alloc _ _)))) w4.heap.size ⟨heH x.h, .slice ra x.h.E.length rc⟩ rfl (cells_litH (w := w4) (x := ⟨heH x.h, .slice ra x.h.E.length rc⟩)) (cellsH_one (w := w4) (lo := w.heap.size) ⟨HRW.out, HA.out.eok⟩) (by have h := congrArg List.length HFM.out; rw [List.length_map, List.length_map, List.length_take] at h; have := HLE.out; omega) (by have h1 := HBW.out.size; have h2 := HB2.out.size; have h3 := HB4.out.size; rw [size_allocC]; omega) ?_;intro v6 w6 hown hgrow;obtain ⟨ja, jc, rfl⟩ := own_formN hown;have HG6 := hidH hgrow;have HO6 := hidH hown;have HC6 : Hid (Ch (fun z => (Value.slice ua F.length uc).ownBlock = some z) w2 w6) := (Ch.of_below (below_trans HB4.out (below_alloc _ _))).self (Ch.of_grown hgrow (fun z hz => hz));clear hown hgrow;refine hK.out _ _ ?_ fun hHeld => ?_
   ·exact (HSF.out _ HC6.out)
   clear hK K;try simp only [Act.put, zz]
   refine tkS 16 3 rfl hHeld ?_;refine wpAnyH_done (by kernel_rfl) ?_ _;refine NoPanic.normal ?_;go_wp2_with fail;go_roundw
   case rel =>
    refine ⟨i + 1, F ++ [⟨heH x.h, .slice ra x.h.E.length rc⟩], by go_num, HLT.out, HFR.out.join (below_trans HB2.out (below_trans HB4.out (below_alloc _ _))) (Ho.below ⟨HRW.out, HA.out.eok⟩ (below_alloc _ _)) HO6.out HG6.out, ?_, ?_⟩
    ·rw [List.map_append, HFM.out, List.take_add_one, HXE.out, List.map_append];rfl
    ·exact (HBW.out.trans (HB2.out.mono HBW.out.size)).trans (HC6.out.to_below (Nat.le_trans HBW.out.size HB2.out.size) (fun z hz => (HFR.out.own.lt z hz).1))
   case measure => have := HLT.out; simp [intOf]; omega
  ·have hlti : ¬ (i : Int) < (L.length : Int) := by omega
   obtain rfl : i = L.length := by omega
   go_wp2_with fail;go_ret;exact ⟨_, rfl, F, HFR.out, by rw [HFM.out, List.take_length], HBW.out⟩
end Go.Proofs.YtombjgfajbhbbaaGreat
