/- Floors and whole parts as whole numbers, and a float of a whole number with 1 added or taken off. Plain mathematics over the model's floats; no program. -/
import Derived.Test.YtombjgfajbhbbaaGreatB15
set_option maxRecDepth 100000
set_option maxHeartbeats 16000000
namespace Go.Proofs.YtombjgfajbhbbaaGreat
open Go.RowKit
section
open Ieee Go.RowKit

theorem info_u64K : (Tryz.prog.info? 40).map (fun i => (i.zero, i.size, i.bytes)) = some (some (.int .u64 0), 1, 8) := by kernel_rfl
def Uw (w : World) (g cap : Nat) (l : List Nat) : Prop := (∃ cur, w.heap[g]? = some (.cells cur 40 (0, 0)) ∧ cur.size = cap ∧ ∀ i, (h : i < l.length) → cur[i]? = some (.int .u64 (l[i] : Nat))) ∧ l.length ≤ cap ∧ cap ≤ maxLen
section

variable {w w' : World} {g cap : Nat} {l : List Nat}

theorem Uw.cell (h : Uw w g cap l) {i : Nat} (hi : i < l.length) : w.cell? ⟨g, i, none⟩ = some (.int .u64 (l[i] : Nat)) := by
  obtain ⟨⟨cur, h1, h2, h3⟩, _⟩ := h;rw [cell_of_row w g i _ _ (0, 0) h1]; exact h3 i hi
theorem Uw.soft (h : Uw w g cap l) (i : Nat) : w.frozen? ⟨g, i, none⟩ = false := by
  obtain ⟨⟨cur, h1, h2, h3⟩, _⟩ := h;simp [World.frozen?, h1]
theorem Uw.lt (h : Uw w g cap l) : g < w.heap.size := by
  obtain ⟨⟨cur, h1, h2, h3⟩, _⟩ := h;exact (Array.getElem?_eq_some_iff.1 h1).1
theorem Uw.below (h : Uw w g cap l) (hb : Below w.heap.size w w') : Uw w' g cap l := by
  have hl := h.lt;obtain ⟨⟨cur, h1, h2, h3⟩, h4⟩ := h;exact ⟨⟨cur, by rw [hb.block g hl]; exact h1, h2, h3⟩, h4⟩
theorem Uw.set (h : Uw w g cap l) {j : Nat} (hj : j < l.length) (x : Nat) : Uw (w.setCell ⟨g, j, none⟩ (.int .u64 x)) g cap (l.set j x) := by
  obtain ⟨⟨cur, h1, h2, h3⟩, h4, h5⟩ := h;refine ⟨⟨cur.setIfInBounds j (.int .u64 x), ?_, by simpa using h2, fun i hi => ?_⟩, by simpa using h4, h5⟩
  · rw [Sort.setCell_eq]
    simp [Sort.mapBlock, Array.getElem?_modify, h1, Sort.onCells]
  · rw [List.length_set] at hi
    by_cases e : j = i
    · subst e
      rw [Array.getElem?_setIfInBounds, if_pos rfl, if_pos (by omega), List.getElem_set_self]
    · rw [Array.getElem?_setIfInBounds, if_neg e, List.getElem_set_ne e]; exact h3 i hi
theorem Uw.own {base : Nat} (h : Uw w g cap l) (hb : base ≤ g) : w.ownsRow base 40 1 (.slice (some ⟨g, 0, none⟩) l.length cap) l.length (l.map fun k => .int .u64 (k : Nat)) := by
  obtain ⟨⟨cur, h1, h2, h3⟩, h4, h5⟩ := h;refine ⟨by simp, .inr ⟨g, cap, cur, rfl, hb, h1, h4, h5, by omega, ?_⟩⟩;apply List.ext_getElem?;intro j;by_cases hj : j < l.length
  · rw [List.getElem?_take, if_pos (by omega), Array.getElem?_toList, h3 j hj]
    simp [hj]
  · rw [List.getElem?_take, if_neg (by omega), List.getElem?_eq_none (by simp; omega)]
theorem own_uw {base n : Nat} (h : w.ownsRow base 40 1 (.slice (some ⟨g, 0, none⟩) n cap) n (l.map fun k => .int .u64 (k : Nat))) : Uw w g cap l ∧ base ≤ g ∧ n = l.length := by
  obtain ⟨h1, h2⟩ := h;simp at h1;rcases h2 with ⟨h, _⟩ | ⟨g', cap', cur, e1, hb, hg, hnc, hcm, hcs, htk⟩
  · cases h
  · simp only [Value.slice.injEq, Option.some.injEq, Addr.mk.injEq] at e1
    obtain ⟨⟨rfl, _⟩, _, rfl⟩ := e1;refine ⟨⟨⟨cur, hg, by omega, fun i hi => ?_⟩, by omega, hcm⟩, hb, by omega⟩;have : (l.map fun k => Value.int .u64 (k : Nat))[i]? = some (.int .u64 (l[i] : Nat)) := by simp [hi]
    rw [← htk, List.getElem?_take, if_pos (by omega), Array.getElem?_toList] at this;exact this
end

theorem wpList_append_ug {P : Program} {w : World} {ops : Array Oper} {rest : List Oper} {o : Oper} {a : Act} {Q : Exit → Act → World → Prop} (hgd : o.guard = none) (s x : Operand) (t : TypeId)
    (ho : o.op = .call { callee := .builtin .append, args := #[s, x], argTypes := #[t, t] })
    (B : Nat) (e : TypeId) (ht : P.underlying t = some (.slice e)) (hinf : (P.info? e).map (fun i => (i.zero, i.size, i.bytes)) = some (some (.int .u64 0), 1, 8))
    (g cap : Nat) (l : List Nat) (hs : a.eval s = .slice (some ⟨g, 0, none⟩) l.length cap) (hown : w.ownsRow B e 1 (.slice (some ⟨g, 0, none⟩) l.length cap) l.length (l.map fun k => .int .u64 (k : Nat)))
    (q k : Nat) (hx : a.eval x = .slice (some ⟨q, 0, none⟩) 1 1) (h0 : w.cell? ⟨q, 0, none⟩ = some (.int .u64 k)) (hn : l.length ≤ 1000000) (hB : B ≤ w.heap.size)
    (h : ∀ g' cap' w', w'.ownsRow B e 1 (.slice (some ⟨g', 0, none⟩) (l.length + 1) cap') (l.length + 1) ((l ++ [k]).map fun k => .int .u64 (k : Nat)) → w.grownBy w' (some g) → wpList P ops Q rest (a.put o.dst (.slice (some ⟨g', 0, none⟩) (l.length + 1) cap')) w') : wpList P ops Q (o :: rest) a w := by
  obtain ⟨i0, hi, hz0, hz1, hz2⟩ := info_partsV hinf;refine wpList_append_own w hgd s x t ho B e i0 (.int .u64 0) 1 8 ht hi hz0 hz1 hz2 rfl (by decide) _ l.length _ hs hown ⟨q, 0, none⟩ 1 1 [.int .u64 k] hx rfl ?_ (fun u hu => by simp at hu; subst hu; rfl) (by simp only [maxLen]; omega) (by omega) hB (fun v' w' h1 h2 h3 => ?_)
  · intro j u hj
    cases j with
    | zero => simp at hj; subst hj; exact h0
    | succ j => simp at hj
  · rcases h1.2 with ⟨_, h⟩ | ⟨g', cap', cur, e1, _⟩
    · omega
    · subst e1
      exact h g' cap' w' (by simpa using h1) (by simpa [Value.ownBlock] using h2)
def posK (k : Nat) : List Nat → Nat
  | [] => 0
  | a :: l => if a < k then posK k l + 1 else 0
theorem posK_at {k : Nat} {t : List Nat} {i : Nat} (h : ∀ j, (hj : j < t.length) → j < i → t[j] < k) (hi : i ≤ t.length) (hn : ∀ hl : i < t.length, ¬ t[i] < k) : posK k t = i := by
  induction t generalizing i with
  | nil => simp at hi; subst hi; rfl
  | cons p t ih =>
    cases i with
    | zero => exact if_neg (hn (by simp))
    | succ i =>
      have e : posK k (p :: t) = posK k t + 1 := if_pos (h 0 (by simp) (by omega));rw [e];congr 1;exact ih (fun j hj hji => h (j + 1) (by simpa using hj) (by omega)) (by simpa using hi) (fun hl => hn (by simpa using hl))
theorem ins_new {k : Nat} {t : List Nat} (h : ∀ hl : posK k t < t.length, t[posK k t] ≠ k) : insK k t = t.take (posK k t) ++ k :: t.drop (posK k t) := by
  induction t with
  | nil => rfl
  | cons p t ih =>
    by_cases hp : p < k
    · have e : posK k (p :: t) = posK k t + 1 := if_pos hp
      have i1 := ih (fun hl => by have := h (by rw [e]; simpa using hl); simpa [e] using this);unfold insK;rw [if_neg (by omega), if_neg (by omega), i1, e];simp
    · have e : posK k (p :: t) = 0 := if_neg hp
      have hne : p ≠ k := by have := h (by rw [e]; simp); simpa [e] using this
      unfold insK;rw [if_pos (by omega), e];simp
theorem insK_le {k : Nat} {l : List Nat} : (insK k l).length ≤ l.length + 1 := by
  induction l with
  | nil => simp [insK]
  | cons a l ih => unfold insK; split; · simp
                   split <;> simp; omega
section

variable {t : List Nat}

theorem shiftK_step {j : Nat} (hj : j < t.length) (x : Nat) : (t.take (j + 1) ++ x :: t.drop (j + 1)).set (j + 1) t[j] = t.take j ++ t[j] :: t.drop j := by
  have hl : (t.take (j + 1)).length = j + 1 := by simp; omega
  rw [List.set_append_right _ _ (by omega), hl, Nat.sub_self, List.set_cons_zero, List.take_succ_eq_append_getElem hj, List.append_assoc];rw [List.drop_eq_getElem_cons hj];rfl
theorem shiftK_get {j : Nat} (hj : j < t.length) (x : Nat) (h : j < (t.take (j + 1) ++ x :: t.drop (j + 1)).length) : (t.take (j + 1) ++ x :: t.drop (j + 1))[j] = t[j] := by
  rw [List.getElem_append_left (by simp; omega), List.getElem_take]
theorem shiftK_len {i : Nat} (hi : i ≤ t.length) (x : Nat) : (t.take i ++ x :: t.drop i).length = t.length + 1 := by simp; omega
theorem shiftK_end {i : Nat} (hi : i ≤ t.length) (x y : Nat) : (t.take i ++ x :: t.drop i).set i y = t.take i ++ y :: t.drop i := by
  have hl : (t.take i).length = i := by simp; omega
  rw [List.set_append_right _ _ (by omega), hl, Nat.sub_self, List.set_cons_zero]
end

def Pk (w : World) (t : List Nat) (k : Nat) (iv : Value) (wr : World) : Prop := ∃ i : Nat, i ≤ t.length ∧ iv = .int .i64 i ∧ (∀ j, (hj : j < t.length) → j < i → t[j] < k) ∧ wr = w
def Wk (w : World) (B g cap : Nat) (t : List Nat) (at_ : Nat) (iv : Value) (wr : World) : Prop :=
  ∃ (i : Nat) (x : Nat), at_ ≤ i ∧ i ≤ t.length ∧ iv = .int .i64 i ∧ Uw wr g cap (t.take i ++ x :: t.drop i) ∧ Below B w wr
theorem rwithk_walk {g cap B k : Nat} {t : List Nat} (w : World) (hU : Uw w g cap t) (hB : B ≤ g) (hr : RiseK t) (hl : t.length ≤ 4096) :
    Calls Tryz.prog 43 #[.slice (some ⟨g, 0, none⟩) t.length cap, .int .u64 k] w fun e w' => ∃ g' cap', e = .returned (.slice (some ⟨g', 0, none⟩) (insK k t).length cap') ∧ Uw w' g' cap' (insK k t) ∧ B ≤ g' ∧ Below B w w' := by
  have HU : Hid (Uw w g cap t) := hU;have HBG : Hid (B ≤ g) := hB;have HR : Hid (RiseK t) := hr;have HGW : Hid (g < w.heap.size) := hU.lt;clear hU hr hB;go_in;go_wp2_with fail;go_loopw [5] (fun iv wr => Pk w t k iv wr) (fun iv _ => t.length - (intOf iv).toNat)
  case atStart => exact ⟨0, Nat.zero_le _, rfl, fun j hj h => by omega, rfl⟩
  case round =>
    obtain ⟨i, hi, rfl, hall, hwr⟩ := hrel;subst hwr;have HN := hidH hall;clear hall;by_cases hlt : i < t.length
    · have m0 := HU.out.cell hlt
      obtain ⟨y, hy⟩ : ∃ y, y = t[i] := ⟨_, rfl⟩;rw [← hy] at m0;have HY : Hid (y = t[i]) := hy;have hil : (i : Int) < (t.length : Int) := by omega
      clear hy;by_cases hk : y < k
      · have R' : Pk wr t k (.int .i64 ((i : Int) + 1)) wr := ⟨i + 1, hlt, by simp, fun j hj hji => by
          rcases Nat.lt_or_ge j i with h2 | h2
          · exact HN.out j hj h2
          · obtain rfl : j = i := by omega
            rw [← HY.out]; exact hk, rfl⟩
        have hkb : (y : Int) < (k : Int) := by omega
        clear hk;go_wp2_with fail;go_roundw
        case rel => exact R'
        case measure => simp [intOf]; omega
      · have HP : Hid (posK k t = i) := posK_at HN.out hi (fun hl => by rw [← HY.out]; exact hk)
        have hkb : ¬ ((y : Int) < (k : Int)) := by omega
        by_cases hke : y = k
        · have HI : Hid (insK k t = t) := insK_old HR.out (by rw [← hke, HY.out]; exact List.getElem_mem _)
          have hkc : ((y : Int) == (k : Int)) = true := by simp [hke]
          clear hk hke HP HN;go_wp2_with fail;go_ret;exact ⟨g, cap, by rw [HI.out]; rfl, by rw [HI.out]; exact HU.out, HBG.out, Below.refl _ _⟩
        · have hkc : ((y : Int) == (k : Int)) = false := by simp; omega
          have hkd : ¬ ((y : Int) = (k : Int)) := by omega
          have HI : Hid (insK k t = t.take i ++ k :: t.drop i) := by
            have := ins_new (k := k) (t := t) (fun hl => by have e := HP.out; simp only [e]; rw [← HY.out]; exact hke);rw [HP.out] at this; exact this
          clear hk hke HP HN;have hw9 : IntKind.i64.wrap (((t.length + 1 : Nat) : Int) - 1) = (t.length : Int) := by rw [wrapU (by omega) (by omega)]; omega
          go_wp2_with (at_builtin; refine wpList_append_ug (by rfl) _ _ 45 (by rfl) B 40 Tryz.underlying45 info_u64K g cap t (by rfl) ((HU.out.own HBG.out).alloc _) _ 0 (by rfl) (by simp [go_sem]) (by omega) (by have := HGW.out; have := HBG.out; simp; omega) ?_; intro g2 cap2 w2 hown2 hgrow2);obtain ⟨hU2, hb2, _⟩ := own_uw hown2;have HB2G : Hid (B ≤ g2) := hb2
          have HB2 : Hid (Below B wr w2) := by
            have h1 : Below B wr wr := Below.refl _ _;exact (h1.alloc (Nat.le_trans HBG.out (Nat.le_of_lt HGW.out)) _).grown hgrow2 (by have := HGW.out; have := HBG.out; simp; omega) (by simp; exact HBG.out)
          have R0 : Wk wr B g2 cap2 t i (.int .i64 t.length) w2 := ⟨t.length, 0, hi, Nat.le_refl _, rfl, by rw [List.take_length, List.drop_length]; exact hU2, HB2.out⟩;clear hown2 hgrow2 hU2 hb2;generalize hNe : t.length + 1 = N;rw [hNe] at hw9;have HN : Hid (t.length + 1 = N) := hNe;have hNi : (N : Int) ≤ 4097 := by omega
          clear hNe;go_wp2_with fail;obtain ⟨wo, hwo⟩ : ∃ wo, wo = wr := ⟨_, rfl⟩;subst hwo;clear hil;go_loopw [6] (fun iv wx => Wk wo B g2 cap2 t i iv wx) (fun iv _ => (intOf iv).toNat)
          case atStart => exact R0
          case round =>
            clear R0 hw9;obtain ⟨j0, x, hai, hil2, hiv, hO, hBB⟩ := hrel;subst hiv;have HOI := hidH hO;have HBI : Hid (Below B wo wr) := hBB;clear hO hBB;have hl1 := shiftK_len hil2 x;by_cases hgt : i < j0
            · obtain ⟨j, hj⟩ : ∃ j, j0 = j + 1 := ⟨j0 - 1, by omega⟩
              subst hj;have hjt : j < t.length := by omega
              have m1 := HOI.out.cell (i := j) (by omega);rw [shiftK_get hjt] at m1;have n1 := HOI.out.cell (i := j + 1) (by omega);have f1 := HOI.out.soft (j + 1);have R' := HOI.out.set (j := j + 1) (by omega) t[j];rw [shiftK_step hjt] at R';generalize t[j] = o at m1 R';generalize (t.take (j + 1) ++ x :: t.drop (j + 1))[j + 1] = z0 at n1;have hgi : (i : Int) < ((j : Int) + 1) := by omega
              have hwj : IntKind.i64.wrap (j : Int) = j := wrapU (by omega) (by omega);have hwk : IntKind.i64.wrap (((j + 1 : Nat) : Int) - 1) = j := by rw [wrapU (by omega) (by omega)]; omega
              have hj1 : j + 1 < N := by have := HN.out; omega
              have hj0 : j < N := by omega
              have HR2 : Hid (Wk wo B g2 cap2 t i (.int .i64 (j : Int)) (wr.setCell ⟨g2, j + 1, none⟩ (.int .u64 o))) := ⟨j, o, by omega, by omega, rfl, R', HBI.out.setCell HB2G.out _⟩;clear R' hgt hai hil2 hl1;go_wp2_with fail;go_roundw
              case rel => exact HR2.out
              case measure => simp [intOf]
            · obtain rfl : j0 = i := by omega
              have hgi : ¬ ((j0 : Int) < (j0 : Int)) := by omega
              have n1 := HOI.out.cell (i := j0) (by omega);have f1 := HOI.out.soft j0;have R' := HOI.out.set (j := j0) (by omega) k;rw [shiftK_end hil2] at R';have HR' := hidH R';generalize (t.take j0 ++ x :: t.drop j0)[j0] = z0 at n1;have hpi : j0 < N := by have := HN.out; omega
              clear R' hl1;go_wp2_with fail;go_ret;refine ⟨g2, cap2, ?_, ?_, HB2G.out, ?_⟩
              · rw [HI.out, shiftK_len hil2, HN.out]; rfl
              · rw [HI.out]; exact HR'.out
              · exact HBI.out.setCell HB2G.out _
    · have hie : i = t.length := by omega
      have HP : Hid (posK k t = i) := posK_at HN.out hi (fun hl => absurd hl hlt);have hil : ¬ ((i : Int) < (t.length : Int)) := by omega
      have HI : Hid (insK k t = t.take i ++ k :: t.drop i) := by
        have := ins_new (k := k) (t := t) (fun hl => by have e := HP.out; omega);rw [HP.out] at this; exact this
      clear HP HN hie hlt;have hw9 : IntKind.i64.wrap (((t.length + 1 : Nat) : Int) - 1) = (t.length : Int) := by rw [wrapU (by omega) (by omega)]; omega
      go_wp2_with (at_builtin; refine wpList_append_ug (by rfl) _ _ 45 (by rfl) B 40 Tryz.underlying45 info_u64K g cap t (by rfl) ((HU.out.own HBG.out).alloc _) _ 0 (by rfl) (by simp [go_sem]) (by omega) (by have := HGW.out; have := HBG.out; simp; omega) ?_; intro g2 cap2 w2 hown2 hgrow2);obtain ⟨hU2, hb2, _⟩ := own_uw hown2;have HB2G : Hid (B ≤ g2) := hb2
      have HB2 : Hid (Below B wr w2) := by
        have h1 : Below B wr wr := Below.refl _ _;exact (h1.alloc (Nat.le_trans HBG.out (Nat.le_of_lt HGW.out)) _).grown hgrow2 (by have := HGW.out; have := HBG.out; simp; omega) (by simp; exact HBG.out)
      have R0 : Wk wr B g2 cap2 t i (.int .i64 t.length) w2 := ⟨t.length, 0, hi, Nat.le_refl _, rfl, by rw [List.take_length, List.drop_length]; exact hU2, HB2.out⟩;clear hown2 hgrow2 hU2 hb2;generalize hNe : t.length + 1 = N;rw [hNe] at hw9;have HN : Hid (t.length + 1 = N) := hNe;have hNi : (N : Int) ≤ 4097 := by omega
      clear hNe;go_wp2_with fail;obtain ⟨wo, hwo⟩ : ∃ wo, wo = wr := ⟨_, rfl⟩;subst hwo;clear hil;go_loopw [6] (fun iv wx => Wk wo B g2 cap2 t i iv wx) (fun iv _ => (intOf iv).toNat)
      case atStart => exact R0
      case round =>
        clear R0 hw9;obtain ⟨j0, x, hai, hil2, hiv, hO, hBB⟩ := hrel;subst hiv;have HOI := hidH hO;have HBI : Hid (Below B wo wr) := hBB;clear hO hBB;have hl1 := shiftK_len hil2 x;by_cases hgt : i < j0
        · obtain ⟨j, hj⟩ : ∃ j, j0 = j + 1 := ⟨j0 - 1, by omega⟩
          subst hj;have hjt : j < t.length := by omega
          have m1 := HOI.out.cell (i := j) (by omega);rw [shiftK_get hjt] at m1;have n1 := HOI.out.cell (i := j + 1) (by omega);have f1 := HOI.out.soft (j + 1);have R' := HOI.out.set (j := j + 1) (by omega) t[j];rw [shiftK_step hjt] at R';generalize t[j] = o at m1 R';generalize (t.take (j + 1) ++ x :: t.drop (j + 1))[j + 1] = z0 at n1;have hgi : (i : Int) < ((j : Int) + 1) := by omega
          have hwj : IntKind.i64.wrap (j : Int) = j := wrapU (by omega) (by omega);have hwk : IntKind.i64.wrap (((j + 1 : Nat) : Int) - 1) = j := by rw [wrapU (by omega) (by omega)]; omega
          have hj1 : j + 1 < N := by have := HN.out; omega
          have hj0 : j < N := by omega
          have HR2 : Hid (Wk wo B g2 cap2 t i (.int .i64 (j : Int)) (wr.setCell ⟨g2, j + 1, none⟩ (.int .u64 o))) := ⟨j, o, by omega, by omega, rfl, R', HBI.out.setCell HB2G.out _⟩;clear R' hgt hai hil2 hl1;go_wp2_with fail;go_roundw
          case rel => exact HR2.out
          case measure => simp [intOf]
        · obtain rfl : j0 = i := by omega
          have hgi : ¬ ((j0 : Int) < (j0 : Int)) := by omega
          have n1 := HOI.out.cell (i := j0) (by omega);have f1 := HOI.out.soft j0;have R' := HOI.out.set (j := j0) (by omega) k;rw [shiftK_end hil2] at R';have HR' := hidH R';generalize (t.take j0 ++ x :: t.drop j0)[j0] = z0 at n1;have hpi : j0 < N := by have := HN.out; omega
          clear R' hl1;go_wp2_with fail;go_ret;refine ⟨g2, cap2, ?_, ?_, HB2G.out, ?_⟩
          · rw [HI.out, shiftK_len hil2, HN.out]; rfl
          · rw [HI.out]; exact HR'.out
          · exact HBI.out.setCell HB2G.out _
end
section
open Ieee Go.RowKit

attribute [local go_sem] run_store_float
end
section
open Ieee Go.RowKit

theorem sub_self {x : Nat} (hx : x < 18446744073709551616) (h : rung x < 9218868437227405312) : FloatKind.f64.format.sub x x = some 0 := by
 show Ieee.double.sub x x = some 0;unfold Format.sub;rw [read_num hx h];generalize negB x = s;generalize mag (rung x) = m;generalize (-1074 + (sh (rung x) : Int)) = p;simp only [Datum.opposite, Datum.sum, Option.map_some, Format.write]
 have e : signed s m (p - min p p).toNat + signed (!s) m (p - min p p).toNat = 0 := by
  unfold signed; cases s <;> simp <;> omega
 rw [e, if_pos rfl, Int.natAbs_zero]
 cases s
 ·exact congrArg some (nearest_zero false _)
 ·exact congrArg some (nearest_zero false _)
theorem sub_inf {x : Nat} (hx : x < 18446744073709551616) (h : rung x = 9218868437227405312) : FloatKind.f64.format.sub x x = none := by
 show Ieee.double.sub x x = none;unfold Format.sub;rw [read_inf hx h]
 cases negB x <;> rfl
theorem sub_nan {x : Nat} (hx : x < 18446744073709551616) (h : nanB x = true) : FloatKind.f64.format.sub x x = none := by
 show Ieee.double.sub x x = none;unfold Format.sub;rw [read_nan hx (nan_t h)];rfl
theorem run_sub_nan (P : Program) {a x : Nat} (t : TypeId) (h : FloatKind.f64.format.sub a x = none) (w : World) :
  (binOp .sub t (.float .f64 a) (.float .f64 x)).run P w = .ok (.float .f64 (nanQ a x w)) (w.drewN 1) := by
 simp [binOp, Op.floatArith, h, Question.forced];exact ⟨rfl, rfl⟩
theorem run_sub_num (P : Program) {a x r : Nat} (t : TypeId) (h : FloatKind.f64.format.sub a x = some r) (w : World) :
  (binOp .sub t (.float .f64 a) (.float .f64 x)).run P w = .ok (.float .f64 r) w := run_float_arith _ _ _ _ _ _ _ h
theorem zz0 : FloatKind.f64.format.order 0 0 = some .eq := by decide
theorem nanQ_order (a b : Nat) (w : World) (y : Nat) : FloatKind.f64.format.order (nanQ a b w) y = none := order_nan_left (nanQ_nan a b w).2 (nanQ_nan a b w).1
theorem hop {w0 w1 w2 : World} (h : Below w0.heap.size w0 w1) (n : Nat) (k : Below (w1.drewN n).heap.size (w1.drewN n) w2) : Below w0.heap.size w0 w2 :=
 below_trans (below_trans h (below_drewN _ n)) k
theorem one_keep {o : Stp} {r : Rcd} (hb : isB o = true) (hf : fateI o (canonW r.x) = 1) : oneS o r = (1, nextR o (canR r)) := by
 unfold oneS runS;rw [if_pos (by simp [checkB, hb]), goS_keep (r := canR r) hf]; rfl
theorem one_stop {o : Stp} {r : Rcd} (hb : isB o = true) (hf : ¬ fateI o (canonW r.x) = 1) : oneS o r = (fateI o (canonW r.x), ⟨0, 0⟩) := by
 unfold oneS runS;rw [if_pos (by simp [checkB, hb]), goS_stop (r := canR r) hf]; rfl
end
section
open Ieee

theorem V_rI {M : Nat} (h : M ≤ 9007199254740992) : V (rI M) = M * UU := by
 by_cases h0 : M = 0
 ·subst h0; rw [rI_zero, Nat.zero_mul]; decide
 ·obtain ⟨r, e, r1, r2, hv⟩ := int_word false h0 h;have : rI M = r := by unfold rI; rw [e]; exact rung_word _ (by omega)
  rw [this, hv]
theorem read_of {a : Int} (h : a.natAbs ≤ 9007199254740992) :
  ∃ m k : Nat, Ieee.double.read (ofW a) = .number (decide (a < 0)) m (-1074 + (k : Int)) ∧ m * 2 ^ k = a.natAbs * UU := by
 have hr := of_rung a
 have hb : rI a.natAbs < 9218868437227405312 := by
  by_cases h0 : a.natAbs = 0
  ·rw [h0, rI_zero]; omega
  ·obtain ⟨r, e, r1, r2, hv⟩ := int_word false h0 h;have : rI a.natAbs = r := by unfold rI; rw [e]; exact rung_word _ (by omega)
   omega
 refine ⟨mag (rI a.natAbs), sh (rI a.natAbs), ?_, ?_⟩
 ·rw [read_num (of_lt a) (by omega), of_neg, hr]
 ·exact V_rI h
theorem signed_of (s : Bool) (m j : Nat) : signed s m j = if s then -((m * 2 ^ j : Nat) : Int) else ((m * 2 ^ j : Nat) : Int) := by
 unfold signed; rw [Nat.shiftLeft_eq]
theorem add_one {a : Int} (h : a.natAbs ≤ 9007199254740992) (t : Bool) :
  ((Ieee.double.read (ofW a)).sum (.number t 4503599627370496 (-52))).map Ieee.double.write = some (ofW (a + if t then -1 else 1)) := by
 obtain ⟨m, k, e, hv⟩ := read_of h;rw [e];simp only [Datum.sum, Option.map_some, Format.write];congr 1;obtain ⟨c, hc⟩ : ∃ c : Nat, min (-1074 + (k : Int)) (-52) = -(c : Int) := ⟨(-(min (-1074 + (k : Int)) (-52))).toNat, by omega⟩;rw [hc];have c1 : 52 ≤ c := by omega
 have c2 : 1074 ≤ k + c := by omega
 have e1 : m * 2 ^ (-1074 + (k : Int) - -(c : Int)).toNat = a.natAbs * 2 ^ c := by
  have hj : (-1074 + (k : Int) - -(c : Int)).toNat = k + c - 1074 := by omega
  rw [hj]
  have h1 : m * 2 ^ (k + c - 1074) * UU = a.natAbs * 2 ^ c * UU := by
   rw [Nat.mul_assoc, ← UU_high c2, Nat.pow_add, ← Nat.mul_assoc, hv, Nat.mul_assoc, Nat.mul_comm UU, ← Nat.mul_assoc]
  exact Nat.eq_of_mul_eq_mul_right UU_pos h1
 have e2 : 4503599627370496 * 2 ^ (-52 - -(c : Int)).toNat = 2 ^ c := by
  rw [show (-52 - -(c : Int)).toNat = c - 52 by omega, show (4503599627370496 : Nat) = 2 ^ 52 from rfl, ← Nat.pow_add, show 52 + (c - 52) = c by omega]
 rw [signed_of, signed_of, e1, e2];have hp := Nat.two_pow_pos c
 have e3 : (if decide (a < 0) = true then -((a.natAbs * 2 ^ c : Nat) : Int) else ((a.natAbs * 2 ^ c : Nat) : Int)) = a * (2 ^ c : Nat) := by
  simp only [decide_eq_true_eq]
  split
  ·rw [Int.natCast_mul, ← Int.neg_mul]; congr 1; omega
  ·rw [Int.natCast_mul]; congr 1; omega
 have e4 : (if t = true then -((2 ^ c : Nat) : Int) else ((2 ^ c : Nat) : Int)) = (if t then -1 else 1) * (2 ^ c : Nat) := by
  cases t <;> simp
 rw [e3, e4, ← Int.add_mul];generalize hu : (if t = true then (-1 : Int) else 1) = u;have hu1 : u = -1 ∨ u = 1 := by cases t <;> simp at hu <;> omega
 generalize hq : (2 ^ c : Nat) = q at *
 have hs : (if (a + u) * (q : Int) = 0 then decide (a < 0) && t else decide ((a + u) * (q : Int) < 0)) = decide (a + u < 0) := by
  by_cases z : a + u = 0
  ·rw [z, Int.zero_mul, if_pos rfl]
   cases t <;> simp at hu ⊢
   omega
  ·rw [if_neg (Int.mul_ne_zero z (by omega))];rw [Bool.eq_iff_iff, decide_eq_true_eq, decide_eq_true_eq];constructor
   ·intro k;by_cases z2 : a + u < 0
    ·exact z2
    ·have := Int.mul_nonneg (show 0 ≤ a + u by omega) (show (0 : Int) ≤ q by omega); omega
   ·intro k;exact Int.mul_neg_of_neg_of_pos k (by omega)
 rw [hs, Int.natAbs_mul, Int.natAbs_natCast, ← hq];have := nearest_scale (decide (a + u < 0)) (a + u).natAbs 0 c;rw [show (0 : Int) - (c : Int) = -(c : Int) by omega] at this;exact this
theorem sub_one {a : Int} (h : a.natAbs ≤ 9007199254740992) : Ieee.double.sub (ofW a) 4607182418800017408 = some (ofW (a - 1)) := by
 unfold Format.sub;rw [read1];have := add_one h true;rw [show (Datum.number false 4503599627370496 (-52)).opposite = .number true 4503599627370496 (-52) from rfl, this];rfl
def floorI (x : Nat) : Int := if negB x then -(fk true (rung x) : Int) else wn (rung x)
theorem floor_int {x : Nat} (hx : x < 18446744073709551616) (h : rung x < 4841369599423283200) (h0 : rung x ≠ 0) :
  floorW x = ofW (floorI x) ∧ (floorI x).natAbs ≤ 4503599627370496 := by
 rw [floor_fk hx (by omega)];have hk := fun s => fk_small s h;have hw := wn_small h
 have hv0 : V (rung x) ≠ 0 := by
  intro k;have v0 : V 0 = 0 := by decide
  exact h0 (V_inj (k.trans v0.symm))
 unfold floorI ofW
 cases sg : negB x
 ·have hf : fk false (rung x) = wn (rung x) := by unfold fk; simp
  simp only [Bool.false_eq_true, if_false];rw [hf];refine ⟨?_, by omega⟩;rw [decide_eq_false (by omega), Int.natAbs_natCast]
 ·have := hk true;simp only [if_true]
  have hpos : 0 < fk true (rung x) := by
   unfold fk;by_cases c : V (rung x) % UU = 0
   ·rw [wn_V];have := Nat.div_add_mod (V (rung x)) UU;rw [c] at this;by_cases z : V (rung x) / UU = 0
    ·rw [z] at this; omega
    ·exact Nat.lt_of_lt_of_le (Nat.pos_of_ne_zero z) (Nat.le_add_right _ _)
   ·rw [if_pos ⟨rfl, c⟩]; omega
  refine ⟨?_, by omega⟩;rw [decide_eq_true (by omega), Int.natAbs_neg, Int.natAbs_natCast]
theorem whole_int {x : Nat} (hn : nanB x = false) (h : rung x < 4841369599423283200) : wholeI x = (if negB x then -(wn (rung x) : Int) else wn (rung x)) ∧ (wholeI x).natAbs < 4503599627370496 := by
 have hw := wn_small h
 have e : wholeI x = (if negB x then -(wn (rung x) : Int) else wn (rung x)) := by
  unfold wholeI; rw [hn, if_neg (by simp), if_neg (by omega)]
 refine ⟨e, ?_⟩;rw [e]; split <;> omega
theorem key_cmp {M r : Nat} (h : M ≤ 9007199254740992) : (rI M < r ↔ M * UU < V r) ∧ (r < rI M ↔ V r < M * UU) := by
 rw [← V_rI h]; exact ⟨V_lt_iff.symm, V_lt_iff.symm⟩
theorem whole_above {x : Nat} (hn : nanB x = false) (h : rung x < 4841369599423283200) :
  (key x < key (ofW (wholeI x)) ↔ negB x = true ∧ V (rung x) % UU ≠ 0) ∧ (negB x = false → key (ofW (wholeI x)) ≤ key x) ∧ (negB x = true → key x ≤ key (ofW (wholeI x))) := by
 obtain ⟨e, hl⟩ := whole_int hn h;have hw := wn_small h;have hv := Nat.div_add_mod (V (rung x)) UU;have hm : V (rung x) % UU < UU := Nat.mod_lt _ UU_pos;rw [← wn_V, Nat.mul_comm] at hv;obtain ⟨k1, k2⟩ := key_cmp (M := wn (rung x)) (r := rung x) (by omega);rw [of_key, e];unfold key
 cases sg : negB x
 ·simp only [Bool.false_eq_true, if_false, false_and, iff_false];rw [if_neg (by omega), Int.natAbs_natCast];refine ⟨by omega, fun _ => by omega, (fun h => by cases h)⟩
 ·simp only [if_true];rw [Int.natAbs_neg, Int.natAbs_natCast];by_cases z : wn (rung x) = 0
  ·rw [z, Nat.zero_mul] at k1 k2 hv;rw [rI_zero] at k1 k2;rw [z, rI_zero, if_neg (by omega)];refine ⟨⟨fun k => ⟨trivial, by omega⟩, fun k => by have := k.2; omega⟩, (fun h => by cases h), fun _ => by omega⟩
  ·rw [if_pos (by omega)];refine ⟨⟨fun k => ⟨trivial, by omega⟩, fun k => by have := k.2; omega⟩, (fun h => by cases h), fun _ => by omega⟩
end
end Go.Proofs.YtombjgfajbhbbaaGreat
