/- Word, TakeWord and their references. -/
import Derived.Test.YtcmklbibehnloaaGreatB05
set_option maxRecDepth 100000
set_option maxHeartbeats 16000000
namespace Go.Proofs.YtcmklbibehnloaaGreat
open Go.RowKit
def part (ls : List (List Nat)) (k : Nat) : List (List Nat) := ls.take k ++ List.replicate (ls.length - k) []
theorem part_len {ls : List (List Nat)} {k : Nat} (h : k ≤ ls.length) : (part ls k).length = ls.length := by unfold part; simp; omega
theorem part_zero (ls : List (List Nat)) : part ls 0 = List.replicate ls.length [] := by simp [part]
theorem part_all (ls : List (List Nat)) : part ls ls.length = ls := by simp [part]
theorem part_set {ls : List (List Nat)} {k : Nat} (h : k < ls.length) : (part ls k).set k (bk ls k) = part ls (k + 1) := by
 have e : List.replicate (ls.length - k) ([] : List Nat) = [] :: List.replicate (ls.length - (k + 1)) [] := by
  rw [← List.replicate_succ]; congr 1; omega
 unfold part;rw [e, bk_at h, List.take_succ_eq_append_getElem h];rw [List.set_append_right _ _ (by simp; omega)];have hz : k - (ls.take k).length = 0 := by simp; omega
 rw [hz, List.set_cons_zero, List.append_assoc, List.singleton_append]
theorem make_rows {q : Nat} (hq : q ≤ 64) : ∀ wx : World, (Instr.makeSlice 46 (.int .i64 q) (.int .i64 q)).run Tryz.prog wx = .ok (.slice (some ⟨wx.heap.size, 0, none⟩) q q) (wx.alloc (.cells (madeCells #[.slice none 0 0] (q * 1)) 78)) := fun wx => by
 obtain ⟨i0, hi0, hz0, hz1, hz2⟩ := info_partsV info_row;have := run_make (P := Tryz.prog) wx 46 78 i0 (.slice none 0 0) Tryz.underlying46 hi0 hz0 .i64 .i64 q q (by omega) (Int.le_refl _) (by rw [hz2]; omega) (by omega);rw [hz1] at this;simp only [Int.toNat_natCast] at this;exact this
theorem made_at {q i : Nat} (hi : i < q) : (madeCells #[.slice none 0 0] (q * 1))[i]? = some (.slice none 0 0) := by simp [madeCells, hi, Nat.mod_one]
theorem bk_rep (q i : Nat) : bk (List.replicate q []) i = [] := by unfold bk; rw [List.getD_eq_getElem?_getD, List.getElem?_replicate]; split <;> rfl
theorem made_gr (E : Nat → Prop) (w : World) {q : Nat} (hq : q ≤ 64) {Z : Array Value} (hZ : Z = madeCells #[.slice none 0 0] (q * 1)) : Gr E (w.alloc (.cells Z 78)) w.heap.size q (List.replicate q []) := by
 subst hZ;refine ⟨⟨_, heap_alloc_new w _, by rw [size_madeCells]; omega, fun i hi => ?_⟩, by simp, by simp [maxLen]; omega⟩;rw [List.length_replicate] at hi;exact ⟨_, made_at hi, by rw [bk_rep]; exact Oc.nil _, fun x hx => by cases hx⟩
def CpRel (ls : List (List Nat)) (w : World) (iv : Value) (wr : World) : Prop :=
 ∃ k : Nat, k ≤ ls.length ∧ iv = .int .i64 k ∧ Gr (fun x => w.heap.size ≤ x) wr w.heap.size ls.length (part ls k) ∧ Below w.heap.size w wr
theorem cprel_start {ls : List (List Nat)} (w : World) (h : ls.length ≤ 64) {Z : Array Value} (hZ : Z = madeCells #[.slice none 0 0] (ls.length * 1)) : CpRel ls w (.int .i64 0) (w.alloc (.cells Z 78)) :=
 ⟨0, Nat.zero_le _, rfl, by rw [part_zero]; exact made_gr _ w h hZ, below_alloc w _⟩
theorem cprel_step {ls : List (List Nat)} {w wr wC : World} {k : Nat} {b : List Nat} {u : Value} (hb : bk ls k = b) (hk : k < ls.length) (hg : Gr (fun x => w.heap.size ≤ x) wr w.heap.size ls.length (part ls k)) (hB : Below w.heap.size w wr)
  (ho : wC.ownsRow wr.heap.size 5 1 u b.length (cb b)) (hC : Below wr.heap.size wr wC) : CpRel ls w (.int .i64 ((k : Int) + 1)) (wC.setCell ⟨w.heap.size, k, none⟩ u) := by
 refine ⟨k + 1, hk, rfl, ?_, (below_trans hB hC).setCell (p := ⟨w.heap.size, k, none⟩) (Nat.le_refl _) _⟩;rw [← part_set hk, hb];exact (hg.below hC).set (by rw [part_len (Nat.le_of_lt hk)]; exact hk) (own_base ho (Nat.zero_le _)) (fun x hx => Nat.le_trans hB.size (ho.lt x hx).1)
theorem copied_walk {w : World} {v : Value} {ls : List (List Nat)} (h : PvD w v ls) (h1 : 1 ≤ ls.length) (h64 : ls.length ≤ 64) (hb : ∀ b ∈ ls, b.length ≤ 1024) :
  Calls Tryz.prog 58 #[v] w fun e w' => ∃ g cap, e = .returned (.slice (some ⟨g, 0, none⟩) ls.length cap) ∧ Gr (fun x => w.heap.size ≤ x) w' g cap ls ∧ w.heap.size ≤ g ∧ Below w.heap.size w w' := by
 obtain ⟨ao, cap, rfl, q1, q2, q3, q4⟩ := h;obtain ⟨b, off, u, rfl, _, _⟩ := q4 0 (by omega)
 have HC : Hid (∀ i, i < ls.length → ∃ u, w.cell? ⟨b, off + i, none⟩ = some u ∧ Bv w u (bk ls i)) := fun i hi => by
  obtain ⟨b', off', u', e1, e2, e3⟩ := q4 i hi
  cases e1
  exact ⟨u', e2, e3⟩
 have HBL := hidH hb;have hmk := make_rows h64;obtain ⟨Z, hZ⟩ : ∃ Z, Z = madeCells #[.slice none 0 0] (ls.length * 1) := ⟨_, rfl⟩;rw [← hZ] at hmk;have HST : Hid (CpRel ls w (.int .i64 0) (w.alloc (.cells Z 78))) := cprel_start w h64 hZ;clear hZ q1 q2 q3 q4 hb h1;go_in;go_wp2_with fail;go_loopw [11] (fun iv wr => CpRel ls w iv wr) (fun iv _ => ls.length - (intOf iv).toNat)
 case atStart => exact HST.out
 case round =>
  obtain ⟨k, hk, rfl, hg, hbel⟩ := hrel;by_cases hlt : k < ls.length
  ·obtain ⟨u, hu, hbu⟩ := HC.out k hlt;obtain ⟨p, hp⟩ : ∃ p, bk ls k = p := ⟨_, rfl⟩;have hpl : p.length ≤ 1024 := by rw [← hp]; exact HBL.out _ (bk_mem hlt)
   rw [hp] at hbu;have HP : Hid (bk ls k = p) := hp;have HB : Hid (Bv wr u p) := hbu.below hbel;have HPL : Hid (p.length ≤ 1024) := hpl;have HG := hidH hg;have HBE := hidH hbel;obtain ⟨⟨a, c, rfl, _⟩, _⟩ := hbu;rw [ib_len] at HB hu;have hcell : wr.cell? ⟨b, off + k, none⟩ = some (.slice a p.length c) := by rw [hbel.cell (p := ⟨b, off + k, none⟩) (cell_lt hu)]; exact hu
   clear hp hu hpl hg hbel;go_wp2_with fail;refine (clone_walk HB.out (Nat.le_trans HPL.out (by omega))).mono ?_;rintro e wC ⟨v', rfl, ho, hC⟩;have R : Hid (CpRel ls w (.int .i64 ((k : Int) + 1)) (wC.setCell ⟨w.heap.size, k, none⟩ v')) := cprel_step HP.out hlt HG.out HBE.out ho hC;have hgC := HG.out.below hC;obtain ⟨u9, c9, _⟩ := hgC.at (i := k) (by rw [part_len (Nat.le_of_lt hlt)]; exact hlt);have f9 := hgC.soft k;obtain ⟨ao', cap', hv', _⟩ := row_form ho;subst hv';clear ho hC hgC;go_wp2_with fail;go_roundw
   case rel => exact R.out
   case measure => simp [intOf]; omega
  ·obtain rfl : k = ls.length := by omega
   have HG : Hid (Gr (fun x => w.heap.size ≤ x) wr w.heap.size ls.length ls) := by rw [part_all] at hg; exact hg
   clear hg;go_wp2_with fail;go_ret;exact ⟨_, _, rfl, HG.out, Nat.le_refl _, hbel⟩
section
def Rr (base : Nat) (w : World) (v : Value) (ls : List (List Nat)) : Prop :=
 ∃ us : List Value, w.ownsRow base 78 1 v ls.length us ∧ ∀ i u, us[i]? = some u → Oc w u (bk ls i) ∧ ∀ x, u.ownBlock = some x → base ≤ x
section

variable {base : Nat} {w w' : World} {v v' u : Value} {ls : List (List Nat)} {b : List Nat}

theorem Rr.block (h : Rr base w v ls) {g : Nat} (hg : v.ownBlock = some g) : ∃ cur, w.heap[g]? = some (.cells cur 78 (0, 0)) := by
 obtain ⟨us, h1, _⟩ := h;rcases h1.2 with ⟨rfl, _⟩ | ⟨g', cap, cur, rfl, hb, hh, r⟩
 ·cases hg
 ·simp [Value.ownBlock] at hg; subst hg; exact ⟨cur, hh⟩
theorem Rr.apart (h : Rr base w v ls) (hu : Oc w u b) {x : Nat} (hx : u.ownBlock = some x) : v.ownBlock ≠ some x := by
 intro hv;obtain ⟨c1, e1⟩ := h.block hv;obtain ⟨c2, e2⟩ := hu.block hx;rw [e1] at e2; simp at e2
theorem Rr.below (h : Rr base w v ls) (hb : Below w.heap.size w w') : Rr base w' v ls := by
 obtain ⟨us, h1, h2⟩ := h;exact ⟨us, own_below h1 hb, fun i u hu => ⟨(h2 i u hu).1.below hb, (h2 i u hu).2⟩⟩
theorem Rr.lt (h : Rr base w v ls) {g : Nat} (hg : v.ownBlock = some g) : base ≤ g ∧ g < w.heap.size := by
 obtain ⟨us, h1, _⟩ := h;exact h1.lt g hg
theorem bk_snoc {i : Nat} (b : List Nat) (hi : i < ls.length) : bk (ls ++ [b]) i = bk ls i := by
 rw [bk_at (by simp; omega), bk_at hi, List.getElem_append_left hi]
theorem bk_last (ls : List (List Nat)) (b : List Nat) : bk (ls ++ [b]) ls.length = b := by rw [bk_at (by simp)]; simp
theorem Rr.snoc {us : List Value} (hs : ∀ i u, us[i]? = some u → Oc w u (bk ls i) ∧ ∀ x, u.ownBlock = some x → base ≤ x) (hown : w.ownsRow base 78 1 v ls.length us) (hown' : w'.ownsRow base 78 1 v' (ls.length + 1) (us ++ [u])) (hg : w.grownBy w' v.ownBlock)
  (hu : Oc w u b) (hub : ∀ x, u.ownBlock = some x → base ≤ x) : Rr base w' v' (ls ++ [b]) := by
 have hl : us.length = ls.length := by have := hown.1; simpa using this
 have ap := fun {u : Value} {b : List Nat} (hu : Oc w u b) (x : Nat) (hx : u.ownBlock = some x) => Rr.apart (base := base) (ls := ls) ⟨us, hown, hs⟩ hu hx;have kp : ∀ {u : Value} {b : List Nat}, Oc w u b → Oc w' u b := fun hu => hu.keep (fun x hx => hg.block x (hu.lt x hx).2 (fun e => ap hu x hx e.symm));refine ⟨us ++ [u], by rw [List.length_append]; exact hown', fun i y hy => ?_⟩;by_cases hi : i < us.length
 ·rw [List.getElem?_append_left hi] at hy;obtain ⟨a, c⟩ := hs i y hy;rw [bk_snoc b (by omega)];exact ⟨kp a, c⟩
 ·have hi2 : i = us.length := by
   have : i < (us ++ [u]).length := by
    rcases Nat.lt_or_ge i (us ++ [u]).length with h | h
    ·exact h
    ·rw [List.getElem?_eq_none h] at hy; cases hy
   simp at this; omega
  subst hi2;rw [List.getElem?_append_right (Nat.le_refl _)] at hy;simp at hy;subst hy;rw [hl, bk_last];exact ⟨kp hu, hub⟩
theorem Rr.gr (h : Rr base w v ls) (h1 : 1 ≤ ls.length) : ∃ g cap, v = .slice (some ⟨g, 0, none⟩) ls.length cap ∧ base ≤ g ∧ Gr (fun x => base ≤ x) w g cap ls := by
 obtain ⟨us, ho, hs⟩ := h;have hl : us.length = ls.length := by have := ho.1; simpa using this
 rcases ho.2 with ⟨rfl, h0⟩ | ⟨g, cap, cur, rfl, hb, hg, hnc, hcm, hcs, htake⟩
 ·omega
 ·refine ⟨g, cap, rfl, hb, ⟨cur, hg, by omega, fun i hi => ?_⟩, hnc, hcm⟩;obtain ⟨u, hu⟩ : ∃ u, us[i]? = some u := ⟨_, List.getElem?_eq_getElem (by omega)⟩;obtain ⟨a, c⟩ := hs i u hu;refine ⟨u, ?_, a, c⟩;have e := congrArg (fun l => l[i]?) htake;simp only [List.getElem?_take, Nat.mul_one, if_pos hi] at e;rw [← Array.getElem?_toList, e]; exact hu
end

theorem wpList_append_row {P : Program} {w : World} {ops : Array Oper} {rest : List Oper} {o : Oper} {a : Act} {Q : Exit → Act → World → Prop} (hgd : o.guard = none) (s x : Operand) (t : TypeId)
  (ho : o.op = .call { callee := .builtin .append, args := #[s, x], argTypes := #[t, t] })
  (base : Nat) (ht : P.underlying t = some (.slice 78)) (hinf : (P.info? 78).map (fun i => (i.zero, i.size, i.bytes)) = some (some (.slice none 0 0), 1, 24))
  (v : Value) (ls : List (List Nat)) (hs : a.eval s = v) (hown : Rr base w v ls)
  (g : Nat) (u : Value) (b : List Nat) (hx : a.eval x = .slice (some ⟨g, 0, none⟩) 1 1) (hc : w.cell? ⟨g, 0, none⟩ = some u) (hu : Oc w u b) (hub : ∀ x, u.ownBlock = some x → base ≤ x) (h63 : (ls.length + 1) * 24 ≤ 140737488355328) (hbase : base ≤ w.heap.size)
  (h : ∀ v' w', Rr base w' v' (ls ++ [b]) → w.grownBy w' v.ownBlock → wpList P ops Q rest (a.put o.dst v') w') : wpList P ops Q (o :: rest) a w := by
 obtain ⟨i0, hi, hz0, hz1, hz2⟩ := info_partsV hinf;obtain ⟨us, hro, hse⟩ := hown;obtain ⟨ao, cap, hform, _⟩ := row_form hu;refine wpList_append_own w hgd s x t ho base 78 i0 (.slice none 0 0) 1 24 ht hi hz0 hz1 hz2 rfl (by decide) v ls.length us hs hro ⟨g, 0, none⟩ 1 1 [u] hx (by simp) ?_ ?_ (by simp only [maxLen]; omega) h63 hbase (fun v' w' h1 h2 _ => h v' w' (Rr.snoc hse hro h1 h2 hu hub) h2)
 ·intro j y hj
  cases j with
  | zero => simp at hj; subst hj; simpa [WideShapes.add_plain] using hc
  | succ j => simp at hj
 ·intro y hy;simp at hy;subst hy;rw [hform]; rfl
def RcRel (ls : List (List Nat)) (w : World) (v iv : Value) (wr : World) : Prop :=
 ∃ k : Nat, k ≤ ls.length ∧ iv = .int .i64 k ∧ Rr w.heap.size wr v (ls.take k) ∧ Below w.heap.size w wr
theorem rcrel_start (ls : List (List Nat)) (w : World) : RcRel ls w (.slice (some ⟨w.heap.size, 0, none⟩) 0 0) (.int .i64 0) (w.alloc (.cells #[] 78)) :=
 ⟨0, Nat.zero_le _, rfl, ⟨[], by rw [List.take_zero]; exact World.ownsRow_made w #[] 0 (Nat.le_refl _) (by simp [maxLen]) rfl, fun i u h => by simp at h⟩, below_alloc w _⟩
theorem take_snoc {ls : List (List Nat)} {k : Nat} (h : k < ls.length) : ls.take k ++ [bk ls k] = ls.take (k + 1) := by rw [bk_at h, List.take_succ_eq_append_getElem h]
theorem Rr.grownB {base B : Nat} {w w' : World} {v : Value} {ls : List (List Nat)} (h : Rr base w v ls) (hg : w.grownBy w' v.ownBlock) (hB : B ≤ w.heap.size) (hb : B ≤ base) : Below B w w' :=
 (Below.refl B w).grown hg hB (fun _ hk => Nat.le_trans hb (h.lt hk).1)
theorem rcopies_walk {w : World} {v : Value} {ls : List (List Nat)} (h : PvD w v ls) (h1 : 1 ≤ ls.length) (h64 : ls.length ≤ 64) (hb : ∀ b ∈ ls, b.length ≤ 1024) :
  Calls Tryz.prog 59 #[v] w fun e w' => ∃ g cap, e = .returned (.slice (some ⟨g, 0, none⟩) ls.length cap) ∧ Gr (fun x => w.heap.size ≤ x) w' g cap ls ∧ w.heap.size ≤ g ∧ Below w.heap.size w w' := by
 obtain ⟨ao, cap, rfl, q1, q2, q3, q4⟩ := h;obtain ⟨b, off, u, rfl, _, _⟩ := q4 0 (by omega)
 have HC : Hid (∀ i, i < ls.length → ∃ u, w.cell? ⟨b, off + i, none⟩ = some u ∧ Bv w u (bk ls i)) := fun i hi => by
  obtain ⟨b', off', u', e1, e2, e3⟩ := q4 i hi
  cases e1
  exact ⟨u', e2, e3⟩
 have HBL := hidH hb;have HST : Hid (RcRel ls w (.slice (some ⟨w.heap.size, 0, none⟩) 0 0) (.int .i64 0) (w.alloc (.cells #[] 78))) := rcrel_start ls w;have H1 : Hid (1 ≤ ls.length) := h1;clear q1 q2 q3 q4 hb h1;go_in;go_wp2_with fail;go_loopw [3, 4] (fun v iv wr => RcRel ls w v iv wr) (fun _ iv _ => ls.length - (intOf iv).toNat)
 case atStart => exact HST.out
 case round =>
  obtain ⟨k, hk, rfl, hrr, hbel⟩ := hrel;by_cases hlt : k < ls.length
  ·obtain ⟨u, hu, hbu⟩ := HC.out k hlt;obtain ⟨p, hp⟩ : ∃ p, bk ls k = p := ⟨_, rfl⟩;have hpl : p.length ≤ 1024 := by rw [← hp]; exact HBL.out _ (bk_mem hlt)
   rw [hp] at hbu;have HP : Hid (bk ls k = p) := hp;have HB : Hid (Bv wr u p) := hbu.below hbel;have HPL : Hid (p.length ≤ 1024) := hpl;have HRR := hidH hrr;have HBE := hidH hbel;obtain ⟨⟨a, c, rfl, _⟩, _⟩ := hbu;rw [ib_len] at HB hu;have hcell : wr.cell? ⟨b, off + k, none⟩ = some (.slice a p.length c) := by rw [hbel.cell (p := ⟨b, off + k, none⟩) (cell_lt hu)]; exact hu
   clear hp hu hpl hrr hbel;go_wp2_with fail;refine (rclone_walk HB.out (Nat.le_trans HPL.out (by omega))).mono ?_;rintro e wC ⟨v', rfl, ho, hC⟩;have HO : Hid (Oc (wC.alloc (.cells #[v'] 78)) v' p) := Oc.below (own_base ho (Nat.zero_le _)) (below_alloc _ _);have HOB : Hid (∀ x, v'.ownBlock = some x → w.heap.size ≤ x) := fun x hx => Nat.le_trans HBE.out.size (ho.lt x hx).1;have HR2 : Hid (Rr w.heap.size (wC.alloc (.cells #[v'] 78)) u3 (ls.take k)) := (HRR.out.below hC).below (below_alloc _ _);have HB2 : Hid (Below w.heap.size w (wC.alloc (.cells #[v'] 78))) := below_trans (below_trans HBE.out hC) (below_alloc _ _);obtain ⟨ao', cap', hv', _⟩ := row_form ho;subst hv';have HCL : Hid ((wC.alloc (.cells #[.slice ao' p.length cap'] 78)).cell? ⟨wC.heap.size, 0, none⟩ = some (.slice ao' p.length cap')) := by show _ = _; simp [go_sem]
   have HLN : Hid (((ls.take k).length + 1) * 24 ≤ 140737488355328) := by show _ ≤ _; simp; omega
   clear ho hC;go_wp2_with (at_builtin; refine wpList_append_row (by rfl) _ _ 46 (by rfl) w.heap.size Tryz.underlying46 info_row _ (ls.take k) (by rfl) HR2.out _ _ p (by rfl) HCL.out HO.out HOB.out HLN.out HB2.out.size ?_; intro v9 w9 hr9 hg9; go_frame)
   have HR : Hid (RcRel ls w v9 (.int .i64 ((k : Int) + 1)) w9) := by
    refine ⟨k + 1, hlt, rfl, ?_, HB2.out.trans (HR2.out.grownB hg9 HB2.out.size (Nat.le_refl _))⟩;rw [← take_snoc hlt, HP.out]; exact hr9
   clear hr9 hg9;go_wp2_with fail;go_roundw
   case rel => exact HR.out
   case measure => simp [intOf]; omega
  ·obtain rfl : k = ls.length := by omega
   have HRR : Hid (Rr w.heap.size wr u3 ls) := by rw [List.take_length] at hrr; exact hrr
   obtain ⟨g, cap2, hform, hge, hgr⟩ := HRR.out.gr H1.out;subst hform;have HGE : Hid (w.heap.size ≤ g) := hge;clear hrr hge;go_wp2_with fail;go_ret;exact ⟨_, _, rfl, hgr, HGE.out, hbel⟩
end
theorem str_of {w : World} {v : Value} {l : List Nat} (h : Bv w v l) : (convert 78 9 v).run Tryz.prog w = .ok (.string (str l)) w :=
 h.str 78 5 9 Tryz.underlying78 Tryz.underlying5 Tryz.underlying9
theorem str_ne {a b : List Nat} (ha : ∀ c ∈ a, c < 256) (hb : ∀ c ∈ b, c < 256) (h : a ≠ b) : str a ≠ str b := fun e => h (str_inj ha hb e)
theorem str_beq {a b : List Nat} (ha : ∀ c ∈ a, c < 256) (hb : ∀ c ∈ b, c < 256) : ((str a).toList == (str b).toList) = decide (a = b) := by
 rw [ByteArray.toList_eq, ByteArray.toList_eq];by_cases h : a = b
 ·subst h; simp
 ·rw [decide_eq_false h, beq_eq_false_iff_ne];exact fun e => str_ne ha hb h (ByteArray.ext (Array.toList_inj.mp e))
section
structure Dk where
 bl : List (List Nat)
 down : Bool
 left : Int
 rd : Nat
 wr : Nat
structure Dk.ok (S : Dk) : Prop where
 n1 : 1 ≤ S.bl.length
 n64 : S.bl.length ≤ 64
 len : ∀ b ∈ S.bl, b.length ≤ 1024
 byt : ∀ b ∈ S.bl, ∀ c ∈ b, c < 256
 l0 : -1 ≤ S.left
 l1 : S.left < 9223372036854775808
def hd (gp cap : Nat) (S : Dk) : Array Value := #[.slice (some ⟨gp, 0, none⟩) S.bl.length cap, .bool S.down, .int .i64 S.left, .int .i64 S.rd, .int .i64 S.wr]
structure DM (T : TypeId) (D : Nat → Prop) (w : World) (sb gp cap : Nat) (S : Dk) : Prop where
 head : w.heap[sb]? = some (.cells (hd gp cap S) T (0, 0))
 row : Gr (fun x => D x ∧ x ≠ sb) w gp cap S.bl
 a1 : gp ≠ sb
 d1 : D sb
 d2 : D gp
 dl : ∀ x, D x → x < w.heap.size
def Dsk (T : TypeId) (D : Nat → Prop) (w : World) (v : Value) (S : Dk) : Prop := ∃ sb gp cap, v = .pointer (some ⟨sb, 0, none⟩) ∧ DM T D w sb gp cap S ∧ S.ok
section

variable {T : TypeId} {D : Nat → Prop} {w w' : World} {v : Value} {sb gp cap : Nat} {S : Dk}

theorem DM.keep (h : DM T D w sb gp cap S) (hk : ∀ x, D x → w'.heap[x]? = w.heap[x]?) (hs : w.heap.size ≤ w'.heap.size) : DM T D w' sb gp cap S :=
 ⟨by rw [hk _ h.d1]; exact h.head, h.row.keep (hk _ h.d2) (fun x hx _ _ => hk x hx.1), h.a1, h.d1, h.d2, fun x hx => Nat.lt_of_lt_of_le (h.dl x hx) hs⟩
theorem Dsk.keep (h : Dsk T D w v S) (hk : ∀ x, D x → w'.heap[x]? = w.heap[x]?) (hs : w.heap.size ≤ w'.heap.size) : Dsk T D w' v S := by
 obtain ⟨sb, gp, cap, e, h1, h2⟩ := h;exact ⟨sb, gp, cap, e, h1.keep hk hs, h2⟩
theorem Dsk.lt (h : Dsk T D w v S) {x : Nat} (hx : D x) : x < w.heap.size := by
 obtain ⟨sb, gp, cap, e, h1, h2⟩ := h;exact h1.dl x hx
theorem Dsk.good (h : Dsk T D w v S) : S.ok := by
 obtain ⟨sb, gp, cap, e, h1, h2⟩ := h;exact h2
theorem DM.below (h : DM T D w sb gp cap S) (hb : Below w.heap.size w w') : DM T D w' sb gp cap S := h.keep (fun x hx => hb.block x (h.dl x hx)) hb.size
theorem Dsk.below (h : Dsk T D w v S) (hb : Below w.heap.size w w') : Dsk T D w' v S := h.keep (fun x hx => hb.block x (h.lt hx)) hb.size
theorem Dsk.ch {E : Nat → Prop} (h : Dsk T D w v S) (hc : Ch E w w') (hE : ∀ x, D x → ¬ E x) : Dsk T D w' v S := h.keep (fun x hx => hc.block x (h.lt hx) (hE x hx)) hc.size
theorem DM.cell (h : DM T D w sb gp cap S) (i : Nat) : w.cell? ⟨sb, i, none⟩ = (hd gp cap S)[i]? := cell_of_row w sb i _ _ (0, 0) h.head
theorem DM.c0 (h : DM T D w sb gp cap S) : w.cell? ⟨sb, 0, none⟩ = some (.slice (some ⟨gp, 0, none⟩) S.bl.length cap) := by rw [h.cell]; rfl
theorem DM.c1 (h : DM T D w sb gp cap S) : w.cell? ⟨sb, 1, none⟩ = some (.bool S.down) := by rw [h.cell]; rfl
theorem DM.c2 (h : DM T D w sb gp cap S) : w.cell? ⟨sb, 2, none⟩ = some (.int .i64 S.left) := by rw [h.cell]; rfl
theorem DM.c3 (h : DM T D w sb gp cap S) : w.cell? ⟨sb, 3, none⟩ = some (.int .i64 S.rd) := by rw [h.cell]; rfl
theorem DM.c4 (h : DM T D w sb gp cap S) : w.cell? ⟨sb, 4, none⟩ = some (.int .i64 S.wr) := by rw [h.cell]; rfl
theorem DM.soft (h : DM T D w sb gp cap S) (i : Nat) : w.frozen? ⟨sb, i, none⟩ = false := by simp [World.frozen?, h.head]
theorem DM.put (h : DM T D w sb gp cap S) (i : Nat) (u : Value) {S' : Dk} (hb : S'.bl = S.bl) (hc : (hd gp cap S).setIfInBounds i u = hd gp cap S') : DM T D (w.setCell ⟨sb, i, none⟩ u) sb gp cap S' := by
 refine ⟨by rw [set_row h.head, hc], ?_, h.a1, h.d1, h.d2, fun x hx => by have := h.dl x hx; simpa [go_sem] using this⟩;rw [hb];exact h.row.keep (set_other i u h.a1) (fun x hx _ _ => set_other i u hx.2)
theorem ch_put (i : Nat) (u : Value) (hd : D sb) : Ch D w (w.setCell ⟨sb, i, none⟩ u) := Ch.of_grown (grown_set w sb i u) (fun x hx => by cases hx; exact hd)
theorem Ch.self {w1 w2 w3 : World} (h : Ch D w1 w2) (k : Ch D w2 w3) : Ch D w1 w3 := h.trans k (fun _ hx => .inl hx)
end

def refI (S : Dk) (i : Int) : Int := if S.down = true then 80 else if i < 0 ∨ (S.bl.length : Int) ≤ i then 81 else 0
def readL (S : Dk) (i : Int) : List Nat := if refI S i = 0 then bk S.bl i.toNat else []
def readS (S : Dk) (i : Int) : Dk := if refI S i = 0 then { S with rd := S.rd + 1 } else S
def offS (S : Dk) : Dk := { S with down := true, left := -1 }
def onS (S : Dk) : Dk := { S with down := false, left := -1 }
def decL (x : Int) : Int := if x = -1 then -1 else x - 1
def putS (S : Dk) (i : Nat) (b : List Nat) : Dk := { S with bl := S.bl.set i b, left := decL S.left, wr := S.wr + 1 }
def writeI (S : Dk) (i : Int) (b : List Nat) : Int := if refI S i ≠ 0 then refI S i else if 1024 < b.length then 6 else if S.left = 0 then 80 else 0
def writeS (S : Dk) (i : Int) (b : List Nat) : Dk := if refI S i ≠ 0 then S else if 1024 < b.length then S else if S.left = 0 then offS S else putS S i.toNat b
theorem ref_ok {S : Dk} {i : Int} (h : refI S i = 0) : S.down = false ∧ ∃ k : Nat, i = k ∧ k < S.bl.length := by
 unfold refI at h
 split at h
 ·omega
 ·rename_i hd
  split at h
  ·omega
  ·rename_i hi
   exact ⟨by simpa using hd, i.toNat, by omega, by omega⟩
theorem ok_off {S : Dk} (h : S.ok) : (offS S).ok := ⟨h.n1, h.n64, h.len, h.byt, Int.le_refl _, by show (-1 : Int) < _; omega⟩
theorem ok_rd {S : Dk} (h : S.ok) (n : Nat) : ({ S with rd := n } : Dk).ok := ⟨h.n1, h.n64, h.len, h.byt, h.l0, h.l1⟩
theorem ok_read {S : Dk} (h : S.ok) (i : Int) : (readS S i).ok := by unfold readS; split; exact ok_rd h _; exact h
theorem ok_putD {S : Dk} (h : S.ok) (i : Nat) {b : List Nat} (hb : b.length ≤ 1024) (hc : ∀ c ∈ b, c < 256) : (putS S i b).ok := by
 refine ⟨by simpa [putS] using h.n1, by simpa [putS] using h.n64, ?_, ?_, ?_, ?_⟩
 ·intro x hx;rcases List.mem_or_eq_of_mem_set hx with h1 | h1
  ·exact h.len x h1
  ·rw [h1]; exact hb
 ·intro x hx;rcases List.mem_or_eq_of_mem_set hx with h1 | h1
  ·exact h.byt x h1
  ·rw [h1]; exact hc
 ·have := h.l0;show -1 ≤ decL S.left;unfold decL; split <;> omega
 ·have := h.l1;show decL S.left < _;unfold decL; split <;> omega
section

variable {T : TypeId} {D : Nat → Prop} {w w' : World} {v : Value} {sb gp cap : Nat} {S : Dk}

theorem refuses_walk (h : DM T D w sb gp cap S) (hok : S.ok) (i : Int) : Calls Tryz.prog 161 #[.pointer (some ⟨sb, 0, none⟩), .int .i64 i] w fun e w' => e = .returned (.int .i64 (refI S i)) ∧ w' = w := by
 have c0 := h.c0;have c1 := h.c1;have h64 := hok.n64;clear h hok
 cases hd : S.down
 ·rw [hd] at c1;by_cases h0 : i < 0
  ·have HL : Hid (refI S i = 81) := by show _ = _; unfold refI; rw [hd, if_neg (by simp), if_pos (.inl h0)]
   rw [HL.out];clear hd;go_in;go_wp2_with fail;go_ret;exact ⟨rfl, rfl⟩
  ·by_cases h1 : (S.bl.length : Int) ≤ i
   ·have HL : Hid (refI S i = 81) := by show _ = _; unfold refI; rw [hd, if_neg (by simp), if_pos (.inr h1)]
    rw [HL.out];clear hd;go_in;go_wp2_with fail;go_ret;exact ⟨rfl, rfl⟩
   ·have HL : Hid (refI S i = 0) := by show _ = _; unfold refI; rw [hd, if_neg (by simp), if_neg (by omega)]
    rw [HL.out];clear hd;go_in;go_wp2_with fail;go_ret;exact ⟨rfl, rfl⟩
 ·rw [hd] at c1;have HL : Hid (refI S i = 80) := by show _ = _; unfold refI; rw [hd, if_pos rfl]
  rw [HL.out];clear hd;go_in;go_wp2_with fail;go_ret;exact ⟨rfl, rfl⟩
theorem off_walk (h : Dsk T D w v S) : Calls Tryz.prog 13 #[v] w fun e w' => e = .returned (.tuple #[]) ∧ Dsk T D w' v (offS S) ∧ Ch D w w' := by
 obtain ⟨sb, gp, cap, rfl, h, hok⟩ := h;have HM := hidH h;have HK : Hid S.ok := hok;have c1 := h.c1;have c2 := h.c2;have f1 := h.soft 1;have f2 := h.soft 2;clear h hok;go_in;go_wp2_with fail;refine bodyPost_end (results_none rfl _ _ _) rfl ?_;exact ⟨rfl, ⟨sb, gp, cap, rfl, (HM.out.put 1 (.bool true) (S' := { S with down := true }) rfl rfl).put 2 (.int .i64 (-1)) rfl rfl, ok_off HK.out⟩, (ch_put _ _ HM.out.d1).self (ch_put _ _ HM.out.d1)⟩
theorem down_walk (h : Dsk T D w v S) : Calls Tryz.prog 93 #[v] w fun e w' => e = .returned (.bool S.down) ∧ w' = w := by
 obtain ⟨sb, gp, cap, rfl, h, hok⟩ := h;have c1 := h.c1;clear h hok;go_in;go_wp2_with fail;go_ret;exact ⟨rfl, rfl⟩
theorem blocks_walk (h : Dsk T D w v S) : Calls Tryz.prog 83 #[v] w fun e w' => e = .returned (.int .i64 S.bl.length) ∧ w' = w := by
 obtain ⟨sb, gp, cap, rfl, h, hok⟩ := h;have c0 := h.c0;clear h hok;go_in;go_wp2_with fail;go_ret;exact ⟨rfl, rfl⟩
theorem image_walk (h : Dsk T D w v S) : Calls Tryz.prog 22 #[v] w fun e w' => ∃ g cap, e = .returned (.slice (some ⟨g, 0, none⟩) S.bl.length cap) ∧ Gr (fun x => w.heap.size ≤ x) w' g cap S.bl ∧ w.heap.size ≤ g ∧ Below w.heap.size w w' := by
 obtain ⟨sb, gp, cap, rfl, h, hok⟩ := h;have c0 := h.c0;have HP : Hid (PvD w (.slice (some ⟨gp, 0, none⟩) S.bl.length cap) S.bl) := h.row.pv hok.byt;have HK : Hid S.ok := hok;clear h hok;go_in;go_wp2_with fail;refine (copied_walk HP.out HK.out.n1 HK.out.n64 HK.out.len).mono ?_;rintro e w1 ⟨g, cap1, rfl, hG, hge, hB⟩;have HG := hidH hG;have HGE : Hid (w.heap.size ≤ g) := hge;clear hG hge;go_wp2_with fail;go_ret;exact ⟨g, cap1, rfl, HG.out, HGE.out, hB⟩
end
end
theorem wdF_get (n x k : Nat) (hk : k < n) : (Wm.wdF n x)[k]? = some (x / 256 ^ k % 256) := by
 induction n generalizing x k with
 | zero => omega
 | succ n ih =>
  cases k with
  | zero => simp [Wm.wdF]
  | succ k =>
   simp only [Wm.wdF, List.getElem?_cons_succ];rw [ih (x / 256) k (by omega), Nat.div_div_eq_div_mul, Nat.pow_succ, Nat.mul_comm 256]
def wpre (x k : Nat) : List Nat := (Wm.wd x).take k ++ List.replicate (8 - k) 0
theorem wpre_len (x k : Nat) (hk : k ≤ 8) : (wpre x k).length = 8 := by
 unfold wpre; rw [List.length_append, List.length_take, List.length_replicate, Wm.wd_len]; omega
theorem wpre_zero (x : Nat) : wpre x 0 = List.replicate 8 0 := by simp [wpre]
theorem wpre_all (x : Nat) : wpre x 8 = Wm.wd x := by
 unfold wpre; rw [List.take_of_length_le (by rw [Wm.wd_len]; omega)]; simp
theorem wpre_set (x k : Nat) (hk : k < 8) : (wpre x k).set k (x / 256 ^ k % 256) = wpre x (k + 1) := by
 have hw := wdF_get 8 x k hk;have hl : k < (Wm.wd x).length := by rw [Wm.wd_len]; exact hk
 have hget : (Wm.wd x)[k] = x / 256 ^ k % 256 := by
  have : (Wm.wd x)[k]? = some (x / 256 ^ k % 256) := hw;rw [List.getElem?_eq_getElem hl] at this;exact Option.some.inj this
 unfold wpre
 rw [List.set_append_right _ _ (by rw [List.length_take, Wm.wd_len]; omega), List.length_take, Wm.wd_len,
  show k - min k 8 = 0 by omega, show 8 - k = (8 - (k + 1)) + 1 by omega, List.replicate_succ, List.set_cons_zero,
  List.take_succ_eq_append_getElem hl, hget, List.append_assoc]
 rfl
def WordRel (x H : Nat) (w : World) (iv : Value) (wr : World) : Prop :=
 ∃ k : Nat, k ≤ 8 ∧ iv = .int .i64 k ∧ wr.ownsRow H 5 1 (.slice (some ⟨H, 0, none⟩) 8 8) 8 ((ib (wpre x k)).map (Value.int .u8)) ∧ Below H w wr
theorem pow256 (i : Nat) : (2 : Nat) ^ (8 * i) = 256 ^ i := by rw [Nat.pow_mul]
theorem wordrel_step {x H k : Nat} {w wr : World} (hk : k < 8) (hbel : Below H w wr)
  (hown : wr.ownsRow H 5 1 (.slice (some ⟨H, 0, none⟩) 8 8) 8 ((ib (wpre x k)).map (Value.int .u8))) :
  WordRel x H w (.int .i64 ((k : Int) + 1)) (wr.setCell ⟨H, k, none⟩ (.int .u8 ((x : Int) / 2 ^ (8 * k) % 256))) := by
 have hs := hown.stored k (.int .u8 ((x : Int) / 2 ^ (8 * k) % 256));refine ⟨k + 1, hk, rfl, ?_, hbel.setCell (Nat.le_refl _) _⟩
 have e : ((x : Int) / 2 ^ (8 * k) % 256) = ((x / 256 ^ k % 256 : Nat) : Int) := by
  rw [← pow256, Int.natCast_emod, Int.natCast_ediv, Int.natCast_pow]; rfl
 have e2 : ((ib (wpre x k)).map (Value.int .u8)).set k (.int .u8 ((x : Int) / 2 ^ (8 * k) % 256)) = (ib (wpre x (k + 1))).map (Value.int .u8) := by
  rw [← wpre_set x k hk, e];simp [ib, List.map_set]
 rw [← e2];exact hs.1
theorem wordrel_start {x : Nat} {w w1 : World} (hown : w1.ownsRow w.heap.size 5 1 (.slice (some ⟨w.heap.size, 0, none⟩) 8 8) 8 (madeCells (Value.int .u8 0).cells (8 * 1)).toList) (hg : w.grownBy w1 none) :
  WordRel x w.heap.size w (.int .i64 0) w1 := by
 refine ⟨0, by omega, rfl, ?_, (Below.refl _ _).grown hg (Nat.le_refl _) (by simp)⟩;rw [wpre_zero]
 have e : (madeCells (Value.int .u8 0).cells (8 * 1)).toList = (ib (List.replicate 8 0)).map (Value.int .u8) := by
  show (madeCells #[Value.int .u8 0] 8).toList = _;rw [toList_madeCells_one]; simp [ib]
 rw [← e];exact hown
theorem word_walk (x : Nat) (w : World) :
  Calls Tryz.prog 236 #[.int .u64 x] w fun e w' => ∃ v, e = .returned v ∧ w'.ownsRow w.heap.size 5 1 v 8 ((ib (Wm.wd x)).map (Value.int .u8)) ∧ Below w.heap.size w w' := by
 obtain ⟨i0, hi, hz0, hz1, hz2⟩ := info_parts info_u8;go_in;go_wp2_with (at_make; refine wpList_make_full _ (by rfl) _ _ 78 (by rfl) w.heap.size 5 i0 (.int .u8 0) 1 Tryz.underlying78 hi hz0 hz1 .i64 .i64 8 8 8 (by rfl) (by rfl) rfl rfl (by rw [hz2]; decide) (by simp [maxLen]) (Nat.le_refl _) ?_; intro w1 hown hgrow);have HST : Hid (WordRel x w.heap.size w (.int .i64 0) w1) := wordrel_start hown hgrow;clear hown hgrow hi hz0 hz1 hz2;go_loopw [8] (fun iv wr => WordRel x w.heap.size w iv wr) (fun iv _ => 8 - (intOf iv).toNat)
 case atStart => exact HST.out
 case round =>
  obtain ⟨k, hk, rfl, hown, hbel⟩ := hrel;have HO := hidH hown;by_cases hlt : (k : Int) < 8
  ·have hq : wr.cell? ⟨w.heap.size, k, none⟩ = ((ib (wpre x k)).map (Value.int .u8))[k]? := hown.cellAt k (by omega);have hfr := hown.frozenAt k;have hk8 : k < ((ib (wpre x k)).map (Value.int .u8)).length := by rw [List.length_map, ib_len, wpre_len x k hk]; omega
   rw [List.getElem?_eq_getElem hk8] at hq;obtain ⟨q, hq'⟩ : ∃ q, wr.cell? ⟨w.heap.size, k, none⟩ = some q := ⟨_, hq⟩;have R : Hid (WordRel x w.heap.size w (.int .i64 ((k : Int) + 1)) (wr.setCell ⟨w.heap.size, k, none⟩ (.int .u8 ((x : Int) / 2 ^ (8 * k) % 256)))) := wordrel_step (by omega) hbel hown;clear hq hk8 hown;go_wp2;go_roundw
   case rel => exact R.out
   case measure => simp [intOf]; omega
  ·obtain rfl : k = 8 := by omega
   clear hown;go_wp2;go_ret;exact ⟨_, rfl, by have := HO.out; rwa [wpre_all] at this, hbel⟩
end Go.Proofs.YtcmklbibehnloaaGreat
