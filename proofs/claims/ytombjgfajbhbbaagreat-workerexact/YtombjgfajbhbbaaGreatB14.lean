/- Slices of ints as lists; rows of ints that a call itself makes, and that are written into; slices.Clone. -/
import Derived.Test.YtombjgfajbhbbaaGreatB13
set_option maxRecDepth 100000
set_option maxHeartbeats 16000000
namespace Go.Proofs.YtombjgfajbhbbaaGreat
open Go.RowKit
section
open Ieee Go.RowKit

def newS (n : Nat) (l : List Stp) : Sc := ⟨l, n, fun _ => [], fun p => decide (p < n), []⟩
theorem ok_new {n : Nat} {l : List Stp} (h1 : 1 ≤ n) (h4 : n ≤ 4) (hc : checkB l = true) (hl : ∀ o ∈ l, o.ok) : (newS n l).ok :=
 ⟨h1, h4, hc, hl, fun _ => by simp [newS], fun _ r hr => by simp [newS] at hr, by simp [newS], by simp [newS, RiseK], fun k hk => by simp [newS] at hk, fun k => by simp [newS]⟩
theorem new_arg {lv : Value} {parts : Int} {w : World} (hp : parts < 1 ∨ 4 < parts) :
  Calls Tryz.prog 7 #[.int .i64 parts, lv] w fun e w' => e = .returned (.tuple #[.pointer none, .int .i64 1]) ∧ w' = w := by
 by_cases h1 : parts < 1
 ·clear hp;go_in;go_wp2_with fail;go_ret2;exact ⟨rfl, rfl⟩
 ·have h4 : 4 < parts := by omega
  clear hp;go_in;go_wp2_with fail;go_ret2;exact ⟨rfl, rfl⟩
theorem new_ops {lv : Value} {parts : Int} {l : List Stp} {w : World} (h1 : 1 ≤ parts) (h4 : parts ≤ 4) (ho : Ov w lv l) (hc : checkB l = false) :
  Calls Tryz.prog 7 #[.int .i64 parts, lv] w fun e w' => e = .returned (.tuple #[.pointer none, .int .i64 30]) ∧ Below w.heap.size w w' := by
 obtain ⟨⟨ao, cap, rfl, g1, g2, g3, g4⟩, g5⟩ := ho;have HO : Hid (Ol w ao l) := g4;have HL : Hid (l.length ≤ maxLen) := Nat.le_trans g1 g2;have HC : Hid (chkI l = 30) := by show _ = _; unfold chkI; rw [hc]; rfl
 clear g1 g2 g3 g4 g5 hc;go_in;go_wp2_with fail;refine (check_walk HL.out HO.out).mono ?_;rw [HC.out];rintro e w1 ⟨rfl, hB⟩;go_wp2_with fail;go_ret2;exact ⟨rfl, hB⟩
def Nw (w1 : World) (l : List Stp) (n : Nat) (Z : Array Value) (sb : Nat) (wx : World) : Prop :=
 ∃ gp gm lv, wx.heap[sb]? = some (.cells #[lv, .slice (some ⟨gp, 0, none⟩) n n, .map (some gm)] 84 (0, 0)) ∧ wx.heap[gp]? = some (.cells Z 87 (0, 0)) ∧ Ks wx gm [] ∧
  wx.ownsRow w1.heap.size 80 3 lv l.length (flat l) ∧ Below w1.heap.size w1 wx ∧ w1.heap.size ≤ gp ∧ w1.heap.size ≤ gm ∧ w1.heap.size ≤ sb
theorem nw_end {w1 wz : World} {l : List Stp} {n m gp gm sb base : Nat} {Z : Array Value} {lv : Value} (hs : sb = wz.heap.size) (hP : wz.heap[gp]? = some (.cells Z 87 (0, 0))) (hM : Ks wz gm []) (hL : wz.ownsRow base 80 3 lv m (flat l))
  (hb : w1.heap.size ≤ base) (hB : Below w1.heap.size w1 wz) (g1 : w1.heap.size ≤ gp) (g2 : w1.heap.size ≤ gm) :
  ∃ x, Value.pointer (some ⟨sb, 0, none⟩) = .pointer (some ⟨x, 0, none⟩) ∧ Nw w1 l n Z x (wz.alloc (Obj.cells #[lv, .slice (some ⟨gp, 0, none⟩) n n, .map (some gm)] 84)) := by
 subst hs;have hm : m = l.length := by have := hL.1; rw [flat_len] at this; omega
 subst hm;refine ⟨_, rfl, gp, gm, lv, heap_alloc_new wz _, ?_, hM.kept ((below_alloc wz _).block gm hM.lt), ?_, below_trans hB (below_alloc wz _), g1, g2, hB.size⟩
 ·rw [(below_alloc wz _).block gp (Array.getElem?_eq_some_iff.1 hP).1]; exact hP
 ·exact row_base (hL.alloc _) (fun x hx => by have := (hL.lt x hx).1; omega)
theorem keepP {w w' : World} {gp : Nat} {o : Obj} (h : w.heap[gp]? = some o) (hb : Below w.heap.size w w') : w'.heap[gp]? = some o := by
 rw [hb.block gp (Array.getElem?_eq_some_iff.1 h).1]; exact h
theorem Ks.below {w w' : World} {b : Nat} {l : List Nat} (h : Ks w b l) (hb : Below w.heap.size w w') : Ks w' b l := h.kept (hb.block b h.lt)
theorem undrew {w w' : World} (h : Below w.drew.heap.size w.drew w') : Below w.heap.size w w' := below_trans (Below.refl _ _).drew h
def newO (n : Nat) (l : List Stp) (k : Nat) : Sc := ⟨l, n, fun _ => [], fun p => decide (p < k), []⟩
theorem newO_step (n : Nat) (l : List Stp) (k : Nat) : ({ newO n l k with on := upd (newO n l k).on k true } : Sc) = newO n l (k + 1) := by
 have e : upd (fun p => decide (p < k)) k true = fun p => decide (p < k + 1) := by
  funext p;unfold upd;by_cases h : p = k
  ·subst h; simp
  ·rw [if_neg h];show decide (p < k) = _;by_cases h2 : p < k
   ·rw [decide_eq_true h2, decide_eq_true (by omega)]
   ·rw [decide_eq_false h2, decide_eq_false (by omega)]
 show (⟨l, n, fun _ => [], upd (fun p => decide (p < k)) k true, []⟩ : Sc) = _;rw [e]; rfl
theorem nw_sm {wx : World} {l : List Stp} {n gp gm sb base : Nat} {Z : Array Value} {lv : Value} (hn : 1 ≤ n ∧ n ≤ 4) (hZ : Z = madeCells #[.slice none 0 0, .bool false] (n * 2)) (hok : ∀ o ∈ l, o.ok)
  (hsb : wx.heap[sb]? = some (.cells #[lv, .slice (some ⟨gp, 0, none⟩) n n, .map (some gm)] 84 (0, 0))) (hgp : wx.heap[gp]? = some (.cells Z 87 (0, 0))) (hgm : Ks wx gm [])
  (hlv : wx.ownsRow base 80 3 lv l.length (flat l)) : SM (fun x => x = sb ∨ x = gp ∨ x = gm ∨ lv.ownBlock = some x) wx sb gp gm lv (fun _ => .slice none 0 0) (newO n l 0) := by
 obtain ⟨es, cl, hmap, _⟩ := id hgm
 have hlx : ∀ x, lv.ownBlock = some x → ∃ cur, wx.heap[x]? = some (.cells cur 80 (0, 0)) := by
  intro x hx;rcases hlv.2 with ⟨rfl, _⟩ | ⟨g, cap, cur, rfl, _, hg, _⟩
  ·cases hx
  ·simp [Value.ownBlock] at hx; subst hx; exact ⟨cur, hg⟩
 refine ⟨hsb, ⟨Z, hgp, ?_, ?_⟩, hgm, own_ovS hlv hok, fun p _ => World.ownsRow_nil _ _ _ _, ?_, ?_, ?_, fun p x _ hx => (by cases hx), fun x hx => ?_, fun p q x _ _ _ hx => (by cases hx), ⟨.inl rfl, .inr (.inl rfl), .inr (.inr (.inl rfl))⟩, fun p x _ hx => (by cases hx), fun x hx => .inr (.inr (.inr hx)), ?_⟩
 ·rw [hZ]; exact size_madeCells _ _
 ·obtain ⟨a, b⟩ := hn;have : n = 1 ∨ n = 2 ∨ n = 3 ∨ n = 4 := by omega
  intro p hp;change p < n at hp;have hp4 : p = 0 ∨ p = 1 ∨ p = 2 ∨ p = 3 := by omega
  have hon : (newO n l 0).on p = false := by simp [newO]
  rw [hZ, hon];rcases this with rfl | rfl | rfl | rfl <;> rcases hp4 with rfl | rfl | rfl | rfl <;> first | omega | exact ⟨by simp [madeCells], by simp [madeCells]⟩
 ·rintro rfl; rw [hsb] at hgp; simp at hgp
 ·rintro rfl; rw [hsb] at hmap; simp at hmap
 ·rintro rfl; rw [hgp] at hmap; simp at hmap
 ·obtain ⟨cur, hc⟩ := hlx x hx;refine ⟨?_, ?_, ?_⟩
  ·rintro rfl; rw [hsb] at hc; simp at hc
  ·rintro rfl; rw [hgp] at hc; simp at hc
  ·rintro rfl; rw [hmap] at hc; simp at hc
 ·rintro x (rfl | rfl | rfl | h)
  ·exact (Array.getElem?_eq_some_iff.1 hsb).1
  ·exact (Array.getElem?_eq_some_iff.1 hgp).1
  ·exact hgm.lt
  ·exact (hlv.lt x h).2
theorem info_part : (Tryz.prog.info? 87).map (fun i => (i.zero, i.size, i.bytes)) = some (some (.agg #[.slice none 0 0, .bool false]), 2, 32) := by kernel_rfl
theorem new_ok {lv : Value} {n : Nat} {l : List Stp} {w : World} (h1 : 1 ≤ n) (h4 : n ≤ 4) (ho : Ov w lv l) (hc : checkB l = true) :
  Calls Tryz.prog 7 #[.int .i64 n, lv] w fun e w' => ∃ (v : Value) (D : Nat → Prop), e = .returned (.tuple #[v, .int .i64 0]) ∧ Src D w' v (newS n l) ∧ Below w.heap.size w w' ∧ ∀ b, D b → w.heap.size ≤ b := by
 have HV : Hid (Ov w lv l) := ho;obtain ⟨⟨ao, cap, rfl, g1, g2, g3, g4⟩, g5⟩ := ho;have HO : Hid (Ol w ao l) := g4;have HL : Hid (l.length ≤ maxLen) := Nat.le_trans g1 g2;have HC : Hid (chkI l = 0) := by show _ = _; unfold chkI; rw [hc]; rfl
 have HOK : Hid (∀ o ∈ l, o.ok) := g5;have HN : Hid (1 ≤ n ∧ n ≤ 4) := ⟨h1, h4⟩;have HCB : Hid (checkB l = true) := hc
 have HL8 : Hid (l.length ≤ 1048576) := by
  show _ ≤ _;unfold checkB at hc;simp at hc;omega
 have hmm := @run_makeMap Tryz.prog;obtain ⟨i0, hi0, hz0, hz1, hz2⟩ := info_partsV info_part;clear g1 g2 g3 g4 g5 hc;go_in;go_wp2_with fail;refine (check_walk HL.out HO.out).mono ?_;rw [HC.out];rintro e w1 ⟨rfl, hB⟩;have HB1 := hidH hB;have HV1 := hidH (HV.out.below hB);clear hB
 have HMK : Hid (∀ wx, (Instr.makeSlice 81 (.int .i64 n) (.int .i64 n)).run Tryz.prog wx = .ok (.slice (some ⟨wx.heap.size, 0, none⟩) n n) (wx.alloc (.cells (madeCells #[.slice none 0 0, .bool false] (n * 2)) 87))) := fun wx => by
  have := run_make (P := Tryz.prog) wx 81 87 i0 (.agg #[.slice none 0 0, .bool false]) Tryz.underlying81 hi0 hz0 .i64 .i64 n n (by omega) (Int.le_refl _) (by rw [hz2]; omega) (by omega);rw [hz1] at this;simp only [Int.toNat_natCast] at this;exact this
 obtain ⟨Z, hZ⟩ : ∃ Z, Z = madeCells #[.slice none 0 0, .bool false] (n * 2) := ⟨_, rfl⟩;rw [← hZ] at HMK;have hmk := HMK.out;have HZZ : Hid (Z = madeCells #[.slice none 0 0, .bool false] (n * 2)) := hZ;clear hZ HMK hi0 hz0 hz1 hz2;go_wp2_with fail;go_cut [7] (fun sv wx => ∃ sb, sv = .pointer (some ⟨sb, 0, none⟩) ∧ Nw w1 l n Z sb wx)
 case first =>
  go_region_with ((go_at_call 25; refine (cloneO_walk (HV1.out.below (by first | exact (Below.refl _ _).drew | exact (below_alloc _ _).drew | exact (below_trans (below_alloc _ _) (below_alloc _ _)).drew)) HL8.out).mono ?_; rintro e w5 ⟨v5, rfl, ho5, hB5⟩; obtain ⟨ao5, cap5, hv5, _⟩ := row_form ho5; subst hv5));all_goals go_wp2_with fail
  all_goals go_meet
  ·have b5 := undrew hB5;exact nw_end (by simp) (keepP (heap_alloc_new w5 _) (below_alloc _ _)) (by have := ks_made (w5.alloc (Obj.cells Z 87)); simpa using this) ((ho5.alloc _).alloc _) (Nat.le_refl _) (below_trans (below_trans b5 (below_alloc _ _)) (below_alloc _ _)) b5.size (by have := b5.size; omega)
  ·have b5 := undrew hB5;exact nw_end (by simp) (by have := heap_alloc_new (w5.alloc (Obj.map #[] 0)) (Obj.cells Z 87); simpa using this) ((ks_made w5).below (below_alloc _ _)) ((ho5.alloc _).alloc _) (Nat.le_refl _) (below_trans (below_trans b5 (below_alloc _ _)) (below_alloc _ _)) (by have := b5.size; omega) b5.size
  ·have b5 := undrew hB5;have b0 := below_alloc w1 (Obj.cells Z 87);exact nw_end (by simp) (keepP (keepP (heap_alloc_new w1 _) b5) (below_alloc _ _)) (ks_made w5) (ho5.alloc _) b0.size (below_trans (below_trans b0 b5) (below_alloc _ _)) (Nat.le_refl _) (Nat.le_trans b0.size b5.size)
  ·have b5 := undrew hB5;have b0 := below_trans (below_alloc w1 (Obj.cells Z 87)) (below_alloc _ (Obj.map #[] 0));exact nw_end rfl (keepP (keepP (heap_alloc_new w1 _) (below_alloc _ _)) b5) ((by have := ks_made (w1.alloc (Obj.cells Z 87)); simpa using this : Ks ((w1.alloc (Obj.cells Z 87)).alloc (Obj.map #[] 0)) (w1.heap.size + 1) []).below b5) ho5 b0.size (below_trans b0 b5) (Nat.le_refl _) (by omega)
  ·have b5 := undrew hB5;have b0 := below_alloc w1 (Obj.map #[] 0);exact nw_end (by simp) (heap_alloc_new w5 _) (((ks_made w1).below b5).below (below_alloc _ _)) (ho5.alloc _) b0.size (below_trans (below_trans b0 b5) (below_alloc _ _)) (Nat.le_trans b0.size b5.size) (Nat.le_refl _)
  ·have b5 := undrew hB5;have b0 := below_trans (below_alloc w1 (Obj.map #[] 0)) (below_alloc _ (Obj.cells Z 87));exact nw_end rfl (keepP (by have := heap_alloc_new (w1.alloc (Obj.map #[] 0)) (Obj.cells Z 87); simpa using this) b5) (((ks_made w1).below (below_alloc _ _)).below b5) ho5 b0.size (below_trans b0 b5) (by omega) (Nat.le_refl _)
 case rest =>
  obtain ⟨sb, rfl, gp, gm, lv, hsb, hgp, hgm, hlv, hBc, q1, q2, q3⟩ := hcut;have HX : Hid (SM (fun x => x = sb ∨ x = gp ∨ x = gm ∨ lv.ownBlock = some x) wc sb gp gm lv (fun _ => .slice none 0 0) (newO n l 0)) := nw_sm HN.out (by rw [HZZ.out]) HOK.out hsb hgp hgm hlv;have HBC := hidH hBc
  have HD : Hid (∀ x, (x = sb ∨ x = gp ∨ x = gm ∨ lv.ownBlock = some x) → w1.heap.size ≤ x) := by
   rintro x (rfl | rfl | rfl | h)
   ·exact q3
   ·exact q1
   ·exact q2
   ·exact (hlv.lt x h).1
  have c1 := HX.out.c1;change wc.cell? ⟨sb, 1, none⟩ = some (.slice (some ⟨gp, 0, none⟩) n n) at c1;clear hsb hgp hgm hlv hBc q1 q2 q3 hmk hmm;go_wp2_with fail;go_loopw [32] (fun iv wr => ∃ k : Nat, k ≤ n ∧ iv = .int .i64 k ∧ SM (fun x => x = sb ∨ x = gp ∨ x = gm ∨ lv.ownBlock = some x) wr sb gp gm lv (fun _ => .slice none 0 0) (newO n l k) ∧ Below w1.heap.size w1 wr) (fun iv _ => n - (intOf iv).toNat)
  case atStart => exact ⟨0, Nat.zero_le _, rfl, HX.out, HBC.out⟩
  case round =>
   clear HX HBC c1;obtain ⟨k, hk, rfl, hS, hB⟩ := hrel;have HS : Hid (SM (fun x => x = sb ∨ x = gp ∨ x = gm ∨ lv.ownBlock = some x) wr sb gp gm lv (fun _ => .slice none 0 0) (newO n l k)) := hS;have HB := hidH hB;clear hS hB;by_cases hlt : k < n
   ·have c1 : wr.cell? ⟨sb, 1, none⟩ = some (.slice (some ⟨gp, 0, none⟩) n n) := HS.out.c1;have p1 : wr.cell? ⟨gp, k * 2 + 1, none⟩ = some (.bool (decide (k < k))) := HS.out.p1 (p := k) hlt;have f1 := HS.out.soft (k * 2 + 1)
    have R' : ∃ j : Nat, j ≤ n ∧ Value.int .i64 ((k : Int) + 1) = .int .i64 j ∧ SM (fun x => x = sb ∨ x = gp ∨ x = gm ∨ lv.ownBlock = some x) (wr.setCell ⟨gp, k * 2 + 1, none⟩ (.bool true)) sb gp gm lv (fun _ => .slice none 0 0) (newO n l j) ∧ Below w1.heap.size w1 (wr.setCell ⟨gp, k * 2 + 1, none⟩ (.bool true)) :=
     ⟨k + 1, hlt, by simp, by have := HS.out.setOn (q := k) hlt true; rw [newO_step] at this; exact this, HB.out.setCell (HD.out gp (.inr (.inl rfl))) _⟩
    go_wp2_with fail;go_roundw
    case rel => exact R'
    case measure => simp [intOf]; omega
   ·obtain rfl : k = n := by omega
    go_wp2_with fail;go_ret2;exact ⟨_, _, rfl, ⟨sb, gp, gm, lv, _, rfl, HS.out, ok_new h1 h4 HCB.out HOK.out⟩, below_trans HB1.out HB.out, fun b hb => Nat.le_trans HB1.out.size (HD.out b hb)⟩
end
section
open Ieee Go.RowKit

section

variable {B : Nat} {w : World} {v : Value} {S : Sc}

end

def Kl (w : World) (ao : Option Addr) (l : List Nat) : Prop := ∀ i, (h : i < l.length) → ∃ b off, ao = some ⟨b, off, none⟩ ∧ w.cell? ⟨b, off + i, none⟩ = some (.int .u64 (l[i] : Nat))
theorem Kl.below {w w' : World} {ao : Option Addr} {l : List Nat} (h : Kl w ao l) (hb : Below w.heap.size w w') : Kl w' ao l := by
 intro i hi;obtain ⟨b, off, e, c⟩ := h i hi;exact ⟨b, off, e, by rw [hb.cell (p := ⟨b, off + i, none⟩) (cell_lt c)]; exact c⟩
theorem own_kl {w : World} {base n : Nat} {v : Value} {l : List Nat} (h : w.ownsRow base 40 1 v n (l.map fun k => .int .u64 (k : Nat))) : ∃ ao cap, v = .slice ao l.length cap ∧ Kl w ao l := by
 obtain ⟨h1, h2⟩ := h;have hn : n = l.length := by simp at h1; omega
 subst hn;rcases h2 with ⟨rfl, h0⟩ | ⟨g, cap, cur, rfl, hb, hg, hnc, hcm, hcs, htake⟩
 ·exact ⟨none, 0, by rw [h0], fun i hi => by omega⟩
 ·refine ⟨_, cap, rfl, fun i hi => ⟨g, 0, rfl, ?_⟩⟩;have e := congrArg (fun l => l[i]?) htake;simp only [List.getElem?_take, Nat.mul_one, if_pos hi, List.getElem?_map, List.getElem?_eq_getElem hi] at e;rw [Nat.zero_add, cell_of_row w g i cur _ (0, 0) hg, ← Array.getElem?_toList, e]; rfl
end
section
open Ieee Go.RowKit

def nth (l : List Int) (i : Nat) : Int := l.getD i 0
theorem nth_at {l : List Int} {i : Nat} (h : i < l.length) : nth l i = l[i] := by unfold nth; rw [List.getD_eq_getElem?_getD, List.getElem?_eq_getElem h]; rfl
theorem nth_ext {a b : List Int} (h : a.length = b.length) (hn : ∀ i, i < a.length → nth a i = nth b i) : a = b := by
 refine List.ext_getElem h fun i h1 h2 => ?_;have := hn i h1;rwa [nth_at h1, nth_at h2] at this
def In64 (l : List Int) : Prop := ∀ x ∈ l, -9223372036854775808 ≤ x ∧ x < 9223372036854775808
def Nl (w : World) (ao : Option Addr) (l : List Int) : Prop := ∀ i, i < l.length → ∃ b off, ao = some ⟨b, off, none⟩ ∧ w.cell? ⟨b, off + i, none⟩ = some (.int .i64 (nth l i))
def Nv (w : World) (v : Value) (l : List Int) : Prop := (∃ ao cap, v = .slice ao l.length cap ∧ l.length ≤ cap ∧ cap ≤ maxLen ∧ (ao = none → cap = 0) ∧ Nl w ao l) ∧ In64 l
theorem Nl.below {w w' : World} {ao : Option Addr} {l : List Int} (h : Nl w ao l) (hb : Below w.heap.size w w') : Nl w' ao l := by
 intro i hi;obtain ⟨b, off, e, c⟩ := h i hi;exact ⟨b, off, e, by rw [hb.cell (p := ⟨b, off + i, none⟩) (cell_lt c)]; exact c⟩
theorem Nv.below {w w' : World} {v : Value} {l : List Int} (h : Nv w v l) (hb : Below w.heap.size w w') : Nv w' v l := by
 obtain ⟨⟨ao, cap, e, h1, h2, h3, h4⟩, h5⟩ := h;exact ⟨⟨ao, cap, e, h1, h2, h3, h4.below hb⟩, h5⟩
theorem Nv.len_le {w : World} {v : Value} {l : List Int} (h : Nv w v l) : l.length ≤ maxLen := by
 obtain ⟨⟨ao, cap, e, h1, h2, h3, h4⟩, h5⟩ := h; omega
abbrev cellsN (l : List Int) : List Value := l.map (Value.int .i64)
theorem own_nl {w : World} {base e n : Nat} {v : Value} {l : List Int} (h : w.ownsRow base e 1 v n (cellsN l)) : n = l.length ∧ ∃ ao cap, v = .slice ao l.length cap ∧ l.length ≤ cap ∧ cap ≤ maxLen ∧ (ao = none → cap = 0) ∧ Nl w ao l := by
 obtain ⟨h1, h2⟩ := h;have hn : l.length = n := by simpa using h1
 subst hn;refine ⟨rfl, ?_⟩;rcases h2 with ⟨rfl, h0⟩ | ⟨g, cap, cur, rfl, hb, hg, hnc, hcm, hcs, htake⟩
 ·have : l = [] := List.eq_nil_of_length_eq_zero h0;subst this;exact ⟨none, 0, rfl, Nat.le_refl _, by simp [maxLen], fun _ => rfl, fun i hi => by simp at hi⟩
 ·refine ⟨_, cap, rfl, hnc, hcm, by simp, fun i hi => ⟨g, 0, rfl, ?_⟩⟩;rw [Nat.zero_add, cell_of_row w g i cur e (0, 0) hg];have hh : (cur.toList.take (l.length * 1))[i]? = (l.map (Value.int .i64))[i]? := by rw [htake]
  rw [List.getElem?_take, if_pos (by omega)] at hh;rw [← Array.getElem?_toList, hh, nth_at hi];simp [List.getElem?_eq_getElem hi]
theorem own_nv {w : World} {base e n : Nat} {v : Value} {l : List Int} (h : w.ownsRow base e 1 v n (cellsN l)) (hl : In64 l) : Nv w v l := ⟨(own_nl h).2, hl⟩
theorem info_int : (Tryz.prog.info? 3).map (fun i => (i.zero, i.size, i.bytes)) = some (some (.int .i64 0), 1, 8) := by kernel_rfl
theorem wpList_append_nv {P : Program} {w : World} {ops : Array Oper} {rest : List Oper} {o : Oper} {a : Act} {Q : Exit → Act → World → Prop} (hgd : o.guard = none) (s x : Operand) (t : TypeId)
  (ho : o.op = .call { callee := .builtin .append, args := #[s, x], argTypes := #[t, t] })
  (base : Nat) (e : TypeId) (ht : P.underlying t = some (.slice e)) (hinf : (P.info? e).map (fun i => (i.zero, i.size, i.bytes)) = some (some (.int .i64 0), 1, 8))
  (v : Value) (n : Nat) (m : List Int) (hs : a.eval s = v) (hown : w.ownsRow base e 1 v n (cellsN m))
  (y : Value) (l : List Int) (hx : a.eval x = y) (hy : Nv w y l) (h63 : n + l.length ≤ maxLen) (hb : (n + l.length) * 8 ≤ 140737488355328) (hbase : base ≤ w.heap.size)
  (h : ∀ v' w', w'.ownsRow base e 1 v' (n + l.length) (cellsN (m ++ l)) → w.grownBy w' v.ownBlock → wpList P ops Q rest (a.put o.dst v') w') : wpList P ops Q (o :: rest) a w := by
 obtain ⟨i0, hi, hz0, hz1, hz2⟩ := info_partsV hinf;obtain ⟨⟨ao, c, rfl, hc1, hc2, hnone, hcells⟩, _⟩ := hy
 cases ao with
 | none =>
  obtain rfl := hnone rfl;have hl0 : l.length = 0 := by omega
  have hl : l = [] := List.eq_nil_of_length_eq_zero hl0;subst hl;refine wpList_append_own_none hgd s x t ho base e i0 1 ht hi _ n (cellsN m) hs hown hx ?_;exact h v w (by simpa using hown) ⟨rfl, rfl, rfl, Nat.le_refl _, fun _ _ _ => rfl⟩
 | some p =>
  refine wpList_append_own w hgd s x t ho base e i0 (.int .i64 0) 1 8 ht hi hz0 hz1 hz2 rfl (by decide) v n (cellsN m) hs hown p l.length c (cellsN l) hx (by simp) ?_ ?_ h63 hb hbase (fun v' w' h1 h2 _ => h v' w' (by rw [cellsN, List.map_append]; exact h1) h2)
  ·intro j u hj
   have hjl : j < l.length := by
    rcases Nat.lt_or_ge j l.length with h | h
    ·exact h
    ·simp [List.getElem?_eq_none (show (l.map (Value.int .i64)).length ≤ j by simpa using h)] at hj
   obtain ⟨b, off, e1, e2⟩ := hcells j hjl
   cases e1
   rw [WideShapes.add_plain, e2, nth_at hjl];simp [List.getElem?_eq_getElem hjl] at hj;rw [← hj]
  ·intro u hu;obtain ⟨z, _, rfl⟩ := List.mem_map.1 hu;rfl
theorem cloneN_walk {v : Value} {l : List Int} {w : World} (ho : Nv w v l) (hl : l.length * 8 ≤ 140737488355328) :
  Calls Tryz.prog 46 #[v] w fun e w' => ∃ v', e = .returned v' ∧ w'.ownsRow w.heap.size 3 1 v' l.length (cellsN l) ∧ Below w.heap.size w w' := by
 have HO : Hid (Nv w v l) := ho;obtain ⟨⟨ao, cap, rfl, h1, h2, h3, _⟩, _⟩ := ho;have HL := hidH hl;have HM : Hid (l.length ≤ maxLen) := by show _ ≤ _; omega
 have H3 : Hid (ao = none → cap = 0) := h3;have H1 : Hid (l.length ≤ cap) := h1;have q : ∀ (w : World) (a : Option Addr) (n c : Nat), (binOp .eql 44 (.slice a n c) (.slice none 0 0)).run Tryz.prog w = .ok (.bool a.isNone) w := fun w a n c => Lib.run_eql_slice_nil w 44 3 a n c 0 0 Tryz.underlying44;clear hl h1 h2 h3
 cases ao with
 | none =>
  have hc := H3.out rfl;subst hc;have hl0 : l.length = 0 := by have := H1.out; omega
  have hl : l = [] := List.eq_nil_of_length_eq_zero hl0;subst hl;rw [List.length_nil];go_in;go_wp2_with fail;go_ret;exact ⟨_, rfl, World.ownsRow_nil _ _ _ _, below_same _⟩
 | some p =>
  go_in;go_wp2_with (at_builtin; refine wpList_append_nv (by rfl) _ _ 44 (by rfl) w.heap.size 3 Tryz.underlying44 info_int _ 0 [] (by rfl) (World.ownsRow_made w #[] 0 (Nat.le_refl _) (by simp [maxLen]) (by simp)) _ l (by rfl) (HO.out.below (below_alloc _ _)) (by have := HM.out; omega) (by have := HL.out; omega) (by simp) ?_; intro v' w2 hown hgrow; go_frame);go_ret;refine ⟨_, rfl, by simpa using hown, ?_⟩;exact (below_alloc w (Obj.cells #[] 3)).grown hgrow (by simp) (by simp [Value.ownBlock])
def Zw (w : World) (g cap : Nat) (l : List Int) : Prop := (∃ cur, w.heap[g]? = some (.cells cur 3 (0, 0)) ∧ cur.size = cap ∧ ∀ i, i < l.length → cur[i]? = some (.int .i64 (nth l i))) ∧ l.length ≤ cap ∧ cap ≤ maxLen
section

variable {w w' : World} {g cap : Nat} {l : List Int}

theorem Zw.cell (h : Zw w g cap l) {i : Nat} (hi : i < l.length) : w.cell? ⟨g, i, none⟩ = some (.int .i64 (nth l i)) := by
 obtain ⟨⟨cur, h1, h2, h3⟩, _⟩ := h;rw [cell_of_row w g i cur _ (0, 0) h1]; exact h3 i hi
theorem Zw.soft (h : Zw w g cap l) (i : Nat) : w.frozen? ⟨g, i, none⟩ = false := by
 obtain ⟨⟨cur, h1, h2, h3⟩, _⟩ := h;simp [World.frozen?, h1]
theorem Zw.set (h : Zw w g cap l) {j : Nat} (hj : j < l.length) (x : Int) : Zw (w.setCell ⟨g, j, none⟩ (.int .i64 x)) g cap (l.set j x) := by
 obtain ⟨⟨cur, h1, h2, h3⟩, h4, h5⟩ := h;refine ⟨⟨cur.setIfInBounds j (.int .i64 x), ?_, by simpa using h2, fun i hi => ?_⟩, by simpa using h4, h5⟩
 ·rw [Sort.setCell_eq];simp [Sort.mapBlock, Array.getElem?_modify, h1, Sort.onCells]
 ·rw [nth_at hi];rw [List.length_set] at hi;by_cases e : j = i
  ·subst e;rw [Array.getElem?_setIfInBounds, if_pos rfl, if_pos (by omega), List.getElem_set_self]
  ·rw [Array.getElem?_setIfInBounds, if_neg e, List.getElem_set_ne e, h3 i hi, nth_at hi]
theorem Zw.own {base : Nat} (h : Zw w g cap l) (hb : base ≤ g) : w.ownsRow base 3 1 (.slice (some ⟨g, 0, none⟩) l.length cap) l.length (cellsN l) := by
 obtain ⟨⟨cur, h1, h2, h3⟩, h4, h5⟩ := h;refine ⟨by simp, .inr ⟨g, cap, cur, rfl, hb, h1, h4, h5, by omega, ?_⟩⟩;apply List.ext_getElem?;intro j;by_cases hj : j < l.length
 ·rw [List.getElem?_take, if_pos (by omega), Array.getElem?_toList, h3 j hj, nth_at hj];simp [hj]
 ·rw [List.getElem?_take, if_neg (by omega), List.getElem?_eq_none (by simp; omega)]
theorem own_zw {base n : Nat} (h : w.ownsRow base 3 1 (.slice (some ⟨g, 0, none⟩) n cap) n (cellsN l)) : Zw w g cap l ∧ base ≤ g ∧ n = l.length := by
 obtain ⟨h1, h2⟩ := h;have hn : l.length = n := by simpa using h1
 subst hn;rcases h2 with ⟨h, _⟩ | ⟨g', cap', cur, e1, hb, hg, hnc, hcm, hcs, htake⟩
 ·cases h
 ·simp only [Value.slice.injEq, Option.some.injEq, Addr.mk.injEq] at e1;obtain ⟨⟨rfl, _⟩, _, rfl⟩ := e1;refine ⟨⟨⟨cur, hg, by omega, fun i hi => ?_⟩, hnc, hcm⟩, hb, rfl⟩;have e := congrArg (fun l => l[i]?) htake;simp only [List.getElem?_take, Nat.mul_one, if_pos hi, List.getElem?_map, List.getElem?_eq_getElem hi] at e;rw [← Array.getElem?_toList, e, nth_at hi]; rfl
theorem Zw.nv (h : Zw w g cap l) (hl : In64 l) : Nv w (.slice (some ⟨g, 0, none⟩) l.length cap) l := own_nv (h.own (Nat.zero_le _)) hl
end
end
end Go.Proofs.YtombjgfajbhbbaaGreat
