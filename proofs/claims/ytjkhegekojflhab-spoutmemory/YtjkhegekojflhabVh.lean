/- New. -/
import Derived.Test.YtjkhegekojflhabVf
namespace Go.Proofs.Ytjkhegekojflhab
open Ieee Go.RowKit

def newS (n : Nat) (l : List Stp) : Sc := ⟨l, n, fun _ => [], fun p => decide (p < n), []⟩
theorem ok_new {n : Nat} {l : List Stp} (h1 : 1 ≤ n) (h4 : n ≤ 4) (hc : checkB l = true) (hl : ∀ o ∈ l, o.ok) : (newS n l).ok :=
  ⟨h1, h4, hc, hl, fun _ => by simp [newS], fun _ r hr => by simp [newS] at hr, by simp [newS], by simp [newS, RiseK], fun k hk => by simp [newS] at hk, fun k => by simp [newS]⟩

theorem new_arg {lv : Value} {parts : Int} {w : World} (hp : parts < 1 ∨ 4 < parts) :
    Calls Try.prog 14 #[.int .i64 parts, lv] w fun e w' => e = .returned (.tuple #[.pointer none, .int .i64 1]) ∧ w' = w := by
  by_cases h1 : parts < 1
  · clear hp
    go_enter Try.func14, Try.ntmps14
    go_wp2_with fail
    go_ret2
    exact ⟨rfl, rfl⟩
  · have h4 : 4 < parts := by omega
    clear hp
    go_enter Try.func14, Try.ntmps14
    go_wp2_with fail
    go_ret2
    exact ⟨rfl, rfl⟩

theorem new_ops {lv : Value} {parts : Int} {l : List Stp} {w : World} (h1 : 1 ≤ parts) (h4 : parts ≤ 4) (ho : Ov w lv l) (hc : checkB l = false) :
    Calls Try.prog 14 #[.int .i64 parts, lv] w fun e w' => e = .returned (.tuple #[.pointer none, .int .i64 30]) ∧ Below w.heap.size w w' := by
  obtain ⟨⟨ao, cap, rfl, g1, g2, g3, g4⟩, g5⟩ := ho
  have HO : Hid (Ol w ao l) := g4
  have HL : Hid (l.length ≤ maxLen) := Nat.le_trans g1 g2
  have HC : Hid (chkI l = 30) := by show _ = _; unfold chkI; rw [hc]; rfl
  clear g1 g2 g3 g4 g5 hc
  go_enter Try.func14, Try.ntmps14
  go_wp2_with fail
  refine (check_walk HL.out HO.out).mono ?_
  rw [HC.out]
  rintro e w1 ⟨rfl, hB⟩
  go_wp2_with fail
  go_ret2
  exact ⟨rfl, hB⟩

/-- What New lays before it goes on. -/
def Nw (w1 : World) (l : List Stp) (n : Nat) (Z : Array Value) (sb : Nat) (wx : World) : Prop :=
  ∃ gp gm lv, wx.heap[sb]? = some (.cells #[lv, .slice (some ⟨gp, 0, none⟩) n n, .map (some gm)] 73 (0, 0)) ∧ wx.heap[gp]? = some (.cells Z 75 (0, 0)) ∧ Ks wx gm [] ∧
    wx.ownsRow w1.heap.size 55 3 lv l.length (flat l) ∧ Below w1.heap.size w1 wx ∧ w1.heap.size ≤ gp ∧ w1.heap.size ≤ gm ∧ w1.heap.size ≤ sb

theorem nw_end {w1 wz : World} {l : List Stp} {n m gp gm sb base : Nat} {Z : Array Value} {lv : Value} (hs : sb = wz.heap.size) (hP : wz.heap[gp]? = some (.cells Z 75 (0, 0))) (hM : Ks wz gm []) (hL : wz.ownsRow base 55 3 lv m (flat l))
    (hb : w1.heap.size ≤ base) (hB : Below w1.heap.size w1 wz) (g1 : w1.heap.size ≤ gp) (g2 : w1.heap.size ≤ gm) :
    ∃ x, Value.pointer (some ⟨sb, 0, none⟩) = .pointer (some ⟨x, 0, none⟩) ∧ Nw w1 l n Z x (wz.alloc (Obj.cells #[lv, .slice (some ⟨gp, 0, none⟩) n n, .map (some gm)] 73)) := by
  subst hs
  have hm : m = l.length := by have := hL.1; rw [flat_len] at this; omega
  subst hm
  refine ⟨_, rfl, gp, gm, lv, heap_alloc_new wz _, ?_, hM.kept ((below_alloc wz _).block gm hM.lt), ?_, below_trans hB (below_alloc wz _), g1, g2, hB.size⟩
  · rw [(below_alloc wz _).block gp (Array.getElem?_eq_some_iff.1 hP).1]; exact hP
  · exact row_base (hL.alloc _) (fun x hx => by have := (hL.lt x hx).1; omega)
theorem keepP {w w' : World} {gp : Nat} {o : Obj} (h : w.heap[gp]? = some o) (hb : Below w.heap.size w w') : w'.heap[gp]? = some o := by
  rw [hb.block gp (Array.getElem?_eq_some_iff.1 h).1]; exact h
theorem Ks.below {w w' : World} {b : Nat} {l : List Nat} (h : Ks w b l) (hb : Below w.heap.size w w') : Ks w' b l := h.kept (hb.block b h.lt)
theorem undrew {w w' : World} (h : Below w.drew.heap.size w.drew w') : Below w.heap.size w w' := below_trans (Below.refl _ _).drew h

def newO (n : Nat) (l : List Stp) (k : Nat) : Sc := ⟨l, n, fun _ => [], fun p => decide (p < k), []⟩
theorem newO_step (n : Nat) (l : List Stp) (k : Nat) : ({ newO n l k with on := upd (newO n l k).on k true } : Sc) = newO n l (k + 1) := by
  have e : upd (fun p => decide (p < k)) k true = fun p => decide (p < k + 1) := by
    funext p
    unfold upd
    by_cases h : p = k
    · subst h; simp
    · rw [if_neg h]
      show decide (p < k) = _
      by_cases h2 : p < k
      · rw [decide_eq_true h2, decide_eq_true (by omega)]
      · rw [decide_eq_false h2, decide_eq_false (by omega)]
  show (⟨l, n, fun _ => [], upd (fun p => decide (p < k)) k true, []⟩ : Sc) = _
  rw [e]; rfl
theorem nw_sm {wx : World} {l : List Stp} {n gp gm sb base : Nat} {Z : Array Value} {lv : Value} (hn : 1 ≤ n ∧ n ≤ 4) (hZ : Z = madeCells #[.slice none 0 0, .bool false] (n * 2)) (hok : ∀ o ∈ l, o.ok)
    (hsb : wx.heap[sb]? = some (.cells #[lv, .slice (some ⟨gp, 0, none⟩) n n, .map (some gm)] 73 (0, 0))) (hgp : wx.heap[gp]? = some (.cells Z 75 (0, 0))) (hgm : Ks wx gm [])
    (hlv : wx.ownsRow base 55 3 lv l.length (flat l)) : SM (fun x => x = sb ∨ x = gp ∨ x = gm ∨ lv.ownBlock = some x) wx sb gp gm lv (fun _ => .slice none 0 0) (newO n l 0) := by
  obtain ⟨es, cl, hmap, _⟩ := id hgm
  have hlx : ∀ x, lv.ownBlock = some x → ∃ cur, wx.heap[x]? = some (.cells cur 55 (0, 0)) := by
    intro x hx
    rcases hlv.2 with ⟨rfl, _⟩ | ⟨g, cap, cur, rfl, _, hg, _⟩
    · cases hx
    · simp [Value.ownBlock] at hx; subst hx; exact ⟨cur, hg⟩
  refine ⟨hsb, ⟨Z, hgp, ?_, ?_⟩, hgm, own_ovS hlv hok, fun p _ => World.ownsRow_nil _ _ _ _, ?_, ?_, ?_, fun p x _ hx => (by cases hx), fun x hx => ?_, fun p q x _ _ _ hx => (by cases hx), ⟨.inl rfl, .inr (.inl rfl), .inr (.inr (.inl rfl))⟩, fun p x _ hx => (by cases hx), fun x hx => .inr (.inr (.inr hx)), ?_⟩
  · rw [hZ]; exact size_madeCells _ _
  · obtain ⟨a, b⟩ := hn
    have : n = 1 ∨ n = 2 ∨ n = 3 ∨ n = 4 := by omega
    intro p hp
    change p < n at hp
    have hp4 : p = 0 ∨ p = 1 ∨ p = 2 ∨ p = 3 := by omega
    have hon : (newO n l 0).on p = false := by simp [newO]
    rw [hZ, hon]
    rcases this with rfl | rfl | rfl | rfl <;> rcases hp4 with rfl | rfl | rfl | rfl <;> first | omega | exact ⟨by simp [madeCells], by simp [madeCells]⟩
  · rintro rfl; rw [hsb] at hgp; simp at hgp
  · rintro rfl; rw [hsb] at hmap; simp at hmap
  · rintro rfl; rw [hgp] at hmap; simp at hmap
  · obtain ⟨cur, hc⟩ := hlx x hx
    refine ⟨?_, ?_, ?_⟩
    · rintro rfl; rw [hsb] at hc; simp at hc
    · rintro rfl; rw [hgp] at hc; simp at hc
    · rintro rfl; rw [hmap] at hc; simp at hc
  · rintro x (rfl | rfl | rfl | h)
    · exact (Array.getElem?_eq_some_iff.1 hsb).1
    · exact (Array.getElem?_eq_some_iff.1 hgp).1
    · exact hgm.lt
    · exact (hlv.lt x h).2

theorem info_part : (Try.prog.info? 75).map (fun i => (i.zero, i.size, i.bytes)) = some (some (.agg #[.slice none 0 0, .bool false]), 2, 32) := by kernel_rfl

set_option maxRecDepth 100000 in
set_option maxHeartbeats 4000000 in
theorem new_ok {lv : Value} {n : Nat} {l : List Stp} {w : World} (h1 : 1 ≤ n) (h4 : n ≤ 4) (ho : Ov w lv l) (hc : checkB l = true) :
    Calls Try.prog 14 #[.int .i64 n, lv] w fun e w' => ∃ (v : Value) (D : Nat → Prop), e = .returned (.tuple #[v, .int .i64 0]) ∧ Src D w' v (newS n l) ∧ Below w.heap.size w w' ∧ ∀ b, D b → w.heap.size ≤ b := by
  have HV : Hid (Ov w lv l) := ho
  obtain ⟨⟨ao, cap, rfl, g1, g2, g3, g4⟩, g5⟩ := ho
  have HO : Hid (Ol w ao l) := g4
  have HL : Hid (l.length ≤ maxLen) := Nat.le_trans g1 g2
  have HC : Hid (chkI l = 0) := by show _ = _; unfold chkI; rw [hc]; rfl
  have HOK : Hid (∀ o ∈ l, o.ok) := g5
  have HN : Hid (1 ≤ n ∧ n ≤ 4) := ⟨h1, h4⟩
  have HCB : Hid (checkB l = true) := hc
  have HL8 : Hid (l.length ≤ 1048576) := by
    show _ ≤ _
    unfold checkB at hc
    simp at hc
    omega
  have hmm := @run_makeMap Try.prog
  obtain ⟨i0, hi0, hz0, hz1, hz2⟩ := info_partsV info_part
  clear g1 g2 g3 g4 g5 hc
  go_enter Try.func14, Try.ntmps14
  go_wp2_with fail
  refine (check_walk HL.out HO.out).mono ?_
  rw [HC.out]
  rintro e w1 ⟨rfl, hB⟩
  have HB1 : Hid (Below w.heap.size w w1) := hB
  have HV1 : Hid (Ov w1 (.slice ao l.length cap) l) := HV.out.below hB
  clear hB
  have HMK : Hid (∀ wx, (Instr.makeSlice 70 (.int .i64 n) (.int .i64 n)).run Try.prog wx = .ok (.slice (some ⟨wx.heap.size, 0, none⟩) n n) (wx.alloc (.cells (madeCells #[.slice none 0 0, .bool false] (n * 2)) 75))) := fun wx => by
    have := run_make (P := Try.prog) wx 70 75 i0 (.agg #[.slice none 0 0, .bool false]) Try.underlying70 hi0 hz0 .i64 .i64 n n (by omega) (Int.le_refl _) (by rw [hz2]; omega) (by omega)
    rw [hz1] at this
    simp only [Int.toNat_natCast] at this
    exact this
  obtain ⟨Z, hZ⟩ : ∃ Z, Z = madeCells #[.slice none 0 0, .bool false] (n * 2) := ⟨_, rfl⟩
  rw [← hZ] at HMK
  have hmk := HMK.out
  have HZZ : Hid (Z = madeCells #[.slice none 0 0, .bool false] (n * 2)) := hZ
  clear hZ HMK hi0 hz0 hz1 hz2
  go_wp2_with fail
  go_cut [7] (fun sv wx => ∃ sb, sv = .pointer (some ⟨sb, 0, none⟩) ∧ Nw w1 l n Z sb wx)
  case first =>
    go_region_with ((go_at_call 28; refine (cloneO_walk (HV1.out.below (by first | exact (Below.refl _ _).drew | exact (below_alloc _ _).drew | exact (below_trans (below_alloc _ _) (below_alloc _ _)).drew)) HL8.out).mono ?_; rintro e w5 ⟨v5, rfl, ho5, hB5⟩; obtain ⟨ao5, cap5, hv5, _⟩ := row_form ho5; subst hv5))
    all_goals go_wp2_with fail
    all_goals go_meet
    · have b5 := undrew hB5
      exact nw_end (by simp) (keepP (heap_alloc_new w5 _) (below_alloc _ _)) (by have := ks_made (w5.alloc (Obj.cells Z 75)); simpa using this) ((ho5.alloc _).alloc _) (Nat.le_refl _) (below_trans (below_trans b5 (below_alloc _ _)) (below_alloc _ _)) b5.size (by have := b5.size; omega)
    · have b5 := undrew hB5
      exact nw_end (by simp) (by have := heap_alloc_new (w5.alloc (Obj.map #[] 0)) (Obj.cells Z 75); simpa using this) ((ks_made w5).below (below_alloc _ _)) ((ho5.alloc _).alloc _) (Nat.le_refl _) (below_trans (below_trans b5 (below_alloc _ _)) (below_alloc _ _)) (by have := b5.size; omega) b5.size
    · have b5 := undrew hB5
      have b0 := below_alloc w1 (Obj.cells Z 75)
      exact nw_end (by simp) (keepP (keepP (heap_alloc_new w1 _) b5) (below_alloc _ _)) (ks_made w5) (ho5.alloc _) b0.size (below_trans (below_trans b0 b5) (below_alloc _ _)) (Nat.le_refl _) (Nat.le_trans b0.size b5.size)
    · have b5 := undrew hB5
      have b0 := below_trans (below_alloc w1 (Obj.cells Z 75)) (below_alloc _ (Obj.map #[] 0))
      exact nw_end rfl (keepP (keepP (heap_alloc_new w1 _) (below_alloc _ _)) b5) ((by have := ks_made (w1.alloc (Obj.cells Z 75)); simpa using this : Ks ((w1.alloc (Obj.cells Z 75)).alloc (Obj.map #[] 0)) (w1.heap.size + 1) []).below b5) ho5 b0.size (below_trans b0 b5) (Nat.le_refl _) (by omega)
    · have b5 := undrew hB5
      have b0 := below_alloc w1 (Obj.map #[] 0)
      exact nw_end (by simp) (heap_alloc_new w5 _) (((ks_made w1).below b5).below (below_alloc _ _)) (ho5.alloc _) b0.size (below_trans (below_trans b0 b5) (below_alloc _ _)) (Nat.le_trans b0.size b5.size) (Nat.le_refl _)
    · have b5 := undrew hB5
      have b0 := below_trans (below_alloc w1 (Obj.map #[] 0)) (below_alloc _ (Obj.cells Z 75))
      exact nw_end rfl (keepP (by have := heap_alloc_new (w1.alloc (Obj.map #[] 0)) (Obj.cells Z 75); simpa using this) b5) (((ks_made w1).below (below_alloc _ _)).below b5) ho5 b0.size (below_trans b0 b5) (by omega) (Nat.le_refl _)
  case rest =>
    obtain ⟨sb, rfl, gp, gm, lv, hsb, hgp, hgm, hlv, hBc, q1, q2, q3⟩ := hcut
    have HX : Hid (SM (fun x => x = sb ∨ x = gp ∨ x = gm ∨ lv.ownBlock = some x) wc sb gp gm lv (fun _ => .slice none 0 0) (newO n l 0)) := nw_sm HN.out (by rw [HZZ.out]) HOK.out hsb hgp hgm hlv
    have HBC : Hid (Below w1.heap.size w1 wc) := hBc
    have HD : Hid (∀ x, (x = sb ∨ x = gp ∨ x = gm ∨ lv.ownBlock = some x) → w1.heap.size ≤ x) := by
      rintro x (rfl | rfl | rfl | h)
      · exact q3
      · exact q1
      · exact q2
      · exact (hlv.lt x h).1
    have c1 := HX.out.c1
    change wc.cell? ⟨sb, 1, none⟩ = some (.slice (some ⟨gp, 0, none⟩) n n) at c1
    clear hsb hgp hgm hlv hBc q1 q2 q3 hmk hmm
    go_wp2_with fail
    go_loopw [32] (fun iv wr => ∃ k : Nat, k ≤ n ∧ iv = .int .i64 k ∧ SM (fun x => x = sb ∨ x = gp ∨ x = gm ∨ lv.ownBlock = some x) wr sb gp gm lv (fun _ => .slice none 0 0) (newO n l k) ∧ Below w1.heap.size w1 wr) (fun iv _ => n - (intOf iv).toNat)
    case atStart => exact ⟨0, Nat.zero_le _, rfl, HX.out, HBC.out⟩
    case round =>
      clear HX HBC c1
      obtain ⟨k, hk, rfl, hS, hB⟩ := hrel
      have HS : Hid (SM (fun x => x = sb ∨ x = gp ∨ x = gm ∨ lv.ownBlock = some x) wr sb gp gm lv (fun _ => .slice none 0 0) (newO n l k)) := hS
      have HB : Hid (Below w1.heap.size w1 wr) := hB
      clear hS hB
      by_cases hlt : k < n
      · have c1 : wr.cell? ⟨sb, 1, none⟩ = some (.slice (some ⟨gp, 0, none⟩) n n) := HS.out.c1
        have p1 : wr.cell? ⟨gp, k * 2 + 1, none⟩ = some (.bool (decide (k < k))) := HS.out.p1 (p := k) hlt
        have f1 := HS.out.soft (k * 2 + 1)
        have R' : ∃ j : Nat, j ≤ n ∧ Value.int .i64 ((k : Int) + 1) = .int .i64 j ∧ SM (fun x => x = sb ∨ x = gp ∨ x = gm ∨ lv.ownBlock = some x) (wr.setCell ⟨gp, k * 2 + 1, none⟩ (.bool true)) sb gp gm lv (fun _ => .slice none 0 0) (newO n l j) ∧ Below w1.heap.size w1 (wr.setCell ⟨gp, k * 2 + 1, none⟩ (.bool true)) :=
          ⟨k + 1, hlt, by simp, by have := HS.out.setOn (q := k) hlt true; rw [newO_step] at this; exact this, HB.out.setCell (HD.out gp (.inr (.inl rfl))) _⟩
        go_wp2_with fail
        go_roundw
        case rel => exact R'
        case measure => simp [intOf]; omega
      · obtain rfl : k = n := by omega
        go_wp2_with fail
        go_ret2
        exact ⟨_, _, rfl, ⟨sb, gp, gm, lv, _, rfl, HS.out, ok_new h1 h4 HCB.out HOK.out⟩, below_trans HB1.out HB.out, fun b hb => Nat.le_trans HB1.out.size (HD.out b hb)⟩
end Go.Proofs.Ytjkhegekojflhab
