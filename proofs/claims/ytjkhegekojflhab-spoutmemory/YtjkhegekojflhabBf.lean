/- The reference's New; all calls at no source. -/
import Derived.Test.YtjkhegekojflhabBd
namespace Go.Proofs.Ytjkhegekojflhab
open Ieee Go.RowKit

theorem rnew_arg {lv : Value} {parts : Int} {w : World} (hp : parts < 1 ∨ 4 < parts) :
    Calls Try.prog 15 #[.int .i64 parts, lv] w fun e w' => e = .returned (.tuple #[.pointer none, .int .i64 1]) ∧ w' = w := by
  by_cases h1 : parts < 1
  · clear hp
    go_enter Try.func15, Try.ntmps15
    go_wp2_with fail
    go_ret2
    exact ⟨rfl, rfl⟩
  · have h4 : 4 < parts := by omega
    clear hp
    go_enter Try.func15, Try.ntmps15
    go_wp2_with fail
    go_ret2
    exact ⟨rfl, rfl⟩

theorem rnew_ops {lv : Value} {parts : Int} {l : List Stp} {w : World} (h1 : 1 ≤ parts) (h4 : parts ≤ 4) (ho : Ov w lv l) (hc : checkB l = false) :
    Calls Try.prog 15 #[.int .i64 parts, lv] w fun e w' => e = .returned (.tuple #[.pointer none, .int .i64 30]) ∧ Below w.heap.size w w' := by
  obtain ⟨⟨ao, cap, rfl, g1, g2, g3, g4⟩, g5⟩ := ho
  have HO : Hid (Ol w ao l) := g4
  have HL : Hid (l.length ≤ maxLen) := Nat.le_trans g1 g2
  have HC : Hid (chkI l = 30) := by show _ = _; unfold chkI; rw [hc]; rfl
  clear g1 g2 g3 g4 g5 hc
  go_enter Try.func15, Try.ntmps15
  go_wp2_with fail
  refine (rcheck_walk HL.out HO.out).mono ?_
  rw [HC.out]
  rintro e w1 ⟨rfl, hB⟩
  go_wp2_with fail
  go_ret2
  exact ⟨rfl, hB⟩

theorem rnw_rm {wx : World} {l : List Stp} {n gp gq sb base : Nat} {Z Y : Array Value} {lv : Value} (hn : 1 ≤ n ∧ n ≤ 4) (hZ : Z = madeCells #[.slice none 0 0] (n * 1)) (hY : Y = madeCells #[.bool false] (n * 1)) (hok : ∀ o ∈ l, o.ok)
    (hsb : wx.heap[sb]? = some (.cells #[.slice (some ⟨gp, 0, none⟩) n n, .slice (some ⟨gq, 0, none⟩) n n, lv] 79 (0, 0))) (hgp : wx.heap[gp]? = some (.cells Z 22 (0, 0))) (hgq : wx.heap[gq]? = some (.cells Y 4 (0, 0)))
    (hlv : wx.ownsRow base 55 3 lv l.length (flat l)) : RM (fun x => x = sb ∨ x = gp ∨ x = gq ∨ lv.ownBlock = some x) wx sb gp gq lv (fun _ => .slice none 0 0) (newS n l) := by
  have hlx : ∀ x, lv.ownBlock = some x → ∃ cur, wx.heap[x]? = some (.cells cur 55 (0, 0)) := by
    intro x hx
    rcases hlv.2 with ⟨rfl, _⟩ | ⟨g, cap, cur, rfl, _, hg, _⟩
    · cases hx
    · simp [Value.ownBlock] at hx; subst hx; exact ⟨cur, hg⟩
  have hz : ∀ p, p < n → Z[p]? = some (.slice none 0 0) := by
    obtain ⟨a, b⟩ := hn
    have : n = 1 ∨ n = 2 ∨ n = 3 ∨ n = 4 := by omega
    intro p hp
    have hp4 : p = 0 ∨ p = 1 ∨ p = 2 ∨ p = 3 := by omega
    rw [hZ]
    rcases this with rfl | rfl | rfl | rfl <;> rcases hp4 with rfl | rfl | rfl | rfl <;> first | omega | simp [madeCells]
  have hy : ∀ p, p < n → Y[p]? = some (.bool false) := by
    obtain ⟨a, b⟩ := hn
    have : n = 1 ∨ n = 2 ∨ n = 3 ∨ n = 4 := by omega
    intro p hp
    have hp4 : p = 0 ∨ p = 1 ∨ p = 2 ∨ p = 3 := by omega
    rw [hY]
    rcases this with rfl | rfl | rfl | rfl <;> rcases hp4 with rfl | rfl | rfl | rfl <;> first | omega | simp [madeCells]
  refine ⟨hsb, ⟨Z, hgp, ?_, hz⟩, ⟨Y, hgq, ?_, fun p hp => ?_⟩, own_ovS hlv hok, fun p _ => World.ownsRow_nil _ _ _ _, ?_, ?_, ?_, fun p x _ hx => (by cases hx), fun x hx => ?_, fun p q x _ _ _ hx => (by cases hx), ⟨.inl rfl, .inr (.inl rfl), .inr (.inr (.inl rfl))⟩, fun p x _ hx => (by cases hx), fun x hx => .inr (.inr (.inr hx)), ?_⟩
  · rw [hZ, size_madeCells]; show n * 1 = n; omega
  · rw [hY, size_madeCells]; show n * 1 = n; omega
  · change p < n at hp
    have e : (newS n l).on p = true := decide_eq_true hp
    rw [hy p hp, e]; rfl
  · rintro rfl; rw [hsb] at hgp; simp at hgp
  · rintro rfl; rw [hsb] at hgq; simp at hgq
  · rintro rfl; rw [hgp] at hgq; simp at hgq
  · obtain ⟨cur, hc⟩ := hlx x hx
    refine ⟨?_, ?_, ?_⟩
    · rintro rfl; rw [hsb] at hc; simp at hc
    · rintro rfl; rw [hgp] at hc; simp at hc
    · rintro rfl; rw [hgq] at hc; simp at hc
  · rintro x (rfl | rfl | rfl | h)
    · exact (Array.getElem?_eq_some_iff.1 hsb).1
    · exact (Array.getElem?_eq_some_iff.1 hgp).1
    · exact (Array.getElem?_eq_some_iff.1 hgq).1
    · exact (hlv.lt x h).2

theorem info_rrow : (Try.prog.info? 22).map (fun i => (i.zero, i.size, i.bytes)) = some (some (.slice none 0 0), 1, 24) := by kernel_rfl
theorem info_boolK : (Try.prog.info? 4).map (fun i => (i.zero, i.size, i.bytes)) = some (some (.bool false), 1, 1) := by kernel_rfl

/-- What the reference's New leaves. -/
def Nr (w : World) (n : Nat) (l : List Stp) (e : Ending) (w' : World) : Prop :=
  ∃ (v : Value) (D : Nat → Prop), e = .returned (.tuple #[v, .int .i64 0]) ∧ Rs D w' v (newS n l) ∧ Below w.heap.size w w' ∧ ∀ b, D b → w.heap.size ≤ b

theorem nr_end {w w2 wy : World} {n : Nat} {l : List Stp} {gp gq sb : Nat} {Z Y : Array Value} {lv : Value} (hn : 1 ≤ n ∧ n ≤ 4) (hZ : Z = madeCells #[.slice none 0 0] (n * 1)) (hY : Y = madeCells #[.bool false] (n * 1)) (hok : ∀ o ∈ l, o.ok) (hc : checkB l = true)
    (hB2 : Below w.heap.size w w2) (hlv : w2.ownsRow w.heap.size 55 3 lv l.length (flat l)) (hy : Below w2.heap.size w2 wy) (g1 : w.heap.size ≤ gp) (g2 : w.heap.size ≤ gq)
    (hgp : wy.heap[gp]? = some (.cells Z 22 (0, 0))) (hgq : wy.heap[gq]? = some (.cells Y 4 (0, 0))) (hs : sb = wy.heap.size) :
    Nr w n l (.returned (.tuple #[.pointer (some ⟨sb, 0, none⟩), .int .i64 0])) (wy.alloc (Obj.cells #[.slice (some ⟨gp, 0, none⟩) n n, .slice (some ⟨gq, 0, none⟩) n n, lv] 79)).drew := by
  subst hs
  have hb := below_alloc wy (Obj.cells #[.slice (some ⟨gp, 0, none⟩) n n, .slice (some ⟨gq, 0, none⟩) n n, lv] 79)
  have hlv2 : (wy.alloc (Obj.cells #[.slice (some ⟨gp, 0, none⟩) n n, .slice (some ⟨gq, 0, none⟩) n n, lv] 79)).ownsRow w.heap.size 55 3 lv l.length (flat l) := row_keep hlv (fun x hx => (below_trans hy hb).block x (hlv.lt x hx).2)
  have hR : Rs _ _ _ _ := ⟨_, gp, gq, lv, _, rfl, rnw_rm hn hZ hY hok (heap_alloc_new wy _) (keepP hgp hb) (keepP hgq hb) hlv2, ok_new hn.1 hn.2 hc hok⟩
  refine ⟨_, _, rfl, hR.below (Below.refl _ _).drew, (below_trans (below_trans hB2 hy) hb).drew, ?_⟩
  rintro b (rfl | rfl | rfl | h)
  · exact Nat.le_trans hB2.size hy.size
  · exact g1
  · exact g2
  · exact (hlv.lt b h).1

set_option maxRecDepth 100000 in
set_option maxHeartbeats 2000000 in
theorem rnew_ok {lv : Value} {n : Nat} {l : List Stp} {w : World} (h1 : 1 ≤ n) (h4 : n ≤ 4) (ho : Ov w lv l) (hc : checkB l = true) :
    Calls Try.prog 15 #[.int .i64 n, lv] w fun e w' => Nr w n l e w' := by
  have HV : Hid (Ov w lv l) := ho
  obtain ⟨⟨ao, cap, rfl, g1, g2, g3, g4⟩, g5⟩ := ho
  have HO : Hid (Ol w ao l) := g4
  have HL : Hid (l.length ≤ maxLen) := Nat.le_trans g1 g2
  have HC : Hid (chkI l = 0) := by show _ = _; unfold chkI; rw [hc]; rfl
  have HOK : Hid (∀ o ∈ l, o.ok) := g5
  have HN : Hid (1 ≤ n ∧ n ≤ 4) := ⟨h1, h4⟩
  have HCB : Hid (checkB l = true) := hc
  have HL8 : Hid (l.length ≤ 1048576) := by
    show _ ≤ _
    unfold checkB at hc
    simp at hc
    omega
  obtain ⟨i0, hi0, hz0, hz1, hz2⟩ := info_partsV info_rrow
  obtain ⟨j0, hj0, hy0, hy1, hy2⟩ := info_partsV info_boolK
  clear g1 g2 g3 g4 g5 hc
  have HMK : Hid (∀ wx, (Instr.makeSlice 76 (.int .i64 n) (.int .i64 n)).run Try.prog wx = .ok (.slice (some ⟨wx.heap.size, 0, none⟩) n n) (wx.alloc (.cells (madeCells #[.slice none 0 0] (n * 1)) 22))) := fun wx => by
    have := run_make (P := Try.prog) wx 76 22 i0 (.slice none 0 0) Try.underlying76 hi0 hz0 .i64 .i64 n n (by omega) (Int.le_refl _) (by rw [hz2]; omega) (by omega)
    rw [hz1] at this
    simp only [Int.toNat_natCast] at this
    exact this
  have HMB : Hid (∀ wx, (Instr.makeSlice 77 (.int .i64 n) (.int .i64 n)).run Try.prog wx = .ok (.slice (some ⟨wx.heap.size, 0, none⟩) n n) (wx.alloc (.cells (madeCells #[.bool false] (n * 1)) 4))) := fun wx => by
    have := run_make (P := Try.prog) wx 77 4 j0 (.bool false) Try.underlying77 hj0 hy0 .i64 .i64 n n (by omega) (Int.le_refl _) (by rw [hy2]; omega) (by omega)
    rw [hy1] at this
    simp only [Int.toNat_natCast] at this
    exact this
  obtain ⟨Z, hZ⟩ : ∃ Z, Z = madeCells #[.slice none 0 0] (n * 1) := ⟨_, rfl⟩
  obtain ⟨Y, hY⟩ : ∃ Y, Y = madeCells #[.bool false] (n * 1) := ⟨_, rfl⟩
  rw [← hZ] at HMK
  rw [← hY] at HMB
  have hmk := HMK.out
  have hmb := HMB.out
  have HZZ : Hid (Z = madeCells #[.slice none 0 0] (n * 1)) := hZ
  have HYY : Hid (Y = madeCells #[.bool false] (n * 1)) := hY
  clear hZ hY HMK HMB hi0 hz0 hz1 hz2 hj0 hy0 hy1 hy2
  go_enter Try.func15, Try.ntmps15
  go_wp2_with fail
  refine (rcheck_walk HL.out HO.out).mono ?_
  rw [HC.out]
  rintro e w1 ⟨rfl, hB⟩
  have HB1 : Hid (Below w.heap.size w w1) := hB
  have HV1 : Hid (Ov (w1.alloc (Obj.cells #[] 55)) (.slice ao l.length cap) l) := (HV.out.below hB).below (below_alloc _ _)
  clear hB
  go_wp2_with (at_builtin; refine wpList_append_sp (by rfl) _ _ 56 (by rfl) w1.heap.size 55 Try.underlying56 info_op _ 0 [] (by rfl) (World.ownsRow_made w1 #[] 0 (Nat.le_refl _) (by simp [maxLen]) (by simp)) _ l (by rfl) HV1.out (by have := HL8.out; simp [maxLen]; omega) (by have := HL8.out; omega) (by simp) ?_; intro v' w2 hown hgrow; obtain ⟨ao2, cap2, hv2, _⟩ := row_form hown; subst hv2)
  have HOW : Hid (w2.ownsRow w.heap.size 55 3 (.slice ao2 l.length cap2) l.length (flat l)) := by
    have h := row_base hown (b' := w.heap.size) (fun x hx => Nat.le_trans HB1.out.size (hown.lt x hx).1)
    have h2 : w2.ownsRow w.heap.size 55 3 (.slice ao2 l.length cap2) l.length (flat l) := by simpa using h
    exact h2
  have HB2 : Hid (Below w.heap.size w w2) := below_trans HB1.out ((below_alloc w1 (Obj.cells #[] 55)).grown hgrow (by simp) (by simp [Value.ownBlock]))
  clear hown hgrow
  go_wp2_with fail
  go_region
  all_goals go_wp2_with fail
  all_goals go_ret2
  · have b1 := below_alloc w2 (Obj.cells Z 22)
    have b2 := below_alloc (w2.alloc (Obj.cells Z 22)) (Obj.cells Y 4)
    exact nr_end (gp := w2.heap.size) (gq := w2.heap.size + 1) (sb := w2.heap.size + 1 + 1) HN.out HZZ.out HYY.out HOK.out HCB.out HB2.out HOW.out (below_trans b1 b2) HB2.out.size (by have := HB2.out.size; omega) (keepP (heap_alloc_new w2 _) b2) (by have := heap_alloc_new (w2.alloc (Obj.cells Z 22)) (Obj.cells Y 4); simpa using this) (by simp)
  · have b1 := below_alloc w2 (Obj.cells Y 4)
    have b2 := below_alloc (w2.alloc (Obj.cells Y 4)) (Obj.cells Z 22)
    exact nr_end (gp := w2.heap.size + 1) (gq := w2.heap.size) (sb := w2.heap.size + 1 + 1) HN.out HZZ.out HYY.out HOK.out HCB.out HB2.out HOW.out (below_trans b1 b2) (by have := HB2.out.size; omega) HB2.out.size (by have := heap_alloc_new (w2.alloc (Obj.cells Y 4)) (Obj.cells Z 22); simpa using this) (keepP (heap_alloc_new w2 _) b2) (by simp)
end Go.Proofs.Ytjkhegekojflhab
