/- SourceExact: of every script over two sources and none, every answer is the reference's: for every number of partitions, every list of steps, every script, no condition. -/
import Derived.Test.YtfgeabcdcepfdaaGreatBe
import Derived.Test.YtfgeabcdcepfdaaGreatVj
import Derived.Test.YtfgeabcdcepfdaaGreatXz
import Derived.Lib.SmallJoins
namespace Go.Proofs.YtfgeabcdcepfdaaGreat
open Ieee Go.RowKit

theorem rnew_arg {lv : Value} {parts : Int} {w : World} (hp : parts < 1 ∨ 4 < parts) :
    Calls Tryz.prog 6 #[.int .i64 parts, lv] w fun e w' => e = .returned (.tuple #[.pointer none, .int .i64 1]) ∧ w' = w := by
  by_cases h1 : parts < 1
  · clear hp
    go_enter Tryz.func6, Tryz.ntmps6
    go_wp2_with fail
    go_ret2
    exact ⟨rfl, rfl⟩
  · have h4 : 4 < parts := by omega
    clear hp
    go_enter Tryz.func6, Tryz.ntmps6
    go_wp2_with fail
    go_ret2
    exact ⟨rfl, rfl⟩

theorem rnew_ops {lv : Value} {parts : Int} {l : List Stp} {w : World} (h1 : 1 ≤ parts) (h4 : parts ≤ 4) (ho : Ov w lv l) (hc : checkB l = false) :
    Calls Tryz.prog 6 #[.int .i64 parts, lv] w fun e w' => e = .returned (.tuple #[.pointer none, .int .i64 30]) ∧ Below w.heap.size w w' := by
  obtain ⟨⟨ao, cap, rfl, g1, g2, g3, g4⟩, g5⟩ := ho
  have HO : Hid (Ol w ao l) := g4
  have HL : Hid (l.length ≤ maxLen) := Nat.le_trans g1 g2
  have HC : Hid (chkI l = 30) := by show _ = _; unfold chkI; rw [hc]; rfl
  clear g1 g2 g3 g4 g5 hc
  go_enter Tryz.func6, Tryz.ntmps6
  go_wp2_with fail
  refine (rcheck_walk HL.out HO.out).mono ?_
  rw [HC.out]
  rintro e w1 ⟨rfl, hB⟩
  go_wp2_with fail
  go_ret2
  exact ⟨rfl, hB⟩

theorem rnw_rm {wx : World} {l : List Stp} {n gp gq sb base : Nat} {Z Y : Array Value} {lv : Value} (hn : 1 ≤ n ∧ n ≤ 4) (hZ : Z = madeCells #[.slice none 0 0] (n * 1)) (hY : Y = madeCells #[.bool false] (n * 1)) (hok : ∀ o ∈ l, o.ok)
    (hsb : wx.heap[sb]? = some (.cells #[.slice (some ⟨gp, 0, none⟩) n n, .slice (some ⟨gq, 0, none⟩) n n, lv] 68 (0, 0))) (hgp : wx.heap[gp]? = some (.cells Z 47 (0, 0))) (hgq : wx.heap[gq]? = some (.cells Y 4 (0, 0)))
    (hlv : wx.ownsRow base 53 3 lv l.length (flat l)) : RM (fun x => x = sb ∨ x = gp ∨ x = gq ∨ lv.ownBlock = some x) wx sb gp gq lv (fun _ => .slice none 0 0) (newS n l) := by
  have hlx : ∀ x, lv.ownBlock = some x → ∃ cur, wx.heap[x]? = some (.cells cur 53 (0, 0)) := by
    intro x hx
    rcases hlv.2 with ⟨rfl, _⟩ | ⟨g, cap, cur, rfl, _, hg, _⟩
    · cases hx
    · simp [Value.ownBlock] at hx; subst hx; exact ⟨cur, hg⟩
  have hz : ∀ p, p < n → Z[p]? = some (.slice none 0 0) := by
    obtain ⟨a, b⟩ := hn
    have : n = 1 ∨ n = 2 ∨ n = 3 ∨ n = 4 := by omega
    intro p hp
    have hp4 : p = 0 ∨ p = 1 ∨ p = 2 ∨ p = 3 := by omega
    rw [hZ]
    rcases this with rfl | rfl | rfl | rfl <;> rcases hp4 with rfl | rfl | rfl | rfl <;> first | omega | simp [madeCells]
  have hy : ∀ p, p < n → Y[p]? = some (.bool false) := by
    obtain ⟨a, b⟩ := hn
    have : n = 1 ∨ n = 2 ∨ n = 3 ∨ n = 4 := by omega
    intro p hp
    have hp4 : p = 0 ∨ p = 1 ∨ p = 2 ∨ p = 3 := by omega
    rw [hY]
    rcases this with rfl | rfl | rfl | rfl <;> rcases hp4 with rfl | rfl | rfl | rfl <;> first | omega | simp [madeCells]
  refine ⟨hsb, ⟨Z, hgp, ?_, hz⟩, ⟨Y, hgq, ?_, fun p hp => ?_⟩, own_ovS hlv hok, fun p _ => World.ownsRow_nil _ _ _ _, ?_, ?_, ?_, fun p x _ hx => (by cases hx), fun x hx => ?_, fun p q x _ _ _ hx => (by cases hx), ⟨.inl rfl, .inr (.inl rfl), .inr (.inr (.inl rfl))⟩, fun p x _ hx => (by cases hx), fun x hx => .inr (.inr (.inr hx)), ?_⟩
  · rw [hZ, size_madeCells]; show n * 1 = n; omega
  · rw [hY, size_madeCells]; show n * 1 = n; omega
  · change p < n at hp
    have e : (newS n l).on p = true := decide_eq_true hp
    rw [hy p hp, e]; rfl
  · rintro rfl; rw [hsb] at hgp; simp at hgp
  · rintro rfl; rw [hsb] at hgq; simp at hgq
  · rintro rfl; rw [hgp] at hgq; simp at hgq
  · obtain ⟨cur, hc⟩ := hlx x hx
    refine ⟨?_, ?_, ?_⟩
    · rintro rfl; rw [hsb] at hc; simp at hc
    · rintro rfl; rw [hgp] at hc; simp at hc
    · rintro rfl; rw [hgq] at hc; simp at hc
  · rintro x (rfl | rfl | rfl | h)
    · exact (Array.getElem?_eq_some_iff.1 hsb).1
    · exact (Array.getElem?_eq_some_iff.1 hgp).1
    · exact (Array.getElem?_eq_some_iff.1 hgq).1
    · exact (hlv.lt x h).2

theorem info_rrow : (Tryz.prog.info? 47).map (fun i => (i.zero, i.size, i.bytes)) = some (some (.slice none 0 0), 1, 24) := by kernel_rfl
theorem info_boolK : (Tryz.prog.info? 4).map (fun i => (i.zero, i.size, i.bytes)) = some (some (.bool false), 1, 1) := by kernel_rfl

/-- What the reference's New leaves. -/
def Nr (w : World) (n : Nat) (l : List Stp) (e : Ending) (w' : World) : Prop :=
  ∃ (v : Value) (D : Nat → Prop), e = .returned (.tuple #[v, .int .i64 0]) ∧ Rs D w' v (newS n l) ∧ Below w.heap.size w w' ∧ ∀ b, D b → w.heap.size ≤ b

theorem nr_end {w w2 wy : World} {n : Nat} {l : List Stp} {gp gq sb : Nat} {Z Y : Array Value} {lv : Value} (hn : 1 ≤ n ∧ n ≤ 4) (hZ : Z = madeCells #[.slice none 0 0] (n * 1)) (hY : Y = madeCells #[.bool false] (n * 1)) (hok : ∀ o ∈ l, o.ok) (hc : checkB l = true)
    (hB2 : Below w.heap.size w w2) (hlv : w2.ownsRow w.heap.size 53 3 lv l.length (flat l)) (hy : Below w2.heap.size w2 wy) (g1 : w.heap.size ≤ gp) (g2 : w.heap.size ≤ gq)
    (hgp : wy.heap[gp]? = some (.cells Z 47 (0, 0))) (hgq : wy.heap[gq]? = some (.cells Y 4 (0, 0))) (hs : sb = wy.heap.size) :
    Nr w n l (.returned (.tuple #[.pointer (some ⟨sb, 0, none⟩), .int .i64 0])) (wy.alloc (Obj.cells #[.slice (some ⟨gp, 0, none⟩) n n, .slice (some ⟨gq, 0, none⟩) n n, lv] 68)).drew := by
  subst hs
  have hb := below_alloc wy (Obj.cells #[.slice (some ⟨gp, 0, none⟩) n n, .slice (some ⟨gq, 0, none⟩) n n, lv] 68)
  have hlv2 : (wy.alloc (Obj.cells #[.slice (some ⟨gp, 0, none⟩) n n, .slice (some ⟨gq, 0, none⟩) n n, lv] 68)).ownsRow w.heap.size 53 3 lv l.length (flat l) := row_keep hlv (fun x hx => (below_trans hy hb).block x (hlv.lt x hx).2)
  have hR : Rs _ _ _ _ := ⟨_, gp, gq, lv, _, rfl, rnw_rm hn hZ hY hok (heap_alloc_new wy _) (keepP hgp hb) (keepP hgq hb) hlv2, ok_new hn.1 hn.2 hc hok⟩
  refine ⟨_, _, rfl, hR.below (Below.refl _ _).drew, (below_trans (below_trans hB2 hy) hb).drew, ?_⟩
  rintro b (rfl | rfl | rfl | h)
  · exact Nat.le_trans hB2.size hy.size
  · exact g1
  · exact g2
  · exact (hlv.lt b h).1

set_option maxRecDepth 100000 in
set_option maxHeartbeats 2000000 in
theorem rnew_ok {lv : Value} {n : Nat} {l : List Stp} {w : World} (h1 : 1 ≤ n) (h4 : n ≤ 4) (ho : Ov w lv l) (hc : checkB l = true) :
    Calls Tryz.prog 6 #[.int .i64 n, lv] w fun e w' => Nr w n l e w' := by
  have HV : Hid (Ov w lv l) := ho
  obtain ⟨⟨ao, cap, rfl, g1, g2, g3, g4⟩, g5⟩ := ho
  have HO : Hid (Ol w ao l) := g4
  have HL : Hid (l.length ≤ maxLen) := Nat.le_trans g1 g2
  have HC : Hid (chkI l = 0) := by show _ = _; unfold chkI; rw [hc]; rfl
  have HOK : Hid (∀ o ∈ l, o.ok) := g5
  have HN : Hid (1 ≤ n ∧ n ≤ 4) := ⟨h1, h4⟩
  have HCB : Hid (checkB l = true) := hc
  have HL8 : Hid (l.length ≤ 1048576) := by
    show _ ≤ _
    unfold checkB at hc
    simp at hc
    omega
  obtain ⟨i0, hi0, hz0, hz1, hz2⟩ := info_partsV info_rrow
  obtain ⟨j0, hj0, hy0, hy1, hy2⟩ := info_partsV info_boolK
  clear g1 g2 g3 g4 g5 hc
  have HMK : Hid (∀ wx, (Instr.makeSlice 65 (.int .i64 n) (.int .i64 n)).run Tryz.prog wx = .ok (.slice (some ⟨wx.heap.size, 0, none⟩) n n) (wx.alloc (.cells (madeCells #[.slice none 0 0] (n * 1)) 47))) := fun wx => by
    have := run_make (P := Tryz.prog) wx 65 47 i0 (.slice none 0 0) Tryz.underlying65 hi0 hz0 .i64 .i64 n n (by omega) (Int.le_refl _) (by rw [hz2]; omega) (by omega)
    rw [hz1] at this
    simp only [Int.toNat_natCast] at this
    exact this
  have HMB : Hid (∀ wx, (Instr.makeSlice 66 (.int .i64 n) (.int .i64 n)).run Tryz.prog wx = .ok (.slice (some ⟨wx.heap.size, 0, none⟩) n n) (wx.alloc (.cells (madeCells #[.bool false] (n * 1)) 4))) := fun wx => by
    have := run_make (P := Tryz.prog) wx 66 4 j0 (.bool false) Tryz.underlying66 hj0 hy0 .i64 .i64 n n (by omega) (Int.le_refl _) (by rw [hy2]; omega) (by omega)
    rw [hy1] at this
    simp only [Int.toNat_natCast] at this
    exact this
  obtain ⟨Z, hZ⟩ : ∃ Z, Z = madeCells #[.slice none 0 0] (n * 1) := ⟨_, rfl⟩
  obtain ⟨Y, hY⟩ : ∃ Y, Y = madeCells #[.bool false] (n * 1) := ⟨_, rfl⟩
  rw [← hZ] at HMK
  rw [← hY] at HMB
  have hmk := HMK.out
  have hmb := HMB.out
  have HZZ : Hid (Z = madeCells #[.slice none 0 0] (n * 1)) := hZ
  have HYY : Hid (Y = madeCells #[.bool false] (n * 1)) := hY
  clear hZ hY HMK HMB hi0 hz0 hz1 hz2 hj0 hy0 hy1 hy2
  go_enter Tryz.func6, Tryz.ntmps6
  go_wp2_with fail
  refine (rcheck_walk HL.out HO.out).mono ?_
  rw [HC.out]
  rintro e w1 ⟨rfl, hB⟩
  have HB1 : Hid (Below w.heap.size w w1) := hB
  have HV1 : Hid (Ov (w1.alloc (Obj.cells #[] 53)) (.slice ao l.length cap) l) := (HV.out.below hB).below (below_alloc _ _)
  clear hB
  go_wp2_with (at_builtin; refine wpList_append_sp (by rfl) _ _ 22 (by rfl) w1.heap.size 53 Tryz.underlying22 info_op _ 0 [] (by rfl) (World.ownsRow_made w1 #[] 0 (Nat.le_refl _) (by simp [maxLen]) (by simp)) _ l (by rfl) HV1.out (by have := HL8.out; simp [maxLen]; omega) (by have := HL8.out; omega) (by simp) ?_; intro v' w2 hown hgrow; obtain ⟨ao2, cap2, hv2, _⟩ := row_form hown; subst hv2)
  have HOW : Hid (w2.ownsRow w.heap.size 53 3 (.slice ao2 l.length cap2) l.length (flat l)) := by
    have h := row_base hown (b' := w.heap.size) (fun x hx => Nat.le_trans HB1.out.size (hown.lt x hx).1)
    have h2 : w2.ownsRow w.heap.size 53 3 (.slice ao2 l.length cap2) l.length (flat l) := by simpa using h
    exact h2
  have HB2 : Hid (Below w.heap.size w w2) := below_trans HB1.out ((below_alloc w1 (Obj.cells #[] 53)).grown hgrow (by simp) (by simp [Value.ownBlock]))
  clear hown hgrow
  go_wp2_with fail
  go_region
  all_goals go_wp2_with fail
  all_goals go_ret2
  · have b1 := below_alloc w2 (Obj.cells Z 47)
    have b2 := below_alloc (w2.alloc (Obj.cells Z 47)) (Obj.cells Y 4)
    exact nr_end (gp := w2.heap.size) (gq := w2.heap.size + 1) (sb := w2.heap.size + 1 + 1) HN.out HZZ.out HYY.out HOK.out HCB.out HB2.out HOW.out (below_trans b1 b2) HB2.out.size (by have := HB2.out.size; omega) (keepP (heap_alloc_new w2 _) b2) (by have := heap_alloc_new (w2.alloc (Obj.cells Z 47)) (Obj.cells Y 4); simpa using this) (by simp)
  · have b1 := below_alloc w2 (Obj.cells Y 4)
    have b2 := below_alloc (w2.alloc (Obj.cells Y 4)) (Obj.cells Z 47)
    exact nr_end (gp := w2.heap.size + 1) (gq := w2.heap.size) (sb := w2.heap.size + 1 + 1) HN.out HZZ.out HYY.out HOK.out HCB.out HB2.out HOW.out (below_trans b1 b2) (by have := HB2.out.size; omega) HB2.out.size (by have := heap_alloc_new (w2.alloc (Obj.cells Y 4)) (Obj.cells Z 47); simpa using this) (keepP (heap_alloc_new w2 _) b2) (by simp)
end Go.Proofs.YtfgeabcdcepfdaaGreat

namespace Go.Proofs.YtfgeabcdcepfdaaGreat
open Ieee Go.RowKit

set_option maxRecDepth 100000 in
theorem rhas_nil (p : Int) (w : World) : Calls Tryz.prog 35 #[.pointer none, .int .i64 p] w fun e w' => e = .returned (.bool false) ∧ w' = w := by
  go_enter Tryz.func35, Tryz.ntmps35
  go_wp2_with fail
  go_ret
  exact ⟨rfl, rfl⟩

set_option maxRecDepth 100000 in
theorem parts_nil (w : World) : Calls Tryz.prog 11 #[.pointer none] w fun e w' => e = .returned (.int .i64 0) ∧ w' = w := by
  go_enter Tryz.func11, Tryz.ntmps11
  go_wp2_with fail
  go_ret
  exact ⟨rfl, rfl⟩

set_option maxRecDepth 100000 in
theorem up_nil (p : Int) (w : World) : Calls Tryz.prog 16 #[.pointer none, .int .i64 p] w fun e w' => e = .returned (.bool false) ∧ w' = w := by
  go_enter Tryz.func16, Tryz.ntmps16
  go_wp2_with (go_at_call 33; refine (part_nil _ _).mono ?_; rintro e w9 ⟨rfl, h9⟩; have h9 := h9.symm; subst h9)
  go_ret
  exact ⟨rfl, rfl⟩

set_option maxRecDepth 100000 in
theorem len_nil (p : Int) (w : World) : Calls Tryz.prog 18 #[.pointer none, .int .i64 p] w fun e w' => e = .returned (.int .i64 0) ∧ w' = w := by
  go_enter Tryz.func18, Tryz.ntmps18
  go_wp2_with (go_at_call 33; refine (part_nil _ _).mono ?_; rintro e w9 ⟨rfl, h9⟩; have h9 := h9.symm; subst h9)
  go_ret
  exact ⟨rfl, rfl⟩

set_option maxRecDepth 100000 in
theorem switch_nil (p : Int) (on : Bool) (w : World) : Calls Tryz.prog 26 #[.pointer none, .int .i64 p, .bool on] w fun e w' => e = .returned (.int .i64 2) ∧ w' = w := by
  go_enter Tryz.func26, Tryz.ntmps26
  go_wp2_with (go_at_call 33; refine (part_nil _ _).mono ?_; rintro e w9 ⟨rfl, h9⟩; have h9 := h9.symm; subst h9)
  go_ret
  exact ⟨rfl, rfl⟩

set_option maxRecDepth 100000 in
theorem produce_nil (p : Int) (r : Rcd) (w : World) : Calls Tryz.prog 20 #[.pointer none, .int .i64 p, .agg #[.int .u64 r.k, .float .f64 r.x]] w fun e w' => e = .returned (.int .i64 2) ∧ Below w.heap.size w w' := by
  go_enter Tryz.func20, Tryz.ntmps20
  go_wp2_with (go_at_call 33; refine (part_nil _ _).mono ?_; rintro e w9 ⟨rfl, h9⟩; have h9 := h9.symm; subst h9)
  go_ret
  exact ⟨rfl, below_alloc _ _⟩

set_option maxRecDepth 100000 in
theorem read_nil (p x m : Int) (w : World) : Calls Tryz.prog 21 #[.pointer none, .int .i64 p, .int .i64 x, .int .i64 m] w fun e w' => ∃ r, e = .returned (.tuple #[r, .int .i64 2]) ∧ w'.ownsRow w.heap.size 38 2 r 0 [] ∧ Below w.heap.size w w' := by
  go_enter Tryz.func21, Tryz.ntmps21
  go_wp2_with (go_at_call 33; refine (part_nil _ _).mono ?_; rintro e w9 ⟨rfl, h9⟩; have h9 := h9.symm; subst h9)
  go_ret2
  exact ⟨_, rfl, World.ownsRow_nil _ _ _ _, below_same _⟩

set_option maxRecDepth 100000 in
theorem log_nil (p : Int) (w : World) : Calls Tryz.prog 14 #[.pointer none, .int .i64 p] w fun e w' => ∃ r, e = .returned r ∧ w'.ownsRow w.heap.size 38 2 r 0 [] ∧ Below w.heap.size w w' := by
  go_enter Tryz.func14, Tryz.ntmps14
  go_wp2_with (go_at_call 33; refine (part_nil _ _).mono ?_; rintro e w9 ⟨rfl, h9⟩; have h9 := h9.symm; subst h9)
  go_ret
  exact ⟨_, rfl, World.ownsRow_nil _ _ _ _, below_same _⟩

set_option maxRecDepth 100000 in
theorem rparts_nil (w : World) : Calls Tryz.prog 12 #[.pointer none] w fun e w' => e = .returned (.int .i64 0) ∧ w' = w := by
  go_enter Tryz.func12, Tryz.ntmps12
  go_wp2_with fail
  go_ret
  exact ⟨rfl, rfl⟩

set_option maxRecDepth 100000 in
theorem rup_nil (p : Int) (w : World) : Calls Tryz.prog 17 #[.pointer none, .int .i64 p] w fun e w' => e = .returned (.bool false) ∧ w' = w := by
  go_enter Tryz.func17, Tryz.ntmps17
  go_wp2_with (go_at_call 35; refine (rhas_nil _ _).mono ?_; rintro e w9 ⟨rfl, h9⟩; have h9 := h9.symm; subst h9)
  go_ret
  exact ⟨rfl, rfl⟩

set_option maxRecDepth 100000 in
theorem rlen_nil (p : Int) (w : World) : Calls Tryz.prog 19 #[.pointer none, .int .i64 p] w fun e w' => e = .returned (.int .i64 0) ∧ w' = w := by
  go_enter Tryz.func19, Tryz.ntmps19
  go_wp2_with (go_at_call 35; refine (rhas_nil _ _).mono ?_; rintro e w9 ⟨rfl, h9⟩; have h9 := h9.symm; subst h9)
  go_ret
  exact ⟨rfl, rfl⟩

set_option maxRecDepth 100000 in
theorem rswitch_nil (p : Int) (on : Bool) (w : World) : Calls Tryz.prog 27 #[.pointer none, .int .i64 p, .bool on] w fun e w' => e = .returned (.int .i64 2) ∧ w' = w := by
  go_enter Tryz.func27, Tryz.ntmps27
  go_wp2_with fail
  go_ret
  exact ⟨rfl, rfl⟩

set_option maxRecDepth 100000 in
theorem rproduce_nil (p : Int) (r : Rcd) (w : World) : Calls Tryz.prog 25 #[.pointer none, .int .i64 p, .agg #[.int .u64 r.k, .float .f64 r.x]] w fun e w' => e = .returned (.int .i64 2) ∧ Below w.heap.size w w' := by
  go_enter Tryz.func25, Tryz.ntmps25
  go_wp2_with fail
  go_ret
  exact ⟨rfl, below_alloc _ _⟩

set_option maxRecDepth 100000 in
theorem rread_nil (p x m : Int) (w : World) : Calls Tryz.prog 28 #[.pointer none, .int .i64 p, .int .i64 x, .int .i64 m] w fun e w' => ∃ r, e = .returned (.tuple #[r, .int .i64 2]) ∧ w'.ownsRow w.heap.size 38 2 r 0 [] ∧ Below w.heap.size w w' := by
  go_enter Tryz.func28, Tryz.ntmps28
  go_wp2_with fail
  go_ret2
  exact ⟨_, rfl, World.ownsRow_nil _ _ _ _, below_same _⟩

set_option maxRecDepth 100000 in
theorem rlog_nil (p : Int) (w : World) : Calls Tryz.prog 15 #[.pointer none, .int .i64 p] w fun e w' => ∃ r, e = .returned r ∧ w'.ownsRow w.heap.size 38 2 r 0 [] ∧ Below w.heap.size w w' := by
  go_enter Tryz.func15, Tryz.ntmps15
  go_wp2_with (go_at_call 35; refine (rhas_nil _ _).mono ?_; rintro e w9 ⟨rfl, h9⟩; have h9 := h9.symm; subst h9)
  go_ret
  exact ⟨_, rfl, World.ownsRow_made w #[] 0 (Nat.le_refl _) (by simp [maxLen]) (by simp), below_alloc _ _⟩

set_option maxRecDepth 100000 in
theorem rkeys_nil (w : World) : Calls Tryz.prog 10 #[.pointer none] w fun e w' => ∃ r, e = .returned r ∧ w'.ownsRow w.heap.size 35 1 r 0 [] ∧ Below w.heap.size w w' := by
  go_enter Tryz.func10, Tryz.ntmps10
  go_wp2_with fail
  go_loopw [3, 4] (fun lv pv wr => lv = .slice (some ⟨w.heap.size, 0, none⟩) 0 0 ∧ pv = .int .i64 0 ∧ wr = w.alloc (Obj.cells #[] 35)) (fun _ _ _ => 0)
  case atStart => exact ⟨rfl, rfl, rfl⟩
  case round =>
    obtain ⟨rfl, rfl, hwr⟩ := hrel
    have hw2 := hwr.symm
    subst hw2
    go_wp2_with (go_at_call 12; refine (rparts_nil _).mono ?_; rintro e w9 ⟨rfl, h9⟩; have h9 := h9.symm; subst h9)
    go_ret
    exact ⟨_, rfl, World.ownsRow_made w #[] 0 (Nat.le_refl _) (by simp [maxLen]) (by simp), below_alloc _ _⟩

end Go.Proofs.YtfgeabcdcepfdaaGreat

namespace Go.Proofs.YtfgeabcdcepfdaaGreat
open Ieee Go.RowKit

def keysO : Option Sc → List Nat | none => [] | some S => S.keys
def logO (o : Option Sc) (p : Int) : List Rcd := match o with | none => [] | some S => logS S p
def lenO (o : Option Sc) (p : Int) : Nat := match o with | none => 0 | some S => lenS S p
def upO (o : Option Sc) (p : Int) : Bool := match o with | none => false | some S => upS S p
def partsO (o : Option Sc) : Nat := match o with | none => 0 | some S => S.np
def readOI (o : Option Sc) (p x m : Int) : Int := match o with | none => 2 | some S => readI S p x m
def readOL (o : Option Sc) (p x m : Int) : List Rcd := match o with | none => [] | some S => readL S p x m
def switchOI (o : Option Sc) (p : Int) : Int := match o with | none => 2 | some S => switchI S p
def switchO (o : Option Sc) (p : Int) (on : Bool) : Option Sc := match o with | none => none | some S => some (switchS S p on)
def prodOI (o : Option Sc) (p : Int) (r : Rcd) : Int := match o with | none => 2 | some S => (prodS S p r).1
def prodO (o : Option Sc) (p : Int) (r : Rcd) : Option Sc := match o with | none => none | some S => some (prodS S p r).2

/-- sv is the source o1 and tv the reference's source o2, or there is none of both; their memory is of D, and neither's is the other's. -/
def Pg (D : Nat → Prop) (w : World) (sv tv : Value) (o1 o2 : Option Sc) : Prop :=
  (∀ x, D x → x < w.heap.size) ∧ ((o1 = none ∧ o2 = none ∧ sv = .pointer none ∧ tv = .pointer none) ∨ ∃ S1 S2 Ds Dt, o1 = some S1 ∧ o2 = some S2 ∧ Src Ds w sv S1 ∧ Rs Dt w tv S2 ∧ (∀ x, Ds x → ¬ Dt x) ∧ (∀ x, Ds x → D x) ∧ (∀ x, Dt x → D x))

section
variable {D E : Nat → Prop} {w w' : World} {sv tv : Value} {o1 o2 : Option Sc}
theorem Pg.below (h : Pg D w sv tv o1 o2) (hb : Below w.heap.size w w') : Pg D w' sv tv o1 o2 := by
  obtain ⟨hl, h | ⟨S1, S2, Ds, Dt, e1, e2, h1, h2, h3, h4, h5⟩⟩ := h
  · exact ⟨fun x hx => Nat.lt_of_lt_of_le (hl x hx) hb.size, .inl h⟩
  · exact ⟨fun x hx => Nat.lt_of_lt_of_le (hl x hx) hb.size, .inr ⟨S1, S2, Ds, Dt, e1, e2, h1.below hb, h2.below hb, h3, h4, h5⟩⟩
theorem Pg.ch (h : Pg E w sv tv o1 o2) (hc : Ch D w w') (hd : ∀ x, E x → ¬ D x) : Pg E w' sv tv o1 o2 := by
  obtain ⟨hl, h | ⟨S1, S2, Ds, Dt, e1, e2, h1, h2, h3, h4, h5⟩⟩ := h
  · exact ⟨fun x hx => Nat.lt_of_lt_of_le (hl x hx) hc.size, .inl h⟩
  · exact ⟨fun x hx => Nat.lt_of_lt_of_le (hl x hx) hc.size, .inr ⟨S1, S2, Ds, Dt, e1, e2, h1.keep (fun x hx => hc.block x (h1.lt hx) (hd x (h4 x hx))) hc.size, h2.keep (fun x hx => hc.block x (h2.lt hx) (hd x (h5 x hx))) hc.size, h3, h4, h5⟩⟩
theorem logS_ok {S : Sc} (h : S.ok) (p : Int) : ∀ r ∈ logS S p, r.ok := by
  unfold logS
  split
  · exact h.rok _
  · simp
theorem readL_ok {S : Sc} (h : S.ok) (p x m : Int) : ∀ r ∈ readL S p x m, r.ok := by
  unfold readL
  split
  · exact fun r hr => h.rok _ r (List.mem_of_mem_drop (List.mem_of_mem_take hr))
  · simp
theorem logO_len (h : Pg D w sv tv o1 o2) (p : Int) : (logO o1 p).length ≤ 1048576 := by
  obtain ⟨hl, ⟨rfl, _⟩ | ⟨S1, S2, Ds, Dt, rfl, e2, h1, h2, h3, h4, h5⟩⟩ := h
  · simp [logO]
  · show (logS S1 p).length ≤ _
    unfold logS
    split
    · have := h1.good.len p.toNat; omega
    · simp
theorem readO_len (h : Pg D w sv tv o1 o2) (p x m : Int) : (readOL o1 p x m).length ≤ 1048576 := by
  obtain ⟨hl, ⟨rfl, _⟩ | ⟨S1, S2, Ds, Dt, rfl, e2, h1, h2, h3, h4, h5⟩⟩ := h
  · simp [readOL]
  · show (readL S1 p x m).length ≤ _
    unfold readL
    split
    · have := h1.good.len p.toNat; simp; omega
    · simp
theorem keysO_len (h : Pg D w sv tv o1 o2) : (keysO o1).length ≤ 1048576 := by
  obtain ⟨hl, ⟨rfl, _⟩ | ⟨S1, S2, Ds, Dt, rfl, e2, h1, h2, h3, h4, h5⟩⟩ := h
  · simp [keysO]
  · have := h1.good.kl; show S1.keys.length ≤ _; omega

theorem zpartsP (h : Pg D w sv tv o1 o2) : Calls Tryz.prog 11 #[sv] w fun e w' => e = .returned (.int .i64 (partsO o1)) ∧ w' = w := by
  obtain ⟨hl, ⟨e1, e2, rfl, rfl⟩ | ⟨S1, S2, Ds, Dt, e1, e2, h1, h2, h3, h4, h5⟩⟩ := h
  · subst e1
    exact parts_nil w
  · subst e1
    exact parts_walk h1
theorem zupP (h : Pg D w sv tv o1 o2) (p : Int) : Calls Tryz.prog 16 #[sv, .int .i64 p] w fun e w' => e = .returned (.bool (upO o1 p)) ∧ w' = w := by
  obtain ⟨hl, ⟨e1, e2, rfl, rfl⟩ | ⟨S1, S2, Ds, Dt, e1, e2, h1, h2, h3, h4, h5⟩⟩ := h
  · subst e1
    exact up_nil p w
  · subst e1
    exact up_walk h1 p
theorem zlenP (h : Pg D w sv tv o1 o2) (p : Int) : Calls Tryz.prog 18 #[sv, .int .i64 p] w fun e w' => e = .returned (.int .i64 (lenO o1 p)) ∧ w' = w := by
  obtain ⟨hl, ⟨e1, e2, rfl, rfl⟩ | ⟨S1, S2, Ds, Dt, e1, e2, h1, h2, h3, h4, h5⟩⟩ := h
  · subst e1
    exact len_nil p w
  · subst e1
    exact len_walk h1 p
theorem zlogP (h : Pg D w sv tv o1 o2) (p : Int) : Calls Tryz.prog 14 #[sv, .int .i64 p] w fun e w' => ∃ ao cap, e = .returned (.slice ao (logO o1 p).length cap) ∧ Rl w' ao (logO o1 p) ∧ Below w.heap.size w w' := by
  obtain ⟨hl, ⟨e1, e2, rfl, rfl⟩ | ⟨S1, S2, Ds, Dt, e1, e2, h1, h2, h3, h4, h5⟩⟩ := h
  · subst e1
    refine (log_nil p w).mono ?_
    rintro e w1 ⟨r, rfl, hr, hB⟩
    obtain ⟨ao, cap, rfl, hR⟩ := own_rl (l := []) hr (by simp)
    exact ⟨ao, cap, rfl, hR, hB⟩
  · subst e1
    refine (log_walk h1 p).mono ?_
    rintro e w1 ⟨r, rfl, hr, hB⟩
    obtain ⟨ao, cap, rfl, hR⟩ := own_rl hr (logS_ok h1.good p)
    exact ⟨ao, cap, rfl, hR, hB⟩
theorem zreadP (h : Pg D w sv tv o1 o2) (p x m : Int) (hx : -9223372036854775808 ≤ x ∧ x < 9223372036854775808) (hm : m < 9223372036854775808) : Calls Tryz.prog 21 #[sv, .int .i64 p, .int .i64 x, .int .i64 m] w fun e w' => ∃ ao cap, e = .returned (.tuple #[.slice ao (readOL o1 p x m).length cap, .int .i64 (readOI o1 p x m)]) ∧ Rl w' ao (readOL o1 p x m) ∧ Below w.heap.size w w' := by
  obtain ⟨hl, ⟨e1, e2, rfl, rfl⟩ | ⟨S1, S2, Ds, Dt, e1, e2, h1, h2, h3, h4, h5⟩⟩ := h
  · subst e1
    refine (read_nil p x m w).mono ?_
    rintro e w1 ⟨r, rfl, hr, hB⟩
    obtain ⟨ao, cap, rfl, hR⟩ := own_rl (l := []) hr (by simp)
    exact ⟨ao, cap, rfl, hR, hB⟩
  · subst e1
    refine (read_walk h1 p x m hx hm).mono ?_
    rintro e w1 ⟨r, rfl, hr, hB⟩
    obtain ⟨ao, cap, rfl, hR⟩ := own_rl hr (readL_ok h1.good p x m)
    exact ⟨ao, cap, rfl, hR, hB⟩
theorem zkeysP (h : Pg D w sv tv o1 o2) : Calls Tryz.prog 9 #[sv] w fun e w' => ∃ ao cap, e = .returned (.slice ao (keysO o1).length cap) ∧ Kl w' ao (keysO o1) ∧ Below w.heap.size w w' := by
  obtain ⟨hl, ⟨e1, e2, rfl, rfl⟩ | ⟨S1, S2, Ds, Dt, e1, e2, h1, h2, h3, h4, h5⟩⟩ := h
  · subst e1
    refine (keys_nil w).mono ?_
    rintro e w1 ⟨rfl, rfl⟩
    exact ⟨none, 0, rfl, fun i hi => by simp [keysO] at hi, below_same _⟩
  · subst e1
    refine (keys_walk h1).mono ?_
    rintro e w1 ⟨r, rfl, hr, hB⟩
    obtain ⟨ao, cap, rfl, hR⟩ := own_kl hr
    exact ⟨ao, cap, rfl, hR, hB⟩
theorem zswitchP (h : Pg D w sv tv o1 o2) (p : Int) (on : Bool) : Calls Tryz.prog 26 #[sv, .int .i64 p, .bool on] w fun e w' => e = .returned (.int .i64 (switchOI o1 p)) ∧ ∃ D', Pg D' w' sv tv (switchO o1 p on) o2 ∧ Ch D w w' ∧ ∀ b, D' b → D b ∨ w.heap.size ≤ b := by
  obtain ⟨hl, ⟨e1, e2, rfl, rfl⟩ | ⟨S1, S2, Ds, Dt, e1, e2, h1, h2, h3, h4, h5⟩⟩ := h
  · subst e1 e2
    refine (switch_nil p on w).mono ?_
    rintro e w1 ⟨rfl, hB⟩
    have hB' : Below w.heap.size w w1 := by rw [hB]; exact below_same _
    exact ⟨rfl, D, ⟨fun x hx => Nat.lt_of_lt_of_le (hl x hx) hB'.size, .inl ⟨rfl, rfl, rfl, rfl⟩⟩, Ch.of_below hB', fun b hb => .inl hb⟩
  · subst e1 e2
    refine (switch_walk h1 p on).mono ?_
    rintro e w1 ⟨rfl, hN, hC⟩
    obtain ⟨Ds', hDs⟩ : ∃ Ds', Ds' = Ds := ⟨_, rfl⟩
    rw [← hDs] at hN
    have hD : ∀ b, Ds' b → Ds b ∨ w.heap.size ≤ b := fun b hb => .inl (by rw [← hDs]; exact hb)
    have hO : Rs Dt w1 tv S2 := h2.keep (fun x hx => hC.block x (h2.lt hx) (fun hd => h3 x hd hx)) hC.size
    have hC2 : Ch D w w1 := ⟨hC.os, hC.tape, hC.output, hC.size, fun k hk hd => hC.block k hk (fun q => hd (h4 k q))⟩
    refine ⟨rfl, fun x => Ds' x ∨ Dt x ∨ D x, ⟨?_, .inr ⟨_, S2, Ds', Dt, rfl, rfl, hN, hO, fun x hx ht => by rcases hD x hx with q | q; exact h3 x q ht; have := h2.lt ht; omega, fun x hx => .inl hx, fun x hx => .inr (.inl hx)⟩⟩, hC2, ?_⟩
    · rintro x (hx | hx | hx)
      · exact hN.lt hx
      · exact hO.lt hx
      · exact Nat.lt_of_lt_of_le (hl x hx) hC.size
    · rintro x (hx | hx | hx)
      · rcases hD x hx with q | q
        · exact .inl (h4 x q)
        · exact .inr q
      · exact .inl (h5 x hx)
      · exact .inl hx
theorem zprodP (h : Pg D w sv tv o1 o2) (p : Int) {r : Rcd} (hr : r.ok) : Calls Tryz.prog 20 #[sv, .int .i64 p, .agg #[.int .u64 r.k, .float .f64 r.x]] w fun e w' => e = .returned (.int .i64 (prodOI o1 p r)) ∧ ∃ D', Pg D' w' sv tv (prodO o1 p r) o2 ∧ Ch D w w' ∧ ∀ b, D' b → D b ∨ w.heap.size ≤ b := by
  obtain ⟨hl, ⟨e1, e2, rfl, rfl⟩ | ⟨S1, S2, Ds, Dt, e1, e2, h1, h2, h3, h4, h5⟩⟩ := h
  · subst e1 e2
    refine (produce_nil p r w).mono ?_
    rintro e w1 ⟨rfl, hB⟩
    have hB' : Below w.heap.size w w1 := hB
    exact ⟨rfl, D, ⟨fun x hx => Nat.lt_of_lt_of_le (hl x hx) hB'.size, .inl ⟨rfl, rfl, rfl, rfl⟩⟩, Ch.of_below hB', fun b hb => .inl hb⟩
  · subst e1 e2
    refine (produce_walk h1 p hr).mono ?_
    rintro e w1 ⟨rfl, ⟨Ds', hN, hC, hD⟩, _⟩
    have hO : Rs Dt w1 tv S2 := h2.keep (fun x hx => hC.block x (h2.lt hx) (fun hd => h3 x hd hx)) hC.size
    have hC2 : Ch D w w1 := ⟨hC.os, hC.tape, hC.output, hC.size, fun k hk hd => hC.block k hk (fun q => hd (h4 k q))⟩
    refine ⟨rfl, fun x => Ds' x ∨ Dt x ∨ D x, ⟨?_, .inr ⟨_, S2, Ds', Dt, rfl, rfl, hN, hO, fun x hx ht => by rcases hD x hx with q | q; exact h3 x q ht; have := h2.lt ht; omega, fun x hx => .inl hx, fun x hx => .inr (.inl hx)⟩⟩, hC2, ?_⟩
    · rintro x (hx | hx | hx)
      · exact hN.lt hx
      · exact hO.lt hx
      · exact Nat.lt_of_lt_of_le (hl x hx) hC.size
    · rintro x (hx | hx | hx)
      · rcases hD x hx with q | q
        · exact .inl (h4 x q)
        · exact .inr q
      · exact .inl (h5 x hx)
      · exact .inl hx

theorem zpartsR (h : Pg D w sv tv o1 o2) : Calls Tryz.prog 12 #[tv] w fun e w' => e = .returned (.int .i64 (partsO o2)) ∧ w' = w := by
  obtain ⟨hl, ⟨e1, e2, rfl, rfl⟩ | ⟨S1, S2, Ds, Dt, e1, e2, h1, h2, h3, h4, h5⟩⟩ := h
  · subst e2
    exact rparts_nil w
  · subst e2
    exact rparts_walk h2
theorem zupR (h : Pg D w sv tv o1 o2) (p : Int) : Calls Tryz.prog 17 #[tv, .int .i64 p] w fun e w' => e = .returned (.bool (upO o2 p)) ∧ w' = w := by
  obtain ⟨hl, ⟨e1, e2, rfl, rfl⟩ | ⟨S1, S2, Ds, Dt, e1, e2, h1, h2, h3, h4, h5⟩⟩ := h
  · subst e2
    exact rup_nil p w
  · subst e2
    exact rup_walk h2 p
theorem zlenR (h : Pg D w sv tv o1 o2) (p : Int) : Calls Tryz.prog 19 #[tv, .int .i64 p] w fun e w' => e = .returned (.int .i64 (lenO o2 p)) ∧ w' = w := by
  obtain ⟨hl, ⟨e1, e2, rfl, rfl⟩ | ⟨S1, S2, Ds, Dt, e1, e2, h1, h2, h3, h4, h5⟩⟩ := h
  · subst e2
    exact rlen_nil p w
  · subst e2
    exact rlen_walk h2 p
theorem zlogR (h : Pg D w sv tv o1 o2) (p : Int) : Calls Tryz.prog 15 #[tv, .int .i64 p] w fun e w' => ∃ ao cap, e = .returned (.slice ao (logO o2 p).length cap) ∧ Rl w' ao (logO o2 p) ∧ Below w.heap.size w w' := by
  obtain ⟨hl, ⟨e1, e2, rfl, rfl⟩ | ⟨S1, S2, Ds, Dt, e1, e2, h1, h2, h3, h4, h5⟩⟩ := h
  · subst e2
    refine (rlog_nil p w).mono ?_
    rintro e w1 ⟨r, rfl, hr, hB⟩
    obtain ⟨ao, cap, rfl, hR⟩ := own_rl (l := []) hr (by simp)
    exact ⟨ao, cap, rfl, hR, hB⟩
  · subst e2
    refine (rlog_walk h2 p).mono ?_
    rintro e w1 ⟨r, rfl, hr, hB⟩
    obtain ⟨ao, cap, rfl, hR⟩ := own_rl hr (logS_ok h2.good p)
    exact ⟨ao, cap, rfl, hR, hB⟩
theorem zreadR (h : Pg D w sv tv o1 o2) (p x m : Int) : Calls Tryz.prog 28 #[tv, .int .i64 p, .int .i64 x, .int .i64 m] w fun e w' => ∃ ao cap, e = .returned (.tuple #[.slice ao (readOL o2 p x m).length cap, .int .i64 (readOI o2 p x m)]) ∧ Rl w' ao (readOL o2 p x m) ∧ Below w.heap.size w w' := by
  obtain ⟨hl, ⟨e1, e2, rfl, rfl⟩ | ⟨S1, S2, Ds, Dt, e1, e2, h1, h2, h3, h4, h5⟩⟩ := h
  · subst e2
    refine (rread_nil p x m w).mono ?_
    rintro e w1 ⟨r, rfl, hr, hB⟩
    obtain ⟨ao, cap, rfl, hR⟩ := own_rl (l := []) hr (by simp)
    exact ⟨ao, cap, rfl, hR, hB⟩
  · subst e2
    refine (rread_walk h2 p x m).mono ?_
    rintro e w1 ⟨r, rfl, hr, hB⟩
    obtain ⟨ao, cap, rfl, hR⟩ := own_rl hr (readL_ok h2.good p x m)
    exact ⟨ao, cap, rfl, hR, hB⟩
theorem zkeysR (h : Pg D w sv tv o1 o2) : Calls Tryz.prog 10 #[tv] w fun e w' => ∃ ao cap, e = .returned (.slice ao (keysO o2).length cap) ∧ Kl w' ao (keysO o2) ∧ Below w.heap.size w w' := by
  obtain ⟨hl, ⟨e1, e2, rfl, rfl⟩ | ⟨S1, S2, Ds, Dt, e1, e2, h1, h2, h3, h4, h5⟩⟩ := h
  · subst e2
    refine (rkeys_nil w).mono ?_
    rintro e w1 ⟨r, rfl, hr, hB⟩
    obtain ⟨ao, cap, rfl, hR⟩ := own_kl (l := []) hr
    exact ⟨ao, cap, rfl, hR, hB⟩
  · subst e2
    refine (rkeys_walk h2).mono ?_
    rintro e w1 ⟨g, cap, rfl, hU, hg, hB⟩
    obtain ⟨ao, cap', e9, hR⟩ := own_kl (hU.own (Nat.zero_le g))
    cases e9
    exact ⟨_, _, rfl, hR, hB⟩
theorem zswitchR (h : Pg D w sv tv o1 o2) (p : Int) (on : Bool) : Calls Tryz.prog 27 #[tv, .int .i64 p, .bool on] w fun e w' => e = .returned (.int .i64 (switchOI o2 p)) ∧ ∃ D', Pg D' w' sv tv o1 (switchO o2 p on) ∧ Ch D w w' ∧ ∀ b, D' b → D b ∨ w.heap.size ≤ b := by
  obtain ⟨hl, ⟨e1, e2, rfl, rfl⟩ | ⟨S1, S2, Ds, Dt, e1, e2, h1, h2, h3, h4, h5⟩⟩ := h
  · subst e1 e2
    refine (rswitch_nil p on w).mono ?_
    rintro e w1 ⟨rfl, hB⟩
    have hB' : Below w.heap.size w w1 := by rw [hB]; exact below_same _
    exact ⟨rfl, D, ⟨fun x hx => Nat.lt_of_lt_of_le (hl x hx) hB'.size, .inl ⟨rfl, rfl, rfl, rfl⟩⟩, Ch.of_below hB', fun b hb => .inl hb⟩
  · subst e1 e2
    refine (rswitch_walk h2 p on).mono ?_
    rintro e w1 ⟨rfl, hN, hC⟩
    obtain ⟨Ds', hDs⟩ : ∃ Ds', Ds' = Dt := ⟨_, rfl⟩
    rw [← hDs] at hN
    have hD : ∀ b, Ds' b → Dt b ∨ w.heap.size ≤ b := fun b hb => .inl (by rw [← hDs]; exact hb)
    have hO : Src Ds w1 sv S1 := h1.keep (fun x hx => hC.block x (h1.lt hx) (fun hd => h3 x hx hd)) hC.size
    have hC2 : Ch D w w1 := ⟨hC.os, hC.tape, hC.output, hC.size, fun k hk hd => hC.block k hk (fun q => hd (h5 k q))⟩
    refine ⟨rfl, fun x => Ds' x ∨ Ds x ∨ D x, ⟨?_, .inr ⟨S1, _, Ds, Ds', rfl, rfl, hO, hN, fun x hx ht => by rcases hD x ht with q | q; exact h3 x hx q; have := h1.lt hx; omega, fun x hx => .inr (.inl hx), fun x hx => .inl hx⟩⟩, hC2, ?_⟩
    · rintro x (hx | hx | hx)
      · exact hN.lt hx
      · exact hO.lt hx
      · exact Nat.lt_of_lt_of_le (hl x hx) hC.size
    · rintro x (hx | hx | hx)
      · rcases hD x hx with q | q
        · exact .inl (h5 x q)
        · exact .inr q
      · exact .inl (h4 x hx)
      · exact .inl hx
theorem zprodR (h : Pg D w sv tv o1 o2) (p : Int) {r : Rcd} (hr : r.ok) : Calls Tryz.prog 25 #[tv, .int .i64 p, .agg #[.int .u64 r.k, .float .f64 r.x]] w fun e w' => e = .returned (.int .i64 (prodOI o2 p r)) ∧ ∃ D', Pg D' w' sv tv o1 (prodO o2 p r) ∧ Ch D w w' ∧ ∀ b, D' b → D b ∨ w.heap.size ≤ b := by
  obtain ⟨hl, ⟨e1, e2, rfl, rfl⟩ | ⟨S1, S2, Ds, Dt, e1, e2, h1, h2, h3, h4, h5⟩⟩ := h
  · subst e1 e2
    refine (rproduce_nil p r w).mono ?_
    rintro e w1 ⟨rfl, hB⟩
    have hB' : Below w.heap.size w w1 := hB
    exact ⟨rfl, D, ⟨fun x hx => Nat.lt_of_lt_of_le (hl x hx) hB'.size, .inl ⟨rfl, rfl, rfl, rfl⟩⟩, Ch.of_below hB', fun b hb => .inl hb⟩
  · subst e1 e2
    refine (rproduce_walk h2 p hr).mono ?_
    rintro e w1 ⟨rfl, ⟨Ds', hN, hC, hD⟩⟩
    have hO : Src Ds w1 sv S1 := h1.keep (fun x hx => hC.block x (h1.lt hx) (fun hd => h3 x hx hd)) hC.size
    have hC2 : Ch D w w1 := ⟨hC.os, hC.tape, hC.output, hC.size, fun k hk hd => hC.block k hk (fun q => hd (h5 k q))⟩
    refine ⟨rfl, fun x => Ds' x ∨ Ds x ∨ D x, ⟨?_, .inr ⟨S1, _, Ds, Ds', rfl, rfl, hO, hN, fun x hx ht => by rcases hD x ht with q | q; exact h3 x hx q; have := h1.lt hx; omega, fun x hx => .inr (.inl hx), fun x hx => .inl hx⟩⟩, hC2, ?_⟩
    · rintro x (hx | hx | hx)
      · exact hN.lt hx
      · exact hO.lt hx
      · exact Nat.lt_of_lt_of_le (hl x hx) hC.size
    · rintro x (hx | hx | hx)
      · rcases hD x hx with q | q
        · exact .inl (h5 x q)
        · exact .inr q
      · exact .inl (h4 x hx)
      · exact .inl hx

end
end Go.Proofs.YtfgeabcdcepfdaaGreat

namespace Go.Proofs.YtfgeabcdcepfdaaGreat
open Ieee Go.RowKit

/-- A call of a script. -/
structure Cc where
  K : Int
  On : Int
  P : Int
  F : Int
  M : Int
  r : Rcd
structure Cc.ok (c : Cc) : Prop where
  K : -9223372036854775808 ≤ c.K ∧ c.K < 9223372036854775808
  On : -9223372036854775808 ≤ c.On ∧ c.On < 9223372036854775808
  P : -9223372036854775808 ≤ c.P ∧ c.P < 9223372036854775808
  F : -9223372036854775808 ≤ c.F ∧ c.F < 9223372036854775808
  M : -9223372036854775808 ≤ c.M ∧ c.M < 9223372036854775808
  r : c.r.ok
def Cc.row (c : Cc) : Array Value := #[.int .i64 c.K, .int .i64 c.On, .int .i64 c.P, .int .i64 c.F, .int .i64 c.M, .int .u64 c.r.k, .float .f64 c.r.x]

/-- What one call of a script leaves. -/
def Rt (D : Nat → Prop) (w : World) (sv tv : Value) (e : Ending) (w' : World) : Prop :=
  e = .returned (.bool true) ∧ ∃ D' o', Pg D' w' sv tv o' o' ∧ Ch D w w' ∧ ∀ b, D' b → D b ∨ w.heap.size ≤ b

section
variable {D : Nat → Prop} {w : World} {sv tv : Value} {o : Option Sc}
theorem rt_same {w' : World} (h : Pg D w sv tv o o) (hb : Below w.heap.size w w') : Rt D w sv tv (.returned (.bool true)) w' := ⟨rfl, D, o, h.below hb, Ch.of_below hb, fun _ hb => .inl hb⟩
theorem rt_two {w0 w1 w2 : World} {D1 D2 : Nat → Prop} {o' : Option Sc} (hb : Below w.heap.size w w0) (c1 : Ch D w0 w1) (d1 : ∀ b, D1 b → D b ∨ w0.heap.size ≤ b) (c2 : Ch D1 w1 w2) (d2 : ∀ b, D2 b → D1 b ∨ w1.heap.size ≤ b) (h : Pg D2 w2 sv tv o' o') : Rt D w sv tv (.returned (.bool true)) w2 := by
  have s0 := hb.size
  have s1 := c1.size
  refine ⟨rfl, D2, o', h, ((Ch.of_below (D := D) hb).trans c1 (fun x hx => .inl hx)).trans c2 (fun x hx => ?_), fun b hb => ?_⟩
  · rcases d1 x hx with q | q
    · exact .inl q
    · exact .inr (by omega)
  · rcases d2 b hb with q | q
    · rcases d1 b q with q | q
      · exact .inl q
      · exact .inr (by omega)
    · exact .inr (by omega)
/-- The block b is as it was. -/
def Oq (w0 : World) (b : Nat) (wx : World) : Prop := wx.heap[b]? = w0.heap[b]?
theorem Oq.cell {w0 wx : World} {b i : Nat} {u : Value} (h : Oq w0 b wx) (hc : w0.cell? ⟨b, i, none⟩ = some u) : wx.cell? ⟨b, i, none⟩ = some u := by rw [World.cell?_of_block (w := w0) (a := ⟨b, i, none⟩) h]; exact hc

set_option maxRecDepth 100000 in
set_option maxHeartbeats 2000000 in
theorem right_1 (h : Pg D w sv tv o o) (On P F M : Int) {r : Rcd} (hr : r.ok) : Calls Tryz.prog 7 #[sv, tv, .agg #[.int .i64 1, .int .i64 On, .int .i64 P, .int .i64 F, .int .i64 M, .int .u64 r.k, .float .f64 r.x]] w fun e w' => Rt D w sv tv e w' := by
  have HG : Hid (Pg D w sv tv o o) := h
  obtain ⟨w0, hw0⟩ : ∃ w0, w0 = w.alloc (Obj.cells #[.int .i64 1, .int .i64 On, .int .i64 P, .int .i64 F, .int .i64 M, .int .u64 r.k, .float .f64 r.x] 40) := ⟨_, rfl⟩
  have HB0 : Hid (Below w.heap.size w w0) := by show Below _ _ _; rw [hw0]; exact below_alloc _ _
  have HG0 : Hid (Pg D w0 sv tv o o) := h.below HB0.out
  have HW0 : Hid (w0 = w.alloc (Obj.cells #[.int .i64 1, .int .i64 On, .int .i64 P, .int .i64 F, .int .i64 M, .int .u64 r.k, .float .f64 r.x] 40)) := hw0
  have HND : Hid (¬ D w.heap.size) := fun hd => by have := h.1 _ hd; omega
  have HLT : Hid (w.heap.size < w0.heap.size) := by show _ < _; rw [hw0]; simp
  have k2 : w0.cell? ⟨w.heap.size, 2, none⟩ = some (.int .i64 P) := by rw [hw0]; simp [go_sem]
  have k3 : w0.cell? ⟨w.heap.size, 3, none⟩ = some (.int .i64 F) := by rw [hw0]; simp [go_sem]
  have k4 : w0.cell? ⟨w.heap.size, 4, none⟩ = some (.int .i64 M) := by rw [hw0]; simp [go_sem]
  have k5 : w0.cell? ⟨w.heap.size, 5, none⟩ = some (.int .u64 r.k) := by rw [hw0]; simp [go_sem]
  have k6 : w0.cell? ⟨w.heap.size, 6, none⟩ = some (.float .f64 r.x) := by rw [hw0]; simp [go_sem]
  clear h hw0
  have j2 : ∀ wx, Oq w0 w.heap.size wx → wx.cell? ⟨w.heap.size, 2, none⟩ = some (.int .i64 P) := fun wx hq => hq.cell k2
  have j5 : ∀ wx, Oq w0 w.heap.size wx → wx.cell? ⟨w.heap.size, 5, none⟩ = some (.int .u64 r.k) := fun wx hq => hq.cell k5
  have j6 : ∀ wx, Oq w0 w.heap.size wx → wx.cell? ⟨w.heap.size, 6, none⟩ = some (.float .f64 r.x) := fun wx hq => hq.cell k6
  have HR : Hid r.ok := hr
  clear hr k2 k3 k4 k5 k6
  go_enter Tryz.func7, Tryz.ntmps7
  go_wp2_with fail
  rw [← HW0.out]
  go_region_held3 (fun wx => Oq w0 w.heap.size wx) (first | assumption | exact (rfl : Oq w0 w.heap.size w0.drew))
    (first
      | (go_at_call 20; refine (zprodP (HG0.out.below (Below.refl _ _).drew) P HR.out).mono ?_; rintro e w5 ⟨rfl, D1, hG1, hC1, hD1⟩; have hS5 : Oq w0 w.heap.size w5 := hC1.block _ HLT.out HND.out)
      | (go_at_call 25; refine (zprodR hG1 P HR.out).mono ?_; rintro e w6 ⟨rfl, D2, hG2, hC2, hD2⟩; have hS6 : Oq w0 w.heap.size w6 := by have hn : ¬ D1 w.heap.size := (fun hd => by rcases hD1 _ hd with q | q; exact HND.out q; exact absurd (show w0.heap.size ≤ w.heap.size from q) (Nat.not_le.2 HLT.out)); exact (hC2.block _ (Nat.lt_of_lt_of_le HLT.out hC1.size) hn).trans hS5))
  all_goals go_wp2_with fail
  all_goals go_ret
  all_goals exact rt_two (HB0.out.drew) hC1 hD1 hC2 hD2 hG2

set_option maxRecDepth 100000 in
set_option maxHeartbeats 2000000 in
theorem right_2 (h : Pg D w sv tv o o) (On P F M : Int) {r : Rcd} (_hr : r.ok) : Calls Tryz.prog 7 #[sv, tv, .agg #[.int .i64 2, .int .i64 On, .int .i64 P, .int .i64 F, .int .i64 M, .int .u64 r.k, .float .f64 r.x]] w fun e w' => Rt D w sv tv e w' := by
  have HG : Hid (Pg D w sv tv o o) := h
  obtain ⟨w0, hw0⟩ : ∃ w0, w0 = w.alloc (Obj.cells #[.int .i64 2, .int .i64 On, .int .i64 P, .int .i64 F, .int .i64 M, .int .u64 r.k, .float .f64 r.x] 40) := ⟨_, rfl⟩
  have HB0 : Hid (Below w.heap.size w w0) := by show Below _ _ _; rw [hw0]; exact below_alloc _ _
  have HG0 : Hid (Pg D w0 sv tv o o) := h.below HB0.out
  have HW0 : Hid (w0 = w.alloc (Obj.cells #[.int .i64 2, .int .i64 On, .int .i64 P, .int .i64 F, .int .i64 M, .int .u64 r.k, .float .f64 r.x] 40)) := hw0
  have HND : Hid (¬ D w.heap.size) := fun hd => by have := h.1 _ hd; omega
  have HLT : Hid (w.heap.size < w0.heap.size) := by show _ < _; rw [hw0]; simp
  have k2 : w0.cell? ⟨w.heap.size, 2, none⟩ = some (.int .i64 P) := by rw [hw0]; simp [go_sem]
  have k3 : w0.cell? ⟨w.heap.size, 3, none⟩ = some (.int .i64 F) := by rw [hw0]; simp [go_sem]
  have k4 : w0.cell? ⟨w.heap.size, 4, none⟩ = some (.int .i64 M) := by rw [hw0]; simp [go_sem]
  have k5 : w0.cell? ⟨w.heap.size, 5, none⟩ = some (.int .u64 r.k) := by rw [hw0]; simp [go_sem]
  have k6 : w0.cell? ⟨w.heap.size, 6, none⟩ = some (.float .f64 r.x) := by rw [hw0]; simp [go_sem]
  clear h hw0
  have j2 : ∀ wx, Oq w0 w.heap.size wx → wx.cell? ⟨w.heap.size, 2, none⟩ = some (.int .i64 P) := fun wx hq => hq.cell k2
  have j4 : ∀ wx, Oq w0 w.heap.size wx → wx.cell? ⟨w.heap.size, 4, none⟩ = some (.int .i64 M) := fun wx hq => hq.cell k4
  clear k2 k3 k4 k5 k6
  obtain ⟨on, hon⟩ : ∃ on, (M != 0) = on := ⟨_, rfl⟩
  go_enter Tryz.func7, Tryz.ntmps7
  go_wp2_with fail
  rw [← HW0.out]
  go_region_held3 (fun wx => Oq w0 w.heap.size wx) (first | assumption | exact (rfl : Oq w0 w.heap.size w0.drew))
    (first
      | (go_at_call 26; refine (zswitchP (HG0.out.below (Below.refl _ _).drew) P on).mono ?_; rintro e w5 ⟨rfl, D1, hG1, hC1, hD1⟩; have hS5 : Oq w0 w.heap.size w5 := hC1.block _ HLT.out HND.out)
      | (go_at_call 27; refine (zswitchR hG1 P on).mono ?_; rintro e w6 ⟨rfl, D2, hG2, hC2, hD2⟩; have hS6 : Oq w0 w.heap.size w6 := by have hn : ¬ D1 w.heap.size := (fun hd => by rcases hD1 _ hd with q | q; exact HND.out q; exact absurd (show w0.heap.size ≤ w.heap.size from q) (Nat.not_le.2 HLT.out)); exact (hC2.block _ (Nat.lt_of_lt_of_le HLT.out hC1.size) hn).trans hS5))
  all_goals go_wp2_with fail
  all_goals go_ret
  all_goals exact rt_two (HB0.out.drew) hC1 hD1 hC2 hD2 hG2

set_option maxRecDepth 100000 in
set_option maxHeartbeats 2000000 in
theorem right_3 (h : Pg D w sv tv o o) (On P F M : Int) {r : Rcd} (_hr : r.ok) : Calls Tryz.prog 7 #[sv, tv, .agg #[.int .i64 3, .int .i64 On, .int .i64 P, .int .i64 F, .int .i64 M, .int .u64 r.k, .float .f64 r.x]] w fun e w' => Rt D w sv tv e w' := by
  have HG : Hid (Pg D w sv tv o o) := h
  obtain ⟨w0, hw0⟩ : ∃ w0, w0 = w.alloc (Obj.cells #[.int .i64 3, .int .i64 On, .int .i64 P, .int .i64 F, .int .i64 M, .int .u64 r.k, .float .f64 r.x] 40) := ⟨_, rfl⟩
  have HB0 : Hid (Below w.heap.size w w0) := by show Below _ _ _; rw [hw0]; exact below_alloc _ _
  have HG0 : Hid (Pg D w0 sv tv o o) := h.below HB0.out
  have HW0 : Hid (w0 = w.alloc (Obj.cells #[.int .i64 3, .int .i64 On, .int .i64 P, .int .i64 F, .int .i64 M, .int .u64 r.k, .float .f64 r.x] 40)) := hw0
  have HND : Hid (¬ D w.heap.size) := fun hd => by have := h.1 _ hd; omega
  have HLT : Hid (w.heap.size < w0.heap.size) := by show _ < _; rw [hw0]; simp
  have k2 : w0.cell? ⟨w.heap.size, 2, none⟩ = some (.int .i64 P) := by rw [hw0]; simp [go_sem]
  have k3 : w0.cell? ⟨w.heap.size, 3, none⟩ = some (.int .i64 F) := by rw [hw0]; simp [go_sem]
  have k4 : w0.cell? ⟨w.heap.size, 4, none⟩ = some (.int .i64 M) := by rw [hw0]; simp [go_sem]
  have k5 : w0.cell? ⟨w.heap.size, 5, none⟩ = some (.int .u64 r.k) := by rw [hw0]; simp [go_sem]
  have k6 : w0.cell? ⟨w.heap.size, 6, none⟩ = some (.float .f64 r.x) := by rw [hw0]; simp [go_sem]
  clear h hw0
  have j2 : ∀ wx, Oq w0 w.heap.size wx → wx.cell? ⟨w.heap.size, 2, none⟩ = some (.int .i64 P) := fun wx hq => hq.cell k2
  clear k2 k3 k4 k5 k6
  go_enter Tryz.func7, Tryz.ntmps7
  go_wp2_with fail
  rw [← HW0.out]
  go_region_held3 (fun wx => Oq w0 w.heap.size wx) (first | assumption | exact (rfl : Oq w0 w.heap.size w0.drew))
    (first
      | (go_at_call 16; refine (zupP (HG0.out.below (Below.refl _ _).drew) P).mono ?_; rintro e w9 ⟨rfl, h9⟩; have h9 := h9.symm; subst h9)
      | (go_at_call 17; refine (zupR (HG0.out.below (Below.refl _ _).drew) P).mono ?_; rintro e w9 ⟨rfl, h9⟩; have h9 := h9.symm; subst h9)
      | (go_at_call 18; refine (zlenP (HG0.out.below (Below.refl _ _).drew) P).mono ?_; rintro e w9 ⟨rfl, h9⟩; have h9 := h9.symm; subst h9)
      | (go_at_call 19; refine (zlenR (HG0.out.below (Below.refl _ _).drew) P).mono ?_; rintro e w9 ⟨rfl, h9⟩; have h9 := h9.symm; subst h9)
      | (go_at_call 11; refine (zpartsP (HG0.out.below (Below.refl _ _).drew)).mono ?_; rintro e w9 ⟨rfl, h9⟩; have h9 := h9.symm; subst h9)
      | (go_at_call 12; refine (zpartsR (HG0.out.below (Below.refl _ _).drew)).mono ?_; rintro e w9 ⟨rfl, h9⟩; have h9 := h9.symm; subst h9))
  all_goals go_wp2_with fail
  all_goals go_ret
  all_goals exact rt_same HG.out HB0.out.drew

set_option maxRecDepth 100000 in
set_option maxHeartbeats 2000000 in
theorem right_4 (h : Pg D w sv tv o o) (On P F M : Int) {r : Rcd} (_hr : r.ok) (hF : -9223372036854775808 ≤ F ∧ F < 9223372036854775808) (hM : M < 9223372036854775808) : Calls Tryz.prog 7 #[sv, tv, .agg #[.int .i64 4, .int .i64 On, .int .i64 P, .int .i64 F, .int .i64 M, .int .u64 r.k, .float .f64 r.x]] w fun e w' => Rt D w sv tv e w' := by
  have HG : Hid (Pg D w sv tv o o) := h
  obtain ⟨w0, hw0⟩ : ∃ w0, w0 = w.alloc (Obj.cells #[.int .i64 4, .int .i64 On, .int .i64 P, .int .i64 F, .int .i64 M, .int .u64 r.k, .float .f64 r.x] 40) := ⟨_, rfl⟩
  have HB0 : Hid (Below w.heap.size w w0) := by show Below _ _ _; rw [hw0]; exact below_alloc _ _
  have HG0 : Hid (Pg D w0 sv tv o o) := h.below HB0.out
  have HW0 : Hid (w0 = w.alloc (Obj.cells #[.int .i64 4, .int .i64 On, .int .i64 P, .int .i64 F, .int .i64 M, .int .u64 r.k, .float .f64 r.x] 40)) := hw0
  have HND : Hid (¬ D w.heap.size) := fun hd => by have := h.1 _ hd; omega
  have HLT : Hid (w.heap.size < w0.heap.size) := by show _ < _; rw [hw0]; simp
  have k2 : w0.cell? ⟨w.heap.size, 2, none⟩ = some (.int .i64 P) := by rw [hw0]; simp [go_sem]
  have k3 : w0.cell? ⟨w.heap.size, 3, none⟩ = some (.int .i64 F) := by rw [hw0]; simp [go_sem]
  have k4 : w0.cell? ⟨w.heap.size, 4, none⟩ = some (.int .i64 M) := by rw [hw0]; simp [go_sem]
  have k5 : w0.cell? ⟨w.heap.size, 5, none⟩ = some (.int .u64 r.k) := by rw [hw0]; simp [go_sem]
  have k6 : w0.cell? ⟨w.heap.size, 6, none⟩ = some (.float .f64 r.x) := by rw [hw0]; simp [go_sem]
  clear h hw0
  have HLN : Hid ((readOL o P F M).length ≤ 1048576) := readO_len HG.out P F M
  have HF : Hid (-9223372036854775808 ≤ F ∧ F < 9223372036854775808) := hF
  have HM : Hid (M < 9223372036854775808) := hM
  clear hF hM
  go_enter Tryz.func7, Tryz.ntmps7
  go_wp2_with fail
  rw [← HW0.out]
  refine (zreadP HG0.out P F M HF.out HM.out).mono ?_
  rintro e w5 ⟨ao, ca, rfl, hR5, hB5⟩
  have HB5 : Hid (Below w0.heap.size w0 w5) := hB5
  have HR5 : Hid (Rl w5 ao (readOL o P F M)) := hR5
  have l2 : w5.cell? ⟨w.heap.size, 2, none⟩ = some (.int .i64 P) := by rw [hB5.cell (p := ⟨w.heap.size, 2, none⟩) HLT.out]; exact k2
  have l3 : w5.cell? ⟨w.heap.size, 3, none⟩ = some (.int .i64 F) := by rw [hB5.cell (p := ⟨w.heap.size, 3, none⟩) HLT.out]; exact k3
  have l4 : w5.cell? ⟨w.heap.size, 4, none⟩ = some (.int .i64 M) := by rw [hB5.cell (p := ⟨w.heap.size, 4, none⟩) HLT.out]; exact k4
  clear hR5 hB5 k2 k3 k4 k5 k6
  go_wp2_with fail
  refine (zreadR (HG0.out.below HB5.out) P F M).mono ?_
  rintro e w6 ⟨bo, cb, rfl, hR6, hB6⟩
  have HB6 : Hid (Below w5.heap.size w5 w6) := hB6
  have HR6 : Hid (Rl w6 bo (readOL o P F M)) := hR6
  clear hR6 hB6 l2 l3 l4
  go_wp2_with fail
  refine (lrecs_walk HLN.out (HR5.out.below HB6.out) HR6.out).mono ?_
  rintro e w7 ⟨rfl, hB7⟩
  have HB7 : Hid (Below w.heap.size w w7) := below_trans HB0.out (below_trans HB5.out (below_trans HB6.out hB7))
  clear hB7
  go_wp2_with fail
  go_ret
  exact rt_same HG.out HB7.out

set_option maxRecDepth 100000 in
set_option maxHeartbeats 2000000 in
theorem right_5 (h : Pg D w sv tv o o) (On P F M : Int) {r : Rcd} (_hr : r.ok) : Calls Tryz.prog 7 #[sv, tv, .agg #[.int .i64 5, .int .i64 On, .int .i64 P, .int .i64 F, .int .i64 M, .int .u64 r.k, .float .f64 r.x]] w fun e w' => Rt D w sv tv e w' := by
  have HG : Hid (Pg D w sv tv o o) := h
  obtain ⟨w0, hw0⟩ : ∃ w0, w0 = w.alloc (Obj.cells #[.int .i64 5, .int .i64 On, .int .i64 P, .int .i64 F, .int .i64 M, .int .u64 r.k, .float .f64 r.x] 40) := ⟨_, rfl⟩
  have HB0 : Hid (Below w.heap.size w w0) := by show Below _ _ _; rw [hw0]; exact below_alloc _ _
  have HG0 : Hid (Pg D w0 sv tv o o) := h.below HB0.out
  have HW0 : Hid (w0 = w.alloc (Obj.cells #[.int .i64 5, .int .i64 On, .int .i64 P, .int .i64 F, .int .i64 M, .int .u64 r.k, .float .f64 r.x] 40)) := hw0
  have HND : Hid (¬ D w.heap.size) := fun hd => by have := h.1 _ hd; omega
  have HLT : Hid (w.heap.size < w0.heap.size) := by show _ < _; rw [hw0]; simp
  have k2 : w0.cell? ⟨w.heap.size, 2, none⟩ = some (.int .i64 P) := by rw [hw0]; simp [go_sem]
  have k3 : w0.cell? ⟨w.heap.size, 3, none⟩ = some (.int .i64 F) := by rw [hw0]; simp [go_sem]
  have k4 : w0.cell? ⟨w.heap.size, 4, none⟩ = some (.int .i64 M) := by rw [hw0]; simp [go_sem]
  have k5 : w0.cell? ⟨w.heap.size, 5, none⟩ = some (.int .u64 r.k) := by rw [hw0]; simp [go_sem]
  have k6 : w0.cell? ⟨w.heap.size, 6, none⟩ = some (.float .f64 r.x) := by rw [hw0]; simp [go_sem]
  clear h hw0
  have HLN : Hid ((logO o P).length ≤ 1048576) := logO_len HG.out P
  have j2 : ∀ wx, Below w0.heap.size w0 wx → wx.cell? ⟨w.heap.size, 2, none⟩ = some (.int .i64 P) := fun wx hb => by rw [hb.cell (p := ⟨w.heap.size, 2, none⟩) HLT.out]; exact k2
  clear k2 k3 k4 k5 k6
  go_enter Tryz.func7, Tryz.ntmps7
  go_wp2_with fail
  rw [← HW0.out]
  go_region_held3 (fun wx => Below w0.heap.size w0 wx) (first | assumption | exact (Below.refl _ _).drew)
    (first
      | (go_at_call 14; refine (zlogP (HG0.out.below (Below.refl _ _).drew) P).mono ?_; rintro e w5 ⟨ao, ca, rfl, hR5, hB5⟩; have hS5 : Below w0.heap.size w0 w5 := below_trans (Below.refl _ _).drew hB5)
      | (go_at_call 15; refine (zlogR (HG0.out.below hS5) P).mono ?_; rintro e w6 ⟨bo, cb, rfl, hR6, hB6⟩; have hS6 : Below w0.heap.size w0 w6 := below_trans hS5 hB6)
      | (go_at_call 13; refine (lrecs_walk HLN.out (hR5.below hB6) hR6).mono ?_; rintro e w7 ⟨rfl, hB7⟩; have hS7 : Below w0.heap.size w0 w7 := below_trans hS6 hB7))
  all_goals go_wp2_with fail
  all_goals go_ret
  all_goals exact rt_same HG.out (below_trans HB0.out hS7)

set_option maxRecDepth 100000 in
set_option maxHeartbeats 2000000 in
theorem right_6 (h : Pg D w sv tv o o) (On P F M : Int) {r : Rcd} (_hr : r.ok) : Calls Tryz.prog 7 #[sv, tv, .agg #[.int .i64 6, .int .i64 On, .int .i64 P, .int .i64 F, .int .i64 M, .int .u64 r.k, .float .f64 r.x]] w fun e w' => Rt D w sv tv e w' := by
  have HG : Hid (Pg D w sv tv o o) := h
  obtain ⟨w0, hw0⟩ : ∃ w0, w0 = w.alloc (Obj.cells #[.int .i64 6, .int .i64 On, .int .i64 P, .int .i64 F, .int .i64 M, .int .u64 r.k, .float .f64 r.x] 40) := ⟨_, rfl⟩
  have HB0 : Hid (Below w.heap.size w w0) := by show Below _ _ _; rw [hw0]; exact below_alloc _ _
  have HG0 : Hid (Pg D w0 sv tv o o) := h.below HB0.out
  have HW0 : Hid (w0 = w.alloc (Obj.cells #[.int .i64 6, .int .i64 On, .int .i64 P, .int .i64 F, .int .i64 M, .int .u64 r.k, .float .f64 r.x] 40)) := hw0
  have HND : Hid (¬ D w.heap.size) := fun hd => by have := h.1 _ hd; omega
  have HLT : Hid (w.heap.size < w0.heap.size) := by show _ < _; rw [hw0]; simp
  have k2 : w0.cell? ⟨w.heap.size, 2, none⟩ = some (.int .i64 P) := by rw [hw0]; simp [go_sem]
  have k3 : w0.cell? ⟨w.heap.size, 3, none⟩ = some (.int .i64 F) := by rw [hw0]; simp [go_sem]
  have k4 : w0.cell? ⟨w.heap.size, 4, none⟩ = some (.int .i64 M) := by rw [hw0]; simp [go_sem]
  have k5 : w0.cell? ⟨w.heap.size, 5, none⟩ = some (.int .u64 r.k) := by rw [hw0]; simp [go_sem]
  have k6 : w0.cell? ⟨w.heap.size, 6, none⟩ = some (.float .f64 r.x) := by rw [hw0]; simp [go_sem]
  clear h hw0
  have HLN : Hid ((keysO o).length ≤ 1048576) := keysO_len HG.out
  clear k2 k3 k4 k5 k6
  go_enter Tryz.func7, Tryz.ntmps7
  go_wp2_with fail
  rw [← HW0.out]
  refine (zkeysP HG0.out).mono ?_
  rintro e w5 ⟨ao, ca, rfl, hR5, hB5⟩
  have HB5 : Hid (Below w0.heap.size w0 w5) := hB5
  have HR5 : Hid (Kl w5 ao (keysO o)) := hR5
  clear hR5 hB5
  go_wp2_with fail
  refine (zkeysR (HG0.out.below HB5.out)).mono ?_
  rintro e w6 ⟨bo, cb, rfl, hR6, hB6⟩
  have HB6 : Hid (Below w5.heap.size w5 w6) := hB6
  have HR6 : Hid (Kl w6 bo (keysO o)) := hR6
  clear hR6 hB6
  go_wp2_with fail
  refine (kkeys_walk HLN.out (HR5.out.below HB6.out) HR6.out).mono ?_
  rintro e w7 ⟨rfl, hB7⟩
  have HB7 : Hid (Below w.heap.size w w7) := below_trans HB0.out (below_trans HB5.out (below_trans HB6.out hB7))
  clear hB7
  go_wp2_with fail
  go_ret
  exact rt_same HG.out HB7.out

set_option maxRecDepth 100000 in
set_option maxHeartbeats 2000000 in
theorem right_0 (h : Pg D w sv tv o o) (K On P F M : Int) (r : Rcd) (hK : ∀ i, 1 ≤ i → i ≤ 6 → K ≠ i) : Calls Tryz.prog 7 #[sv, tv, .agg #[.int .i64 K, .int .i64 On, .int .i64 P, .int .i64 F, .int .i64 M, .int .u64 r.k, .float .f64 r.x]] w fun e w' => Rt D w sv tv e w' := by
  have HG : Hid (Pg D w sv tv o o) := h
  obtain ⟨w0, hw0⟩ : ∃ w0, w0 = w.alloc (Obj.cells #[.int .i64 K, .int .i64 On, .int .i64 P, .int .i64 F, .int .i64 M, .int .u64 r.k, .float .f64 r.x] 40) := ⟨_, rfl⟩
  have HB0 : Hid (Below w.heap.size w w0) := by show Below _ _ _; rw [hw0]; exact below_alloc _ _
  have HG0 : Hid (Pg D w0 sv tv o o) := h.below HB0.out
  have HW0 : Hid (w0 = w.alloc (Obj.cells #[.int .i64 K, .int .i64 On, .int .i64 P, .int .i64 F, .int .i64 M, .int .u64 r.k, .float .f64 r.x] 40)) := hw0
  have HND : Hid (¬ D w.heap.size) := fun hd => by have := h.1 _ hd; omega
  have HLT : Hid (w.heap.size < w0.heap.size) := by show _ < _; rw [hw0]; simp
  clear h hw0
  have n1 : ¬ (K = 1) := hK 1 (by omega) (by omega)
  have b1 : (K == 1) = false := by simp; exact n1
  have n2 : ¬ (K = 2) := hK 2 (by omega) (by omega)
  have b2 : (K == 2) = false := by simp; exact n2
  have n3 : ¬ (K = 3) := hK 3 (by omega) (by omega)
  have b3 : (K == 3) = false := by simp; exact n3
  have n4 : ¬ (K = 4) := hK 4 (by omega) (by omega)
  have b4 : (K == 4) = false := by simp; exact n4
  have n5 : ¬ (K = 5) := hK 5 (by omega) (by omega)
  have b5 : (K == 5) = false := by simp; exact n5
  have n6 : ¬ (K = 6) := hK 6 (by omega) (by omega)
  have b6 : (K == 6) = false := by simp; exact n6
  clear hK
  go_enter Tryz.func7, Tryz.ntmps7
  go_wp2_with fail
  go_ret
  exact rt_same HG.out (by rw [← HW0.out]; exact HB0.out)
end
end Go.Proofs.YtfgeabcdcepfdaaGreat

namespace Go.Proofs.YtfgeabcdcepfdaaGreat
open Ieee Go.RowKit

theorem right_walk {D : Nat → Prop} {w : World} {sv tv : Value} {o : Option Sc} (h : Pg D w sv tv o o) (c : Cc) (hc : c.ok) : Calls Tryz.prog 7 #[sv, tv, .agg #[.int .i64 c.K, .int .i64 c.On, .int .i64 c.P, .int .i64 c.F, .int .i64 c.M, .int .u64 c.r.k, .float .f64 c.r.x]] w fun e w' => Rt D w sv tv e w' := by
  obtain ⟨K, On, P, F, M, r⟩ := c
  have hr := hc.r
  have hF := hc.F
  have hM := hc.M
  simp only at hr hF hM ⊢
  by_cases h1 : K = 1
  · subst h1; exact right_1 h On P F M hr
  by_cases h2 : K = 2
  · subst h2; exact right_2 h On P F M hr
  by_cases h3 : K = 3
  · subst h3; exact right_3 h On P F M hr
  by_cases h4 : K = 4
  · subst h4; exact right_4 h On P F M hr hF hM.2
  by_cases h5 : K = 5
  · subst h5; exact right_5 h On P F M hr
  by_cases h6 : K = 6
  · subst h6; exact right_6 h On P F M hr
  exact right_0 h K On P F M r (fun i a b => by omega)

/-- The three sources of a script beside the reference's three; have lies in the block hb, want in wb. -/
structure Sx (w : World) (hb wb : Nat) (A X : Nat → Value) (Ds : Nat → Nat → Prop) (os : Nat → Option Sc) (wr : World) : Prop where
  pair : ∀ k, k < 3 → Pg (Ds k) wr (A k) (X k) (os k) (os k)
  apart : ∀ j k x, j < 3 → k < 3 → j ≠ k → Ds j x → ¬ Ds k x
  off : ∀ k x, k < 3 → Ds k x → x ≠ hb ∧ x ≠ wb ∧ w.heap.size ≤ x
  hv : ∀ k, k < 3 → wr.cell? ⟨hb, k, none⟩ = some (A k)
  wt : ∀ k, k < 3 → wr.cell? ⟨wb, k, none⟩ = some (X k)
  below : Below w.heap.size w wr
theorem Sx.go {w : World} {hb wb : Nat} {A X : Nat → Value} {Ds : Nat → Nat → Prop} {os : Nat → Option Sc} {wr w' : World} (h : Sx w hb wb A X Ds os wr) (hB : Below wr.heap.size wr w') : Sx w hb wb A X Ds os w' :=
  ⟨fun k hk => (h.pair k hk).below hB, h.apart, h.off, fun k hk => by rw [hB.cell (p := ⟨hb, k, none⟩) (cell_lt (h.hv k hk))]; exact h.hv k hk, fun k hk => by rw [hB.cell (p := ⟨wb, k, none⟩) (cell_lt (h.wt k hk))]; exact h.wt k hk, below_trans h.below hB⟩
theorem sx_step {w : World} {hb wb : Nat} {A X : Nat → Value} {Ds : Nat → Nat → Prop} {os : Nat → Option Sc} {wr w' : World} {k : Nat} {e : Ending} (h : Sx w hb wb A X Ds os wr) (hk : k < 3) (hr : Rt (Ds k) wr (A k) (X k) e w') : e = .returned (.bool true) ∧ ∃ Ds' os', Sx w hb wb A X Ds' os' w' := by
  obtain ⟨he, D', o', hG, hC, hD⟩ := hr
  have lt : ∀ j x, j < 3 → Ds j x → x < wr.heap.size := fun j x hj hx => (h.pair j hj).1 x hx
  have cell : ∀ b i u, b < wr.heap.size → ¬ Ds k b → wr.cell? ⟨b, i, none⟩ = some u → w'.cell? ⟨b, i, none⟩ = some u := fun b i u hl hn hc => by
    rw [World.cell?_of_block (w := wr) (a := ⟨b, i, none⟩) (hC.block b hl hn)]; exact hc
  refine ⟨he, upd Ds k D', upd os k o', ⟨fun j hj => ?_, fun i j x hi hj hij hx => ?_, fun j x hj hx => ?_, fun j hj => cell _ _ _ (cell_lt (h.hv j hj)) (fun hd => (h.off k _ hk hd).1 rfl) (h.hv j hj), fun j hj => cell _ _ _ (cell_lt (h.wt j hj)) (fun hd => (h.off k _ hk hd).2.1 rfl) (h.wt j hj), ?_⟩⟩
  · by_cases e1 : j = k
    · subst e1; rw [upd_same, upd_same]; exact hG
    · rw [upd_other _ _ e1, upd_other _ _ e1]; exact (h.pair j hj).ch hC (fun x hx => h.apart j k x hj hk e1 hx)
  · by_cases e1 : i = k
    · subst e1
      rw [upd_same] at hx
      rw [upd_other _ _ (fun e => hij e.symm)]
      intro hy
      rcases hD x hx with q | q
      · exact h.apart i j x hi hj hij q hy
      · have := lt j x hj hy; omega
    · rw [upd_other _ _ e1] at hx
      by_cases e2 : j = k
      · subst e2
        rw [upd_same]
        intro hy
        rcases hD x hy with q | q
        · exact h.apart i j x hi hj hij hx q
        · have := lt i x hi hx; omega
      · rw [upd_other _ _ e2]; exact h.apart i j x hi hj hij hx
  · by_cases e1 : j = k
    · subst e1
      rw [upd_same] at hx
      rcases hD x hx with q | q
      · exact h.off j x hj q
      · have a := cell_lt (h.hv j hj)
        have b := cell_lt (h.wt j hj)
        have c := h.below.size
        simp only at a b
        exact ⟨by omega, by omega, by omega⟩
    · rw [upd_other _ _ e1] at hx; exact h.off j x hj hx
  · exact h.below.trans (hC.to_below h.below.size (fun x hx => (h.off k x hk hx).2.2))

/-- A slice of calls holds l. -/
def Cl (w : World) (ao : Option Addr) (l : List Cc) : Prop :=
  ∀ i, (h : i < l.length) → ∃ b off, ao = some ⟨b, off, none⟩ ∧ w.cell? ⟨b, off + i * 7, none⟩ = some (.int .i64 l[i].K) ∧ w.cell? ⟨b, off + i * 7 + 1, none⟩ = some (.int .i64 l[i].On) ∧ w.cell? ⟨b, off + i * 7 + 2, none⟩ = some (.int .i64 l[i].P) ∧ w.cell? ⟨b, off + i * 7 + 3, none⟩ = some (.int .i64 l[i].F) ∧ w.cell? ⟨b, off + i * 7 + 4, none⟩ = some (.int .i64 l[i].M) ∧ w.cell? ⟨b, off + i * 7 + 5, none⟩ = some (.int .u64 l[i].r.k) ∧ w.cell? ⟨b, off + i * 7 + 6, none⟩ = some (.float .f64 l[i].r.x)
theorem Cl.below {w w' : World} {ao : Option Addr} {l : List Cc} (h : Cl w ao l) (hb : Below w.heap.size w w') : Cl w' ao l := by
  intro i hi
  obtain ⟨b, off, e, h0, h1, h2, h3, h4, h5, h6⟩ := h i hi
  have k : ∀ j u, w.cell? ⟨b, j, none⟩ = some u → w'.cell? ⟨b, j, none⟩ = some u := fun j u hc => by rw [hb.cell (p := ⟨b, j, none⟩) (cell_lt hc)]; exact hc
  exact ⟨b, off, e, k _ _ h0, k _ _ h1, k _ _ h2, k _ _ h3, k _ _ h4, k _ _ h5, k _ _ h6⟩

/-- What both sides' New leave, a code and a value. -/
def newI (parts : Int) (l : List Stp) : Int := if parts < 1 ∨ 4 < parts then 1 else if checkB l then 0 else 30
def newOp (parts : Int) (l : List Stp) : Option Sc := if parts < 1 ∨ 4 < parts then none else if checkB l then some (newS parts.toNat l) else none
/-- v is the source o, or none; its memory is of D. -/
def So (D : Nat → Prop) (w : World) (v : Value) (o : Option Sc) : Prop := (o = none ∧ v = .pointer none ∧ ∀ x, ¬ D x) ∨ ∃ S, o = some S ∧ Src D w v S
def Ro (D : Nat → Prop) (w : World) (v : Value) (o : Option Sc) : Prop := (o = none ∧ v = .pointer none ∧ ∀ x, ¬ D x) ∨ ∃ S, o = some S ∧ Rs D w v S
theorem znewP {lv : Value} {parts : Int} {l : List Stp} {w : World} (ho : Ov w lv l) : Calls Tryz.prog 5 #[.int .i64 parts, lv] w fun e w' => ∃ v D, e = .returned (.tuple #[v, .int .i64 (newI parts l)]) ∧ So D w' v (newOp parts l) ∧ Below w.heap.size w w' ∧ ∀ b, D b → w.heap.size ≤ b := by
  by_cases hp : parts < 1 ∨ 4 < parts
  · refine (new_arg hp).mono ?_
    rintro e w1 ⟨rfl, rfl⟩
    exact ⟨_, fun _ => False, by rw [newI, if_pos hp], .inl ⟨by rw [newOp, if_pos hp], rfl, fun _ h => h⟩, below_same _, fun _ h => h.elim⟩
  · cases hc : checkB l
    · refine (new_ops (by omega) (by omega) ho hc).mono ?_
      rintro e w1 ⟨rfl, hB⟩
      exact ⟨_, fun _ => False, by rw [newI, if_neg hp, hc]; rfl, .inl ⟨by rw [newOp, if_neg hp, hc]; rfl, rfl, fun _ h => h⟩, hB, fun _ h => h.elim⟩
    · obtain ⟨n, rfl⟩ : ∃ n : Nat, parts = n := ⟨parts.toNat, by omega⟩
      refine (new_ok (n := n) (by omega) (by omega) ho hc).mono ?_
      rintro e w1 ⟨v, D, rfl, hS, hB, hD⟩
      exact ⟨v, D, by rw [newI, if_neg hp, hc]; rfl, .inr ⟨newS n l, by rw [newOp, if_neg hp, hc]; rfl, hS⟩, hB, hD⟩
theorem znewR {lv : Value} {parts : Int} {l : List Stp} {w : World} (ho : Ov w lv l) : Calls Tryz.prog 6 #[.int .i64 parts, lv] w fun e w' => ∃ v D, e = .returned (.tuple #[v, .int .i64 (newI parts l)]) ∧ Ro D w' v (newOp parts l) ∧ Below w.heap.size w w' ∧ ∀ b, D b → w.heap.size ≤ b := by
  by_cases hp : parts < 1 ∨ 4 < parts
  · refine (rnew_arg hp).mono ?_
    rintro e w1 ⟨rfl, rfl⟩
    exact ⟨_, fun _ => False, by rw [newI, if_pos hp], .inl ⟨by rw [newOp, if_pos hp], rfl, fun _ h => h⟩, below_same _, fun _ h => h.elim⟩
  · cases hc : checkB l
    · refine (rnew_ops (by omega) (by omega) ho hc).mono ?_
      rintro e w1 ⟨rfl, hB⟩
      exact ⟨_, fun _ => False, by rw [newI, if_neg hp, hc]; rfl, .inl ⟨by rw [newOp, if_neg hp, hc]; rfl, rfl, fun _ h => h⟩, hB, fun _ h => h.elim⟩
    · obtain ⟨n, rfl⟩ : ∃ n : Nat, parts = n := ⟨parts.toNat, by omega⟩
      refine (rnew_ok (n := n) (by omega) (by omega) ho hc).mono ?_
      rintro e w1 ⟨v, D, rfl, hS, hB, hD⟩
      exact ⟨v, D, by rw [newI, if_neg hp, hc]; rfl, .inr ⟨newS n l, by rw [newOp, if_neg hp, hc]; rfl, hS⟩, hB, hD⟩
theorem So.below {D : Nat → Prop} {w w' : World} {v : Value} {o : Option Sc} (h : So D w v o) (hb : Below w.heap.size w w') : So D w' v o := by
  rcases h with h | ⟨S, e, h⟩
  · exact .inl h
  · exact .inr ⟨S, e, h.below hb⟩
theorem Ro.below {D : Nat → Prop} {w w' : World} {v : Value} {o : Option Sc} (h : Ro D w v o) (hb : Below w.heap.size w w') : Ro D w' v o := by
  rcases h with h | ⟨S, e, h⟩
  · exact .inl h
  · exact .inr ⟨S, e, h.below hb⟩
theorem So.lt {D : Nat → Prop} {w : World} {v : Value} {o : Option Sc} (h : So D w v o) {x : Nat} (hx : D x) : x < w.heap.size := by
  rcases h with ⟨_, _, h⟩ | ⟨S, e, h⟩
  · exact absurd hx (h x)
  · exact h.lt hx
theorem Ro.lt {D : Nat → Prop} {w : World} {v : Value} {o : Option Sc} (h : Ro D w v o) {x : Nat} (hx : D x) : x < w.heap.size := by
  rcases h with ⟨_, _, h⟩ | ⟨S, e, h⟩
  · exact absurd hx (h x)
  · exact h.lt hx
/-- Both put together. -/
theorem pg_new {Ds Dt : Nat → Prop} {w : World} {sv tv : Value} {o : Option Sc} (h1 : So Ds w sv o) (h2 : Ro Dt w tv o) (hd : ∀ x, Ds x → ¬ Dt x) : Pg (fun x => Ds x ∨ Dt x) w sv tv o o := by
  refine ⟨fun x hx => hx.elim (fun h => h1.lt h) (fun h => h2.lt h), ?_⟩
  rcases h1 with ⟨e1, v1, _⟩ | ⟨S1, e1, s1⟩
  · rcases h2 with ⟨e2, v2, _⟩ | ⟨S2, e2, s2⟩
    · exact .inl ⟨e1, e1, v1, v2⟩
    · rw [e1] at e2; cases e2
  · rcases h2 with ⟨e2, v2, _⟩ | ⟨S2, e2, s2⟩
    · rw [e1] at e2; cases e2
    · rw [e1] at e2; cases e2
      exact .inr ⟨S1, S1, Ds, Dt, e1, e1, s1, s2, hd, fun x hx => .inl hx, fun x hx => .inr hx⟩
end Go.Proofs.YtfgeabcdcepfdaaGreat

namespace Go.Proofs.YtfgeabcdcepfdaaGreat
open Ieee Go.RowKit

theorem newI_one : newI 1 [] = 0 := by kernel_rfl
theorem newOp_one : newOp 1 [] = some (newS 1 []) := by
  have : checkB [] = true := by kernel_rfl
  unfold newOp
  rw [if_neg (by omega), this]
  rfl
theorem So.ptr {D : Nat → Prop} {w : World} {v : Value} {o : Option Sc} (h : So D w v o) : ∃ p, v = .pointer p := by
  rcases h with ⟨_, e, _⟩ | ⟨S, _, sb, _, _, _, _, e, _⟩
  · exact ⟨none, e⟩
  · exact ⟨_, e⟩
theorem Ro.ptr {D : Nat → Prop} {w : World} {v : Value} {o : Option Sc} (h : Ro D w v o) : ∃ p, v = .pointer p := by
  rcases h with ⟨_, e, _⟩ | ⟨S, _, sb, _, _, _, _, e, _⟩
  · exact ⟨none, e⟩
  · exact ⟨_, e⟩
theorem ov_none (w : World) : Ov w (.slice none 0 0) [] := ⟨⟨none, 0, rfl, by simp, by simp [maxLen], by simp, fun i hi => by simp at hi⟩, by simp⟩

def arr3 (a b c : Value) : Nat → Value | 0 => a | 1 => b | _ => c
def dom3 (a b : Nat → Prop) : Nat → Nat → Prop | 0 => a | 1 => b | _ => fun _ => False
def opt3 (a b : Option Sc) : Nat → Option Sc | 0 => a | 1 => b | _ => none

theorem sx_start {w w5 : World} {a b x y : Value} {D1 D2 D3 D4 : Nat → Prop} {o p : Option Sc} {t1 t2 : TypeId} (hB : Below w.heap.size w w5) (s1 : So D1 w5 a o) (r1 : Ro D2 w5 x o) (s2 : So D3 w5 b p) (r2 : Ro D4 w5 y p)
    (d12 : ∀ x, D1 x → ¬ D2 x) (d34 : ∀ x, D3 x → ¬ D4 x) (d : ∀ x, D1 x ∨ D2 x → ¬ (D3 x ∨ D4 x)) (lo : ∀ x, (D1 x ∨ D2 x) ∨ D3 x ∨ D4 x → w.heap.size ≤ x) :
    Sx w w5.heap.size (w5.heap.size + 1) (arr3 a b (.pointer none)) (arr3 x y (.pointer none)) (dom3 (fun x => D1 x ∨ D2 x) (fun x => D3 x ∨ D4 x)) (opt3 o p) ((w5.alloc (Obj.cells #[a, b, .pointer none] t1)).alloc (Obj.cells #[x, y, .pointer none] t2)) := by
  have hb : Below w5.heap.size w5 ((w5.alloc (Obj.cells #[a, b, .pointer none] t1)).alloc (Obj.cells #[x, y, .pointer none] t2)) := below_trans (below_alloc _ _) (below_alloc _ _)
  have three : ∀ k, k < 3 → k = 0 ∨ k = 1 ∨ k = 2 := fun k hk => by omega
  have p1 := pg_new s1 r1 d12
  have p2 := pg_new s2 r2 d34
  refine ⟨fun k hk => ?_, fun i j z hi hj hij hz => ?_, fun k z hk hz => ?_, fun k hk => ?_, fun k hk => ?_, below_trans hB hb⟩
  · rcases three k hk with rfl | rfl | rfl
    · exact p1.below hb
    · exact p2.below hb
    · exact ⟨fun x hx => hx.elim, .inl ⟨rfl, rfl, rfl, rfl⟩⟩
  · rcases three i hi with rfl | rfl | rfl
    · rcases three j hj with rfl | rfl | rfl
      · exact absurd rfl hij
      · exact d z hz
      · exact fun h => h
    · rcases three j hj with rfl | rfl | rfl
      · exact fun h => d z h hz
      · exact absurd rfl hij
      · exact fun h => h
    · exact hz.elim
  · rcases three k hk with rfl | rfl | rfl
    · have := p1.1 z hz
      exact ⟨by omega, by omega, lo z (.inl hz)⟩
    · have := p2.1 z hz
      exact ⟨by omega, by omega, lo z (.inr hz)⟩
    · exact hz.elim
  · rcases three k hk with rfl | rfl | rfl <;> simp [go_sem, arr3]
  · have e : (w5.alloc (Obj.cells #[a, b, .pointer none] t1)).heap.size = w5.heap.size + 1 := by simp
    rw [← e]
    rcases three k hk with rfl | rfl | rfl <;> simp [go_sem, arr3]

/-- The three pairs, whatever they are. -/
def Sy (w : World) (hb wb : Nat) (A X : Nat → Value) (wx : World) : Prop := ∃ Ds os, Sx w hb wb A X Ds os wx
theorem Sy.hv {w wx : World} {hb wb : Nat} {A X : Nat → Value} (h : Sy w hb wb A X wx) {k : Nat} (hk : k < 3) : wx.cell? ⟨hb, k, none⟩ = some (A k) := by obtain ⟨Ds, os, h⟩ := h; exact h.hv k hk
theorem Sy.wt {w wx : World} {hb wb : Nat} {A X : Nat → Value} (h : Sy w hb wb A X wx) {k : Nat} (hk : k < 3) : wx.cell? ⟨wb, k, none⟩ = some (X k) := by obtain ⟨Ds, os, h⟩ := h; exact h.wt k hk
theorem Sy.below {w wx : World} {hb wb : Nat} {A X : Nat → Value} (h : Sy w hb wb A X wx) : Below w.heap.size w wx := by obtain ⟨Ds, os, h⟩ := h; exact h.below
theorem Sy.drew {w wx : World} {hb wb : Nat} {A X : Nat → Value} (h : Sy w hb wb A X wx) : Sy w hb wb A X wx.drew := by obtain ⟨Ds, os, h⟩ := h; exact ⟨Ds, os, h.go (Below.refl _ _).drew⟩
theorem right_sy {w wx : World} {hb wb : Nat} {A X : Nat → Value} (h : Sy w hb wb A X wx) {k : Nat} (hk : k < 3) (c : Cc) (hc : c.ok) : Calls Tryz.prog 7 #[A k, X k, .agg #[.int .i64 c.K, .int .i64 c.On, .int .i64 c.P, .int .i64 c.F, .int .i64 c.M, .int .u64 c.r.k, .float .f64 c.r.x]] wx fun e w' => e = .returned (.bool true) ∧ Sy w hb wb A X w' := by
  obtain ⟨Ds, os, h⟩ := h
  exact (right_walk (h.pair k hk) c hc).mono fun e w' hr => sx_step h hk hr
theorem third (x : Int) : ∃ k : Nat, k < 3 ∧ wrap64 ((IntKind.u64.wrap x).tmod 3) = (k : Int) := by
  rw [IntKind.wrap_u64]
  obtain ⟨m, hm⟩ : ∃ m : Nat, x % 18446744073709551616 = m := ⟨(x % 18446744073709551616).toNat, by omega⟩
  rw [hm]
  have e : ((m : Int).tmod 3) = ((m % 3 : Nat) : Int) := by rw [Int.tmod_eq_emod_of_nonneg (by omega)]; omega
  rw [e]
  refine ⟨m % 3, Nat.mod_lt _ (by omega), ?_⟩
  unfold wrap64
  omega

set_option maxRecDepth 100000 in
set_option maxHeartbeats 4000000 in
theorem exact_walk {lv : Value} {l : List Stp} {io : Option Addr} {ic : Nat} {cs : List Cc} {parts : Int} {w : World} (ho : Ov w lv l) (hs : Cl w io cs) (hok : ∀ c ∈ cs, c.ok) (hil : cs.length ≤ maxLen) :
    Calls Tryz.prog 3 #[.int .i64 parts, lv, .slice io cs.length ic] w fun e w' => e = .returned (.bool true) ∧ Below w.heap.size w w' := by
  have HO : Hid (Ov w lv l) := ho
  have HC : Hid (Cl w io cs) := hs
  have HOK : Hid (∀ c ∈ cs, c.ok) := hok
  have hli : (cs.length : Int) ≤ 9223372036854775807 := by simp only [maxLen] at hil; omega
  clear ho hs hok hil
  go_enter Tryz.func3, Tryz.ntmps3
  go_wp2_with (go_at_call 4; refine (awake_walk _).mono ?_; rintro e w1 ⟨rfl, hB1⟩)
  have HB1 : Hid (Below w.heap.size w w1) := hB1
  clear hB1
  refine (znewP (parts := parts) (HO.out.below HB1.out)).mono ?_
  rintro e w2 ⟨av, D1, rfl, hS1, hB2, hD1⟩
  have HS1 : Hid (So D1 w2 av (newOp parts l)) := hS1
  have HB2 : Hid (Below w.heap.size w w2) := below_trans HB1.out hB2
  have HD1 : Hid (∀ b, D1 b → w.heap.size ≤ b) := fun b hb => Nat.le_trans HB1.out.size (hD1 b hb)
  clear hS1 hB2 hD1
  go_wp2_with fail
  refine (znewR (parts := parts) (HO.out.below HB2.out)).mono ?_
  rintro e w3 ⟨xv, D2, rfl, hS2, hB3, hD2⟩
  have HS2 : Hid (Ro D2 w3 xv (newOp parts l)) := hS2
  have HB3 : Hid (Below w.heap.size w w3) := below_trans HB2.out hB3
  have HS1' : Hid (So D1 w3 av (newOp parts l)) := HS1.out.below hB3
  have HD2 : Hid (∀ b, D2 b → w2.heap.size ≤ b) := hD2
  have HL1 : Hid (∀ b, D1 b → b < w2.heap.size) := fun b hb => HS1.out.lt hb
  clear hS2 hB3 hD2
  obtain ⟨N, hN⟩ : ∃ N, N = newI parts l := ⟨_, rfl⟩
  rw [← hN]
  clear hN
  go_upto_region 5 with (fail)
  go_cut [43] (fun c wx => c = .bool false ∧ wx = w3)
  case first =>
    rcases HS1'.out with ⟨e1, v1, _⟩ | ⟨S1, e1, sb, _, _, _, _, v1, _⟩
    · rcases HS2.out with ⟨e2, v2, _⟩ | ⟨S2, e2, _⟩
      · subst v1
        subst v2
        go_wp2_with fail
        go_meet
        exact ⟨rfl, rfl⟩
      · rw [e1] at e2; cases e2
    · rcases HS2.out with ⟨e2, v2, _⟩ | ⟨S2, e2, tb, _, _, _, _, v2, _⟩
      · rw [e1] at e2; cases e2
      · subst v1
        subst v2
        go_wp2_with fail
        go_meet
        exact ⟨rfl, rfl⟩
  case rest =>
    obtain ⟨hc, hwc⟩ := hcut
    subst hc
    replace hwc := hwc.symm
    subst hwc
    obtain ⟨pa, hpa⟩ := HS1'.out.ptr
    obtain ⟨px, hpx⟩ := HS2.out.ptr
    subst hpa
    subst hpx
    clear HS1
    go_wp2_with fail
    refine (znewP (parts := 1) (ov_none _)).mono ?_
    rw [newI_one, newOp_one]
    rintro e w4 ⟨bv, D3, rfl, hS3, hB4, hD3⟩
    have HS3 : Hid (So D3 w4 bv (some (newS 1 []))) := hS3
    have HB4 : Hid (Below w.heap.size w w4) := below_trans HB3.out hB4
    have HB34 : Hid (Below w3.heap.size w3 w4) := hB4
    have HD3 : Hid (∀ b, D3 b → w3.heap.size ≤ b) := hD3
    clear hS3 hB4 hD3
    go_wp2_with fail
    refine (znewR (parts := 1) (ov_none _)).mono ?_
    rw [newI_one, newOp_one]
    rintro e w5 ⟨yv, D4, rfl, hS4, hB5, hD4⟩
    have HS4 : Hid (Ro D4 w5 yv (some (newS 1 []))) := hS4
    have HB5 : Hid (Below w.heap.size w w5) := below_trans HB4.out hB5
    have HB45 : Hid (Below w4.heap.size w4 w5) := hB5
    have HD4 : Hid (∀ b, D4 b → w4.heap.size ≤ b) := hD4
    clear hS4 hB5 hD4
    obtain ⟨bs, hbv⟩ : ∃ bs, bv = .pointer (some ⟨bs, 0, none⟩) := by
      rcases HS3.out with ⟨e1, _⟩ | ⟨S1, e1, sb, _, _, _, _, v1, _⟩
      · cases e1
      · exact ⟨sb, v1⟩
    subst hbv
    obtain ⟨py, hpy⟩ := HS4.out.ptr
    subst hpy
    go_wp2_with fail
    have HX : Hid (Sx w w5.heap.size (w5.heap.size + 1) (arr3 (.pointer pa) (.pointer (some ⟨bs, 0, none⟩)) (.pointer none)) (arr3 (.pointer px) (.pointer py) (.pointer none)) (dom3 (fun x => D1 x ∨ D2 x) (fun x => D3 x ∨ D4 x)) (opt3 (newOp parts l) (some (newS 1 []))) ((w5.alloc (Obj.cells #[.pointer pa, .pointer (some ⟨bs, 0, none⟩), .pointer none] 32)).alloc (Obj.cells #[.pointer px, .pointer py, .pointer none] 33))) := by
      have q2 := HB2.out.size
      have q34 := HB34.out.size
      have q45 := HB45.out.size
      have m2 : ∀ x, D2 x → x < w3.heap.size := fun x hx => HS2.out.lt hx
      have m3 : ∀ x, D3 x → x < w4.heap.size := fun x hx => HS3.out.lt hx
      refine sx_start HB5.out ((HS1'.out.below HB34.out).below HB45.out) ((HS2.out.below HB34.out).below HB45.out) (HS3.out.below HB45.out) HS4.out (fun x h1 h2 => ?_) (fun x h1 h2 => ?_) (fun x h1 h2 => ?_) (fun x h1 => ?_)
      · have := HL1.out x h1; have := HD2.out x h2; omega
      · have := m3 x h1; have := HD4.out x h2; omega
      · have a : x < w3.heap.size := by
          rcases h1 with h | h
          · exact HS1'.out.lt h
          · exact m2 x h
        rcases h2 with h | h
        · have := HD3.out x h; omega
        · have := HD4.out x h; omega
      · have q3 := HB3.out.size
        rcases h1 with (h | h) | h | h
        · exact HD1.out x h
        · have := HD2.out x h; omega
        · have := HD3.out x h; omega
        · have := HD4.out x h; have := HB4.out.size; omega
    obtain ⟨hb, hhb⟩ : ∃ hb, hb = w5.heap.size := ⟨_, rfl⟩
    obtain ⟨wb, hwb⟩ : ∃ wb, wb = w5.heap.size + 1 := ⟨_, rfl⟩
    rw [← hwb, ← hhb] at HX
    rw [← hwb, ← hhb]
    clear hhb hwb HS1' HS2 HS3 HS4 HD1 HD2 HD3 HD4 HL1 HB1 HB2 HB3 HB4 HB5 HB34 HB45
    obtain ⟨A, hA⟩ : ∃ A, A = arr3 (.pointer pa) (.pointer (some ⟨bs, 0, none⟩)) (.pointer none) := ⟨_, rfl⟩
    obtain ⟨X, hXX⟩ : ∃ X, X = arr3 (.pointer px) (.pointer py) (.pointer none) := ⟨_, rfl⟩
    rw [← hA, ← hXX] at HX
    have HAP : Hid (∀ k, k < 3 → ∃ p, A k = .pointer p) := fun k hk => by
      rw [hA]
      rcases (by omega : k = 0 ∨ k = 1 ∨ k = 2) with rfl | rfl | rfl
      · exact ⟨_, rfl⟩
      · exact ⟨_, rfl⟩
      · exact ⟨_, rfl⟩
    have HXP : Hid (∀ k, k < 3 → ∃ p, X k = .pointer p) := fun k hk => by
      rw [hXX]
      rcases (by omega : k = 0 ∨ k = 1 ∨ k = 2) with rfl | rfl | rfl
      · exact ⟨_, rfl⟩
      · exact ⟨_, rfl⟩
      · exact ⟨_, rfl⟩
    clear hA hXX
    go_loopw [16] (fun iv wr => ∃ (i : Nat) (Ds : Nat → Nat → Prop) (os : Nat → Option Sc), i ≤ cs.length ∧ iv = .int .i64 i ∧ Sx w hb wb A X Ds os wr) (fun iv _ => cs.length - (intOf iv).toNat)
    case atStart => exact ⟨0, _, _, Nat.zero_le _, rfl, HX.out⟩
    case round =>
      clear HX
      obtain ⟨i, Ds, os, hi, hiv, hX⟩ := hrel
      subst hiv
      have HX : Hid (Sx w hb wb A X Ds os wr) := hX
      have HB : Hid (Below w.heap.size w wr) := hX.below
      clear hX
      by_cases hin : i < cs.length
      · have hil : (i : Int) < (cs.length : Int) := by omega
        by_cases h40 : (i : Int) < 4096
        · obtain ⟨b, off, hio, c0, c1, c2, c3, c4, c5, c6⟩ := HC.out.below HB.out i hin
          subst hio
          have HCK : Hid (cs[i].ok) := HOK.out _ (List.getElem_mem _)
          obtain ⟨c, hce⟩ : ∃ c, c = cs[i] := ⟨_, rfl⟩
          rw [← hce] at c0 c1 c2 c3 c4 c5 c6 HCK
          have HSY : Hid (Sy w hb wb A X wr) := ⟨Ds, os, HX.out⟩
          obtain ⟨kk, hk3, hke⟩ := third c.On
          have hki : (kk : Int) < 3 := by omega
          have HCE : Hid (c = cs[i]) := hce
          clear hce
          go_wp2_with fail
          rw [hke]
          have j0 : ∀ wx, Sy w hb wb A X wx → wx.cell? ⟨hb, kk, none⟩ = some (A kk) := fun wx h => h.hv hk3
          have j1 : ∀ wx, Sy w hb wb A X wx → wx.cell? ⟨wb, kk, none⟩ = some (X kk) := fun wx h => h.wt hk3
          have d0 : ∀ wx, Sy w hb wb A X wx → wx.cell? ⟨b, off + i * 7, none⟩ = some (.int .i64 c.K) := fun wx h => by obtain ⟨b', off', e', q0, q1, q2, q3, q4, q5, q6⟩ := HC.out.below h.below i hin; cases e'; rw [HCE.out]; exact q0
          have d1 : ∀ wx, Sy w hb wb A X wx → wx.cell? ⟨b, off + i * 7 + 1, none⟩ = some (.int .i64 c.On) := fun wx h => by obtain ⟨b', off', e', q0, q1, q2, q3, q4, q5, q6⟩ := HC.out.below h.below i hin; cases e'; rw [HCE.out]; exact q1
          have d2 : ∀ wx, Sy w hb wb A X wx → wx.cell? ⟨b, off + i * 7 + 2, none⟩ = some (.int .i64 c.P) := fun wx h => by obtain ⟨b', off', e', q0, q1, q2, q3, q4, q5, q6⟩ := HC.out.below h.below i hin; cases e'; rw [HCE.out]; exact q2
          have d3 : ∀ wx, Sy w hb wb A X wx → wx.cell? ⟨b, off + i * 7 + 3, none⟩ = some (.int .i64 c.F) := fun wx h => by obtain ⟨b', off', e', q0, q1, q2, q3, q4, q5, q6⟩ := HC.out.below h.below i hin; cases e'; rw [HCE.out]; exact q3
          have d4 : ∀ wx, Sy w hb wb A X wx → wx.cell? ⟨b, off + i * 7 + 4, none⟩ = some (.int .i64 c.M) := fun wx h => by obtain ⟨b', off', e', q0, q1, q2, q3, q4, q5, q6⟩ := HC.out.below h.below i hin; cases e'; rw [HCE.out]; exact q4
          have d5 : ∀ wx, Sy w hb wb A X wx → wx.cell? ⟨b, off + i * 7 + 5, none⟩ = some (.int .u64 c.r.k) := fun wx h => by obtain ⟨b', off', e', q0, q1, q2, q3, q4, q5, q6⟩ := HC.out.below h.below i hin; cases e'; rw [HCE.out]; exact q5
          have d6 : ∀ wx, Sy w hb wb A X wx → wx.cell? ⟨b, off + i * 7 + 6, none⟩ = some (.float .f64 c.r.x) := fun wx h => by obtain ⟨b', off', e', q0, q1, q2, q3, q4, q5, q6⟩ := HC.out.below h.below i hin; cases e'; rw [HCE.out]; exact q6
          clear c0 c1 c2 c3 c4 c5 c6 hke
          go_cut [93] (fun cv wx => cv = .bool false ∧ Sy w hb wb A X wx)
          case first =>
            have HSY2 : Hid (Sy w hb wb A X wr.drew) := HSY.out.drew
            go_region_held3 (fun wx => Sy w hb wb A X wx) (first | assumption | exact HSY2.out)
              (first
                | (go_at_call 7; refine (right_sy (A := A) (X := X) (by assumption) hk3 c HCK.out).mono ?_; rintro e w6 ⟨rfl, hS6⟩))
            all_goals go_wp2_with fail
            all_goals go_meet
            all_goals exact ⟨rfl, by assumption⟩
          case rest =>
            obtain ⟨hc, hXc⟩ := hcut
            subst hc
            obtain ⟨Ds', os', hX'⟩ := hXc
            have HX' : Hid (Sx w hb wb A X Ds' os' wc) := hX'
            clear hX' HX HB HSY
            go_wp2_with fail
            go_roundw
            case rel => exact ⟨i + 1, Ds', os', hin, by simp, HX'.out⟩
            case measure => simp [intOf]; omega
        · have HSY : Hid (Sy w hb wb A X wr) := ⟨Ds, os, HX.out⟩
          have h41 : ¬ ((i : Int) < 4096) := h40
          clear HX HB
          have HE : Hid (Sy w hb wb A X wr) := HSY.out
          go_wp2_with fail
          clear HSY HC HOK
          go_loopw [18] (fun iv wr => ∃ k : Nat, k ≤ 3 ∧ iv = .int .i64 k ∧ Sy w hb wb A X wr) (fun iv _ => 3 - (intOf iv).toNat)
          case atStart => exact ⟨0, by omega, rfl, HE.out⟩
          case round =>
            clear HE
            obtain ⟨k, hk, hkv, hSy⟩ := hrel
            subst hkv
            have HB : Hid (Below w.heap.size w wr) := hSy.below
            by_cases hk3 : k < 3
            · obtain ⟨Ds, os, hX⟩ := hSy
              have HX : Hid (Sx w hb wb A X Ds os wr) := hX
              have HLN : Hid ((keysO (os k)).length ≤ 1048576) := keysO_len (hX.pair k hk3)
              have j0 : ∀ wx, Sx w hb wb A X Ds os wx → wx.cell? ⟨hb, k, none⟩ = some (A k) := fun wx h => h.hv k hk3
              have j1 : ∀ wx, Sx w hb wb A X Ds os wx → wx.cell? ⟨wb, k, none⟩ = some (X k) := fun wx h => h.wt k hk3
              have hki : (k : Int) < 3 := by omega
              clear hX
              go_wp2_with fail
              go_cut [118] (fun c wx => c = .bool false ∧ Sx w hb wb A X Ds os wx)
              case first =>
                have HX2 : Hid (Sx w hb wb A X Ds os wr.drew) := HX.out.go (Below.refl _ _).drew
                go_region_held3 (fun wx => Sx w hb wb A X Ds os wx) (first | assumption | exact HX2.out)
                  (first
                    | (go_at_call 9; refine (zkeysP (Sx.pair (by assumption) k hk3)).mono ?_; rintro e w6 ⟨ao, ca, rfl, hK6, hB6⟩; have hS6 : Sx w hb wb A X Ds os w6 := Sx.go (by assumption) hB6)
                    | (go_at_call 10; refine (zkeysR (Sx.pair (by assumption) k hk3)).mono ?_; rintro e w7 ⟨bo, cb, rfl, hK7, hB7⟩; have hS7 : Sx w hb wb A X Ds os w7 := Sx.go (by assumption) hB7)
                    | (go_at_call 8; refine (kkeys_walk HLN.out (hK6.below hB7) hK7).mono ?_; rintro e w8 ⟨rfl, hB8⟩; have hS8 : Sx w hb wb A X Ds os w8 := Sx.go (by assumption) hB8)
                    | (go_at_call 11; refine (zpartsP (Sx.pair (by assumption) k hk3)).mono ?_; rintro e w9 ⟨rfl, h9⟩; have h9 := h9.symm; subst h9)
                    | (go_at_call 12; refine (zpartsR (Sx.pair (by assumption) k hk3)).mono ?_; rintro e w9 ⟨rfl, h9⟩; have h9 := h9.symm; subst h9))
                all_goals go_wp2_with fail
                all_goals go_meet
                all_goals exact ⟨rfl, by assumption⟩
              case rest =>
                obtain ⟨hc, hXc⟩ := hcut
                subst hc
                have HXC : Hid (Sx w hb wb A X Ds os wc) := hXc
                clear hXc HX HB HLN
                go_wp2_with fail
                go_loopw [19] (fun pv wr => ∃ q : Nat, q ≤ 6 ∧ pv = .int .i64 ((q : Int) - 1) ∧ Sx w hb wb A X Ds os wr) (fun pv _ => (5 - intOf pv).toNat)
                case atStart => exact ⟨0, by omega, rfl, HXC.out⟩
                case round =>
                  clear HXC
                  obtain ⟨q, hq, hqv, hX⟩ := hrel
                  subst hqv
                  obtain ⟨p, hp⟩ : ∃ p : Int, p = (q : Int) - 1 := ⟨_, rfl⟩
                  rw [← hp]
                  have HPQ : Hid (p = (q : Int) - 1) := hp
                  have HX : Hid (Sx w hb wb A X Ds os wr) := hX
                  have HLN : Hid ((logO (os k) p).length ≤ 1048576) := logO_len (hX.pair k hk3) p
                  clear hX
                  by_cases hq6 : q < 6
                  · have hp5 : p < 5 := by omega
                    have hpl : -1 ≤ p := by omega
                    clear hp
                    go_wp2_with fail
                    go_cut [160] (fun c wx => c = .bool false ∧ Sx w hb wb A X Ds os wx)
                    case first =>
                      have HX2 : Hid (Sx w hb wb A X Ds os wr.drew) := HX.out.go (Below.refl _ _).drew
                      go_region_held3 (fun wx => Sx w hb wb A X Ds os wx) (first | assumption | exact HX2.out)
                        (first
                          | (go_at_call 14; refine (zlogP (Sx.pair (by assumption) k hk3) p).mono ?_; rintro e w6 ⟨ao, ca, rfl, hK6, hB6⟩; have hS6 : Sx w hb wb A X Ds os w6 := Sx.go (by assumption) hB6)
                          | (go_at_call 15; refine (zlogR (Sx.pair (by assumption) k hk3) p).mono ?_; rintro e w7 ⟨bo, cb, rfl, hK7, hB7⟩; have hS7 : Sx w hb wb A X Ds os w7 := Sx.go (by assumption) hB7)
                          | (go_at_call 13; refine (lrecs_walk HLN.out (hK6.below hB7) hK7).mono ?_; rintro e w8 ⟨rfl, hB8⟩; have hS8 : Sx w hb wb A X Ds os w8 := Sx.go (by assumption) hB8)
                          | (go_at_call 16; refine (zupP (Sx.pair (by assumption) k hk3) p).mono ?_; rintro e w9 ⟨rfl, h9⟩; have h9 := h9.symm; subst h9)
                          | (go_at_call 17; refine (zupR (Sx.pair (by assumption) k hk3) p).mono ?_; rintro e w9 ⟨rfl, h9⟩; have h9 := h9.symm; subst h9)
                          | (go_at_call 18; refine (zlenP (Sx.pair (by assumption) k hk3) p).mono ?_; rintro e w9 ⟨rfl, h9⟩; have h9 := h9.symm; subst h9)
                          | (go_at_call 19; refine (zlenR (Sx.pair (by assumption) k hk3) p).mono ?_; rintro e w9 ⟨rfl, h9⟩; have h9 := h9.symm; subst h9))
                      all_goals go_wp2_with fail
                      all_goals go_meet
                      all_goals exact ⟨rfl, by assumption⟩
                    case rest =>
                      obtain ⟨hc, hXc⟩ := hcut
                      subst hc
                      have HXC : Hid (Sx w hb wb A X Ds os wc) := hXc
                      clear hXc HX HLN
                      go_wp2_with fail
                      go_roundw
                      case rel => exact ⟨q + 1, by omega, by have := HPQ.out; simp; omega, HXC.out⟩
                      case measure => simp [intOf]; omega
                  · have hp5 : ¬ (p < 5) := by omega
                    clear hp
                    go_wp2_with fail
                    go_roundw
                    case rel => exact ⟨k + 1, by omega, by simp, ⟨Ds, os, HX.out⟩⟩
                    case measure => simp [intOf]; omega
            · have hki : ¬ ((k : Int) < 3) := by omega
              clear hSy
              go_wp2_with fail
              go_ret
              exact ⟨rfl, HB.out⟩
      · have hil : ¬ ((i : Int) < (cs.length : Int)) := by omega
        have HSY : Hid (Sy w hb wb A X wr) := ⟨Ds, os, HX.out⟩
        clear HX HB
        have HE : Hid (Sy w hb wb A X wr) := HSY.out
        go_wp2_with fail
        clear HSY HC HOK
        go_loopw [18] (fun iv wr => ∃ k : Nat, k ≤ 3 ∧ iv = .int .i64 k ∧ Sy w hb wb A X wr) (fun iv _ => 3 - (intOf iv).toNat)
        case atStart => exact ⟨0, by omega, rfl, HE.out⟩
        case round =>
          clear HE
          obtain ⟨k, hk, hkv, hSy⟩ := hrel
          subst hkv
          have HB : Hid (Below w.heap.size w wr) := hSy.below
          by_cases hk3 : k < 3
          · obtain ⟨Ds, os, hX⟩ := hSy
            have HX : Hid (Sx w hb wb A X Ds os wr) := hX
            have HLN : Hid ((keysO (os k)).length ≤ 1048576) := keysO_len (hX.pair k hk3)
            have j0 : ∀ wx, Sx w hb wb A X Ds os wx → wx.cell? ⟨hb, k, none⟩ = some (A k) := fun wx h => h.hv k hk3
            have j1 : ∀ wx, Sx w hb wb A X Ds os wx → wx.cell? ⟨wb, k, none⟩ = some (X k) := fun wx h => h.wt k hk3
            have hki : (k : Int) < 3 := by omega
            clear hX
            go_wp2_with fail
            go_cut [118] (fun c wx => c = .bool false ∧ Sx w hb wb A X Ds os wx)
            case first =>
              have HX2 : Hid (Sx w hb wb A X Ds os wr.drew) := HX.out.go (Below.refl _ _).drew
              go_region_held3 (fun wx => Sx w hb wb A X Ds os wx) (first | assumption | exact HX2.out)
                (first
                  | (go_at_call 9; refine (zkeysP (Sx.pair (by assumption) k hk3)).mono ?_; rintro e w6 ⟨ao, ca, rfl, hK6, hB6⟩; have hS6 : Sx w hb wb A X Ds os w6 := Sx.go (by assumption) hB6)
                  | (go_at_call 10; refine (zkeysR (Sx.pair (by assumption) k hk3)).mono ?_; rintro e w7 ⟨bo, cb, rfl, hK7, hB7⟩; have hS7 : Sx w hb wb A X Ds os w7 := Sx.go (by assumption) hB7)
                  | (go_at_call 8; refine (kkeys_walk HLN.out (hK6.below hB7) hK7).mono ?_; rintro e w8 ⟨rfl, hB8⟩; have hS8 : Sx w hb wb A X Ds os w8 := Sx.go (by assumption) hB8)
                  | (go_at_call 11; refine (zpartsP (Sx.pair (by assumption) k hk3)).mono ?_; rintro e w9 ⟨rfl, h9⟩; have h9 := h9.symm; subst h9)
                  | (go_at_call 12; refine (zpartsR (Sx.pair (by assumption) k hk3)).mono ?_; rintro e w9 ⟨rfl, h9⟩; have h9 := h9.symm; subst h9))
              all_goals go_wp2_with fail
              all_goals go_meet
              all_goals exact ⟨rfl, by assumption⟩
            case rest =>
              obtain ⟨hc, hXc⟩ := hcut
              subst hc
              have HXC : Hid (Sx w hb wb A X Ds os wc) := hXc
              clear hXc HX HB HLN
              go_wp2_with fail
              go_loopw [19] (fun pv wr => ∃ q : Nat, q ≤ 6 ∧ pv = .int .i64 ((q : Int) - 1) ∧ Sx w hb wb A X Ds os wr) (fun pv _ => (5 - intOf pv).toNat)
              case atStart => exact ⟨0, by omega, rfl, HXC.out⟩
              case round =>
                clear HXC
                obtain ⟨q, hq, hqv, hX⟩ := hrel
                subst hqv
                obtain ⟨p, hp⟩ : ∃ p : Int, p = (q : Int) - 1 := ⟨_, rfl⟩
                rw [← hp]
                have HPQ : Hid (p = (q : Int) - 1) := hp
                have HX : Hid (Sx w hb wb A X Ds os wr) := hX
                have HLN : Hid ((logO (os k) p).length ≤ 1048576) := logO_len (hX.pair k hk3) p
                clear hX
                by_cases hq6 : q < 6
                · have hp5 : p < 5 := by omega
                  have hpl : -1 ≤ p := by omega
                  clear hp
                  go_wp2_with fail
                  go_cut [160] (fun c wx => c = .bool false ∧ Sx w hb wb A X Ds os wx)
                  case first =>
                    have HX2 : Hid (Sx w hb wb A X Ds os wr.drew) := HX.out.go (Below.refl _ _).drew
                    go_region_held3 (fun wx => Sx w hb wb A X Ds os wx) (first | assumption | exact HX2.out)
                      (first
                        | (go_at_call 14; refine (zlogP (Sx.pair (by assumption) k hk3) p).mono ?_; rintro e w6 ⟨ao, ca, rfl, hK6, hB6⟩; have hS6 : Sx w hb wb A X Ds os w6 := Sx.go (by assumption) hB6)
                        | (go_at_call 15; refine (zlogR (Sx.pair (by assumption) k hk3) p).mono ?_; rintro e w7 ⟨bo, cb, rfl, hK7, hB7⟩; have hS7 : Sx w hb wb A X Ds os w7 := Sx.go (by assumption) hB7)
                        | (go_at_call 13; refine (lrecs_walk HLN.out (hK6.below hB7) hK7).mono ?_; rintro e w8 ⟨rfl, hB8⟩; have hS8 : Sx w hb wb A X Ds os w8 := Sx.go (by assumption) hB8)
                        | (go_at_call 16; refine (zupP (Sx.pair (by assumption) k hk3) p).mono ?_; rintro e w9 ⟨rfl, h9⟩; have h9 := h9.symm; subst h9)
                        | (go_at_call 17; refine (zupR (Sx.pair (by assumption) k hk3) p).mono ?_; rintro e w9 ⟨rfl, h9⟩; have h9 := h9.symm; subst h9)
                        | (go_at_call 18; refine (zlenP (Sx.pair (by assumption) k hk3) p).mono ?_; rintro e w9 ⟨rfl, h9⟩; have h9 := h9.symm; subst h9)
                        | (go_at_call 19; refine (zlenR (Sx.pair (by assumption) k hk3) p).mono ?_; rintro e w9 ⟨rfl, h9⟩; have h9 := h9.symm; subst h9))
                    all_goals go_wp2_with fail
                    all_goals go_meet
                    all_goals exact ⟨rfl, by assumption⟩
                  case rest =>
                    obtain ⟨hc, hXc⟩ := hcut
                    subst hc
                    have HXC : Hid (Sx w hb wb A X Ds os wc) := hXc
                    clear hXc HX HLN
                    go_wp2_with fail
                    go_roundw
                    case rel => exact ⟨q + 1, by omega, by have := HPQ.out; simp; omega, HXC.out⟩
                    case measure => simp [intOf]; omega
                · have hp5 : ¬ (p < 5) := by omega
                  clear hp
                  go_wp2_with fail
                  go_roundw
                  case rel => exact ⟨k + 1, by omega, by simp, ⟨Ds, os, HX.out⟩⟩
                  case measure => simp [intOf]; omega
          · have hki : ¬ ((k : Int) < 3) := by omega
            clear hSy
            go_wp2_with fail
            go_ret
            exact ⟨rfl, HB.out⟩
end Go.Proofs.YtfgeabcdcepfdaaGreat

namespace Go.Proofs.YtfgeabcdcepfdaaGreat
open Go.ChangeShapes Go.WideShapes Go.ChangeAt Go.RowKit

theorem cells_call : Tryz.prog.cellsOf 40 = 7 := by kernel_rfl

section
variable {H : Type} {enc : TypeId × Value → H} {W : World} {sp : Nat → Bool} {held : Bool} {base : Nat}
theorem trod_struct6 {P : Program} {t : TypeId} {f0 f1 f2 f3 f4 f5 : Field} {fuel : Nat} {cs : List Value} {x : DataW H × List MemPlace} (ht : P.underlying t = some (.struct #[f0, f1, f2, f3, f4, f5])) (h : DataW.trod enc P W base sp held fuel t cs = some x) :
    ∃ y0 y1 y2 y3 y4 y5 n, x = (.agg [y0.1, y1.1, y2.1, y3.1, y4.1, y5.1], y0.2 ++ (y1.2 ++ (y2.2 ++ (y3.2 ++ (y4.2 ++ y5.2))))) ∧ cs.length = P.cellsOf t ∧ DataW.trod enc P W base sp held n f0.type ((cs.drop f0.offset).take (P.cellsOf f0.type)) = some y0 ∧ DataW.trod enc P W base sp held n f1.type ((cs.drop f1.offset).take (P.cellsOf f1.type)) = some y1 ∧ DataW.trod enc P W base sp held n f2.type ((cs.drop f2.offset).take (P.cellsOf f2.type)) = some y2 ∧ DataW.trod enc P W base sp held n f3.type ((cs.drop f3.offset).take (P.cellsOf f3.type)) = some y3 ∧ DataW.trod enc P W base sp held n f4.type ((cs.drop f4.offset).take (P.cellsOf f4.type)) = some y4 ∧ DataW.trod enc P W base sp held n f5.type ((cs.drop f5.offset).take (P.cellsOf f5.type)) = some y5 := by
  obtain ⟨xs, n, _, rfl, hl, hlen, hf⟩ := DataW.trod_struct ht h
  match xs, hlen with
  | [y0, y1, y2, y3, y4, y5], _ => exact ⟨y0, y1, y2, y3, y4, y5, n, by simp, hl, by simpa using hf 0 f0 rfl, by simpa using hf 1 f1 rfl, by simpa using hf 2 f2 rfl, by simpa using hf 3 f3 rfl, by simpa using hf 4 f4 rfl, by simpa using hf 5 f5 rfl⟩
set_option maxRecDepth 20000 in
theorem cells_of_call {n : Nat} {cs : List Value} {x : DataW H × List MemPlace} (hl : cs.length = 7) (h : DataW.trod enc Tryz.prog W base sp held n 40 cs = some x) :
    ∃ t : Cc, cs = [.int .i64 t.K, .int .i64 t.On, .int .i64 t.P, .int .i64 t.F, .int .i64 t.M, .int .u64 t.r.k, .float .f64 t.r.x] ∧ t.ok := by
  obtain ⟨y0, y1, y2, y3, y4, y5, m, _, _, h0, h1, h2, h3, h4, h5⟩ := trod_struct6 Tryz.underlying40 h
  match cs, hl with
  | [a, b, c, d, e, f, g], _ =>
    simp only [cells_int, cells_rec, List.drop_zero, List.drop_succ_cons, List.take_succ_cons, List.take_zero] at h0 h1 h2 h3 h4 h5
    obtain ⟨K, rfl, hK⟩ := cell_i64 Tryz.underlying3 h0
    obtain ⟨On, rfl, hOn⟩ := cell_i64 Tryz.underlying3 h1
    obtain ⟨P, rfl, hP⟩ := cell_i64 Tryz.underlying3 h2
    obtain ⟨F, rfl, hF⟩ := cell_i64 Tryz.underlying3 h3
    obtain ⟨M, rfl, hM⟩ := cell_i64 Tryz.underlying3 h4
    obtain ⟨r, hr, hok⟩ := cells_of_rec rfl h5
    simp only [List.cons.injEq, and_true] at hr
    obtain ⟨rfl, rfl⟩ := hr
    exact ⟨⟨K, On, P, F, M, r⟩, rfl, ⟨hK, hOn, hP, hF, hM, hok⟩⟩
end

set_option maxRecDepth 20000 in
/-- A slice of calls among the arguments, opened. -/
theorem open_cv {H : Type} {enc : TypeId × Value → H} {W : World} {v : Value} {d : DataW H} {p : List MemPlace} {base : Nat}
    (hv : Value.okWide Tryz.prog W .any base 23 v) (h : DataW.Trod enc Tryz.prog W 0 (fun _ => true) true 23 v d p) :
    ∃ (ao : Option Addr) (cap : Nat) (l : List Cc), v = .slice ao l.length cap ∧ Cl W ao l ∧ (∀ t ∈ l, t.ok) ∧ l.length ≤ maxLen := by
  obtain ⟨ao, len0, cap0, rfl⟩ := okWide_slice Tryz.underlying23 hv
  obtain ⟨fuel, hf⟩ := h
  rcases Go.Deep.open_slice Tryz.underlying23 hf with ⟨hcs, hx⟩ | ⟨a, len, cap, m, n, D, Pl, hcs, _, hl, hm, hmm, hx, hel⟩
  · simp [Value.cells] at hcs
    obtain ⟨rfl, rfl, rfl⟩ := hcs
    exact ⟨none, 0, [], rfl, fun i hi => by simp at hi, by simp, by simp [maxLen]⟩
  · simp [Value.cells] at hcs
    obtain ⟨rfl, rfl, rfl⟩ := hcs
    simp only [if_true] at hmm
    have each : ∀ i, ∃ o : Cc, i < len0 → (W.cell? (a.add (i * 7)) = some (.int .i64 o.K) ∧ W.cell? (a.add (i * 7 + 1)) = some (.int .i64 o.On) ∧ W.cell? (a.add (i * 7 + 2)) = some (.int .i64 o.P) ∧ W.cell? (a.add (i * 7 + 3)) = some (.int .i64 o.F) ∧ W.cell? (a.add (i * 7 + 4)) = some (.int .i64 o.M) ∧ W.cell? (a.add (i * 7 + 5)) = some (.int .u64 o.r.k) ∧ W.cell? (a.add (i * 7 + 6)) = some (.float .f64 o.r.x)) ∧ o.ok := by
      intro i
      by_cases hi : i < len0
      · obtain ⟨cs', h1, h2⟩ := hel i (by omega)
        rw [cells_call] at h1
        obtain ⟨_, hlen, hcell⟩ := World.cells?_some h1
        obtain ⟨o, rfl, hok⟩ := cells_of_call hlen h2
        have e0 := hcell 0 (by omega)
        have e1 := hcell 1 (by omega)
        have e2 := hcell 2 (by omega)
        have e3 := hcell 3 (by omega)
        have e4 := hcell 4 (by omega)
        have e5 := hcell 5 (by omega)
        have e6 := hcell 6 (by omega)
        rw [Go.Deep.add_add] at e0 e1 e2 e3 e4 e5 e6
        exact ⟨o, fun _ => ⟨⟨by simpa using e0, by simpa using e1, by simpa using e2, by simpa using e3, by simpa using e4, by simpa using e5, by simpa using e6⟩, hok⟩⟩
      · exact ⟨⟨0, 0, 0, 0, 0, ⟨0, 0⟩⟩, fun h => absurd h hi⟩
    obtain ⟨X, hX⟩ : ∃ X : Nat → Cc, ∀ i, i < len0 → (W.cell? (a.add (i * 7)) = some (.int .i64 (X i).K) ∧ W.cell? (a.add (i * 7 + 1)) = some (.int .i64 (X i).On) ∧ W.cell? (a.add (i * 7 + 2)) = some (.int .i64 (X i).P) ∧ W.cell? (a.add (i * 7 + 3)) = some (.int .i64 (X i).F) ∧ W.cell? (a.add (i * 7 + 4)) = some (.int .i64 (X i).M) ∧ W.cell? (a.add (i * 7 + 5)) = some (.int .u64 (X i).r.k) ∧ W.cell? (a.add (i * 7 + 6)) = some (.float .f64 (X i).r.x)) ∧ (X i).ok := ⟨fun i => (each i).choose, fun i => (each i).choose_spec⟩
    clear each hel
    refine ⟨some a, cap0, (List.range len0).map X, by simp, ?_, ?_, by simp; omega⟩
    · intro i hi
      simp at hi
      obtain ⟨⟨h0, _⟩, _⟩ := hX 0 (by omega)
      obtain ⟨⟨g0, g1, g2, g3, g4, g5, g6⟩, _⟩ := hX i hi
      obtain ⟨b, off, spot⟩ := a
      have hs1 : spot = none := by simpa [Addr.add] using World.cell?_spot h0
      subst hs1
      rw [WideShapes.add_plain] at g0 g1 g2 g3 g4 g5 g6
      exact ⟨b, off, rfl, by simpa using g0, by simpa [Nat.add_assoc] using g1, by simpa [Nat.add_assoc] using g2, by simpa [Nat.add_assoc] using g3, by simpa [Nat.add_assoc] using g4, by simpa [Nat.add_assoc] using g5, by simpa [Nat.add_assoc] using g6⟩
    · intro o ho
      simp only [List.mem_map, List.mem_range] at ho
      obtain ⟨i, hi, rfl⟩ := ho
      exact (hX i hi).2

set_option maxRecDepth 100000 in
theorem lifted_sourceExact (os : Os) (started : os.Started) (H : Type) (enc : TypeId × Value → H) :
    ReturnsInHanded {} Tryz.checked os 3 .any (Rows.sourceExactSpec.pre6 enc Tryz.prog Tryz.f3 Rows.sourceExactRow.domain false) (Rows.sourceExactSpec.post enc Tryz.prog Tryz.f3 false true false false) := by
  refine returnsInHanded_of_change (C := Tryz.checked) own_knob started (by kernel_rfl) Tryz.func3
    (ChangeSpec.witness6 (enc := enc) (C := Tryz.checked) false ⟨#[], #[.int .i64 0, .slice none 0 0, .slice none 0 0], []⟩ 8 (by kernel_rfl) (by kernel_rfl) (by kernel_rfl) (by kernel_rfl)) ?_
  intro W base args ds gs before hval0 hW hcnd _
  have hval : ∀ (j : Nat) t v, Tryz.f3.params[j]? = some t → args[j]? = some v → Value.okWide Tryz.prog W .any base t v := hval0
  have hW' := hW
  obtain ⟨p, q, hA0, hV, rfl, hfz, hnd⟩ := hW
  have hA : DataW.TrodAll enc Tryz.prog W 0 (fun _ => true) true Tryz.f3.params.toList args.toList ds p := hA0
  rw [Tryz.params3] at hA hval
  obtain ⟨v0, vs0, d0, ds0, p0, q0, hargs, rfl, rfl, t0, r0⟩ := trodAll_cons hA
  obtain ⟨v1, vs1, d1, ds1, p1, q1, rfl, rfl, rfl, t1, r1⟩ := trodAll_cons r0
  obtain ⟨v2, vs2, d2, ds2, p2, q2, rfl, rfl, rfl, t2, r2⟩ := trodAll_cons r1
  obtain ⟨rfl, rfl, rfl⟩ := trodAll_nil r2
  obtain rfl : args = #[v0, v1, v2] := by cases args; simp_all
  obtain ⟨rfl, rfl⟩ := trodVars_none hV
  simp only [List.append_nil] at hW'
  have o0 := open_int Tryz.underlying3 (hval 0 3 v0 rfl rfl) t0
  obtain ⟨a0, e0, _, _, wf0⟩ := o0
  have w0 := i64_of_wf wf0
  subst e0
  obtain ⟨l1, b1, z1⟩ := open_ov (hval 1 22 v1 rfl rfl) t1
  obtain ⟨io2, ic2, l2, e2, b2, y2, z2⟩ := open_cv (hval 2 23 v2 rfl rfl) t2
  subst e2
  refine (exact_walk (parts := a0) b1 b2 y2 z2).mono fun e W' ⟨he, hB⟩ => ?_
  subst he
  exact ⟨_, rfl, post_of_below (pv := []) hW' (fun _ _ _ => (trodAll_cons_mk (shut_bool Tryz.underlying4 _) trodAll_mk0)) (fun sp hsp => (trodAll_cons_mk (again (by kernel_rfl) (of_decide_eq_true (by kernel_rfl)) t0 hB (fun x hx => by simpa using hW'.lt x (by simp [hx])) (fun x hx => hsp x (by simp [hx]))) (trodAll_cons_mk (again (by kernel_rfl) (of_decide_eq_true (by kernel_rfl)) t1 hB (fun x hx => by simpa using hW'.lt x (by simp [hx])) (fun x hx => hsp x (by simp [hx]))) (trodAll_cons_mk (again (by kernel_rfl) (of_decide_eq_true (by kernel_rfl)) t2 hB (fun x hx => by simpa using hW'.lt x (by simp [hx])) (fun x hx => hsp x (by simp [hx]))) trodAll_mk0)))) (fun _ _ => rfl) (by simp) hB⟩

theorem sourceExact_holds : Rows.SourceExactSaid :=
  OpenClaim.holds_of_wide 3 Tryz.f3 rfl rfl rfl rfl rfl rfl rfl ⟨rfl, rfl, rfl, rfl, rfl⟩ rfl rfl rfl rfl rfl (by kernel_rfl) Tryz.func3 (by kernel_rfl)
    (of_decide_eq_true (by kernel_rfl)) (by unfold Func.isWrapper; first | (rw [if_pos (by decide +kernel)]; kernel_rfl) | (rw [if_neg (by decide +kernel)]; exact ⟨rfl, rfl⟩))
    (fun os started H enc _ => lifted_sourceExact os started H enc)
#print axioms sourceExact_holds
end Go.Proofs.YtfgeabcdcepfdaaGreat

