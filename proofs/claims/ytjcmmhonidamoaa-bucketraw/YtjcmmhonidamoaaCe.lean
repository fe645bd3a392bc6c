/- Contracts of the reference's value and one. -/
import Derived.Test.YtjcmmhonidamoaaBq
import Derived.Test.YtjcmmhonidamoaaWr
import Derived.Laws.ResultCell
namespace Go.Proofs.Ytjcmmhonidamoaa
open Go.RowKit

theorem results_ctt {fn : Func} {p u x : Tmp} {ty : TypeId} (h : fn.results = #[.cell p ty, .tmp u, .tmp x]) (tmps : Array Value) (P : Program) (w : World) :
    (results fn tmps).run P w =
      ((asAddr (tmps.getD p undef)).run P w).andThen fun a w₁ => ((loadVar ty a).run P w₁).andThen fun v w₂ => .ok (.tuple #[v, tmps.getD u undef, tmps.getD x undef]) w₂ := by
  simp only [results, h]
  simp [Sem.run_bind, Result.andThen]

/-- The slice u lies where v lies. -/
def Sb (u v : Value) : Prop := ∀ x, u.ownBlock = some x → v.ownBlock = some x
theorem Sb.refl (v : Value) : Sb v v := fun _ h => h
theorem Sb.trans {a b c : Value} (h : Sb a b) (k : Sb b c) : Sb a c := fun x hx => k x (h x hx)
theorem sb_nil (v : Value) : Sb (.slice none 0 0) v := fun x hx => by simp [Value.ownBlock] at hx
theorem sb_cut0 {ao : Option Addr} {n c n' c' : Nat} : Sb (.slice ao n c) (.slice ao n' c') := fun x hx => by rw [own_cut0 (n' := n') (c' := c')] at hx; exact hx
theorem sb_cutm {ao : Option Addr} {k n c n' c' : Nat} : Sb (.slice (ao.map fun a => a.add k) n c) (.slice ao n' c') := fun x hx => by rw [own_cutm (n' := n') (c' := c')] at hx; exact hx
/-- What the reference's value leaves. -/
def ValGot (r : Nat × Vl × List Nat) (v : Value) (w : World) (e : Ending) (w' : World) : Prop :=
  ∃ u, e = .returned (.tuple #[.agg #[.bool r.2.1.h, .int .u64 r.2.1.b], u, .int .i64 (r.1 : Nat)]) ∧ Bv w' u r.2.2 ∧ Sb u v ∧ Below w.heap.size w w'

theorem bv_val {w : World} {b : Nat} {v : Value} {l : List Nat} {a : Vl} (hW : VB w b a) (h : Bv w v l) (y : Bool) (n : Nat) : Bv ((w.setCell ⟨b, 0, none⟩ (.bool y)).setCell ⟨b, 1, none⟩ (.int .u64 n)) v l := by
  have h1 := h.set hW.c0 (by simp) (.bool y)
  refine h1.set (p := ⟨b, 1, none⟩) (u := .int .u64 (a.b : Nat)) ?_ (by simp) _
  have := hW.c1
  simpa [go_sem] using this

theorem rvalue_no {w : World} {v : Value} {l : List Nat} (h : Bv w v l) : Calls Try.prog 43 #[v, .bool false] w (ValGot (oneV false l) v w) := by
  have e1 : oneV false l = (0, noV, l) := by simp [oneV]
  rw [e1]
  go_enter Try.func43, Try.ntmps43
  go_wp2_with fail
  refine bodyPost_ret (v := .tuple #[.agg #[.bool false, .int .u64 0], v, .int .i64 0]) (by rw [results_ctt rfl]; go_simp) rfl ?_
  exact ⟨v, rfl, h.below (below_alloc _ _), Sb.refl _, below_alloc _ _⟩

theorem rvalue_short {w : World} {v : Value} {l : List Nat} (h : Bv w v l) (h8 : l.length < 8) : Calls Try.prog 43 #[v, .bool true] w (ValGot (oneV true l) v w) := by
  have e1 : oneV true l = (3, noV, []) := by simp [oneV, h8]
  have HT : Hid (Wm.takeW l = (0, 3)) := if_pos h8
  rw [e1]
  have HV : Hid (Bv (w.alloc (Obj.cells #[.bool false, .int .u64 0] 35)) v l) := h.below (below_alloc _ _)
  clear h h8 e1
  go_enter Try.func43, Try.ntmps43
  go_wp2_with fail
  refine (rtakew_walk HV.out).mono ?_
  rw [t2_litB HT.out]
  rintro e w2 ⟨rfl, hw2⟩
  have HB2 : Hid (Below w.heap.size w w2) := by show Below _ _ _; rw [hw2]; exact below_alloc _ _
  have hc0 : w2.cell? ⟨w.heap.size, 0, none⟩ = some (.bool false) := by rw [hw2]; simp [go_sem]
  have hc1 : w2.cell? ⟨w.heap.size, 1, none⟩ = some (.int .u64 0) := by rw [hw2]; simp [go_sem]
  have hz : ∀ j, w2.frozen? ⟨w.heap.size, j, none⟩ = false := by intro j; rw [hw2]; simp [go_sem]
  have z0 := hz 0
  have z1 := hz 1
  have HD : Hid (∀ u u', Below w.heap.size w ((w2.setCell ⟨w.heap.size, 0, none⟩ u).setCell ⟨w.heap.size, 1, none⟩ u')) := fun u u' => (HB2.out.setCell (Nat.le_refl _) u).setCell (Nat.le_refl _) u'
  clear hw2 hz
  go_wp2_with fail
  refine bodyPost_ret (v := .tuple #[.agg #[.bool false, .int .u64 0], .slice none 0 0, .int .i64 3]) (by rw [results_ctt rfl]; go_simp) rfl ?_
  exact ⟨_, rfl, Bv.nil _, sb_nil _, HD.out _ _⟩

set_option maxRecDepth 100000 in
set_option maxHeartbeats 1000000 in
theorem rvalue_far {w : World} {l : List Nat} {b off cap : Nat} (h : Bv w (.slice (some ⟨b, off, none⟩) l.length cap) l) (h8 : 8 ≤ l.length) (hce : ¬ cap = 8) : Calls Try.prog 43 #[.slice (some ⟨b, off, none⟩) l.length cap, .bool true] w (ValGot (oneV true l) (.slice (some ⟨b, off, none⟩) l.length cap) w) := by
  obtain ⟨X, hX⟩ : ∃ X, Wm.unw (l.take 8) = X := ⟨_, rfl⟩
  have e1 : oneV true l = (0, ⟨true, X⟩, l.drop 8) := by rw [← hX]; unfold oneV; rw [if_neg (by simp), if_neg (by omega)]
  have HT : Hid (Wm.takeW l = (X, 0)) := by show _ = _; rw [← hX]; exact if_neg (by omega)
  rw [e1]
  obtain ⟨_, hlc, hmx⟩ := bv_le h
  unfold maxLen at hmx
  have hci : (cap : Int) ≤ 9223372036854775807 := by omega
  have hli : (l.length : Int) ≤ (cap : Int) := by omega
  have hl8 : (8 : Int) ≤ (l.length : Int) := by omega
  have hc8 : (8 : Int) ≤ (cap : Int) := by omega
  have H8 : Hid (8 ≤ l.length) := h8
  have HLC : Hid (l.length ≤ cap) := hlc
  have HV : Hid (Bv (w.alloc (Obj.cells #[.bool false, .int .u64 0] 35)) (.slice (some ⟨b, off, none⟩) l.length cap) l) := h.below (below_alloc _ _)
  have hce' : ¬ (cap : Int) = 8 := by omega
  have HNE : Hid (¬ cap = 8) := hce
  clear h h8 e1 hX hlc hmx
  go_enter Try.func43, Try.ntmps43
  go_wp2_with fail
  refine (rtakew_walk HV.out).mono ?_
  rw [t2_litB HT.out]
  rintro e w2 ⟨rfl, hw2⟩
  have HB2 : Hid (Below w.heap.size w w2) := by show Below _ _ _; rw [hw2]; exact below_alloc _ _
  have HV2 : Hid (Bv w2 (.slice (some ⟨b, off, none⟩) l.length cap) l) := by show Bv _ _ _; rw [hw2]; exact HV.out
  have HW2 : Hid (VB w2 w.heap.size noV) := by show VB _ _ _; rw [hw2]; exact vb_new w noV
  clear hw2 HV
  have HC2 : Hid (Bv w2 (.slice (some ⟨b, off + 8, none⟩) (l.length - 8) (cap - 8)) (l.drop 8)) := by show Bv _ _ _; have := cut_any HV2.out rfl 8 H8.out HNE.out; simpa [Addr.add] using this
  have HD : Hid (∀ u u', Below w.heap.size w ((w2.setCell ⟨w.heap.size, 0, none⟩ u).setCell ⟨w.heap.size, 1, none⟩ u').drew) := fun u u' => ((HB2.out.setCell (Nat.le_refl _) u).setCell (Nat.le_refl _) u').drew
  obtain ⟨y0, y1, yz⟩ := HW2.out
  have z0 := yz 0
  have z1 := yz 1
  clear yz
  go_upto_region 6 with fail
  go_region_with (fail)
  all_goals go_wp2_with fail
  all_goals refine bodyPost_ret (v := .tuple #[.agg #[.bool true, .int .u64 X], .slice (some ⟨b, off + 8, none⟩) (l.length - 8) (cap - 8), .int .i64 0]) (by rw [results_ctt rfl]; go_simp) rfl ?_
  all_goals exact ⟨_, rfl, (bv_val HW2.out HC2.out _ _).below (below_drew _), sb_cutm (k := 8) (ao := some ⟨b, off, none⟩), HD.out _ _⟩

set_option maxRecDepth 100000 in
set_option maxHeartbeats 1000000 in
theorem rvalue_near {w : World} {l : List Nat} {b off cap : Nat} (h : Bv w (.slice (some ⟨b, off, none⟩) l.length cap) l) (h8 : 8 ≤ l.length) (hce : cap = 8) : Calls Try.prog 43 #[.slice (some ⟨b, off, none⟩) l.length cap, .bool true] w (ValGot (oneV true l) (.slice (some ⟨b, off, none⟩) l.length cap) w) := by
  obtain ⟨X, hX⟩ : ∃ X, Wm.unw (l.take 8) = X := ⟨_, rfl⟩
  have e1 : oneV true l = (0, ⟨true, X⟩, l.drop 8) := by rw [← hX]; unfold oneV; rw [if_neg (by simp), if_neg (by omega)]
  have HT : Hid (Wm.takeW l = (X, 0)) := by show _ = _; rw [← hX]; exact if_neg (by omega)
  rw [e1]
  obtain ⟨_, hlc, hmx⟩ := bv_le h
  unfold maxLen at hmx
  have hci : (cap : Int) ≤ 9223372036854775807 := by omega
  have hli : (l.length : Int) ≤ (cap : Int) := by omega
  have hl8 : (8 : Int) ≤ (l.length : Int) := by omega
  have hc8 : (8 : Int) ≤ (cap : Int) := by omega
  have H8 : Hid (8 ≤ l.length) := h8
  have HLC : Hid (l.length ≤ cap) := hlc
  have HV : Hid (Bv (w.alloc (Obj.cells #[.bool false, .int .u64 0] 35)) (.slice (some ⟨b, off, none⟩) l.length cap) l) := h.below (below_alloc _ _)
  subst hce
  clear h h8 e1 hX hlc hmx
  go_enter Try.func43, Try.ntmps43
  go_wp2_with fail
  refine (rtakew_walk HV.out).mono ?_
  rw [t2_litB HT.out]
  rintro e w2 ⟨rfl, hw2⟩
  have HB2 : Hid (Below w.heap.size w w2) := by show Below _ _ _; rw [hw2]; exact below_alloc _ _
  have HV2 : Hid (Bv w2 (.slice (some ⟨b, off, none⟩) l.length 8) l) := by show Bv _ _ _; rw [hw2]; exact HV.out
  have HW2 : Hid (VB w2 w.heap.size noV) := by show VB _ _ _; rw [hw2]; exact vb_new w noV
  clear hw2 HV
  have HC2 : Hid (Bv w2 (.slice (some ⟨b, off, none⟩) (l.length - 8) 0) (l.drop 8)) := by show Bv _ _ _; rw [show l.length - 8 = 0 from by have := HLC.out; omega]; exact cut_end HLC.out
  have HD : Hid (∀ u u', Below w.heap.size w ((w2.setCell ⟨w.heap.size, 0, none⟩ u).setCell ⟨w.heap.size, 1, none⟩ u').drew) := fun u u' => ((HB2.out.setCell (Nat.le_refl _) u).setCell (Nat.le_refl _) u').drew
  obtain ⟨y0, y1, yz⟩ := HW2.out
  have z0 := yz 0
  have z1 := yz 1
  clear yz
  go_upto_region 6 with fail
  go_region_with (fail)
  all_goals go_wp2_with fail
  all_goals refine bodyPost_ret (v := .tuple #[.agg #[.bool true, .int .u64 X], .slice (some ⟨b, off, none⟩) (l.length - 8) 0, .int .i64 0]) (by rw [results_ctt rfl]; go_simp) rfl ?_
  all_goals exact ⟨_, rfl, (bv_val HW2.out HC2.out _ _).below (below_drew _), sb_cut0, HD.out _ _⟩

theorem rvalue_walk {w : World} {v : Value} {l : List Nat} (h : Bv w v l) (t : Bool) : Calls Try.prog 43 #[v, .bool t] w (ValGot (oneV t l) v w) := by
  cases t
  · exact rvalue_no h
  · by_cases h8 : l.length < 8
    · exact rvalue_short h h8
    · rcases bv_cases h with ⟨rfl, _⟩ | ⟨b, off, cap, rfl, _⟩
      · simp at h8
      · by_cases hce : cap = 8
        · exact rvalue_near h (by omega) hce
        · exact rvalue_far h (by omega) hce
end Go.Proofs.Ytjcmmhonidamoaa
