/- Contracts of the reference's small and many. -/
import Derived.Test.YthkkbdmbmkgjpaaJe

import Derived.Test.YthkkbdmbmkgjpaaWr

namespace Go.Proofs.Ythkkbdmbmkgjpaa

open Go.RowKit



/-- The slice u lies where v lies. -/
def Sb (u v : Value) : Prop := ∀ x, u.ownBlock = some x → v.ownBlock = some x
theorem Sb.refl (v : Value) : Sb v v := fun _ h => h
theorem Sb.trans {a b c : Value} (h : Sb a b) (k : Sb b c) : Sb a c := fun x hx => k x (h x hx)
theorem sb_nil (v : Value) : Sb (.slice none 0 0) v := fun x hx => by simp [Value.ownBlock] at hx
theorem sb_cut0 {ao : Option Addr} {n c n' c' : Nat} : Sb (.slice ao n c) (.slice ao n' c') := fun x hx => by rw [own_cut0 (n' := n') (c' := c')] at hx; exact hx
theorem sb_cutm {ao : Option Addr} {k n c n' c' : Nat} : Sb (.slice (ao.map fun a => a.add k) n c) (.slice ao n' c') := fun x hx => by rw [own_cutm (n' := n') (c' := c')] at hx; exact hx
/-- A cut of bytes, whatever room they have. -/
theorem bv_cut {w : World} {ao : Option Addr} {k cap : Nat} {l : List Nat} (h : Bv w (.slice ao k cap) l) (n : Nat) (hn : n ≤ l.length) : (cap = n → Bv w (.slice ao (k - n) 0) (l.drop n)) ∧ (¬ cap = n → Bv w (.slice (ao.map fun a => a.add n) (k - n) (cap - n)) (l.drop n)) := by
  obtain ⟨hk, hle, _⟩ := bv_le h
  subst hk
  refine ⟨fun hc => ?_, fun hc => cut_any h rfl n hn hc⟩
  rw [show l.length - n = 0 from by omega]
  exact cut_end (by omega)
theorem bv_belowB {w w' : World} {v : Value} {l : List Nat} {B : Nat} (h : Bv w v l) (hm : ∀ x, v.ownBlock = some x → l ≠ [] → x < B) (hb : Below B w w') : Bv w' v l := by
  obtain ⟨⟨ao, cap, e, h1, h2, h3, h4⟩, h5⟩ := h
  refine ⟨⟨ao, cap, e, h1, h2, h3, fun i hi => ?_⟩, h5⟩
  obtain ⟨b, off, e1, e2⟩ := h4 i hi
  have hne : l ≠ [] := by rintro rfl; simp [ib] at hi
  exact ⟨b, off, e1, by rw [hb.cell (p := ⟨b, off + i, none⟩) (hm b (by rw [e, e1]; rfl) hne)]; exact e2⟩


theorem cntL_err0 {l : List Nat} {e : Nat} (h : Wm.take l = (0, 0, e)) (he : e ≠ 0) : cntL l = (e, 0, []) := by simp [cntL, h, he]
theorem cntL_far {l : List Nat} {x n : Nat} (h : Wm.take l = (x, n, 0)) (hx : 1099511627776 < x) : cntL l = (4, 0, []) := by simp [cntL, h, hx]
theorem cntL_ok {l : List Nat} {x n : Nat} (h : Wm.take l = (x, n, 0)) (hx : ¬ 1099511627776 < x) : cntL l = (0, x, l.drop n) := by simp [cntL, h, hx]
/-- What the reference's small and many leave. -/
def CntGot (r : Nat × Nat × List Nat) (v : Value) (w : World) (e : Ending) (w' : World) : Prop :=
  ∃ u, e = .returned (.tuple #[.int .i64 (r.2.1 : Nat), u, .int .i64 (r.1 : Nat)]) ∧ Bv w' u r.2.2 ∧ Sb u v ∧ Below w.heap.size w w'


set_option maxRecDepth 100000 in
set_option maxHeartbeats 1000000 in
theorem rsmall_bad {w : World} {v : Value} {l : List Nat} {e : Nat} (h : Bv w v l) (ht : Wm.take l = (0, 0, e)) (he : e ≠ 0) : Calls Try.prog 41 #[v] w (CntGot (cntL l) v w) := by
  have HV : Hid (Bv w v l) := h
  have HQ : Hid (cntL l = (e, 0, [])) := cntL_err0 ht he
  have HT : Hid _ := t3_litB ht
  have hei : ((e : Int) != 0) = true := by rw [bne_iff_ne]; omega
  clear h ht he
  go_enter Try.func41, Try.ntmps41
  go_wp2_with fail
  refine (rtake_walk HV.out).mono ?_
  rw [HT.out]
  rintro e9 w2 ⟨rfl, hw2⟩
  replace hw2 := hw2.symm
  subst hw2
  go_wp2_with fail
  go_ret3
  exact ⟨_, by rw [HQ.out]; rfl, by rw [HQ.out]; exact Bv.nil _, sb_nil _, Below.refl _ _⟩


set_option maxRecDepth 100000 in
set_option maxHeartbeats 1000000 in
theorem rsmall_far {w : World} {v : Value} {l : List Nat} {x n : Nat} (h : Bv w v l) (ht : Wm.take l = (x, n, 0)) (hx : 1099511627776 < x) : Calls Try.prog 41 #[v] w (CntGot (cntL l) v w) := by
  have HV : Hid (Bv w v l) := h
  have HQ : Hid (cntL l = (4, 0, [])) := cntL_far ht hx
  have HT : Hid _ := t3_litB ht
  have hxi : decide ((1099511627776 : Int) < (x : Int)) = true := decide_eq_true (by omega)
  clear h ht hx
  go_enter Try.func41, Try.ntmps41
  go_wp2_with fail
  refine (rtake_walk HV.out).mono ?_
  rw [HT.out]
  rintro e9 w2 ⟨rfl, hw2⟩
  replace hw2 := hw2.symm
  subst hw2
  go_wp2_with fail
  go_ret3
  exact ⟨_, by rw [HQ.out]; rfl, by rw [HQ.out]; exact Bv.nil _, sb_nil _, Below.refl _ _⟩


set_option maxRecDepth 100000 in
set_option maxHeartbeats 1000000 in
theorem rsmall_ok {w : World} {l : List Nat} {x n b off cap : Nat} (h : Bv w (.slice (some ⟨b, off, none⟩) l.length cap) l) (ht : Wm.take l = (x, n, 0)) (hx : ¬ 1099511627776 < x) (hn : n ≤ l.length) : Calls Try.prog 41 #[.slice (some ⟨b, off, none⟩) l.length cap] w (CntGot (cntL l) (.slice (some ⟨b, off, none⟩) l.length cap) w) := by
  have HV : Hid (Bv w (.slice (some ⟨b, off, none⟩) l.length cap) l) := h
  have HQ : Hid (cntL l = (0, x, l.drop n)) := cntL_ok ht hx
  have HT : Hid _ := t3_litB ht
  have hxi : decide ((1099511627776 : Int) < (x : Int)) = false := decide_eq_false (by omega)
  have hwx : IntKind.i64.wrap (x : Int) = (x : Int) := by rw [IntKind.wrap_i64]; omega
  obtain ⟨_, hlc, hmx⟩ := bv_le h
  unfold maxLen at hmx
  have hci : (cap : Int) ≤ 9223372036854775807 := by omega
  have hli : (l.length : Int) ≤ (cap : Int) := by omega
  have hnl : (n : Int) ≤ (l.length : Int) := by omega
  have hnc : (n : Int) ≤ (cap : Int) := by omega
  have HN : Hid (n ≤ l.length) := hn
  obtain ⟨k1, k2⟩ := bv_cut h n hn
  clear h ht hx hmx hlc hn
  by_cases hc : cap = n
  · have K : Hid (Bv w (.slice (some ⟨b, off, none⟩) (l.length - n) 0) (l.drop n)) := k1 hc
    clear k1 k2
    subst hc
    go_enter Try.func41, Try.ntmps41
    go_wp2_with fail
    refine (rtake_walk HV.out).mono ?_
    rw [HT.out]
    rintro e9 w2 ⟨rfl, hw2⟩
    replace hw2 := hw2.symm
    subst hw2
    go_wp2_with fail
    go_quiet (fail)
    go_wp2_with fail
    go_ret3
    exact ⟨_, by rw [HQ.out]; rfl, by rw [HQ.out]; exact K.out.below (below_drewN _ _), sb_cut0, below_drewN _ _⟩
  · have K : Hid (Bv w (.slice (some ⟨b, off + n, none⟩) (l.length - n) (cap - n)) (l.drop n)) := by show Bv _ _ _; simpa [WideShapes.add_plain] using k2 hc
    have hcn : ¬ (cap : Int) = (n : Int) := by omega
    clear k1 k2
    go_enter Try.func41, Try.ntmps41
    go_wp2_with fail
    refine (rtake_walk HV.out).mono ?_
    rw [HT.out]
    rintro e9 w2 ⟨rfl, hw2⟩
    replace hw2 := hw2.symm
    subst hw2
    go_wp2_with fail
    go_quiet (fail)
    go_wp2_with fail
    go_ret3
    exact ⟨.slice (some ⟨b, off + n, none⟩) (l.length - n) (cap - n), by rw [HQ.out]; rfl, by rw [HQ.out]; exact K.out.below (below_drewN _ _), fun y hy => by simpa [Value.ownBlock] using hy, below_drewN _ _⟩


theorem rsmall_walk {w : World} {v : Value} {l : List Nat} (h : Bv w v l) : Calls Try.prog 41 #[v] w (CntGot (cntL l) v w) := by
  rcases Wm.take_form l h.2 with ⟨e, ht, h34⟩ | ⟨x, n, ht, hx, hn1, hn2, hn3⟩
  · exact rsmall_bad h ht (by omega)
  · by_cases hx : 1099511627776 < x
    · exact rsmall_far h ht hx
    · rcases bv_cases h with ⟨rfl, _⟩ | ⟨b, off, cap, rfl, _⟩
      · simp at hn2; omega
      · exact rsmall_ok h ht hx hn2
theorem manL_err0 {l : List Nat} {e : Nat} (h : Wm.take l = (0, 0, e)) (he : e ≠ 0) : manL l = (e, 0, []) := by simp [manL, h, he]
theorem manL_far {l : List Nat} {x n : Nat} (h : Wm.take l = (x, n, 0)) (hx : 64 < x) : manL l = (6, 0, []) := by simp [manL, h, hx]
theorem manL_ok {l : List Nat} {x n : Nat} (h : Wm.take l = (x, n, 0)) (hx : ¬ 64 < x) : manL l = (0, x, l.drop n) := by simp [manL, h, hx]
set_option maxRecDepth 100000 in
set_option maxHeartbeats 1000000 in
theorem rmany_bad {w : World} {v : Value} {l : List Nat} {e : Nat} (h : Bv w v l) (ht : Wm.take l = (0, 0, e)) (he : e ≠ 0) : Calls Try.prog 48 #[v] w (CntGot (manL l) v w) := by
  have HV : Hid (Bv w v l) := h
  have HQ : Hid (manL l = (e, 0, [])) := manL_err0 ht he
  have HT : Hid _ := t3_litB ht
  have hei : ((e : Int) != 0) = true := by rw [bne_iff_ne]; omega
  clear h ht he
  go_enter Try.func48, Try.ntmps48
  go_wp2_with fail
  refine (rtake_walk HV.out).mono ?_
  rw [HT.out]
  rintro e9 w2 ⟨rfl, hw2⟩
  replace hw2 := hw2.symm
  subst hw2
  go_wp2_with fail
  go_ret3
  exact ⟨_, by rw [HQ.out]; rfl, by rw [HQ.out]; exact Bv.nil _, sb_nil _, Below.refl _ _⟩


set_option maxRecDepth 100000 in
set_option maxHeartbeats 1000000 in
theorem rmany_far {w : World} {v : Value} {l : List Nat} {x n : Nat} (h : Bv w v l) (ht : Wm.take l = (x, n, 0)) (hx : 64 < x) : Calls Try.prog 48 #[v] w (CntGot (manL l) v w) := by
  have HV : Hid (Bv w v l) := h
  have HQ : Hid (manL l = (6, 0, [])) := manL_far ht hx
  have HT : Hid _ := t3_litB ht
  have hxi : decide ((64 : Int) < (x : Int)) = true := decide_eq_true (by omega)
  clear h ht hx
  go_enter Try.func48, Try.ntmps48
  go_wp2_with fail
  refine (rtake_walk HV.out).mono ?_
  rw [HT.out]
  rintro e9 w2 ⟨rfl, hw2⟩
  replace hw2 := hw2.symm
  subst hw2
  go_wp2_with fail
  go_ret3
  exact ⟨_, by rw [HQ.out]; rfl, by rw [HQ.out]; exact Bv.nil _, sb_nil _, Below.refl _ _⟩


set_option maxRecDepth 100000 in
set_option maxHeartbeats 1000000 in
theorem rmany_ok {w : World} {l : List Nat} {x n b off cap : Nat} (h : Bv w (.slice (some ⟨b, off, none⟩) l.length cap) l) (ht : Wm.take l = (x, n, 0)) (hx : ¬ 64 < x) (hn : n ≤ l.length) : Calls Try.prog 48 #[.slice (some ⟨b, off, none⟩) l.length cap] w (CntGot (manL l) (.slice (some ⟨b, off, none⟩) l.length cap) w) := by
  have HV : Hid (Bv w (.slice (some ⟨b, off, none⟩) l.length cap) l) := h
  have HQ : Hid (manL l = (0, x, l.drop n)) := manL_ok ht hx
  have HT : Hid _ := t3_litB ht
  have hxi : decide ((64 : Int) < (x : Int)) = false := decide_eq_false (by omega)
  have hwx : IntKind.i64.wrap (x : Int) = (x : Int) := by rw [IntKind.wrap_i64]; omega
  obtain ⟨_, hlc, hmx⟩ := bv_le h
  unfold maxLen at hmx
  have hci : (cap : Int) ≤ 9223372036854775807 := by omega
  have hli : (l.length : Int) ≤ (cap : Int) := by omega
  have hnl : (n : Int) ≤ (l.length : Int) := by omega
  have hnc : (n : Int) ≤ (cap : Int) := by omega
  have HN : Hid (n ≤ l.length) := hn
  obtain ⟨k1, k2⟩ := bv_cut h n hn
  clear h ht hx hmx hlc hn
  by_cases hc : cap = n
  · have K : Hid (Bv w (.slice (some ⟨b, off, none⟩) (l.length - n) 0) (l.drop n)) := k1 hc
    clear k1 k2
    subst hc
    go_enter Try.func48, Try.ntmps48
    go_wp2_with fail
    refine (rtake_walk HV.out).mono ?_
    rw [HT.out]
    rintro e9 w2 ⟨rfl, hw2⟩
    replace hw2 := hw2.symm
    subst hw2
    go_wp2_with fail
    go_quiet (fail)
    go_wp2_with fail
    go_ret3
    exact ⟨_, by rw [HQ.out]; rfl, by rw [HQ.out]; exact K.out.below (below_drewN _ _), sb_cut0, below_drewN _ _⟩
  · have K : Hid (Bv w (.slice (some ⟨b, off + n, none⟩) (l.length - n) (cap - n)) (l.drop n)) := by show Bv _ _ _; simpa [WideShapes.add_plain] using k2 hc
    have hcn : ¬ (cap : Int) = (n : Int) := by omega
    clear k1 k2
    go_enter Try.func48, Try.ntmps48
    go_wp2_with fail
    refine (rtake_walk HV.out).mono ?_
    rw [HT.out]
    rintro e9 w2 ⟨rfl, hw2⟩
    replace hw2 := hw2.symm
    subst hw2
    go_wp2_with fail
    go_quiet (fail)
    go_wp2_with fail
    go_ret3
    exact ⟨.slice (some ⟨b, off + n, none⟩) (l.length - n) (cap - n), by rw [HQ.out]; rfl, by rw [HQ.out]; exact K.out.below (below_drewN _ _), fun y hy => by simpa [Value.ownBlock] using hy, below_drewN _ _⟩


theorem rmany_walk {w : World} {v : Value} {l : List Nat} (h : Bv w v l) : Calls Try.prog 48 #[v] w (CntGot (manL l) v w) := by
  rcases Wm.take_form l h.2 with ⟨e, ht, h34⟩ | ⟨x, n, ht, hx, hn1, hn2, hn3⟩
  · exact rmany_bad h ht (by omega)
  · by_cases hx : 64 < x
    · exact rmany_far h ht hx
    · rcases bv_cases h with ⟨rfl, _⟩ | ⟨b, off, cap, rfl, _⟩
      · simp at hn2; omega
      · exact rmany_ok h ht hx hn2
end Go.Proofs.Ythkkbdmbmkgjpaa


