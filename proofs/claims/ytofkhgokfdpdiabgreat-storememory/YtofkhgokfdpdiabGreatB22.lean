/- Lists of writes apart from a book; what is wrong with one. -/
import Derived.Test.YtofkhgokfdpdiabGreatB02
import Derived.Test.YtofkhgokfdpdiabGreatB21
set_option maxRecDepth 100000
set_option maxHeartbeats 16000000
namespace Go.Proofs.YtofkhgokfdpdiabGreat
section
open Go.RowKit

def Tx (A : Nat → Prop) (w : World) (v : Value) (ps : List (Int × List Nat)) : Prop :=
 (∃ ao cap, v = .slice ao ps.length cap ∧ ps.length ≤ cap ∧ cap ≤ maxLen ∧ (ao = none → cap = 0) ∧
  ∀ i (h : i < ps.length), ∃ b off u, ao = some ⟨b, off, none⟩ ∧ ¬ A b ∧ w.cell? ⟨b, off + i * 2, none⟩ = some (.int .i64 ps[i].1) ∧ w.cell? ⟨b, off + i * 2 + 1, none⟩ = some u ∧ Bx A w u ps[i].2) ∧
 ∀ p ∈ ps, -9223372036854775808 ≤ p.1 ∧ p.1 < 9223372036854775808
theorem Tx.ch {A A' : Nat → Prop} {w w' : World} {v : Value} {ps : List (Int × List Nat)} (h : Tx A w v ps) (hc : Ch A w w') (hd : ∀ x, A' x → A x ∨ w.heap.size ≤ x) : Tx A' w' v ps := by
 obtain ⟨⟨ao, cap, e, h1, h2, h3, h4⟩, h5⟩ := h
 refine ⟨⟨ao, cap, e, h1, h2, h3, fun i hi => ?_⟩, h5⟩
 obtain ⟨b, off, u, e1, hn, c0, c1, hv⟩ := h4 i hi
 have hbl := cell_lt c0
 refine ⟨b, off, u, e1, fun ha => ?_, ?_, ?_, hv.ch hc hd⟩
 ·rcases hd b ha with q | q
  ·exact hn q
  ·simp only at hbl; omega
 ·rw [World.cell?_of_block (w := w) (a := ⟨b, off + i * 2, none⟩) (hc.block b hbl hn)]; exact c0
 ·rw [World.cell?_of_block (w := w) (a := ⟨b, off + i * 2 + 1, none⟩) (hc.block b hbl hn)]; exact c1
theorem Tx.below {A : Nat → Prop} {w w' : World} {v : Value} {ps : List (Int × List Nat)} (h : Tx A w v ps) (hb : Below w.heap.size w w') : Tx A w' v ps := h.ch (Ch.of_below hb) (fun _ hx => .inl hx)
theorem Tx.form {A : Nat → Prop} {w : World} {v : Value} {ps : List (Int × List Nat)} (h : Tx A w v ps) : ∃ ao cap, v = .slice ao ps.length cap ∧ ps.length ≤ cap ∧ cap ≤ maxLen := by
 obtain ⟨⟨ao, cap, e, h1, h2, _⟩, _⟩ := h
 exact ⟨ao, cap, e, h1, h2⟩
theorem Tx.at {A : Nat → Prop} {w : World} {ao : Option Addr} {n cap : Nat} {ps : List (Int × List Nat)} (h : Tx A w (.slice ao n cap) ps) {i : Nat} (hi : i < ps.length) : ∃ b off u, ao = some ⟨b, off, none⟩ ∧ ¬ A b ∧ w.cell? ⟨b, off + i * 2, none⟩ = some (.int .i64 ps[i].1) ∧ w.cell? ⟨b, off + i * 2 + 1, none⟩ = some u ∧ Bx A w u ps[i].2 := by
 obtain ⟨⟨ao', cap', e, h1, h2, h3, h4⟩, h5⟩ := h
 simp only [Value.slice.injEq] at e
 obtain ⟨b, off, u, e1, r⟩ := h4 i hi
 exact ⟨b, off, u, e.1.trans e1, r⟩
def pgs (ps : List (Int × List Nat)) (k : Nat) : List Int := (ps.take k).map (·.1)
theorem pgs_succ {ps : List (Int × List Nat)} {k : Nat} (h : k < ps.length) : pgs ps (k + 1) = pgs ps k ++ [ps[k].1] := by
 unfold pgs; rw [List.take_succ_eq_append_getElem h, List.map_append]; rfl
def Sn (w : World) (sb : Nat) (ps : List (Int × List Nat)) (k : Nat) : Prop := ∃ cur, w.heap[sb]? = some (.cells cur 188 (0, 0)) ∧ cur.size = 8 ∧ ∀ p : Nat, p < 8 → cur[p]? = some (.bool (decide ((p : Int) ∈ pgs ps k)))
section

variable {w w' : World} {sb : Nat} {ps : List (Int × List Nat)} {k : Nat}

theorem Sn.lt (h : Sn w sb ps k) : sb < w.heap.size := by obtain ⟨cur, h1, _⟩ := h; exact (Array.getElem?_eq_some_iff.1 h1).1
theorem Sn.below (h : Sn w sb ps k) (hb : Below w.heap.size w w') : Sn w' sb ps k := by
 have := h.lt
 obtain ⟨cur, h1, h2, h3⟩ := h
 exact ⟨cur, by rw [hb.block sb this]; exact h1, h2, h3⟩
theorem Sn.cell (h : Sn w sb ps k) {p : Nat} (hp : p < 8) : w.cell? ⟨sb, p, none⟩ = some (.bool (decide ((p : Int) ∈ pgs ps k))) := by
 obtain ⟨cur, h1, h2, h3⟩ := h
 rw [cell_of_row w sb p cur _ (0, 0) h1]; exact h3 p hp
theorem Sn.soft (h : Sn w sb ps k) (i : Nat) : w.frozen? ⟨sb, i, none⟩ = false := by
 obtain ⟨cur, h1, _⟩ := h; simp [World.frozen?, h1]
theorem Sn.set (h : Sn w sb ps k) (hk : k < ps.length) {p : Nat} (hp : p < 8) (he : ps[k].1 = (p : Int)) : Sn (w.setCell ⟨sb, p, none⟩ (.bool true)) sb ps (k + 1) := by
 obtain ⟨cur, h1, h2, h3⟩ := h
 refine ⟨_, set_row h1 p _, by simpa using h2, fun q hq => ?_⟩
 rw [pgs_succ hk, he, Array.getElem?_setIfInBounds]
 by_cases e : p = q
 ·subst e
  rw [if_pos rfl, if_pos (by omega), decide_eq_true (by simp)]
 ·rw [if_neg e, h3 q hq]
  congr 2
  simp only [List.mem_append, List.mem_singleton]
  exact decide_eq_decide.2 ⟨fun h => .inl h, fun h => by rcases h with h | h; exact h; omega⟩
theorem fault_page {n : Nat} (hk : k < ps.length) (h : ps[k].1 < 0 ∨ (n : Int) ≤ ps[k].1) : faultF n (pgs ps k) (ps.drop k) = 91 := by
 rw [List.drop_eq_getElem_cons hk]; unfold faultF; rw [if_pos h]
theorem fault_twice {n : Nat} (hk : k < ps.length) (h : ¬ (ps[k].1 < 0 ∨ (n : Int) ≤ ps[k].1)) (h2 : ps[k].1 ∈ pgs ps k) : faultF n (pgs ps k) (ps.drop k) = 93 := by
 rw [List.drop_eq_getElem_cons hk]; unfold faultF; rw [if_neg h, if_pos h2]
theorem fault_long {n : Nat} (hk : k < ps.length) (h : ¬ (ps[k].1 < 0 ∨ (n : Int) ≤ ps[k].1)) (h2 : ps[k].1 ∉ pgs ps k) (h3 : 1024 < ps[k].2.length) : faultF n (pgs ps k) (ps.drop k) = 6 := by
 rw [List.drop_eq_getElem_cons hk]; unfold faultF; rw [if_neg h, if_neg h2, if_pos h3]
theorem fault_next {n : Nat} (hk : k < ps.length) (h : ¬ (ps[k].1 < 0 ∨ (n : Int) ≤ ps[k].1)) (h2 : ps[k].1 ∉ pgs ps k) (h3 : ¬ 1024 < ps[k].2.length) : faultF n (pgs ps k) (ps.drop k) = faultF n (pgs ps (k + 1)) (ps.drop (k + 1)) := by
 rw [List.drop_eq_getElem_cons hk, pgs_succ hk]
 conv => lhs; unfold faultF
 rw [if_neg h, if_neg h2, if_neg h3]
theorem fault_end {n : Nat} (hk : ps.length ≤ k) : faultF n (pgs ps k) (ps.drop k) = 0 := by
 rw [List.drop_of_length_le hk]; rfl
end

def FaRel (w : World) (n : Nat) (ps : List (Int × List Nat)) (iv : Value) (wr : World) : Prop :=
 ∃ k : Nat, k ≤ ps.length ∧ iv = .int .i64 k ∧ faultI n ps = faultF n (pgs ps k) (ps.drop k) ∧ Sn wr w.heap.size ps k ∧ Below w.heap.size w wr
section

variable {A D : Nat → Prop} {w w' : World} {v dv tv lv : Value} {P P' : Bo} {S S' : Dk} {pb : Nat} {ps : List (Int × List Nat)}

theorem fault_walk (h : MP A D w pb tv dv P S) (hl : Tx A w lv ps) : Calls Tryz.prog 72 #[.pointer (some ⟨pb, 0, none⟩), lv] w fun e w' => e = .returned (.int .i64 (faultI P.tab.length ps)) ∧ Below w.heap.size w w' := by
 have HM := hidH h
 have HL : Hid (Tx A w lv ps) := hl
 obtain ⟨lo, lc, rfl, hl1, hl2⟩ := hl.form
 have hli : (ps.length : Int) ≤ 9223372036854775807 := by simp only [maxLen] at hl2; omega
 clear h hl hl1 hl2
 have HS0 : Hid (Sn (w.alloc (Obj.cells #[.bool false, .bool false, .bool false, .bool false, .bool false, .bool false, .bool false, .bool false] 188)) w.heap.size ps 0) := by
  refine ⟨_, heap_alloc_new w _, rfl, fun p hp => ?_⟩
  have : p = 0 ∨ p = 1 ∨ p = 2 ∨ p = 3 ∨ p = 4 ∨ p = 5 ∨ p = 6 ∨ p = 7 := by omega
  rcases this with rfl | rfl | rfl | rfl | rfl | rfl | rfl | rfl <;> rfl
 go_in
 go_wp2_with fail
 go_loopw [10] (fun iv wr => FaRel w P.tab.length ps iv wr) (fun iv _ => ps.length - (intOf iv).toNat)
 case atStart => exact ⟨0, Nat.zero_le _, rfl, rfl, HS0.out, below_alloc _ _⟩
 case round =>
  obtain ⟨k, hk, rfl, hfa, hS, hB⟩ := hrel
  have HFA : Hid (faultI P.tab.length ps = faultF P.tab.length (pgs ps k) (ps.drop k)) := hfa
  have HS := hidH hS
  have HB := hidH hB
  clear hfa hS hB HS0
  by_cases hlt : k < ps.length
  ·obtain ⟨b, off, u, rfl, _, l0, l1, hbx⟩ := (HL.out.below HB.out).at hlt
   have HU : Hid (Bv wr u ps[k].2) := hbx.1
   obtain ⟨p, hp⟩ : ∃ p, p = ps[k].1 := ⟨_, rfl⟩
   obtain ⟨d, hd⟩ : ∃ d, d = ps[k].2 := ⟨_, rfl⟩
   rw [← hp] at l0
   rw [← hd] at HU
   have HP : Hid (p = ps[k].1) := hp
   have HDD : Hid (d = ps[k].2) := hd
   obtain ⟨uo, uc, rfl, _, _⟩ := bv_formD HU.out
   have hlti : (k : Int) < (ps.length : Int) := by omega
   have HM1 := hidH (HM.out.below HB.out)
   clear hp hd hbx
   obtain ⟨wa, hwa⟩ : ∃ wa, wa = wr.alloc (Obj.cells #[.int .i64 p, .slice uo d.length uc] 102) := ⟨_, rfl⟩
   have HWA : Hid (wa = wr.alloc (Obj.cells #[.int .i64 p, .slice uo d.length uc] 102)) := hwa
   have hBa : Below wr.heap.size wr wa := by rw [hwa]; exact below_alloc _ _
   have HBA := hidH hBa
   have HMA := hidH (HM1.out.below hBa)
   have HN0 : Hid (wa.cell? ⟨wr.heap.size, 0, none⟩ = some (.int .i64 p)) := by show _ = _; rw [hwa]; simp [go_sem]
   have HN1 : Hid (wa.cell? ⟨wr.heap.size, 1, none⟩ = some (.slice uo d.length uc)) := by show _ = _; rw [hwa]; simp [go_sem]
   have HSA := hidH (HS.out.below hBa)
   have HBW := hidH (below_trans HB.out hBa)
   have j0 : ∀ wx, Below wa.heap.size wa wx → wx.cell? ⟨pb, 0, none⟩ = some (.int .u64 P.gen) := fun wx hx => mp0 (HMA.out.below hx)
   have j1 : ∀ wx, Below wa.heap.size wa wx → wx.cell? ⟨pb, 1, none⟩ = some tv := fun wx hx => mp1 (HMA.out.below hx)
   have j2 : ∀ wx, Below wa.heap.size wa wx → wx.cell? ⟨wr.heap.size, 0, none⟩ = some (.int .i64 p) := fun wx hx => by rw [hx.cell (p := ⟨wr.heap.size, 0, none⟩) (cell_lt HN0.out)]; exact HN0.out
   have HTA : Hid (Tw wa tv P.tab) := HMA.out.tab
   have hSd : Below wa.heap.size wa wa.drew := below_drewN _ _
   clear hwa hBa
   cases hh : hasB P.tab.length p
   ·have HH : Hid (hasB P.tab.length p = false) := hh
    have HR : Hid (faultI P.tab.length ps = 91) := by
     show _ = _
     rw [HFA.out, fault_page hlt]
     rw [← HP.out]
     have := of_decide_eq_false hh
     omega
    clear hh
    go_wp2_with fail
    rw [← HWA.out]
    go_region_held3 (fun wx => Below wa.heap.size wa wx) (first | assumption)
     (first
      | (go_at_call 107; refine (has_walk P.gen (HTA.out.below (by assumption)) p).mono ?_; rw [HH.out]; rintro e w3 ⟨rfl, hB3⟩; have hS3 : Below wa.heap.size wa w3 := below_trans (by assumption) hB3))
    all_goals go_wp2_with fail
    all_goals (try simp only [Exit.inBlock, Exit.then])
    all_goals go_ret
    all_goals exact ⟨by rw [HR.out]; rfl, below_trans HBW.out hS3⟩
   ·have HH : Hid (hasB P.tab.length p = true) := hh
    obtain ⟨hp0, hp1⟩ := has_of hh
    have h8 := HM.out.ok.n8
    obtain ⟨n, rfl⟩ : ∃ n : Nat, p = n := ⟨p.toNat, by omega⟩
    have hn8 : n < 8 := by omega
    have HNP : Hid (¬ (ps[k].1 < 0 ∨ (P.tab.length : Int) ≤ ps[k].1)) := by show ¬ _; rw [← HP.out]; omega
    have hni : (n : Int) < 8 := by omega
    clear hh hp0 hp1 h8
    by_cases htw : (n : Int) ∈ pgs ps k
    ·have HR : Hid (faultI P.tab.length ps = 93) := by
      show _ = _
      rw [HFA.out, fault_twice hlt HNP.out (by rw [← HP.out]; exact htw)]
     have HTW : Hid (decide ((n : Int) ∈ pgs ps k) = true) := decide_eq_true htw
     clear htw
     go_wp2_with fail
     rw [← HWA.out]
     go_region_held3 (fun wx => Below wa.heap.size wa wx) (first | assumption)
      (first
       | (go_at_call 107; refine (has_walk P.gen (HTA.out.below (by assumption)) n).mono ?_; rw [HH.out]; rintro e w3 ⟨rfl, hB3⟩; have hS3 : Below wa.heap.size wa w3 := below_trans (by assumption) hB3))
     all_goals
      have HB3 := hidH hS3
      have q1 : w3.cell? ⟨wr.heap.size, 0, none⟩ = some (.int .i64 n) := j2 w3 hS3
      have q2 : w3.cell? ⟨w.heap.size, n, none⟩ = some (.bool true) := by rw [(HSA.out.below hS3).cell hn8, HTW.out]
      clear hS3 hB3
      go_wp2_with fail
      (try simp only [Exit.inBlock, Exit.then])
      go_ret
      exact ⟨by rw [HR.out]; rfl, below_trans HBW.out HB3.out⟩
    ·have HTW : Hid (decide ((n : Int) ∈ pgs ps k) = false) := decide_eq_false htw
     have HTN : Hid (ps[k].1 ∉ pgs ps k) := by show ¬ _; rw [← HP.out]; exact htw
     clear htw
     by_cases hdl : d.length ≤ 1024
     ·have HR : Hid (faultI P.tab.length ps = faultF P.tab.length (pgs ps (k + 1)) (ps.drop (k + 1))) := by
       show _ = _
       rw [HFA.out, fault_next hlt HNP.out HTN.out (by rw [← HDD.out]; omega)]
      have hdi : (d.length : Int) ≤ 1024 := by omega
      have hdd : decide ((1024 : Int) < (d.length : Int)) = false := decide_eq_false (by omega)
      clear hdl
      go_wp2_with fail
      rw [← HWA.out]
      go_region_held3 (fun wx => Below wa.heap.size wa wx) (first | assumption)
       (first
        | (go_at_call 107; refine (has_walk P.gen (HTA.out.below (by assumption)) n).mono ?_; rw [HH.out]; rintro e w3 ⟨rfl, hB3⟩; have hS3 : Below wa.heap.size wa w3 := below_trans (by assumption) hB3))
      all_goals
       have HB3 := hidH (below_trans HBW.out hS3)
       have HS3 := hidH (HSA.out.below hS3)
       have q1 : w3.cell? ⟨wr.heap.size, 0, none⟩ = some (.int .i64 n) := j2 w3 hS3
       have q3 : w3.cell? ⟨wr.heap.size, 1, none⟩ = some (.slice uo d.length uc) := by rw [hS3.cell (p := ⟨wr.heap.size, 1, none⟩) (cell_lt HN1.out)]; exact HN1.out
       have q2 : w3.cell? ⟨w.heap.size, n, none⟩ = some (.bool false) := by rw [HS3.out.cell hn8, HTW.out]
       have q4 := HS3.out.soft n
       clear hS3 hB3
       go_wp2_with fail
       go_roundw
      case rel => exact ⟨k + 1, hlt, by simp, HR.out, HS3.out.set hlt hn8 HP.out.symm, HB3.out.setCell (p := ⟨w.heap.size, n, none⟩) (by simp) _⟩
      case measure => simp [intOf]; omega
     ·have HR : Hid (faultI P.tab.length ps = 6) := by
       show _ = _
       rw [HFA.out, fault_long hlt HNP.out HTN.out (by rw [← HDD.out]; omega)]
      have hdi : (1024 : Int) < (d.length : Int) := by omega
      clear hdl
      go_wp2_with fail
      rw [← HWA.out]
      go_region_held3 (fun wx => Below wa.heap.size wa wx) (first | assumption)
       (first
        | (go_at_call 107; refine (has_walk P.gen (HTA.out.below (by assumption)) n).mono ?_; rw [HH.out]; rintro e w3 ⟨rfl, hB3⟩; have hS3 : Below wa.heap.size wa w3 := below_trans (by assumption) hB3))
      all_goals
       have HB3 := hidH (below_trans HBW.out hS3)
       have HS3 := hidH (HSA.out.below hS3)
       have q1 : w3.cell? ⟨wr.heap.size, 0, none⟩ = some (.int .i64 n) := j2 w3 hS3
       have q3 : w3.cell? ⟨wr.heap.size, 1, none⟩ = some (.slice uo d.length uc) := by rw [hS3.cell (p := ⟨wr.heap.size, 1, none⟩) (cell_lt HN1.out)]; exact HN1.out
       have q2 : w3.cell? ⟨w.heap.size, n, none⟩ = some (.bool false) := by rw [HS3.out.cell hn8, HTW.out]
       clear hS3 hB3
       go_wp2_with fail
       (try simp only [Exit.inBlock, Exit.then])
       go_ret
       exact ⟨by rw [HR.out]; rfl, HB3.out⟩
  ·have HR : Hid (faultI P.tab.length ps = 0) := by show _ = _; rw [HFA.out, fault_end (by omega)]
   have hlti : ¬ (k : Int) < (ps.length : Int) := by omega
   go_wp2_with fail
   go_ret
   exact ⟨by rw [HR.out]; rfl, HB.out⟩
end
end
end Go.Proofs.YtofkhgokfdpdiabGreat
