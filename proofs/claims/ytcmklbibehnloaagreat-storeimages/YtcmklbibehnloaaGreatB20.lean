/- lay: the list's bytes to free blocks, and the root with them. -/
import Derived.Test.YtcmklbibehnloaaGreatB19
set_option maxRecDepth 100000
set_option maxHeartbeats 16000000
namespace Go.Proofs.YtcmklbibehnloaaGreat
open Go.RowKit
section
def Tx (A : Nat → Prop) (w : World) (v : Value) (ps : List (Int × List Nat)) : Prop :=
 (∃ ao cap, v = .slice ao ps.length cap ∧ ps.length ≤ cap ∧ cap ≤ maxLen ∧ (ao = none → cap = 0) ∧
  ∀ i (h : i < ps.length), ∃ b off u, ao = some ⟨b, off, none⟩ ∧ ¬ A b ∧ w.cell? ⟨b, off + i * 2, none⟩ = some (.int .i64 ps[i].1) ∧ w.cell? ⟨b, off + i * 2 + 1, none⟩ = some u ∧ Bx A w u ps[i].2) ∧
 ∀ p ∈ ps, -9223372036854775808 ≤ p.1 ∧ p.1 < 9223372036854775808
theorem Tx.ch {A A' : Nat → Prop} {w w' : World} {v : Value} {ps : List (Int × List Nat)} (h : Tx A w v ps) (hc : Ch A w w') (hd : ∀ x, A' x → A x ∨ w.heap.size ≤ x) : Tx A' w' v ps := by
 obtain ⟨⟨ao, cap, e, h1, h2, h3, h4⟩, h5⟩ := h;refine ⟨⟨ao, cap, e, h1, h2, h3, fun i hi => ?_⟩, h5⟩;obtain ⟨b, off, u, e1, hn, c0, c1, hv⟩ := h4 i hi;have hbl := cell_lt c0;refine ⟨b, off, u, e1, fun ha => ?_, ?_, ?_, hv.ch hc hd⟩
 ·rcases hd b ha with q | q
  ·exact hn q
  ·simp only at hbl; omega
 ·rw [World.cell?_of_block (w := w) (a := ⟨b, off + i * 2, none⟩) (hc.block b hbl hn)]; exact c0
 ·rw [World.cell?_of_block (w := w) (a := ⟨b, off + i * 2 + 1, none⟩) (hc.block b hbl hn)]; exact c1
theorem Tx.below {A : Nat → Prop} {w w' : World} {v : Value} {ps : List (Int × List Nat)} (h : Tx A w v ps) (hb : Below w.heap.size w w') : Tx A w' v ps := h.ch (Ch.of_below hb) (fun _ hx => .inl hx)
theorem Tx.form {A : Nat → Prop} {w : World} {v : Value} {ps : List (Int × List Nat)} (h : Tx A w v ps) : ∃ ao cap, v = .slice ao ps.length cap ∧ ps.length ≤ cap ∧ cap ≤ maxLen := by
 obtain ⟨⟨ao, cap, e, h1, h2, _⟩, _⟩ := h;exact ⟨ao, cap, e, h1, h2⟩
theorem Tx.at {A : Nat → Prop} {w : World} {ao : Option Addr} {n cap : Nat} {ps : List (Int × List Nat)} (h : Tx A w (.slice ao n cap) ps) {i : Nat} (hi : i < ps.length) : ∃ b off u, ao = some ⟨b, off, none⟩ ∧ ¬ A b ∧ w.cell? ⟨b, off + i * 2, none⟩ = some (.int .i64 ps[i].1) ∧ w.cell? ⟨b, off + i * 2 + 1, none⟩ = some u ∧ Bx A w u ps[i].2 := by
 obtain ⟨⟨ao', cap', e, h1, h2, h3, h4⟩, h5⟩ := h;simp only [Value.slice.injEq] at e;obtain ⟨b, off, u, e1, r⟩ := h4 i hi;exact ⟨b, off, u, e.1.trans e1, r⟩
def pgs (ps : List (Int × List Nat)) (k : Nat) : List Int := (ps.take k).map (·.1)
theorem pgs_succ {ps : List (Int × List Nat)} {k : Nat} (h : k < ps.length) : pgs ps (k + 1) = pgs ps k ++ [ps[k].1] := by
 unfold pgs; rw [List.take_succ_eq_append_getElem h, List.map_append]; rfl
def Sn (w : World) (sb : Nat) (ps : List (Int × List Nat)) (k : Nat) : Prop := ∃ cur, w.heap[sb]? = some (.cells cur 181 (0, 0)) ∧ cur.size = 8 ∧ ∀ p : Nat, p < 8 → cur[p]? = some (.bool (decide ((p : Int) ∈ pgs ps k)))
section

variable {w w' : World} {sb : Nat} {ps : List (Int × List Nat)} {k : Nat}

theorem Sn.lt (h : Sn w sb ps k) : sb < w.heap.size := by obtain ⟨cur, h1, _⟩ := h; exact (Array.getElem?_eq_some_iff.1 h1).1
theorem Sn.below (h : Sn w sb ps k) (hb : Below w.heap.size w w') : Sn w' sb ps k := by
 have := h.lt;obtain ⟨cur, h1, h2, h3⟩ := h;exact ⟨cur, by rw [hb.block sb this]; exact h1, h2, h3⟩
theorem Sn.cell (h : Sn w sb ps k) {p : Nat} (hp : p < 8) : w.cell? ⟨sb, p, none⟩ = some (.bool (decide ((p : Int) ∈ pgs ps k))) := by
 obtain ⟨cur, h1, h2, h3⟩ := h;rw [cell_of_row w sb p cur _ (0, 0) h1]; exact h3 p hp
theorem Sn.soft (h : Sn w sb ps k) (i : Nat) : w.frozen? ⟨sb, i, none⟩ = false := by
 obtain ⟨cur, h1, _⟩ := h; simp [World.frozen?, h1]
theorem Sn.set (h : Sn w sb ps k) (hk : k < ps.length) {p : Nat} (hp : p < 8) (he : ps[k].1 = (p : Int)) : Sn (w.setCell ⟨sb, p, none⟩ (.bool true)) sb ps (k + 1) := by
 obtain ⟨cur, h1, h2, h3⟩ := h;refine ⟨_, set_row h1 p _, by simpa using h2, fun q hq => ?_⟩;rw [pgs_succ hk, he, Array.getElem?_setIfInBounds];by_cases e : p = q
 ·subst e;rw [if_pos rfl, if_pos (by omega), decide_eq_true (by simp)]
 ·rw [if_neg e, h3 q hq];congr 2;simp only [List.mem_append, List.mem_singleton];exact decide_eq_decide.2 ⟨fun h => .inl h, fun h => by rcases h with h | h; exact h; omega⟩
theorem fault_page {n : Nat} (hk : k < ps.length) (h : ps[k].1 < 0 ∨ (n : Int) ≤ ps[k].1) : faultF n (pgs ps k) (ps.drop k) = 91 := by
 rw [List.drop_eq_getElem_cons hk]; unfold faultF; rw [if_pos h]
theorem fault_twice {n : Nat} (hk : k < ps.length) (h : ¬ (ps[k].1 < 0 ∨ (n : Int) ≤ ps[k].1)) (h2 : ps[k].1 ∈ pgs ps k) : faultF n (pgs ps k) (ps.drop k) = 93 := by
 rw [List.drop_eq_getElem_cons hk]; unfold faultF; rw [if_neg h, if_pos h2]
theorem fault_long {n : Nat} (hk : k < ps.length) (h : ¬ (ps[k].1 < 0 ∨ (n : Int) ≤ ps[k].1)) (h2 : ps[k].1 ∉ pgs ps k) (h3 : 1024 < ps[k].2.length) : faultF n (pgs ps k) (ps.drop k) = 6 := by
 rw [List.drop_eq_getElem_cons hk]; unfold faultF; rw [if_neg h, if_neg h2, if_pos h3]
theorem fault_next {n : Nat} (hk : k < ps.length) (h : ¬ (ps[k].1 < 0 ∨ (n : Int) ≤ ps[k].1)) (h2 : ps[k].1 ∉ pgs ps k) (h3 : ¬ 1024 < ps[k].2.length) : faultF n (pgs ps k) (ps.drop k) = faultF n (pgs ps (k + 1)) (ps.drop (k + 1)) := by
 rw [List.drop_eq_getElem_cons hk, pgs_succ hk]
 conv => lhs; unfold faultF
 rw [if_neg h, if_neg h2, if_neg h3]
theorem fault_end {n : Nat} (hk : ps.length ≤ k) : faultF n (pgs ps k) (ps.drop k) = 0 := by
 rw [List.drop_of_length_le hk]; rfl
end

def FaRel (w : World) (n : Nat) (ps : List (Int × List Nat)) (iv : Value) (wr : World) : Prop :=
 ∃ k : Nat, k ≤ ps.length ∧ iv = .int .i64 k ∧ faultI n ps = faultF n (pgs ps k) (ps.drop k) ∧ Sn wr w.heap.size ps k ∧ Below w.heap.size w wr
section

variable {A D : Nat → Prop} {w w' : World} {v dv tv lv : Value} {P P' : Bo} {S S' : Dk} {pb : Nat} {ps : List (Int × List Nat)}

theorem fault_walk (h : MP A D w pb tv dv P S) (hl : Tx A w lv ps) : Calls Tryz.prog 89 #[.pointer (some ⟨pb, 0, none⟩), lv] w fun e w' => e = .returned (.int .i64 (faultI P.tab.length ps)) ∧ Below w.heap.size w w' := by
 have HM := hidH h;have HL : Hid (Tx A w lv ps) := hl;obtain ⟨lo, lc, rfl, hl1, hl2⟩ := hl.form;have hli : (ps.length : Int) ≤ 9223372036854775807 := by simp only [maxLen] at hl2; omega
 clear h hl hl1 hl2
 have HS0 : Hid (Sn (w.alloc (Obj.cells #[.bool false, .bool false, .bool false, .bool false, .bool false, .bool false, .bool false, .bool false] 181)) w.heap.size ps 0) := by
  refine ⟨_, heap_alloc_new w _, rfl, fun p hp => ?_⟩;have : p = 0 ∨ p = 1 ∨ p = 2 ∨ p = 3 ∨ p = 4 ∨ p = 5 ∨ p = 6 ∨ p = 7 := by omega
  rcases this with rfl | rfl | rfl | rfl | rfl | rfl | rfl | rfl <;> rfl
 go_in;go_wp2_with fail;go_loopw [10] (fun iv wr => FaRel w P.tab.length ps iv wr) (fun iv _ => ps.length - (intOf iv).toNat)
 case atStart => exact ⟨0, Nat.zero_le _, rfl, rfl, HS0.out, below_alloc _ _⟩
 case round =>
  obtain ⟨k, hk, rfl, hfa, hS, hB⟩ := hrel;have HFA : Hid (faultI P.tab.length ps = faultF P.tab.length (pgs ps k) (ps.drop k)) := hfa;have HS := hidH hS;have HB := hidH hB;clear hfa hS hB HS0;by_cases hlt : k < ps.length
  ·obtain ⟨b, off, u, rfl, _, l0, l1, hbx⟩ := (HL.out.below HB.out).at hlt;have HU : Hid (Bv wr u ps[k].2) := hbx.1;obtain ⟨p, hp⟩ : ∃ p, p = ps[k].1 := ⟨_, rfl⟩;obtain ⟨d, hd⟩ : ∃ d, d = ps[k].2 := ⟨_, rfl⟩;rw [← hp] at l0;rw [← hd] at HU;have HP : Hid (p = ps[k].1) := hp;have HDD : Hid (d = ps[k].2) := hd;obtain ⟨uo, uc, rfl, _, _⟩ := bv_formD HU.out;have hlti : (k : Int) < (ps.length : Int) := by omega
   have HM1 := hidH (HM.out.below HB.out);clear hp hd hbx;obtain ⟨wa, hwa⟩ : ∃ wa, wa = wr.alloc (Obj.cells #[.int .i64 p, .slice uo d.length uc] 80) := ⟨_, rfl⟩;have HWA : Hid (wa = wr.alloc (Obj.cells #[.int .i64 p, .slice uo d.length uc] 80)) := hwa;have hBa : Below wr.heap.size wr wa := by rw [hwa]; exact below_alloc _ _
   have HBA := hidH hBa;have HMA := hidH (HM1.out.below hBa);have HN0 : Hid (wa.cell? ⟨wr.heap.size, 0, none⟩ = some (.int .i64 p)) := by show _ = _; rw [hwa]; simp [go_sem]
   have HN1 : Hid (wa.cell? ⟨wr.heap.size, 1, none⟩ = some (.slice uo d.length uc)) := by show _ = _; rw [hwa]; simp [go_sem]
   have HSA := hidH (HS.out.below hBa);have HBW := hidH (below_trans HB.out hBa);have j0 : ∀ wx, Below wa.heap.size wa wx → wx.cell? ⟨pb, 0, none⟩ = some (.int .u64 P.gen) := fun wx hx => mp0 (HMA.out.below hx);have j1 : ∀ wx, Below wa.heap.size wa wx → wx.cell? ⟨pb, 1, none⟩ = some tv := fun wx hx => mp1 (HMA.out.below hx);have j2 : ∀ wx, Below wa.heap.size wa wx → wx.cell? ⟨wr.heap.size, 0, none⟩ = some (.int .i64 p) := fun wx hx => by rw [hx.cell (p := ⟨wr.heap.size, 0, none⟩) (cell_lt HN0.out)]; exact HN0.out
   have HTA : Hid (Tw wa tv P.tab) := HMA.out.tab;have hSd : Below wa.heap.size wa wa.drew := below_drewN _ _;clear hwa hBa
   cases hh : hasB P.tab.length p
   ·have HH : Hid (hasB P.tab.length p = false) := hh
    have HR : Hid (faultI P.tab.length ps = 91) := by
     show _ = _;rw [HFA.out, fault_page hlt];rw [← HP.out];have := of_decide_eq_false hh;omega
    clear hh;go_wp2_with fail;rw [← HWA.out]
    go_region_held3 (fun wx => Below wa.heap.size wa wx) (first | assumption)
     (first
      | (go_at_call 158; refine (has_walk P.gen (HTA.out.below (by assumption)) p).mono ?_; rw [HH.out]; rintro e w3 ⟨rfl, hB3⟩; have hS3 : Below wa.heap.size wa w3 := below_trans (by assumption) hB3))
    all_goals go_wp2_with fail
    all_goals (try simp only [Exit.inBlock, Exit.then])
    all_goals go_ret
    all_goals exact ⟨by rw [HR.out]; rfl, below_trans HBW.out hS3⟩
   ·have HH : Hid (hasB P.tab.length p = true) := hh;obtain ⟨hp0, hp1⟩ := has_of hh;have h8 := HM.out.ok.n8;obtain ⟨n, rfl⟩ : ∃ n : Nat, p = n := ⟨p.toNat, by omega⟩;have hn8 : n < 8 := by omega
    have HNP : Hid (¬ (ps[k].1 < 0 ∨ (P.tab.length : Int) ≤ ps[k].1)) := by show ¬ _; rw [← HP.out]; omega
    have hni : (n : Int) < 8 := by omega
    clear hh hp0 hp1 h8;by_cases htw : (n : Int) ∈ pgs ps k
    ·have HR : Hid (faultI P.tab.length ps = 93) := by
      show _ = _;rw [HFA.out, fault_twice hlt HNP.out (by rw [← HP.out]; exact htw)]
     have HTW : Hid (decide ((n : Int) ∈ pgs ps k) = true) := decide_eq_true htw;clear htw;go_wp2_with fail;rw [← HWA.out]
     go_region_held3 (fun wx => Below wa.heap.size wa wx) (first | assumption)
      (first
       | (go_at_call 158; refine (has_walk P.gen (HTA.out.below (by assumption)) n).mono ?_; rw [HH.out]; rintro e w3 ⟨rfl, hB3⟩; have hS3 : Below wa.heap.size wa w3 := below_trans (by assumption) hB3))
     all_goals
      have HB3 := hidH hS3;have q1 : w3.cell? ⟨wr.heap.size, 0, none⟩ = some (.int .i64 n) := j2 w3 hS3;have q2 : w3.cell? ⟨w.heap.size, n, none⟩ = some (.bool true) := by rw [(HSA.out.below hS3).cell hn8, HTW.out]
      clear hS3 hB3;go_wp2_with fail
      (try simp only [Exit.inBlock, Exit.then])
      go_ret;exact ⟨by rw [HR.out]; rfl, below_trans HBW.out HB3.out⟩
    ·have HTW : Hid (decide ((n : Int) ∈ pgs ps k) = false) := decide_eq_false htw;have HTN : Hid (ps[k].1 ∉ pgs ps k) := by show ¬ _; rw [← HP.out]; exact htw
     clear htw;by_cases hdl : d.length ≤ 1024
     ·have HR : Hid (faultI P.tab.length ps = faultF P.tab.length (pgs ps (k + 1)) (ps.drop (k + 1))) := by
       show _ = _;rw [HFA.out, fault_next hlt HNP.out HTN.out (by rw [← HDD.out]; omega)]
      have hdi : (d.length : Int) ≤ 1024 := by omega
      have hdd : decide ((1024 : Int) < (d.length : Int)) = false := decide_eq_false (by omega);clear hdl;go_wp2_with fail;rw [← HWA.out]
      go_region_held3 (fun wx => Below wa.heap.size wa wx) (first | assumption)
       (first
        | (go_at_call 158; refine (has_walk P.gen (HTA.out.below (by assumption)) n).mono ?_; rw [HH.out]; rintro e w3 ⟨rfl, hB3⟩; have hS3 : Below wa.heap.size wa w3 := below_trans (by assumption) hB3))
      all_goals
       have HB3 := hidH (below_trans HBW.out hS3);have HS3 := hidH (HSA.out.below hS3);have q1 : w3.cell? ⟨wr.heap.size, 0, none⟩ = some (.int .i64 n) := j2 w3 hS3;have q3 : w3.cell? ⟨wr.heap.size, 1, none⟩ = some (.slice uo d.length uc) := by rw [hS3.cell (p := ⟨wr.heap.size, 1, none⟩) (cell_lt HN1.out)]; exact HN1.out
       have q2 : w3.cell? ⟨w.heap.size, n, none⟩ = some (.bool false) := by rw [HS3.out.cell hn8, HTW.out]
       have q4 := HS3.out.soft n;clear hS3 hB3;go_wp2_with fail;go_roundw
      case rel => exact ⟨k + 1, hlt, by simp, HR.out, HS3.out.set hlt hn8 HP.out.symm, HB3.out.setCell (p := ⟨w.heap.size, n, none⟩) (by simp) _⟩
      case measure => simp [intOf]; omega
     ·have HR : Hid (faultI P.tab.length ps = 6) := by
       show _ = _;rw [HFA.out, fault_long hlt HNP.out HTN.out (by rw [← HDD.out]; omega)]
      have hdi : (1024 : Int) < (d.length : Int) := by omega
      clear hdl;go_wp2_with fail;rw [← HWA.out]
      go_region_held3 (fun wx => Below wa.heap.size wa wx) (first | assumption)
       (first
        | (go_at_call 158; refine (has_walk P.gen (HTA.out.below (by assumption)) n).mono ?_; rw [HH.out]; rintro e w3 ⟨rfl, hB3⟩; have hS3 : Below wa.heap.size wa w3 := below_trans (by assumption) hB3))
      all_goals
       have HB3 := hidH (below_trans HBW.out hS3);have HS3 := hidH (HSA.out.below hS3);have q1 : w3.cell? ⟨wr.heap.size, 0, none⟩ = some (.int .i64 n) := j2 w3 hS3;have q3 : w3.cell? ⟨wr.heap.size, 1, none⟩ = some (.slice uo d.length uc) := by rw [hS3.cell (p := ⟨wr.heap.size, 1, none⟩) (cell_lt HN1.out)]; exact HN1.out
       have q2 : w3.cell? ⟨w.heap.size, n, none⟩ = some (.bool false) := by rw [HS3.out.cell hn8, HTW.out]
       clear hS3 hB3;go_wp2_with fail
       (try simp only [Exit.inBlock, Exit.then])
       go_ret;exact ⟨by rw [HR.out]; rfl, HB3.out⟩
  ·have HR : Hid (faultI P.tab.length ps = 0) := by show _ = _; rw [HFA.out, fault_end (by omega)]
   have hlti : ¬ (k : Int) < (ps.length : Int) := by omega
   go_wp2_with fail;go_ret;exact ⟨by rw [HR.out]; rfl, HB.out⟩
end
end
section
def Zt (w : World) (g cap : Nat) (t : List Nat) : Prop := (∃ cur, w.heap[g]? = some (.cells cur 3 (0, 0)) ∧ cur.size = cap ∧ ∀ i, i < t.length → cur[i]? = some (.int .i64 (tn t i : Nat))) ∧ t.length ≤ cap ∧ cap ≤ maxLen
section

variable {w w' : World} {g cap : Nat} {t : List Nat}

theorem Zt.cell (h : Zt w g cap t) {i : Nat} (hi : i < t.length) : w.cell? ⟨g, i, none⟩ = some (.int .i64 (tn t i : Nat)) := by
 obtain ⟨⟨cur, h1, h2, h3⟩, _⟩ := h;rw [cell_of_row w g i cur _ (0, 0) h1]; exact h3 i hi
theorem Zt.soft (h : Zt w g cap t) (i : Nat) : w.frozen? ⟨g, i, none⟩ = false := by
 obtain ⟨⟨cur, h1, _⟩, _⟩ := h; simp [World.frozen?, h1]
theorem Zt.lt (h : Zt w g cap t) : g < w.heap.size := by obtain ⟨⟨cur, h1, _⟩, _⟩ := h; exact (Array.getElem?_eq_some_iff.1 h1).1
theorem Zt.keep (h : Zt w g cap t) (hk : w'.heap[g]? = w.heap[g]?) : Zt w' g cap t := by
 obtain ⟨⟨cur, h1, h2⟩, h3⟩ := h; exact ⟨⟨cur, by rw [hk]; exact h1, h2⟩, h3⟩
theorem Zt.below (h : Zt w g cap t) (hb : Below w.heap.size w w') : Zt w' g cap t := h.keep (hb.block g h.lt)
theorem Zt.set (h : Zt w g cap t) {j : Nat} (x : Nat) : Zt (w.setCell ⟨g, j, none⟩ (.int .i64 x)) g cap (t.set j x) := by
 obtain ⟨⟨cur, h1, h2, h3⟩, h4, h5⟩ := h;refine ⟨⟨_, set_row h1 j _, by simpa using h2, fun i hi => ?_⟩, by simpa using h4, h5⟩;rw [List.length_set] at hi;rw [tn_set hi, Array.getElem?_setIfInBounds];by_cases e : j = i
 ·subst e; rw [if_pos rfl, if_pos (by omega), if_pos rfl]
 ·rw [if_neg e, if_neg e]; exact h3 i hi
theorem Zt.tw (h : Zt w g cap t) : Tw w (.slice (some ⟨g, 0, none⟩) t.length cap) t := by
 refine ⟨_, cap, by rw [ib_len], by rw [ib_len]; exact h.2.1, h.2.2, by simp, fun i hi => ⟨g, 0, rfl, ?_⟩⟩;rw [ib_len] at hi;rw [Nat.zero_add, ib_at hi]; exact h.cell hi
theorem own_zt {base n : Nat} {v : Value} (h : w.ownsRow base 3 1 v n ((ib t).map (Value.int .i64))) (h1 : 1 ≤ t.length) : ∃ g cap, v = .slice (some ⟨g, 0, none⟩) t.length cap ∧ Zt w g cap t ∧ base ≤ g := by
 obtain ⟨hn, h2⟩ := h;have hn' : n = t.length := by rw [List.length_map, ib_len] at hn; omega
 subst hn';rcases h2 with ⟨rfl, h0⟩ | ⟨g, cap, cur, rfl, hb, hg, hnc, hcm, hcs, htake⟩
 ·omega
 ·refine ⟨g, cap, rfl, ⟨⟨cur, hg, by omega, fun i hi => ?_⟩, hnc, hcm⟩, hb⟩;have hh : (cur.toList.take (t.length * 1))[i]? = ((ib t).map (Value.int .i64))[i]? := by rw [htake]
  rw [List.getElem?_take, if_pos (by omega)] at hh;rw [← Array.getElem?_toList, hh];unfold ib tn;simp [List.getD, hi]
end

def layS (t : List Nat) : List (Int × List Nat) → Nat → List Nat → Dk → Option (List Nat) × Dk
 | [], _, n, S => (some n, S)
 | (p, d) :: l, b, n, S => if d = [] then layS t l b (n.set p.toNat 0) S else
   if writeI S (nextF t b : Nat) d = 0 then layS t l (nextF t b) (n.set p.toNat (nextF t b)) (writeS S (nextF t b : Nat) d) else (none, writeS S (nextF t b : Nat) d)
theorem write_len {S : Dk} {i : Int} {b : List Nat} : (writeS S i b).bl.length = S.bl.length := by
 unfold writeS; split
 ·rfl
 ·split
  ·rfl
  ·split
   ·rfl
   ·simp [putS]
theorem write_wr {S : Dk} {i : Int} {b : List Nat} : (writeS S i b).wr ≤ S.wr + 1 := by
 unfold writeS; split
 ·omega
 ·split
  ·omega
  ·split
   ·show S.wr ≤ _; omega
   ·show S.wr + 1 ≤ _; omega
section

variable {t n : List Nat} {ps : List (Int × List Nat)} {b k : Nat} {S : Dk}

theorem lay_none (hk : k < ps.length) (hd : ps[k].2 = []) : layS t (ps.drop k) b n S = layS t (ps.drop (k + 1)) b (n.set ps[k].1.toNat 0) S := by
 rw [List.drop_eq_getElem_cons hk]; conv => lhs; unfold layS
 rw [if_pos hd]
theorem lay_some (hk : k < ps.length) (hd : ps[k].2 ≠ []) (hw : writeI S (nextF t b : Nat) ps[k].2 = 0) : layS t (ps.drop k) b n S = layS t (ps.drop (k + 1)) (nextF t b) (n.set ps[k].1.toNat (nextF t b)) (writeS S (nextF t b : Nat) ps[k].2) := by
 rw [List.drop_eq_getElem_cons hk]; conv => lhs; unfold layS
 rw [if_neg hd, if_pos hw]
theorem lay_fail (hk : k < ps.length) (hd : ps[k].2 ≠ []) (hw : writeI S (nextF t b : Nat) ps[k].2 ≠ 0) : layS t (ps.drop k) b n S = (none, writeS S (nextF t b : Nat) ps[k].2) := by
 rw [List.drop_eq_getElem_cons hk]; unfold layS;rw [if_neg hd, if_neg hw]
theorem lay_end (hk : ps.length ≤ k) : layS t (ps.drop k) b n S = (some n, S) := by rw [List.drop_of_length_le hk]; rfl
end

def FrP (t tk : List Nat) (b : Nat) : Prop := ∀ y, 2 ≤ y → y ≤ b → y ∈ t ∨ y ∈ tk
theorem fr_next {t tk : List Nat} {b : Nat} (h : FrP t tk b) : FrP t (nextF t b :: tk) (nextF t b) := by
 intro y h1 h2;by_cases e : y ≤ b
 ·rcases h y h1 e with q | q
  ·exact .inl q
  ·exact .inr (by simp [q])
 ·by_cases e2 : y = nextF t b
  ·exact .inr (by simp [e2])
  ·exact .inl (next_mid (t := t) (b := b) (by omega) (by omega))
structure Nx (w : World) (nb g cap gen : Nat) (t : List Nat) : Prop where
 head : w.heap[nb]? = some (.cells #[.int .u64 gen, .slice (some ⟨g, 0, none⟩) t.length cap] 131 (0, 0))
 row : Zt w g cap t
 ne : g ≠ nb
section

variable {w w' : World} {nb g cap gen : Nat} {t : List Nat}

theorem Nx.lt (h : Nx w nb g cap gen t) : nb < w.heap.size := (Array.getElem?_eq_some_iff.1 h.head).1
theorem Nx.keep (h : Nx w nb g cap gen t) (h1 : w'.heap[nb]? = w.heap[nb]?) (h2 : w'.heap[g]? = w.heap[g]?) : Nx w' nb g cap gen t := ⟨by rw [h1]; exact h.head, h.row.keep h2, h.ne⟩
theorem Nx.below (h : Nx w nb g cap gen t) (hb : Below w.heap.size w w') : Nx w' nb g cap gen t := h.keep (hb.block _ h.lt) (hb.block _ h.row.lt)
theorem Nx.ch {E : Nat → Prop} (h : Nx w nb g cap gen t) (hc : Ch E w w') (h1 : ¬ E nb) (h2 : ¬ E g) : Nx w' nb g cap gen t := h.keep (hc.block _ h.lt h1) (hc.block _ h.row.lt h2)
theorem Nx.c0 (h : Nx w nb g cap gen t) : w.cell? ⟨nb, 0, none⟩ = some (.int .u64 gen) := by rw [cell_of_row w nb 0 _ _ (0, 0) h.head]; rfl
theorem Nx.c1 (h : Nx w nb g cap gen t) : w.cell? ⟨nb, 1, none⟩ = some (.slice (some ⟨g, 0, none⟩) t.length cap) := by rw [cell_of_row w nb 1 _ _ (0, 0) h.head]; rfl
theorem Nx.set (h : Nx w nb g cap gen t) (j x : Nat) : Nx (w.setCell ⟨g, j, none⟩ (.int .i64 x)) nb g cap gen (t.set j x) :=
 ⟨by rw [set_other j _ (fun e => h.ne e.symm), List.length_set]; exact h.head, h.row.set x, h.ne⟩
theorem nx_behind (h : Zt w g cap t) (gen : Nat) : Nx (w.alloc (.cells #[.int .u64 gen, .slice (some ⟨g, 0, none⟩) t.length cap] 131)) w.heap.size g cap gen t :=
 ⟨heap_alloc_new w _, h.below (below_alloc _ _), fun e => by have := h.lt; omega⟩
end

theorem new_root {w w5 : World} {t : TypeId} (h : Below (w.alloc (Obj.cells #[.int .u64 0, .slice none 0 0] t)).drew.heap.size (w.alloc (Obj.cells #[.int .u64 0, .slice none 0 0] t)).drew w5) : w5.heap[w.heap.size]? = some (.cells #[.int .u64 0, .slice none 0 0] t (0, 0)) := by
 have h0 : (w.alloc (Obj.cells #[.int .u64 0, .slice none 0 0] t)).drew.heap[w.heap.size]? = some (.cells #[.int .u64 0, .slice none 0 0] t (0, 0)) := heap_alloc_new w _;rw [h.block w.heap.size (by simp [World.drew])]; exact h0
theorem root_cells {w : World} {T : Nat} {t : TypeId} {a b : Value} (h : w.heap[T]? = some (.cells #[a, b] t (0, 0))) : w.cell? ⟨T, 0, none⟩ = some a ∧ w.cell? ⟨T, 1, none⟩ = some b ∧ w.frozen? ⟨T, 0, none⟩ = false ∧ w.frozen? ⟨T, 1, none⟩ = false := by
 refine ⟨?_, ?_, ?_, ?_⟩
 ·rw [cell_of_row w T _ _ _ (0, 0) h]; rfl
 ·rw [cell_of_row w T _ _ _ (0, 0) h]; rfl
 ·simp [World.frozen?, h]
 ·simp [World.frozen?, h]
theorem root_set {w : World} {T : Nat} {t : TypeId} {a b a' b' : Value} (h : w.heap[T]? = some (.cells #[a, b] t (0, 0))) : ((w.setCell ⟨T, 0, none⟩ a').setCell ⟨T, 1, none⟩ b').heap[T]? = some (.cells #[a', b'] t (0, 0)) := by
 simp only [Sort.setCell_eq];simp [Sort.mapBlock, Array.getElem?_modify, h, Sort.onCells]
theorem nx_ahead {w5 : World} {nb g cap : Nat} {t : List Nat} {a b : Value} (h : w5.heap[nb]? = some (.cells #[a, b] 131 (0, 0))) (hZ : Zt w5 g cap t) (hne : g ≠ nb) (gen : Nat) :
  Nx ((w5.setCell ⟨nb, 0, none⟩ (.int .u64 gen)).setCell ⟨nb, 1, none⟩ (.slice (some ⟨g, 0, none⟩) t.length cap)) nb g cap gen t :=
 ⟨root_set h, hZ.keep (by rw [set_other 1 _ hne, set_other 0 _ hne]), hne⟩
def LyRel (A : Nat → Prop) (w : World) (pb : Nat) (tv dv : Value) (P : Bo) (S : Dk) (ps : List (Int × List Nat)) (nb g cap : Nat) (bv iv : Value) (wr : World) : Prop :=
 ∃ (k b : Nat) (t' tk : List Nat) (A' D' : Nat → Prop) (S' : Dk), k ≤ ps.length ∧ iv = .int .i64 k ∧ bv = .int .i64 b ∧ layS P.tab ps 1 P.tab S = layS P.tab (ps.drop k) b t' S' ∧
  FrP P.tab tk b ∧ tk.length ≤ k ∧ b ≤ 2 + P.tab.length + k ∧ t'.length = P.tab.length ∧
  MP A' D' wr pb tv dv P S' ∧ (∀ x, A' x → A x ∨ w.heap.size < x) ∧ Ch A w wr ∧ Nx wr nb g cap (P.gen + 1) t' ∧ ¬ A' nb ∧ ¬ A' g ∧
  wr.heap[w.heap.size]? = some (.cells #[.int .u64 0, .slice none 0 0] 131 (0, 0)) ∧ w.heap.size < nb ∧ w.heap.size < g ∧ S'.wr ≤ S.wr + k
theorem BM.other {F : Value → Value → Bo → Array Value} {TB TD : TypeId} {A D : Nat → Prop} {w : World} {pb : Nat} {tv dv : Value} {P : Bo} {S : Dk} (h : BM F TB TD A D w pb tv dv P S) {g : Nat} (hg : ¬ A g) (i : Nat) (u : Value) : BM F TB TD A D (w.setCell ⟨g, i, none⟩ u) pb tv dv P S :=
 h.keep (fun x hx => set_other i u (fun e => hg (e ▸ hx))) (by simp)
theorem ch_new {A : Nat → Prop} {w w' : World} (h : Ch A w w') {g : Nat} (hg : w.heap.size ≤ g) (i : Nat) (u : Value) : Ch A w (w'.setCell ⟨g, i, none⟩ u) :=
 h.trans (Ch.of_grown (D := fun x => x = g) (grown_set w' g i u) (fun x hx => by cases hx; rfl)) (fun x hx => .inr (hx ▸ hg))
def Ly (A : Nat → Prop) (w : World) (pb : Nat) (tv dv : Value) (P : Bo) (S : Dk) (ps : List (Int × List Nat)) (e : Ending) (w' : World) : Prop :=
 ∃ A' D', MP A' D' w' pb tv dv P (layS P.tab ps 1 P.tab S).2 ∧ (∀ x, A' x → A x ∨ w.heap.size ≤ x) ∧ Ch A w w' ∧ (layS P.tab ps 1 P.tab S).2.wr ≤ S.wr + ps.length ∧
  (∀ t', (layS P.tab ps 1 P.tab S).1 = some t' → ∃ g cap, e = .returned (.agg #[.int .u64 (P.gen + 1 : Nat), .slice (some ⟨g, 0, none⟩) t'.length cap]) ∧ Zt w' g cap t' ∧ ¬ A' g ∧ w.heap.size ≤ g ∧ t'.length = P.tab.length) ∧
  ((layS P.tab ps 1 P.tab S).1 = none → ∃ u pv, e = .panicked [{ v := .iface u pv, recovered := false }])
section

variable {A D : Nat → Prop} {w w' : World} {v dv tv lv : Value} {P P' : Bo} {S S' : Dk} {pb : Nat} {ps : List (Int × List Nat)}

theorem lay_walk (h : MP A D w pb tv dv P S) (hl : Tx A w lv ps) (hok : Lok P.tab.length ps) (hg : P.gen < 1099511627776) (hwr : S.wr < 4611686018427387904) :
  Calls Tryz.prog 91 #[.pointer (some ⟨pb, 0, none⟩), lv] w fun e w' => Ly A w pb tv dv P S ps e w' := by
 have HM := hidH h;have HL : Hid (Tx A w lv ps) := hl;have HOK : Hid (Lok P.tab.length ps) := hok;have HWR := hidH hwr;obtain ⟨lo, lc, rfl, hl1, hl2⟩ := hl.form;have hpl : ps.length ≤ 8 := Nat.le_trans (lok_len hok) h.ok.n8;have hli : (ps.length : Int) ≤ 8 := by omega
 have r1 : IntKind.u64.wrap ((P.gen : Int) + 1) = ((P.gen + 1 : Nat) : Int) := by rw [IntKind.wrap_u64]; omega
 obtain ⟨wz, hwz⟩ : ∃ wz, wz = w.alloc (Obj.cells #[.int .u64 0, .slice none 0 0] 131) := ⟨_, rfl⟩;have HWZ : Hid (wz = w.alloc (Obj.cells #[.int .u64 0, .slice none 0 0] 131)) := hwz;have hBz : Below w.heap.size w wz := by rw [hwz]; exact below_alloc _ _
 have HBZ := hidH hBz;have HZS : Hid (wz.heap.size = w.heap.size + 1) := by show _ = _; rw [hwz]; simp
 have HRZ : Hid (wz.heap[w.heap.size]? = some (.cells #[.int .u64 0, .slice none 0 0] 131 (0, 0))) := by show _ = _; rw [hwz]; exact heap_alloc_new w _
 have HMZ : Hid (MP A D wz pb tv dv P S) := h.below hBz;have j0 : ∀ wx, Below wz.heap.size wz wx → wx.cell? ⟨pb, 0, none⟩ = some (.int .u64 P.gen) := fun wx hx => mp0 (HMZ.out.below hx);have j1 : ∀ wx, Below wz.heap.size wz wx → wx.cell? ⟨pb, 1, none⟩ = some tv := fun wx hx => mp1 (HMZ.out.below hx);have HTZ : Hid (Tw wz tv P.tab) := HMZ.out.tab;have H8 : Hid (P.tab.length ≤ 8) := h.ok.n8;have H1 : Hid (1 ≤ P.tab.length) := h.ok.tok.1;have hSd : Below wz.heap.size wz wz.drew := below_drewN _ _;clear h hl hok hg hwr hl1 hl2 hpl hwz hBz;go_in;go_wp2_with fail;rw [← HWZ.out];go_cut [5] (fun nv wx => ∃ nb g cap, nv = .pointer (some ⟨nb, 0, none⟩) ∧ Nx wx nb g cap (P.gen + 1) P.tab ∧ wz.heap.size ≤ nb ∧ wz.heap.size ≤ g ∧ Below wz.heap.size wz wx)
 case first =>
  go_region_held3 (fun wx => Below wz.heap.size wz wx) (first | assumption | exact below_trans (by assumption) (below_alloc _ _) | exact (below_alloc _ _).drew | exact (Below.setCell (by assumption) (p := ⟨_, 0, none⟩) (Nat.le_refl _) _).setCell (p := ⟨_, 1, none⟩) (Nat.le_refl _) _)
   (first
    | (go_at_call 159; refine (clonet_walk (HTZ.out.below (by assumption)) H8.out).mono ?_; rintro e w5 ⟨cv, rfl, hcv, hB5⟩; obtain ⟨g, cp, hge, hZ, hgb⟩ := own_zt hcv H1.out; subst hge; have hS5 : Below wz.heap.size wz w5 := below_trans (by assumption) hB5; try (have hnb := new_root hB5; obtain ⟨z0, z1, f0, f1⟩ := root_cells hnb)))
  all_goals go_wp2_with fail
  all_goals go_meet
  ·exact ⟨_, g, cp, rfl, nx_behind hZ (P.gen + 1), hS5.size, Nat.le_trans (Below.size (by assumption)) hgb, below_trans hS5 (below_alloc _ _)⟩
  ·exact ⟨_, g, cp, rfl, nx_ahead hnb hZ (by simp [World.drew] at hgb; omega) (P.gen + 1), Nat.le_refl _, by simp [World.drew] at hgb; omega, (hS5.setCell (p := ⟨_, 0, none⟩) (Nat.le_refl _) _).setCell (p := ⟨_, 1, none⟩) (Nat.le_refl _) _⟩
 case rest =>
  obtain ⟨nb, g, cap, rfl, hN, hnb, hg, hBc⟩ := hcut
  have HST : Hid (LyRel A w pb tv dv P S ps nb g cap (.int .i64 1) (.int .i64 0) wc) := by
   have hzs := HZS.out;refine ⟨0, 1, P.tab, [], A, D, S, Nat.zero_le _, rfl, rfl, rfl, fun y h1 h2 => by omega, Nat.le_refl _, by omega, rfl, HMZ.out.below hBc, fun x hx => .inl hx, Ch.of_below (below_trans HBZ.out hBc), hN, fun e => ?_, fun e => ?_, ?_, by omega, by omega, Nat.le_refl _⟩
   ·have := HM.out.al nb e; omega
   ·have := HM.out.al g e; omega
   ·rw [hBc.block w.heap.size (by omega)]; exact HRZ.out
  clear hN hnb hg hBc j0 j1 hSd;go_wp2_with fail;go_loopw [6, 24] (fun bv iv wr => LyRel A w pb tv dv P S ps nb g cap bv iv wr) (fun _ iv _ => ps.length - (intOf iv).toNat)
  case atStart => exact HST.out
  case round =>
   obtain ⟨k, b, t', tk, A', D', S', hk, rfl, rfl, hlay, hFr, htk, hbl, htl, hM, hA', hC, hN, hnA, hgA, hrz, hnb, hgb, hwk⟩ := hrel;have HLAY : Hid (layS P.tab ps 1 P.tab S = layS P.tab (ps.drop k) b t' S') := hlay;have HFR : Hid (FrP P.tab tk b ∧ tk.length ≤ k) := ⟨hFr, htk⟩;have HTL : Hid (t'.length = P.tab.length) := htl;have HMR := hidH hM;have HA' := hidH hA';have HC : Hid (Ch A w wr) := hC;have HN := hidH hN;have HNA : Hid (¬ A' nb ∧ ¬ A' g) := ⟨hnA, hgA⟩;have HRZ : Hid (wr.heap[w.heap.size]? = some (.cells #[.int .u64 0, .slice none 0 0] 131 (0, 0))) := hrz;have HNB : Hid (w.heap.size < nb ∧ w.heap.size < g) := ⟨hnb, hgb⟩;have HWK : Hid (S'.wr ≤ S.wr + k) := hwk;have HSZ : Hid (w.heap.size < wr.heap.size) := (Array.getElem?_eq_some_iff.1 hrz).1;have HBL := hidH hbl;clear hlay hFr htk htl hM hA' hC hN hnA hgA hrz hnb hgb hwk HST hbl;by_cases hlt : k < ps.length
   ·obtain ⟨lb, off, u, rfl, _, l0, l1, hbx⟩ := (HL.out.ch (A' := A') HC.out (fun x hx => by rcases HA'.out x hx with q | q; exact .inl q; exact .inr (by omega))).at hlt;obtain ⟨pz, hpz⟩ : ∃ pz, pz = ps[k].1 := ⟨_, rfl⟩;obtain ⟨d, hd⟩ : ∃ d, d = ps[k].2 := ⟨_, rfl⟩;rw [← hpz] at l0;rw [← hd] at hbx;have hpg := HOK.out.pg _ (List.getElem_mem hlt);have hdl := HOK.out.ln _ (List.getElem_mem hlt);rw [← hpz] at hpg;rw [← hd] at hdl;obtain ⟨q, rfl⟩ : ∃ q : Nat, pz = q := ⟨pz.toNat, by omega⟩;have HQ : Hid ((q : Int) = ps[k].1) := hpz;have HD : Hid (d = ps[k].2) := hd;have HQL : Hid (q < P.tab.length) := by show _ < _; omega
    have HDL : Hid (d.length ≤ 1024) := hdl;have hlti : (k : Int) < (ps.length : Int) := by omega
    have hqt : (q : Int) < (t'.length : Int) := by rw [HTL.out]; omega
    obtain ⟨uo, uc, rfl, _, _⟩ := bv_formD hbx.1;obtain ⟨wa, hwa⟩ : ∃ wa, wa = wr.alloc (Obj.cells #[.int .i64 q, .slice uo d.length uc] 80) := ⟨_, rfl⟩;have HWA : Hid (wa = wr.alloc (Obj.cells #[.int .i64 q, .slice uo d.length uc] 80)) := hwa;have hBa : Below wr.heap.size wr wa := by rw [hwa]; exact below_alloc _ _
    have HBA := hidH hBa;have n0 : wa.cell? ⟨wr.heap.size, 0, none⟩ = some (.int .i64 q) := by rw [hwa]; simp [go_sem]
    have n1 : wa.cell? ⟨wr.heap.size, 1, none⟩ = some (.slice uo d.length uc) := by rw [hwa]; simp [go_sem]
    have HMA := hidH (HMR.out.below hBa);have HNA2 := hidH (HN.out.below hBa);have HUA : Hid (Bv wa (.slice uo d.length uc) d) := hbx.1.below hBa;have HCA : Hid (Ch A w wa) := HC.out.trans (Ch.of_below (D := A) hBa) (fun _ hx => .inl hx);clear hpz hd hpg hdl hbx hwa hBa;by_cases hd0 : d = []
    ·have hdn : (d.length : Int) = 0 := by rw [hd0]; rfl
     have hdb : ((d.length : Int) == 0) = true := by rw [hd0]; rfl
     have HST : Hid (layS P.tab ps 1 P.tab S = layS P.tab (ps.drop (k + 1)) b (t'.set q 0) S') := by
      show _ = _;rw [HLAY.out, lay_none hlt (by rw [← HD.out]; exact hd0), ← HQ.out]; simp
     obtain ⟨y, hy⟩ : ∃ y, y = tn t' q := ⟨_, rfl⟩;have d1 : ∀ x : Obj, (wr.alloc x).cell? ⟨nb, 1, none⟩ = some (.slice (some ⟨g, 0, none⟩) t'.length cap) := fun x => (HN.out.below (below_alloc wr x)).c1;have d2 : ∀ x : Obj, (wr.alloc x).cell? ⟨g, q, none⟩ = some (.int .i64 y) := fun x => by rw [hy]; exact (HN.out.below (below_alloc wr x)).row.cell (by have := HQL.out; have := HTL.out; omega)
     have d3 : ∀ x : Obj, (wr.alloc x).frozen? ⟨g, q, none⟩ = false := fun x => (HN.out.below (below_alloc wr x)).row.soft q;have HRA : Hid (wa.heap[w.heap.size]? = some (.cells #[.int .u64 0, .slice none 0 0] 131 (0, 0))) := by show _ = _; rw [HBA.out.block _ HSZ.out]; exact HRZ.out
     clear hd0 hy hdn;go_wp2_with fail;rw [← HWA.out];go_roundw
     case rel =>
      refine ⟨k + 1, b, t'.set q 0, tk, A', D', S', hlt, by simp, rfl, HST.out, HFR.out.1, by have := HFR.out.2; omega, by have := HBL.out; omega, by rw [List.length_set]; exact HTL.out, HMA.out.other HNA.out.2 _ _, HA'.out, ch_new HCA.out (by have := HNB.out.2; omega) _ _, HNA2.out.set q 0, HNA.out.1, HNA.out.2, ?_, HNB.out.1, HNB.out.2, by have := HWK.out; omega⟩;rw [set_other q _ (by have := HNB.out.2; omega)]; exact HRA.out
     case measure => simp [intOf]; omega
    ·have hdp : 0 < d.length := List.length_pos_iff.2 hd0;have hdb : ((d.length : Int) == 0) = false := by simp; omega
     have HD0 : Hid (d ≠ []) := hd0;obtain ⟨X, hX⟩ : ∃ X, X = nextF P.tab b := ⟨_, rfl⟩;have HX : Hid (X = nextF P.tab b) := hX
     have hXb : X ≤ 2 + P.tab.length + k := by
      have h1 := free_bound (t := P.tab) (tk := tk) (b := b) HFR.out.1;have h2 := HFR.out.2;rw [hX]; omega
     have HXB := hidH hXb
     have HT64 : Hid (∀ x ∈ P.tab, x < 64) := fun x hx => by
      have h1 := tok_lt HM.out.ok.tok x hx;have h2 := HM.out.dsk.good.n64;omega
     have HB64 : Hid (b < 64) := by show _ < _; have := HBL.out; have := H8.out; omega
     have HTA : Hid (Tw wa tv P.tab) := HMA.out.tab;have HFN : Hid (FrP P.tab (X :: tk) X) := by rw [hX]; exact fr_next HFR.out.1
     have d0 : ∀ x : Obj, (wr.alloc x).cell? ⟨pb, 0, none⟩ = some (.int .u64 P.gen) := fun x => mp0 (HMR.out.below (below_alloc wr x));have d1 : ∀ x : Obj, (wr.alloc x).cell? ⟨pb, 1, none⟩ = some tv := fun x => mp1 (HMR.out.below (below_alloc wr x));have HNW : Hid (wa.heap.size = wr.heap.size + 1) := by show _ = _; rw [HWA.out]; simp
     clear hd0 hdp hX hXb;go_wp2_with fail;rw [← HWA.out];refine (behind_walk P.gen HTA.out HT64.out HB64.out).mono ?_;rw [← HX.out];rintro e w2 ⟨rfl, hB2⟩;have HB2 := hidH hB2;have HM2 := hidH (HMA.out.below hB2);have HN2 := hidH (HNA2.out.below hB2);have HU2 := hidH (HUA.out.below hB2);have HC2 : Hid (Ch A w w2) := HCA.out.trans (Ch.of_below (D := A) hB2) (fun _ hx => .inl hx);have hrD : ¬ D' wr.heap.size := fun e => by have := HMR.out.al _ (HMR.out.sub _ e); omega
     have m0 : w2.cell? ⟨wr.heap.size, 0, none⟩ = some (.int .i64 q) := by rw [hB2.cell (p := ⟨wr.heap.size, 0, none⟩) (cell_lt n0)]; exact n0
     have m1 : w2.cell? ⟨wr.heap.size, 1, none⟩ = some (.slice uo d.length uc) := by rw [hB2.cell (p := ⟨wr.heap.size, 1, none⟩) (cell_lt n1)]; exact n1
     have m2 : w2.cell? ⟨pb, 2, none⟩ = some dv := mp2 HM2.out;have HRD : Hid (¬ D' wr.heap.size) := hrD;have j1 : ∀ wx, Ch D' w2 wx → wx.cell? ⟨wr.heap.size, 1, none⟩ = some (.slice uo d.length uc) := fun wx hx => by rw [World.cell?_of_block (w := w2) (a := ⟨wr.heap.size, 1, none⟩) (hx.block _ (cell_lt m1) HRD.out)]; exact m1
     have j2 : ∀ wx, Ch D' w2 wx → wx.cell? ⟨pb, 2, none⟩ = some dv := fun wx hx => by rw [World.cell?_of_block (w := w2) (a := ⟨pb, 2, none⟩) (hx.block _ (cell_lt m2) HM2.out.nb)]; exact m2
     have HM0 : Hid (w2.cell? ⟨wr.heap.size, 0, none⟩ = some (.int .i64 q)) := m0;have HDS : Hid (Dsk 92 D' w2 dv S') := HM2.out.dsk;have HWB : Hid (S'.wr < 9223372036854775807) := by show _ < _; have := HWK.out; have := HWR.out; omega
     have hSd : Ch D' w2 w2.drew := Ch.of_below (below_drewN _ _)
     have HR2 : Hid (w2.heap[w.heap.size]? = some (.cells #[.int .u64 0, .slice none 0 0] 131 (0, 0))) := by
      show _ = _;have h1 := HSZ.out;have h2 := HNW.out;rw [HB2.out.block _ (by omega), HBA.out.block _ h1]; exact HRZ.out
     have HDA : Hid (∀ x, D' x → A x ∨ w.heap.size < x) := fun x hx => HA'.out x (HM2.out.sub x hx);have HS2 : Hid (w.heap.size < w2.heap.size) := (Array.getElem?_eq_some_iff.1 HR2.out).1;clear hB2 d0 d1 n0 n1 m0 m1 m2 hrD;by_cases hwI : writeI S' (X : Int) d = 0
     ·have HWI : Hid (writeI S' (X : Int) d = 0) := hwI
      have HST : Hid (layS P.tab ps 1 P.tab S = layS P.tab (ps.drop (k + 1)) X (t'.set q X) (writeS S' X d)) := by
       show _ = _;rw [HLAY.out, lay_some hlt (by rw [← HD.out]; exact HD0.out) (by rw [← HD.out, ← HX.out]; exact hwI), ← HQ.out, ← HD.out, ← HX.out]; simp
      clear hwI;go_wp2_with fail
      go_region_held3 (fun wx => Ch D' w2 wx) (first | assumption)
       (first
        | (go_at_call 86; refine (wr_ok (HDS.out.below (below_drewN _ _)) X (HU2.out.below (below_drewN _ _)) HWB.out HWI.out).mono ?_; rintro e w3 ⟨rfl, ⟨D3, hD3, hx3⟩, hC3⟩; have hS3 : Ch D' w2 w3 := Ch.self (by assumption) hC3))
      all_goals
       have HS3 : Hid (Ch D' w2 w3) := hS3;have HX3 : Hid (∀ x, D3 x → D' x ∨ w2.heap.size ≤ x) := fun x hx => by rcases hx3 x hx with e | e; exact .inl e; exact .inr (by simpa [World.drew] using e)
       have HM3 : Hid (MP (fun x => A' x ∨ D3 x) D3 w3 pb tv dv P (writeS S' X d)) := HM2.out.redisk hD3 HX3.out hS3 write_len;have HN3 : Hid (Nx w3 nb g cap (P.gen + 1) t') := HN2.out.ch hS3 (fun e => HNA.out.1 (HM2.out.sub _ e)) (fun e => HNA.out.2 (HM2.out.sub _ e));have HC3 : Hid (Ch A w w3) := HC2.out.trans hS3 (fun x hx => by rcases HDA.out x hx with q | q; exact .inl q; exact .inr (by omega));have q1 := HN3.out.c1;obtain ⟨y, hy⟩ : ∃ y, y = tn t' q := ⟨_, rfl⟩;have q2 : w3.cell? ⟨g, q, none⟩ = some (.int .i64 y) := by rw [hy]; exact HN3.out.row.cell (by have := HQL.out; have := HTL.out; omega)
       have q3 := HN3.out.row.soft q;have q4 : w3.cell? ⟨wr.heap.size, 0, none⟩ = some (.int .i64 q) := by rw [World.cell?_of_block (w := w2) (a := ⟨wr.heap.size, 0, none⟩) (hS3.block _ (cell_lt HM0.out) HRD.out)]; exact HM0.out
       have HR3 : Hid (w3.heap[w.heap.size]? = some (.cells #[.int .u64 0, .slice none 0 0] 131 (0, 0))) := by
        show _ = _;rw [hS3.block _ HS2.out (fun e => by rcases HDA.out _ e with q | q; have := HM.out.al _ q; omega; omega)]; exact HR2.out
       clear hS3 hC3 hD3 hx3 j1 j2 hSd hy;go_wp2_with fail;go_roundw
      case rel =>
       refine ⟨k + 1, X, t'.set q X, X :: tk, fun x => A' x ∨ D3 x, D3, writeS S' X d, hlt, by simp, rfl, HST.out, HFN.out, by have := HFR.out.2; simp; omega, by have := HXB.out; omega, by rw [List.length_set]; exact HTL.out, HM3.out.other ?_ _ _, ?_, ch_new HC3.out (by have := HNB.out.2; omega) _ _, HN3.out.set q X, ?_, ?_, ?_, HNB.out.1, HNB.out.2, by have h1 := HWK.out; have h2 := write_wr (S := S') (i := X) (b := d); omega⟩
       ·rintro (e | e)
        ·exact HNA.out.2 e
        ·rcases HX3.out _ e with q | q
         ·exact HNA.out.2 (HM2.out.sub _ q)
         ·have := HN2.out.row.lt; omega
       ·rintro x (e | e)
        ·exact HA'.out x e
        ·rcases HX3.out _ e with q | q
         ·exact HDA.out x q
         ·have := HS2.out; exact .inr (by omega)
       ·rintro (e | e)
        ·exact HNA.out.1 e
        ·rcases HX3.out _ e with q | q
         ·exact HNA.out.1 (HM2.out.sub _ q)
         ·have := HN2.out.lt; omega
       ·rintro (e | e)
        ·exact HNA.out.2 e
        ·rcases HX3.out _ e with q | q
         ·exact HNA.out.2 (HM2.out.sub _ q)
         ·have := HN2.out.row.lt; omega
       ·rw [set_other q _ (by have := HNB.out.2; omega)]; exact HR3.out
      case measure => simp [intOf]; omega
     ·have HWI := hidH hwI
      have HST : Hid (layS P.tab ps 1 P.tab S = (none, writeS S' X d)) := by
       show _ = _;rw [HLAY.out, lay_fail hlt (by rw [← HD.out]; exact HD0.out) (by rw [← HD.out, ← HX.out]; exact hwI), ← HD.out, ← HX.out]
      clear hwI;go_wp2_with fail;refine wp_region_held_drew (S := fun wx => Ch D' w2 wx) (by kernel_rfl) ?_ fun hHeld => ?_
      ·exact hSd
      refine tkS 0 43 rfl (by assumption) ?_;refine tkS 1 44 rfl (by assumption) ?_;refine tkS 2 45 rfl (by assumption) ?_;refine tkS 3 46 rfl (by assumption) ?_;refine tkS 4 47 rfl (by assumption) ?_;refine tkS 5 48 rfl (by assumption) ?_;refine tkS 6 49 rfl (by assumption) ?_;refine rdH 7 50 rfl fun K hK => ?_;go_simp;refine (wr_bad (HDS.out.below (below_drewN _ _)) X (HU2.out.below (below_drewN _ _)) HWB.out HWI.out).mono ?_;rintro e w3 ⟨⟨pu, pv, rfl⟩, ⟨D3, hD3, hx3⟩, hC3⟩;have hS3 : Ch D' w2 w3 := Ch.self hSd hC3;have HX3 : Hid (∀ x, D3 x → D' x ∨ w2.heap.size ≤ x) := fun x hx => by rcases hx3 x hx with e | e; exact .inl e; exact .inr (by simpa [World.drew] using e)
      refine ⟨rfl, fun x => A' x ∨ D3 x, D3, by rw [HST.out]; exact HM2.out.redisk hD3 HX3.out hS3 write_len, ?_, HC2.out.trans hS3 (fun x hx => by rcases HDA.out x hx with q | q; exact .inl q; exact .inr (by omega)), ?_, fun t'' ht => by rw [HST.out] at ht; (cases ht), fun _ => ⟨_, _, rfl⟩⟩
      ·rintro x (e | e)
       ·rcases HA'.out x e with q | q
        ·exact .inl q
        ·exact .inr (by omega)
       ·rcases HX3.out _ e with q | q
        ·rcases HDA.out x q with q | q
         ·exact .inl q
         ·exact .inr (by omega)
        ·have := HS2.out; exact .inr (by omega)
      ·rw [HST.out];have h1 := HWK.out;have h2 := write_wr (S := S') (i := X) (b := d);show (writeS S' X d).wr ≤ _;omega
   ·have HST : Hid (layS P.tab ps 1 P.tab S = (some t', S')) := by show _ = _; rw [HLAY.out, lay_end (by omega)]
    have hlti : ¬ (k : Int) < (ps.length : Int) := by omega
    have d0 := HN.out.c0;have d1 := HN.out.c1;obtain ⟨z0, z1, f0, f1⟩ := root_cells HRZ.out;go_wp2_with fail;refine bodyPost_ret (v := .agg #[.int .u64 (P.gen + 1 : Nat), .slice (some ⟨g, 0, none⟩) t'.length cap]) (by simp [results, Tryz.results91, go_sem, z0, z1]) rfl ?_
    have hrA : ¬ A' w.heap.size := fun e => by
     rcases HA'.out _ e with q | q
     ·have := HM.out.al _ q; omega
     ·omega
    refine ⟨A', D', by rw [HST.out]; exact (HMR.out.other hrA _ _).other hrA _ _, fun x hx => ?_, ch_new (ch_new HC.out (Nat.le_refl _) _ _) (Nat.le_refl _) _ _, ?_, fun t'' ht => ?_, fun hn => by rw [HST.out] at hn; (cases hn)⟩
    ·rcases HA'.out x hx with q | q
     ·exact .inl q
     ·exact .inr (by omega)
    ·rw [HST.out]; have := HWK.out; show S'.wr ≤ _; omega
    ·rw [HST.out] at ht
     cases ht
     have hne : g ≠ w.heap.size := by have := HNB.out.2; omega
     exact ⟨g, cap, rfl, HN.out.row.keep (by rw [set_other 1 _ hne, set_other 0 _ hne]), HNA.out.2, by have := HNB.out.2; omega, HTL.out⟩
end
end
end Go.Proofs.YtcmklbibehnloaaGreat
