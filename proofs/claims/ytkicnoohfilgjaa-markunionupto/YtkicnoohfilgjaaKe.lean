/- Contracts of the reader's count and keys, of mark's Decode. -/
import Derived.Test.YtkicnoohfilgjaaKd

import Derived.Laws.ResultCell

namespace Go.Proofs.Ytkicnoohfilgjaa

open Go.RowKit

variable {M : Nat}



theorem info_u64 : (Try.prog.info? 32).map (fun i => (i.zero, i.size, i.bytes)) = some (some (.int .u64 0), 1, 8) := by kernel_rfl
def cntF (l : List Nat) (f : Nat) : Nat := refu (decide (1099511627776 < (Wm.take l).1)) 4 (numF l f)
theorem count_walk {w : World} {R : Nat} {v : Value} {l : List Nat} {f : Nat} (h : RD M w R v l f) :
    Calls Try.prog 22 #[.pointer (some ⟨R, 0, none⟩)] w fun e w' => e = .returned (.int .i64 (wrap64 ((Wm.take l).1 : Nat))) ∧ (∃ v', RD M w' R v' (numL l) (cntF l f)) ∧ Ch (fun x => x = R) w w' := by
  have HR : Hid (RD M w R v l f) := h
  obtain ⟨x, hx⟩ : ∃ x, x = (Wm.take l).1 := ⟨_, rfl⟩
  have HX : Hid (x = (Wm.take l).1) := hx
  have HF : Hid (cntF l f = refu (decide (1099511627776 < x)) 4 (numF l f)) := by rw [hx]; rfl
  rw [HF.out, ← hx]
  clear h hx
  by_cases hb : 1099511627776 < x
  · have hbd : decide (1099511627776 < x) = true := decide_eq_true hb
    have hbi : (1099511627776 : Int) < (x : Int) := by omega
    rw [hbd]
    clear hb
    go_enter Try.func22, Try.ntmps22
    go_wp2_with fail
    refine (number_walk HR.out).mono ?_
    rw [← HX.out]
    rintro e w2 ⟨rfl, ⟨v2, hR2⟩, hC2⟩
    have HR2 : Hid (RD M w2 R v2 (numL l) (numF l f)) := hR2
    have HC2 : Hid (Ch (fun x => x = R) w w2) := hC2
    clear hR2 hC2
    go_wp2_with fail
    refine (refuse_walk HR2.out true 4).mono ?_
    rintro e w3 ⟨rfl, hR3, hC3⟩
    have HR3 : Hid (RD M w3 R v2 (numL l) (refu true 4 (numF l f))) := hR3
    have HC3 : Hid (Ch (fun x => x = R) w w3) := HC2.out.self hC3
    clear hR3 hC3
    go_wp2_with fail
    go_ret
    exact ⟨rfl, ⟨_, HR3.out⟩, HC3.out⟩
  · have hbd : decide (1099511627776 < x) = false := decide_eq_false hb
    have hbi : ¬ (1099511627776 : Int) < (x : Int) := by omega
    have hbdi : decide ((1099511627776 : Int) < (x : Int)) = false := decide_eq_false hbi
    rw [hbd, show wrap64 (x : Int) = (x : Int) by unfold wrap64; omega]
    clear hb
    go_enter Try.func22, Try.ntmps22
    go_wp2_with fail
    refine (number_walk HR.out).mono ?_
    rw [← HX.out]
    rintro e w2 ⟨rfl, ⟨v2, hR2⟩, hC2⟩
    have HR2 : Hid (RD M w2 R v2 (numL l) (numF l f)) := hR2
    have HC2 : Hid (Ch (fun x => x = R) w w2) := hC2
    clear hR2 hC2
    go_wp2_with fail
    refine (refuse_walk HR2.out false 4).mono ?_
    rintro e w3 ⟨rfl, hR3, hC3⟩
    have HR3 : Hid (RD M w3 R v2 (numL l) (refu false 4 (numF l f))) := hR3
    have HC3 : Hid (Ch (fun x => x = R) w w3) := HC2.out.self hC3
    clear hR3 hC3
    go_wp2_with fail
    go_ret
    exact ⟨rfl, ⟨_, HR3.out⟩, HC3.out⟩


/-- Where the loop of keys stands. -/
def KAt (D : Nat × List Nat × List Nat) (n i : Nat) (acc l : List Nat) (f : Nat) : Prop :=
  (f = 0 ∧ acc.length = i ∧ D.1 = (keyS (n - i) l).1 ∧ (D.1 = 0 → D.2.1 = acc ++ (keyS (n - i) l).2.1 ∧ D.2.2 = (keyS (n - i) l).2.2)) ∨ (f ≠ 0 ∧ D.1 = f)
theorem kat_start (n : Nat) (l : List Nat) : KAt (keyS n l) n 0 [] l 0 := .inl ⟨rfl, rfl, rfl, fun _ => ⟨rfl, rfl⟩⟩
theorem numF_eq (l : List Nat) : numF l 0 = (Wm.take l).2.2 := by
  unfold numF refu
  by_cases h : (Wm.take l).2.2 = 0 <;> simp [h]
theorem kat_step {D : Nat × List Nat × List Nat} {n i : Nat} {acc l : List Nat} (h : KAt D n i acc l 0) (hi : i < n) : KAt D n (i + 1) (acc ++ [(Wm.take l).1]) (numL l) (numF l 0) := by
  rcases h with ⟨_, h1, h2, h3⟩ | ⟨h, _⟩
  · rw [show n - i = (n - (i + 1)) + 1 by omega] at h2 h3
    simp only [keyS] at h2 h3
    rw [numF_eq]
    by_cases q : (Wm.take l).2.2 = 0
    · rw [if_neg (by simpa using q)] at h2 h3
      refine .inl ⟨q, by simp [h1], ?_⟩
      by_cases q2 : (keyS (n - (i + 1)) (l.drop (Wm.take l).2.1)).1 = 0
      · rw [if_neg (by simpa using q2)] at h2 h3
        refine ⟨by rw [h2]; exact q2.symm, fun hD => ?_⟩
        obtain ⟨a, b⟩ := h3 hD
        exact ⟨by rw [a]; simp [numL], b⟩
      · rw [if_pos q2] at h2 h3
        exact ⟨h2, fun hD => absurd (h2.symm.trans hD) q2⟩
    · rw [if_pos q] at h2
      exact .inr ⟨q, h2⟩
  · exact absurd rfl h
/-- What keys leaves: f1, l1 behind how many there are. -/
def KLeft (x f1 : Nat) (l1 ks l' : List Nat) (f' : Nat) : Prop :=
  (f1 ≠ 0 ∧ f' = f1) ∨ (f1 = 0 ∧ ((f' = 0 ∧ (keyS x l1).1 = 0 ∧ ks = (keyS x l1).2.1 ∧ l' = (keyS x l1).2.2) ∨ (f' ≠ 0 ∧ (keyS x l1).1 = f')))
def lngF (l : List Nat) (f : Nat) : Nat := refu (decide (64 < (Wm.take l).1)) 6 (numF l f)
/-- What the call keys leaves. -/
def KGot (M R : Nat) (l : List Nat) (f : Nat) (w : World) (e : Ending) (w' : World) : Prop :=
  ∃ (v v' : Value) (ks l' : List Nat) (f' : Nat), e = .returned v ∧ w'.ownsRow w.heap.size 32 1 v ks.length ((ib ks).map (Value.int .u64)) ∧ RD M w' R v' l' f' ∧ Ch (fun x => x = R) w w' ∧ KLeft (Wm.take l).1 (lngF l f) (numL l) ks l' f'
theorem own_ch {D : Nat → Prop} {w w' : World} {base e size n : Nat} {v : Value} {xs : List Value} (h : w.ownsRow base e size v n xs) (hc : Ch D w w') (hd : ∀ x, D x → x < base) : w'.ownsRow base e size v n xs := by
  refine ⟨h.1, ?_⟩
  rcases h.2 with h' | ⟨g, cap, cur, hv, hg, hh, r⟩
  · exact .inl h'
  · exact .inr ⟨g, cap, cur, hv, hg, by rw [hc.block g ((Array.getElem?_eq_some_iff.1 hh).1) (fun e => by have := hd g e; omega)]; exact hh, r⟩
def KRel (M R x : Nat) (l1 : List Nat) (w : World) (kv iv : Value) (wr : World) : Prop :=
  ∃ (i : Nat) (acc : List Nat) (v : Value) (l : List Nat) (f : Nat), iv = .int .u64 i ∧ i ≤ x ∧ acc.length ≤ i ∧ KAt (keyS x l1) x i acc l f ∧ RD M wr R v l f ∧ wr.ownsRow w.heap.size 32 1 kv acc.length ((ib acc).map (Value.int .u64)) ∧ Ch (fun x => x = R) w wr


set_option maxRecDepth 100000 in
set_option maxHeartbeats 4000000 in
theorem keys_bad {w : World} {R : Nat} {v : Value} {l : List Nat} {f : Nat} (h : RD M w R v l f) (hM : M ≤ R) (hf : lngF l f ≠ 0) :
    Calls Try.prog 23 #[.pointer (some ⟨R, 0, none⟩)] w (KGot M R l f w) := by
  have HR : Hid (RD M w R v l f) := h
  have HMR : Hid (M ≤ R) := hM
  have HRW : Hid (R < w.heap.size) := by have := cell_lt h.c0; show _ < _; simp only at this; omega
  obtain ⟨x, hx⟩ : ∃ x, x = (Wm.take l).1 := ⟨_, rfl⟩
  have HX : Hid (x = (Wm.take l).1) := hx
  obtain ⟨F, hF⟩ : ∃ F, F = lngF l f := ⟨_, rfl⟩
  rw [← hF] at hf
  have HFE : Hid (F = lngF l f) := hF
  have HFR : Hid (refu (decide (64 < x)) 6 (numF l f) = F) := by rw [hF, hx]; rfl
  have hF0 : ((F : Int) == 0) = false := by rw [beq_eq_false_iff_ne]; omega
  have HF0 : Hid (F ≠ 0) := hf
  clear h hM hx hF hf
  obtain ⟨g, hg⟩ : ∃ g, g = decide (64 < x) := ⟨_, rfl⟩
  have hgi : decide ((64 : Int) < (x : Int)) = g := by rw [hg]; congr 1; simp only [eq_iff_iff]; omega
  have hgn : decide (64 < x) = g := hg.symm
  rw [hgn] at HFR
  clear hg
  go_enter Try.func23, Try.ntmps23
  go_wp2_with fail
  refine (number_walk HR.out).mono ?_
  rw [← HX.out]
  rintro e w2 ⟨rfl, ⟨v2, hR2⟩, hC2⟩
  have HR2 : Hid (RD M w2 R v2 (numL l) (numF l f)) := hR2
  have HC2 : Hid (Ch (fun x => x = R) w w2) := hC2
  clear hR2 hC2
  go_wp2_with fail
  refine (refuse_walk HR2.out g 6).mono ?_
  rw [HFR.out]
  rintro e w3 ⟨rfl, hR3, hC3⟩
  have HR3 : Hid (RD M w3 R v2 (numL l) F) := hR3
  have HC3 : Hid (Ch (fun x => x = R) w w3) := HC2.out.self hC3
  clear hR3 hC3 HR2 HC2 hgi hgn
  have HR4 : Hid (RD M (w3.alloc (Obj.cells #[] 32)) R v2 (numL l) F) := HR3.out.below (below_alloc _ _)
  have HC4 : Hid (Ch (fun x => x = R) w (w3.alloc (Obj.cells #[] 32))) := HC3.out.self (Ch.of_below (below_alloc _ _))
  have HO4 : Hid ((w3.alloc (Obj.cells #[] 32)).ownsRow w.heap.size 32 1 (.slice (some ⟨w3.heap.size, 0, none⟩) 0 0) 0 []) := own_baseC (World.ownsRow_made w3 #[] 0 (Nat.le_refl _) (by simp [maxLen]) rfl) HC3.out.size
  have hc1 : (w3.alloc (Obj.cells #[] 32)).cell? ⟨R, 1, none⟩ = some (.int .i64 F) := HR4.out.c1
  go_wp2_with fail
  refine wp_loop_rounds 1 ?_
  rw [rounds_succ]
  by_cases hx0 : 0 < x
  · have hx0i : (0 : Int) < (x : Int) := by omega
    go_wp2_with fail
    go_ret
    exact ⟨_, _, [], _, F, rfl, HO4.out, HR4.out, HC4.out, by rw [← HFE.out]; exact .inl ⟨HF0.out, rfl⟩⟩
  · have hx0i : ¬ (0 : Int) < (x : Int) := by omega
    go_wp2_with fail
    go_ret
    exact ⟨_, _, [], _, F, rfl, HO4.out, HR4.out, HC4.out, by rw [← HFE.out]; exact .inl ⟨HF0.out, rfl⟩⟩


set_option maxRecDepth 100000 in
set_option maxHeartbeats 4000000 in
theorem keys_good {w : World} {R : Nat} {v : Value} {l : List Nat} {f : Nat} (h : RD M w R v l f) (hM : M ≤ R) (hf : lngF l f = 0) :
    Calls Try.prog 23 #[.pointer (some ⟨R, 0, none⟩)] w (KGot M R l f w) := by
  have HR : Hid (RD M w R v l f) := h
  have HMR : Hid (M ≤ R) := hM
  have HRW : Hid (R < w.heap.size) := by have := cell_lt h.c0; show _ < _; simp only at this; omega
  obtain ⟨x, hx⟩ : ∃ x, x = (Wm.take l).1 := ⟨_, rfl⟩
  have HX : Hid (x = (Wm.take l).1) := hx
  obtain ⟨F, hF⟩ : ∃ F, F = lngF l f := ⟨_, rfl⟩
  rw [← hF] at hf
  have HFE : Hid (F = lngF l f) := hF
  have HFR : Hid (refu (decide (64 < x)) 6 (numF l f) = F) := by rw [hF, hx]; rfl
  have HX64 : Hid (x ≤ 64) := by
    show _ ≤ _
    rcases Nat.lt_or_ge 64 x with q | q
    · have e := HFR.out
      rw [decide_eq_true q, hf] at e
      unfold refu at e
      by_cases z : numF l f = 0
      · simp [z] at e
      · simp [z] at e
    · exact q
  have HF0 : Hid (F = 0) := hf
  clear h hM hx hF hf
  obtain ⟨g, hg⟩ : ∃ g, g = decide (64 < x) := ⟨_, rfl⟩
  have hgi : decide ((64 : Int) < (x : Int)) = g := by rw [hg]; congr 1; simp only [eq_iff_iff]; omega
  have hgn : decide (64 < x) = g := hg.symm
  rw [hgn] at HFR
  clear hg
  go_enter Try.func23, Try.ntmps23
  go_wp2_with fail
  refine (number_walk HR.out).mono ?_
  rw [← HX.out]
  rintro e w2 ⟨rfl, ⟨v2, hR2⟩, hC2⟩
  have HR2 : Hid (RD M w2 R v2 (numL l) (numF l f)) := hR2
  have HC2 : Hid (Ch (fun x => x = R) w w2) := hC2
  clear hR2 hC2
  go_wp2_with fail
  refine (refuse_walk HR2.out g 6).mono ?_
  rw [HFR.out]
  rintro e w3 ⟨rfl, hR3, hC3⟩
  have HR3 : Hid (RD M w3 R v2 (numL l) F) := hR3
  have HC3 : Hid (Ch (fun x => x = R) w w3) := HC2.out.self hC3
  clear hR3 hC3 HR2 HC2 hgi hgn
  have HR4 : Hid (RD M (w3.alloc (Obj.cells #[] 32)) R v2 (numL l) F) := HR3.out.below (below_alloc _ _)
  have HC4 : Hid (Ch (fun x => x = R) w (w3.alloc (Obj.cells #[] 32))) := HC3.out.self (Ch.of_below (below_alloc _ _))
  have HO4 : Hid ((w3.alloc (Obj.cells #[] 32)).ownsRow w.heap.size 32 1 (.slice (some ⟨w3.heap.size, 0, none⟩) 0 0) 0 []) := own_baseC (World.ownsRow_made w3 #[] 0 (Nat.le_refl _) (by simp [maxLen]) rfl) HC3.out.size
  have hc1 : (w3.alloc (Obj.cells #[] 32)).cell? ⟨R, 1, none⟩ = some (.int .i64 F) := HR4.out.c1
  obtain ⟨l1, hl1⟩ : ∃ l1, l1 = numL l := ⟨_, rfl⟩
  have HL1 : Hid (l1 = numL l) := hl1
  have HST : Hid (KRel M R x l1 w (.slice (some ⟨w3.heap.size, 0, none⟩) 0 0) (.int .u64 0) (w3.alloc (Obj.cells #[] 32))) :=
    ⟨0, [], v2, l1, 0, rfl, by omega, by simp, kat_start x l1, by have q := HR4.out; rw [HF0.out] at q; rw [hl1]; exact q, HO4.out, HC4.out⟩
  clear hl1 hc1 HR4 HC4 HO4 HR3 HC3
  have hx64 : (x : Int) ≤ 64 := by have := HX64.out; omega
  go_wp2_with fail
  go_loopw [4, 5] (fun kv iv wr => KRel M R x l1 w kv iv wr) (fun _ iv _ => x - (intOf iv).toNat)
  case atStart => exact HST.out
  case round =>
    clear HST
    obtain ⟨i, acc, v4, l4, f4, rfl, hix, hai, hat, hrd, hown, hch⟩ := hrel
    have HAT : Hid (KAt (keyS x l1) x i acc l4 f4) := hat
    have HRD : Hid (RD M wr R v4 l4 f4) := hrd
    have HO : Hid (wr.ownsRow w.heap.size 32 1 u4 acc.length ((ib acc).map (Value.int .u64))) := hown
    have HC : Hid (Ch (fun x => x = R) w wr) := hch
    have HAI : Hid (acc.length ≤ i) := hai
    clear hat hrd hown hch hai
    have hc1 := HRD.out.c1
    by_cases hlt : i < x
    · have hlti : (i : Int) < (x : Int) := by omega
      by_cases hf : f4 = 0
      · subst hf
        have HNX : Hid (KAt (keyS x l1) x (i + 1) (acc ++ [(Wm.take l4).1]) (numL l4) (numF l4 0)) := kat_step HAT.out hlt
        obtain ⟨y, hy⟩ : ∃ y, y = (Wm.take l4).1 := ⟨_, rfl⟩
        rw [← hy] at HNX
        have HY : Hid (y = (Wm.take l4).1) := hy
        clear hy
        go_wp2_with fail
        refine (number_walk HRD.out).mono ?_
        rw [← HY.out]
        rintro e w5 ⟨rfl, ⟨v5, hR5⟩, hC5⟩
        have HR5 : Hid (RD M w5 R v5 (numL l4) (numF l4 0)) := hR5
        have HC5 : Hid (Ch (fun x => x = R) w w5) := HC.out.self hC5
        have HO5 : Hid (w5.ownsRow w.heap.size 32 1 u4 acc.length ((ib acc).map (Value.int .u64))) := own_ch HO.out hC5 (fun x hx => by have := HRW.out; omega)
        have HLE : Hid (acc.length ≤ 64) := by have := HAI.out; have := HX64.out; show _ ≤ _; omega
        clear hR5 hC5 hc1 HRD HO HC
        go_upto_region 6 with (at_builtin; refine wpList_append_sv (by rfl) (.tmp 25) (.tmp 28) 24 (by rfl) w.heap.size 32 .u64 8 Try.underlying24 info_u64 _ _ _ (by rfl) (HO5.out.alloc _) _ [_] (by rfl) (sv_one .u64 _ _ _) (by have := HLE.out; simp only [maxLen, List.length_singleton]; omega) (by have := HLE.out; simp only [List.length_singleton]; omega) (by rw [size_allocC]; have := HC5.out.size; omega) ?_; intro v6 w6 hown hgrow)
        have hg6 : Below w.heap.size w5 w6 := ((below_alloc w5 _).mono HC5.out.size).trans (grown_belowC (HO5.out.alloc _) hgrow (by rw [size_allocC]; have := HC5.out.size; omega))
        have hch6 : Ch (fun x => w.heap.size ≤ x) w5 w6 := ⟨hg6.os, hg6.tape, hg6.output, hg6.size, fun k hk hd => hg6.block k (by omega)⟩
        have HR6 : Hid (RD M w6 R v5 (numL l4) (numF l4 0)) := HR5.out.ch hch6 (by have := HRW.out; omega) (fun x hx => by have h1 := HMR.out; have h2 := HRW.out; omega)
        have HC6 : Hid (Ch (fun x => x = R) w w6) := HC5.out.trans hch6 (fun x hx => .inr hx)
        have HREL : Hid (KRel M R x l1 w v6 (.int .u64 ((i : Int) + 1)) w6) := ⟨i + 1, acc ++ [y], v5, _, _, rfl, hlt, by have := HAI.out; simp; omega, HNX.out, HR6.out, by
          rw [List.length_append, ib_append, List.map_append]; exact hown, HC6.out⟩
        clear hown hgrow hg6 hch6 HR6 HC6 HR5 HC5 HO5
        go_wp2_with fail
        go_roundw
        case rel => exact HREL.out
        case measure => simp [intOf]; omega
      · have hf0 : ((f4 : Int) == 0) = false := by rw [beq_eq_false_iff_ne]; omega
        have HNE : Hid (f4 ≠ 0) := hf
        clear hf
        go_wp2_with fail
        go_ret
        refine ⟨_, _, acc, l4, f4, rfl, HO.out, HRD.out, HC.out, ?_⟩
        rw [← HX.out, ← HFE.out, ← HL1.out]
        refine .inr ⟨HF0.out, .inr ⟨HNE.out, ?_⟩⟩
        rcases HAT.out with ⟨q, _⟩ | ⟨_, q⟩
        · exact absurd q HNE.out
        · exact q
    · have hlti : ¬ (i : Int) < (x : Int) := by omega
      obtain rfl : i = x := by omega
      go_wp2_with fail
      go_ret
      refine ⟨_, _, acc, l4, f4, rfl, HO.out, HRD.out, HC.out, ?_⟩
      rw [← HX.out, ← HFE.out, ← HL1.out]
      refine .inr ⟨HF0.out, ?_⟩
      rcases HAT.out with ⟨q, _, h2, h3⟩ | ⟨q1, q2⟩
      · rw [Nat.sub_self] at h2 h3
        simp only [keyS] at h2 h3
        obtain ⟨a, b⟩ := h3 h2
        exact .inl ⟨q, h2, by rw [a]; simp, b.symm⟩
      · exact .inr ⟨q1, q2⟩


theorem keys_walk {w : World} {R : Nat} {v : Value} {l : List Nat} {f : Nat} (h : RD M w R v l f) (hM : M ≤ R) :
    Calls Try.prog 23 #[.pointer (some ⟨R, 0, none⟩)] w (KGot M R l f w) := by
  by_cases hf : lngF l f = 0
  · exact keys_good h hM hf
  · exact keys_bad h hM hf
end Go.Proofs.Ytkicnoohfilgjaa


