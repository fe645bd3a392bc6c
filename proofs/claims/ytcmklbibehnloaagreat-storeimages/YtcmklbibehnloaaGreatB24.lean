/- Contracts of the reader's count and keys, of mark's Decode. -/
import Derived.Test.YtcmklbibehnloaaGreatB15
import Derived.Laws.ResultCell
set_option maxRecDepth 100000
set_option maxHeartbeats 16000000
namespace Go.Proofs.YtcmklbibehnloaaGreat
open Go.RowKit
theorem sv_any {k : IntKind} {w : World} {v : Value} {l : List Int} (h : Sv k w v l) : ∃ a n q, v = .slice a n q := by
 obtain ⟨a, q, e, _⟩ := h; exact ⟨a, _, q, e⟩
theorem pv_three {w : World} {a b c : Value} {la lb lc : List Nat} (t : TypeId) (ha : Bv w a la) (hb : Bv w b lb) (hc : Bv w c lc) :
  Pv (w.alloc (.cells #[a, b, c] t)) (.slice (some ⟨w.heap.size, 0, none⟩) 3 3) [la, lb, lc] := by
 refine ⟨_, 3, rfl, Nat.le_refl _, by simp [maxLen], by simp, fun i hi => ?_⟩;simp at hi;have : i = 0 ∨ i = 1 ∨ i = 2 := by omega
 rcases this with rfl | rfl | rfl
 ·exact ⟨_, _, a, rfl, by simp, ha.below (below_alloc _ _)⟩
 ·exact ⟨_, _, b, rfl, by simp, hb.below (below_alloc _ _)⟩
 ·exact ⟨_, _, c, rfl, by simp, hc.below (below_alloc _ _)⟩
theorem flat_3M (a b c : List Nat) : [a, b, c].flatten = a ++ (b ++ c) := by simp
def preM (B A : Nat) (k : List Nat) (i : Nat) : List Nat := Wm.enc B ++ (Wm.enc A ++ Wm.enc k.length) ++ Wm.encAll (k.take i)
theorem pre_allM (B A : Nat) (k : List Nat) : preM B A k k.length = Wm.enc B ++ (Wm.enc A ++ (Wm.enc k.length ++ Wm.encAll k)) := by simp [preM]
theorem pre_zeroM (B A : Nat) (k : List Nat) : preM B A k 0 = Wm.enc B ++ (Wm.enc A ++ Wm.enc k.length) := by simp [preM, Wm.encAll]
theorem pre_succM {B A : Nat} {k : List Nat} {i : Nat} (hi : i < k.length) : preM B A k (i + 1) = preM B A k i ++ Wm.enc k[i] := by
 simp only [preM, List.take_succ_eq_append_getElem hi, encAll_append, Wm.encAll, List.append_nil, List.append_assoc]
theorem pre_lenM {B A : Nat} {k : List Nat} (i : Nat) (h : k.length ≤ 64) : (preM B A k i).length ≤ 670 := by
 have h1 := Wm.enc_len B; have h2 := Wm.enc_len A; have h3 := Wm.enc_len k.length; have h4 := encAll_len (k.take i);have h5 : (k.take i).length ≤ 64 := by simp; omega
 simp only [preM, List.length_append]; omega
def MGot (m : Mk) (w : World) (e : Ending) (w' : World) : Prop :=
 ∃ v, e = .returned (.tuple #[v, .int .i64 ((encM m).2 : Nat)]) ∧ w'.ownsRow w.heap.size 5 1 v (encM m).1.length ((ib (encM m).1).map (Value.int .u8)) ∧ Below w.heap.size w w'
theorem mgot_bad {m : Mk} {w w' : World} (h : soundBM m = false) (hb : Below w.heap.size w w') : MGot m w (.returned (.tuple #[.slice none 0 0, .int .i64 1])) w' := by
 have e : encM m = ([], 1) := by simp [encM, h]
 exact ⟨_, by rw [e]; rfl, by rw [e]; exact ⟨rfl, .inl ⟨rfl, rfl⟩⟩, hb⟩
def MRel (B A : Nat) (k : List Nat) (w : World) (v iv : Value) (wr : World) : Prop :=
 ∃ i : Nat, iv = .int .i64 i ∧ i ≤ k.length ∧ wr.ownsRow w.heap.size 5 1 v (preM B A k i).length ((ib (preM B A k i)).map (Value.int .u8)) ∧ Below w.heap.size w wr
theorem mrel_step {B A : Nat} {k : List Nat} {i : Nat} {w w5 w6 : World} {v v' : Value} (hi : i < k.length) (hbel : Below w.heap.size w w5) (ho5 : w5.ownsRow w.heap.size 5 1 v (preM B A k i).length ((ib (preM B A k i)).map (Value.int .u8)))
  (ho : w6.ownsRow w.heap.size 5 1 v' ((preM B A k i).length + (ib (Wm.enc k[i])).length) ((ib (preM B A k i)).map (Value.int .u8) ++ (ib (Wm.enc k[i])).map (Value.int .u8))) (hg : w5.grownBy w6 v.ownBlock) : MRel B A k w v' (.int .i64 ((i : Int) + 1)) w6 := by
 refine ⟨i + 1, rfl, hi, ?_, hbel.trans (grown_belowC ho5 hg hbel.size)⟩;rw [pre_succM hi, List.length_append, ib_append, List.map_append];rw [ib_len] at ho;exact ho
theorem MB.belowB {w w' : World} {P S : Nat} {b a : Int} {v : Value} (h : MB w P b a v) (hb : Below S w w') (hl : P < S) : MB w' P b a v :=
 ⟨by rw [hb.cell (p := ⟨P, 0, none⟩) hl]; exact h.c0, by rw [hb.cell (p := ⟨P, 1, none⟩) hl]; exact h.c1, by rw [hb.cell (p := ⟨P, 2, none⟩) hl]; exact h.c2, fun j => by rw [hb.frozen (p := ⟨P, j, none⟩) hl]; exact h.z j⟩
theorem menc_bad {w : World} {v : Value} {k : List Nat} (h : Kv w v k) (b a : Int) (hs : soundBM ⟨b, a, k⟩ = false) : Calls Tryz.prog 92 #[.agg #[.int .i64 b, .int .i64 a, v]] w (MGot ⟨b, a, k⟩ w) := by
 have HB : Hid (Below w.heap.size w (w.alloc (Obj.cells #[.int .i64 b, .int .i64 a, v] 65))) := below_alloc _ _;have HV : Hid (Kv (w.alloc (Obj.cells #[.int .i64 b, .int .i64 a, v] 65)) v k) := h.below (below_alloc _ _);clear h;go_in;go_wp2_with fail;refine (sound_walkM HV.out b a).mono ?_;rw [hs];rintro e w2 ⟨rfl, hB2⟩;go_wp2_with fail;go_ret2;exact mgot_bad hs (below_trans HB.out hB2)
theorem menc_good {w : World} {k : List Nat} {ao : Option Addr} {n cap : Nat} (h : Kv w (.slice ao n cap) k) (hn : n = k.length) (hok : keysOk k) (b a : Int) (hs : soundBM ⟨b, a, k⟩ = true) :
  Calls Tryz.prog 92 #[.agg #[.int .i64 b, .int .i64 a, .slice ao n cap]] w (MGot ⟨b, a, k⟩ w) := by
 have HVK := hidH h;have HOK : Hid (keysOk k) := hok;have HB0 : Hid (Below w.heap.size w (w.alloc (Obj.cells #[.int .i64 b, .int .i64 a, .slice ao n cap] 65))) := below_alloc _ _;have HM0 : Hid (MB (w.alloc (Obj.cells #[.int .i64 b, .int .i64 a, .slice ao n cap] 65)) w.heap.size b a (.slice ao n cap)) := mb_new w b a _;have HS : Hid (soundBM ⟨b, a, k⟩ = true) := hs;have hp := sound_parts hs;simp only at hp;have HN : Hid (n = k.length) := hn;obtain ⟨B, hB⟩ : ∃ B : Nat, b = B := ⟨b.toNat, by omega⟩;obtain ⟨A, hA⟩ : ∃ A : Nat, a = A := ⟨a.toNat, by omega⟩;subst hB hA;have HBB : Hid (B < 18446744073709551616) := by show _ < _; omega
 have HAA : Hid (A < 18446744073709551616) := by show _ < _; omega
 have HNN : Hid (n < 18446744073709551616) := by show _ < _; omega
 have H64 : Hid (n ≤ 64) := by show _ ≤ _; omega
 have hwB : IntKind.u64.wrap (B : Int) = (B : Int) := wrap_u64_id (by omega) (by omega);have hwA : IntKind.u64.wrap (A : Int) = (A : Int) := wrap_u64_id (by omega) (by omega);have hwn : IntKind.u64.wrap (n : Int) = (n : Int) := wrap_u64_id (by omega) (by omega);have hn64 : (n : Int) ≤ 64 := by omega
 have HSZ : Hid ((Wm.enc B ++ (Wm.enc A ++ Wm.enc n)).length ≤ 140737488355328) := by
  have h1 := Wm.enc_len B; have h2 := Wm.enc_len A; have h3 := Wm.enc_len n;show _ ≤ _;simp only [List.length_append]; omega
 have HEN : Hid (encM ⟨B, A, k⟩ = (preM B A k k.length, 0)) := by show _ = _; unfold encM; rw [if_pos hs, pre_allM]; simp [bytesM]
 clear h hok hs hn hp;go_in;go_wp2_with fail;refine (sound_walkM (HVK.out.below HB0.out) B A).mono ?_;rw [HS.out];rintro e w2 ⟨rfl, hB2⟩;have HB2 := hidH (below_trans HB0.out hB2);have HM2 := hidH (HM0.out.keep hB2);clear hB2 HM0 HB0;go_upto_region 3 with fail
 have j0 : ∀ wx, Below w2.heap.size w2 wx → wx.cell? ⟨w.heap.size, 0, none⟩ = some (.int .i64 B) := fun wx h => (HM2.out.keep h).c0;have j1 : ∀ wx, Below w2.heap.size w2 wx → wx.cell? ⟨w.heap.size, 1, none⟩ = some (.int .i64 A) := fun wx h => (HM2.out.keep h).c1;have j2 : ∀ wx, Below w2.heap.size w2 wx → wx.cell? ⟨w.heap.size, 2, none⟩ = some (.slice ao n cap) := fun wx h => (HM2.out.keep h).c2;refine wp_region_noPanic ?_;refine wp_region_held_drew (S := fun wx => Below w2.heap.size w2 wx) (by kernel_rfl) ?_ fun hHeld => ?_
 ·exact (Below.refl _ _).drew
 refine tkS 0 10 rfl hHeld ?_;refine tkS 1 11 rfl hHeld ?_;refine tkS 2 12 rfl hHeld ?_;refine tkS 4 14 rfl hHeld ?_;refine tkS 5 15 rfl hHeld ?_;refine tkS 6 16 rfl hHeld ?_;refine tkS 8 18 rfl hHeld ?_;refine tkS 9 19 rfl hHeld ?_;refine tkS 10 20 rfl hHeld ?_;refine tkS 11 21 rfl hHeld ?_;refine rdH 3 13 rfl fun K hK => ?_;go_simp;refine (put_walk B HBB.out _).mono ?_;rintro e wp1 ⟨y1, rfl, hy1, hB9⟩;have hY1 : Bv wp1 y1 (Wm.enc B) := own_bv hy1 (Wm.enc_lt _ HBB.out);have hS9 := below_trans hHeld hB9;obtain ⟨ya1, yn1, yq1, rfl⟩ := bv_any hY1;clear hB9 hHeld hy1;go_simp;refine hK.out _ _ ?_ fun hHeld => ?_
 ·exact hS9
 clear hK K;try simp only [Act.put, zz]
 refine rdH 7 17 rfl fun K hK => ?_;go_simp;refine (put_walk A HAA.out _).mono ?_;rintro e wp2 ⟨y2, rfl, hy2, hB9⟩;have hY2 : Bv wp2 y2 (Wm.enc A) := own_bv hy2 (Wm.enc_lt _ HAA.out);have hY1 := hY1.below hB9;have hS9 := below_trans hHeld hB9;obtain ⟨ya2, yn2, yq2, rfl⟩ := bv_any hY2;clear hB9 hHeld hy2;go_simp;refine hK.out _ _ ?_ fun hHeld => ?_
 ·exact hS9
 clear hK K;try simp only [Act.put, zz]
 refine rdH 12 22 rfl fun K hK => ?_;go_simp;refine (put_walk n HNN.out _).mono ?_;rintro e wp3 ⟨y3, rfl, hy3, hB9⟩;have hY3 : Bv wp3 y3 (Wm.enc n) := own_bv hy3 (Wm.enc_lt _ HNN.out);have hY1 := hY1.below hB9;have hY2 := hY2.below hB9;have hS9 := below_trans hHeld hB9;obtain ⟨ya3, yn3, yq3, rfl⟩ := bv_any hY3;clear hB9 hHeld hy3;go_simp;refine hK.out _ _ ?_ fun hHeld => ?_
 ·exact hS9
 clear hK K;try simp only [Act.put, zz]
 refine rdH 13 23 rfl fun K hK => ?_;go_simp;have hP := pv_three 78 hY1 hY2 hY3;have hS9 : Below w2.heap.size w2 (wp3.alloc (Obj.cells #[.slice ya1 yn1 yq1, .slice ya2 yn2 yq2, .slice ya3 yn3 yq3] 78)) := below_trans hHeld (below_alloc _ _);clear hHeld hY1 hY2 hY3;generalize wp3.alloc (Obj.cells #[.slice ya1 yn1 yq1, .slice ya2 yn2 yq2, .slice ya3 yn3 yq3] 78) = wp4 at hP hS9 ⊢;refine hK.out _ _ ?_ fun hHeld => ?_
 ·exact hS9
 clear hK K;try simp only [Act.put, zz]
 refine rdH 14 24 rfl fun K hK => ?_;go_simp;refine (join_walk hP (by rw [flat_3M]; exact HSZ.out)).mono ?_;rintro e w5 ⟨v5, rfl, ho5, hB9⟩;have hSJ := hHeld.size;have hS9 := below_trans hHeld hB9;clear hB9 hHeld hP;go_simp;refine hK.out _ _ ?_ fun hHeld => ?_
 ·exact hS9
 clear hK K;try simp only [Act.put, zz]
 refine tkS 15 4 rfl hHeld ?_;refine wpAnyH_done (by kernel_rfl) ?_ _;refine NoPanic.normal ?_;have HM5 := hidH (HM2.out.keep hHeld)
 have HST : Hid (MRel B A k w v5 (.int .i64 0) w5) := ⟨0, rfl, by omega, by
  rw [pre_zeroM, ← HN.out];rw [flat_3M] at ho5;exact own_baseC ho5 (Nat.le_trans HB2.out.size hSJ), below_trans HB2.out hHeld⟩
 have k2 := HM5.out.c2;have HB5 := hidH (below_trans HB2.out hHeld);clear ho5 hSJ hHeld j0 j1 j2 hwB hwA hwn HM2;by_cases h0 : n = 0
 ·have hk0 : k.length = 0 := by have := HN.out; omega
  subst h0;go_wp2_with fail;refine wp_loop_rounds 1 ?_;rw [rounds_succ];go_wp2_with fail;go_ret2;have hr := HST.out;obtain ⟨i, hi, _, ho, hb⟩ := hr;have hi0 : i = 0 := by simpa using hi.symm
  subst hi0;exact ⟨_, by rw [HEN.out]; rfl, by rw [HEN.out, hk0]; exact ho, hb⟩
 ·obtain ⟨kb, koff, hao, hcells⟩ : ∃ kb koff, ao = some ⟨kb, koff, none⟩ ∧ ∀ i, (hi : i < k.length) → w.cell? ⟨kb, koff + i, none⟩ = some (.int .u64 (k[i] : Nat)) := by
   rcases kv_cases HVK.out with ⟨h1, _⟩ | ⟨kb, koff, kc, e, _, _, _, hc⟩
   ·exact absurd (by have := HN.out; rw [h1] at this; simpa using this) h0
   ·simp only [Value.slice.injEq] at e;exact ⟨kb, koff, e.1, hc⟩
  subst hao;have HCELL : Hid (∀ i, (hi : i < k.length) → w.cell? ⟨kb, koff + i, none⟩ = some (.int .u64 (k[i] : Nat))) := hcells;clear hcells h0;go_wp2_with fail;go_loopw [4, 28] (fun v iv wr => MRel B A k w v iv wr) (fun _ iv _ => k.length - (intOf iv).toNat)
  case atStart => exact HST.out
  case round =>
   clear HST k2;obtain ⟨i, rfl, hil, hown, hbel⟩ := hrel;have HB := hidH hbel;have HOWN := hidH hown;clear hbel hown;by_cases hlt : i < k.length
   ·have hlti : (i : Int) < (n : Int) := by have := HN.out; omega
    have hc0 := HCELL.out i hlt;have hc : wr.cell? ⟨kb, koff + i, none⟩ = some (.int .u64 (k[i] : Nat)) := by rw [HB.out.cell (p := ⟨kb, koff + i, none⟩) (cell_lt hc0)]; exact hc0
    obtain ⟨x, hx⟩ : ∃ x, k[i] = x := ⟨_, rfl⟩;rw [hx] at hc;have HX : Hid (k[i] = x) := hx;have HXB : Hid (x < 18446744073709551616) := by show _ < _; rw [← hx]; exact HOK.out _ (List.getElem_mem _)
    clear hx hc0;go_wp2_with fail;refine (put_walk x HXB.out _).mono ?_;rintro e w6 ⟨y6, rfl, hy6, hB6⟩;have HY : Hid (Sv .u8 w6 y6 (ib (Wm.enc x))) := own_sv hy6;have HO6 : Hid (w6.ownsRow w.heap.size 5 1 u4 (preM B A k i).length ((ib (preM B A k i)).map (Value.int .u8))) := own_belowC HOWN.out hB6;have HB6 := hidH (below_trans HB.out hB6);obtain ⟨ya, yn, yq, rfl⟩ := sv_any HY.out
    have HLE : Hid ((preM B A k i).length + (ib (Wm.enc x)).length ≤ 700) := by
     have h1 := pre_lenM (B := B) (A := A) (k := k) i (by have := HN.out; have := H64.out; omega); have h2 := Wm.enc_len x;show _ ≤ _;rw [ib_len]; omega
    clear hy6 hB6 HOWN;go_upto_region 8 with (at_builtin; refine wpList_append_sv (by rfl) (.tmp 32) (.tmp 34) 78 (by rfl) w.heap.size 5 .u8 1 Tryz.underlying78 info_u8 _ _ _ (by rfl) HO6.out _ _ (by rfl) HY.out (by have := HLE.out; simp only [maxLen]; omega) (by have := HLE.out; omega) HB6.out.size ?_; intro v7 w7 hown hgrow)
    have R : Hid (MRel B A k w v7 (.int .i64 ((i : Int) + 1)) w7) := mrel_step hlt HB6.out HO6.out (by rw [HX.out]; exact hown) hgrow;clear hown hgrow;go_wp2_with fail;go_roundw
    case rel => exact R.out
    case measure => simp [intOf]; omega
   ·have hlti : ¬ (i : Int) < (n : Int) := by have := HN.out; omega
    obtain rfl : i = k.length := by omega
    go_wp2_with fail;go_ret2;exact ⟨_, by rw [HEN.out]; rfl, by rw [HEN.out]; exact HOWN.out, HB.out⟩
theorem menc_walk {w : World} {v : Value} {k : List Nat} (h : Kv w v k) (hok : keysOk k) (b a : Int) : Calls Tryz.prog 92 #[.agg #[.int .i64 b, .int .i64 a, v]] w (MGot ⟨b, a, k⟩ w) := by
 cases hs : soundBM ⟨b, a, k⟩
 ·exact menc_bad h b a hs
 ·obtain ⟨ao, cap, rfl, _⟩ := kv_form h;exact menc_good h rfl hok b a hs
section
structure RDM (M : Nat) (w : World) (R : Nat) (v : Value) (l : List Nat) (f : Nat) : Prop where
 c0 : w.cell? ⟨R, 0, none⟩ = some v
 c1 : w.cell? ⟨R, 1, none⟩ = some (.int .i64 f)
 z : ∀ j, w.frozen? ⟨R, j, none⟩ = false
 bv : Bv w v l
 m : ∀ x, v.ownBlock = some x → l ≠ [] → x < M
variable {M : Nat}

theorem RDM.set1 {w : World} {R : Nat} {v : Value} {l : List Nat} {f : Nat} (h : RDM M w R v l f) (e : Nat) : RDM M (w.setCell ⟨R, 1, none⟩ (.int .i64 e)) R v l e :=
 ⟨by rw [World.cell?_setCell_other _ _ _ _ (by rintro ⟨⟩)]; exact h.c0, by simp [go_sem, h.c1], fun j => by simpa [go_sem] using h.z j, h.bv.set h.c1 (by intro x e; cases e) _, h.m⟩
theorem RDM.set0 {w : World} {R : Nat} {v v' : Value} {l l' : List Nat} {f : Nat} (h : RDM M w R v l f) (hb : Bv w v' l') (hm : v'.ownBlock = v.ownBlock) (hl : ∃ k, l' = l.drop k := by exact ⟨_, rfl⟩) : RDM M (w.setCell ⟨R, 0, none⟩ v') R v' l' f :=
 ⟨by simp [go_sem, h.c0], by rw [World.cell?_setCell_other _ _ _ _ (by rintro ⟨⟩)]; exact h.c1, fun j => by simpa [go_sem] using h.z j, hb.set h.c0 (bv_notu8 h.bv) _, fun x hx hne => h.m x (by rw [← hm]; exact hx) (fun e => hne (by obtain ⟨k, rfl⟩ := hl; rw [e]; simp))⟩
theorem RDM.below {w w' : World} {R : Nat} {v : Value} {l : List Nat} {f : Nat} (h : RDM M w R v l f) (hb : Below w.heap.size w w') : RDM M w' R v l f := by
 have hR : R < w.heap.size := cell_lt h.c0;exact ⟨by rw [hb.cell (p := ⟨R, 0, none⟩) hR]; exact h.c0, by rw [hb.cell (p := ⟨R, 1, none⟩) hR]; exact h.c1, fun j => by rw [hb.frozen (p := ⟨R, j, none⟩) hR]; exact h.z j, h.bv.below hb, h.m⟩
theorem RDM.ch {D : Nat → Prop} {w w' : World} {R : Nat} {v : Value} {l : List Nat} {f : Nat} (h : RDM M w R v l f) (hc : Ch D w w') (hd : ¬ D R) (hM : ∀ x, D x → M ≤ x) : RDM M w' R v l f := by
 have hz : ∀ j, w'.frozen? ⟨R, j, none⟩ = w.frozen? ⟨R, j, none⟩ := fun j => by
  have := hc.block R (cell_lt h.c0) hd;simp only [World.frozen?, this]
 refine ⟨hc.cell h.c0 hd, hc.cell h.c1 hd, fun j => by rw [hz j]; exact h.z j, ?_, h.m⟩;obtain ⟨⟨ao, cap, e, h1, h2, h3, h4⟩, h5⟩ := h.bv;refine ⟨⟨ao, cap, e, h1, h2, h3, fun i hi => ?_⟩, h5⟩;obtain ⟨b, off, e1, e2⟩ := h4 i hi;have hb : b < M := h.m b (by rw [e, e1]; rfl) (fun e0 => by simp [e0, ib] at hi);exact ⟨b, off, e1, hc.cell e2 (fun hx => by have := hM b hx; omega)⟩
theorem refuse_walkM {w : World} {R : Nat} {v : Value} {l : List Nat} {f : Nat} (h : RDM M w R v l f) (g : Bool) (e : Nat) :
  Calls Tryz.prog 149 #[.pointer (some ⟨R, 0, none⟩), .bool g, .int .i64 e] w fun en w' => en = .returned (.tuple #[]) ∧ RDM M w' R v l (refu g e f) ∧ Ch (fun x => x = R) w w' := by
 have HR : Hid (RDM M w R v l f) := h;have c1 := h.c1;have z1 := h.z 1;clear h
 cases g
 ·rw [refu_no];go_in;go_wp2_with fail;refine bodyPost_end (results_none rfl _ _ _) rfl ?_;exact ⟨rfl, HR.out, Ch.refl _ _⟩
 ·by_cases hf : f = 0
  ·subst hf;rw [refu_yes];go_in;go_wp2_with fail;refine bodyPost_end (results_none rfl _ _ _) rfl ?_;exact ⟨rfl, HR.out.set1 e, ch_set _ _ _ _⟩
  ·rw [refu_old hf];have hfi : ((f : Int) == 0) = false := by rw [beq_eq_false_iff_ne]; omega
   go_in;go_wp2_with fail;refine bodyPost_end (results_none rfl _ _ _) rfl ?_;exact ⟨rfl, HR.out, Ch.refl _ _⟩
theorem number_walkM {w : World} {R : Nat} {v : Value} {l : List Nat} {f : Nat} (h : RDM M w R v l f) :
  Calls Tryz.prog 193 #[.pointer (some ⟨R, 0, none⟩)] w fun e w' => e = .returned (.int .u64 ((Wm.take l).1 : Nat)) ∧ (∃ v', RDM M w' R v' (numL l) (numF l f)) ∧ Ch (fun x => x = R) w w' := by
 have HR : Hid (RDM M w R v l f) := h
 obtain ⟨ao, n, cap, hv⟩ : ∃ a n q, v = .slice a n q := by
  obtain ⟨⟨ao, cap, e, _⟩, _⟩ := h.bv;exact ⟨ao, _, cap, e⟩
 subst hv;obtain ⟨hn, hle, hmx⟩ := bv_le h.bv;subst hn;have c0 := h.c0;have HLE : Hid (l.length ≤ cap) := hle;unfold maxLen at hmx;have hci : (cap : Int) ≤ 9223372036854775807 := by omega
 have hli : (l.length : Int) ≤ (cap : Int) := by omega
 have hT := Wm.take_form l h.bv.2;clear h hle hmx;rcases hT with ⟨e, ht, h34⟩ | ⟨x, n, ht, hx, hn1, hn2, hn3⟩
 ·have e1 : (Wm.take l).1 = 0 := by rw [ht]
  have e2 : numL l = l.drop 0 := by unfold numL; rw [ht]
  have e3 : numF l f = refu true e f := by
   unfold numF; rw [ht]; have : e ≠ 0 := by omega
   simp [this]
  have HT : Hid (Wm.take l = (0, 0, e)) := ht;rw [e1, e2, e3];have hne : ((e : Int) != 0) = true := by rw [bne_iff_ne]; omega
  clear e1 e2 e3 ht h34;go_in;go_wp2_with fail;refine (take_walk HR.out.bv).mono ?_;rw [t3_litB HT.out];rintro e9 w9 ⟨rfl, rfl⟩;go_wp2_with fail;refine (refuse_walkM HR.out true e).mono ?_;rintro e9 w2 ⟨rfl, hR2, hC2⟩;have HR2 := hidH hR2;have HC2 : Hid (Ch (fun x => x = R) w9 w2) := hC2;have d0 := hR2.c0;have z0 := hR2.z 0;clear hR2 hC2 c0;by_cases hc0 : cap = 0
  ·have hl0 : l.length = 0 := by have := HLE.out; omega
   have HL0 : Hid (l.length ≤ 0) := by show _ ≤ _; omega
   subst hc0;rw [hl0] at d0 ⊢;go_wp2_with fail;go_ret;exact ⟨rfl, ⟨_, HR2.out.set0 (cut_end HL0.out) (own_cut0)⟩, HC2.out.self (ch_set _ _ _ _)⟩
  ·go_wp2_with fail;go_ret;have hz : Bv w2 (.slice (ao.map fun a => a.add 0) l.length cap) (l.drop 0) := by simpa using cut_any HR2.out.bv rfl 0 (Nat.zero_le _) hc0
   first
    | exact ⟨rfl, ⟨_, HR2.out.set0 hz own_cutm⟩, HC2.out.self (ch_set _ _ _ _)⟩
    | exact ⟨rfl, ⟨_, HR2.out.set0 (v' := .slice ao l.length cap) (by simpa using HR2.out.bv) own_cut0⟩, HC2.out.self (ch_set _ _ _ _)⟩
 ·have e1 : (Wm.take l).1 = x := by rw [ht]
  have e2 : numL l = l.drop n := by unfold numL; rw [ht]
  have e3 : numF l f = refu false 0 f := by unfold numF; rw [ht]; rfl
  have HT : Hid (Wm.take l = (x, n, 0)) := ht;rw [e1, e2, e3];have HN : Hid (n ≤ l.length) := hn2;have hni : (n : Int) ≤ (l.length : Int) := by omega
  have hnc : (n : Int) ≤ (cap : Int) := by omega
  clear e1 e2 e3 ht hn3 hn1 hn2;go_in;go_wp2_with fail;refine (take_walk HR.out.bv).mono ?_;rw [t3_litB HT.out];rintro e9 w9 ⟨rfl, rfl⟩;go_wp2_with fail;refine (refuse_walkM HR.out false 0).mono ?_;rintro e9 w2 ⟨rfl, hR2, hC2⟩;have HR2 := hidH hR2;have HC2 : Hid (Ch (fun x => x = R) w9 w2) := hC2;have d0 := hR2.c0;have z0 := hR2.z 0;clear hR2 hC2 c0;by_cases hcp : cap = n
  ·have hlp : l.length = n := by have := HLE.out; have := HN.out; omega
   have HLP : Hid (l.length ≤ n) := by show _ ≤ _; omega
   subst hcp;go_wp2_with fail;go_ret;exact ⟨rfl, ⟨_, HR2.out.set0 (cut_end HLP.out) own_cut0⟩, HC2.out.self (ch_set _ _ _ _)⟩
  ·go_wp2_with fail;go_ret;exact ⟨rfl, ⟨_, HR2.out.set0 (cut_any HR2.out.bv rfl n HN.out hcp) own_cutm⟩, HC2.out.self (ch_set _ _ _ _)⟩
theorem RDM.setB {w : World} {R B j : Nat} {v u : Value} {l : List Nat} {f : Nat} (h : RDM M w R v l f) (hne : B ≠ R) (hp : w.cell? ⟨B, j, none⟩ = some u) (hu : ∀ x, u ≠ .int .u8 x) (u' : Value) : RDM M (w.setCell ⟨B, j, none⟩ u') R v l f :=
 ⟨by rw [World.cell?_setCell_other _ _ _ _ (by rintro ⟨⟩; exact hne rfl)]; exact h.c0, by rw [World.cell?_setCell_other _ _ _ _ (by rintro ⟨⟩; exact hne rfl)]; exact h.c1, fun k => by simpa [go_sem] using h.z k, h.bv.set hp hu _, h.m⟩
end
section
variable {M : Nat}

theorem info_u64M : (Tryz.prog.info? 37).map (fun i => (i.zero, i.size, i.bytes)) = some (some (.int .u64 0), 1, 8) := by kernel_rfl
def cntF (l : List Nat) (f : Nat) : Nat := refu (decide (1099511627776 < (Wm.take l).1)) 4 (numF l f)
theorem count_walk {w : World} {R : Nat} {v : Value} {l : List Nat} {f : Nat} (h : RDM M w R v l f) :
  Calls Tryz.prog 147 #[.pointer (some ⟨R, 0, none⟩)] w fun e w' => e = .returned (.int .i64 (wrap64 ((Wm.take l).1 : Nat))) ∧ (∃ v', RDM M w' R v' (numL l) (cntF l f)) ∧ Ch (fun x => x = R) w w' := by
 have HR : Hid (RDM M w R v l f) := h;obtain ⟨x, hx⟩ : ∃ x, x = (Wm.take l).1 := ⟨_, rfl⟩;have HX : Hid (x = (Wm.take l).1) := hx;have HF : Hid (cntF l f = refu (decide (1099511627776 < x)) 4 (numF l f)) := by rw [hx]; rfl
 rw [HF.out, ← hx];clear h hx;by_cases hb : 1099511627776 < x
 ·have hbd : decide (1099511627776 < x) = true := decide_eq_true hb;have hbi : (1099511627776 : Int) < (x : Int) := by omega
  rw [hbd];clear hb;go_in;go_wp2_with fail;refine (number_walkM HR.out).mono ?_;rw [← HX.out];rintro e w2 ⟨rfl, ⟨v2, hR2⟩, hC2⟩;have HR2 := hidH hR2;have HC2 : Hid (Ch (fun x => x = R) w w2) := hC2;clear hR2 hC2;go_wp2_with fail;refine (refuse_walkM HR2.out true 4).mono ?_;rintro e w3 ⟨rfl, hR3, hC3⟩;have HR3 := hidH hR3;have HC3 : Hid (Ch (fun x => x = R) w w3) := HC2.out.self hC3;clear hR3 hC3;go_wp2_with fail;go_ret;exact ⟨rfl, ⟨_, HR3.out⟩, HC3.out⟩
 ·have hbd : decide (1099511627776 < x) = false := decide_eq_false hb;have hbi : ¬ (1099511627776 : Int) < (x : Int) := by omega
  have hbdi : decide ((1099511627776 : Int) < (x : Int)) = false := decide_eq_false hbi;rw [hbd, show wrap64 (x : Int) = (x : Int) by unfold wrap64; omega];clear hb;go_in;go_wp2_with fail;refine (number_walkM HR.out).mono ?_;rw [← HX.out];rintro e w2 ⟨rfl, ⟨v2, hR2⟩, hC2⟩;have HR2 := hidH hR2;have HC2 : Hid (Ch (fun x => x = R) w w2) := hC2;clear hR2 hC2;go_wp2_with fail;refine (refuse_walkM HR2.out false 4).mono ?_;rintro e w3 ⟨rfl, hR3, hC3⟩;have HR3 := hidH hR3;have HC3 : Hid (Ch (fun x => x = R) w w3) := HC2.out.self hC3;clear hR3 hC3;go_wp2_with fail;go_ret;exact ⟨rfl, ⟨_, HR3.out⟩, HC3.out⟩
def KAt (D : Nat × List Nat × List Nat) (n i : Nat) (acc l : List Nat) (f : Nat) : Prop :=
 (f = 0 ∧ acc.length = i ∧ D.1 = (keyS (n - i) l).1 ∧ (D.1 = 0 → D.2.1 = acc ++ (keyS (n - i) l).2.1 ∧ D.2.2 = (keyS (n - i) l).2.2)) ∨ (f ≠ 0 ∧ D.1 = f)
theorem kat_start (n : Nat) (l : List Nat) : KAt (keyS n l) n 0 [] l 0 := .inl ⟨rfl, rfl, rfl, fun _ => ⟨rfl, rfl⟩⟩
theorem numF_eq (l : List Nat) : numF l 0 = (Wm.take l).2.2 := by
 unfold numF refu;by_cases h : (Wm.take l).2.2 = 0 <;> simp [h]
theorem kat_step {D : Nat × List Nat × List Nat} {n i : Nat} {acc l : List Nat} (h : KAt D n i acc l 0) (hi : i < n) : KAt D n (i + 1) (acc ++ [(Wm.take l).1]) (numL l) (numF l 0) := by
 rcases h with ⟨_, h1, h2, h3⟩ | ⟨h, _⟩
 ·rw [show n - i = (n - (i + 1)) + 1 by omega] at h2 h3;simp only [keyS] at h2 h3;rw [numF_eq];by_cases q : (Wm.take l).2.2 = 0
  ·rw [if_neg (by simpa using q)] at h2 h3;refine .inl ⟨q, by simp [h1], ?_⟩;by_cases q2 : (keyS (n - (i + 1)) (l.drop (Wm.take l).2.1)).1 = 0
   ·rw [if_neg (by simpa using q2)] at h2 h3;refine ⟨by rw [h2]; exact q2.symm, fun hD => ?_⟩;obtain ⟨a, b⟩ := h3 hD;exact ⟨by rw [a]; simp [numL], b⟩
   ·rw [if_pos q2] at h2 h3;exact ⟨h2, fun hD => absurd (h2.symm.trans hD) q2⟩
  ·rw [if_pos q] at h2;exact .inr ⟨q, h2⟩
 ·exact absurd rfl h
def KLeft (x f1 : Nat) (l1 ks l' : List Nat) (f' : Nat) : Prop :=
 (f1 ≠ 0 ∧ f' = f1) ∨ (f1 = 0 ∧ ((f' = 0 ∧ (keyS x l1).1 = 0 ∧ ks = (keyS x l1).2.1 ∧ l' = (keyS x l1).2.2) ∨ (f' ≠ 0 ∧ (keyS x l1).1 = f')))
def lngF (l : List Nat) (f : Nat) : Nat := refu (decide (64 < (Wm.take l).1)) 6 (numF l f)
def KGot (M R : Nat) (l : List Nat) (f : Nat) (w : World) (e : Ending) (w' : World) : Prop :=
 ∃ (v v' : Value) (ks l' : List Nat) (f' : Nat), e = .returned v ∧ w'.ownsRow w.heap.size 37 1 v ks.length ((ib ks).map (Value.int .u64)) ∧ RDM M w' R v' l' f' ∧ Ch (fun x => x = R) w w' ∧ KLeft (Wm.take l).1 (lngF l f) (numL l) ks l' f'
def KRel (M R x : Nat) (l1 : List Nat) (w : World) (kv iv : Value) (wr : World) : Prop :=
 ∃ (i : Nat) (acc : List Nat) (v : Value) (l : List Nat) (f : Nat), iv = .int .u64 i ∧ i ≤ x ∧ acc.length ≤ i ∧ KAt (keyS x l1) x i acc l f ∧ RDM M wr R v l f ∧ wr.ownsRow w.heap.size 37 1 kv acc.length ((ib acc).map (Value.int .u64)) ∧ Ch (fun x => x = R) w wr
theorem keys_bad {w : World} {R : Nat} {v : Value} {l : List Nat} {f : Nat} (h : RDM M w R v l f) (hM : M ≤ R) (hf : lngF l f ≠ 0) :
  Calls Tryz.prog 148 #[.pointer (some ⟨R, 0, none⟩)] w (KGot M R l f w) := by
 have HR : Hid (RDM M w R v l f) := h;have HMR : Hid (M ≤ R) := hM;have HRW : Hid (R < w.heap.size) := by have := cell_lt h.c0; show _ < _; simp only at this; omega
 obtain ⟨x, hx⟩ : ∃ x, x = (Wm.take l).1 := ⟨_, rfl⟩;have HX : Hid (x = (Wm.take l).1) := hx;obtain ⟨F, hF⟩ : ∃ F, F = lngF l f := ⟨_, rfl⟩;rw [← hF] at hf;have HFE : Hid (F = lngF l f) := hF;have HFR : Hid (refu (decide (64 < x)) 6 (numF l f) = F) := by rw [hF, hx]; rfl
 have hF0 : ((F : Int) == 0) = false := by rw [beq_eq_false_iff_ne]; omega
 have HF0 : Hid (F ≠ 0) := hf;clear h hM hx hF hf;obtain ⟨g, hg⟩ : ∃ g, g = decide (64 < x) := ⟨_, rfl⟩;have hgi : decide ((64 : Int) < (x : Int)) = g := by rw [hg]; congr 1; simp only [eq_iff_iff]; omega
 have hgn : decide (64 < x) = g := hg.symm;rw [hgn] at HFR;clear hg;go_in;go_wp2_with fail;refine (number_walkM HR.out).mono ?_;rw [← HX.out];rintro e w2 ⟨rfl, ⟨v2, hR2⟩, hC2⟩;have HR2 := hidH hR2;have HC2 : Hid (Ch (fun x => x = R) w w2) := hC2;clear hR2 hC2;go_wp2_with fail;refine (refuse_walkM HR2.out g 6).mono ?_;rw [HFR.out];rintro e w3 ⟨rfl, hR3, hC3⟩;have HR3 := hidH hR3;have HC3 : Hid (Ch (fun x => x = R) w w3) := HC2.out.self hC3;clear hR3 hC3 HR2 HC2 hgi hgn;have HR4 : Hid (RDM M (w3.alloc (Obj.cells #[] 37)) R v2 (numL l) F) := HR3.out.below (below_alloc _ _);have HC4 : Hid (Ch (fun x => x = R) w (w3.alloc (Obj.cells #[] 37))) := HC3.out.self (Ch.of_below (below_alloc _ _));have HO4 : Hid ((w3.alloc (Obj.cells #[] 37)).ownsRow w.heap.size 37 1 (.slice (some ⟨w3.heap.size, 0, none⟩) 0 0) 0 []) := own_baseC (World.ownsRow_made w3 #[] 0 (Nat.le_refl _) (by simp [maxLen]) rfl) HC3.out.size;have hc1 : (w3.alloc (Obj.cells #[] 37)).cell? ⟨R, 1, none⟩ = some (.int .i64 F) := HR4.out.c1;go_wp2_with fail;refine wp_loop_rounds 1 ?_;rw [rounds_succ];by_cases hx0 : 0 < x
 ·have hx0i : (0 : Int) < (x : Int) := by omega
  go_wp2_with fail;go_ret;exact ⟨_, _, [], _, F, rfl, HO4.out, HR4.out, HC4.out, by rw [← HFE.out]; exact .inl ⟨HF0.out, rfl⟩⟩
 ·have hx0i : ¬ (0 : Int) < (x : Int) := by omega
  go_wp2_with fail;go_ret;exact ⟨_, _, [], _, F, rfl, HO4.out, HR4.out, HC4.out, by rw [← HFE.out]; exact .inl ⟨HF0.out, rfl⟩⟩
theorem keys_good {w : World} {R : Nat} {v : Value} {l : List Nat} {f : Nat} (h : RDM M w R v l f) (hM : M ≤ R) (hf : lngF l f = 0) :
  Calls Tryz.prog 148 #[.pointer (some ⟨R, 0, none⟩)] w (KGot M R l f w) := by
 have HR : Hid (RDM M w R v l f) := h;have HMR : Hid (M ≤ R) := hM;have HRW : Hid (R < w.heap.size) := by have := cell_lt h.c0; show _ < _; simp only at this; omega
 obtain ⟨x, hx⟩ : ∃ x, x = (Wm.take l).1 := ⟨_, rfl⟩;have HX : Hid (x = (Wm.take l).1) := hx;obtain ⟨F, hF⟩ : ∃ F, F = lngF l f := ⟨_, rfl⟩;rw [← hF] at hf;have HFE : Hid (F = lngF l f) := hF;have HFR : Hid (refu (decide (64 < x)) 6 (numF l f) = F) := by rw [hF, hx]; rfl
 have HX64 : Hid (x ≤ 64) := by
  show _ ≤ _;rcases Nat.lt_or_ge 64 x with q | q
  ·have e := HFR.out;rw [decide_eq_true q, hf] at e;unfold refu at e;by_cases z : numF l f = 0
   ·simp [z] at e
   ·simp [z] at e
  ·exact q
 have HF0 : Hid (F = 0) := hf;clear h hM hx hF hf;obtain ⟨g, hg⟩ : ∃ g, g = decide (64 < x) := ⟨_, rfl⟩;have hgi : decide ((64 : Int) < (x : Int)) = g := by rw [hg]; congr 1; simp only [eq_iff_iff]; omega
 have hgn : decide (64 < x) = g := hg.symm;rw [hgn] at HFR;clear hg;go_in;go_wp2_with fail;refine (number_walkM HR.out).mono ?_;rw [← HX.out];rintro e w2 ⟨rfl, ⟨v2, hR2⟩, hC2⟩;have HR2 := hidH hR2;have HC2 : Hid (Ch (fun x => x = R) w w2) := hC2;clear hR2 hC2;go_wp2_with fail;refine (refuse_walkM HR2.out g 6).mono ?_;rw [HFR.out];rintro e w3 ⟨rfl, hR3, hC3⟩;have HR3 := hidH hR3;have HC3 : Hid (Ch (fun x => x = R) w w3) := HC2.out.self hC3;clear hR3 hC3 HR2 HC2 hgi hgn;have HR4 : Hid (RDM M (w3.alloc (Obj.cells #[] 37)) R v2 (numL l) F) := HR3.out.below (below_alloc _ _);have HC4 : Hid (Ch (fun x => x = R) w (w3.alloc (Obj.cells #[] 37))) := HC3.out.self (Ch.of_below (below_alloc _ _));have HO4 : Hid ((w3.alloc (Obj.cells #[] 37)).ownsRow w.heap.size 37 1 (.slice (some ⟨w3.heap.size, 0, none⟩) 0 0) 0 []) := own_baseC (World.ownsRow_made w3 #[] 0 (Nat.le_refl _) (by simp [maxLen]) rfl) HC3.out.size;have hc1 : (w3.alloc (Obj.cells #[] 37)).cell? ⟨R, 1, none⟩ = some (.int .i64 F) := HR4.out.c1;obtain ⟨l1, hl1⟩ : ∃ l1, l1 = numL l := ⟨_, rfl⟩;have HL1 : Hid (l1 = numL l) := hl1
 have HST : Hid (KRel M R x l1 w (.slice (some ⟨w3.heap.size, 0, none⟩) 0 0) (.int .u64 0) (w3.alloc (Obj.cells #[] 37))) :=
  ⟨0, [], v2, l1, 0, rfl, by omega, by simp, kat_start x l1, by have q := HR4.out; rw [HF0.out] at q; rw [hl1]; exact q, HO4.out, HC4.out⟩
 clear hl1 hc1 HR4 HC4 HO4 HR3 HC3;have hx64 : (x : Int) ≤ 64 := by have := HX64.out; omega
 go_wp2_with fail;go_loopw [4, 5] (fun kv iv wr => KRel M R x l1 w kv iv wr) (fun _ iv _ => x - (intOf iv).toNat)
 case atStart => exact HST.out
 case round =>
  clear HST;obtain ⟨i, acc, v4, l4, f4, rfl, hix, hai, hat, hrd, hown, hch⟩ := hrel;have HAT := hidH hat;have HRD : Hid (RDM M wr R v4 l4 f4) := hrd;have HO := hidH hown;have HC : Hid (Ch (fun x => x = R) w wr) := hch;have HAI : Hid (acc.length ≤ i) := hai;clear hat hrd hown hch hai;have hc1 := HRD.out.c1;by_cases hlt : i < x
  ·have hlti : (i : Int) < (x : Int) := by omega
   by_cases hf : f4 = 0
   ·subst hf;have HNX : Hid (KAt (keyS x l1) x (i + 1) (acc ++ [(Wm.take l4).1]) (numL l4) (numF l4 0)) := kat_step HAT.out hlt;obtain ⟨y, hy⟩ : ∃ y, y = (Wm.take l4).1 := ⟨_, rfl⟩;rw [← hy] at HNX;have HY : Hid (y = (Wm.take l4).1) := hy;clear hy;go_wp2_with fail;refine (number_walkM HRD.out).mono ?_;rw [← HY.out];rintro e w5 ⟨rfl, ⟨v5, hR5⟩, hC5⟩;have HR5 := hidH hR5;have HC5 : Hid (Ch (fun x => x = R) w w5) := HC.out.self hC5;have HO5 : Hid (w5.ownsRow w.heap.size 37 1 u4 acc.length ((ib acc).map (Value.int .u64))) := own_ch HO.out hC5 (fun x hx => by have := HRW.out; omega);have HLE : Hid (acc.length ≤ 64) := by have := HAI.out; have := HX64.out; show _ ≤ _; omega
    clear hR5 hC5 hc1 HRD HO HC;go_upto_region 6 with (at_builtin; refine wpList_append_sv (by rfl) (.tmp 25) (.tmp 28) 38 (by rfl) w.heap.size 37 .u64 8 Tryz.underlying38 info_u64M _ _ _ (by rfl) (HO5.out.alloc _) _ [_] (by rfl) (sv_one .u64 _ _ _) (by have := HLE.out; simp only [maxLen, List.length_singleton]; omega) (by have := HLE.out; simp only [List.length_singleton]; omega) (by rw [size_allocC]; have := HC5.out.size; omega) ?_; intro v6 w6 hown hgrow)
    have hg6 : Below w.heap.size w5 w6 := ((below_alloc w5 _).mono HC5.out.size).trans (grown_belowC (HO5.out.alloc _) hgrow (by rw [size_allocC]; have := HC5.out.size; omega));have hch6 : Ch (fun x => w.heap.size ≤ x) w5 w6 := ⟨hg6.os, hg6.tape, hg6.output, hg6.size, fun k hk hd => hg6.block k (by omega)⟩;have HR6 : Hid (RDM M w6 R v5 (numL l4) (numF l4 0)) := HR5.out.ch hch6 (by have := HRW.out; omega) (fun x hx => by have h1 := HMR.out; have h2 := HRW.out; omega);have HC6 : Hid (Ch (fun x => x = R) w w6) := HC5.out.trans hch6 (fun x hx => .inr hx)
    have HREL : Hid (KRel M R x l1 w v6 (.int .u64 ((i : Int) + 1)) w6) := ⟨i + 1, acc ++ [y], v5, _, _, rfl, hlt, by have := HAI.out; simp; omega, HNX.out, HR6.out, by
     rw [List.length_append, ib_append, List.map_append]; exact hown, HC6.out⟩
    clear hown hgrow hg6 hch6 HR6 HC6 HR5 HC5 HO5;go_wp2_with fail;go_roundw
    case rel => exact HREL.out
    case measure => simp [intOf]; omega
   ·have hf0 : ((f4 : Int) == 0) = false := by rw [beq_eq_false_iff_ne]; omega
    have HNE : Hid (f4 ≠ 0) := hf;clear hf;go_wp2_with fail;go_ret;refine ⟨_, _, acc, l4, f4, rfl, HO.out, HRD.out, HC.out, ?_⟩;rw [← HX.out, ← HFE.out, ← HL1.out];refine .inr ⟨HF0.out, .inr ⟨HNE.out, ?_⟩⟩;rcases HAT.out with ⟨q, _⟩ | ⟨_, q⟩
    ·exact absurd q HNE.out
    ·exact q
  ·have hlti : ¬ (i : Int) < (x : Int) := by omega
   obtain rfl : i = x := by omega
   go_wp2_with fail;go_ret;refine ⟨_, _, acc, l4, f4, rfl, HO.out, HRD.out, HC.out, ?_⟩;rw [← HX.out, ← HFE.out, ← HL1.out];refine .inr ⟨HF0.out, ?_⟩;rcases HAT.out with ⟨q, _, h2, h3⟩ | ⟨q1, q2⟩
   ·rw [Nat.sub_self] at h2 h3;simp only [keyS] at h2 h3;obtain ⟨a, b⟩ := h3 h2;exact .inl ⟨q, h2, by rw [a]; simp, b.symm⟩
   ·exact .inr ⟨q1, q2⟩
theorem keys_walkM {w : World} {R : Nat} {v : Value} {l : List Nat} {f : Nat} (h : RDM M w R v l f) (hM : M ≤ R) :
  Calls Tryz.prog 148 #[.pointer (some ⟨R, 0, none⟩)] w (KGot M R l f w) := by
 by_cases hf : lngF l f = 0
 ·exact keys_good h hM hf
 ·exact keys_bad h hM hf
end
end Go.Proofs.YtcmklbibehnloaaGreat
