/- awake. -/
import Derived.Test.YtcmklbibehnloaaGreatB34
set_option maxRecDepth 100000
set_option maxHeartbeats 16000000
namespace Go.Proofs.YtcmklbibehnloaaGreat
open Go.RowKit
def fsP : Bo := ⟨1, zer 7, 0, false⟩
def fsS : Dk := ⟨[1, 7, 0, 0, 0, 0, 0, 0, 0] :: List.replicate 15 [], false, -1, 0, 2⟩
theorem fs_form : formO (loadS (List.replicate 16 [])) 7 = (0, some fsP, fsS) := by rfl
theorem fs_iw : Iw fsP fsS (List.replicate 7 []) := by
 refine ⟨zer_ok (by omega) (by omega) (by show 2 + 2 * 7 ≤ 16; omega), rfl, rfl, by show 16 ≤ 64; omega, rfl, rfl, rfl, fun g t hg => ?_, fun p hp => .inl ⟨zer_tn 7 p, bk_rep 7 p⟩⟩;have : rootOf (bk fsS.bl (1 - fsP.home)) fsS.bl.length = none := rfl;rw [this] at hg; cases hg
def noS : List (List Cl) := List.replicate 6 []
theorem pgc_no (i : Nat) : pgc noS i = [] := by
 unfold pgc noS;rw [List.getD_eq_getElem?_getD, List.getElem?_replicate]
 split <;> rfl
theorem in_no (c : Cl) : ¬ InS noS c := by rintro ⟨i, _, h⟩; rw [pgc_no] at h; simp at h
theorem no_gk {k : Int} (hk : knownB k = true) : Gk k zeroM noS := by
 refine ⟨⟨rfl, by intro x hx; simp [zeroM] at hx, ⟨rfl, fun i _ c hc => ?_, fun i _ => ?_⟩, fun i _ => ?_⟩, hk, fun i j c d _ _ _ hc _ => ?_, fun c hc => absurd hc (in_no c), fun c hc => absurd hc (in_no c), fun c hc => absurd hc (in_no c)⟩
 ·rw [pgc_no] at hc; simp at hc
 ·rw [pgc_no]; simp
 ·rw [pgc_no]; rfl
 ·rw [pgc_no] at hc; simp at hc
theorem fs_put : ∃ P S, putO fsP fsS [(0, (encM zeroM).1)] = (0, P, S) ∧ Iw P S (pagesW zeroM noS) ∧ S.left = -1 ∧ cntS P S ≤ 12 ∧ S.bl.length = 16 := by
 have hL : Lok 7 [((0 : Int), (encM zeroM).1)] := ⟨fun p hp => by simp at hp; subst hp; simp, by simp, fun p hp => by simp at hp; subst hp; exact encM_short _⟩;rcases put_iw fs_iw hL (by simp) (by decide) with ⟨P, S, e, i, e2, e3, e4, e5, e6, e7, e8⟩ | ⟨S', e, _, _, q, _⟩
 ·refine ⟨P, S, e, i, e8 rfl, ?_, e7⟩;have h1 : cntN [((0 : Int), (encM zeroM).1)] ≤ [((0 : Int), (encM zeroM).1)].length := List.length_filter_le _ _;have h2 : fsS.wr = 2 := rfl;have h3 : fsS.rd = 0 := rfl;have h4 : fsP.gen = 1 := rfl;rw [h2] at e4;rw [h3] at e5;rw [h4] at e2;simp only [List.length_cons, List.length_nil] at h1;unfold cntS;omega
 ·exact absurd rfl q
theorem fs_fmt {k : Int} (hk : knownB k = true) : ∃ P S, fmtO k (loadS (List.replicate 16 [])) = (0, some P, S) ∧ Iw P S (pagesW zeroM noS) ∧ S.left = -1 ∧ cntS P S ≤ 12 ∧ S.bl.length = 16 := by
 obtain ⟨P, S, e, h⟩ := fs_put;refine ⟨P, S, ?_, h⟩;unfold fmtO;rw [if_neg (by rw [hk]; simp), fs_form];simp only [e];rw [if_neg (by simp)]
def FrGot (k : Int) (w : World) (e : Ending) (w' : World) : Prop :=
 ∃ A P S sp sb, e = .returned (.tuple #[.pointer (some ⟨sb, 0, none⟩), .pointer (some ⟨sp, 0, none⟩)]) ∧ RS A w' (.pointer (some ⟨sp, 0, none⟩)) (.pointer (some ⟨sb, 0, none⟩)) k P S zeroM noS ∧ (∀ x, A x → w.heap.size ≤ x) ∧ w.heap.size ≤ sp ∧ cntS P S ≤ 12 ∧ S.bl.length = 16 ∧ Below w.heap.size w w'
theorem fresh_walk {k : Int} (hk : knownB k = true) (w : World) : Calls Tryz.prog 29 #[.int .i64 k] w (FrGot k w) := by
 have HK : Hid (knownB k = true) := hk;clear hk;go_in;go_wp2_with fail;refine (new_walk (n := 16) (by omega) (by omega)).mono ?_;rintro e w1 ⟨dv, D1, rfl, hD1, hB1, hx1⟩;have HB1 : Hid (Below w.heap.size w w1 ∧ ∀ x, D1 x → w.heap.size ≤ x) := ⟨hB1, hx1⟩;obtain ⟨sb, hsb⟩ : ∃ sb, dv = .pointer (some ⟨sb, 0, none⟩) := by obtain ⟨sb, _, _, e, _⟩ := hD1; exact ⟨sb, e⟩
 subst hsb;have HD1 := hidH hD1;clear hD1 hB1 hx1;go_wp2_with fail;refine (sformat_walk HD1.out k (by show (0 : Nat) < _; omega)).mono ?_;obtain ⟨P, S, hF, hI, hl, hc, hbl⟩ := fs_fmt HK.out;unfold FtGot;rw [hF];rintro e w2 ⟨v, rfl, _, hso, hC2⟩;obtain ⟨A2, sp, rfl, hsp, hK2, hx2⟩ := hso _ rfl
 have HA2 : Hid (∀ x, A2 x → w.heap.size ≤ x) := fun x hx => by
  rcases hx2 x hx with q | q
  ·exact HB1.out.2 x q
  ·exact Nat.le_trans HB1.out.1.size q
 have HSP : Hid (w.heap.size ≤ sp) := Nat.le_trans HB1.out.1.size hsp;have HB2 : Hid (Below w.heap.size w w2) := HB1.out.1.trans (hC2.to_below HB1.out.1.size HB1.out.2);have HR : Hid (RS A2 w2 (.pointer (some ⟨sp, 0, none⟩)) (.pointer (some ⟨sb, 0, none⟩)) k P S zeroM noS) := ⟨hK2, hI, no_gk HK.out, hl⟩;have HN : Hid (cntS P S ≤ 12 ∧ S.bl.length = 16) := ⟨hc, hbl⟩;clear hso hK2 hx2 hC2 hF hI hl hc hbl hsp;go_wp2_with fail;go_ret2;exact ⟨A2, P, S, sp, sb, rfl, HR.out, HA2.out, HSP.out, HN.out.1, HN.out.2, HB2.out⟩
theorem kv_get {w : World} {ao : Option Addr} {n cap : Nat} {l : List Nat} (h : Kv w (.slice ao n cap) l) {i : Nat} (hi : i < l.length) : ∃ b off, ao = some ⟨b, off, none⟩ ∧ w.cell? ⟨b, off + i, none⟩ = some (.int .u64 (l[i] : Int)) := by
 obtain ⟨ao', cap', e, _, _, _, h4⟩ := h
 cases e
 obtain ⟨b, off, e1, e2⟩ := h4 i (by rw [ib_len]; exact hi);refine ⟨b, off, e1, ?_⟩;rw [e2];simp [ib, hi]
theorem images_lenS {w : World} {a b : Value} {la lb : List (List Nat)} (ha : PvD w a la) (hb : PvD w b lb) (hn : la.length ≠ lb.length) :
  Calls Tryz.prog 21 #[a, b] w fun e w' => e = .returned (.bool (decide (la = lb))) ∧ Below w.heap.size w w' := by
 have he : decide (la = lb) = false := decide_eq_false (fun e => hn (by rw [e]));rw [he];obtain ⟨ao, ca, rfl, _, _⟩ := ha.form;obtain ⟨bo, cb, rfl, _, _⟩ := hb.form;have hne : ((la.length : Int) == (lb.length : Int)) = false := by simp; omega
 have hne2 : (la.length : Int) ≠ (lb.length : Int) := by omega
 clear ha hb hn he;go_in;go_wp2_with fail;go_ret;exact ⟨rfl, below_same _⟩
theorem images_noneS {w : World} {ao bo : Option Addr} {ca cb : Nat} :
  Calls Tryz.prog 21 #[.slice ao 0 ca, .slice bo 0 cb] w fun e w' => e = .returned (.bool true) ∧ Below w.heap.size w w' := by
 go_in;go_wp2_with fail;refine wp_loop_rounds 1 ?_;rw [rounds_succ];go_wp2_with fail;go_ret;exact ⟨rfl, below_same _⟩
def ImRelS (la lb : List (List Nat)) (w : World) (iv : Value) (wr : World) : Prop :=
 ∃ k : Nat, k ≤ la.length ∧ iv = .int .i64 k ∧ (∀ i, i < k → bk la i = bk lb i) ∧ Below w.heap.size w wr
theorem images_someS {w : World} {la lb : List (List Nat)} {b1 o1 c1 b2 o2 c2 n : Nat} (hna : la.length = n) (hnb : lb.length = n) (hm : n ≤ maxLen)
  (ha : ∀ i, i < n → ∃ u, w.cell? ⟨b1, o1 + i, none⟩ = some u ∧ Bv w u (bk la i)) (hb : ∀ i, i < n → ∃ u, w.cell? ⟨b2, o2 + i, none⟩ = some u ∧ Bv w u (bk lb i)) :
  Calls Tryz.prog 21 #[.slice (some ⟨b1, o1, none⟩) n c1, .slice (some ⟨b2, o2, none⟩) n c2] w fun e w' => e = .returned (.bool (decide (la = lb))) ∧ Below w.heap.size w w' := by
 have HA : Hid (∀ i, i < n → ∃ u, w.cell? ⟨b1, o1 + i, none⟩ = some u ∧ Bv w u (bk la i)) := ha;have HB : Hid (∀ i, i < n → ∃ u, w.cell? ⟨b2, o2 + i, none⟩ = some u ∧ Bv w u (bk lb i)) := hb;have HNA : Hid (la.length = n) := hna;have HNB : Hid (lb.length = n) := hnb;have hni : (n : Int) ≤ 9223372036854775807 := by simp only [maxLen] at hm; omega
 obtain ⟨A, hA⟩ : ∃ A, A = decide (la = lb) := ⟨_, rfl⟩;rw [← hA];have HAA : Hid (A = decide (la = lb)) := hA;clear ha hb hna hnb hm hA;go_in;go_wp2_with fail;go_loopw [5] (fun iv wr => ImRelS la lb w iv wr) (fun iv _ => n - (intOf iv).toNat)
 case atStart => exact ⟨0, Nat.zero_le _, rfl, fun i hi => by omega, below_same _⟩
 case round =>
  obtain ⟨k, hk, rfl, heq, hbel⟩ := hrel;have hkn : k ≤ n := by rw [← HNA.out]; exact hk
  have HEQ : Hid (∀ i, i < k → bk la i = bk lb i) := heq;clear heq hk;by_cases hlt : k < n
  ·obtain ⟨u1, hu1, hv1⟩ := HA.out k hlt;obtain ⟨u2, hu2, hv2⟩ := HB.out k hlt;obtain ⟨p1, hp1⟩ : ∃ p, bk la k = p := ⟨_, rfl⟩;obtain ⟨p2, hp2⟩ : ∃ p, bk lb k = p := ⟨_, rfl⟩;rw [hp1] at hv1;rw [hp2] at hv2;have HP1 : Hid (bk la k = p1) := hp1;have HP2 : Hid (bk lb k = p2) := hp2;clear hp1 hp2;have hw1 := hv1.below hbel;have hw2 := hv2.below hbel;obtain ⟨a1, d1, rfl, _⟩ := bv_formD hv1;obtain ⟨a2, d2, rfl, _⟩ := bv_formD hv2
   have j1 : ∀ wx, Below wr.heap.size wr wx → wx.cell? ⟨b1, o1 + k, none⟩ = some (.slice a1 p1.length d1) := fun wx h => by
    rw [(below_trans hbel h).cell (p := ⟨b1, o1 + k, none⟩) (cell_lt hu1)]; exact hu1
   have j2 : ∀ wx, Below wr.heap.size wr wx → wx.cell? ⟨b2, o2 + k, none⟩ = some (.slice a2 p2.length d2) := fun wx h => by
    rw [(below_trans hbel h).cell (p := ⟨b2, o2 + k, none⟩) (cell_lt hu2)]; exact hu2
   have s1 : ∀ wx, Below wr.heap.size wr wx → (convert 78 9 (.slice a1 p1.length d1)).run Tryz.prog wx = .ok (.string (str p1)) wx := fun wx h => str_of (hw1.below h);have s2 : ∀ wx, Below wr.heap.size wr wx → (convert 78 9 (.slice a2 p2.length d2)).run Tryz.prog wx = .ok (.string (str p2)) wx := fun wx h => str_of (hw2.below h);have hSd : Below wr.heap.size wr wr.drew := (Below.refl _ _).drew;have HBE := hidH hbel;have HB1 : Hid (∀ c ∈ p1, c < 256) := hv1.2;have HB2 : Hid (∀ c ∈ p2, c < 256) := hv2.2;clear hv1 hv2 hw1 hw2 hu1 hu2 hbel;by_cases hpp : p1 = p2
   ·subst hpp
    have HR : Hid (∀ wx, Below wr.heap.size wr wx → ImRelS la lb w (.int .i64 ((k : Int) + 1)) wx) := fun wx h =>
     ⟨k + 1, by rw [HNA.out]; exact hlt, rfl, fun i hi => (by
      by_cases e : i = k
      ·subst e; rw [HP1.out, HP2.out]
      ·exact HEQ.out i (by omega)), below_trans HBE.out h⟩
    go_wp2_with fail;go_region_held3 (fun wx => Below wr.heap.size wr wx) (first | assumption) (fail);all_goals go_wp2_with fail
    all_goals go_roundw
    case rel => exact HR.out _ (by assumption)
    case measure => simp [intOf]; omega
   ·have hne : ((str p1).toList == (str p2).toList) = false := by rw [str_beq HB1.out HB2.out]; exact decide_eq_false hpp
    have HF : Hid (A = false) := by
     show _ = _;rw [HAA.out];exact decide_eq_false (fun e => hpp (by rw [← HP1.out, ← HP2.out, e]))
    clear hpp;go_wp2_with fail;go_region_held3 (fun wx => Below wr.heap.size wr wx) (first | assumption) (fail);all_goals go_wp2_with fail
    all_goals (try simp only [Exit.inBlock, Exit.then])
    all_goals go_ret
    all_goals exact ⟨by rw [HF.out]; rfl, below_trans HBE.out (by assumption)⟩
  ·obtain rfl : k = n := by omega
   have HT : Hid (A = true) := by
    show _ = _;rw [HAA.out];exact decide_eq_true (bk_ext (by rw [HNA.out, HNB.out]) (fun i hi => HEQ.out i (by rw [HNA.out] at hi; exact hi)))
   go_wp2_with fail;go_ret;exact ⟨by rw [HT.out]; rfl, hbel⟩
theorem images_walkS {w : World} {a b : Value} {la lb : List (List Nat)} (ha : PvD w a la) (hb : PvD w b lb) :
  Calls Tryz.prog 21 #[a, b] w fun e w' => e = .returned (.bool (decide (la = lb))) ∧ Below w.heap.size w w' := by
 by_cases hn : la.length = lb.length
 ·obtain ⟨ao, ca, rfl, q1, q2, q3, q4⟩ := ha;obtain ⟨bo, cb, rfl, r1, r2, r3, r4⟩ := hb;by_cases h0 : la.length = 0
  ·have e1 : la = [] := List.eq_nil_of_length_eq_zero h0;have e2 : lb = [] := List.eq_nil_of_length_eq_zero (by omega);subst e1; subst e2;exact images_noneS
  ·obtain ⟨b1, o1, _, rfl, _, _⟩ := q4 0 (by omega);obtain ⟨b2, o2, _, rfl, _, _⟩ := r4 0 (by omega);rw [← hn];refine images_someS rfl hn.symm (by omega) (fun i hi => ?_) fun i hi => ?_
   ·obtain ⟨_, _, u, e1, e2, e3⟩ := q4 i hi
    cases e1
    exact ⟨u, e2, e3⟩
   ·obtain ⟨_, _, u, e1, e2, e3⟩ := r4 i (by omega)
    cases e1
    exact ⟨u, e2, e3⟩
 ·exact images_lenS ha hb hn
theorem some_walkS (b : Nat) (w : World) : Calls Tryz.prog 35 #[.int .u64 b] w fun e w' => e = .returned (.agg #[.bool true, .int .u64 b]) ∧ Below w.heap.size w w' := by
 go_in;go_wp2_with fail;refine bodyPost_ret (v := .agg #[.bool true, .int .u64 b]) (by simp [results, Tryz.results35, go_sem]) rfl ⟨rfl, below_alloc _ _⟩
theorem pair_walkS (k b : Nat) (w : World) : Calls Tryz.prog 32 #[.int .u64 k, .int .u64 b] w fun e w' => e = .returned (.agg #[.int .u64 k, .bool true, .int .u64 b]) ∧ Below w.heap.size w w' := by
 go_in;go_wp2_with fail;have c0 : (w.alloc (Obj.cells #[.int .u64 0, .bool false, .int .u64 0] 62)).cell? ⟨w.heap.size, 0, none⟩ = some (.int .u64 0) := by simp [go_sem]
 have c1 : (w.alloc (Obj.cells #[.int .u64 0, .bool false, .int .u64 0] 62)).cell? ⟨w.heap.size, 1, none⟩ = some (.bool false) := by simp [go_sem]
 have c2 : (w.alloc (Obj.cells #[.int .u64 0, .bool false, .int .u64 0] 62)).cell? ⟨w.heap.size, 2, none⟩ = some (.int .u64 0) := by simp [go_sem]
 have z0 : ∀ j, (w.alloc (Obj.cells #[.int .u64 0, .bool false, .int .u64 0] 62)).frozen? ⟨w.heap.size, j, none⟩ = false := by intro j; simp [go_sem]
 have HB0 : Hid (Below w.heap.size w (w.alloc (Obj.cells #[.int .u64 0, .bool false, .int .u64 0] 62))) := below_alloc _ _;generalize w.alloc (Obj.cells #[.int .u64 0, .bool false, .int .u64 0] 62) = w0 at HB0 c0 c1 c2 z0 ⊢;refine (some_walkS b w0).mono ?_;rintro e w1 ⟨rfl, hB1⟩;have d0 : w1.cell? ⟨w.heap.size, 0, none⟩ = some (.int .u64 0) := by rw [hB1.cell (p := ⟨w.heap.size, 0, none⟩) (cell_lt c0)]; exact c0
 have d1 : w1.cell? ⟨w.heap.size, 1, none⟩ = some (.bool false) := by rw [hB1.cell (p := ⟨w.heap.size, 1, none⟩) (cell_lt c1)]; exact c1
 have d2 : w1.cell? ⟨w.heap.size, 2, none⟩ = some (.int .u64 0) := by rw [hB1.cell (p := ⟨w.heap.size, 2, none⟩) (cell_lt c2)]; exact c2
 have y0 : w1.frozen? ⟨w.heap.size, 0, none⟩ = false := by rw [hB1.frozen (p := ⟨w.heap.size, 0, none⟩) (cell_lt c0)]; exact z0 0
 have y1 : w1.frozen? ⟨w.heap.size, 1, none⟩ = false := by rw [hB1.frozen (p := ⟨w.heap.size, 1, none⟩) (cell_lt c1)]; exact z0 1
 have y2 : w1.frozen? ⟨w.heap.size, 2, none⟩ = false := by rw [hB1.frozen (p := ⟨w.heap.size, 2, none⟩) (cell_lt c2)]; exact z0 2
 have HB1 := hidH (below_trans HB0.out hB1);clear hB1 c0 c1 c2 z0;obtain ⟨R, hR⟩ : ∃ R, R = w.heap.size := ⟨_, rfl⟩;have HR : Hid (R = w.heap.size) := hR;rw [← hR] at d0 d1 d2 y0 y1 y2 ⊢;clear hR;go_wp2_with fail;refine bodyPost_ret (v := .agg #[.int .u64 k, .bool true, .int .u64 b]) (by simp [results, Tryz.results32, go_sem, d0, d1, d2]) rfl ⟨rfl, ?_⟩;rw [← HR.out];have h := HB1.out;rw [← HR.out] at h;exact ((h.setCell (Nat.le_refl _) _).setCell (Nat.le_refl _) _).setCell (Nat.le_refl _) _
theorem marks_same {w : World} {av bv : Value} {ks : List Nat} (ha : Kv w av ks) (hb : Kv w bv ks) (b a : Int) :
  Calls Tryz.prog 36 #[.agg #[.int .i64 b, .int .i64 a, av], .agg #[.int .i64 b, .int .i64 a, bv]] w fun e w' => e = .returned (.bool true) ∧ Below w.heap.size w w' := by
 obtain ⟨aa, ac, rfl, al, am⟩ := kv_form ha;obtain ⟨ba, bc, rfl, bl, bm⟩ := kv_form hb;obtain ⟨n, hn⟩ : ∃ n, n = ks.length := ⟨_, rfl⟩;rw [← hn] at ha hb al ⊢;have HN : Hid (n = ks.length) := hn;have hni : (n : Int) ≤ 9223372036854775807 := by simp only [maxLen] at am; omega
 have HB0 : Hid (Below w.heap.size w ((w.alloc (Obj.cells #[.int .i64 b, .int .i64 a, .slice aa n ac] 65)).alloc (Obj.cells #[.int .i64 b, .int .i64 a, .slice ba n bc] 65))) := below_trans (below_alloc _ _) (below_alloc _ _);have HA : Hid (Kv ((w.alloc (Obj.cells #[.int .i64 b, .int .i64 a, .slice aa n ac] 65)).alloc (Obj.cells #[.int .i64 b, .int .i64 a, .slice ba n bc] 65)) (.slice aa n ac) ks) := ha.below HB0.out;have HB : Hid (Kv ((w.alloc (Obj.cells #[.int .i64 b, .int .i64 a, .slice aa n ac] 65)).alloc (Obj.cells #[.int .i64 b, .int .i64 a, .slice ba n bc] 65)) (.slice ba n bc) ks) := hb.below HB0.out;have HM1 : Hid (MB ((w.alloc (Obj.cells #[.int .i64 b, .int .i64 a, .slice aa n ac] 65)).alloc (Obj.cells #[.int .i64 b, .int .i64 a, .slice ba n bc] 65)) w.heap.size b a (.slice aa n ac)) := (mb_new w b a (.slice aa n ac)).keep (below_alloc _ _)
 have HM2 : Hid (MB ((w.alloc (Obj.cells #[.int .i64 b, .int .i64 a, .slice aa n ac] 65)).alloc (Obj.cells #[.int .i64 b, .int .i64 a, .slice ba n bc] 65)) (w.heap.size + 1) b a (.slice ba n bc)) := by
  have h := mb_new (w.alloc (Obj.cells #[.int .i64 b, .int .i64 a, .slice aa n ac] 65)) b a (.slice ba n bc);rwa [size_allocC] at h
 clear ha hb hn al am bl bm;go_in;go_upto_region 1 with fail
 obtain ⟨R, hR⟩ : ∃ R, R = w.heap.size := ⟨_, rfl⟩;obtain ⟨T, hT⟩ : ∃ T, T = w.heap.size + 1 := ⟨_, rfl⟩;rw [← hT] at HM2 ⊢;rw [← hR] at HM1 ⊢;generalize (w.alloc (Obj.cells #[.int .i64 b, .int .i64 a, .slice aa n ac] 65)).alloc (Obj.cells #[.int .i64 b, .int .i64 a, .slice ba n bc] 65) = w0 at HB0 HA HB HM1 HM2 ⊢;clear hR hT;obtain ⟨c0, c1, c2, _⟩ := HM1.out;obtain ⟨d0, d1, d2, _⟩ := HM2.out;have hbb : (b != b) = false := by simp
 have haa : (a != a) = false := by simp
 go_wp2_with fail;go_loopw [5] (fun iv wr => ∃ i : Nat, iv = .int .i64 i ∧ i ≤ n ∧ Below w0.heap.size w0 wr) (fun iv _ => n - (intOf iv).toNat)
 case atStart => exact ⟨0, rfl, by omega, Below.refl _ _⟩
 case round =>
  obtain ⟨i, rfl, hin, hB⟩ := hrel;have HW := hidH hB;have k2 : wr.cell? ⟨R, 2, none⟩ = some (.slice aa n ac) := by rw [hB.cell (p := ⟨R, 2, none⟩) (cell_lt c2)]; exact c2
  have l2 : wr.cell? ⟨T, 2, none⟩ = some (.slice ba n bc) := by rw [hB.cell (p := ⟨T, 2, none⟩) (cell_lt d2)]; exact d2
  clear hB c0 c1 c2 d0 d1 d2;by_cases hlt : i < n
  ·have hlti : (i : Int) < (n : Int) := by omega
   have hlk : i < ks.length := by rw [← HN.out]; exact hlt
   obtain ⟨p, po, hp, m0⟩ := kv_get (HA.out.below HW.out) hlk;obtain ⟨q, qo, hq, m1⟩ := kv_get (HB.out.below HW.out) hlk;subst hp hq;obtain ⟨x, hx⟩ : ∃ x, x = ks[i] := ⟨_, rfl⟩;rw [← hx] at m0 m1;have hne : ((x : Int) != (x : Int)) = false := by simp
   clear hx;go_wp2_with fail;go_quiet (fail);go_wp2_with fail;go_roundw
   case rel => exact ⟨i + 1, by go_num, by omega, below_trans HW.out (below_drewN _ _)⟩
   case measure => simp [intOf]; omega
  ·have hlti : ¬ (i : Int) < (n : Int) := by omega
   go_wp2_with fail;go_ret;exact ⟨rfl, below_trans HB0.out HW.out⟩
section
theorem kv_2 (w : World) (x y : Nat) : Kv (w.alloc (Obj.cells #[.int .u64 (x : Int), .int .u64 (y : Int)] 37)) (.slice (some ⟨w.heap.size, 0, none⟩) 2 2) [x, y] := by
 refine ⟨_, 2, rfl, Nat.le_refl _, by simp [maxLen], by simp, fun i hi => ?_⟩;have h : i = 0 ∨ i = 1 := by simp [ib] at hi; omega
 rcases h with rfl | rfl <;> exact ⟨w.heap.size, 0, rfl, by simp [go_sem, ib]⟩
theorem kv_1 (w : World) (x : Nat) : Kv (w.alloc (Obj.cells #[.int .u64 (x : Int)] 37)) (.slice (some ⟨w.heap.size, 0, none⟩) 1 1) [x] := by
 refine ⟨_, 1, rfl, Nat.le_refl _, by simp [maxLen], by simp, fun i hi => ?_⟩;have h : i = 0 := by simp [ib] at hi; omega
 subst h;exact ⟨w.heap.size, 0, rfl, by simp [go_sem, ib]⟩
theorem qv_1 (w : World) (p : Pr) (hp : p.ok) : Qv (w.alloc (Obj.cells #[.int .u64 p.k, .bool p.v.h, .int .u64 p.v.b] 62)) (.slice (some ⟨w.heap.size, 0, none⟩) 1 1) [p] := by
 refine ⟨⟨_, 1, rfl, Nat.le_refl _, by simp [maxLen], by simp, fun i hi => ?_⟩, fun o ho => by simp at ho; subst ho; exact hp⟩;have h : i = 0 := by simp at hi; omega
 subst h;exact ⟨w.heap.size, 0, rfl, by simp [go_sem], by simp [go_sem], by simp [go_sem]⟩
theorem qv_0 (w : World) : Qv w (.slice none 0 0) [] := ⟨⟨none, 0, rfl, Nat.le_refl _, by simp [maxLen], fun _ => rfl, fun i hi => by simp at hi⟩, by simp⟩
def awT : List Pr := [⟨2, ⟨true, 3⟩⟩]
def awL : List (List Cl) := [[⟨2, noV, ⟨true, 3⟩, 1⟩], [], [], [], [], []]
theorem aw_beg : begS noS zeroM 1 = noS := rfl
theorem aw_app : appA 1 1 noS awT = (0, awL) := by rfl
theorem aw_revS : begS awL ⟨1, 4, [2, 9]⟩ 1 = noS := by rfl
theorem aw_q1 : shRes awL 2 1 = ⟨true, 3⟩ := by rfl
theorem aw_q0 : shRes awL 2 0 = ⟨false, 0⟩ := by rfl
theorem aw_q2 : shRes noS 2 1 = ⟨false, 0⟩ := by rfl
theorem aw_ta : Ta 1 ⟨1, 4, [2, 9]⟩ awT := by
 refine ⟨by simp [awT, Rise], fun p hp => ?_⟩;simp [awT] at hp;subst hp;exact ⟨by simp, by decide, by show (3 : Nat) < _; decide, rfl, rfl⟩
theorem aw_fen : apE ⟨1, 4, [2, 9]⟩ 1 1 3 awL [] = some 130 := by rfl
theorem low_no : Low noS := fun c hc => absurd hc (in_no c)
theorem used_no {P : Bo} {S : Dk} {m : Mk} (hm : soundBM m = true) (h : Iw P S (pagesW m noS)) : usedN P.tab = 1 := by
 have h0 : tn P.tab 0 ≠ 0 := by
  rcases h.pg 0 (by omega) with ⟨_, b⟩ | ⟨a, _⟩
  ·rw [bk_zero] at b; exact absurd b (encM_ne hm)
  ·exact a
 have hz : ∀ i, i < 6 → tn P.tab (i + 1) = 0 := fun i hi => by
  rcases h.pg (i + 1) (by omega) with ⟨a, _⟩ | ⟨_, _, c⟩
  ·exact a
  ·rw [bk_succ, pgc_no] at c; exact absurd rfl c
 have hl := h.n8
 have e : ∀ k, k ≤ 6 → usedN (P.tab.take (k + 1)) = 1 := by
  intro k
  induction k with
  | zero =>
   intro _;rw [used_take (by omega), if_neg h0];rfl
  | succ k ih =>
   intro hk;rw [used_take (by omega), ih (by omega), if_pos (hz k (by omega))]
 have := e 6 (Nat.le_refl _);rwa [List.take_of_length_le (by omega)] at this
theorem flat_no {d : List Cl} (h : SrtOf noS.flatten d) : d = [] := by
 have : noS.flatten = [] := rfl;rw [this] at h;exact List.Perm.eq_nil h.1
structure AwS (w0 : World) (A : Nat → Prop) (P : Bo) (S : Dk) (sp sb T5 T7 T11 T13 : Nat) (kv : Value) (w : World) : Prop where
 bb : Below w0.heap.size w0 w
 rs : RS A w (.pointer (some ⟨sp, 0, none⟩)) (.pointer (some ⟨sb, 0, none⟩)) 1 P S ⟨1, 6, [9]⟩ noS
 a5 : w.cell? ⟨T5, 0, none⟩ = some (.bool true)
 b5 : w.cell? ⟨T5, 1, none⟩ = some (.int .u64 3)
 a7 : w.cell? ⟨T7, 0, none⟩ = some (.bool false)
 b7 : w.cell? ⟨T7, 1, none⟩ = some (.int .u64 0)
 a11 : w.cell? ⟨T11, 0, none⟩ = some (.bool false)
 b11 : w.cell? ⟨T11, 1, none⟩ = some (.int .u64 0)
 m0 : w.cell? ⟨T13, 0, none⟩ = some (.int .i64 1)
 m1 : w.cell? ⟨T13, 1, none⟩ = some (.int .i64 6)
 m2 : w.cell? ⟨T13, 2, none⟩ = some kv
 kvs : Kv w kv [9]
theorem AwS.below {A : Nat → Prop} {P : Bo} {S : Dk} {sp sb T5 T7 T11 T13 : Nat} {kv : Value} {w0 w w' : World} (h : AwS w0 A P S sp sb T5 T7 T11 T13 kv w) (hb : Below w.heap.size w w') : AwS w0 A P S sp sb T5 T7 T11 T13 kv w' :=
 ⟨below_trans h.bb hb, h.rs.below hb, by rw [hb.cell (p := ⟨T5, 0, none⟩) (cell_lt h.a5)]; exact h.a5, by rw [hb.cell (p := ⟨T5, 1, none⟩) (cell_lt h.b5)]; exact h.b5, by rw [hb.cell (p := ⟨T7, 0, none⟩) (cell_lt h.a7)]; exact h.a7, by rw [hb.cell (p := ⟨T7, 1, none⟩) (cell_lt h.b7)]; exact h.b7, by rw [hb.cell (p := ⟨T11, 0, none⟩) (cell_lt h.a11)]; exact h.a11, by rw [hb.cell (p := ⟨T11, 1, none⟩) (cell_lt h.b11)]; exact h.b11, by rw [hb.cell (p := ⟨T13, 0, none⟩) (cell_lt h.m0)]; exact h.m0, by rw [hb.cell (p := ⟨T13, 1, none⟩) (cell_lt h.m1)]; exact h.m1, by rw [hb.cell (p := ⟨T13, 2, none⟩) (cell_lt h.m2)]; exact h.m2, h.kvs.below hb⟩
section

variable {w0 w : World} {A : Nat → Prop} {P : Bo} {S : Dk} {sp sb T5 T7 T11 T13 : Nat} {kv : Value}

theorem aw_held (h : AwS w0 A P S sp sb T5 T7 T11 T13 kv w) : w.cell? ⟨T5, 0, none⟩ = some (.bool true) ∧ w.cell? ⟨T5, 1, none⟩ = some (.int .u64 3) ∧ w.cell? ⟨T7, 0, none⟩ = some (.bool false) ∧ w.cell? ⟨T7, 1, none⟩ = some (.int .u64 0) ∧ w.cell? ⟨T11, 0, none⟩ = some (.bool false) ∧ w.cell? ⟨T11, 1, none⟩ = some (.int .u64 0) ∧ w.cell? ⟨T13, 0, none⟩ = some (.int .i64 1) ∧ w.cell? ⟨T13, 1, none⟩ = some (.int .i64 6) ∧ w.cell? ⟨T13, 2, none⟩ = some kv ∧ Hid (AwS w0 A P S sp sb T5 T7 T11 T13 kv w) :=
 ⟨h.a5, h.b5, h.a7, h.b7, h.a11, h.b11, h.m0, h.m1, h.m2, h⟩
theorem aw_used (h : AwS w0 A P S sp sb T5 T7 T11 T13 kv w) : Calls Tryz.prog 37 #[.pointer (some ⟨sp, 0, none⟩)] w fun e w' => e = .returned (.int .i64 1) ∧ w' = w := by
 have hu := used_no (m := ⟨1, 6, [9]⟩) rfl h.rs.iw;have c := sused_walk h.rs.st;rw [hu] at c;exact c
theorem aw_ended (h : AwS w0 A P S sp sb T5 T7 T11 T13 kv w) : Calls Tryz.prog 38 #[.pointer (some ⟨sp, 0, none⟩)] w fun e w' => e = .returned (.bool false) ∧ w' = w := by
 have c := sended_walk h.rs.st;rw [h.rs.iw.ov] at c;exact c
end
end
end Go.Proofs.YtcmklbibehnloaaGreat
