/- The reader's cell against the mathematics: its fault is the first, and without one its answer is the cell. -/
import Derived.Test.YtcmklbibehnloaaGreatB11
set_option maxRecDepth 100000
set_option maxHeartbeats 16000000
namespace Go.Proofs.YtcmklbibehnloaaGreat
open Go.RowKit
section
variable {M : Nat}

theorem CB.ch {D : Nat → Prop} {w w' : World} {b : Nat} {c : Cl} (h : CB w b c) (hc : Ch D w w') (hd : ¬ D b) : CB w' b c :=
 ⟨hc.cell h.c0 hd, hc.cell h.c1 hd, hc.cell h.c2 hd, hc.cell h.c3 hd, hc.cell h.c4 hd, hc.cell h.c5 hd, fun j => by rw [hc.frozen h.c0 hd]; exact h.z j⟩
theorem CB.setP {w : World} {b : Nat} {c : Cl} (h : CB w b c) (v : Vl) : CB ((w.setCell ⟨b, 1, none⟩ (.bool v.h)).setCell ⟨b, 2, none⟩ (.int .u64 v.b)) b ⟨c.k, v, c.c, c.n⟩ := by
 obtain ⟨c0, c1, c2, c3, c4, c5, z⟩ := h;constructor <;> simp [go_sem, *]
theorem CB.setC {w : World} {b : Nat} {c : Cl} (h : CB w b c) (v : Vl) : CB ((w.setCell ⟨b, 3, none⟩ (.bool v.h)).setCell ⟨b, 4, none⟩ (.int .u64 v.b)) b ⟨c.k, c.p, v, c.n⟩ := by
 obtain ⟨c0, c1, c2, c3, c4, c5, z⟩ := h;constructor <;> simp [go_sem, *]
theorem CB.setN {w : World} {b : Nat} {c : Cl} (h : CB w b c) (n : Int) : CB (w.setCell ⟨b, 5, none⟩ (.int .i64 n)) b ⟨c.k, c.p, c.c, n⟩ := by
 obtain ⟨c0, c1, c2, c3, c4, c5, z⟩ := h;constructor <;> simp [go_sem, *]
theorem RD.set2 {w : World} {R B i j : Nat} {v : Value} {l : List Nat} {f : Nat} {u1 u2 : Value} (h : RD M w R v l f) (hne : B ≠ R) (h1 : w.cell? ⟨B, i, none⟩ = some u1) (h2 : w.cell? ⟨B, j, none⟩ = some u2) (hij : i ≠ j) (n1 : ∀ x, u1 ≠ .int .u8 x) (n2 : ∀ x, u2 ≠ .int .u8 x) (x y : Value) :
  RD M ((w.setCell ⟨B, i, none⟩ x).setCell ⟨B, j, none⟩ y) R v l f :=
 (h.setB hne h1 n1 _).setB hne (by rw [World.cell?_setCell_other _ _ _ _ (by rintro ⟨⟩; exact hij rfl)]; exact h2) n2 _
theorem and_1 (h : Nat) (hh : h < 256) : bits .and .u8 (h : Int) 1 = ((h % 2 : Nat) : Int) := by
 have := u8_and_nat h 1 hh (by omega);simpa [Nat.and_one_is_mod] using this
theorem and_2f : ∀ a : Fin 256, a.val &&& 2 = a.val / 2 % 2 * 2 := by decide +kernel
theorem and_2 (h : Nat) (hh : h < 256) : bits .and .u8 (h : Int) 2 = ((h / 2 % 2 * 2 : Nat) : Int) := by
 have := u8_and_nat h 2 hh (by omega);have e := and_2f ⟨h, hh⟩;simp only at e;rw [e] at this;simpa using this
def celP (l : List Nat) : Bool := decide (hasX (numL l) % 2 = 1)
def celQ (l : List Nat) : Bool := decide (hasX (numL l) / 2 % 2 = 1)
def celL1 (l : List Nat) : List Nat := hasL (numL l)
def celL2 (l : List Nat) : List Nat := valL (celP l) (celL1 l)
def celL3 (l : List Nat) : List Nat := valL (celQ l) (celL2 l)
def celX (l : List Nat) : Cl := ⟨(Wm.take l).1, valX (celP l) (celL1 l), valX (celQ l) (celL2 l), IntKind.i64.wrap ((Wm.take (celL3 l)).1 : Nat)⟩
def celF (o : Option Nat) (l : List Nat) (f : Nat) : Nat :=
 refu (decide (1099511627776 < (Wm.take (celL3 l)).1)) 4 (numF (celL3 l) (valFB (celQ l) (celL2 l) (valFB (celP l) (celL1 l) (hasF (numL l) (refu (!folB o (Wm.take l).1) 7 (numF l f))))))
theorem cell_walk {w : World} {R : Nat} {v va : Value} {l : List Nat} {f : Nat} {q : List Cl} (h : RD M w R v l f) (hq : ∀ w', Ch (fun x => x = R) w w' → Cv w' va q) :
  Calls Tryz.prog 167 #[.pointer (some ⟨R, 0, none⟩), va] w fun e w' => e = .returned (.agg #[.int .u64 (celX l).k, .bool (celX l).p.h, .int .u64 (celX l).p.b, .bool (celX l).c.h, .int .u64 (celX l).c.b, .int .i64 (celX l).n]) ∧ (∃ v', RD M w' R v' (numL (celL3 l)) (celF (lastK q) l f)) ∧ Ch (fun x => x = R) w w' := by
 obtain ⟨w0, hw0⟩ : ∃ w0, w0 = w.alloc (Obj.cells #[.int .u64 0, .bool false, .int .u64 0, .bool false, .int .u64 0, .int .i64 0] 114) := ⟨_, rfl⟩;have HB0 : Hid (Below w.heap.size w w0) := by show Below _ _ _; rw [hw0]; exact below_alloc _ _
 have HZ0 : Hid (CB w0 w.heap.size zeroC) := by show CB _ _ _; rw [hw0]; exact cb_new w zeroC
 have HR0 : Hid (RD M w0 R v l f) := h.below HB0.out;have HNR : Hid (R < w.heap.size) := cell_lt h.c0;have HQ : Hid (∀ w', Ch (fun x => x = R) w w' → Cv w' va q) := hq;have hl256 : ∀ x ∈ l, x < 256 := h.bv.2;obtain ⟨K, hK⟩ : ∃ K, K = (Wm.take l).1 := ⟨_, rfl⟩;obtain ⟨l1, hl1⟩ : ∃ l1, l1 = numL l := ⟨_, rfl⟩;obtain ⟨H, hH⟩ : ∃ H, H = hasX l1 := ⟨_, rfl⟩
 have hHlt : H < 256 := by
  rw [hH, hl1];unfold hasX numL
  cases hd : l.drop (Wm.take l).2.1 with
  | nil => simp
  | cons a r => simp; exact hl256 a (List.mem_of_mem_drop (by rw [hd]; simp))
 have ha1 := and_1 H hHlt;have ha2 := and_2 H hHlt;clear h hq hl256 hHlt;obtain ⟨P, hP⟩ : ∃ P : Bool, P = decide (H % 2 = 1) := ⟨_, rfl⟩;obtain ⟨Q, hQ⟩ : ∃ Q : Bool, Q = decide (H / 2 % 2 = 1) := ⟨_, rfl⟩
 have hp1 : ((((H % 2 : Nat) : Int)) != 0) = P := by
  rw [hP];by_cases hh : H % 2 = 1
  ·rw [hh]; rfl
  ·rw [show H % 2 = 0 from by omega]; rfl
 have hq1 : ((((H / 2 % 2 * 2 : Nat) : Int)) != 0) = Q := by
  rw [hQ];by_cases hh : H / 2 % 2 = 1
  ·rw [hh]; rfl
  ·rw [show H / 2 % 2 = 0 from by omega]; rfl
 obtain ⟨A1, hA1⟩ : ∃ A1, bits .and .u8 (H : Int) 1 = A1 := ⟨_, rfl⟩;obtain ⟨A2, hA2⟩ : ∃ A2, bits .and .u8 (H : Int) 2 = A2 := ⟨_, rfl⟩;have hp2 : (A1 != 0) = P := by rw [← hA1, ha1]; exact hp1
 have hq2 : (A2 != 0) = Q := by rw [← hA2, ha2]; exact hq1
 clear ha1 ha2 hp1 hq1;obtain ⟨l2, hl2⟩ : ∃ l2, l2 = hasL l1 := ⟨_, rfl⟩;obtain ⟨l3, hl3⟩ : ∃ l3, l3 = valL P l2 := ⟨_, rfl⟩;obtain ⟨l4, hl4⟩ : ∃ l4, l4 = valL Q l3 := ⟨_, rfl⟩;obtain ⟨N, hN⟩ : ∃ N, N = (Wm.take l4).1 := ⟨_, rfl⟩;obtain ⟨Z, hZ⟩ : ∃ Z, Z = IntKind.i64.wrap (N : Int) := ⟨_, rfl⟩;have eX : celX l = ⟨K, valX P l2, valX Q l3, Z⟩ := by subst hZ hN hl4 hl3 hl2 hP hQ hH hl1 hK; rfl
 have eL : numL (celL3 l) = numL l4 := by subst hl4 hl3 hl2 hP hQ hH hl1; rfl
 obtain ⟨f1, hf1⟩ : ∃ f1, f1 = numF l f := ⟨_, rfl⟩;obtain ⟨G, hG⟩ : ∃ G, G = folB (lastK q) K := ⟨_, rfl⟩;obtain ⟨f2, hf2⟩ : ∃ f2, f2 = refu (!G) 7 f1 := ⟨_, rfl⟩;obtain ⟨f3, hf3⟩ : ∃ f3, f3 = hasF l1 f2 := ⟨_, rfl⟩;obtain ⟨f4, hf4⟩ : ∃ f4, f4 = valFB P l2 f3 := ⟨_, rfl⟩;obtain ⟨f5, hf5⟩ : ∃ f5, f5 = valFB Q l3 f4 := ⟨_, rfl⟩;obtain ⟨f6, hf6⟩ : ∃ f6, f6 = numF l4 f5 := ⟨_, rfl⟩;have eF : celF (lastK q) l f = refu (decide (1099511627776 < N)) 4 f6 := by subst hf6 hf5 hf4 hf3 hf2 hG hf1 hN hl4 hl3 hl2 hP hQ hH hl1 hK; rfl
 rw [eX, eL, eF];obtain ⟨V1, hV1⟩ : ∃ V1, V1 = valX P l2 := ⟨_, rfl⟩;obtain ⟨V2, hV2⟩ : ∃ V2, V2 = valX Q l3 := ⟨_, rfl⟩;rw [← hV1, ← hV2];obtain ⟨T, hT⟩ : ∃ T : Bool, T = decide (1099511627776 < N) := ⟨_, rfl⟩;rw [← hT]
 have hTi : decide ((1099511627776 : Int) < (N : Int)) = T := by
  rw [hT];by_cases hh : 1099511627776 < N
  ·rw [decide_eq_true hh, decide_eq_true (by omega)]
  ·rw [decide_eq_false hh, decide_eq_false (by omega)]
 have HE : Hid (K = (Wm.take l).1 ∧ l1 = numL l ∧ H = hasX l1 ∧ l2 = hasL l1 ∧ l3 = valL P l2 ∧ l4 = valL Q l3 ∧ N = (Wm.take l4).1 ∧ V1 = valX P l2 ∧ V2 = valX Q l3) := ⟨hK, hl1, hH, hl2, hl3, hl4, hN, hV1, hV2⟩;have HFE : Hid (f1 = numF l f ∧ G = folB (lastK q) K ∧ f2 = refu (!G) 7 f1 ∧ f3 = hasF l1 f2 ∧ f4 = valFB P l2 f3 ∧ f5 = valFB Q l3 f4 ∧ f6 = numF l4 f5) := ⟨hf1, hG, hf2, hf3, hf4, hf5, hf6⟩;have hZ' := hZ.symm;clear hK hl1 hH hl2 hl3 hl4 hN hV1 hV2 hf1 hG hf2 hf3 hf4 hf5 hf6 eX eL eF hP hQ hZ hT;go_in;go_upto_region 1 with fail
 rw [← hw0];clear hw0;have HC0 : Hid (Ch (fun x => x = R) w w0) := Ch.of_below HB0.out;clear HB0;go_wp2_with fail;refine (number_walk HR0.out).mono ?_;rw [← HE.out.1, ← HE.out.2.1, ← HFE.out.1];rintro e9 w1 ⟨rfl, ⟨v1, hR1⟩, hC1⟩;have HR1 : Hid (RD M w1 R v1 l1 f1) := hR1;have HZ1 : Hid (CB w1 w.heap.size zeroC) := HZ0.out.ch hC1 (by have := HNR.out; omega);have HC1 : Hid (Ch (fun x => x = R) w w1) := HC0.out.self hC1;clear hR1 hC1 HZ0 HC0 HR0;go_upto_region 2 with fail
 have HCB2 : Hid (CB (w1.alloc (Obj.cells #[.int .u64 K, .bool false, .int .u64 0, .bool false, .int .u64 0, .int .i64 0] 114)) w1.heap.size ⟨K, noV, noV, 0⟩) := cb_new w1 ⟨K, noV, noV, 0⟩;have HR2 : Hid (RD M (w1.alloc (Obj.cells #[.int .u64 K, .bool false, .int .u64 0, .bool false, .int .u64 0, .int .i64 0] 114)) R v1 l1 f1) := HR1.out.below (below_alloc _ _);have HZ2 : Hid (CB (w1.alloc (Obj.cells #[.int .u64 K, .bool false, .int .u64 0, .bool false, .int .u64 0, .int .i64 0] 114)) w.heap.size zeroC) := HZ1.out.keep (below_alloc _ _);have HC2 : Hid (Ch (fun x => x = R) w (w1.alloc (Obj.cells #[.int .u64 K, .bool false, .int .u64 0, .bool false, .int .u64 0, .int .i64 0] 114))) := HC1.out.self (Ch.of_below (below_alloc _ _));have HBW : Hid (w.heap.size < w1.heap.size) := cell_lt HZ1.out.c0;obtain ⟨B, hB⟩ : ∃ B, B = w1.heap.size := ⟨_, rfl⟩;generalize w1.alloc (Obj.cells #[.int .u64 K, .bool false, .int .u64 0, .bool false, .int .u64 0, .int .i64 0] 114) = w2 at HCB2 HR2 HZ2 HC2 ⊢;rw [← hB] at HCB2 HBW ⊢;have HNB : Hid (B ≠ R) := by have h1 := HNR.out; have h2 := HBW.out; show _ ≠ _; omega
 have HNZ : Hid (w.heap.size ≠ R) := by have h1 := HNR.out; show _ ≠ _; omega
 have HBZ : Hid (w.heap.size ≤ B ∧ w.heap.size ≠ B) := by have h2 := HBW.out; exact ⟨by omega, by omega⟩
 clear hB HR1 HZ1 HC1;have k0 := HCB2.out.c0;go_wp2_with fail;refine (follows_walk (HQ.out _ HC2.out) K).mono ?_;rw [← HFE.out.2.1];rintro e9 w3 ⟨rfl, rfl⟩;go_wp2_with fail;refine (refuse_walk HR2.out (!G) 7).mono ?_;rw [← HFE.out.2.2.1];rintro e9 w3 ⟨rfl, hR3, hC3⟩;have HR3 : Hid (RD M w3 R v1 l1 f2) := hR3;have HCB3 : Hid (CB w3 B ⟨K, noV, noV, 0⟩) := HCB2.out.ch hC3 HNB.out;have HZ3 : Hid (CB w3 w.heap.size zeroC) := HZ2.out.ch hC3 HNZ.out;have HC3 : Hid (Ch (fun x => x = R) w w3) := HC2.out.self hC3;clear hR3 hC3 HR2 HCB2 HZ2 HC2 k0;go_wp2_with fail;refine (has_walkB HR3.out).mono ?_;rw [← HE.out.2.2.1, ← HE.out.2.2.2.1, ← HFE.out.2.2.2.1];rintro e9 w4 ⟨rfl, ⟨v4, hR4⟩, hC4⟩;have HR4 : Hid (RD M w4 R v4 l2 f3) := hR4;have HCB4 : Hid (CB w4 B ⟨K, noV, noV, 0⟩) := HCB3.out.ch hC4 HNB.out;have HZ4 : Hid (CB w4 w.heap.size zeroC) := HZ3.out.ch hC4 HNZ.out;have HC4 : Hid (Ch (fun x => x = R) w w4) := HC3.out.self hC4;clear hR4 hC4 HR3 HCB3 HZ3 HC3;go_wp2_with fail;refine (value_walk HR4.out P).mono ?_;rw [← HE.out.2.2.2.2.1, ← HE.out.2.2.2.2.2.2.2.1, ← HFE.out.2.2.2.2.1];rintro e9 w5 ⟨rfl, ⟨v5, hR5⟩, hC5⟩;have HR5 : Hid (RD M w5 R v5 l3 f4) := hR5;have HCB5 : Hid (CB w5 B ⟨K, noV, noV, 0⟩) := HCB4.out.ch hC5 HNB.out;have HZ5 : Hid (CB w5 w.heap.size zeroC) := HZ4.out.ch hC5 HNZ.out;have HC5 : Hid (Ch (fun x => x = R) w w5) := HC4.out.self hC5;clear hR5 hC5 HR4 HCB4 HZ4 HC4;obtain ⟨j0, j1, j2, j3, j4, j5, jz⟩ := HCB5.out;go_upto_region 5 with fail
 have HCB6 : Hid (CB ((w5.setCell ⟨B, 1, none⟩ (.bool V1.h)).setCell ⟨B, 2, none⟩ (.int .u64 V1.b)) B ⟨K, V1, noV, 0⟩) := HCB5.out.setP V1;have HR6 : Hid (RD M ((w5.setCell ⟨B, 1, none⟩ (.bool V1.h)).setCell ⟨B, 2, none⟩ (.int .u64 V1.b)) R v5 l3 f4) := HR5.out.set2 HNB.out HCB5.out.c1 HCB5.out.c2 (by omega) (by intro x e; cases e) (by intro x e; cases e) _ _;have HZ6 : Hid (CB ((w5.setCell ⟨B, 1, none⟩ (.bool V1.h)).setCell ⟨B, 2, none⟩ (.int .u64 V1.b)) w.heap.size zeroC) := HZ5.out.ch ((ch_set _ _ _ _).self (ch_set _ _ _ _)) HBZ.out.2;have HC6 : Hid (Ch (fun x => x = R) w ((w5.setCell ⟨B, 1, none⟩ (.bool V1.h)).setCell ⟨B, 2, none⟩ (.int .u64 V1.b))) := ch_set2 HC5.out HBZ.out.1 _ _ _ _;generalize ((w5.setCell ⟨B, 1, none⟩ (.bool V1.h)).setCell ⟨B, 2, none⟩ (.int .u64 V1.b)) = w6 at HCB6 HR6 HZ6 HC6 ⊢;clear HR5 HCB5 HZ5 HC5 j0 j1 j2 j3 j4 j5 jz;go_wp2_with fail;refine (value_walk HR6.out Q).mono ?_;rw [← HE.out.2.2.2.2.2.1, ← HE.out.2.2.2.2.2.2.2.2, ← HFE.out.2.2.2.2.2.1];rintro e9 w7 ⟨rfl, ⟨v7, hR7⟩, hC7⟩;have HR7 : Hid (RD M w7 R v7 l4 f5) := hR7;have HCB7 : Hid (CB w7 B ⟨K, V1, noV, 0⟩) := HCB6.out.ch hC7 HNB.out;have HZ7 : Hid (CB w7 w.heap.size zeroC) := HZ6.out.ch hC7 HNZ.out;have HC7 : Hid (Ch (fun x => x = R) w w7) := HC6.out.self hC7;clear hR7 hC7 HR6 HCB6 HZ6 HC6;obtain ⟨j0, j1, j2, j3, j4, j5, jz⟩ := HCB7.out;go_upto_region 6 with fail
 have HCB8 : Hid (CB ((w7.setCell ⟨B, 3, none⟩ (.bool V2.h)).setCell ⟨B, 4, none⟩ (.int .u64 V2.b)) B ⟨K, V1, V2, 0⟩) := HCB7.out.setC V2;have HR8 : Hid (RD M ((w7.setCell ⟨B, 3, none⟩ (.bool V2.h)).setCell ⟨B, 4, none⟩ (.int .u64 V2.b)) R v7 l4 f5) := HR7.out.set2 HNB.out HCB7.out.c3 HCB7.out.c4 (by omega) (by intro x e; cases e) (by intro x e; cases e) _ _;have HZ8 : Hid (CB ((w7.setCell ⟨B, 3, none⟩ (.bool V2.h)).setCell ⟨B, 4, none⟩ (.int .u64 V2.b)) w.heap.size zeroC) := HZ7.out.ch ((ch_set _ _ _ _).self (ch_set _ _ _ _)) HBZ.out.2;have HC8 : Hid (Ch (fun x => x = R) w ((w7.setCell ⟨B, 3, none⟩ (.bool V2.h)).setCell ⟨B, 4, none⟩ (.int .u64 V2.b))) := ch_set2 HC7.out HBZ.out.1 _ _ _ _;generalize ((w7.setCell ⟨B, 3, none⟩ (.bool V2.h)).setCell ⟨B, 4, none⟩ (.int .u64 V2.b)) = w8 at HCB8 HR8 HZ8 HC8 ⊢;clear HR7 HCB7 HZ7 HC7 j0 j1 j2 j3 j4 j5 jz;go_wp2_with fail;refine (number_walk HR8.out).mono ?_;rw [← HE.out.2.2.2.2.2.2.1, ← HFE.out.2.2.2.2.2.2];rintro e9 w9 ⟨rfl, ⟨v9, hR9⟩, hC9⟩;have HR9 := hidH hR9;have HCB9 : Hid (CB w9 B ⟨K, V1, V2, 0⟩) := HCB8.out.ch hC9 HNB.out;have HZ9 : Hid (CB w9 w.heap.size zeroC) := HZ8.out.ch hC9 HNZ.out;have HC9 : Hid (Ch (fun x => x = R) w w9) := HC8.out.self hC9;clear hR9 hC9 HR8 HCB8 HZ8 HC8;go_wp2_with fail;refine (refuse_walk HR9.out T 4).mono ?_;rintro e9 w10 ⟨rfl, hR10, hC10⟩;have HR10 := hidH hR10;have HCB10 : Hid (CB w10 B ⟨K, V1, V2, 0⟩) := HCB9.out.ch hC10 HNB.out;have HZ10 : Hid (CB w10 w.heap.size zeroC) := HZ9.out.ch hC10 HNZ.out;have HC10 : Hid (Ch (fun x => x = R) w w10) := HC9.out.self hC10;clear hR10 hC10 HR9 HCB9 HZ9 HC9;obtain ⟨j0, j1, j2, j3, j4, j5, jz⟩ := HCB10.out;go_upto_region 9 with fail
 have HCB11 : Hid (CB (w10.setCell ⟨B, 5, none⟩ (.int .i64 Z)) B ⟨K, V1, V2, Z⟩) := HCB10.out.setN Z;have HR11 : Hid (RD M (w10.setCell ⟨B, 5, none⟩ (.int .i64 Z)) R v9 (numL l4) (refu T 4 f6)) := HR10.out.setB HNB.out HCB10.out.c5 (by intro x e; cases e) _;have HZ11 : Hid (CB (w10.setCell ⟨B, 5, none⟩ (.int .i64 Z)) w.heap.size zeroC) := HZ10.out.ch (ch_set _ _ _ _) HBZ.out.2;have HC11 : Hid (Ch (fun x => x = R) w (w10.setCell ⟨B, 5, none⟩ (.int .i64 Z))) := HC10.out.trans (ch_set _ _ _ _) (fun x hx => by subst hx; exact .inr HBZ.out.1);generalize (w10.setCell ⟨B, 5, none⟩ (.int .i64 Z)) = w11 at HCB11 HR11 HZ11 HC11 ⊢;clear HR10 HCB10 HZ10 HC10 j0 j1 j2 j3 j4 j5 jz;obtain ⟨j0, j1, j2, j3, j4, j5, jz⟩ := HCB11.out;obtain ⟨i0, i1, i2, i3, i4, i5, iz⟩ := HZ11.out;go_wp2_with fail;refine bodyPost_ret (by simp [results, Tryz.results167, go_sem, i0, i1, i2, i3, i4, i5]) rfl ⟨rfl, ?_⟩;exact ⟨⟨v9, (((HR11.out.set2 HNZ.out HZ11.out.c0 HZ11.out.c1 (by omega) (by intro x e; cases e) (by intro x e; cases e) _ _).set2 (i := 2) (j := 3) HNZ.out (by simp [go_sem, i2, zeroC, noV]) (by simp [go_sem, i3, zeroC, noV]) (by omega) (u1 := .int .u64 0) (u2 := .bool false) (by intro x e; cases e) (by intro x e; cases e) _ _).set2 (i := 4) (j := 5) HNZ.out (by simp [go_sem, i4, zeroC, noV]) (by simp [go_sem, i5, zeroC, noV]) (by omega) (u1 := .int .u64 0) (u2 := .int .i64 0) (by intro x e; cases e) (by intro x e; cases e) _ _)⟩, ch_set2 (ch_set2 (ch_set2 HC11.out (Nat.le_refl _) _ _ _ _) (Nat.le_refl _) _ _ _ _) (Nat.le_refl _) _ _ _ _⟩
end
theorem numF_old {l : List Nat} {f : Nat} (h : f ≠ 0) : numF l f = f := refu_old h
theorem hasF_old {l : List Nat} {f : Nat} (h : f ≠ 0) : hasF l f = f := by
 cases l
 ·exact refu_old h
 ·exact refu_old h
theorem valF_old {t : Bool} {l : List Nat} {f : Nat} (h : f ≠ 0) : valFB t l f = f := by
 unfold valFB; split
 ·exact refu_old h
 ·rfl
theorem refu_true {e : Nat} {g : Bool} (h : g = true) : refu g e 0 = e := by rw [h]; exact refu_yes e
theorem refu_false {e f : Nat} {g : Bool} (h : g = false) : refu g e f = f := by rw [h]; exact refu_no e f
theorem late {e : Nat} (h : e ≠ 0) (g t u : Bool) (a b c : List Nat) : refu g 4 (numF c (valFB u b (valFB t a e))) = e := by
 rw [valF_old h, valF_old h, numF_old h, refu_old h]
theorem val_one (t : Bool) (l : List Nat) : valFB t l 0 = (oneV t l).1 ∧ ((oneV t l).1 = 0 → valX t l = (oneV t l).2.1 ∧ valL t l = (oneV t l).2.2) := by
 unfold valFB valX valL oneV
 cases t
 ·simp
 ·by_cases h : l.length < 8
  ·simp [h, refu_yes]
  ·have : 8 ≤ l.length := by omega
   simp [h, this]
theorem oneW_eq (k h : Nat) (r : List Nat) (h3 : h ≤ 3) :
  refu (decide (1099511627776 < (Wm.take (valL (decide (h / 2 % 2 = 1)) (valL (decide (h % 2 = 1)) r))).1)) 4 (numF (valL (decide (h / 2 % 2 = 1)) (valL (decide (h % 2 = 1)) r)) (valFB (decide (h / 2 % 2 = 1)) (valL (decide (h % 2 = 1)) r) (valFB (decide (h % 2 = 1)) r 0))) = (oneW k h r).1 ∧
  ((oneW k h r).1 = 0 → (⟨k, valX (decide (h % 2 = 1)) r, valX (decide (h / 2 % 2 = 1)) (valL (decide (h % 2 = 1)) r), IntKind.i64.wrap ((Wm.take (valL (decide (h / 2 % 2 = 1)) (valL (decide (h % 2 = 1)) r))).1 : Nat)⟩ : Cl) = (oneW k h r).2.1 ∧ numL (valL (decide (h / 2 % 2 = 1)) (valL (decide (h % 2 = 1)) r)) = (oneW k h r).2.2) := by
 have e2 : decide (h / 2 % 2 = 1) = decide (2 ≤ h) := by congr 1; simp only [eq_iff_iff]; omega
 rw [e2];unfold oneW;obtain ⟨p1, p2⟩ := val_one (decide (h % 2 = 1)) r;by_cases q1 : (oneV (decide (h % 2 = 1)) r).1 = 0
 ·rw [if_neg (by omega)];obtain ⟨p3, p4⟩ := p2 q1;rw [p1, q1, p3, p4];obtain ⟨r1, r2⟩ := val_one (decide (2 ≤ h)) (oneV (decide (h % 2 = 1)) r).2.2;by_cases q2 : (oneV (decide (2 ≤ h)) (oneV (decide (h % 2 = 1)) r).2.2).1 = 0
  ·rw [if_neg (by omega)];obtain ⟨r3, r4⟩ := r2 q2;rw [r1, q2, r3, r4];obtain ⟨l4, hl4⟩ : ∃ l4, l4 = (oneV (decide (2 ≤ h)) (oneV (decide (h % 2 = 1)) r).2.2).2.2 := ⟨_, rfl⟩;rw [← hl4];unfold oneN;by_cases q3 : (Wm.take l4).2.2 = 0
   ·rw [if_neg (by omega)];have e3 : numF l4 0 = 0 := refu_false (by simp [q3]);rw [e3];by_cases q4 : 1099511627776 < (Wm.take l4).1
    ·rw [if_pos q4];exact ⟨refu_true (by simp [q4]), fun h => by simp at h⟩
    ·rw [if_neg q4];refine ⟨refu_false (by simp [q4]), fun _ => ⟨?_, rfl⟩⟩;have : IntKind.i64.wrap ((Wm.take l4).1 : Nat) = ((Wm.take l4).1 : Int) := by rw [IntKind.wrap_i64]; omega
     rw [this]
   ·rw [if_pos q3];have e3 : numF l4 0 = (Wm.take l4).2.2 := refu_true (by simp [q3]);rw [e3];exact ⟨refu_old q3, fun h => absurd h q3⟩
  ·rw [if_pos q2, r1];refine ⟨?_, fun h => absurd h q2⟩;rw [numF_old q2, refu_old q2]
 ·rw [if_pos q1, p1];refine ⟨?_, fun h => absurd h q1⟩;rw [valF_old q1, numF_old q1, refu_old q1]
theorem cel_one (o : Option Nat) (l : List Nat) : celF o l 0 = (oneC o l).1 ∧ ((oneC o l).1 = 0 → celX l = (oneC o l).2.1 ∧ numL (celL3 l) = (oneC o l).2.2) := by
 unfold oneC;by_cases q1 : (Wm.take l).2.2 = 0
 ·rw [if_neg (by omega)];have e1 : numF l 0 = 0 := refu_false (by simp [q1]);by_cases q2 : folB o (Wm.take l).1 = false
  ·rw [if_pos q2];refine ⟨?_, fun h => by simp at h⟩;have e2 : refu (!folB o (Wm.take l).1) 7 (numF l 0) = 7 := by rw [e1, q2]; rfl
   unfold celF;rw [e2, hasF_old (f := 7) (by omega)];exact late (by omega) _ _ _ _ _ _
  ·have q2' : folB o (Wm.take l).1 = true := by simpa using q2
   rw [if_neg q2];have e2 : refu (!folB o (Wm.take l).1) 7 (numF l 0) = 0 := by rw [e1, q2']; rfl
   unfold celF celX celL3 celL2 celQ celP celL1;rw [e2];have hL : l.drop (Wm.take l).2.1 = numL l := rfl;rw [hL]
   cases hd : numL l with
   | nil =>
    refine ⟨?_, fun h => by simp [oneH] at h⟩;have : hasF [] 0 = 3 := rfl;rw [this];exact late (e := 3) (by omega) _ _ _ _ _ _
   | cons h r =>
    have hx : hasX (h :: r) = h := rfl;have hl : hasL (h :: r) = r := rfl;rw [hx, hl];simp only [oneH];by_cases q3 : 3 < h
    ·rw [if_pos q3];refine ⟨?_, fun h => by simp at h⟩;have : hasF (h :: r) 0 = 4 := refu_true (by simp [q3]);rw [this];exact late (e := 4) (by omega) _ _ _ _ _ _
    ·rw [if_neg q3];have : hasF (h :: r) 0 = 0 := refu_false (by simp [q3]);rw [this];exact oneW_eq _ h r (by omega)
 ·rw [if_pos q1];refine ⟨?_, fun h => absurd h q1⟩;have e1 : numF l 0 = (Wm.take l).2.2 := refu_true (by simp [q1]);unfold celF;rw [e1, refu_old q1, hasF_old q1, valF_old q1, valF_old q1, numF_old q1, refu_old q1]
end Go.Proofs.YtcmklbibehnloaaGreat
