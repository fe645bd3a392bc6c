/- The pages as the program and the reference read them; calls on no store; the statements' cells. -/
import Derived.Test.YtcmklbibehnloaaGreatB43
import Derived.Test.YtcmklbibehnloaaGreatB42
set_option maxRecDepth 100000
set_option maxHeartbeats 16000000
namespace Go.Proofs.YtcmklbibehnloaaGreat
open Go.RowKit
theorem vb_newS (w : World) (h : Bool) (b : Nat) : (w.alloc (Obj.cells #[.bool h, .int .u64 (b : Int)] 53)).cell? ⟨w.heap.size, 0, none⟩ = some (.bool h) ∧ (w.alloc (Obj.cells #[.bool h, .int .u64 (b : Int)] 53)).cell? ⟨w.heap.size, 1, none⟩ = some (.int .u64 (b : Int)) := by constructor <;> simp [go_sem]
theorem two_keep {D : Nat → Prop} {w w' : World} {T : Nat} {u v : Value} (h : w.cell? ⟨T, 0, none⟩ = some u ∧ w.cell? ⟨T, 1, none⟩ = some v) (hc : Ch D w w') (hd : ¬ D T) : w'.cell? ⟨T, 0, none⟩ = some u ∧ w'.cell? ⟨T, 1, none⟩ = some v := ⟨hc.cell h.1 hd, hc.cell h.2 hd⟩
theorem two_below {w w' : World} {T : Nat} {u v : Value} (h : w.cell? ⟨T, 0, none⟩ = some u ∧ w.cell? ⟨T, 1, none⟩ = some v) (hc : Below w.heap.size w w') : w'.cell? ⟨T, 0, none⟩ = some u ∧ w'.cell? ⟨T, 1, none⟩ = some v := two_keep (D := fun _ => False) h (Ch.of_below hc) (fun e => e)
theorem awake_walkS (w : World) : Calls Tryz.prog 5 #[] w fun e w' => e = .returned (.bool true) ∧ Below w.heap.size w w' := by
 go_in;go_wp2_with fail;refine (fresh_walk (k := 1) rfl w).mono ?_;rintro e w1 ⟨A1, P1, S1, sp, sb, rfl, hrs, hA, hsp, hcn, hbl, hB⟩;have HR1 := hidH hrs;have HA1 := hidH hA;have HC1 : Hid (cntS P1 S1 ≤ 12) := hcn;have HB1 := hidH hB;clear hrs hA hsp hcn hbl hB;go_upto_region 4 with fail
 have HB2 : Hid (Below w1.heap.size w1 (w1.alloc (Obj.cells #[.int .u64 2, .int .u64 9] 37))) := below_alloc _ _;have HK2 : Hid (Kv (w1.alloc (Obj.cells #[.int .u64 2, .int .u64 9] 37)) (.slice (some ⟨w1.heap.size, 0, none⟩) 2 2) [2, 9]) := kv_2 w1 2 9;go_wp2_with fail;refine (begin_open (HR1.out.below HB2.out) (by have := HC1.out; omega) HK2.out (by intro x hx; simp at hx; omega) (fun x hx hA => by have h := HR1.out.st.lt hA; simp [Value.ownBlock] at hx; omega) (b := 1) (a := 4) (.inr rfl) (by omega) (by omega) (by omega) (by omega) (by simp) rfl (.inl (by decide))).mono ?_;rw [aw_beg];rintro e w3 ⟨rfl, A3, P3, S3, hrs, hA, hc, hcn, _, _⟩;have HW2 := hidH (below_trans HB1.out HB2.out);have HR3 := hidH hrs
 have HA3 : Hid (∀ x, A3 x → w.heap.size ≤ x) := fun x hx => by
  rcases hA x hx with q | q
  ·exact HA1.out x q
  ·have := HW2.out.size; omega
 have HC3 : Hid (cntS P3 S3 ≤ 29) := by have := HC1.out; show _ ≤ _; omega
 have HB3 : Hid (Below w.heap.size w w3) := HW2.out.trans (hc.to_below HW2.out.size HA1.out);clear hrs hA hc hcn HR1 HA1 HC1 HB1 HB2 HK2 HW2;go_wp2_with fail;refine (pair_walkS 2 3 w3).mono ?_;rintro e w4 ⟨rfl, hb4⟩;have HR4 := hidH (HR3.out.below hb4);have HB4 := hidH (below_trans HB3.out hb4);have HQ4 : Hid (Qv (w4.alloc (Obj.cells #[.int .u64 2, .bool true, .int .u64 3] 62)) (.slice (some ⟨w4.heap.size, 0, none⟩) 1 1) awT) := qv_1 w4 ⟨2, ⟨true, 3⟩⟩ ⟨by decide, by show (3 : Nat) < _; decide⟩;have HB5 : Hid (Below w4.heap.size w4 (w4.alloc (Obj.cells #[.int .u64 2, .bool true, .int .u64 3] 62))) := below_alloc _ _;have HW5 := hidH (below_trans HB4.out HB5.out);clear hb4 HR3 HB3;go_wp2_with fail
 refine (apply_open (HR4.out.below HB5.out) (by have := HC3.out; omega) HQ4.out (fun x hx hA => by have h := HR4.out.st.lt hA; simp [Value.ownBlock] at hx; omega) (by show (1 : Int) ≤ 1; omega) (by show (1 : Int) ≤ 4; omega) aw_ta (by
  obtain ⟨L, e, g, _⟩ := app_all (k := 1) (m := ⟨1, 4, [2, 9]⟩) (b := 1) rfl (by omega) awT noS HR4.out.gk low_no aw_ta;exact ⟨L, e, g⟩)).mono ?_
 rw [aw_app];rintro e w6 ⟨rfl, A6, P6, S6, hrs, hA, hc, hcn, _, _⟩;have HR6 := hidH hrs
 have HA6 : Hid (∀ x, A6 x → w.heap.size ≤ x) := fun x hx => by
  rcases hA x hx with q | q
  ·exact HA3.out x q
  ·have := HW5.out.size; omega
 have HC6 : Hid (cntS P6 S6 ≤ 46) := by have := HC3.out; show _ ≤ _; omega
 have HB6 : Hid (Below w.heap.size w w6) := HW5.out.trans (hc.to_below HW5.out.size HA3.out);clear hrs hA hc hcn HR4 HA3 HC3 HB4 HQ4 HB5 HW5;go_wp2_with fail;refine (query_rs HR6.out (by have := HC6.out; omega) 2 1).mono ?_;rw [aw_q1];rintro e w7 ⟨rfl, S7, hrs, hr, hc⟩;have HR7 := hidH hrs;have HC7 : Hid (cntS P6 S7 ≤ 52) := by have h1 := cnt_rdd (P := P6) hr; have := HC6.out; show _ ≤ _; omega
 have HB7 : Hid (Below w.heap.size w w7) := HB6.out.trans (hc.to_below HB6.out.size HA6.out);clear hrs hr hc HR6 HC6 HB6;go_upto_region 7 with fail
 obtain ⟨T5, hT⟩ : ∃ T, T = w7.heap.size := ⟨_, rfl⟩;have HV5 : Hid ((w7.alloc (Obj.cells #[.bool true, .int .u64 3] 53)).cell? ⟨T5, 0, none⟩ = some (.bool true) ∧ (w7.alloc (Obj.cells #[.bool true, .int .u64 3] 53)).cell? ⟨T5, 1, none⟩ = some (.int .u64 3)) := by rw [hT]; exact vb_newS w7 true 3
 have HT5 : Hid (¬ A6 T5) := fun e => by have h := HR7.out.st.lt e; omega
 have HL5 : Hid (w.heap.size ≤ T5) := by rw [hT]; exact HB7.out.size
 have HR8 : Hid (RS A6 (w7.alloc (Obj.cells #[.bool true, .int .u64 3] 53)) (.pointer (some ⟨sp, 0, none⟩)) (.pointer (some ⟨sb, 0, none⟩)) 1 P6 S7 ⟨1, 4, [2, 9]⟩ awL) := HR7.out.below (below_alloc _ _);have HB8 : Hid (Below w.heap.size w (w7.alloc (Obj.cells #[.bool true, .int .u64 3] 53))) := below_trans HB7.out (below_alloc _ _);rw [← hT];generalize (w7.alloc (Obj.cells #[.bool true, .int .u64 3] 53)) = w8 at HV5 HR8 HB8 ⊢;clear hT HR7 HB7;go_wp2_with fail;refine (query_rs HR8.out (by have := HC7.out; omega) 2 0).mono ?_;rw [aw_q0];rintro e w9 ⟨rfl, S9, hrs, hr, hc⟩;have HR9 := hidH hrs;have HC9 : Hid (cntS P6 S9 ≤ 58) := by have h1 := cnt_rdd (P := P6) hr; have := HC7.out; show _ ≤ _; omega
 have HB9 : Hid (Below w.heap.size w w9) := HB8.out.trans (hc.to_below HB8.out.size HA6.out);have HV59 : Hid (w9.cell? ⟨T5, 0, none⟩ = some (.bool true) ∧ w9.cell? ⟨T5, 1, none⟩ = some (.int .u64 3)) := two_keep HV5.out hc HT5.out;clear hrs hr hc HR8 HC7 HB8 HV5;go_upto_region 8 with fail
 obtain ⟨T7, hT⟩ : ∃ T, T = w9.heap.size := ⟨_, rfl⟩;have HV7 : Hid ((w9.alloc (Obj.cells #[.bool false, .int .u64 0] 53)).cell? ⟨T7, 0, none⟩ = some (.bool false) ∧ (w9.alloc (Obj.cells #[.bool false, .int .u64 0] 53)).cell? ⟨T7, 1, none⟩ = some (.int .u64 0)) := by rw [hT]; exact vb_newS w9 false 0
 have HV5a : Hid ((w9.alloc (Obj.cells #[.bool false, .int .u64 0] 53)).cell? ⟨T5, 0, none⟩ = some (.bool true) ∧ (w9.alloc (Obj.cells #[.bool false, .int .u64 0] 53)).cell? ⟨T5, 1, none⟩ = some (.int .u64 3)) := two_below HV59.out (below_alloc _ _);have HT7 : Hid (¬ A6 T7) := fun e => by have h := HR9.out.st.lt e; omega
 have HL7 : Hid (w.heap.size ≤ T7) := by rw [hT]; exact HB9.out.size
 have HR10 : Hid (RS A6 (w9.alloc (Obj.cells #[.bool false, .int .u64 0] 53)) (.pointer (some ⟨sp, 0, none⟩)) (.pointer (some ⟨sb, 0, none⟩)) 1 P6 S9 ⟨1, 4, [2, 9]⟩ awL) := HR9.out.below (below_alloc _ _);have HB10 : Hid (Below w.heap.size w (w9.alloc (Obj.cells #[.bool false, .int .u64 0] 53))) := below_trans HB9.out (below_alloc _ _);rw [← hT];generalize (w9.alloc (Obj.cells #[.bool false, .int .u64 0] 53)) = w10 at HV7 HV5a HR10 HB10 ⊢;clear hT HR9 HB9 HV59;go_wp2_with fail;refine (apply_not HR10.out (by have := HC9.out; omega) (qv_0 w10) (by intro x hx; simp [Value.ownBlock] at hx) (b := 1) (a := 3) aw_fen).mono ?_;rintro e w11 ⟨rfl, S11, hrs, hr, hc⟩;have HR11 := hidH hrs;have HC11 : Hid (cntS P6 S11 ≤ 66) := by have h1 := cnt_rdd (P := P6) hr; have := HC9.out; show _ ≤ _; omega
 have HB11 : Hid (Below w.heap.size w w11) := HB10.out.trans (hc.to_below HB10.out.size HA6.out);have HV5b : Hid (w11.cell? ⟨T5, 0, none⟩ = some (.bool true) ∧ w11.cell? ⟨T5, 1, none⟩ = some (.int .u64 3)) := two_keep HV5a.out hc HT5.out;have HV7b : Hid (w11.cell? ⟨T7, 0, none⟩ = some (.bool false) ∧ w11.cell? ⟨T7, 1, none⟩ = some (.int .u64 0)) := two_keep HV7.out hc HT7.out;clear hrs hr hc HR10 HC9 HB10 HV5a HV7;go_upto_region 9 with fail
 have HB12 : Hid (Below w11.heap.size w11 (w11.alloc (Obj.cells #[.int .u64 9] 37))) := below_alloc _ _;have HK12 : Hid (Kv (w11.alloc (Obj.cells #[.int .u64 9] 37)) (.slice (some ⟨w11.heap.size, 0, none⟩) 1 1) [9]) := kv_1 w11 9;have HW12 := hidH (below_trans HB11.out HB12.out);go_wp2_with fail;refine (begin_open (HR11.out.below HB12.out) (by have := HC11.out; omega) HK12.out (by intro x hx; simp at hx; omega) (fun x hx hA => by have h := HR11.out.st.lt hA; simp [Value.ownBlock] at hx; omega) (b := 1) (a := 6) (.inl rfl) (by omega) (by omega) (by omega) (by omega) (by simp) rfl (.inr ⟨rfl, by decide⟩)).mono ?_;rw [aw_revS];rintro e w13 ⟨rfl, A8, P8, S13, hrs, hA, hc, hcn, _, _⟩;have HR13 := hidH hrs
 have HA8 : Hid (∀ x, A8 x → w.heap.size ≤ x) := fun x hx => by
  rcases hA x hx with q | q
  ·exact HA6.out x q
  ·have := HW12.out.size; omega
 have HC13 : Hid (cntS P8 S13 ≤ 83) := by have := HC11.out; show _ ≤ _; omega
 have HB13 : Hid (Below w.heap.size w w13) := HW12.out.trans (hc.to_below HW12.out.size HA6.out)
 have HT5n : Hid (¬ A8 T5) := fun e => by
  rcases hA _ e with q | q
  ·exact HT5.out q
  ·have h1 := cell_lt HV5b.out.1; have h2 := HB12.out.size; simp only at h1; omega
 have HT7n : Hid (¬ A8 T7) := fun e => by
  rcases hA _ e with q | q
  ·exact HT7.out q
  ·have h1 := cell_lt HV7b.out.1; have h2 := HB12.out.size; simp only at h1; omega
 have HV5c : Hid (w13.cell? ⟨T5, 0, none⟩ = some (.bool true) ∧ w13.cell? ⟨T5, 1, none⟩ = some (.int .u64 3)) := two_keep (two_below HV5b.out HB12.out) hc HT5.out;have HV7c : Hid (w13.cell? ⟨T7, 0, none⟩ = some (.bool false) ∧ w13.cell? ⟨T7, 1, none⟩ = some (.int .u64 0)) := two_keep (two_below HV7b.out HB12.out) hc HT7.out;clear hrs hA hc hcn HR11 HC11 HB11 HB12 HK12 HW12 HV5b HV7b HT5 HT7 HA6;go_wp2_with fail;refine (query_rs HR13.out (by have := HC13.out; omega) 2 1).mono ?_;rw [aw_q2];rintro e w14 ⟨rfl, S14, hrs, hr, hc⟩;have HR14 := hidH hrs;have HC14 : Hid (cntS P8 S14 ≤ 89) := by have h1 := cnt_rdd (P := P8) hr; have := HC13.out; show _ ≤ _; omega
 have HB14 : Hid (Below w.heap.size w w14) := HB13.out.trans (hc.to_below HB13.out.size HA8.out);have HV5d : Hid (w14.cell? ⟨T5, 0, none⟩ = some (.bool true) ∧ w14.cell? ⟨T5, 1, none⟩ = some (.int .u64 3)) := two_keep HV5c.out hc HT5n.out;have HV7d : Hid (w14.cell? ⟨T7, 0, none⟩ = some (.bool false) ∧ w14.cell? ⟨T7, 1, none⟩ = some (.int .u64 0)) := two_keep HV7c.out hc HT7n.out;clear hrs hr hc HR13 HC13 HB13 HV5c HV7c;go_upto_region 11 with fail
 obtain ⟨T11, hT⟩ : ∃ T, T = w14.heap.size := ⟨_, rfl⟩;have HV11 : Hid ((w14.alloc (Obj.cells #[.bool false, .int .u64 0] 53)).cell? ⟨T11, 0, none⟩ = some (.bool false) ∧ (w14.alloc (Obj.cells #[.bool false, .int .u64 0] 53)).cell? ⟨T11, 1, none⟩ = some (.int .u64 0)) := by rw [hT]; exact vb_newS w14 false 0
 have HV5e : Hid ((w14.alloc (Obj.cells #[.bool false, .int .u64 0] 53)).cell? ⟨T5, 0, none⟩ = some (.bool true) ∧ (w14.alloc (Obj.cells #[.bool false, .int .u64 0] 53)).cell? ⟨T5, 1, none⟩ = some (.int .u64 3)) := two_below HV5d.out (below_alloc _ _);have HV7e : Hid ((w14.alloc (Obj.cells #[.bool false, .int .u64 0] 53)).cell? ⟨T7, 0, none⟩ = some (.bool false) ∧ (w14.alloc (Obj.cells #[.bool false, .int .u64 0] 53)).cell? ⟨T7, 1, none⟩ = some (.int .u64 0)) := two_below HV7d.out (below_alloc _ _);have HT11n : Hid (¬ A8 T11) := fun e => by have h := HR14.out.st.lt e; omega
 have HR15 : Hid (RS A8 (w14.alloc (Obj.cells #[.bool false, .int .u64 0] 53)) (.pointer (some ⟨sp, 0, none⟩)) (.pointer (some ⟨sb, 0, none⟩)) 1 P8 S14 ⟨1, 6, [9]⟩ noS) := HR14.out.below (below_alloc _ _);have HB15 : Hid (Below w.heap.size w (w14.alloc (Obj.cells #[.bool false, .int .u64 0] 53))) := below_trans HB14.out (below_alloc _ _);rw [← hT];generalize (w14.alloc (Obj.cells #[.bool false, .int .u64 0] 53)) = w15 at HV11 HV5e HV7e HR15 HB15 ⊢;clear hT HR14 HB14 HV5d HV7d;go_wp2_with fail;refine (mark_rs HR15.out (by have := HC14.out; omega)).mono ?_;rintro e w16 ⟨kv, rfl, hkv, S16, hrs, hr, hc⟩;have HR16 := hidH hrs;have HC16 : Hid (cntS P8 S16 ≤ 90) := by have h1 := cnt_rdd (P := P8) hr; have := HC14.out; show _ ≤ _; omega
 have HB16 : Hid (Below w.heap.size w w16) := HB15.out.trans (hc.to_below HB15.out.size HA8.out);have HK16 : Hid (Kv w16 kv [9]) := own_sv hkv;have HKA : Hid (∀ x, kv.ownBlock = some x → ¬ A8 x) := fun x hx hA => by have h1 := (hkv.lt x hx).1; have h2 := HR15.out.st.lt hA; omega
 have HV5f : Hid (w16.cell? ⟨T5, 0, none⟩ = some (.bool true) ∧ w16.cell? ⟨T5, 1, none⟩ = some (.int .u64 3)) := two_keep HV5e.out hc HT5n.out;have HV7f : Hid (w16.cell? ⟨T7, 0, none⟩ = some (.bool false) ∧ w16.cell? ⟨T7, 1, none⟩ = some (.int .u64 0)) := two_keep HV7e.out hc HT7n.out;have HV11f : Hid (w16.cell? ⟨T11, 0, none⟩ = some (.bool false) ∧ w16.cell? ⟨T11, 1, none⟩ = some (.int .u64 0)) := two_keep HV11.out hc HT11n.out;obtain ⟨ka, kn, kc, rfl⟩ := sv_any HK16.out;clear hrs hr hc hkv HR15 HC14 HB15 HV5e HV7e HV11;go_upto_region 12 with fail
 obtain ⟨T13, hT⟩ : ∃ T, T = w16.heap.size := ⟨_, rfl⟩;have HM : Hid (MB (w16.alloc (Obj.cells #[.int .i64 1, .int .i64 6, .slice ka kn kc] 65)) T13 1 6 (.slice ka kn kc)) := by rw [hT]; exact mb_new w16 1 6 (.slice ka kn kc)
 have HBM : Hid (Below w16.heap.size w16 (w16.alloc (Obj.cells #[.int .i64 1, .int .i64 6, .slice ka kn kc] 65))) := below_alloc _ _;have HT13 : Hid (¬ A8 T13) := fun e => by have h := HR16.out.st.lt e; omega
 have HV5g : Hid ((w16.alloc (Obj.cells #[.int .i64 1, .int .i64 6, .slice ka kn kc] 65)).cell? ⟨T5, 0, none⟩ = some (.bool true) ∧ (w16.alloc (Obj.cells #[.int .i64 1, .int .i64 6, .slice ka kn kc] 65)).cell? ⟨T5, 1, none⟩ = some (.int .u64 3)) := two_below HV5f.out HBM.out;have HV7g : Hid ((w16.alloc (Obj.cells #[.int .i64 1, .int .i64 6, .slice ka kn kc] 65)).cell? ⟨T7, 0, none⟩ = some (.bool false) ∧ (w16.alloc (Obj.cells #[.int .i64 1, .int .i64 6, .slice ka kn kc] 65)).cell? ⟨T7, 1, none⟩ = some (.int .u64 0)) := two_below HV7f.out HBM.out;have HV11g : Hid ((w16.alloc (Obj.cells #[.int .i64 1, .int .i64 6, .slice ka kn kc] 65)).cell? ⟨T11, 0, none⟩ = some (.bool false) ∧ (w16.alloc (Obj.cells #[.int .i64 1, .int .i64 6, .slice ka kn kc] 65)).cell? ⟨T11, 1, none⟩ = some (.int .u64 0)) := two_below HV11f.out HBM.out;have HK17 := hidH (HK16.out.below HBM.out);have HR17 := hidH (HR16.out.below HBM.out);have HB17 := hidH (below_trans HB16.out HBM.out);rw [← hT];generalize (w16.alloc (Obj.cells #[.int .i64 1, .int .i64 6, .slice ka kn kc] 65)) = w17 at HM HV5g HV7g HV11g HK17 HR17 HB17 HBM ⊢;clear hT HR16 HB16 HV5f HV7f HV11f HK16 HBM;go_wp2_with fail;refine (scells_walk HR17.out.st (fun _ => HR17.out.ce) HR17.out.gk.gd.pok.2.2 (by have h := HC16.out; unfold cntS at h; omega)).mono ?_;rintro e w18 ⟨S8, hst, hr, hc, hcase⟩;rw [getB_ok HR17.out.open] at hst
 have HAW : Hid (AwS w A8 P8 S8 sp sb T5 T7 T11 T13 (.slice ka kn kc) w18) := by
  obtain ⟨c0, c1, c2, _⟩ := HM.out;exact ⟨HB17.out.trans (hc.to_below HB17.out.size HA8.out), HR17.out.rdd hst hr, (two_keep HV5g.out hc HT5n.out).1, (two_keep HV5g.out hc HT5n.out).2, (two_keep HV7g.out hc HT7n.out).1, (two_keep HV7g.out hc HT7n.out).2, (two_keep HV11g.out hc HT11n.out).1, (two_keep HV11g.out hc HT11n.out).2, hc.cell c0 HT13.out, hc.cell c1 HT13.out, hc.cell c2 HT13.out, kv_ch HK17.out hc HKA.out⟩
 obtain ⟨ao, cap, rfl⟩ : ∃ ao cap, e = .returned (.tuple #[.slice ao 0 cap, .int .i64 0]) := by
  rcases hcase with ⟨q, _⟩ | ⟨_, ao, cap, d, e1, _, _, hs, _⟩
  ·rw [HR17.out.open] at q; cases q
  ·have := flat_no hs;subst this;exact ⟨ao, cap, e1⟩
 clear hst hr hc hcase HM HV5g HV7g HV11g HK17 HR17 HB17 HKA HC16 HT5n HT7n HT11n HT13 HA8 HL5 HL7;have q3 : ∀ wx, (binOp .eql 53 (.agg #[.bool true, .int .u64 3]) (.agg #[.bool true, .int .u64 3])).run Tryz.prog wx = .ok (.bool true) wx := eql_val ⟨true, 3⟩;have q0 : ∀ wx, (binOp .eql 53 (.agg #[.bool false, .int .u64 0]) (.agg #[.bool false, .int .u64 0])).run Tryz.prog wx = .ok (.bool true) wx := eql_val ⟨false, 0⟩;have hgv := guard_val;go_upto_region 13 with fail
 generalize Value.tuple #[.slice ao 0 cap, .int .i64 0] = jnk1;refine wp_region_noPanic ?_;refine wp_region_held_drew (S := fun wx => wx.cell? ⟨T5, 0, none⟩ = some (.bool true) ∧ wx.cell? ⟨T5, 1, none⟩ = some (.int .u64 3) ∧ wx.cell? ⟨T7, 0, none⟩ = some (.bool false) ∧ wx.cell? ⟨T7, 1, none⟩ = some (.int .u64 0) ∧ wx.cell? ⟨T11, 0, none⟩ = some (.bool false) ∧ wx.cell? ⟨T11, 1, none⟩ = some (.int .u64 0) ∧ wx.cell? ⟨T13, 0, none⟩ = some (.int .i64 1) ∧ wx.cell? ⟨T13, 1, none⟩ = some (.int .i64 6) ∧ wx.cell? ⟨T13, 2, none⟩ = some (.slice ka kn kc) ∧ Hid (AwS w A8 P8 S8 sp sb T5 T7 T11 T13 (.slice ka kn kc) wx)) (by kernel_rfl) ?_ fun hHeld => ?_
 ·exact aw_held (HAW.out.below (below_drewN _ _))
 refine tkS 0 60 rfl hHeld ?_;refine tkS 1 61 rfl hHeld ?_;refine tkS 2 62 rfl hHeld ?_;refine tkS 3 63 rfl hHeld ?_;refine tkS 4 64 rfl hHeld ?_;refine tkS 5 65 rfl hHeld ?_;refine tkS 6 66 rfl hHeld ?_;refine tkS 7 67 rfl hHeld ?_;refine tkS 8 68 rfl hHeld ?_;refine tkS 9 69 rfl hHeld ?_;refine tkS 10 70 rfl hHeld ?_;refine tkS 11 71 rfl hHeld ?_;refine tkS 12 72 rfl hHeld ?_;refine tkS 13 73 rfl hHeld ?_;refine tkS 14 74 rfl hHeld ?_;refine tkS 15 75 rfl hHeld ?_;refine tkS 16 76 rfl hHeld ?_;refine tkS 17 77 rfl hHeld ?_;refine tkS 18 78 rfl hHeld ?_;refine tkS 19 79 rfl hHeld ?_;refine tkS 20 80 rfl hHeld ?_;refine tkS 21 81 rfl hHeld ?_;refine tkS 22 82 rfl hHeld ?_;refine tkS 23 83 rfl hHeld ?_;refine tkS 24 84 rfl hHeld ?_;refine tkS 25 85 rfl hHeld ?_;refine tkS 26 86 rfl hHeld ?_;refine tkS 27 87 rfl hHeld ?_;refine tkS 28 88 rfl hHeld ?_;refine tkS 29 89 rfl hHeld ?_;refine tkS 30 90 rfl hHeld ?_;refine tkS 31 91 rfl hHeld ?_;refine tkS 32 92 rfl hHeld ?_;refine tkS 33 93 rfl hHeld ?_;refine tkS 34 94 rfl hHeld ?_;refine tkS 35 95 rfl hHeld ?_;refine rdH 36 96 rfl fun K hK => ?_;go_simp;have x36 := hHeld.2.2.2.2.2.2.2.2.2.out;refine (some_walkS 3 _).mono ?_;rintro e9 w36 ⟨rfl, h36⟩;refine hK.out _ _ ?_ fun hHeld => ?_
 ·exact aw_held (x36.below h36)
 clear hK K;try simp only [Act.put, zz]
 refine tkS 37 97 rfl hHeld ?_;refine tkS 38 98 rfl hHeld ?_;refine tkS 39 99 rfl hHeld ?_;refine tkS 40 100 rfl hHeld ?_;refine tkS 41 101 rfl hHeld ?_;refine tkS 42 102 rfl hHeld ?_;refine tkS 43 103 rfl hHeld ?_;refine tkS 44 104 rfl hHeld ?_;refine tkS 45 105 rfl hHeld ?_;refine tkS 46 106 rfl hHeld ?_;refine tkS 47 107 rfl hHeld ?_;refine tkS 48 108 rfl hHeld ?_;refine tkS 49 109 rfl hHeld ?_;refine tkS 50 110 rfl hHeld ?_;refine rdH 51 111 rfl fun K hK => ?_;go_simp;have x51 := hHeld.2.2.2.2.2.2.2.2.2.out;refine hK.out _ _ ?_ fun hHeld => ?_
 ·exact aw_held (x51.below (below_alloc _ _))
 clear hK K;try simp only [Act.put, zz]
 refine tkS 52 112 rfl hHeld ?_;refine rdH 53 113 rfl fun K hK => ?_;go_simp;have x53 := hHeld.2.2.2.2.2.2.2.2.2.out;refine (marks_same x53.kvs (kv_1 w36 9) 1 6).mono ?_;rintro e9 w53 ⟨rfl, h53⟩;refine hK.out _ _ ?_ fun hHeld => ?_
 ·exact aw_held (x53.below h53)
 clear hK K;try simp only [Act.put, zz]
 refine tkS 54 114 rfl hHeld ?_;refine tkS 55 115 rfl hHeld ?_;refine tkS 56 116 rfl hHeld ?_;refine tkS 57 117 rfl hHeld ?_;refine tkS 58 118 rfl hHeld ?_;refine tkS 59 119 rfl hHeld ?_;refine tkS 60 120 rfl hHeld ?_;refine tkS 61 121 rfl hHeld ?_;refine rdH 62 122 rfl fun K hK => ?_;go_simp;have x62 := hHeld.2.2.2.2.2.2.2.2.2.out;refine (aw_used x62).mono ?_;rintro e9 w62 ⟨rfl, h62⟩;replace h62 := h62.symm;subst h62;refine hK.out _ _ ?_ fun hHeld => ?_
 ·exact aw_held x62
 clear hK K;try simp only [Act.put, zz]
 refine tkS 63 123 rfl hHeld ?_;refine tkS 64 124 rfl hHeld ?_;refine tkS 65 125 rfl hHeld ?_;refine tkS 66 126 rfl hHeld ?_;refine rdH 67 127 rfl fun K hK => ?_;go_simp;have x67 := hHeld.2.2.2.2.2.2.2.2.2.out;refine (aw_ended x67).mono ?_;rintro e9 w67 ⟨rfl, h67⟩;replace h67 := h67.symm;subst h67;refine hK.out _ _ ?_ fun hHeld => ?_
 ·exact aw_held x67
 clear hK K;try simp only [Act.put, zz]
 refine tkS 68 128 rfl hHeld ?_;refine tkS 69 129 rfl hHeld ?_;refine tkH 70 0 rfl hHeld ?_;try simp only [Act.put, zA, zB]
 refine wpAnyH_done (by kernel_rfl) ?_ _;refine NoPanic.normal ?_;go_wp2_with fail;go_ret;exact ⟨rfl, (hHeld.2.2.2.2.2.2.2.2.2.out).bb⟩
section
structure Img (lo hi : Nat) (w : World) (g cap : Nat) (bl : List (List Nat)) : Prop where
 gr : Gr (fun x => lo ≤ x ∧ x < hi) w g cap bl
 l1 : lo ≤ g
 l2 : g < hi
section

variable {A : Nat → Prop} {w : World} {sv dv : Value} {k : Int} {P : Bo} {S : Dk} {m : Mk} {Ls : List (List Cl)}

end
end
theorem gP_pgc {P : Bo} {S : Dk} {Ls : List (List Cl)} (h : decP P S 6 = some Ls) {j : Nat} (hj : j < 6) : gP P S 7 (j + 1) = pgc Ls j := by
 unfold gP;rw [if_pos (by omega), (decP_at h j hj).2, show ((j + 1 : Nat) : Int) = 1 + (j : Int) by omega]
theorem gP_16 {P : Bo} {S : Dk} {Ls : List (List Cl)} (h : decP P S 6 = some Ls) (hp : Pok Ls) (j : Nat) : (gP P S 7 j).length ≤ 16 := by
 by_cases hj : 1 ≤ j ∧ j < 7
 ·obtain ⟨i, rfl⟩ : ∃ i, j = i + 1 := ⟨j - 1, by omega⟩;rw [gP_pgc h (by omega)];exact hp.2.2 i (by omega)
 ·unfold gP;rw [if_neg hj];simp
theorem all_flat {P : Bo} {S : Dk} {Ls : List (List Cl)} (h : decP P S 6 = some Ls) : allL (gP P S 7) 6 = Ls.flatten := by
 have h6 := decP_len h
 have e : ∀ n, n ≤ 6 → allL (gP P S 7) n = (Ls.take n).flatten := by
  intro n
  induction n with
  | zero => intro _; rfl
  | succ n ih =>
   intro hn;unfold allL;rw [ih (by omega), gP_pgc h (by omega), flat_step (by omega)]
 rw [e 6 (Nat.le_refl _), List.take_of_length_le (by omega)]
theorem shG_shift (p q : Nat → Bool) : ∀ (n i : Nat), (∀ j, i ≤ j → j < i + n → p j = q (j + 1)) → shG q (i + 1) n = (shG p i n).map (· + 1) := by
 intro n
 induction n with
 | zero => intro i _; rfl
 | succ n ih =>
  intro i h;unfold shG;rw [← h i (Nat.le_refl _) (by omega)]
  split
  ·rfl
  ·exact ih (i + 1) (fun j h1 h2 => h j (by omega) (by omega))
theorem res_same {P : Bo} {S : Dk} {Ls : List (List Cl)} (h : decP P S 6 = some Ls) (k : Nat) (m : Int) : res7 (gP P S 7) k m = shRes Ls k m := by
 have e : at7 (gP P S 7) k = (shAt Ls k).map (· + 1) := by
  unfold at7 shAt;exact shG_shift _ _ 6 0 (fun j _ hj => by rw [gP_pgc h (by omega)])
 unfold res7 shRes;rw [e]
 cases hs : shAt Ls k with
 | none => rfl
 | some i =>
  have hi : i < 6 := by
   unfold shAt at hs
   have q : ∀ (n i0 r : Nat) (p : Nat → Bool), shG p i0 n = some r → r < i0 + n := by
    intro n
    induction n with
    | zero => intro i0 r p h; cases h
    | succ n ih =>
     intro i0 r p h;unfold shG at h
     split at h
     ·cases h; omega
     ·have := ih (i0 + 1) r p h; omega
   have := q 6 0 i _ hs;omega
  simp only [Option.map_some];unfold cellAt;rw [gP_pgc h hi]
theorem srt_one {l d d' : List Cl} (hk : l.Pairwise (fun a b => a.k ≠ b.k)) (h : SrtOf l d) (h' : SrtOf l d') : d = d' := by
 have s1 : d.Pairwise (fun a b => a.k < b.k) := by
  have a := (h.1.pairwise_iff (fun h => Ne.symm h)).2 hk
  exact List.pairwise_iff_getElem.2 fun i j hi hj hij => by
   have q1 := List.pairwise_iff_getElem.1 a i j hi hj hij;have q2 := List.pairwise_iff_getElem.1 h.2 i j hi hj hij;omega
 have s2 : d'.Pairwise (fun a b => a.k < b.k) := by
  have a := (h'.1.pairwise_iff (fun h => Ne.symm h)).2 hk
  exact List.pairwise_iff_getElem.2 fun i j hi hj hij => by
   have q1 := List.pairwise_iff_getElem.1 a i j hi hj hij;have q2 := List.pairwise_iff_getElem.1 h'.2 i j hi hj hij;omega
 exact (h.1.trans h'.1.symm).eq_of_pairwise (fun a b ha hb hab hba => by omega) s1 s2
def Cw (w : World) (v : Value) (d : List Cl) : Prop := ∃ ao cap, v = .slice ao d.length cap ∧ d.length ≤ cap ∧ cap ≤ maxLen ∧ (d ≠ [] → ∃ g, ao = some ⟨g, 0, none⟩ ∧ g < w.heap.size ∧ Mc w g d)
theorem cw_own {w : World} {B : Nat} {v : Value} {d : List Cl} (h : w.ownsRow B 114 6 v d.length (flatC d)) : Cw w v d := by
 have hh := h;rcases h.2 with ⟨rfl, h0⟩ | ⟨g, cap, cur, rfl, hb, hg, hnc, hcm, _⟩
 ·obtain rfl := List.eq_nil_of_length_eq_zero h0;exact ⟨none, 0, rfl, Nat.le_refl _, by simp [maxLen], fun q => absurd rfl q⟩
 ·refine ⟨_, cap, rfl, hnc, hcm, fun _ => ⟨g, rfl, (Array.getElem?_eq_some_iff.1 hg).1, fun i j hi hj => ?_⟩⟩;obtain ⟨h1, h2⟩ := own_cells hh hi;refine ⟨?_, h2 _⟩;obtain ⟨c0, c1, c2, c3, c4, c5⟩ := h1;have hj6 : j = 0 ∨ j = 1 ∨ j = 2 ∨ j = 3 ∨ j = 4 ∨ j = 5 := by omega
  rcases hj6 with rfl | rfl | rfl | rfl | rfl | rfl
  ·simpa [clF] using c0
  ·simpa [clF] using c1
  ·simpa [clF] using c2
  ·simpa [clF] using c3
  ·simpa [clF] using c4
  ·simpa [clF] using c5
theorem cells_same {w : World} {a b : Value} {d : List Cl} (ha : Cw w a d) (hb : Cw w b d) : Calls Tryz.prog 62 #[a, b] w fun e w' => e = .returned (.bool true) ∧ Below w.heap.size w w' := by
 have HA : Hid (Cw w a d) := ha;have HB : Hid (Cw w b d) := hb;obtain ⟨ao, ac, rfl, a1, a2, a3⟩ := ha;obtain ⟨bo, bc, rfl, b1, b2, b3⟩ := hb;have HA3 : Hid (d ≠ [] → ∃ g, ao = some ⟨g, 0, none⟩ ∧ g < w.heap.size ∧ Mc w g d) := a3;have HB3 : Hid (d ≠ [] → ∃ g, bo = some ⟨g, 0, none⟩ ∧ g < w.heap.size ∧ Mc w g d) := b3;obtain ⟨n, hn⟩ : ∃ n, n = d.length := ⟨_, rfl⟩;rw [← hn];have HN : Hid (n = d.length) := hn;have hni : (n : Int) ≤ 9223372036854775807 := by simp only [maxLen] at a2; omega
 clear a1 a2 a3 b1 b2 b3 hn HA HB;go_in;go_wp2_with fail;go_loopw [5] (fun iv wr => ∃ i : Nat, iv = .int .i64 i ∧ i ≤ n ∧ Below w.heap.size w wr) (fun iv _ => n - (intOf iv).toNat)
 case atStart => exact ⟨0, rfl, by omega, Below.refl _ _⟩
 case round =>
  obtain ⟨i, rfl, hi, hB⟩ := hrel;have HB := hidH hB;clear hB;by_cases hlt : i < n;rotate_left
  ·have hlti : ¬ (i : Int) < (n : Int) := by omega
   go_wp2_with fail;go_ret;exact ⟨rfl, HB.out⟩
  ·have hlti : (i : Int) < (n : Int) := by omega
   have hil : i < d.length := by have := HN.out; omega
   have hne : d ≠ [] := fun e => by rw [e] at hil; simp at hil
   obtain ⟨g, rfl, hgl, hgm⟩ := HA3.out hne;obtain ⟨r, rfl, hrl, hrm⟩ := HB3.out hne;obtain ⟨c, hc⟩ : ∃ c, c = d[i] := ⟨_, rfl⟩;have HG := mc_cells (mc_below hgm HB.out hgl) hil;have HR := mc_cells (mc_below hrm HB.out hrl) hil;rw [← hc] at HG HR;have x0 : ∀ wx, Below wr.heap.size wr wx → wx.cell? ⟨g, i * 6, none⟩ = some (.int .u64 c.k) := fun wx h => by rw [h.cell (p := ⟨g, i * 6, none⟩) (cell_lt HG.1)]; exact HG.1
   have x1 : ∀ wx, Below wr.heap.size wr wx → wx.cell? ⟨g, i * 6 + 1, none⟩ = some (.bool c.p.h) := fun wx h => by rw [h.cell (p := ⟨g, i * 6 + 1, none⟩) (cell_lt HG.2.1)]; exact HG.2.1
   have x2 : ∀ wx, Below wr.heap.size wr wx → wx.cell? ⟨g, i * 6 + 2, none⟩ = some (.int .u64 c.p.b) := fun wx h => by rw [h.cell (p := ⟨g, i * 6 + 2, none⟩) (cell_lt HG.2.2.1)]; exact HG.2.2.1
   have x3 : ∀ wx, Below wr.heap.size wr wx → wx.cell? ⟨g, i * 6 + 3, none⟩ = some (.bool c.c.h) := fun wx h => by rw [h.cell (p := ⟨g, i * 6 + 3, none⟩) (cell_lt HG.2.2.2.1)]; exact HG.2.2.2.1
   have x4 : ∀ wx, Below wr.heap.size wr wx → wx.cell? ⟨g, i * 6 + 4, none⟩ = some (.int .u64 c.c.b) := fun wx h => by rw [h.cell (p := ⟨g, i * 6 + 4, none⟩) (cell_lt HG.2.2.2.2.1)]; exact HG.2.2.2.2.1
   have x5 : ∀ wx, Below wr.heap.size wr wx → wx.cell? ⟨g, i * 6 + 5, none⟩ = some (.int .i64 c.n) := fun wx h => by rw [h.cell (p := ⟨g, i * 6 + 5, none⟩) (cell_lt HG.2.2.2.2.2)]; exact HG.2.2.2.2.2
   have y0 : ∀ wx, Below wr.heap.size wr wx → wx.cell? ⟨r, i * 6, none⟩ = some (.int .u64 c.k) := fun wx h => by rw [h.cell (p := ⟨r, i * 6, none⟩) (cell_lt HR.1)]; exact HR.1
   have y1 : ∀ wx, Below wr.heap.size wr wx → wx.cell? ⟨r, i * 6 + 1, none⟩ = some (.bool c.p.h) := fun wx h => by rw [h.cell (p := ⟨r, i * 6 + 1, none⟩) (cell_lt HR.2.1)]; exact HR.2.1
   have y2 : ∀ wx, Below wr.heap.size wr wx → wx.cell? ⟨r, i * 6 + 2, none⟩ = some (.int .u64 c.p.b) := fun wx h => by rw [h.cell (p := ⟨r, i * 6 + 2, none⟩) (cell_lt HR.2.2.1)]; exact HR.2.2.1
   have y3 : ∀ wx, Below wr.heap.size wr wx → wx.cell? ⟨r, i * 6 + 3, none⟩ = some (.bool c.c.h) := fun wx h => by rw [h.cell (p := ⟨r, i * 6 + 3, none⟩) (cell_lt HR.2.2.2.1)]; exact HR.2.2.2.1
   have y4 : ∀ wx, Below wr.heap.size wr wx → wx.cell? ⟨r, i * 6 + 4, none⟩ = some (.int .u64 c.c.b) := fun wx h => by rw [h.cell (p := ⟨r, i * 6 + 4, none⟩) (cell_lt HR.2.2.2.2.1)]; exact HR.2.2.2.2.1
   have y5 : ∀ wx, Below wr.heap.size wr wx → wx.cell? ⟨r, i * 6 + 5, none⟩ = some (.int .i64 c.n) := fun wx h => by rw [h.cell (p := ⟨r, i * 6 + 5, none⟩) (cell_lt HR.2.2.2.2.2)]; exact HR.2.2.2.2.2
   have qv : ∀ wx, (binOp .neq 114 (.agg #[.int .u64 c.k, .bool c.p.h, .int .u64 c.p.b, .bool c.c.h, .int .u64 c.c.b, .int .i64 c.n]) (.agg #[.int .u64 c.k, .bool c.p.h, .int .u64 c.p.b, .bool c.c.h, .int .u64 c.c.b, .int .i64 c.n])).run Tryz.prog wx = .ok (.bool false) wx := neq_cell c;have hgc := guard_cell;clear HG HR hgm hrm hgl hrl hc hne hil;go_upto_region 6 with fail
   refine wp_region_noPanic ?_;refine wp_region_held_drew (S := fun wx => Below wr.heap.size wr wx) (by kernel_rfl) ?_ fun hHeld => ?_
   ·exact (Below.refl _ _).drew
   refine tkS 0 17 rfl hHeld ?_;refine tkS 1 18 rfl hHeld ?_;refine tkS 2 19 rfl hHeld ?_;refine tkS 3 20 rfl hHeld ?_;refine tkS 4 21 rfl hHeld ?_;refine tkS 5 22 rfl hHeld ?_;refine tkS 6 23 rfl hHeld ?_;refine tkS 7 24 rfl hHeld ?_;refine tkS 8 25 rfl hHeld ?_;refine wpAnyH_done (by kernel_rfl) ?_ _;refine NoPanic.normal ?_;clear x0 x1 x2 x3 x4 x5 y0 y1 y2 y3 y4 y5 qv hgc;go_wp2_with fail;go_roundw
   case rel => exact ⟨i + 1, by go_num, hlt, below_trans HB.out hHeld⟩
   case measure => simp [intOf]; omega
theorem scells_nil (w : World) : Calls Tryz.prog 34 #[.pointer none] w fun e w' => e = .returned (.tuple #[.slice none 0 0, .int .i64 2]) ∧ Below w.heap.size w w' := by
 go_in;go_wp2_with fail;refine (cells_nil _).mono ?_;rintro e w1 ⟨rfl, hb⟩;have HB := hidH hb;clear hb;go_wp2_with fail;go_ret2;exact ⟨rfl, below_trans HB.out (below_alloc _ _)⟩
theorem squery_nil (w : World) (key : Nat) (n : Int) : Calls Tryz.prog 27 #[.pointer none, .int .u64 key, .int .i64 n] w fun e w' => e = .returned (.tuple #[.agg #[.bool false, .int .u64 0], .int .i64 2]) ∧ Below w.heap.size w w' := by
 have HV : Hid (VZ (w.alloc (Obj.cells #[.bool false, .int .u64 0] 53)) w.heap.size) := vz_new w;have HB0 : Hid (Below w.heap.size w (w.alloc (Obj.cells #[.bool false, .int .u64 0] 53))) := below_alloc _ _;go_in;go_upto_region 1 with fail
 generalize hR : w.heap.size = R at HV ⊢;have HR : Hid (w.heap.size = R) := hR;clear hR;generalize w.alloc (Obj.cells #[.bool false, .int .u64 0] 53) = w0 at HV HB0 ⊢;go_wp2_with fail;refine (cells_nil _).mono ?_;rintro e w1 ⟨rfl, hb⟩;have HV1 : Hid (VZ w1 R) := HV.out.below hb;have HB1 := hidH (below_trans HB0.out hb);clear hb HV;go_upto_region 2 with fail
 have HV2 : Hid _ := HV1.out.below (below_alloc w1 (Obj.cells #[.slice none 0 0, .slice none 0 0, .slice none 0 0, .slice none 0 0, .slice none 0 0, .slice none 0 0] 87));have HB2 : Hid _ := below_trans HB1.out (below_alloc w1 (Obj.cells #[.slice none 0 0, .slice none 0 0, .slice none 0 0, .slice none 0 0, .slice none 0 0, .slice none 0 0] 87));generalize w1.alloc (Obj.cells #[.slice none 0 0, .slice none 0 0, .slice none 0 0, .slice none 0 0, .slice none 0 0, .slice none 0 0] 87) = w2 at HV2 HB2 ⊢;obtain ⟨r0, r1, rz⟩ := HV2.out;have z0 := rz 0;have z1 := rz 1;clear rz;go_wp2_with fail
 (try simp only [Exit.inBlock, Exit.then])
 refine bodyPost_ret (v := .tuple #[.agg #[.bool false, .int .u64 0], .int .i64 2]) (by rw [results_cell_tmp rfl]; go_simp) rfl ?_;have hN : w.heap.size ≤ R := by rw [HR.out]; exact Nat.le_refl _
 exact ⟨rfl, (HB2.out.setCell hN _).setCell hN _⟩
end Go.Proofs.YtcmklbibehnloaaGreat
