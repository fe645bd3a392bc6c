/- StoreCrash: the store, the power, and what is kept beside them. -/
import Derived.Test.YtofkhgokfdpdiabGreatB02
import Derived.Test.YtofkhgokfdpdiabGreatB49
set_option maxRecDepth 100000
set_option maxHeartbeats 16000000
namespace Go.Proofs.YtofkhgokfdpdiabGreat
section
open Go.RowKit

theorem vb_newS (w : World) (h : Bool) (b : Nat) : (w.alloc (Obj.cells #[.bool h, .int .u64 (b : Int)] 58)).cell? ⟨w.heap.size, 0, none⟩ = some (.bool h) ∧ (w.alloc (Obj.cells #[.bool h, .int .u64 (b : Int)] 58)).cell? ⟨w.heap.size, 1, none⟩ = some (.int .u64 (b : Int)) := by constructor <;> simp [go_sem]
theorem two_keep {D : Nat → Prop} {w w' : World} {T : Nat} {u v : Value} (h : w.cell? ⟨T, 0, none⟩ = some u ∧ w.cell? ⟨T, 1, none⟩ = some v) (hc : Ch D w w') (hd : ¬ D T) : w'.cell? ⟨T, 0, none⟩ = some u ∧ w'.cell? ⟨T, 1, none⟩ = some v := ⟨hc.cell h.1 hd, hc.cell h.2 hd⟩
theorem two_below {w w' : World} {T : Nat} {u v : Value} (h : w.cell? ⟨T, 0, none⟩ = some u ∧ w.cell? ⟨T, 1, none⟩ = some v) (hc : Below w.heap.size w w') : w'.cell? ⟨T, 0, none⟩ = some u ∧ w'.cell? ⟨T, 1, none⟩ = some v := two_keep (D := fun _ => False) h (Ch.of_below hc) (fun e => e)
theorem awake_walkS (w : World) : Calls Tryz.prog 5 #[] w fun e w' => e = .returned (.bool true) ∧ Below w.heap.size w w' := by
 go_in
 go_wp2_with fail
 refine (fresh_walk (k := 1) rfl w).mono ?_
 rintro e w1 ⟨A1, P1, S1, sp, sb, rfl, hrs, hA, hsp, hcn, hbl, hB⟩
 have HR1 := hidH hrs
 have HA1 := hidH hA
 have HC1 : Hid (cntS P1 S1 ≤ 12) := hcn
 have HB1 := hidH hB
 clear hrs hA hsp hcn hbl hB
 go_upto_region 4 with fail
 have HB2 : Hid (Below w1.heap.size w1 (w1.alloc (Obj.cells #[.int .u64 2, .int .u64 9] 33))) := below_alloc _ _
 have HK2 : Hid (Kv (w1.alloc (Obj.cells #[.int .u64 2, .int .u64 9] 33)) (.slice (some ⟨w1.heap.size, 0, none⟩) 2 2) [2, 9]) := kv_2 w1 2 9
 go_wp2_with fail
 refine (begin_open (HR1.out.below HB2.out) (by have := HC1.out; omega) HK2.out (by intro x hx; simp at hx; omega) (fun x hx hA => by have h := HR1.out.st.lt hA; simp [Value.ownBlock] at hx; omega) (b := 1) (a := 4) (.inr rfl) (by omega) (by omega) (by omega) (by omega) (by simp) rfl (.inl (by decide))).mono ?_
 rw [aw_beg]
 rintro e w3 ⟨rfl, A3, P3, S3, hrs, hA, hc, hcn, _, _⟩
 have HW2 := hidH (below_trans HB1.out HB2.out)
 have HR3 := hidH hrs
 have HA3 : Hid (∀ x, A3 x → w.heap.size ≤ x) := fun x hx => by
  rcases hA x hx with q | q
  ·exact HA1.out x q
  ·have := HW2.out.size; omega
 have HC3 : Hid (cntS P3 S3 ≤ 29) := by have := HC1.out; show _ ≤ _; omega
 have HB3 : Hid (Below w.heap.size w w3) := HW2.out.trans (hc.to_below HW2.out.size HA1.out)
 clear hrs hA hc hcn HR1 HA1 HC1 HB1 HB2 HK2 HW2
 go_wp2_with fail
 refine (pair_walkS 2 3 w3).mono ?_
 rintro e w4 ⟨rfl, hb4⟩
 have HR4 := hidH (HR3.out.below hb4)
 have HB4 := hidH (below_trans HB3.out hb4)
 have HQ4 : Hid (Qv (w4.alloc (Obj.cells #[.int .u64 2, .bool true, .int .u64 3] 60)) (.slice (some ⟨w4.heap.size, 0, none⟩) 1 1) awT) := qv_1 w4 ⟨2, ⟨true, 3⟩⟩ ⟨by decide, by show (3 : Nat) < _; decide⟩
 have HB5 : Hid (Below w4.heap.size w4 (w4.alloc (Obj.cells #[.int .u64 2, .bool true, .int .u64 3] 60))) := below_alloc _ _
 have HW5 := hidH (below_trans HB4.out HB5.out)
 clear hb4 HR3 HB3
 go_wp2_with fail
 refine (apply_open (HR4.out.below HB5.out) (by have := HC3.out; omega) HQ4.out (fun x hx hA => by have h := HR4.out.st.lt hA; simp [Value.ownBlock] at hx; omega) (by show (1 : Int) ≤ 1; omega) (by show (1 : Int) ≤ 4; omega) aw_ta (by
  obtain ⟨L, e, g, _⟩ := app_all (k := 1) (m := ⟨1, 4, [2, 9]⟩) (b := 1) rfl (by omega) awT noS HR4.out.gk low_no aw_ta
  exact ⟨L, e, g⟩)).mono ?_
 rw [aw_app]
 rintro e w6 ⟨rfl, A6, P6, S6, hrs, hA, hc, hcn, _, _⟩
 have HR6 := hidH hrs
 have HA6 : Hid (∀ x, A6 x → w.heap.size ≤ x) := fun x hx => by
  rcases hA x hx with q | q
  ·exact HA3.out x q
  ·have := HW5.out.size; omega
 have HC6 : Hid (cntS P6 S6 ≤ 46) := by have := HC3.out; show _ ≤ _; omega
 have HB6 : Hid (Below w.heap.size w w6) := HW5.out.trans (hc.to_below HW5.out.size HA3.out)
 clear hrs hA hc hcn HR4 HA3 HC3 HB4 HQ4 HB5 HW5
 go_wp2_with fail
 refine (query_rs HR6.out (by have := HC6.out; omega) 2 1).mono ?_
 rw [aw_q1]
 rintro e w7 ⟨rfl, S7, hrs, hr, hc⟩
 have HR7 := hidH hrs
 have HC7 : Hid (cntS P6 S7 ≤ 52) := by have h1 := cnt_rdd (P := P6) hr; have := HC6.out; show _ ≤ _; omega
 have HB7 : Hid (Below w.heap.size w w7) := HB6.out.trans (hc.to_below HB6.out.size HA6.out)
 clear hrs hr hc HR6 HC6 HB6
 go_upto_region 7 with fail
 obtain ⟨T5, hT⟩ : ∃ T, T = w7.heap.size := ⟨_, rfl⟩
 have HV5 : Hid ((w7.alloc (Obj.cells #[.bool true, .int .u64 3] 58)).cell? ⟨T5, 0, none⟩ = some (.bool true) ∧ (w7.alloc (Obj.cells #[.bool true, .int .u64 3] 58)).cell? ⟨T5, 1, none⟩ = some (.int .u64 3)) := by rw [hT]; exact vb_newS w7 true 3
 have HT5 : Hid (¬ A6 T5) := fun e => by have h := HR7.out.st.lt e; omega
 have HL5 : Hid (w.heap.size ≤ T5) := by rw [hT]; exact HB7.out.size
 have HR8 : Hid (RS A6 (w7.alloc (Obj.cells #[.bool true, .int .u64 3] 58)) (.pointer (some ⟨sp, 0, none⟩)) (.pointer (some ⟨sb, 0, none⟩)) 1 P6 S7 ⟨1, 4, [2, 9]⟩ awL) := HR7.out.below (below_alloc _ _)
 have HB8 : Hid (Below w.heap.size w (w7.alloc (Obj.cells #[.bool true, .int .u64 3] 58))) := below_trans HB7.out (below_alloc _ _)
 rw [← hT]
 generalize (w7.alloc (Obj.cells #[.bool true, .int .u64 3] 58)) = w8 at HV5 HR8 HB8 ⊢
 clear hT HR7 HB7
 go_wp2_with fail
 refine (query_rs HR8.out (by have := HC7.out; omega) 2 0).mono ?_
 rw [aw_q0]
 rintro e w9 ⟨rfl, S9, hrs, hr, hc⟩
 have HR9 := hidH hrs
 have HC9 : Hid (cntS P6 S9 ≤ 58) := by have h1 := cnt_rdd (P := P6) hr; have := HC7.out; show _ ≤ _; omega
 have HB9 : Hid (Below w.heap.size w w9) := HB8.out.trans (hc.to_below HB8.out.size HA6.out)
 have HV59 : Hid (w9.cell? ⟨T5, 0, none⟩ = some (.bool true) ∧ w9.cell? ⟨T5, 1, none⟩ = some (.int .u64 3)) := two_keep HV5.out hc HT5.out
 clear hrs hr hc HR8 HC7 HB8 HV5
 go_upto_region 8 with fail
 obtain ⟨T7, hT⟩ : ∃ T, T = w9.heap.size := ⟨_, rfl⟩
 have HV7 : Hid ((w9.alloc (Obj.cells #[.bool false, .int .u64 0] 58)).cell? ⟨T7, 0, none⟩ = some (.bool false) ∧ (w9.alloc (Obj.cells #[.bool false, .int .u64 0] 58)).cell? ⟨T7, 1, none⟩ = some (.int .u64 0)) := by rw [hT]; exact vb_newS w9 false 0
 have HV5a : Hid ((w9.alloc (Obj.cells #[.bool false, .int .u64 0] 58)).cell? ⟨T5, 0, none⟩ = some (.bool true) ∧ (w9.alloc (Obj.cells #[.bool false, .int .u64 0] 58)).cell? ⟨T5, 1, none⟩ = some (.int .u64 3)) := two_below HV59.out (below_alloc _ _)
 have HT7 : Hid (¬ A6 T7) := fun e => by have h := HR9.out.st.lt e; omega
 have HL7 : Hid (w.heap.size ≤ T7) := by rw [hT]; exact HB9.out.size
 have HR10 : Hid (RS A6 (w9.alloc (Obj.cells #[.bool false, .int .u64 0] 58)) (.pointer (some ⟨sp, 0, none⟩)) (.pointer (some ⟨sb, 0, none⟩)) 1 P6 S9 ⟨1, 4, [2, 9]⟩ awL) := HR9.out.below (below_alloc _ _)
 have HB10 : Hid (Below w.heap.size w (w9.alloc (Obj.cells #[.bool false, .int .u64 0] 58))) := below_trans HB9.out (below_alloc _ _)
 rw [← hT]
 generalize (w9.alloc (Obj.cells #[.bool false, .int .u64 0] 58)) = w10 at HV7 HV5a HR10 HB10 ⊢
 clear hT HR9 HB9 HV59
 go_wp2_with fail
 refine (apply_not HR10.out (by have := HC9.out; omega) (qv_0 w10) (by intro x hx; simp [Value.ownBlock] at hx) (b := 1) (a := 3) aw_fen).mono ?_
 rintro e w11 ⟨rfl, S11, hrs, hr, hc⟩
 have HR11 := hidH hrs
 have HC11 : Hid (cntS P6 S11 ≤ 66) := by have h1 := cnt_rdd (P := P6) hr; have := HC9.out; show _ ≤ _; omega
 have HB11 : Hid (Below w.heap.size w w11) := HB10.out.trans (hc.to_below HB10.out.size HA6.out)
 have HV5b : Hid (w11.cell? ⟨T5, 0, none⟩ = some (.bool true) ∧ w11.cell? ⟨T5, 1, none⟩ = some (.int .u64 3)) := two_keep HV5a.out hc HT5.out
 have HV7b : Hid (w11.cell? ⟨T7, 0, none⟩ = some (.bool false) ∧ w11.cell? ⟨T7, 1, none⟩ = some (.int .u64 0)) := two_keep HV7.out hc HT7.out
 clear hrs hr hc HR10 HC9 HB10 HV5a HV7
 go_upto_region 9 with fail
 have HB12 : Hid (Below w11.heap.size w11 (w11.alloc (Obj.cells #[.int .u64 9] 33))) := below_alloc _ _
 have HK12 : Hid (Kv (w11.alloc (Obj.cells #[.int .u64 9] 33)) (.slice (some ⟨w11.heap.size, 0, none⟩) 1 1) [9]) := kv_1 w11 9
 have HW12 := hidH (below_trans HB11.out HB12.out)
 go_wp2_with fail
 refine (begin_open (HR11.out.below HB12.out) (by have := HC11.out; omega) HK12.out (by intro x hx; simp at hx; omega) (fun x hx hA => by have h := HR11.out.st.lt hA; simp [Value.ownBlock] at hx; omega) (b := 1) (a := 6) (.inl rfl) (by omega) (by omega) (by omega) (by omega) (by simp) rfl (.inr ⟨rfl, by decide⟩)).mono ?_
 rw [aw_revS]
 rintro e w13 ⟨rfl, A8, P8, S13, hrs, hA, hc, hcn, _, _⟩
 have HR13 := hidH hrs
 have HA8 : Hid (∀ x, A8 x → w.heap.size ≤ x) := fun x hx => by
  rcases hA x hx with q | q
  ·exact HA6.out x q
  ·have := HW12.out.size; omega
 have HC13 : Hid (cntS P8 S13 ≤ 83) := by have := HC11.out; show _ ≤ _; omega
 have HB13 : Hid (Below w.heap.size w w13) := HW12.out.trans (hc.to_below HW12.out.size HA6.out)
 have HT5n : Hid (¬ A8 T5) := fun e => by
  rcases hA _ e with q | q
  ·exact HT5.out q
  ·have h1 := cell_lt HV5b.out.1; have h2 := HB12.out.size; simp only at h1; omega
 have HT7n : Hid (¬ A8 T7) := fun e => by
  rcases hA _ e with q | q
  ·exact HT7.out q
  ·have h1 := cell_lt HV7b.out.1; have h2 := HB12.out.size; simp only at h1; omega
 have HV5c : Hid (w13.cell? ⟨T5, 0, none⟩ = some (.bool true) ∧ w13.cell? ⟨T5, 1, none⟩ = some (.int .u64 3)) := two_keep (two_below HV5b.out HB12.out) hc HT5.out
 have HV7c : Hid (w13.cell? ⟨T7, 0, none⟩ = some (.bool false) ∧ w13.cell? ⟨T7, 1, none⟩ = some (.int .u64 0)) := two_keep (two_below HV7b.out HB12.out) hc HT7.out
 clear hrs hA hc hcn HR11 HC11 HB11 HB12 HK12 HW12 HV5b HV7b HT5 HT7 HA6
 go_wp2_with fail
 refine (query_rs HR13.out (by have := HC13.out; omega) 2 1).mono ?_
 rw [aw_q2]
 rintro e w14 ⟨rfl, S14, hrs, hr, hc⟩
 have HR14 := hidH hrs
 have HC14 : Hid (cntS P8 S14 ≤ 89) := by have h1 := cnt_rdd (P := P8) hr; have := HC13.out; show _ ≤ _; omega
 have HB14 : Hid (Below w.heap.size w w14) := HB13.out.trans (hc.to_below HB13.out.size HA8.out)
 have HV5d : Hid (w14.cell? ⟨T5, 0, none⟩ = some (.bool true) ∧ w14.cell? ⟨T5, 1, none⟩ = some (.int .u64 3)) := two_keep HV5c.out hc HT5n.out
 have HV7d : Hid (w14.cell? ⟨T7, 0, none⟩ = some (.bool false) ∧ w14.cell? ⟨T7, 1, none⟩ = some (.int .u64 0)) := two_keep HV7c.out hc HT7n.out
 clear hrs hr hc HR13 HC13 HB13 HV5c HV7c
 go_upto_region 11 with fail
 obtain ⟨T11, hT⟩ : ∃ T, T = w14.heap.size := ⟨_, rfl⟩
 have HV11 : Hid ((w14.alloc (Obj.cells #[.bool false, .int .u64 0] 58)).cell? ⟨T11, 0, none⟩ = some (.bool false) ∧ (w14.alloc (Obj.cells #[.bool false, .int .u64 0] 58)).cell? ⟨T11, 1, none⟩ = some (.int .u64 0)) := by rw [hT]; exact vb_newS w14 false 0
 have HV5e : Hid ((w14.alloc (Obj.cells #[.bool false, .int .u64 0] 58)).cell? ⟨T5, 0, none⟩ = some (.bool true) ∧ (w14.alloc (Obj.cells #[.bool false, .int .u64 0] 58)).cell? ⟨T5, 1, none⟩ = some (.int .u64 3)) := two_below HV5d.out (below_alloc _ _)
 have HV7e : Hid ((w14.alloc (Obj.cells #[.bool false, .int .u64 0] 58)).cell? ⟨T7, 0, none⟩ = some (.bool false) ∧ (w14.alloc (Obj.cells #[.bool false, .int .u64 0] 58)).cell? ⟨T7, 1, none⟩ = some (.int .u64 0)) := two_below HV7d.out (below_alloc _ _)
 have HT11n : Hid (¬ A8 T11) := fun e => by have h := HR14.out.st.lt e; omega
 have HR15 : Hid (RS A8 (w14.alloc (Obj.cells #[.bool false, .int .u64 0] 58)) (.pointer (some ⟨sp, 0, none⟩)) (.pointer (some ⟨sb, 0, none⟩)) 1 P8 S14 ⟨1, 6, [9]⟩ noS) := HR14.out.below (below_alloc _ _)
 have HB15 : Hid (Below w.heap.size w (w14.alloc (Obj.cells #[.bool false, .int .u64 0] 58))) := below_trans HB14.out (below_alloc _ _)
 rw [← hT]
 generalize (w14.alloc (Obj.cells #[.bool false, .int .u64 0] 58)) = w15 at HV11 HV5e HV7e HR15 HB15 ⊢
 clear hT HR14 HB14 HV5d HV7d
 go_wp2_with fail
 refine (mark_rs HR15.out (by have := HC14.out; omega)).mono ?_
 rintro e w16 ⟨kv, rfl, hkv, S16, hrs, hr, hc⟩
 have HR16 := hidH hrs
 have HC16 : Hid (cntS P8 S16 ≤ 90) := by have h1 := cnt_rdd (P := P8) hr; have := HC14.out; show _ ≤ _; omega
 have HB16 : Hid (Below w.heap.size w w16) := HB15.out.trans (hc.to_below HB15.out.size HA8.out)
 have HK16 : Hid (Kv w16 kv [9]) := own_sv hkv
 have HKA : Hid (∀ x, kv.ownBlock = some x → ¬ A8 x) := fun x hx hA => by have h1 := (hkv.lt x hx).1; have h2 := HR15.out.st.lt hA; omega
 have HV5f : Hid (w16.cell? ⟨T5, 0, none⟩ = some (.bool true) ∧ w16.cell? ⟨T5, 1, none⟩ = some (.int .u64 3)) := two_keep HV5e.out hc HT5n.out
 have HV7f : Hid (w16.cell? ⟨T7, 0, none⟩ = some (.bool false) ∧ w16.cell? ⟨T7, 1, none⟩ = some (.int .u64 0)) := two_keep HV7e.out hc HT7n.out
 have HV11f : Hid (w16.cell? ⟨T11, 0, none⟩ = some (.bool false) ∧ w16.cell? ⟨T11, 1, none⟩ = some (.int .u64 0)) := two_keep HV11.out hc HT11n.out
 obtain ⟨ka, kn, kc, rfl⟩ := sv_any HK16.out
 clear hrs hr hc hkv HR15 HC14 HB15 HV5e HV7e HV11
 go_upto_region 12 with fail
 obtain ⟨T13, hT⟩ : ∃ T, T = w16.heap.size := ⟨_, rfl⟩
 have HM : Hid (MB (w16.alloc (Obj.cells #[.int .i64 1, .int .i64 6, .slice ka kn kc] 42)) T13 1 6 (.slice ka kn kc)) := by rw [hT]; exact mb_new w16 1 6 (.slice ka kn kc)
 have HBM : Hid (Below w16.heap.size w16 (w16.alloc (Obj.cells #[.int .i64 1, .int .i64 6, .slice ka kn kc] 42))) := below_alloc _ _
 have HT13 : Hid (¬ A8 T13) := fun e => by have h := HR16.out.st.lt e; omega
 have HV5g : Hid ((w16.alloc (Obj.cells #[.int .i64 1, .int .i64 6, .slice ka kn kc] 42)).cell? ⟨T5, 0, none⟩ = some (.bool true) ∧ (w16.alloc (Obj.cells #[.int .i64 1, .int .i64 6, .slice ka kn kc] 42)).cell? ⟨T5, 1, none⟩ = some (.int .u64 3)) := two_below HV5f.out HBM.out
 have HV7g : Hid ((w16.alloc (Obj.cells #[.int .i64 1, .int .i64 6, .slice ka kn kc] 42)).cell? ⟨T7, 0, none⟩ = some (.bool false) ∧ (w16.alloc (Obj.cells #[.int .i64 1, .int .i64 6, .slice ka kn kc] 42)).cell? ⟨T7, 1, none⟩ = some (.int .u64 0)) := two_below HV7f.out HBM.out
 have HV11g : Hid ((w16.alloc (Obj.cells #[.int .i64 1, .int .i64 6, .slice ka kn kc] 42)).cell? ⟨T11, 0, none⟩ = some (.bool false) ∧ (w16.alloc (Obj.cells #[.int .i64 1, .int .i64 6, .slice ka kn kc] 42)).cell? ⟨T11, 1, none⟩ = some (.int .u64 0)) := two_below HV11f.out HBM.out
 have HK17 := hidH (HK16.out.below HBM.out)
 have HR17 := hidH (HR16.out.below HBM.out)
 have HB17 := hidH (below_trans HB16.out HBM.out)
 rw [← hT]
 generalize (w16.alloc (Obj.cells #[.int .i64 1, .int .i64 6, .slice ka kn kc] 42)) = w17 at HM HV5g HV7g HV11g HK17 HR17 HB17 HBM ⊢
 clear hT HR16 HB16 HV5f HV7f HV11f HK16 HBM
 go_wp2_with fail
 refine (scells_walk HR17.out.st (fun _ => HR17.out.ce) HR17.out.gk.gd.pok.2.2 (by have h := HC16.out; unfold cntS at h; omega)).mono ?_
 rintro e w18 ⟨S8, hst, hr, hc, hcase⟩
 rw [getB_ok HR17.out.open] at hst
 have HAW : Hid (AwS w A8 P8 S8 sp sb T5 T7 T11 T13 (.slice ka kn kc) w18) := by
  obtain ⟨c0, c1, c2, _⟩ := HM.out
  exact ⟨HB17.out.trans (hc.to_below HB17.out.size HA8.out), HR17.out.rdd hst hr, (two_keep HV5g.out hc HT5n.out).1, (two_keep HV5g.out hc HT5n.out).2, (two_keep HV7g.out hc HT7n.out).1, (two_keep HV7g.out hc HT7n.out).2, (two_keep HV11g.out hc HT11n.out).1, (two_keep HV11g.out hc HT11n.out).2, hc.cell c0 HT13.out, hc.cell c1 HT13.out, hc.cell c2 HT13.out, kv_ch HK17.out hc HKA.out⟩
 obtain ⟨ao, cap, rfl⟩ : ∃ ao cap, e = .returned (.tuple #[.slice ao 0 cap, .int .i64 0]) := by
  rcases hcase with ⟨q, _⟩ | ⟨_, ao, cap, d, e1, _, _, hs, _⟩
  ·rw [HR17.out.open] at q; cases q
  ·have := flat_no hs
   subst this
   exact ⟨ao, cap, e1⟩
 clear hst hr hc hcase HM HV5g HV7g HV11g HK17 HR17 HB17 HKA HC16 HT5n HT7n HT11n HT13 HA8 HL5 HL7
 have q3 : ∀ wx, (binOp .eql 58 (.agg #[.bool true, .int .u64 3]) (.agg #[.bool true, .int .u64 3])).run Tryz.prog wx = .ok (.bool true) wx := eql_val ⟨true, 3⟩
 have q0 : ∀ wx, (binOp .eql 58 (.agg #[.bool false, .int .u64 0]) (.agg #[.bool false, .int .u64 0])).run Tryz.prog wx = .ok (.bool true) wx := eql_val ⟨false, 0⟩
 have hgv := guard_val
 go_upto_region 13 with fail
 generalize Value.tuple #[.slice ao 0 cap, .int .i64 0] = jnk1
 refine wp_region_noPanic ?_
 refine wp_region_held_drew (S := fun wx => wx.cell? ⟨T5, 0, none⟩ = some (.bool true) ∧ wx.cell? ⟨T5, 1, none⟩ = some (.int .u64 3) ∧ wx.cell? ⟨T7, 0, none⟩ = some (.bool false) ∧ wx.cell? ⟨T7, 1, none⟩ = some (.int .u64 0) ∧ wx.cell? ⟨T11, 0, none⟩ = some (.bool false) ∧ wx.cell? ⟨T11, 1, none⟩ = some (.int .u64 0) ∧ wx.cell? ⟨T13, 0, none⟩ = some (.int .i64 1) ∧ wx.cell? ⟨T13, 1, none⟩ = some (.int .i64 6) ∧ wx.cell? ⟨T13, 2, none⟩ = some (.slice ka kn kc) ∧ Hid (AwS w A8 P8 S8 sp sb T5 T7 T11 T13 (.slice ka kn kc) wx)) (by kernel_rfl) ?_ (fun hHeld => ?_)
 ·exact aw_held (HAW.out.below (below_drewN _ _))
 refine tkS 0 60 rfl hHeld ?_
 refine tkS 1 61 rfl hHeld ?_
 refine tkS 2 62 rfl hHeld ?_
 refine tkS 3 63 rfl hHeld ?_
 refine tkS 4 64 rfl hHeld ?_
 refine tkS 5 65 rfl hHeld ?_
 refine tkS 6 66 rfl hHeld ?_
 refine tkS 7 67 rfl hHeld ?_
 refine tkS 8 68 rfl hHeld ?_
 refine tkS 9 69 rfl hHeld ?_
 refine tkS 10 70 rfl hHeld ?_
 refine tkS 11 71 rfl hHeld ?_
 refine tkS 12 72 rfl hHeld ?_
 refine tkS 13 73 rfl hHeld ?_
 refine tkS 14 74 rfl hHeld ?_
 refine tkS 15 75 rfl hHeld ?_
 refine tkS 16 76 rfl hHeld ?_
 refine tkS 17 77 rfl hHeld ?_
 refine tkS 18 78 rfl hHeld ?_
 refine tkS 19 79 rfl hHeld ?_
 refine tkS 20 80 rfl hHeld ?_
 refine tkS 21 81 rfl hHeld ?_
 refine tkS 22 82 rfl hHeld ?_
 refine tkS 23 83 rfl hHeld ?_
 refine tkS 24 84 rfl hHeld ?_
 refine tkS 25 85 rfl hHeld ?_
 refine tkS 26 86 rfl hHeld ?_
 refine tkS 27 87 rfl hHeld ?_
 refine tkS 28 88 rfl hHeld ?_
 refine tkS 29 89 rfl hHeld ?_
 refine tkS 30 90 rfl hHeld ?_
 refine tkS 31 91 rfl hHeld ?_
 refine tkS 32 92 rfl hHeld ?_
 refine tkS 33 93 rfl hHeld ?_
 refine tkS 34 94 rfl hHeld ?_
 refine tkS 35 95 rfl hHeld ?_
 refine rdH 36 96 rfl (fun K hK => ?_)
 go_simp
 have x36 := hHeld.2.2.2.2.2.2.2.2.2.out
 refine (some_walkS 3 _).mono ?_
 rintro e9 w36 ⟨rfl, h36⟩
 refine hK.out _ _ ?_ (fun hHeld => ?_)
 ·exact aw_held (x36.below h36)
 clear hK K
 try simp only [Act.put, zA, zB, zC]
 refine tkS 37 97 rfl hHeld ?_
 refine tkS 38 98 rfl hHeld ?_
 refine tkS 39 99 rfl hHeld ?_
 refine tkS 40 100 rfl hHeld ?_
 refine tkS 41 101 rfl hHeld ?_
 refine tkS 42 102 rfl hHeld ?_
 refine tkS 43 103 rfl hHeld ?_
 refine tkS 44 104 rfl hHeld ?_
 refine tkS 45 105 rfl hHeld ?_
 refine tkS 46 106 rfl hHeld ?_
 refine tkS 47 107 rfl hHeld ?_
 refine tkS 48 108 rfl hHeld ?_
 refine tkS 49 109 rfl hHeld ?_
 refine tkS 50 110 rfl hHeld ?_
 refine rdH 51 111 rfl (fun K hK => ?_)
 go_simp
 have x51 := hHeld.2.2.2.2.2.2.2.2.2.out
 refine hK.out _ _ ?_ (fun hHeld => ?_)
 ·exact aw_held (x51.below (below_alloc _ _))
 clear hK K
 try simp only [Act.put, zA, zB, zC]
 refine tkS 52 112 rfl hHeld ?_
 refine rdH 53 113 rfl (fun K hK => ?_)
 go_simp
 have x53 := hHeld.2.2.2.2.2.2.2.2.2.out
 refine (marks_same x53.kvs (kv_1 w36 9) 1 6).mono ?_
 rintro e9 w53 ⟨rfl, h53⟩
 refine hK.out _ _ ?_ (fun hHeld => ?_)
 ·exact aw_held (x53.below h53)
 clear hK K
 try simp only [Act.put, zA, zB, zC]
 refine tkS 54 114 rfl hHeld ?_
 refine tkS 55 115 rfl hHeld ?_
 refine tkS 56 116 rfl hHeld ?_
 refine tkS 57 117 rfl hHeld ?_
 refine tkS 58 118 rfl hHeld ?_
 refine tkS 59 119 rfl hHeld ?_
 refine tkS 60 120 rfl hHeld ?_
 refine tkS 61 121 rfl hHeld ?_
 refine rdH 62 122 rfl (fun K hK => ?_)
 go_simp
 have x62 := hHeld.2.2.2.2.2.2.2.2.2.out
 refine (aw_used x62).mono ?_
 rintro e9 w62 ⟨rfl, h62⟩
 replace h62 := h62.symm
 subst h62
 refine hK.out _ _ ?_ (fun hHeld => ?_)
 ·exact aw_held x62
 clear hK K
 try simp only [Act.put, zA, zB, zC]
 refine tkS 63 123 rfl hHeld ?_
 refine tkS 64 124 rfl hHeld ?_
 refine tkS 65 125 rfl hHeld ?_
 refine tkS 66 126 rfl hHeld ?_
 refine rdH 67 127 rfl (fun K hK => ?_)
 go_simp
 have x67 := hHeld.2.2.2.2.2.2.2.2.2.out
 refine (aw_ended x67).mono ?_
 rintro e9 w67 ⟨rfl, h67⟩
 replace h67 := h67.symm
 subst h67
 refine hK.out _ _ ?_ (fun hHeld => ?_)
 ·exact aw_held x67
 clear hK K
 try simp only [Act.put, zA, zB, zC]
 refine tkS 68 128 rfl hHeld ?_
 refine tkS 69 129 rfl hHeld ?_
 refine tkH 70 0 rfl hHeld ?_
 try simp only [Act.put, zA, zB]
 refine wpAnyH_done (by kernel_rfl) ?_ _
 refine NoPanic.normal ?_
 go_wp2_with fail
 go_ret
 exact ⟨rfl, (hHeld.2.2.2.2.2.2.2.2.2.out).bb⟩
end
section
open Go.RowKit

theorem cells_same {w : World} {a b : Value} {d : List Cl} (ha : Cw w a d) (hb : Cw w b d) : Calls Tryz.prog 19 #[a, b] w fun e w' => e = .returned (.bool true) ∧ Below w.heap.size w w' := by
 have HA : Hid (Cw w a d) := ha
 have HB : Hid (Cw w b d) := hb
 obtain ⟨ao, ac, rfl, a1, a2, a3⟩ := ha
 obtain ⟨bo, bc, rfl, b1, b2, b3⟩ := hb
 have HA3 : Hid (d ≠ [] → ∃ g, ao = some ⟨g, 0, none⟩ ∧ g < w.heap.size ∧ Mc w g d) := a3
 have HB3 : Hid (d ≠ [] → ∃ g, bo = some ⟨g, 0, none⟩ ∧ g < w.heap.size ∧ Mc w g d) := b3
 obtain ⟨n, hn⟩ : ∃ n, n = d.length := ⟨_, rfl⟩
 rw [← hn]
 have HN : Hid (n = d.length) := hn
 have hni : (n : Int) ≤ 9223372036854775807 := by simp only [maxLen] at a2; omega
 clear a1 a2 a3 b1 b2 b3 hn HA HB
 go_in
 go_wp2_with fail
 go_loopw [5] (fun iv wr => ∃ i : Nat, iv = .int .i64 i ∧ i ≤ n ∧ Below w.heap.size w wr) (fun iv _ => n - (intOf iv).toNat)
 case atStart => exact ⟨0, rfl, by omega, Below.refl _ _⟩
 case round =>
  obtain ⟨i, rfl, hi, hB⟩ := hrel
  have HB := hidH hB
  clear hB
  by_cases hlt : i < n
  rotate_left
  ·have hlti : ¬ (i : Int) < (n : Int) := by omega
   go_wp2_with fail
   go_ret
   exact ⟨rfl, HB.out⟩
  ·have hlti : (i : Int) < (n : Int) := by omega
   have hil : i < d.length := by have := HN.out; omega
   have hne : d ≠ [] := fun e => by rw [e] at hil; simp at hil
   obtain ⟨g, rfl, hgl, hgm⟩ := HA3.out hne
   obtain ⟨r, rfl, hrl, hrm⟩ := HB3.out hne
   obtain ⟨c, hc⟩ : ∃ c, c = d[i] := ⟨_, rfl⟩
   have HG := mc_cells (mc_below hgm HB.out hgl) hil
   have HR := mc_cells (mc_below hrm HB.out hrl) hil
   rw [← hc] at HG HR
   have x0 : ∀ wx, Below wr.heap.size wr wx → wx.cell? ⟨g, i * 6, none⟩ = some (.int .u64 c.k) := fun wx h => by rw [h.cell (p := ⟨g, i * 6, none⟩) (cell_lt HG.1)]; exact HG.1
   have x1 : ∀ wx, Below wr.heap.size wr wx → wx.cell? ⟨g, i * 6 + 1, none⟩ = some (.bool c.p.h) := fun wx h => by rw [h.cell (p := ⟨g, i * 6 + 1, none⟩) (cell_lt HG.2.1)]; exact HG.2.1
   have x2 : ∀ wx, Below wr.heap.size wr wx → wx.cell? ⟨g, i * 6 + 2, none⟩ = some (.int .u64 c.p.b) := fun wx h => by rw [h.cell (p := ⟨g, i * 6 + 2, none⟩) (cell_lt HG.2.2.1)]; exact HG.2.2.1
   have x3 : ∀ wx, Below wr.heap.size wr wx → wx.cell? ⟨g, i * 6 + 3, none⟩ = some (.bool c.c.h) := fun wx h => by rw [h.cell (p := ⟨g, i * 6 + 3, none⟩) (cell_lt HG.2.2.2.1)]; exact HG.2.2.2.1
   have x4 : ∀ wx, Below wr.heap.size wr wx → wx.cell? ⟨g, i * 6 + 4, none⟩ = some (.int .u64 c.c.b) := fun wx h => by rw [h.cell (p := ⟨g, i * 6 + 4, none⟩) (cell_lt HG.2.2.2.2.1)]; exact HG.2.2.2.2.1
   have x5 : ∀ wx, Below wr.heap.size wr wx → wx.cell? ⟨g, i * 6 + 5, none⟩ = some (.int .i64 c.n) := fun wx h => by rw [h.cell (p := ⟨g, i * 6 + 5, none⟩) (cell_lt HG.2.2.2.2.2)]; exact HG.2.2.2.2.2
   have y0 : ∀ wx, Below wr.heap.size wr wx → wx.cell? ⟨r, i * 6, none⟩ = some (.int .u64 c.k) := fun wx h => by rw [h.cell (p := ⟨r, i * 6, none⟩) (cell_lt HR.1)]; exact HR.1
   have y1 : ∀ wx, Below wr.heap.size wr wx → wx.cell? ⟨r, i * 6 + 1, none⟩ = some (.bool c.p.h) := fun wx h => by rw [h.cell (p := ⟨r, i * 6 + 1, none⟩) (cell_lt HR.2.1)]; exact HR.2.1
   have y2 : ∀ wx, Below wr.heap.size wr wx → wx.cell? ⟨r, i * 6 + 2, none⟩ = some (.int .u64 c.p.b) := fun wx h => by rw [h.cell (p := ⟨r, i * 6 + 2, none⟩) (cell_lt HR.2.2.1)]; exact HR.2.2.1
   have y3 : ∀ wx, Below wr.heap.size wr wx → wx.cell? ⟨r, i * 6 + 3, none⟩ = some (.bool c.c.h) := fun wx h => by rw [h.cell (p := ⟨r, i * 6 + 3, none⟩) (cell_lt HR.2.2.2.1)]; exact HR.2.2.2.1
   have y4 : ∀ wx, Below wr.heap.size wr wx → wx.cell? ⟨r, i * 6 + 4, none⟩ = some (.int .u64 c.c.b) := fun wx h => by rw [h.cell (p := ⟨r, i * 6 + 4, none⟩) (cell_lt HR.2.2.2.2.1)]; exact HR.2.2.2.2.1
   have y5 : ∀ wx, Below wr.heap.size wr wx → wx.cell? ⟨r, i * 6 + 5, none⟩ = some (.int .i64 c.n) := fun wx h => by rw [h.cell (p := ⟨r, i * 6 + 5, none⟩) (cell_lt HR.2.2.2.2.2)]; exact HR.2.2.2.2.2
   have qv : ∀ wx, (binOp .neq 63 (.agg #[.int .u64 c.k, .bool c.p.h, .int .u64 c.p.b, .bool c.c.h, .int .u64 c.c.b, .int .i64 c.n]) (.agg #[.int .u64 c.k, .bool c.p.h, .int .u64 c.p.b, .bool c.c.h, .int .u64 c.c.b, .int .i64 c.n])).run Tryz.prog wx = .ok (.bool false) wx := neq_cell c
   have hgc := guard_cell
   clear HG HR hgm hrm hgl hrl hc hne hil
   go_upto_region 6 with fail
   refine wp_region_noPanic ?_
   refine wp_region_held_drew (S := fun wx => Below wr.heap.size wr wx) (by kernel_rfl) ?_ (fun hHeld => ?_)
   ·exact (Below.refl _ _).drew
   refine tkS 0 17 rfl hHeld ?_
   refine tkS 1 18 rfl hHeld ?_
   refine tkS 2 19 rfl hHeld ?_
   refine tkS 3 20 rfl hHeld ?_
   refine tkS 4 21 rfl hHeld ?_
   refine tkS 5 22 rfl hHeld ?_
   refine tkS 6 23 rfl hHeld ?_
   refine tkS 7 24 rfl hHeld ?_
   refine tkS 8 25 rfl hHeld ?_
   refine wpAnyH_done (by kernel_rfl) ?_ _
   refine NoPanic.normal ?_
   clear x0 x1 x2 x3 x4 x5 y0 y1 y2 y3 y4 y5 qv hgc
   go_wp2_with fail
   go_roundw
   case rel => exact ⟨i + 1, by go_num, hlt, below_trans HB.out hHeld⟩
   case measure => simp [intOf]; omega
structure Kp (wz : World) (K A : Nat → Prop) (w : World) : Prop where
 ap : ∀ x, K x → ¬ A x
 kl : ∀ x, K x → x < w.heap.size
 kz : ∀ x, K x → wz.heap.size ≤ x
 az : ∀ x, A x → wz.heap.size ≤ x
 bw : Below wz.heap.size wz w
def nwK (K : Nat → Prop) (w w' : World) : Nat → Prop := fun x => K x ∨ (w.heap.size ≤ x ∧ x < w'.heap.size)
section

variable {wz w w' : World} {K K' A A' D : Nat → Prop}

theorem Kp.ch (h : Kp wz K A w) (hc : Ch A w w') : Ch (fun x => ¬ K x) w w' :=
 ⟨hc.os, hc.tape, hc.output, hc.size, fun y hy hn => hc.block y hy (fun hA => hn (fun hK => h.ap y hK hA))⟩
theorem Kp.step (h : Kp wz K A w) (hA : ∀ x, A' x → A x ∨ w.heap.size ≤ x) (hc : Ch A w w') : Kp wz K A' w' :=
 ⟨fun x hx hx' => by
  rcases hA x hx' with q | q
  ·exact h.ap x hx q
  ·have := h.kl x hx; omega, fun x hx => Nat.lt_of_lt_of_le (h.kl x hx) hc.size, h.kz, fun x hx => by
  rcases hA x hx with q | q
  ·exact h.az x q
  ·have := h.bw.size; omega, h.bw.trans (hc.to_below h.bw.size h.az)⟩
theorem Kp.grow (h : Kp wz K A w) (hA : ∀ x, A' x → A x) (hl : ∀ x, A x → x < w.heap.size) (hc : Ch A w w') : Kp wz (nwK K w w') A' w' :=
 ⟨fun x hx hx' => by
  rcases hx with q | q
  ·exact h.ap x q (hA x hx')
  ·have := hl x (hA x hx'); omega, fun x hx => by
  rcases hx with q | q
  ·exact Nat.lt_of_lt_of_le (h.kl x q) hc.size
  ·exact q.2, fun x hx => by
  rcases hx with q | q
  ·exact h.kz x q
  ·have := h.bw.size; omega, fun x hx => h.az x (hA x hx), h.bw.trans (hc.to_below h.bw.size h.az)⟩
theorem Kp.mono (h : Kp wz K A w) (hk : ∀ x, K' x → K x) (hA : ∀ x, A' x → A x) : Kp wz K' A' w := ⟨fun x hx q => h.ap x (hk x hx) (hA x q), fun x hx => h.kl x (hk x hx), fun x hx => h.kz x (hk x hx), fun x hx => h.az x (hA x hx), h.bw⟩
end

section

variable {wz w w' : World} {K K' A A' D : Nat → Prop} {sp sb sp2 : Nat} {k : Int} {m m' : Mk} {Ls Ls' : List (List Cl)} {c c' : Int → Prop} {N N' : Nat} {b a : Int} {ks : List Nat}

def Cr (wz : World) (K : Nat → Prop) (sp sb : Nat) (k : Int) (m : Mk) (Ls : List (List Cl)) (c : Int → Prop) (N : Nat) (w : World) : Prop :=
 ∃ A P S, RSX A w (.pointer (some ⟨sp, 0, none⟩)) (.pointer (some ⟨sb, 0, none⟩)) k P S m Ls ∧ c S.left ∧ cntS P S ≤ N ∧ Kp wz K A w ∧ ¬ K sp
def Dr (wz : World) (K : Nat → Prop) (sp sb : Nat) (k : Int) (m : Mk) (Ls : List (List Cl)) (N : Nat) (w : World) : Prop :=
 ∃ A P S, Dn A w (.pointer (some ⟨sp, 0, none⟩)) (.pointer (some ⟨sb, 0, none⟩)) k P S m Ls ∧ cntS P S ≤ N ∧ Kp wz K A w
theorem ST.pl2 {P : Bo} {S : Dk} {dv : Value} (h : ST A w (.pointer (some ⟨sp, 0, none⟩)) dv k P S) : sp < w.heap.size := by
 obtain ⟨_, bv, e, h1, _⟩ := h
 cases e
 exact (Array.getElem?_eq_some_iff.1 h1).1
theorem nw_not {x : Nat} (h : ¬ K x) (hx : x < w.heap.size) : ¬ nwK K w w' x := by
 rintro (q | q)
 ·exact h q
 ·omega
theorem Cr.mono (h : Cr wz K sp sb k m Ls c N w) (hk : ∀ x, K' x → K x) (hc : ∀ x, c x → c' x) (hN : N ≤ N') : Cr wz K' sp sb k m Ls c' N' w := by
 obtain ⟨A, P, S, h1, h2, h3, h4, h9⟩ := h
 exact ⟨A, P, S, h1, hc _ h2, by omega, h4.mono hk (fun _ h => h), fun q => h9 (hk _ q)⟩
theorem Cr.below (h : Cr wz K sp sb k m Ls c N w) (hb : Below w.heap.size w w') : Cr wz (nwK K w w') sp sb k m Ls c N w' := by
 obtain ⟨A, P, S, h1, h2, h3, h4, h9⟩ := h
 exact ⟨A, P, S, h1.below hb, h2, h3, h4.grow (fun _ h => h) (fun x hx => h1.st.lt hx) (Ch.of_below hb), nw_not h9 h1.st.pl2⟩
theorem Dr.below (h : Dr wz K sp sb k m Ls N w) (hb : Below w.heap.size w w') : Dr wz (nwK K w w') sp sb k m Ls N w' := by
 obtain ⟨A, P, S, h1, h3, h4⟩ := h
 exact ⟨A, P, S, h1.below hb, h3, h4.grow (fun _ h => h) (fun x hx => h1.st.lt hx) (Ch.of_below hb)⟩
theorem Cr.bw (h : Cr wz K sp sb k m Ls c N w) : Below wz.heap.size wz w := by obtain ⟨A, P, S, h1, h2, h3, h4, _⟩ := h; exact h4.bw
theorem Cr.gk (h : Cr wz K sp sb k m Ls c N w) : Gk k m Ls := by obtain ⟨A, P, S, h1, _⟩ := h; exact h1.gk
theorem Cr.kl (h : Cr wz K sp sb k m Ls c N w) : ∀ x, K x → x < w.heap.size := by obtain ⟨A, P, S, h1, h2, h3, h4, h5⟩ := h; exact h4.kl
theorem Dr.kl (h : Dr wz K sp sb k m Ls N w) : ∀ x, K x → x < w.heap.size := by obtain ⟨A, P, S, h1, h2, h3⟩ := h; exact h3.kl
theorem cr_mark (h : Cr wz K sp sb k m Ls c N w) (hN : N < 1000000000) :
  Calls Tryz.prog 9 #[.pointer (some ⟨sp, 0, none⟩)] w fun e w' => ∃ v, e = .returned (.tuple #[.agg #[.int .i64 m.b, .int .i64 m.a, v], .int .i64 0]) ∧ Kv w' v m.k ∧ (∀ x, v.ownBlock = some x → w.heap.size ≤ x ∧ x < w'.heap.size) ∧ Ch (fun x => ¬ K x) w w' ∧ Cr wz (nwK K w w') sp sb k m Ls c (N + 1) w' := by
 obtain ⟨A, P, S, h1, h2, h3, h4, h9⟩ := h
 refine (smark_rsx h1 (by unfold cntS at h3; omega)).mono ?_
 rintro e w1 ⟨v, rfl, ho, S', hst, hr, hc⟩
 exact ⟨v, rfl, own_sv ho, fun x hx => ho.lt x hx, h4.ch hc, A, P, S', ⟨hst, h1.iw.rdd hr, h1.gk⟩, by rw [hr.left]; exact h2, by have := cnt_rdd (P := P) hr; omega, h4.grow (fun _ h => h) (fun x hx => h1.st.lt hx) hc, nw_not h9 h1.st.pl2⟩
theorem cr_cells (h : Cr wz K sp sb k m Ls c N w) (hN : N < 1000000000) :
  Calls Tryz.prog 10 #[.pointer (some ⟨sp, 0, none⟩)] w fun e w' => ∃ v d, e = .returned (.tuple #[v, .int .i64 0]) ∧ SrtOf Ls.flatten d ∧ Cw w' v d ∧ (d ≠ [] → ∀ x, v.ownBlock = some x → nwK K w w' x) ∧ Ch (fun x => ¬ K x) w w' ∧ Cr wz (nwK K w w') sp sb k m Ls c (N + 6) w' := by
 obtain ⟨A, P, S, h1, h2, h3, h4, h9⟩ := h
 refine (scells_rsx h1 (by unfold cntS at h3; omega)).mono ?_
 rintro e w1 ⟨v, d, rfl, hs, hw, hv, S', hst, hr, hc⟩
 exact ⟨v, d, rfl, hs, hw, fun q x hx => .inr (hv q x hx), h4.ch hc, A, P, S', ⟨hst, h1.iw.rdd hr, h1.gk⟩, by rw [hr.left]; exact h2, by have := cnt_rdd (P := P) hr; omega, h4.grow (fun _ h => h) (fun x hx => h1.st.lt hx) hc, nw_not h9 h1.st.pl2⟩
theorem ch_up (hc : Ch D w w') (hd : ∀ x, D x → A x) : Ch A w w' := ⟨hc.os, hc.tape, hc.output, hc.size, fun y hy hn => hc.block y hy (fun q => hn (hd y q))⟩
def CgK (wz : World) (K : Nat → Prop) (sp sb : Nat) (k : Int) (m : Mk) (Ls : List (List Cl)) (m' : Mk) (Ls' : List (List Cl)) (N : Nat) (w : World) (e : Ending) (w' : World) : Prop :=
 Ch (fun x => ¬ K x) w w' ∧ ((e = .returned (.int .i64 0) ∧ Cr wz K sp sb k m' Ls' (fun _ => True) (N + 17) w') ∨ (e = .returned (.int .i64 80) ∧ Dr wz K sp sb k m Ls (N + 17) w'))
theorem cg_of {P : Bo} {S : Dk} (h3 : cntS P S ≤ N) (h4 : Kp wz K A w) (h9 : ¬ K sp) {e : Ending} (h : CutGot A w (.pointer (some ⟨sp, 0, none⟩)) (.pointer (some ⟨sb, 0, none⟩)) k P S m Ls m' Ls' e w') : CgK wz K sp sb k m Ls m' Ls' N w e w' := by
 obtain ⟨A', P', S', hA, hc, hcn, h | h⟩ := h
 ·exact ⟨h4.ch hc, .inl ⟨h.1, A', P', S', h.2.1, trivial, by omega, h4.step hA hc, h9⟩⟩
 ·exact ⟨h4.ch hc, .inr ⟨h.1, A', P', S', h.2.1, by omega, h4.step hA hc⟩⟩
theorem cg_on {P : Bo} {S : Dk} (h2 : S.left = -1) (h3 : cntS P S ≤ N) (h4 : Kp wz K A w) (h9 : ¬ K sp) {e : Ending} (h : CutGot A w (.pointer (some ⟨sp, 0, none⟩)) (.pointer (some ⟨sb, 0, none⟩)) k P S m Ls m' Ls' e w') : e = .returned (.int .i64 0) ∧ Ch (fun x => ¬ K x) w w' ∧ Cr wz K sp sb k m' Ls' (fun x => x = -1) (N + 17) w' := by
 obtain ⟨A', P', S', hA, hc, hcn, h | h⟩ := h
 ·exact ⟨h.1, h4.ch hc, A', P', S', h.2.1, h.2.2 h2, by omega, h4.step hA hc, h9⟩
 ·exact absurd h2 h.2.2
theorem cr_begin (h : Cr wz K sp sb k m Ls c N w) (hN : N < 1000000000) {kv : Value} (hk : Kv w kv ks) (ko : keysOk ks) (hkA : ∀ x, kv.ownBlock = some x → K x) (hb : b = m.b ∨ b = m.b + 1) (h1 : 1 ≤ b) (hb2 : b ≤ 1099511627776) (ha : 1 ≤ a) (ha2 : a ≤ 1099511627776) (hk64 : ks.length ≤ 64) (hr : risB ks = true) (hm : m.b < b ∨ (b = m.b ∧ m.a < a)) :
  Calls Tryz.prog 12 #[.pointer (some ⟨sp, 0, none⟩), .int .i64 b, .int .i64 a, kv] w fun e w' => CgK wz K sp sb k m Ls ⟨b, a, ks⟩ (begS Ls m b) N w e w' ∧ ((∀ x, c x → x = -1) → e = .returned (.int .i64 0) ∧ Cr wz K sp sb k ⟨b, a, ks⟩ (begS Ls m b) (fun x => x = -1) (N + 17) w') := by
 obtain ⟨A, P, S, g1, g2, g3, g4, g9⟩ := h
 refine (begin_cut g1 (by omega) hk ko (fun x hx => g4.ap x (hkA x hx)) hb h1 hb2 ha ha2 hk64 hr hm).mono ?_
 intro e w1 q
 refine ⟨cg_of g3 g4 g9 q, fun hc => ?_⟩
 obtain ⟨e1, _, e2⟩ := cg_on (hc _ g2) g3 g4 g9 q
 exact ⟨e1, e2⟩
theorem cr_apply (h : Cr wz K sp sb k m Ls c N w) (hN : N < 1000000000) {tv : Value} {t : List Pr} (hq : Qv w tv t) (hqA : ∀ x, tv.ownBlock = some x → K x) (h1 : 1 ≤ m.b) (ha : 1 ≤ m.a) (ht : Ta k m t) (hA : ∃ Ls', appA k m.b Ls t = (0, Ls') ∧ Gk k m Ls') :
  Calls Tryz.prog 13 #[.pointer (some ⟨sp, 0, none⟩), .int .i64 m.b, .int .i64 m.a, tv] w fun e w' => CgK wz K sp sb k m Ls m (appA k m.b Ls t).2 N w e w' ∧ ((∀ x, c x → x = -1) → e = .returned (.int .i64 0) ∧ Cr wz K sp sb k m (appA k m.b Ls t).2 (fun x => x = -1) (N + 17) w') := by
 obtain ⟨A, P, S, g1, g2, g3, g4, g9⟩ := h
 refine (apply_cut g1 (by omega) hq (fun x hx => g4.ap x (hqA x hx)) h1 ha ht hA).mono ?_
 intro e w1 q
 refine ⟨cg_of g3 g4 g9 q, fun hc => ?_⟩
 obtain ⟨e1, _, e2⟩ := cg_on (hc _ g2) g3 g4 g9 q
 exact ⟨e1, e2⟩
end
end
end Go.Proofs.YtofkhgokfdpdiabGreat
