/- Contract of repriselaw15's awake. -/
import Derived.Test.YthkkbdmbmkgjpaaJk

namespace Go.Proofs.Ythkkbdmbmkgjpaa

open Go.RowKit



def mA : Ms := ⟨2, 1, 0, 2, 300, 0, [5, 0], [], []⟩
def mB : Ms := ⟨5, 3, 1, 2, 7, 130, [], [], []⟩
def mC : Ms := ⟨9, 0, 0, 0, 0, 0, [], [], []⟩
def bA : List Nat := [2, 1, 0, 2, 172, 2, 2, 5, 0]
def bB : List Nat := [5, 3, 1, 2, 7, 130, 1]
theorem in_small {x : Int} (h : 0 ≤ x ∧ x ≤ 1000) : in64 x := ⟨by omega, by omega⟩
theorem aw_okA : mA.ok := by
  refine ⟨in_small (by decide), in_small (by decide), in_small (by decide), in_small (by decide), in_small (by decide), in_small (by decide), ?_, (by intro x hx; cases hx), (by intro x hx; cases hx)⟩
  intro x hx
  simp [mA] at hx
  exact in_small (by omega)
theorem aw_okB : mB.ok := ⟨in_small (by decide), in_small (by decide), in_small (by decide), in_small (by decide), in_small (by decide), in_small (by decide), (by intro x hx; cases hx), (by intro x hx; cases hx), (by intro x hx; cases hx)⟩
theorem aw_sndA : sndM mA = true := by decide
theorem aw_sndC : sndM mC = false := by decide
theorem aw_enc : encS mA = (bA, 0) := by decide
theorem aw_dec : decS bB = (mB, 0) := by
  have h := formS_there (m := mB) (by decide) aw_okB []
  have e : bytS mB = bB := by decide
  rw [e] at h
  simpa using h
theorem aw_str : str bA = ⟨#[2, 1, 0, 2, 172, 2, 2, 5, 0]⟩ := by decide
theorem bv_litB (w : World) : Bv (w.alloc (.cells #[.int .u8 5, .int .u8 3, .int .u8 1, .int .u8 2, .int .u8 7, .int .u8 130, .int .u8 1] 5 (7, 8))) (.slice (some ⟨w.heap.size, 0, none⟩) 7 7) bB := by
  have hh : (w.alloc (.cells #[.int .u8 5, .int .u8 3, .int .u8 1, .int .u8 2, .int .u8 7, .int .u8 130, .int .u8 1] 5 (7, 8))).heap[w.heap.size]? = some (.cells #[.int .u8 5, .int .u8 3, .int .u8 1, .int .u8 2, .int .u8 7, .int .u8 130, .int .u8 1] 5 (7, 8)) := heap_alloc_new w _
  refine ⟨⟨_, 7, rfl, by decide, by decide, (by intro h; cases h), fun i hi => ⟨w.heap.size, 0, rfl, ?_⟩⟩, by decide⟩
  have h7 : i < 7 := hi
  rw [Nat.zero_add, cell_of_row _ w.heap.size i _ _ (7, 8) hh]
  have : i = 0 ∨ i = 1 ∨ i = 2 ∨ i = 3 ∨ i = 4 ∨ i = 5 ∨ i = 6 := by omega
  rcases this with rfl | rfl | rfl | rfl | rfl | rfl | rfl <;> rfl
theorem conv_lit (w : World) (C : Array Value) (n c : Nat) : (convert 28 28 (.slice (some ⟨w.heap.size, 0, none⟩) n c)).run Try.prog (w.alloc (.cells C 5)) = .ok (.slice (some ⟨w.heap.size, 0, none⟩) n c) (w.alloc (.cells C 5 (C.size, C.size + 1))) :=
  Lib.run_convert_bytes_const (P := Try.prog) w 28 5 C n c Try.underlying28 Try.underlying5
theorem ml_lit (w : World) (m : Ms) (he : m.E = []) (hq : m.Q = []) (hp : m.P = []) : ML w m (.slice none 0 0) (.slice none 0 0) (.slice none 0 0) := ⟨by rw [he]; exact Sv.nil _ w, by rw [hq]; exact kv_nil w, by rw [hp]; exact qv_nil w⟩
theorem aw_start (w : World) : MX ((w.alloc (Obj.cells #[.int .i64 5, .int .i64 0] 3)).alloc (Obj.cells #[.int .i64 2, .int .i64 1, .int .i64 0, .int .i64 2, .int .i64 300, .int .i64 0, .slice (some ⟨w.heap.size, 0, none⟩) 2 2, .slice none 0 0, .slice none 0 0] 26)) (w.heap.size + 1) mA (.slice (some ⟨w.heap.size, 0, none⟩) 2 2) (.slice none 0 0) (.slice none 0 0) :=
  mx_new2 w mA (.slice (some ⟨w.heap.size, 0, none⟩) 2 2) (.slice none 0 0) (.slice none 0 0) _
theorem aw_list (w : World) : ML ((w.alloc (Obj.cells #[.int .i64 5, .int .i64 0] 3)).alloc (Obj.cells #[.int .i64 2, .int .i64 1, .int .i64 0, .int .i64 2, .int .i64 300, .int .i64 0, .slice (some ⟨w.heap.size, 0, none⟩) 2 2, .slice none 0 0, .slice none 0 0] 26)) mA (.slice (some ⟨w.heap.size, 0, none⟩) 2 2) (.slice none 0 0) (.slice none 0 0) :=
  ⟨(sv_lit .i64 w 3 [5, 0] (by simp [maxLen])).below (below_alloc _ _), kv_nil _, qv_nil _⟩
theorem own_ml {w : World} {m : Ms} {ev qv pv : Value} {base te tq tp : Nat} (hok : m.ok) (he : w.ownsRow base te 1 ev m.E.length (m.E.map (Value.int .i64))) (hq : w.ownsRow base tq 1 qv m.Q.length ((ib m.Q).map (Value.int .u64))) (hp : w.ownsRow base tp 3 pv m.P.length (flatQ m.P)) : ML w m ev qv pv := ⟨own_sv he, own_sv hq, own_qv hp hok.P⟩


set_option maxRecDepth 100000 in
set_option maxHeartbeats 8000000 in
theorem awake_walk (w : World) :
    Calls Try.prog 9 #[] w fun e w' => e = .returned (.bool true) ∧ Below w.heap.size w w' := by
  have HL : Hid _ := aw_list w
  have HX : Hid _ := aw_start w
  have HB0 : Hid _ := below_trans (below_alloc w (Obj.cells #[.int .i64 5, .int .i64 0] 3)) (below_alloc _ (Obj.cells #[.int .i64 2, .int .i64 1, .int .i64 0, .int .i64 2, .int .i64 300, .int .i64 0, .slice (some ⟨w.heap.size, 0, none⟩) 2 2, .slice none 0 0, .slice none 0 0] 26))
  go_enter Try.func9, Try.ntmps9
  go_upto_region 2 with fail
  generalize (w.alloc (Obj.cells #[.int .i64 5, .int .i64 0] 3)).alloc (Obj.cells #[.int .i64 2, .int .i64 1, .int .i64 0, .int .i64 2, .int .i64 300, .int .i64 0, .slice (some ⟨w.heap.size, 0, none⟩) 2 2, .slice none 0 0, .slice none 0 0] 26) = w1 at HL HX HB0 ⊢
  obtain ⟨P, hP⟩ : ∃ P, P = w.heap.size + 1 := ⟨_, rfl⟩
  rw [← hP] at HX ⊢
  clear hP
  obtain ⟨q, hq⟩ : ∃ q, q = w.heap.size := ⟨_, rfl⟩
  rw [← hq] at HL HX ⊢
  clear hq
  have c0 : w1.cell? ⟨P, 0, none⟩ = some (.int .i64 2) := HX.out.c0
  have c1 : w1.cell? ⟨P, 1, none⟩ = some (.int .i64 1) := HX.out.c1
  have c2 : w1.cell? ⟨P, 2, none⟩ = some (.int .i64 0) := HX.out.c2
  have c3 : w1.cell? ⟨P, 3, none⟩ = some (.int .i64 2) := HX.out.c3
  have c4 : w1.cell? ⟨P, 4, none⟩ = some (.int .i64 300) := HX.out.c4
  have c5 : w1.cell? ⟨P, 5, none⟩ = some (.int .i64 0) := HX.out.c5
  have c6 := HX.out.c6
  have c7 := HX.out.c7
  have c8 := HX.out.c8
  go_wp2_with fail
  refine (menc_walk (m := mA) HL.out aw_okA).mono ?_
  rintro e w2 ⟨vb, he, ho2, hB2⟩
  rw [aw_enc] at he ho2
  subst he
  have HB2 : Hid (Below w.heap.size w w2) := below_trans HB0.out hB2
  have HL2 : Hid _ := HL.out.below hB2
  have HX2 : Hid _ := HX.out.keep hB2
  have HV2 : Hid (Bv w2 vb bA) := own_bv ho2 (by decide)
  clear hB2 ho2 HB0 HL HX c0 c1 c2 c3 c4 c5 c6 c7 c8
  have hcv := conv_lit w2 #[.int .u8 5, .int .u8 3, .int .u8 1, .int .u8 2, .int .u8 7, .int .u8 130, .int .u8 1] 7 7
  go_wp2_with fail
  clear hcv
  refine (mdec_walk (bv_litB w2)).mono ?_
  rintro e w3 ⟨ve, vq, vp, he, he3, hq3, hp3, hB3⟩
  rw [aw_dec] at he he3 hq3 hp3
  subst he
  have HD3 : Hid (ML w3 mB ve vq vp) := own_ml aw_okB he3 hq3 hp3
  have hB3' := below_trans (below_alloc _ _) hB3
  obtain ⟨da, dn, dc, rfl⟩ := sv_any HD3.out.e
  obtain ⟨ka, kn, kc, rfl⟩ := sv_any HD3.out.q
  obtain ⟨pa, pn, pc, rfl⟩ := qv_any HD3.out.p
  have hB4 := below_trans hB3' (below_alloc _ (Obj.cells #[.int .i64 5, .int .i64 3, .int .i64 1, .int .i64 2, .int .i64 7, .int .i64 130, .slice da dn dc, .slice ka kn kc, .slice pa pn pc] 26))
  have HD4 : Hid (ML (w3.alloc (Obj.cells #[.int .i64 5, .int .i64 3, .int .i64 1, .int .i64 2, .int .i64 7, .int .i64 130, .slice da dn dc, .slice ka kn kc, .slice pa pn pc] 26)) mB (.slice da dn dc) (.slice ka kn kc) (.slice pa pn pc)) := HD3.out.below (below_alloc _ _)
  have HB4 : Hid (Below w.heap.size w (w3.alloc (Obj.cells #[.int .i64 5, .int .i64 3, .int .i64 1, .int .i64 2, .int .i64 7, .int .i64 130, .slice da dn dc, .slice ka kn kc, .slice pa pn pc] 26))) := below_trans HB2.out hB4
  have HL4 : Hid _ := HL2.out.below hB4
  have HX4 : Hid _ := HX2.out.keep hB4
  have HV4 : Hid (Bv _ vb bA) := HV2.out.below hB4
  have HD5 : Hid (MX (w3.alloc (Obj.cells #[.int .i64 5, .int .i64 3, .int .i64 1, .int .i64 2, .int .i64 7, .int .i64 130, .slice da dn dc, .slice ka kn kc, .slice pa pn pc] 26)) w3.heap.size mB (.slice da dn dc) (.slice ka kn kc) (.slice pa pn pc)) := mx_new w3 mB (.slice da dn dc) (.slice ka kn kc) (.slice pa pn pc)
  clear hB3 hB3' he3 hq3 hp3 HB2 HL2 HX2 HV2 HD3 hB4
  simp only [mB]
  go_upto_region 4 with fail
  obtain ⟨D, hD⟩ : ∃ D, D = w3.heap.size := ⟨_, rfl⟩
  rw [← hD] at HD5 ⊢
  clear hD
  generalize w3.alloc (Obj.cells #[.int .i64 5, .int .i64 3, .int .i64 1, .int .i64 2, .int .i64 7, .int .i64 130, .slice da dn dc, .slice ka kn kc, .slice pa pn pc] 26) = w4 at HD4 HB4 HL4 HX4 HV4 HD5 ⊢
  have c0 : w4.cell? ⟨P, 0, none⟩ = some (.int .i64 2) := HX4.out.c0
  have c1 : w4.cell? ⟨P, 1, none⟩ = some (.int .i64 1) := HX4.out.c1
  have c2 : w4.cell? ⟨P, 2, none⟩ = some (.int .i64 0) := HX4.out.c2
  have c3 : w4.cell? ⟨P, 3, none⟩ = some (.int .i64 2) := HX4.out.c3
  have c4 : w4.cell? ⟨P, 4, none⟩ = some (.int .i64 300) := HX4.out.c4
  have c5 : w4.cell? ⟨P, 5, none⟩ = some (.int .i64 0) := HX4.out.c5
  have c6 := HX4.out.c6
  have c7 := HX4.out.c7
  have c8 := HX4.out.c8
  go_wp2_with fail
  refine (sound_walk (m := mA) HL4.out).mono ?_
  rw [aw_sndA]
  rintro e w5 ⟨rfl, hB5⟩
  have hstr : (convert 28 9 vb).run Try.prog w5 = .ok (.string ⟨#[2, 1, 0, 2, 172, 2, 2, 5, 0]⟩) w5 := by
    rw [← aw_str]; exact (HV4.out.below hB5).str 28 5 9 Try.underlying28 Try.underlying5 Try.underlying9
  have HB5 : Hid (Below w.heap.size w w5) := below_trans HB4.out hB5
  have HD6 : Hid _ := HD4.out.below hB5
  have HN5 : Hid _ := HD5.out.keep hB5
  clear hB5 c0 c1 c2 c3 c4 c5 c6 c7 c8 HB4 HL4 HX4 HV4 HD4 HD5
  have c0 : w5.cell? ⟨D, 0, none⟩ = some (.int .i64 5) := HN5.out.c0
  have c1 : w5.cell? ⟨D, 1, none⟩ = some (.int .i64 3) := HN5.out.c1
  have c2 : w5.cell? ⟨D, 2, none⟩ = some (.int .i64 1) := HN5.out.c2
  have c3 : w5.cell? ⟨D, 3, none⟩ = some (.int .i64 2) := HN5.out.c3
  have c4 : w5.cell? ⟨D, 4, none⟩ = some (.int .i64 7) := HN5.out.c4
  have c5 : w5.cell? ⟨D, 5, none⟩ = some (.int .i64 130) := HN5.out.c5
  have c6 := HN5.out.c6
  have c7 := HN5.out.c7
  have c8 := HN5.out.c8
  go_wp2_with fail
  refine (same_walk (m := mB) HD6.out (ml_lit _ mB rfl rfl rfl)).mono ?_
  rintro e w6 ⟨rfl, hB6⟩
  have HB6 : Hid (Below w.heap.size w w6) := below_trans HB5.out hB6
  clear hB6 c0 c1 c2 c3 c4 c5 c6 c7 c8 HB5 HD6 HN5 hstr
  go_wp2_with fail
  refine (sound_walk (m := mC) (ml_lit _ mC rfl rfl rfl)).mono ?_
  rw [aw_sndC]
  rintro e w7 ⟨rfl, hB7⟩
  go_wp2_with fail
  go_ret
  exact ⟨rfl, below_trans HB6.out hB7⟩
end Go.Proofs.Ythkkbdmbmkgjpaa


