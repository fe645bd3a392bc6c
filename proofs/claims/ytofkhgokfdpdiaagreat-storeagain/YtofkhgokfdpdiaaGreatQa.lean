/- P13.3, P13.4: Begin and Apply of the open attempt once more change nothing.
-/
import Derived.Test.YtofkhgokfdpdiaaGreatB50
import Derived.Test.YtofkhgokfdpdiaaGreatB09
import Derived.Test.YtofkhgokfdpdiaaGreatB48
set_option maxRecDepth 100000
set_option maxHeartbeats 16000000
namespace Go.Proofs.YtofkhgokfdpdiaaGreat
section
open Go.RowKit

structure Ag (wz : World) (lo hi : Nat) (sp sb : Nat) (k : Int) (m : Mk) (t : List Pr) (bl : List (List Nat)) (wn N : Nat) (kv tv : Value) (g cap : Nat) (wr : World) : Prop where
 ex : ∃ A P S Ls, RS A wr (.pointer (some ⟨sp, 0, none⟩)) (.pointer (some ⟨sb, 0, none⟩)) k P S m Ls ∧ Done k m.b Ls t ∧ S.bl = bl ∧ S.wr = wn ∧ cntS P S ≤ N ∧ (∀ x, A x → x < lo ∨ hi ≤ x) ∧ (∀ x, kv.ownBlock = some x → ¬ A x) ∧ (∀ x, tv.ownBlock = some x → ¬ A x) ∧ (∀ x, A x → wz.heap.size ≤ x)
 img : Img lo hi wr g cap bl
 kvv : Kv wr kv m.k
 qv : Qv wr tv t
 kvl : ∀ x, kv.ownBlock = some x → x < wr.heap.size
 tvl : ∀ x, tv.ownBlock = some x → x < wr.heap.size
 hil : hi ≤ wr.heap.size
 bw : Below wz.heap.size wz wr
section

variable {lo hi sp sb : Nat} {k : Int} {m : Mk} {t : List Pr} {bl : List (List Nat)} {wn N g cap : Nat} {kv tv : Value} {wz wr w' : World}

theorem Ag.mono (h : Ag wz lo hi sp sb k m t bl wn N kv tv g cap wr) {N' : Nat} (hN : N ≤ N') : Ag wz lo hi sp sb k m t bl wn N' kv tv g cap wr := by
 obtain ⟨⟨A, P, S, Ls, a1, a2, a3, a4, a5, a6, a7, a8, a9⟩, b, c, d, e, f, i, j⟩ := h
 exact ⟨⟨A, P, S, Ls, a1, a2, a3, a4, by omega, a6, a7, a8, a9⟩, b, c, d, e, f, i, j⟩
theorem Ag.notS {A : Nat → Prop} {P : Bo} {S S' : Dk} {Ls : List (List Cl)} {j : Nat} (h : Ag wz lo hi sp sb k m t bl wn N kv tv g cap wr) (a2 : Done k m.b Ls t) (a3 : S.bl = bl) (a4 : S.wr = wn) (a5 : cntS P S ≤ N) (a6 : ∀ x, A x → x < lo ∨ hi ≤ x) (a7 : ∀ x, kv.ownBlock = some x → ¬ A x) (a8 : ∀ x, tv.ownBlock = some x → ¬ A x) (a9 : ∀ x, A x → wz.heap.size ≤ x)
  (hr : RS A w' (.pointer (some ⟨sp, 0, none⟩)) (.pointer (some ⟨sb, 0, none⟩)) k P S' m Ls) (hd : Rdd j S S') (hc : Ch A wr w') : Ag wz lo hi sp sb k m t bl wn (N + j) kv tv g cap w' :=
 ⟨⟨A, P, S', Ls, hr, a2, by rw [hd.bl]; exact a3, by rw [hd.wr]; exact a4, by have := cnt_rdd (P := P) hd; omega, a6, a7, a8, a9⟩, h.img.ch hc a6, kv_ch h.kvv hc a7, qv_ch h.qv hc (fun _ => a8), fun x hx => Nat.lt_of_lt_of_le (h.kvl x hx) hc.size, fun x hx => Nat.lt_of_lt_of_le (h.tvl x hx) hc.size, Nat.le_trans h.hil hc.size, h.bw.trans (hc.to_below h.bw.size a9)⟩
theorem ag_begin (h : Ag wz lo hi sp sb k m t bl wn N kv tv g cap wr) (hN : N < 1000000000) (ko : keysOk m.k) (h1 : 1 ≤ m.b) (ha : 1 ≤ m.a) (h64 : m.k.length ≤ 64) (hr : risB m.k = true) :
  Calls Tryz.prog 36 #[.pointer (some ⟨sp, 0, none⟩), .int .i64 m.b, .int .i64 m.a, kv] wr fun e w' => e = .returned (.int .i64 0) ∧ Ag wz lo hi sp sb k m t bl wn (N + 8) kv tv g cap w' := by
 obtain ⟨A, P, S, Ls, a1, a2, a3, a4, a5, a6, a7, a8, a9⟩ := h.ex
 have hp := sound_parts a1.gk.gd.snd
 have hE : begE m m.b m.a m.k = some 0 := by
  rw [beg_same (by
   rintro (q | q | q); · simp [cntdB] at q; omega
   ·omega
   ·rw [hr] at q; cases q) (jud_eq h1 ha), if_pos rfl]
 refine (begin_not a1 (by omega) h.kvv ko a7 hE).mono ?_
 rintro e w1 ⟨rfl, S', hrs, hd, hc⟩
 exact ⟨rfl, h.notS a2 a3 a4 a5 a6 a7 a8 a9 hrs hd hc⟩
theorem ag_apply (h : Ag wz lo hi sp sb k m t bl wn N kv tv g cap wr) (hN : N < 1000000000) (h1 : 1 ≤ m.b) (ha : 1 ≤ m.a) {tu : Value} {u : List Pr} (hu : (tu = tv ∧ u = t) ∨ (tu = .slice none 0 0 ∧ u = [])) (ht : Ta k m t) :
  Calls Tryz.prog 39 #[.pointer (some ⟨sp, 0, none⟩), .int .i64 m.b, .int .i64 m.a, tu] wr fun e w' => e = .returned (.int .i64 0) ∧ Ag wz lo hi sp sb k m t bl wn (N + 17) kv tv g cap w' := by
 obtain ⟨A, P, S, Ls, a1, a2, a3, a4, a5, a6, a7, a8, a9⟩ := h.ex
 have hA : appA k m.b Ls u = (0, Ls) := by
  rcases hu with ⟨_, rfl⟩ | ⟨_, rfl⟩
  ·exact app_again a1.gk h1 u a2
  ·rfl
 have hT : Ta k m u := by
  rcases hu with ⟨_, rfl⟩ | ⟨_, rfl⟩
  ·exact ht
  ·exact ta_nil k m
 have hq : Qv wr tu u := by
  rcases hu with ⟨rfl, rfl⟩ | ⟨rfl, rfl⟩
  ·exact h.qv
  ·exact qv_0 wr
 have hqA : ∀ x, tu.ownBlock = some x → ¬ A x := by
  rcases hu with ⟨rfl, rfl⟩ | ⟨rfl, rfl⟩
  ·exact a8
  ·intro x hx; simp [Value.ownBlock] at hx
 refine (apply_open a1 (by omega) hq hqA h1 ha hT ⟨Ls, hA, a1.gk⟩).mono ?_
 rw [hA]
 rintro e w1 ⟨rfl, A', P', S', hrs, hA', hc, hcn, _, hX⟩
 obtain ⟨x1, x2⟩ := hX rfl
 refine ⟨rfl, ⟨⟨A', P', S', Ls, hrs, a2, by rw [x1]; exact a3, by rw [x2]; exact a4, by omega, fun x hx => ?_, fun x hx e => ?_, fun x hx e => ?_, fun x hx => ?_⟩, h.img.ch hc a6, kv_ch h.kvv hc a7, qv_ch h.qv hc (fun _ => a8), fun x hx => Nat.lt_of_lt_of_le (h.kvl x hx) hc.size, fun x hx => Nat.lt_of_lt_of_le (h.tvl x hx) hc.size, Nat.le_trans h.hil hc.size, h.bw.trans (hc.to_below h.bw.size a9)⟩⟩
 ·rcases hA' x hx with q | q
  ·exact a6 x q
  ·have := h.hil; omega
 ·rcases hA' x e with q | q
  ·exact a7 x hx q
  ·have := h.kvl x hx; omega
 ·rcases hA' x e with q | q
  ·exact a8 x hx q
  ·have := h.tvl x hx; omega
 ·rcases hA' x hx with q | q
  ·exact a9 x q
  ·have := h.bw.size; omega
end
end
section
open Go.RowKit

theorem ris_snoc : ∀ {l : List Nat} {x : Nat} {o : Option Nat}, risE o l = true → (∀ y ∈ l, y < x) → (∀ j, o = some j → j < x) → risE o (l ++ [x]) = true := by
 intro l
 induction l with
 | nil => intro x o _ _ ho; cases o with | none => rfl | some j => simp [risE, folN, ho j rfl]
 | cons a r ih =>
  intro x o h hl ho
  rw [risE, Bool.and_eq_true] at h
  rw [List.cons_append, risE, Bool.and_eq_true]
  exact ⟨h.1, ih h.2 (fun y hy => hl y (by simp [hy])) (fun j hj => by cases hj; exact hl a (by simp))⟩
theorem of_fit {k : Int} (hk : knownB k = true) : fitV k (ofV k 4607182418800017408) = ofV k 4607182418800017408 ∧ (ofV k 4607182418800017408).h = true := by
 have h : k = 1 ∨ k = 2 ∨ k = 3 ∨ k = 4 := by simp [knownB] at hk; omega
 rcases h with rfl | rfl | rfl | rfl <;> exact ⟨rfl, rfl⟩
theorem app_sz {ks : List Nat} (h : ks.length ≤ 40) : 0 + (ib ks).length ≤ maxLen ∧ (0 + (ib ks).length) * 8 ≤ 140737488355328 := by
 rw [ib_len]
 refine ⟨?_, by omega⟩
 simp only [maxLen]
 omega
theorem app_sz2 {ks : List Nat} (h : ks.length ≤ 40) : 0 + (ib ks).length + [(77 : Int)].length ≤ maxLen ∧ (0 + (ib ks).length + [(77 : Int)].length) * 8 ≤ 140737488355328 := by
 rw [ib_len, List.length_singleton]
 refine ⟨?_, by omega⟩
 simp only [maxLen]
 omega
theorem again_walk {k : Int} {w : World} {jv rv mv : Value} {jobs : List Jb} {recs : List Rcd} {more : List Nat} (hj : Jv w jv jobs) (hr : Rv w rv recs) (hm : Kv w mv more) (f s : Bool) :
  Calls Tryz.prog 7 #[.int .i64 k, jv, .agg #[rv, mv, .bool f, .bool s]] w fun e w' => e = .returned (.bool true) ∧ Below w.heap.size w w' := by
 obtain ⟨ra, rn, rc, rfl⟩ : ∃ x y z, rv = .slice x y z := by obtain ⟨⟨x, z, e, _⟩, _⟩ := id hr; exact ⟨x, _, z, e⟩
 obtain ⟨ma, mn, mc, rfl⟩ := sv_any hm
 have HB0 : Hid (Below w.heap.size w (w.alloc (Obj.cells #[.slice ra rn rc, .slice ma mn mc, .bool f, .bool s] 65))) := below_alloc _ _
 have c0 : (w.alloc (Obj.cells #[.slice ra rn rc, .slice ma mn mc, .bool f, .bool s] 65)).cell? ⟨w.heap.size, 0, none⟩ = some (.slice ra rn rc) := by simp [go_sem]
 have c1 : (w.alloc (Obj.cells #[.slice ra rn rc, .slice ma mn mc, .bool f, .bool s] 65)).cell? ⟨w.heap.size, 1, none⟩ = some (.slice ma mn mc) := by simp [go_sem]
 have c2 : (w.alloc (Obj.cells #[.slice ra rn rc, .slice ma mn mc, .bool f, .bool s] 65)).cell? ⟨w.heap.size, 2, none⟩ = some (.bool f) := by simp [go_sem]
 have c3 : (w.alloc (Obj.cells #[.slice ra rn rc, .slice ma mn mc, .bool f, .bool s] 65)).cell? ⟨w.heap.size, 3, none⟩ = some (.bool s) := by simp [go_sem]
 have HJ : Hid (Jv w jv jobs) := hj
 have HR : Hid (Rv w (.slice ra rn rc) recs) := hr
 have HM : Hid (Kv w (.slice ma mn mc) more) := hm
 clear hj hr hm
 go_in
 go_upto_region 1 with fail
 obtain ⟨N, hN⟩ : ∃ N, N = w.heap.size := ⟨_, rfl⟩
 rw [← hN] at c0 c1 c2 c3 ⊢
 generalize w.alloc (Obj.cells #[.slice ra rn rc, .slice ma mn mc, .bool f, .bool s] 65) = w0 at HB0 c0 c1 c2 c3 ⊢
 clear hN
 go_wp2_with fail
 refine (awake_walkS w0).mono ?_
 rintro e w1 ⟨rfl, hb1⟩
 have HB1 : Hid (Below w0.heap.size w0 w1) := hb1
 clear hb1
 obtain ⟨K, hK⟩ : ∃ K, K = knownB k := ⟨_, rfl⟩
 have HK : Hid (K = knownB k) := hK
 clear hK
 go_wp2_with fail
 refine (known_walk k w1).mono ?_
 rw [← HK.out]
 rintro e w2 ⟨rfl, hw2⟩
 replace hw2 := hw2.symm
 subst hw2
 cases K
 ·go_wp2_with fail
  go_ret
  exact ⟨rfl, below_trans HB0.out HB1.out⟩
 have HB01 : Hid (Below w.heap.size w w1) := below_trans HB0.out HB1.out
 obtain ⟨⟨ja, jn, jc, rfl⟩⟩ : Nonempty (∃ x y z, jv = .slice x y z) := by obtain ⟨x, z, e, _⟩ := HJ.out; exact ⟨x, _, z, e⟩
 go_wp2_with fail
 refine (rowed_walk HK.out.symm (HJ.out.below HB01.out)).mono ?_
 obtain ⟨js, hjs⟩ : ∃ js, js = jobs.take 60 := ⟨_, rfl⟩
 have HJ60 : Hid (js.length ≤ 60) := by rw [hjs, List.length_take]; show _ ≤ _; omega
 rw [← hjs]
 clear hjs
 rintro e w3 ⟨sp, sb, rfl, A3, P3, S3, m3, L3, hrw, hA3, hsp, hcn, hbl, hb3⟩
 obtain ⟨B, hB⟩ : ∃ B, B = rowB js := ⟨_, rfl⟩
 rw [List.take_length, ← hB] at hrw
 rw [← hB]
 have HBB : Hid (1 ≤ B ∧ B ≤ 61) := by
  have h1 := rowB_le js; have h2 := HJ60.out; have h3 : 1 ≤ rowB js := by unfold rowB; omega
  exact ⟨by omega, by omega⟩
 have HRW := hidH hrw
 have HC3 : Hid (cntS P3 S3 ≤ 12 + 34 * js.length) := hcn
 have HA3 : Hid (∀ x, A3 x → w.heap.size ≤ x) := fun x hx => Nat.le_trans HB01.out.size (hA3 x hx)
 have HB03 : Hid (Below w0.heap.size w0 w3) := below_trans HB1.out hb3
 have d0 : w3.cell? ⟨N, 0, none⟩ = some (.slice ra rn rc) := by rw [HB03.out.cell (p := ⟨N, 0, none⟩) (cell_lt c0)]; exact c0
 have d1 : w3.cell? ⟨N, 1, none⟩ = some (.slice ma mn mc) := by rw [HB03.out.cell (p := ⟨N, 1, none⟩) (cell_lt c1)]; exact c1
 have d2 : w3.cell? ⟨N, 2, none⟩ = some (.bool f) := by rw [HB03.out.cell (p := ⟨N, 2, none⟩) (cell_lt c2)]; exact c2
 have d3 : w3.cell? ⟨N, 3, none⟩ = some (.bool s) := by rw [HB03.out.cell (p := ⟨N, 3, none⟩) (cell_lt c3)]; exact c3
 have HW3 : Hid (Below w.heap.size w w3) := below_trans HB0.out HB03.out
 clear hrw hA3 hsp hcn hbl hb3 hB c0 c1 c2 c3
 go_wp2_with fail
 refine (part_walk HK.out.symm (HR.out.below HW3.out) (HM.out.below HW3.out) f s).mono ?_
 rintro e w4 ⟨tv, kv, rfl, hqv, hqb, hkv, hb4⟩
 obtain ⟨T, hT⟩ : ∃ T, T = ptT k recs := ⟨_, rfl⟩
 obtain ⟨ks, hks⟩ : ∃ ks, ks = ptK k recs more := ⟨_, rfl⟩
 have HTA : Hid (Ta k ⟨(B : Nat), 99, ks⟩ T) := by rw [hT, hks]; exact pt_ta HK.out.symm HR.out.2 _ _ _
 have HKS : Hid (keysOk ks ∧ ks.length ≤ 64 ∧ risB ks = true ∧ ∀ x ∈ ks, x < 40) := by rw [hks]; exact ⟨ptK_ok _ _ _, ptK_len _ _ _, ptK_ris _ _ _, ptK_low⟩
 have HKL : Hid (ks.length ≤ 40) := by rw [hks]; exact rise_len (rise_uni _) ptK_low
 rw [← hT] at hqv
 rw [← hks] at hkv
 have HKV : Hid (Kv w4 kv ks) := own_sv hkv
 have HKB : Hid (∀ x, kv.ownBlock = some x → w3.heap.size ≤ x ∧ x < w4.heap.size) := fun x hx => hkv.lt x hx
 have HQ : Hid (Qv w4 tv T) := hqv
 have HQB := hidH hqb
 have HAL : Hid (∀ x, A3 x → x < w3.heap.size) := fun x hx => HRW.out.rs.st.lt hx
 have HRW4 : Hid (RW A3 w4 (.pointer (some ⟨sp, 0, none⟩)) (.pointer (some ⟨sb, 0, none⟩)) k P3 S3 m3 L3 (B : Nat) js.length (rowF k js)) := HRW.out.below hb4
 have HW4 : Hid (Below w.heap.size w w4) := below_trans HW3.out hb4
 obtain ⟨ta, tn, tc, rfl⟩ : ∃ x y z, tv = .slice x y z := by obtain ⟨⟨x, z, e, _⟩, _⟩ := hqv; exact ⟨x, _, z, e⟩
 obtain ⟨ka, kn, kc, rfl⟩ := sv_any HKV.out
 clear hqv hqb hkv hb4 d0 d1 d2 d3 hT hks HRW
 go_wp2_with fail
 refine (begin_row HRW4.out (by have h1 := HC3.out; have h2 := HJ60.out; omega) (by have := HJ60.out; omega) HKV.out HKS.out.1 (fun x hx hA => by have h1 := HKB.out x hx; have h2 := HAL.out x hA; omega) (a := 99) (by have := HJ60.out; omega) (by omega) HKS.out.2.1 HKS.out.2.2.1).mono ?_
 rintro e w5 ⟨rfl, A5, P5, S5, L5, hrs5, low5, val5, hA5, hc5, hcn5, hbl5⟩
 have HRS5 := hidH hrs5
 have HLO5 : Hid (Low L5) := low5
 have HA5 : Hid (∀ x, A5 x → w.heap.size ≤ x) := fun x hx => by
  rcases hA5 x hx with q | q
  ·exact HA3.out x q
  ·have := HW4.out.size; omega
 have HW5 : Hid (Below w.heap.size w w5) := HW4.out.trans (hc5.to_below HW4.out.size HA3.out)
 have HVA5 : Hid (∀ x n, (B : Int) - 1 ≤ n → shRes L5 x n = rowF k js x) := val5
 have HC5 : Hid (cntS P5 S5 ≤ 2100) := by have h1 := HC3.out; have h2 := HJ60.out; show _ ≤ _; omega
 have HKV5 : Hid (Kv w5 (.slice ka kn kc) ks) := kv_ch HKV.out hc5 (fun x hx hA => by have h1 := HKB.out x hx; have h2 := HAL.out x hA; omega)
 have HQ5 : Hid (Qv w5 (.slice ta tn tc) T) := qv_ch HQ.out hc5 (fun _ x hx hA => by have h1 := HQB.out x hx; have h2 := HAL.out x hA; omega)
 have HKA5 : Hid (∀ x, (Value.slice ka kn kc).ownBlock = some x → ¬ A5 x ∧ x < w5.heap.size) := fun x hx => ⟨fun hA => by
  have h1 := HKB.out x hx
  rcases hA5 x hA with q | q
  ·have := HAL.out x q; omega
  ·omega, by have h1 := HKB.out x hx; have h2 := hc5.size; omega⟩
 have HQA5 : Hid (∀ x, (Value.slice ta tn tc).ownBlock = some x → ¬ A5 x ∧ x < w5.heap.size) := fun x hx => ⟨fun hA => by
  have h1 := HQB.out x hx
  rcases hA5 x hA with q | q
  ·have := HAL.out x q; omega
  ·omega, by have h1 := HQB.out x hx; have h2 := hc5.size; omega⟩
 clear hrs5 low5 val5 hA5 hc5 hcn5 hbl5 HRW4 HKV HQ HKB HQB HAL HC3
 go_wp2_with fail
 refine (apply_row HRS5.out HLO5.out HVA5.out (by have := HC5.out; omega) HQ5.out (fun x hx => (HQA5.out x hx).1) (by show (1 : Int) ≤ (B : Nat); have := HBB.out; omega) (by show (1 : Int) ≤ 99; omega) HTA.out).mono ?_
 rintro e w6 ⟨rfl, A6, P6, S6, L6, q1, q2, q3, q4, q5, q6, q7, q8, q9⟩
 have HRS6 := hidH q1
 have HDN : Hid (Done k (B : Nat) L6 T) := q5
 have HA6 : Hid (∀ x, A6 x → w.heap.size ≤ x) := fun x hx => by
  rcases q6 x hx with q | q
  ·exact HA5.out x q
  ·have := HW5.out.size; omega
 have HW6 : Hid (Below w.heap.size w w6) := HW5.out.trans (q7.to_below HW5.out.size HA5.out)
 have HC6 : Hid (cntS P6 S6 ≤ 2200) := by have h1 := HC5.out; show _ ≤ _; omega
 have HKV6 : Hid (Kv w6 (.slice ka kn kc) ks) := kv_ch HKV5.out q7 (fun x hx => (HKA5.out x hx).1)
 have HQ6 : Hid (Qv w6 (.slice ta tn tc) T) := qv_ch HQ5.out q7 (fun _ x hx => (HQA5.out x hx).1)
 have HKA6 : Hid (∀ x, (Value.slice ka kn kc).ownBlock = some x → ¬ A6 x ∧ x < w6.heap.size) := fun x hx => ⟨fun hA => by
  have h1 := HKA5.out x hx
  rcases q6 x hA with q | q
  ·exact h1.1 q
  ·omega, by have h1 := HKA5.out x hx; have h2 := q7.size; omega⟩
 have HQA6 : Hid (∀ x, (Value.slice ta tn tc).ownBlock = some x → ¬ A6 x ∧ x < w6.heap.size) := fun x hx => ⟨fun hA => by
  have h1 := HQA5.out x hx
  rcases q6 x hA with q | q
  ·exact h1.1 q
  ·omega, by have h1 := HQA5.out x hx; have h2 := q7.size; omega⟩
 clear q1 q2 q3 q4 q5 q6 q7 q8 q9 HRS5 HLO5 HVA5 HC5 HKV5 HQ5 HKA5 HQA5
 go_wp2_with fail
 refine (image_rs HRS6.out.st).mono ?_
 rintro e w7 ⟨g, cap, rfl, hig, hb7⟩
 obtain ⟨bl, hbl⟩ : ∃ bl, bl = S6.bl := ⟨_, rfl⟩
 obtain ⟨wn, hwn⟩ : ∃ wn, wn = S6.wr := ⟨_, rfl⟩
 rw [← hbl] at hig ⊢
 have HBY : Hid (∀ b ∈ bl, ∀ c ∈ b, c < 256) := by rw [hbl]; exact HRS6.out.st.byt
 have HST7 : Hid (ST A6 w7 (.pointer (some ⟨sp, 0, none⟩)) (.pointer (some ⟨sb, 0, none⟩)) k P6 S6) := HRS6.out.st.below hb7
 have HAG : Hid (Ag w w6.heap.size w7.heap.size sp sb k ⟨(B : Nat), 99, ks⟩ T bl wn 2200 (.slice ka kn kc) (.slice ta tn tc) g cap w7) :=
  ⟨⟨A6, P6, S6, L6, HRS6.out.below hb7, HDN.out, hbl.symm, hwn.symm, HC6.out, fun x hx => .inl (HRS6.out.st.lt hx), fun x hx => (HKA6.out x hx).1, fun x hx => (HQA6.out x hx).1, HA6.out⟩, hig, HKV6.out.below hb7, HQ6.out.below hb7, fun x hx => Nat.lt_of_lt_of_le (HKA6.out x hx).2 hb7.size, fun x hx => Nat.lt_of_lt_of_le (HQA6.out x hx).2 hb7.size, Nat.le_refl _, below_trans HW6.out hb7⟩
 obtain ⟨bn, hbn⟩ : ∃ bn, bn = bl.length := ⟨_, rfl⟩
 rw [← hbn]
 have HBN : Hid (bn = bl.length) := hbn
 have HWN : Hid (wn = S6.wr) := hwn
 clear hig hb7 hbl hwn hbn HRS6 HDN HC6 HKV6 HQ6 HKA6 HQA6
 go_wp2_with fail
 refine (writes_rs HST7.out).mono ?_
 rw [← HWN.out]
 rintro e w8 ⟨rfl, hw8⟩
 replace hw8 := hw8.symm
 subst hw8
 obtain ⟨lo, hlo⟩ : ∃ lo, lo = w6.heap.size := ⟨_, rfl⟩
 obtain ⟨hi, hhi⟩ : ∃ hi, hi = w7.heap.size := ⟨_, rfl⟩
 rw [← hlo, ← hhi] at HAG
 clear hlo hhi HST7 HWN
 go_wp2_with fail
 go_loopw [14] (fun iv wr => ∃ i : Nat, iv = .int .i64 i ∧ i ≤ 3 ∧ Ag w lo hi sp sb k ⟨(B : Nat), 99, ks⟩ T bl wn (2200 + 50 * i) (.slice ka kn kc) (.slice ta tn tc) g cap wr) (fun iv _ => 3 - (intOf iv).toNat)
 case atStart => exact ⟨0, rfl, by omega, HAG.out⟩
 case round =>
  obtain ⟨i, rfl, hi3, hag⟩ := hrel
  have HG := hidH hag
  clear hag HAG
  by_cases hlt : i < 3
  ·have hlti : (i : Int) < 3 := by omega
   go_wp2_with fail
   refine (ag_begin HG.out (by omega) HKS.out.1 (by show (1 : Int) ≤ (B : Nat); have := HBB.out; omega) (by show (1 : Int) ≤ 99; omega) HKS.out.2.1 HKS.out.2.2.1).mono ?_
   rintro e wa ⟨rfl, hg1⟩
   have HG1 := hidH hg1
   clear hg1
   go_wp2_with fail
   refine (ag_apply HG1.out (by omega) (by show (1 : Int) ≤ (B : Nat); have := HBB.out; omega) (by show (1 : Int) ≤ 99; omega) (.inl ⟨rfl, rfl⟩) HTA.out).mono ?_
   rintro e wb ⟨rfl, hg1⟩
   have HG2 := hidH hg1
   clear hg1
   go_wp2_with fail
   refine (ag_apply HG2.out (by omega) (by show (1 : Int) ≤ (B : Nat); have := HBB.out; omega) (by show (1 : Int) ≤ 99; omega) (.inr ⟨rfl, rfl⟩) HTA.out).mono ?_
   rintro e wd ⟨rfl, hg1⟩
   have HG3 : Hid (Ag w lo hi sp sb k ⟨(B : Nat), 99, ks⟩ T bl wn (2200 + 50 * (i + 1)) (.slice ka kn kc) (.slice ta tn tc) g cap wd) := hg1.mono (by omega)
   clear hg1
   go_wp2_with fail
   go_roundw
   case rel => exact ⟨i + 1, by go_num, by omega, HG3.out⟩
   case measure => simp [intOf]; omega
  ·have hlti : ¬ (i : Int) < 3 := by omega
   have e3 : i = 3 := by omega
   subst e3
   have HO0 : Hid ((wr.alloc (Obj.cells #[] 37)).ownsRow wr.heap.size 37 1 (.slice (some ⟨wr.heap.size, 0, none⟩) 0 0) 0 (([] : List Int).map (Value.int .u64))) := World.ownsRow_made wr #[] 0 (Nat.le_refl _) (by simp [maxLen]) rfl
   have HK0 : Hid (Kv (wr.alloc (Obj.cells #[] 37)) (.slice ka kn kc) ks) := HG.out.kvv.below (below_alloc _ _)
   have HB0' : Hid (Below wr.heap.size wr (wr.alloc (Obj.cells #[] 37))) := below_alloc _ _
   go_upto_region 18 with fail
   go_upto_region 19 with (at_builtin; first
    | (refine wpList_append_sv (by rfl) (.tmp 74) (.tmp 75) 38 (by rfl) wr.heap.size 37 .u64 8 Tryz.underlying38 info_u64 _ _ _ (by rfl) HO0.out _ (ib ks) (by rfl) HK0.out (app_sz HKL.out).1 (app_sz HKL.out).2 HB0'.out.size ?_; intro v1 wx1 ho1 hg1; have HX1 : Hid (Below wr.heap.size wr wx1) := HB0'.out.grown hg1 HB0'.out.size (fun q hq => (HO0.out.lt q hq).1); have HOX : Hid (wx1.ownsRow wr.heap.size 37 1 v1 (0 + (ib ks).length) ((ib ks).map (Value.int .u64))) := ho1; clear ho1 hg1)
    | (refine wpList_append_sv (by rfl) (.tmp 76) (.tmp 77) 38 (by rfl) wr.heap.size 37 .u64 8 Tryz.underlying38 info_u64 _ _ _ (by rfl) (HOX.out.alloc _) _ [(77 : Int)] (by rfl) (by simpa [go_sem] using sv_one .u64 wx1 37 77) (app_sz2 HKL.out).1 (app_sz2 HKL.out).2 (by have := HX1.out.size; rw [size_allocC]; omega) ?_; intro v2 wx2 ho2 hg2))
   have HX2 : Hid (Below wr.heap.size wr wx2) := (below_trans HX1.out (below_alloc _ _)).grown hg2 (below_trans HX1.out (below_alloc wx1 (Obj.cells #[.int .u64 77] 37))).size (fun q hq => (HOX.out.lt q hq).1)
   have HKO : Hid (Kv wx2 v2 (ks ++ [77])) := by
    have h := own_sv (l := ib (ks ++ [77])) (by rw [ib_append, List.map_append]; exact ho2)
    exact h
   have HKB2 : Hid (∀ x, v2.ownBlock = some x → wr.heap.size ≤ x) := fun x hx => (ho2.lt x hx).1
   clear ho2 hg2 HOX HX1 HO0 HK0 HB0'
   obtain ⟨A, P, S, Ls, a1, a2, a3, a4, a5, a6, a7, a8, a9⟩ := HG.out.ex
   have HA9 : Hid (∀ x, A x → w.heap.size ≤ x) := a9
   have HW9 : Hid (Below w.heap.size w wx2) := below_trans HG.out.bw HX2.out
   have HR9 : Hid (RS A wx2 (.pointer (some ⟨sp, 0, none⟩)) (.pointer (some ⟨sb, 0, none⟩)) k P S ⟨(B : Nat), 99, ks⟩ Ls) := a1.below HX2.out
   have HAL : Hid (∀ x, A x → x < wr.heap.size) := fun x hx => a1.st.lt hx
   have HAI : Hid (∀ x, A x → x < lo ∨ hi ≤ x) := a6
   have HC9 : Hid (cntS P S ≤ 2350 ∧ S.bl = bl ∧ S.wr = wn) := ⟨a5, a3, a4⟩
   have HIM : Hid (Img lo hi wx2 g cap bl) := HG.out.img.below HX2.out
   obtain ⟨oa, on, oc, rfl⟩ := sv_any HKO.out
   have HBE : Hid (begE ⟨(B : Nat), 99, ks⟩ (B : Nat) 99 (ks ++ [77]) = some 93) := by
    show _ = _
    rw [beg_same (by
     rintro (q | q | q)
     ·simp [cntdB] at q; have := HBB.out; omega
     ·have := HKL.out; simp at q; omega
     ·have h := ris_snoc (x := 77) (o := none) HKS.out.2.2.1 (fun y hy => by have := HKS.out.2.2.2 y hy; omega) (by simp)
      unfold risB at q
      rw [h] at q; cases q) (jud_eq (b := ((B : Nat) : Int)) (a := 99) (by have := HBB.out; omega) (by omega)), if_neg (fun e => by have := congrArg List.length e; simp at this)]
   clear a1 a2 a3 a4 a5 a6 a7 a8 a9 HG
   go_wp2_with fail
   refine (begin_not HR9.out (by have := HC9.out.1; omega) HKO.out (fun x hx => by
    rcases List.mem_append.1 hx with q | q
    ·exact HKS.out.1 x q
    ·simp at q; omega) (fun x hx hA => by have h1 := HKB2.out x hx; have h2 := HAL.out x hA; omega) HBE.out).mono ?_
   rintro e wy ⟨rfl, Sy, hrs, hd, hc⟩
   have HRy := hidH hrs
   have HCy : Hid (cntS P Sy ≤ 2400 ∧ Sy.bl = bl ∧ Sy.wr = wn) := ⟨by have h1 := cnt_rdd (P := P) hd; have h2 := HC9.out.1; omega, by rw [hd.bl]; exact HC9.out.2.1, by rw [hd.wr]; exact HC9.out.2.2⟩
   have HIy : Hid (Img lo hi wy g cap bl) := HIM.out.ch hc HAI.out
   have HWy : Hid (Below w.heap.size w wy) := HW9.out.trans (hc.to_below HW9.out.size HA9.out)
   clear hrs hd hc HR9 HC9 HIM HBE HKO HKB2 HX2 HAL
   go_wp2_with fail
   refine (aof_walk k (by decide : (4607182418800017408 : Nat) < 18446744073709551616) wy).mono ?_
   rintro e wz ⟨rfl, hbz⟩
   obtain ⟨v, hv⟩ : ∃ v, v = ofV k 4607182418800017408 := ⟨_, rfl⟩
   rw [← hv]
   have HV : Hid (v.ok ∧ fitV k v = v ∧ v.h = true) := by rw [hv]; exact ⟨ofV_ok k (by decide), (of_fit HK.out.symm).1, (of_fit HK.out.symm).2⟩
   have HRz : Hid (RS A wz (.pointer (some ⟨sp, 0, none⟩)) (.pointer (some ⟨sb, 0, none⟩)) k P Sy ⟨(B : Nat), 99, ks⟩ Ls) := HRy.out.below hbz
   have HIz : Hid (Img lo hi wz g cap bl) := HIy.out.below hbz
   have HWz : Hid (Below w.heap.size w wz) := below_trans HWy.out hbz
   have HQz : Hid (Qv (wz.alloc (Obj.cells #[.int .u64 77, .bool v.h, .int .u64 v.b] 87)) (.slice (some ⟨wz.heap.size, 0, none⟩) 1 1) [⟨77, v⟩]) := qv_1 wz ⟨77, v⟩ ⟨by show (77 : Nat) < _; decide, HV.out.1⟩
   have HBz : Hid (Below wz.heap.size wz (wz.alloc (Obj.cells #[.int .u64 77, .bool v.h, .int .u64 v.b] 87))) := below_alloc _ _
   have HAE : Hid (apE ⟨(B : Nat), 99, ks⟩ k (B : Nat) 99 Ls [⟨77, v⟩] = some 132) := by
    refine ap_key ?_ (jud_eq (b := ((B : Nat) : Int)) (a := 99) (by have := HBB.out; omega) (by omega)) ?_
    ·rintro (q | q)
     ·simp [cntdB] at q; have := HBB.out; omega
     ·rw [fits_of (by simp [tabB, HV.out.2.2]) (by intro p hp; simp at hp; subst hp; exact HV.out.2.1)] at q; cases q
    ·have h77 : 77 ∉ ks := fun e => by have := HKS.out.2.2.2 77 e; omega
     simp [toucB, h77]
   clear hv hbz HRy HIy
   go_wp2_with fail
   refine (apply_not (HRz.out.below HBz.out) (by have := HCy.out.1; omega) HQz.out (fun x hx hA => by have h := HRz.out.st.lt hA; simp [Value.ownBlock] at hx; omega) HAE.out).mono ?_
   rintro e wu ⟨rfl, Su, hrs, hd, hc⟩
   have HRu := hidH hrs
   have HCu : Hid (Su.bl = bl ∧ Su.wr = wn) := ⟨by rw [hd.bl]; exact HCy.out.2.1, by rw [hd.wr]; exact HCy.out.2.2⟩
   have HIu : Hid (Img lo hi wu g cap bl) := (HIz.out.below HBz.out).ch hc HAI.out
   have HWu : Hid (Below w.heap.size w wu) := (below_trans HWz.out HBz.out).trans (hc.to_below (below_trans HWz.out HBz.out).size HA9.out)
   clear hrs hd hc HRz HCy HIz HQz HBz HAE
   go_wp2_with fail
   refine (image_rs HRu.out.st).mono ?_
   rintro e wt ⟨g2, cap2, rfl, hig, hbt⟩
   rw [HCu.out.1] at hig ⊢
   have HP1 : Hid (PvD wt (.slice (some ⟨g2, 0, none⟩) bn cap2) bl) := by rw [HBN.out]; exact hig.pv HBY.out
   have HP2 : Hid (PvD wt (.slice (some ⟨g, 0, none⟩) bn cap) bl) := by rw [HBN.out]; exact (HIu.out.below hbt).pv HBY.out
   have HWt : Hid (Below w.heap.size w wt) := below_trans HWu.out hbt
   have HSt : Hid (ST A wt (.pointer (some ⟨sp, 0, none⟩)) (.pointer (some ⟨sb, 0, none⟩)) k P Su) := HRu.out.st.below hbt
   rw [← HBN.out]
   clear hig hbt HRu HIu
   go_wp2_with fail
   refine (images_walkS HP1.out HP2.out).mono ?_
   rw [decide_eq_true rfl]
   rintro e ws ⟨rfl, hbs⟩
   have HWs : Hid (Below w.heap.size w ws) := below_trans HWt.out hbs
   have HSs : Hid (ST A ws (.pointer (some ⟨sp, 0, none⟩)) (.pointer (some ⟨sb, 0, none⟩)) k P Su) := HSt.out.below hbs
   clear hbs HP1 HP2 HSt
   have hee : ((wn : Int) == (wn : Int)) = true := by simp
   go_wp2_with fail
   refine (writes_rs HSs.out).mono ?_
   rw [HCu.out.2]
   rintro e wq ⟨rfl, hwq⟩
   replace hwq := hwq.symm
   subst hwq
   go_wp2_with fail
   go_ret
   exact ⟨rfl, HWs.out⟩
end
section
open Go.ChangeShapes Go.WideShapes Go.ChangeAt Go.RowKit

theorem lifted_storeAgain (os : Os) (started : os.Started) (H : Type) (enc : TypeId × Value → H) :
  ReturnsInHanded {} Tryz.checked os 7 .any (Rows.storeAgainSpec.pre6 enc Tryz.prog Tryz.f7 Rows.storeAgainRow.domain false) (Rows.storeAgainSpec.post enc Tryz.prog Tryz.f7 false true false false) := by
 refine returnsInHanded_of_change (C := Tryz.checked) own_knob started (by kernel_rfl) Tryz.func7
  (ChangeSpec.witness6 (enc := enc) (C := Tryz.checked) false ⟨#[], #[.int .i64 0, .slice none 0 0, .agg #[.slice none 0 0, .slice none 0 0, .bool false, .bool false]], []⟩ 8 (by kernel_rfl) (by kernel_rfl) (by kernel_rfl) (by kernel_rfl)) ?_
 intro W base args ds gs before hval0 hW hcnd _
 have hval : ∀ (j : Nat) t v, Tryz.f7.params[j]? = some t → args[j]? = some v → Value.okWide Tryz.prog W .any base t v := hval0
 have hW' := hW
 obtain ⟨p, q, hA0, hV, rfl, hfz, hnd⟩ := hW
 have hA : DataW.TrodAll enc Tryz.prog W 0 (fun _ => true) true Tryz.f7.params.toList args.toList ds p := hA0
 rw [Tryz.params7] at hA hval
 obtain ⟨v0, vs0, d0, ds0, p0, q0, hargs, rfl, rfl, t0, r0⟩ := trodAll_cons hA
 obtain ⟨v1, vs1, d1, ds1, p1, q1, rfl, rfl, rfl, t1, r1⟩ := trodAll_cons r0
 obtain ⟨v2, vs2, d2, ds2, p2, q2, rfl, rfl, rfl, t2, r2⟩ := trodAll_cons r1
 obtain ⟨rfl, rfl, rfl⟩ := trodAll_nil r2
 obtain rfl : args = #[v0, v1, v2] := by cases args; simp_all
 obtain ⟨rfl, rfl⟩ := trodVars_none hV
 simp only [List.append_nil] at hW'
 have o0 := open_int Tryz.underlying3 (hval 0 3 v0 rfl rfl) t0
 obtain ⟨a0, e0, _, _, wf0⟩ := o0
 have w0 := i64_of_wf wf0
 subst e0
 obtain ⟨l1, b1⟩ := open_jobs (hval 1 57 v1 rfl rfl) t1
 obtain ⟨rv2, mv2, j2, e2, br2, bm2⟩ := open_job13 (hval 2 65 v2 rfl rfl) t2
 subst e2
 refine (again_walk b1 br2 bm2 j2.f j2.s).mono fun e W' ⟨he, hB⟩ => ?_
 subst he
 exact ⟨_, rfl, post_of_below (pv := []) hW' (fun _ _ _ => (trodAll_cons_mk (shut_bool Tryz.underlying4 _) trodAll_mk0)) (fun sp hsp => (trodAll_cons_mk (again (by kernel_rfl) (of_decide_eq_true (by kernel_rfl)) t0 hB (fun x hx => by simpa using hW'.lt x (by simp [hx])) (fun x hx => hsp x (by simp [hx]))) (trodAll_cons_mk (again (by kernel_rfl) (of_decide_eq_true (by kernel_rfl)) t1 hB (fun x hx => by simpa using hW'.lt x (by simp [hx])) (fun x hx => hsp x (by simp [hx]))) (trodAll_cons_mk (again (by kernel_rfl) (of_decide_eq_true (by kernel_rfl)) t2 hB (fun x hx => by simpa using hW'.lt x (by simp [hx])) (fun x hx => hsp x (by simp [hx]))) trodAll_mk0)))) (fun _ _ => rfl) (by simp) hB⟩
theorem storeAgain_holds : Rows.StoreAgainSaid :=
 OpenClaim.holds_of_wide 7 Tryz.f7 rfl rfl rfl rfl rfl rfl rfl ⟨rfl, rfl, rfl, rfl, rfl⟩ rfl rfl rfl rfl rfl (by kernel_rfl) Tryz.func7 (by kernel_rfl)
  (of_decide_eq_true (by kernel_rfl)) (by unfold Func.isWrapper; first | (rw [if_pos (by decide +kernel)]; kernel_rfl) | (rw [if_neg (by decide +kernel)]; exact ⟨rfl, rfl⟩))
  (fun os started H enc _ => lifted_storeAgain os started H enc)
#print axioms storeAgain_holds
end
end Go.Proofs.YtofkhgokfdpdiaaGreat
