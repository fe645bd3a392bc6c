/- StoreFences: the walk. -/
import Derived.Test.YtofkhgokfdpdiaaGreatB48
import Derived.Test.YtofkhgokfdpdiaaGreatB50
import Derived.Test.YtofkhgokfdpdiaaGreatB09
set_option maxRecDepth 100000
set_option maxHeartbeats 16000000
namespace Go.Proofs.YtofkhgokfdpdiaaGreat
section
open Go.ChangeShapes Go.WideShapes Go.ChangeAt Go.RowKit

section

variable {H : Type} {enc : TypeId × Value → H} {W : World} {sp : Nat → Bool} {held : Bool} {base : Nat}

theorem trod_struct6S {P : Program} {t : TypeId} {f0 f1 f2 f3 f4 f5 : Field} {fuel : Nat} {cs : List Value} {x : DataW H × List MemPlace} (ht : P.underlying t = some (.struct #[f0, f1, f2, f3, f4, f5])) (h : DataW.trod enc P W base sp held fuel t cs = some x) :
  ∃ y0 y1 y2 y3 y4 y5 n, x = (.agg [y0.1, y1.1, y2.1, y3.1, y4.1, y5.1], y0.2 ++ (y1.2 ++ (y2.2 ++ (y3.2 ++ (y4.2 ++ y5.2))))) ∧ cs.length = P.cellsOf t ∧ DataW.trod enc P W base sp held n f0.type ((cs.drop f0.offset).take (P.cellsOf f0.type)) = some y0 ∧ DataW.trod enc P W base sp held n f1.type ((cs.drop f1.offset).take (P.cellsOf f1.type)) = some y1 ∧ DataW.trod enc P W base sp held n f2.type ((cs.drop f2.offset).take (P.cellsOf f2.type)) = some y2 ∧ DataW.trod enc P W base sp held n f3.type ((cs.drop f3.offset).take (P.cellsOf f3.type)) = some y3 ∧ DataW.trod enc P W base sp held n f4.type ((cs.drop f4.offset).take (P.cellsOf f4.type)) = some y4 ∧ DataW.trod enc P W base sp held n f5.type ((cs.drop f5.offset).take (P.cellsOf f5.type)) = some y5 := by
 obtain ⟨xs, n, _, rfl, hl, hlen, hf⟩ := DataW.trod_struct ht h
 match xs, hlen with
 | [y0, y1, y2, y3, y4, y5], _ => exact ⟨y0, y1, y2, y3, y4, y5, n, by simp, hl, by simpa using hf 0 f0 rfl, by simpa using hf 1 f1 rfl, by simpa using hf 2 f2 rfl, by simpa using hf 3 f3 rfl, by simpa using hf 4 f4 rfl, by simpa using hf 5 f5 rfl⟩
end

theorem cells_op13 : Tryz.prog.cellsOf 41 = 6 := by kernel_rfl
theorem cells_u64S : Tryz.prog.cellsOf 37 = 1 := by kernel_rfl
theorem cells_intS : Tryz.prog.cellsOf 3 = 1 := by kernel_rfl
theorem cells_pairsS : Tryz.prog.cellsOf 39 = 1 := by kernel_rfl
theorem array6S {α : Type} {a : Array α} (h : a.size = 6) : ∃ x y z u v t, a = #[x, y, z, u, v, t] := by
 rcases a with ⟨l⟩
 match l, h with
 | [x, y, z, u, v, t], _ => exact ⟨x, y, z, u, v, t, rfl⟩
theorem open_op13 {H : Type} {enc : TypeId × Value → H} {W : World} {v : Value} {d : DataW H} {p : List MemPlace} {base : Nat}
  (hv : Value.okWide Tryz.prog W .any base 41 v) (h : DataW.Trod enc Tryz.prog W 0 (fun _ => true) true 41 v d p) :
  ∃ (kv tv : Value) (o b a : Int) (k : Nat) (l : List Nat), v = .agg #[.int .i64 o, .int .i64 b, .int .i64 a, .int .u64 k, kv, tv] ∧ k < 18446744073709551616 ∧ Kv W kv l ∧ keysOk l ∧ (∃ x y z, tv = .slice x y z) ∧ ∃ d0 d1 d2 d3 d4 d5, d = .agg [d0, d1, d2, d3, d4, d5] ∧ Szd d4 l := by
 obtain ⟨cs, rfl, hsz⟩ := okWide_struct Tryz.underlying41 hv
 obtain ⟨fuel, hf⟩ := h
 obtain ⟨y0, y1, y2, y3, y4, y5, m, hx, _, h0, h1, h2, h3, h4, h5⟩ := trod_struct6S Tryz.underlying41 hf
 have h6 : cs.size = 6 := by simpa [Value.cells, cells_op13] using hsz
 obtain ⟨c0, c1, c2, c3, c4, c5, rfl⟩ := array6S h6
 simp only [Value.cells, cells_intS, cells_u64S, cells_keysS, cells_pairsS, List.drop_zero, List.drop_succ_cons, List.take_succ_cons, List.take_zero] at h0 h1 h2 h3 h4 h5
 obtain ⟨o, rfl, _⟩ := cell_i64 Tryz.underlying3 h0
 obtain ⟨b, rfl, _⟩ := cell_i64 Tryz.underlying3 h1
 obtain ⟨a, rfl, _⟩ := cell_i64 Tryz.underlying3 h2
 obtain ⟨k, rfl, hk⟩ := cell_u64 h3
 obtain ⟨kv, l, e4, hl, hz⟩ := core_kv h4
 have e5 : ∃ x y z, c5 = .slice x y z := by
  rcases Go.Deep.open_slice Tryz.underlying39 h5 with ⟨hcs, _⟩ | ⟨a, len, cap, m, n, D, Pl, hcs, _⟩
  ·simp at hcs; exact ⟨_, _, _, hcs⟩
  ·simp at hcs; exact ⟨_, _, _, hcs⟩
 simp only [List.cons.injEq, and_true] at e4
 subst e4
 simp only [Prod.mk.injEq] at hx
 exact ⟨c4, c5, o, b, a, k, l, rfl, hk, hl.1, hl.2, e5, y0.1, y1.1, y2.1, y3.1, y4.1, y5.1, hx.1, hz⟩
theorem bytes_u64S : Tryz.prog.bytesOf 37 = 8 := by kernel_rfl
theorem sized_op {H : Type} {e0 e1 d d0 d1 d2 d3 d4 d5 : DataW H} {l : List Nat} (h : (DataW.weightsEach Tryz.prog [3, 57, 41] [e0, e1, d]).all (· ≤ reachBytes) = true) (hd : d = .agg [d0, d1, d2, d3, d4, d5]) (hz : Szd d4 l) : l.length * 8 ≤ 140737488355328 := by
 rcases hz with ⟨_, rfl⟩ | ⟨elems, spare, rfl, hl⟩
 ·simp
 ·subst hd
  have hm : (elems.length + spare.length) * Tryz.prog.bytesOf 37 ∈ DataW.weightsEach Tryz.prog [3, 57, 41] [e0, e1, DataW.agg [d0, d1, d2, d3, .slice elems spare, d5]] := by
   simp [DataW.weightsEach, DataW.weights, Tryz.underlying41, Tryz.underlying38]
  have := List.all_eq_true.1 h _ hm
  rw [bytes_u64S] at this
  simp only [reachBytes] at this
  have h2 : (elems.length + spare.length) * 8 ≤ 140737488351232 := of_decide_eq_true this
  omega
end
section
open Go.RowKit

structure Apt (wz : World) (lo hi T5 T10 : Nat) (kv uv : Value) (A : Nat → Prop) : Prop where
 a1 : ∀ x, A x → wz.heap.size ≤ x
 a2 : ∀ x, A x → x < lo ∨ hi ≤ x
 a3 : ¬ A T5
 a4 : ¬ A T10
 a5 : ∀ x, kv.ownBlock = some x → ¬ A x
 a6 : ∀ x, uv.ownBlock = some x → ¬ A x
structure Kep (wz : World) (lo hi T5 T10 : Nat) (kv uv : Value) (lb la : Int) (lk : Nat) (mb ma : Int) (mk us : List Nat) (g cap : Nat) (bl : List (List Nat)) (wr : World) : Prop where
 c1 : wr.cell? ⟨T5, 1, none⟩ = some (.int .i64 lb)
 c2 : wr.cell? ⟨T5, 2, none⟩ = some (.int .i64 la)
 c3 : wr.cell? ⟨T5, 3, none⟩ = some (.int .u64 lk)
 d0 : wr.cell? ⟨T10, 0, none⟩ = some (.int .i64 mb)
 d1 : wr.cell? ⟨T10, 1, none⟩ = some (.int .i64 ma)
 d2 : wr.cell? ⟨T10, 2, none⟩ = some kv
 kvv : Kv wr kv mk
 uvv : Kv wr uv us
 img : Img lo hi wr g cap bl
 bw : Below wz.heap.size wz wr
 kl : ∀ x, kv.ownBlock = some x → x < wr.heap.size
 ul : ∀ x, uv.ownBlock = some x → x < wr.heap.size
 hl : hi ≤ wr.heap.size
section

variable {wz wr w' : World} {lo hi T5 T10 : Nat} {kv uv : Value} {lb la : Int} {lk : Nat} {mb ma : Int} {mk us : List Nat} {g cap : Nat} {bl : List (List Nat)} {A A' : Nat → Prop}

theorem Kep.ch (h : Kep wz lo hi T5 T10 kv uv lb la lk mb ma mk us g cap bl wr) (hA : Apt wz lo hi T5 T10 kv uv A) (hc : Ch A wr w') : Kep wz lo hi T5 T10 kv uv lb la lk mb ma mk us g cap bl w' :=
 ⟨hc.cell h.c1 hA.a3, hc.cell h.c2 hA.a3, hc.cell h.c3 hA.a3, hc.cell h.d0 hA.a4, hc.cell h.d1 hA.a4, hc.cell h.d2 hA.a4, kv_ch h.kvv hc hA.a5, kv_ch h.uvv hc hA.a6, h.img.ch hc hA.a2, h.bw.trans (hc.to_below h.bw.size hA.a1), fun x hx => Nat.lt_of_lt_of_le (h.kl x hx) hc.size, fun x hx => Nat.lt_of_lt_of_le (h.ul x hx) hc.size, Nat.le_trans h.hl hc.size⟩
theorem Kep.below (h : Kep wz lo hi T5 T10 kv uv lb la lk mb ma mk us g cap bl wr) (hb : Below wr.heap.size wr w') : Kep wz lo hi T5 T10 kv uv lb la lk mb ma mk us g cap bl w' :=
 h.ch (A := fun _ => False) ⟨fun _ e => e.elim, fun _ e => e.elim, id, id, fun _ _ e => e, fun _ _ e => e⟩ (Ch.of_below hb)
theorem Apt.next (hA : Apt wz lo hi T5 T10 kv uv A) (h : Kep wz lo hi T5 T10 kv uv lb la lk mb ma mk us g cap bl wr) (hx : ∀ x, A' x → A x ∨ wr.heap.size ≤ x) : Apt wz lo hi T5 T10 kv uv A' := by
 refine ⟨fun x q => ?_, fun x q => ?_, fun q => ?_, fun q => ?_, fun x e q => ?_, fun x e q => ?_⟩
 ·rcases hx x q with z | z
  ·exact hA.a1 x z
  ·have := h.bw.size; omega
 ·rcases hx x q with z | z
  ·exact hA.a2 x z
  ·have := h.hl; omega
 ·rcases hx _ q with z | z
  ·exact hA.a3 z
  ·have := cell_lt h.c1; simp only at this; omega
 ·rcases hx _ q with z | z
  ·exact hA.a4 z
  ·have := cell_lt h.d0; simp only at this; omega
 ·rcases hx x q with z | z
  ·exact hA.a5 x e z
  ·have := h.kl x e; omega
 ·rcases hx x q with z | z
  ·exact hA.a6 x e z
  ·have := h.ul x e; omega
end

theorem rv_1 (w : World) (r : Rcd) (hr : r.ok) : Rv (w.alloc (Obj.cells #[.int .u64 r.k, .float .f64 r.x] 81)) (.slice (some ⟨w.heap.size, 0, none⟩) 1 1) [r] := by
 refine ⟨⟨_, 1, rfl, Nat.le_refl _, by simp [maxLen], by simp, fun i hi => ?_⟩, fun o ho => by simp at ho; subst ho; exact hr⟩
 have h : i = 0 := by simp at hi; omega
 subst h
 exact ⟨w.heap.size, 0, rfl, by simp [go_sem], by simp [go_sem]⟩
end
section
open Go.RowKit

theorem cmp_dn {b a mb ma : Int} (hm : b < mb ∨ (b = mb ∧ a < ma)) : cmpA b a mb ma = -1 := by
 unfold cmpA cmpIM
 by_cases e : b = mb
 ·rw [if_pos e, if_pos (by omega)]
 ·rw [if_neg e, if_pos (by omega)]
theorem cmp_up {b a mb ma : Int} (hm : mb < b ∨ (b = mb ∧ ma < a)) : cmpA b a mb ma = 1 := by
 unfold cmpA cmpIM
 by_cases e : b = mb
 ·rw [if_pos e, if_neg (by omega), if_pos (by omega)]
 ·rw [if_neg e, if_neg (by omega), if_pos (by omega)]
theorem cmp_eq (b a : Int) : cmpA b a b a = 0 := by
 unfold cmpA cmpIM
 rw [if_pos rfl, if_neg (by omega), if_neg (by omega)]
theorem pt_one (k : Int) (r : Rcd) : ∀ p ∈ ptT k [r], p.k = r.k % 40 := by
 intro p hp
 have h : ptT k [r] = [⟨r.k % 40, mergeV k noV (ofV k (canonW r.x))⟩] := by
  unfold ptT batchT keptT
  simp only [List.take_succ_cons, List.take_nil, List.filterMap_cons, rg_run, List.filterMap_nil]
  rfl
 rw [h] at hp
 simp at hp
 rw [hp]
theorem fences_walk {k : Int} {w : World} {jv kv0 tv0 : Value} {jobs : List Jb} {lks : List Nat} (hj : Jv w jv jobs) (hk0 : Kv w kv0 lks) (hko : keysOk lks) (hsz : lks.length * 8 ≤ 140737488355328) (htv : ∃ x y z, tv0 = .slice x y z) (lo0 lb la : Int) {lk : Nat} (hlk : lk < 18446744073709551616) :
  Calls Tryz.prog 6 #[.int .i64 k, jv, .agg #[.int .i64 lo0, .int .i64 lb, .int .i64 la, .int .u64 lk, kv0, tv0]] w fun e w' => e = .returned (.bool true) ∧ Below w.heap.size w w' := by
 obtain ⟨ta, tn, tc, rfl⟩ := htv
 obtain ⟨ka, kn, kc, rfl⟩ := sv_any hk0
 have HLK : Hid (lk < 18446744073709551616) := hlk
 have HKO : Hid (keysOk lks) := hko
 have HSZ : Hid (lks.length * 8 ≤ 140737488355328) := hsz
 have HB0 : Hid (Below w.heap.size w (w.alloc (Obj.cells #[.int .i64 lo0, .int .i64 lb, .int .i64 la, .int .u64 lk, .slice ka kn kc, .slice ta tn tc] 41))) := below_alloc _ _
 have HC0 : Hid ((w.alloc (Obj.cells #[.int .i64 lo0, .int .i64 lb, .int .i64 la, .int .u64 lk, .slice ka kn kc, .slice ta tn tc] 41)).cell? ⟨w.heap.size, 1, none⟩ = some (.int .i64 lb) ∧ (w.alloc (Obj.cells #[.int .i64 lo0, .int .i64 lb, .int .i64 la, .int .u64 lk, .slice ka kn kc, .slice ta tn tc] 41)).cell? ⟨w.heap.size, 2, none⟩ = some (.int .i64 la) ∧ (w.alloc (Obj.cells #[.int .i64 lo0, .int .i64 lb, .int .i64 la, .int .u64 lk, .slice ka kn kc, .slice ta tn tc] 41)).cell? ⟨w.heap.size, 3, none⟩ = some (.int .u64 lk) ∧ (w.alloc (Obj.cells #[.int .i64 lo0, .int .i64 lb, .int .i64 la, .int .u64 lk, .slice ka kn kc, .slice ta tn tc] 41)).cell? ⟨w.heap.size, 4, none⟩ = some (.slice ka kn kc)) := ⟨by simp [go_sem], by simp [go_sem], by simp [go_sem], by simp [go_sem]⟩
 have HJ : Hid (Jv w jv jobs) := hj
 have HK0 : Hid (Kv w (.slice ka kn kc) lks) := hk0
 clear hj hk0 hlk hko hsz
 go_in
 go_upto_region 1 with fail
 obtain ⟨T5, hT⟩ : ∃ N, N = w.heap.size := ⟨_, rfl⟩
 have HT5 : Hid (T5 = w.heap.size) := hT
 rw [← hT] at HC0 ⊢
 generalize (w.alloc (Obj.cells #[.int .i64 lo0, .int .i64 lb, .int .i64 la, .int .u64 lk, .slice ka kn kc, .slice ta tn tc] 41)) = w0 at HB0 HC0 ⊢
 clear hT
 go_wp2_with fail
 refine (awake_walkS w0).mono ?_
 rintro e w1 ⟨rfl, hb1⟩
 have HB1 : Hid (Below w0.heap.size w0 w1) := hb1
 clear hb1
 obtain ⟨K, hK⟩ : ∃ K, K = knownB k := ⟨_, rfl⟩
 have HK : Hid (K = knownB k) := hK
 clear hK
 go_wp2_with fail
 refine (known_walk k w1).mono ?_
 rw [← HK.out]
 rintro e w2 ⟨rfl, hw2⟩
 replace hw2 := hw2.symm
 subst hw2
 cases K
 ·go_wp2_with fail
  go_ret
  exact ⟨rfl, below_trans HB0.out HB1.out⟩
 have HB01 : Hid (Below w.heap.size w w1) := below_trans HB0.out HB1.out
 obtain ⟨ja, jn, jc, rfl⟩ : ∃ x y z, jv = .slice x y z := by obtain ⟨x, z, e, _⟩ := HJ.out; exact ⟨x, _, z, e⟩
 go_wp2_with fail
 refine (rowed_walk HK.out.symm (HJ.out.below HB01.out)).mono ?_
 obtain ⟨js, hjs⟩ : ∃ js, js = jobs.take 60 := ⟨_, rfl⟩
 have HJ60 : Hid (js.length ≤ 60) := by rw [hjs, List.length_take]; show _ ≤ _; omega
 rw [← hjs]
 clear hjs
 rintro e w3 ⟨sp, sb, rfl, A3, P3, S3, m3, L3, hrw, hA3, hsp, hcn, hbl, hb3⟩
 obtain ⟨B, hB⟩ : ∃ B, B = rowB js := ⟨_, rfl⟩
 rw [List.take_length, ← hB] at hrw
 rw [← hB]
 have HRW : Hid (RS A3 w3 (.pointer (some ⟨sp, 0, none⟩)) (.pointer (some ⟨sb, 0, none⟩)) k P3 S3 m3 L3 ∧ Low L3) := ⟨hrw.rs, hrw.low⟩
 have HMB : Hid (m3.b ≤ 61 ∧ m3.a ≤ 60 ∧ 0 ≤ m3.b ∧ 0 ≤ m3.a ∧ (m3.b < 1 ∨ m3.a < 1 → m3.b = 0 ∧ m3.a = 0)) := by
  have h1 := hrw.mb; have h2 := hrw.ma; have h3 := hrw.b2; have h4 := HJ60.out; have h5 := sound_parts hrw.rs.gk.gd.snd
  have h6 := hrw.rs.gk.gd.snd
  refine ⟨by omega, by omega, h5.1, h5.2.2.1, fun q => ?_⟩
  simp only [soundBM, Bool.and_eq_true] at h6
  rw [if_pos (by omega)] at h6
  simp at h6
  omega
 have HC3 : Hid (cntS P3 S3 ≤ 2100) := by have := HJ60.out; show _ ≤ _; omega
 have HA3 : Hid (∀ x, A3 x → w1.heap.size ≤ x) := hA3
 have HB03 : Hid (Below w0.heap.size w0 w3) := below_trans HB1.out hb3
 have HW3 : Hid (Below w.heap.size w w3) := below_trans HB0.out HB03.out
 have HC1 : Hid (w3.cell? ⟨T5, 1, none⟩ = some (.int .i64 lb) ∧ w3.cell? ⟨T5, 2, none⟩ = some (.int .i64 la) ∧ w3.cell? ⟨T5, 3, none⟩ = some (.int .u64 lk) ∧ w3.cell? ⟨T5, 4, none⟩ = some (.slice ka kn kc)) := by
  obtain ⟨c1, c2, c3, c4⟩ := HC0.out
  exact ⟨by rw [HB03.out.cell (p := ⟨T5, 1, none⟩) (cell_lt c1)]; exact c1, by rw [HB03.out.cell (p := ⟨T5, 2, none⟩) (cell_lt c2)]; exact c2, by rw [HB03.out.cell (p := ⟨T5, 3, none⟩) (cell_lt c3)]; exact c3, by rw [HB03.out.cell (p := ⟨T5, 4, none⟩) (cell_lt c4)]; exact c4⟩
 have HK3 : Hid (Kv w3 (.slice ka kn kc) lks) := HK0.out.below HW3.out
 have HTA : Hid (¬ A3 T5) := fun e => by have h1 := HA3.out _ e; have h2 := HB01.out.size; have h3 := cell_lt HC0.out.1; have h4 := HB1.out.size; simp only at h3; have h5 := HT5.out; have h6 := HB0.out.size; omega
 have HKA : Hid (∀ x, (Value.slice ka kn kc).ownBlock = some x → lks ≠ [] → ¬ A3 x) := fun x hx hne e => by
  obtain ⟨ao, cap, e1, _, _, _, h4⟩ := HK0.out
  obtain ⟨b, off, e2, e3⟩ := h4 0 (by rw [ib_len]; cases lks with | nil => exact absurd rfl hne | cons _ _ => simp)
  cases e1
  subst e2
  simp [Value.ownBlock] at hx
  subst hx
  have h1 := cell_lt e3; have h2 := HA3.out _ e; have h3 := HB01.out.size; simp only at h1; omega
 clear hrw hA3 hsp hcn hbl hb3 hB
 go_wp2_with fail
 refine (mark_rs HRW.out.1 (by have := HC3.out; omega)).mono ?_
 rintro e w4 ⟨mv, rfl, hmv, S4, hrs, hr, hc⟩
 have HR4 := hidH hrs
 have HC4 : Hid (cntS P3 S4 ≤ 2101) := by have h1 := cnt_rdd (P := P3) hr; have := HC3.out; show _ ≤ _; omega
 have HW4 : Hid (Below w.heap.size w w4) := HW3.out.trans (hc.to_below HW3.out.size (fun x hx => by have h1 := HA3.out x hx; have h2 := HB01.out.size; omega))
 have HM4 : Hid (Kv w4 mv m3.k) := own_sv hmv
 have HMB4 : Hid (∀ x, mv.ownBlock = some x → ¬ A3 x ∧ x < w4.heap.size) := fun x hx => ⟨fun hA => by have h1 := (hmv.lt x hx).1; have h2 := HRW.out.1.st.lt hA; omega, (hmv.lt x hx).2⟩
 have HC41 : Hid (w4.cell? ⟨T5, 1, none⟩ = some (.int .i64 lb) ∧ w4.cell? ⟨T5, 2, none⟩ = some (.int .i64 la) ∧ w4.cell? ⟨T5, 3, none⟩ = some (.int .u64 lk) ∧ w4.cell? ⟨T5, 4, none⟩ = some (.slice ka kn kc)) := ⟨hc.cell HC1.out.1 HTA.out, hc.cell HC1.out.2.1 HTA.out, hc.cell HC1.out.2.2.1 HTA.out, hc.cell HC1.out.2.2.2 HTA.out⟩
 have HK4 : Hid (Kv w4 (.slice ka kn kc) lks) := by
  cases hl : lks with
  | nil =>
   have h := HK3.out
   rw [hl] at h
   obtain ⟨ao, cap, e1, h1, h2, h3, _⟩ := h
   exact ⟨ao, cap, e1, h1, h2, h3, fun i hi => by simp [ib] at hi⟩
  | cons a l =>
   rw [← hl]
   exact kv_ch HK3.out hc (fun x hx => HKA.out x hx (by rw [hl]; simp))
 have HLOW : Hid (Low L3) := HRW.out.2
 obtain ⟨ma, mn, mc, rfl⟩ := sv_any HM4.out
 clear hmv hrs hr hc HRW HC3 HC1 HK3 HC0 HKA
 go_upto_region 9 with fail
 obtain ⟨T10, hT⟩ : ∃ T, T = w4.heap.size := ⟨_, rfl⟩
 have HM5 : Hid (MB (w4.alloc (Obj.cells #[.int .i64 m3.b, .int .i64 m3.a, .slice ma mn mc] 75)) T10 m3.b m3.a (.slice ma mn mc)) := by rw [hT]; exact mb_new w4 m3.b m3.a (.slice ma mn mc)
 have HB5 : Hid (Below w4.heap.size w4 (w4.alloc (Obj.cells #[.int .i64 m3.b, .int .i64 m3.a, .slice ma mn mc] 75))) := below_alloc _ _
 have HT10 : Hid (¬ A3 T10) := fun e => by have h := HR4.out.st.lt e; omega
 rw [← hT]
 generalize (w4.alloc (Obj.cells #[.int .i64 m3.b, .int .i64 m3.a, .slice ma mn mc] 75)) = w5 at HM5 HB5 ⊢
 have HR5 : Hid (RS A3 w5 (.pointer (some ⟨sp, 0, none⟩)) (.pointer (some ⟨sb, 0, none⟩)) k P3 S4 m3 L3) := HR4.out.below HB5.out
 have HW5 : Hid (Below w.heap.size w w5) := below_trans HW4.out HB5.out
 have HK5 : Hid (Kv w5 (.slice ka kn kc) lks) := HK4.out.below HB5.out
 have HMK5 : Hid (Kv w5 (.slice ma mn mc) m3.k) := HM4.out.below HB5.out
 have HC5 : Hid (w5.cell? ⟨T5, 1, none⟩ = some (.int .i64 lb) ∧ w5.cell? ⟨T5, 2, none⟩ = some (.int .i64 la) ∧ w5.cell? ⟨T5, 3, none⟩ = some (.int .u64 lk) ∧ w5.cell? ⟨T5, 4, none⟩ = some (.slice ka kn kc)) := by
  obtain ⟨c1, c2, c3, c4⟩ := HC41.out
  exact ⟨by rw [HB5.out.cell (p := ⟨T5, 1, none⟩) (cell_lt c1)]; exact c1, by rw [HB5.out.cell (p := ⟨T5, 2, none⟩) (cell_lt c2)]; exact c2, by rw [HB5.out.cell (p := ⟨T5, 3, none⟩) (cell_lt c3)]; exact c3, by rw [HB5.out.cell (p := ⟨T5, 4, none⟩) (cell_lt c4)]; exact c4⟩
 have HML5 : Hid (∀ x, (Value.slice ma mn mc).ownBlock = some x → ¬ A3 x ∧ x < w5.heap.size) := fun x hx => ⟨(HMB4.out x hx).1, Nat.lt_of_lt_of_le (HMB4.out x hx).2 HB5.out.size⟩
 clear hT HR4 HW4 HK4 HM4 HC41 HMB4 HB5
 go_wp2_with fail
 refine (image_rs HR5.out.st).mono ?_
 rintro e w6 ⟨g, cap, rfl, hig, hb6⟩
 obtain ⟨bl, hbl⟩ : ∃ bl, bl = S4.bl := ⟨_, rfl⟩
 have HBL : Hid (S4.bl = bl) := hbl.symm
 rw [← hbl] at hig ⊢
 have HBY : Hid (∀ b ∈ bl, ∀ c ∈ b, c < 256) := by rw [hbl]; exact HR5.out.st.byt
 obtain ⟨lo, hlo⟩ : ∃ lo, lo = w5.heap.size := ⟨_, rfl⟩
 obtain ⟨hi, hhi⟩ : ∃ hi, hi = w6.heap.size := ⟨_, rfl⟩
 have HIG : Hid (Img lo hi w6 g cap bl) := by rw [hlo, hhi]; exact hig
 have HLH : Hid (lo = w5.heap.size ∧ hi = w6.heap.size) := ⟨hlo, hhi⟩
 have HR6 : Hid (RS A3 w6 (.pointer (some ⟨sp, 0, none⟩)) (.pointer (some ⟨sb, 0, none⟩)) k P3 S4 m3 L3) := HR5.out.below hb6
 have HB6 : Hid (Below w5.heap.size w5 w6) := hb6
 obtain ⟨bn, hbn⟩ : ∃ bn, bn = bl.length := ⟨_, rfl⟩
 rw [← hbn]
 have HBN : Hid (bn = bl.length) := hbn
 have k4 : w6.cell? ⟨T5, 4, none⟩ = some (.slice ka kn kc) := by rw [hb6.cell (p := ⟨T5, 4, none⟩) (cell_lt HC5.out.2.2.2)]; exact HC5.out.2.2.2
 clear hig hb6 hbl hbn hlo hhi
 go_wp2_with fail
 refine (union_walk (HK5.out.below HB6.out) (Sv.nil .u64 w6 : Kv w6 (.slice none 0 0) []) (by rw [List.append_nil]; exact HSZ.out)).mono ?_
 rw [List.append_nil]
 rintro e w7 ⟨uv, rfl, huv, hb7⟩
 obtain ⟨us, hus⟩ : ∃ us, us = uniU lks := ⟨_, rfl⟩
 rw [← hus] at huv
 have HUS : Hid (keysOk us ∧ risB us = true) := by rw [hus]; exact ⟨fun x hx => HKO.out x (mem_uni.1 hx), uni_ris _⟩
 have HUV : Hid (Kv w7 uv us) := own_sv huv
 obtain ⟨ua, uc, rfl⟩ := own_form8 huv
 obtain ⟨un, hun⟩ : ∃ un, un = us.length := ⟨_, rfl⟩
 rw [← hun] at huv HUV ⊢
 have HUN : Hid (un = us.length) := hun
 have HB57 : Hid (Below w5.heap.size w5 w7) := below_trans HB6.out hb7
 have HKE : Hid (Kep w lo hi T5 T10 (.slice ma mn mc) (.slice ua un uc) lb la lk m3.b m3.a m3.k us g cap bl w7) := by
  obtain ⟨c1, c2, c3, _⟩ := HC5.out
  obtain ⟨e0, e1, e2, _⟩ := HM5.out
  exact ⟨by rw [HB57.out.cell (p := ⟨T5, 1, none⟩) (cell_lt c1)]; exact c1, by rw [HB57.out.cell (p := ⟨T5, 2, none⟩) (cell_lt c2)]; exact c2, by rw [HB57.out.cell (p := ⟨T5, 3, none⟩) (cell_lt c3)]; exact c3, by rw [HB57.out.cell (p := ⟨T10, 0, none⟩) (cell_lt e0)]; exact e0, by rw [HB57.out.cell (p := ⟨T10, 1, none⟩) (cell_lt e1)]; exact e1, by rw [HB57.out.cell (p := ⟨T10, 2, none⟩) (cell_lt e2)]; exact e2, HMK5.out.below HB57.out, HUV.out, HIG.out.below hb7, below_trans HW5.out HB57.out, fun x hx => Nat.lt_of_lt_of_le (HML5.out x hx).2 HB57.out.size, fun x hx => (huv.lt x hx).2, by rw [HLH.out.2]; exact hb7.size⟩
 have HAP : Hid (Apt w lo hi T5 T10 (.slice ma mn mc) (.slice ua un uc) A3) :=
  ⟨fun x hx => by have h1 := HA3.out x hx; have h2 := HB01.out.size; omega, fun x hx => by have h := HR5.out.st.lt hx; have := HLH.out.1; omega, HTA.out, HT10.out, fun x hx => (HML5.out x hx).1, fun x hx hA => by have h1 := (huv.lt x hx).1; have h2 := HR6.out.st.lt hA; omega⟩
 have HR7 : Hid (RS A3 w7 (.pointer (some ⟨sp, 0, none⟩)) (.pointer (some ⟨sb, 0, none⟩)) k P3 S4 m3 L3) := HR6.out.below hb7
 clear huv hb7 hus hun HUV HIG HLH HR5 HR6 HB6 HB57 HK5 HMK5 HC5 HML5 HM5 HTA HT10 k4 HW5
 obtain ⟨c1, c2, c3⟩ : w7.cell? ⟨T5, 1, none⟩ = some (.int .i64 lb) ∧ w7.cell? ⟨T5, 2, none⟩ = some (.int .i64 la) ∧ w7.cell? ⟨T5, 3, none⟩ = some (.int .u64 lk) := ⟨HKE.out.c1, HKE.out.c2, HKE.out.c3⟩
 by_cases g1 : lb < 1
 ·go_wp2_with fail
  go_ret
  exact ⟨rfl, HKE.out.bw⟩
 by_cases g2 : la < 1
 ·go_wp2_with fail
  go_ret
  exact ⟨rfl, HKE.out.bw⟩
 by_cases g3 : 1099511627776 < lb
 ·go_wp2_with fail
  go_ret
  exact ⟨rfl, HKE.out.bw⟩
 by_cases g4 : 1099511627776 < la
 ·go_wp2_with fail
  go_ret
  exact ⟨rfl, HKE.out.bw⟩
 by_cases g5 : (64 : Int) < (un : Int)
 ·go_wp2_with fail
  go_ret
  exact ⟨rfl, HKE.out.bw⟩
 have HRV : Hid (Rv (w7.alloc (Obj.cells #[.int .u64 lk, .float .f64 4613937818241073152] 81)) (.slice (some ⟨w7.heap.size, 0, none⟩) 1 1) [⟨lk, 4613937818241073152⟩]) := rv_1 w7 ⟨lk, 4613937818241073152⟩ ⟨HLK.out, by show (4613937818241073152 : Nat) < _; decide⟩
 have HNIL : Hid (Kv (w7.alloc (Obj.cells #[.int .u64 lk, .float .f64 4613937818241073152] 81)) (.slice none 0 0) []) := Sv.nil .u64 _
 have HB8 : Hid (Below w7.heap.size w7 (w7.alloc (Obj.cells #[.int .u64 lk, .float .f64 4613937818241073152] 81))) := below_alloc _ _
 go_wp2_with fail
 refine (part_walk HK.out.symm HRV.out HNIL.out false false).mono ?_
 rintro e w9 ⟨tv, kv, rfl, hqv, hqb, hkv, hb9⟩
 obtain ⟨T, hT⟩ : ∃ T, T = ptT k [⟨lk, 4613937818241073152⟩] := ⟨_, rfl⟩
 rw [← hT] at hqv
 have HFT : Hid (fitsB k T = true) := by rw [hT]; exact fits_of (tab_iff.2 ⟨pt_rise _ _, pt_has HK.out.symm _⟩) (fun p hp => (pt_low p hp).2)
 have HTP : Hid (∀ p ∈ T, p.k = lk % 40 ∧ p.k < 40 ∧ p.v.ok ∧ fitV k p.v = p.v ∧ p.v.h = true) := by
  rw [hT]
  exact fun p hp => ⟨pt_one k _ p hp, (pt_low p hp).1, (pt_ok HRV.out.2 p hp).2, (pt_low p hp).2, pt_has HK.out.symm _ p hp⟩
 have HTR : Hid (Rise T) := by rw [hT]; exact pt_rise _ _
 have HQ : Hid (Qv w9 tv T) := hqv
 have HB79 : Hid (Below w7.heap.size w7 w9) := below_trans HB8.out hb9
 have HQA : Hid (∀ x, tv.ownBlock = some x → ¬ A3 x) := fun x hx hA => by have h1 := (hqb x hx).1; have h2 := HR7.out.st.lt hA; have h3 := HB8.out.size; omega
 have HR9 : Hid (RS A3 w9 (.pointer (some ⟨sp, 0, none⟩)) (.pointer (some ⟨sb, 0, none⟩)) k P3 S4 m3 L3) := HR7.out.below HB79.out
 have HKE9 : Hid (Kep w lo hi T5 T10 (.slice ma mn mc) (.slice ua un uc) lb la lk m3.b m3.a m3.k us g cap bl w9) := HKE.out.below HB79.out
 have HCD : Hid (cntdB lb la = true) := by show _ = _; simp [cntdB]; omega
 obtain ⟨qa, qn, qc, rfl⟩ : ∃ x y z, tv = .slice x y z := by obtain ⟨⟨x, z, e, _⟩, _⟩ := hqv; exact ⟨x, _, z, e⟩
 obtain ⟨ra, rn, rc, rfl⟩ := sv_any (own_sv hkv)
 clear hqv hqb hkv hb9 hT HRV HB8 HR7 HKE HB79 c1 c2 c3
 have HJ0 : Hid (∀ (j : Nat), judI m3.b m3.a lb la = j → j ≠ 0 → ∀ l : List Pr, fitsB k l = true → apE m3 k lb la L3 l = some (j : Int)) := by
  intro j hj h0 l hl
  rw [ap_jud (by rw [HCD.out, hl]; simp) (by rw [hj]; exact h0), hj]
 obtain ⟨c1, c2⟩ : w9.cell? ⟨T5, 1, none⟩ = some (.int .i64 lb) ∧ w9.cell? ⟨T5, 2, none⟩ = some (.int .i64 la) := ⟨HKE9.out.c1, HKE9.out.c2⟩
 go_wp2_with fail
 by_cases hlow : lb < m3.b ∨ (lb = m3.b ∧ la < m3.a)
 ·have HJD : Hid (judI m3.b m3.a lb la = 130) := jud_dn (by omega) (by omega) hlow
  have HCM : Hid (cmpA lb la m3.b m3.a = -1) := cmp_dn hlow
  clear c1 c2
  refine (apply_not HR9.out (by have := HC4.out; omega) HQ.out HQA.out (HJ0.out 130 HJD.out (by decide) T HFT.out)).mono ?_
  rintro e wa ⟨rfl, Sa, hrs, hd, hc⟩
  have HRa := hidH hrs
  have HKa : Hid (Kep w lo hi T5 T10 (.slice ma mn mc) (.slice ua un uc) lb la lk m3.b m3.a m3.k us g cap bl wa) := HKE9.out.ch HAP.out hc
  have HSa : Hid (Sa.bl = bl ∧ cntS P3 Sa ≤ 2110) := ⟨by rw [hd.bl]; exact HBL.out, by have h1 := cnt_rdd (P := P3) hd; have h2 := HC4.out; omega⟩
  clear hrs hd hc
  obtain ⟨c1, c2, d0, d1⟩ : wa.cell? ⟨T5, 1, none⟩ = some (.int .i64 lb) ∧ wa.cell? ⟨T5, 2, none⟩ = some (.int .i64 la) ∧ wa.cell? ⟨T10, 0, none⟩ = some (.int .i64 m3.b) ∧ wa.cell? ⟨T10, 1, none⟩ = some (.int .i64 m3.a) := ⟨HKa.out.c1, HKa.out.c2, HKa.out.d0, HKa.out.d1⟩
  go_wp2_with fail
  refine (mcmp_walk lb la m3.b m3.a wa).mono ?_
  rw [HCM.out]
  rintro e wb ⟨rfl, hwb⟩
  replace hwb := hwb.symm
  subst hwb
  go_wp2_with fail
  refine (begin_not HRa.out (by have := HSa.out.2; omega) HKa.out.uvv HUS.out.1 HAP.out.a6 (b := lb) (a := la) (c := 130) (beg_fen (by
   rintro (q | q | q)
   ·rw [HCD.out] at q; cases q
   ·have := HUN.out; omega
   ·rw [HUS.out.2] at q; cases q) HJD.out)).mono ?_
  rintro e wb ⟨rfl, Sb, hrs, hd, hc⟩
  have HRb := hidH hrs
  have HKb : Hid (Kep w lo hi T5 T10 (.slice ma mn mc) (.slice ua un uc) lb la lk m3.b m3.a m3.k us g cap bl wb) := HKa.out.ch HAP.out hc
  have HSb : Hid (Sb.bl = bl ∧ cntS P3 Sb ≤ 2120) := ⟨by rw [hd.bl]; exact HSa.out.1, by have h1 := cnt_rdd (P := P3) hd; have h2 := HSa.out.2; omega⟩
  clear hrs hd hc c1 c2 d0 d1
  obtain ⟨c1, c2⟩ : wb.cell? ⟨T5, 1, none⟩ = some (.int .i64 lb) ∧ wb.cell? ⟨T5, 2, none⟩ = some (.int .i64 la) := ⟨HKb.out.c1, HKb.out.c2⟩
  go_wp2_with fail
  refine (apply_not HRb.out (by have := HSb.out.2; omega) (qv_0 wb) (by intro x hx; simp [Value.ownBlock] at hx) (HJ0.out 130 HJD.out (by decide) [] rfl)).mono ?_
  rintro e wd ⟨rfl, Sd, hrs, hd, hc⟩
  have HRd := hidH hrs
  have HKd : Hid (Kep w lo hi T5 T10 (.slice ma mn mc) (.slice ua un uc) lb la lk m3.b m3.a m3.k us g cap bl wd) := HKb.out.ch HAP.out hc
  have HSd : Hid (Sd.bl = bl) := by rw [hd.bl]; exact HSb.out.1
  clear hrs hd hc c1 c2
  go_wp2_with fail
  refine (image_rs HRd.out.st).mono ?_
  rintro e we ⟨g2, cap2, rfl, hig, hbt⟩
  rw [HSd.out] at hig ⊢
  have HP1 : Hid (PvD we (.slice (some ⟨g2, 0, none⟩) bn cap2) bl) := by rw [HBN.out]; exact hig.pv HBY.out
  have HP2 : Hid (PvD we (.slice (some ⟨g, 0, none⟩) bn cap) bl) := by rw [HBN.out]; exact (HKd.out.img.below hbt).pv HBY.out
  have HWa : Hid (Below w.heap.size w we) := below_trans HKd.out.bw hbt
  rw [← HBN.out]
  clear hig
  go_wp2_with fail
  refine (images_walkS HP1.out HP2.out).mono ?_
  rw [decide_eq_true rfl]
  rintro e wf ⟨rfl, hbs⟩
  have HWb : Hid (Below w.heap.size w wf) := below_trans HWa.out hbs
  go_wp2_with fail
  go_ret
  exact ⟨rfl, HWb.out⟩
 by_cases hup : m3.b < lb ∨ (lb = m3.b ∧ m3.a < la)
 ·have HJD : Hid (judI m3.b m3.a lb la = 131) := jud_up (by omega) (by omega) hup
  have HCM : Hid (cmpA lb la m3.b m3.a = 1) := cmp_up hup
  clear c1 c2
  refine (apply_not HR9.out (by have := HC4.out; omega) HQ.out HQA.out (HJ0.out 131 HJD.out (by decide) T HFT.out)).mono ?_
  rintro e wa ⟨rfl, Sa, hrs, hd, hc⟩
  have HRa := hidH hrs
  have HKa : Hid (Kep w lo hi T5 T10 (.slice ma mn mc) (.slice ua un uc) lb la lk m3.b m3.a m3.k us g cap bl wa) := HKE9.out.ch HAP.out hc
  have HSa : Hid (Sa.bl = bl ∧ cntS P3 Sa ≤ 2110) := ⟨by rw [hd.bl]; exact HBL.out, by have h1 := cnt_rdd (P := P3) hd; have h2 := HC4.out; omega⟩
  clear hrs hd hc
  obtain ⟨c1, c2, d0, d1⟩ : wa.cell? ⟨T5, 1, none⟩ = some (.int .i64 lb) ∧ wa.cell? ⟨T5, 2, none⟩ = some (.int .i64 la) ∧ wa.cell? ⟨T10, 0, none⟩ = some (.int .i64 m3.b) ∧ wa.cell? ⟨T10, 1, none⟩ = some (.int .i64 m3.a) := ⟨HKa.out.c1, HKa.out.c2, HKa.out.d0, HKa.out.d1⟩
  go_wp2_with fail
  refine (mcmp_walk lb la m3.b m3.a wa).mono ?_
  rw [HCM.out]
  rintro e wb ⟨rfl, hwb⟩
  replace hwb := hwb.symm
  subst hwb
  clear c1 c2 d0 d1
  go_wp2_with fail
  refine (image_rs HRa.out.st).mono ?_
  rintro e we ⟨g2, cap2, rfl, hig, hbt⟩
  rw [HSa.out.1] at hig ⊢
  have HP1 : Hid (PvD we (.slice (some ⟨g2, 0, none⟩) bn cap2) bl) := by rw [HBN.out]; exact hig.pv HBY.out
  have HP2 : Hid (PvD we (.slice (some ⟨g, 0, none⟩) bn cap) bl) := by rw [HBN.out]; exact (HKa.out.img.below hbt).pv HBY.out
  have HWa : Hid (Below w.heap.size w we) := below_trans HKa.out.bw hbt
  rw [← HBN.out]
  clear hig
  go_wp2_with fail
  refine (images_walkS HP1.out HP2.out).mono ?_
  rw [decide_eq_true rfl]
  rintro e wf ⟨rfl, hbs⟩
  have HWb : Hid (Below w.heap.size w wf) := below_trans HWa.out hbs
  have HRf : Hid (RS A3 wf (.pointer (some ⟨sp, 0, none⟩)) (.pointer (some ⟨sb, 0, none⟩)) k P3 Sa m3 L3) := HRa.out.below (below_trans hbt hbs)
  have HKf : Hid (Kep w lo hi T5 T10 (.slice ma mn mc) (.slice ua un uc) lb la lk m3.b m3.a m3.k us g cap bl wf) := HKa.out.below (below_trans hbt hbs)
  clear hbt hbs HP1 HP2 HWa HWb HRa HKa
  obtain ⟨c1, c2⟩ : wf.cell? ⟨T5, 1, none⟩ = some (.int .i64 lb) ∧ wf.cell? ⟨T5, 2, none⟩ = some (.int .i64 la) := ⟨HKf.out.c1, HKf.out.c2⟩
  have HNB : Hid (¬ (cntdB lb la = false ∨ 64 < us.length ∨ risB us = false)) := by
   show ¬ _
   rintro (q | q | q)
   ·rw [HCD.out] at q; cases q
   ·have := HUN.out; omega
   ·rw [HUS.out.2] at q; cases q
  by_cases hah : m3.b + 1 < lb
  ·go_wp2_with fail
   refine (begin_not HRf.out (by have := HSa.out.2; omega) HKf.out.uvv HUS.out.1 HAP.out.a6 (b := lb) (a := la) (c := 131) (beg_ahead HNB.out (by rw [HJD.out]; decide) (by rw [HJD.out]; decide) hah)).mono ?_
   rintro e wg ⟨rfl, Sg, hrs, hd, hc⟩
   have HRg := hidH hrs
   have HKg : Hid (Kep w lo hi T5 T10 (.slice ma mn mc) (.slice ua un uc) lb la lk m3.b m3.a m3.k us g cap bl wg) := HKf.out.ch HAP.out hc
   have HSg : Hid (Sg.bl = bl ∧ cntS P3 Sg ≤ 2120) := ⟨by rw [hd.bl]; exact HSa.out.1, by have h1 := cnt_rdd (P := P3) hd; have h2 := HSa.out.2; omega⟩
   clear hrs hd hc c1 c2
   go_wp2_with fail
   refine (mark_rs HRg.out (by have := HSg.out.2; omega)).mono ?_
   rintro e wh ⟨nv, rfl, hnv, Sh, hrs, hr, hc⟩
   have HRh := hidH hrs
   have HKh : Hid (Kep w lo hi T5 T10 (.slice ma mn mc) (.slice ua un uc) lb la lk m3.b m3.a m3.k us g cap bl wh) := HKg.out.ch HAP.out hc
   have HSh : Hid (Sh.bl = bl) := by rw [hr.bl]; exact HSg.out.1
   have HNV : Hid (Kv wh nv m3.k) := own_sv hnv
   obtain ⟨na, nn, nc, rfl⟩ := sv_any HNV.out
   clear hrs hr hc hnv HRg HKg HSg
   go_upto_region 25 with fail
   obtain ⟨T20, hT⟩ : ∃ T, T = wh.heap.size := ⟨_, rfl⟩
   have HM20 : Hid (MB (wh.alloc (Obj.cells #[.int .i64 m3.b, .int .i64 m3.a, .slice na nn nc] 75)) T20 m3.b m3.a (.slice na nn nc)) := by rw [hT]; exact mb_new wh m3.b m3.a (.slice na nn nc)
   have HBi : Hid (Below wh.heap.size wh (wh.alloc (Obj.cells #[.int .i64 m3.b, .int .i64 m3.a, .slice na nn nc] 75))) := below_alloc _ _
   rw [← hT]
   generalize (wh.alloc (Obj.cells #[.int .i64 m3.b, .int .i64 m3.a, .slice na nn nc] 75)) = wi at HM20 HBi ⊢
   have HKi : Hid (Kep w lo hi T5 T10 (.slice ma mn mc) (.slice ua un uc) lb la lk m3.b m3.a m3.k us g cap bl wi) := HKh.out.below HBi.out
   have HNi : Hid (Kv wi (.slice na nn nc) m3.k) := HNV.out.below HBi.out
   have HRi : Hid (RS A3 wi (.pointer (some ⟨sp, 0, none⟩)) (.pointer (some ⟨sb, 0, none⟩)) k P3 Sh m3 L3) := HRh.out.below HBi.out
   obtain ⟨e0, e1, e2, _⟩ := HM20.out
   obtain ⟨c1, d0, d1, d2⟩ : wi.cell? ⟨T5, 1, none⟩ = some (.int .i64 lb) ∧ wi.cell? ⟨T10, 0, none⟩ = some (.int .i64 m3.b) ∧ wi.cell? ⟨T10, 1, none⟩ = some (.int .i64 m3.a) ∧ wi.cell? ⟨T10, 2, none⟩ = some (.slice ma mn mc) := ⟨HKi.out.c1, HKi.out.d0, HKi.out.d1, HKi.out.d2⟩
   have hmb := HMB.out.1
   have hmb0 := HMB.out.2.2.1
   clear hT HKh HNV HRh
   go_wp2_with fail
   refine (marks_same HNi.out HKi.out.kvv m3.b m3.a).mono ?_
   rintro e wj ⟨rfl, hbj⟩
   have HRj : Hid (RS A3 wj (.pointer (some ⟨sp, 0, none⟩)) (.pointer (some ⟨sb, 0, none⟩)) k P3 Sh m3 L3) := HRi.out.below hbj
   have HKj : Hid (Kep w lo hi T5 T10 (.slice ma mn mc) (.slice ua un uc) lb la lk m3.b m3.a m3.k us g cap bl wj) := HKi.out.below hbj
   clear hbj e0 e1 e2 c1 d0 d1 d2
   go_wp2_with fail
   refine (image_rs HRj.out.st).mono ?_
   rintro e wk ⟨g2, cap2, rfl, hig, hbt⟩
   rw [HSh.out] at hig ⊢
   have HP1 : Hid (PvD wk (.slice (some ⟨g2, 0, none⟩) bn cap2) bl) := by rw [HBN.out]; exact hig.pv HBY.out
   have HP2 : Hid (PvD wk (.slice (some ⟨g, 0, none⟩) bn cap) bl) := by rw [HBN.out]; exact (HKj.out.img.below hbt).pv HBY.out
   have HWa : Hid (Below w.heap.size w wk) := below_trans HKj.out.bw hbt
   rw [← HBN.out]
   clear hig
   go_wp2_with fail
   refine (images_walkS HP1.out HP2.out).mono ?_
   rw [decide_eq_true rfl]
   rintro e wl ⟨rfl, hbs⟩
   have HWb : Hid (Below w.heap.size w wl) := below_trans HWa.out hbs
   go_wp2_with fail
   go_ret
   exact ⟨rfl, HWb.out⟩
  ·have hmb := HMB.out.1
   have hmb0 := HMB.out.2.2.1
   go_wp2_with fail
   refine (begin_open HRf.out (by have := HSa.out.2; omega) HKf.out.uvv HUS.out.1 HAP.out.a6 (b := lb) (a := la) (by omega) (by omega) (by omega) (by omega) (by omega) (by have := HUN.out; omega) HUS.out.2 (by omega)).mono ?_
   rintro e wg ⟨rfl, Ag, Pg, Sg, hrs, hAx, hc, hcn, _, _⟩
   obtain ⟨Lg, hLg⟩ : ∃ L, L = begS L3 m3 lb := ⟨_, rfl⟩
   rw [← hLg] at hrs
   have HRg := hidH hrs
   have HKg : Hid (Kep w lo hi T5 T10 (.slice ma mn mc) (.slice ua un uc) lb la lk m3.b m3.a m3.k us g cap bl wg) := HKf.out.ch HAP.out hc
   have HAPg : Hid (Apt w lo hi T5 T10 (.slice ma mn mc) (.slice ua un uc) Ag) := HAP.out.next HKf.out hAx
   have HSg : Hid (cntS Pg Sg ≤ 2130) := by have h2 := HSa.out.2; show _ ≤ _; omega
   clear hrs hAx hc hcn hLg c1 c2
   go_wp2_with fail
   refine (mark_rs HRg.out (by have := HSg.out; omega)).mono ?_
   rintro e wh ⟨nv, rfl, hnv, Sh, hrs, hr, hc⟩
   have HRh := hidH hrs
   have HKh : Hid (Kep w lo hi T5 T10 (.slice ma mn mc) (.slice ua un uc) lb la lk m3.b m3.a m3.k us g cap bl wh) := HKg.out.ch HAPg.out hc
   have HSh : Hid (cntS Pg Sh ≤ 2131) := by have h1 := cnt_rdd (P := Pg) hr; have h2 := HSg.out; show _ ≤ _; omega
   have HNV : Hid (Kv wh nv us) := own_sv hnv
   obtain ⟨na, nn, nc, rfl⟩ := sv_any HNV.out
   clear hrs hr hc hnv HRg HKg HSg
   go_upto_region 25 with fail
   obtain ⟨T20, hT⟩ : ∃ T, T = wh.heap.size := ⟨_, rfl⟩
   have HM20 : Hid (MB (wh.alloc (Obj.cells #[.int .i64 lb, .int .i64 la, .slice na nn nc] 75)) T20 lb la (.slice na nn nc)) := by rw [hT]; exact mb_new wh lb la (.slice na nn nc)
   have HBi : Hid (Below wh.heap.size wh (wh.alloc (Obj.cells #[.int .i64 lb, .int .i64 la, .slice na nn nc] 75))) := below_alloc _ _
   rw [← hT]
   generalize (wh.alloc (Obj.cells #[.int .i64 lb, .int .i64 la, .slice na nn nc] 75)) = wi at HM20 HBi ⊢
   have HKi : Hid (Kep w lo hi T5 T10 (.slice ma mn mc) (.slice ua un uc) lb la lk m3.b m3.a m3.k us g cap bl wi) := HKh.out.below HBi.out
   have HNi : Hid (Kv wi (.slice na nn nc) us) := HNV.out.below HBi.out
   have HRi : Hid (RS Ag wi (.pointer (some ⟨sp, 0, none⟩)) (.pointer (some ⟨sb, 0, none⟩)) k Pg Sh ⟨lb, la, us⟩ Lg) := HRh.out.below HBi.out
   obtain ⟨e0, e1, e2, _⟩ := HM20.out
   obtain ⟨c1, c2, d0⟩ : wi.cell? ⟨T5, 1, none⟩ = some (.int .i64 lb) ∧ wi.cell? ⟨T5, 2, none⟩ = some (.int .i64 la) ∧ wi.cell? ⟨T10, 0, none⟩ = some (.int .i64 m3.b) := ⟨HKi.out.c1, HKi.out.c2, HKi.out.d0⟩
   clear hT HKh HNV HRh
   go_wp2_with fail
   refine (marks_same HNi.out HKi.out.uvv lb la).mono ?_
   rintro e wj ⟨rfl, hbj⟩
   have HRj : Hid (RS Ag wj (.pointer (some ⟨sp, 0, none⟩)) (.pointer (some ⟨sb, 0, none⟩)) k Pg Sh ⟨lb, la, us⟩ Lg) := HRi.out.below hbj
   have HKj : Hid (Kep w lo hi T5 T10 (.slice ma mn mc) (.slice ua un uc) lb la lk m3.b m3.a m3.k us g cap bl wj) := HKi.out.below hbj
   clear hbj e0 e1 e2 c1 c2 d0
   obtain ⟨d0, d1⟩ : wj.cell? ⟨T10, 0, none⟩ = some (.int .i64 m3.b) ∧ wj.cell? ⟨T10, 1, none⟩ = some (.int .i64 m3.a) := ⟨HKj.out.d0, HKj.out.d1⟩
   obtain ⟨c, hc0, hcE⟩ : ∃ c : Int, c ≠ 0 ∧ apE ⟨lb, la, us⟩ k m3.b m3.a Lg [] = some c := by
    have hM := HMB.out
    by_cases q : m3.b < 1 ∨ m3.a < 1
    ·exact ⟨1, by decide, ap_arg (.inl (by simp [cntdB]; omega))⟩
    ·refine ⟨130, by decide, ?_⟩
     have hj : judI lb la m3.b m3.a = 130 := jud_dn (by omega) (by omega) (by omega)
     rw [ap_jud (by
      rintro (z | z); · simp [cntdB] at z; omega
      ·simp [fitsB, fitL, tabB] at z) (by show judI lb la m3.b m3.a ≠ 0; rw [hj]; decide)]
     show some ((judI lb la m3.b m3.a : Nat) : Int) = _
     rw [hj]
     rfl
   have hcne : (c != 0) = true := by rw [bne_iff_ne]; exact hc0
   have HCE : Hid (apE ⟨lb, la, us⟩ k m3.b m3.a Lg [] = some c) := hcE
   clear hc0 hcE
   go_wp2_with fail
   refine (apply_not HRj.out (by have := HSh.out; omega) (qv_0 wj) (by intro x hx; simp [Value.ownBlock] at hx) HCE.out).mono ?_
   rintro e wk ⟨rfl, Sk, hrs, hd, hc⟩
   have HWk : Hid (Below w.heap.size w wk) := HKj.out.bw.trans (hc.to_below HKj.out.bw.size HAPg.out.a1)
   clear hrs hd hc d0 d1
   go_wp2_with fail
   go_ret
   exact ⟨rfl, HWk.out⟩
 ·have hE : lb = m3.b ∧ la = m3.a := by omega
  obtain ⟨hE1, hE2⟩ := hE
  subst hE1 hE2
  have HCM : Hid (cmpA m3.b m3.a m3.b m3.a = 0) := cmp_eq _ _
  clear c1 c2
  by_cases hin : ∀ p ∈ T, p.k ∈ m3.k
  ·have HTA : Hid (Ta k m3 T) := ⟨HTR.out, fun p hp => ⟨hin p hp, (HTP.out p hp).2⟩⟩
   clear hin
   refine (apply_open HR9.out (by have := HC4.out; omega) HQ.out HQA.out (by omega) (by omega) HTA.out (by
    obtain ⟨L, e, g, _⟩ := app_all (k := k) (m := m3) (b := m3.b) rfl (by omega) T L3 HR9.out.gk HLOW.out HTA.out
    exact ⟨L, e, g⟩)).mono ?_
   rintro e wa ⟨rfl, A4, P4, Sa, hrs, hAx, hc, _, _, _⟩
   have HKa : Hid (Kep w lo hi T5 T10 (.slice ma mn mc) (.slice ua un uc) m3.b m3.a lk m3.b m3.a m3.k us g cap bl wa) := HKE9.out.ch HAP.out hc
   clear hrs hAx hc
   obtain ⟨c1, c2, d0, d1⟩ : wa.cell? ⟨T5, 1, none⟩ = some (.int .i64 m3.b) ∧ wa.cell? ⟨T5, 2, none⟩ = some (.int .i64 m3.a) ∧ wa.cell? ⟨T10, 0, none⟩ = some (.int .i64 m3.b) ∧ wa.cell? ⟨T10, 1, none⟩ = some (.int .i64 m3.a) := ⟨HKa.out.c1, HKa.out.c2, HKa.out.d0, HKa.out.d1⟩
   go_wp2_with fail
   refine (mcmp_walk m3.b m3.a m3.b m3.a wa).mono ?_
   rw [HCM.out]
   rintro e wb ⟨rfl, hwb⟩
   replace hwb := hwb.symm
   subst hwb
   go_wp2_with fail
   go_ret
   exact ⟨rfl, HKa.out.bw⟩
  ·have HAE : Hid (apE m3 k m3.b m3.a L3 T = some 132) := by
    refine ap_key (by rw [HCD.out, HFT.out]; simp) (jud_eq (b := m3.b) (a := m3.a) (by omega) (by omega)) ?_
    cases ht : toucB m3.k T
    ·rfl
    ·exfalso
     refine hin (fun p hp => ?_)
     unfold toucB at ht
     rw [List.all_eq_true] at ht
     exact of_decide_eq_true (ht p hp)
   clear hin
   refine (apply_not HR9.out (by have := HC4.out; omega) HQ.out HQA.out HAE.out).mono ?_
   rintro e wa ⟨rfl, Sa, hrs, hd, hc⟩
   have HKa : Hid (Kep w lo hi T5 T10 (.slice ma mn mc) (.slice ua un uc) m3.b m3.a lk m3.b m3.a m3.k us g cap bl wa) := HKE9.out.ch HAP.out hc
   clear hrs hd hc
   obtain ⟨c1, c2, d0, d1⟩ : wa.cell? ⟨T5, 1, none⟩ = some (.int .i64 m3.b) ∧ wa.cell? ⟨T5, 2, none⟩ = some (.int .i64 m3.a) ∧ wa.cell? ⟨T10, 0, none⟩ = some (.int .i64 m3.b) ∧ wa.cell? ⟨T10, 1, none⟩ = some (.int .i64 m3.a) := ⟨HKa.out.c1, HKa.out.c2, HKa.out.d0, HKa.out.d1⟩
   go_wp2_with fail
   refine (mcmp_walk m3.b m3.a m3.b m3.a wa).mono ?_
   rw [HCM.out]
   rintro e wb ⟨rfl, hwb⟩
   replace hwb := hwb.symm
   subst hwb
   go_wp2_with fail
   go_ret
   exact ⟨rfl, HKa.out.bw⟩
end
end Go.Proofs.YtofkhgokfdpdiaaGreat
