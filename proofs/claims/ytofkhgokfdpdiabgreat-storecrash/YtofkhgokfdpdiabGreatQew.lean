/- StoreCrash: the walk. -/
import Derived.Test.YtofkhgokfdpdiabGreatB49
import Derived.Test.YtofkhgokfdpdiabGreatB02
import Derived.Test.YtofkhgokfdpdiabGreatB48
import Derived.Test.YtofkhgokfdpdiabGreatB50
set_option maxRecDepth 100000
set_option maxHeartbeats 16000000
namespace Go.Proofs.YtofkhgokfdpdiabGreat
section
open Go.RowKit

section

variable {A A' D : Nat → Prop} {w w' : World} {sv dv : Value} {k : Int} {P P' : Bo} {S S' : Dk} {m m' : Mk} {Ls Ls' : List (List Cl)} {j : Nat} {b a : Int} {ks : List Nat}

def mnB (D : Nat → Prop) (pb : Nat) (tv : Value) : Nat → Prop := fun x => D x ∨ x = pb ∨ tv.ownBlock = some x
theorem mp_min {pb : Nat} {tv : Value} (h : MP A D w pb tv dv P S) : MP (mnB D pb tv) D w pb tv dv P S :=
 ⟨h.head, h.tab, h.dsk, fun x hx => .inl hx, .inr (.inl rfl), h.nb, fun x hx => ⟨.inr (.inr hx), (h.at' x hx).2⟩, fun x hx => by
  rcases hx with q | rfl | q
  ·exact h.al x (h.sub x q)
  ·exact h.al _ h.ab
  ·exact h.al x (h.at' x q).1, h.ok⟩
structure Duo (D : Nat → Prop) (pb1 : Nat) (tv1 : Value) (pb2 : Nat) (tv2 : Value) (w : World) (sp1 sp2 : Nat) (dv : Value) (k : Int) (P : Bo) (S : Dk) : Prop where
 h1 : w.heap[sp1]? = some (.cells #[.pointer (some ⟨pb1, 0, none⟩), .int .i64 k] 99 (0, 0))
 h2 : w.heap[sp2]? = some (.cells #[.pointer (some ⟨pb2, 0, none⟩), .int .i64 k] 99 (0, 0))
 m1 : MP (mnB D pb1 tv1) D w pb1 tv1 dv P S
 m2 : MP (mnB D pb2 tv2) D w pb2 tv2 dv P S
 n7 : P.tab.length = 7
 s11 : ¬ mnB D pb1 tv1 sp1
 s12 : ¬ mnB D pb2 tv2 sp1
 s21 : ¬ mnB D pb1 tv1 sp2
 s22 : ¬ mnB D pb2 tv2 sp2
 ap : ∀ x, (x = pb1 ∨ tv1.ownBlock = some x) → ¬ mnB D pb2 tv2 x
 ap' : ∀ x, (x = pb2 ∨ tv2.ownBlock = some x) → ¬ mnB D pb1 tv1 x
section

variable {pb1 pb2 sp1 sp2 : Nat} {tv1 tv2 : Value}

theorem Duo.swap (h : Duo D pb1 tv1 pb2 tv2 w sp1 sp2 dv k P S) : Duo D pb2 tv2 pb1 tv1 w sp2 sp1 dv k P S := ⟨h.h2, h.h1, h.m2, h.m1, h.n7, h.s22, h.s21, h.s12, h.s11, h.ap', h.ap⟩
theorem Duo.st1 (h : Duo D pb1 tv1 pb2 tv2 w sp1 sp2 dv k P S) : ST (mnB D pb1 tv1) w (.pointer (some ⟨sp1, 0, none⟩)) dv k P S := ⟨sp1, _, rfl, h.h1, h.s11, ⟨D, pb1, tv1, rfl, h.m1⟩, h.n7⟩
theorem Duo.one (h : Duo D pb1 tv1 pb2 tv2 w sp1 sp2 dv k P S) (hs : ST (mnB D pb1 tv1) w' (.pointer (some ⟨sp1, 0, none⟩)) dv k P S') (hr : Rdd j S S') (hc : Ch (mnB D pb1 tv1) w w') : ∃ D' tv', Duo D' pb1 tv' pb2 tv2 w' sp1 sp2 dv k P S' ∧ (∀ x, mnB D' pb1 tv' x → mnB D pb1 tv1 x) ∧ ∀ x, mnB D' pb2 tv2 x → mnB D pb1 tv1 x ∨ mnB D pb2 tv2 x := by
 obtain ⟨sp, bv, e, g1, g2, ⟨D', pb, tv', e', g3⟩, g4⟩ := hs
 cases e
 have l1 := (Array.getElem?_eq_some_iff.1 h.h1).1
 rw [hc.block sp1 l1 h.s11, h.h1] at g1
 cases g1
 cases e'
 have hD : ∀ x, D' x → mnB D pb1 tv1 x := g3.sub
 have l2 := (Array.getElem?_eq_some_iff.1 h.h2).1
 have hb2 : ¬ mnB D pb1 tv1 pb2 := h.ap' _ (.inl rfl)
 have e2 : w'.heap[sp2]? = w.heap[sp2]? := hc.block sp2 l2 h.s21
 have e3 : w'.heap[pb2]? = w.heap[pb2]? := hc.block pb2 (h.m2.al _ h.m2.ab) hb2
 have hm1 : ∀ x, mnB D' pb1 tv' x → mnB D pb1 tv1 x := fun x hx => by
  rcases hx with q | rfl | q
  ·exact hD x q
  ·exact .inr (.inl rfl)
  ·exact (g3.at' x q).1
 have hm2 : ∀ x, mnB D' pb2 tv2 x → mnB D pb1 tv1 x ∨ mnB D pb2 tv2 x := fun x hx => by
  rcases hx with q | q
  ·exact .inl (hD x q)
  ·exact .inr (.inr q)
 refine ⟨D', tv', ⟨by rw [hc.block sp1 l1 h.s11]; exact h.h1, by rw [e2]; exact h.h2, mp_min g3, ?_, h.n7, fun q => h.s11 (hm1 _ q), fun q => ?_, fun q => h.s21 (hm1 _ q), fun q => ?_, fun x hx q => ?_, fun x hx q => h.ap' x hx (hm1 x q)⟩, hm1, hm2⟩
 ·exact ⟨by rw [e3]; exact h.m2.head, h.m2.tab.keep (fun x hx => hc.block x (h.m2.al x (h.m2.at' x hx).1) (h.ap' x (.inr hx))), g3.dsk, fun x hx => .inl hx, .inr (.inl rfl), fun q => hb2 (hD _ q), fun x hx => ⟨.inr (.inr hx), fun q => h.ap' x (.inr hx) (hD x q), (h.m2.at' x hx).2.2⟩, fun x hx => by
   rcases hx with q | rfl | q
   ·exact g3.dsk.lt q
   ·exact Nat.lt_of_lt_of_le (h.m2.al _ h.m2.ab) hc.size
   ·exact Nat.lt_of_lt_of_le (h.m2.al x (h.m2.at' x q).1) hc.size, by rw [hr.bl]; exact h.m2.ok⟩
 ·rcases q with q | q
  ·exact h.s11 (hD _ q)
  ·exact h.s12 (.inr q)
 ·rcases q with q | q
  ·exact h.s21 (hD _ q)
  ·exact h.s22 (.inr q)
 ·have hx1 : mnB D pb1 tv1 x := by
   rcases hx with rfl | hx
   ·exact .inr (.inl rfl)
   ·exact (g3.at' x hx).1
  rcases q with q | q
  ·rcases hx with rfl | hx
   ·exact g3.nb q
   ·exact (g3.at' x hx).2.1 q
  ·exact h.ap' x q hx1
end

theorem duo_open {sp : Nat} (h : RSX A w (.pointer (some ⟨sp, 0, none⟩)) dv k P S m Ls) : ∃ D, Dsk 89 D w dv S ∧ (∀ x, D x → A x) ∧ (∀ (A2 : Nat → Prop) sp2 w' S', ST A2 w' (.pointer (some ⟨sp2, 0, none⟩)) dv k P S' → Rdd j S S' → (∀ x, A2 x → D x ∨ w.heap.size ≤ x) → Ch D w w' → w.heap.size ≤ sp2 →
  ∃ D2 pb1 tv1 pb2 tv2, Duo D2 pb1 tv1 pb2 tv2 w' sp sp2 dv k P S' ∧ (∀ x, mnB D2 pb1 tv1 x → A x ∨ w.heap.size ≤ x) ∧ ∀ x, mnB D2 pb2 tv2 x → A x ∨ w.heap.size ≤ x) := by
 obtain ⟨_, bv, e, g1, g2, ⟨D, pb, tv, rfl, g3⟩, g4⟩ := h.st
 cases e
 refine ⟨D, g3.dsk, g3.sub, fun A2 sp2 w' S' hs hr hA hc hsp => ?_⟩
 obtain ⟨_, bv2, e, f1, f2, ⟨D2, pb2, tv2, rfl, f3⟩, f4⟩ := hs
 cases e
 have l1 := (Array.getElem?_eq_some_iff.1 g1).1
 have nD : ¬ D sp := fun q => g2 (g3.sub _ q)
 have lb := g3.al _ g3.ab
 have n2 : ∀ x, x < w.heap.size → ¬ D x → ¬ A2 x := fun x hx hn q => by
  rcases hA x q with q | q
  ·exact hn q
  ·omega
 have mA : ∀ x, mnB D2 pb2 tv2 x → A2 x := fun x hx => by
  rcases hx with q | rfl | q
  ·exact f3.sub x q
  ·exact f3.ab
  ·exact (f3.at' x q).1
 have tl : ∀ x, tv.ownBlock = some x → x < w.heap.size ∧ ¬ D x := fun x hx => ⟨g3.al x (g3.at' x hx).1, (g3.at' x hx).2.1⟩
 have hb1 : ∀ x, (x = pb ∨ tv.ownBlock = some x) → ¬ A2 x := fun x hx => by
  rcases hx with rfl | hx
  ·exact n2 _ lb g3.nb
  ·exact n2 x (tl x hx).1 (tl x hx).2
 refine ⟨D2, pb, tv, pb2, tv2, ⟨by rw [hc.block sp l1 nD]; exact g1, f1, ?_, mp_min f3, g4, ?_, fun q => n2 sp l1 nD (mA _ q), ?_, fun q => f2 (mA _ q), fun x hx q => hb1 x hx (mA x q), fun x hx q => ?_⟩, ?_, ?_⟩
 ·exact ⟨by rw [hc.block pb lb g3.nb]; exact g3.head, g3.tab.keep (fun x hx => hc.block x (tl x hx).1 (tl x hx).2), f3.dsk, fun x hx => .inl hx, .inr (.inl rfl), fun q => hb1 _ (.inl rfl) (f3.sub _ q), fun x hx => ⟨.inr (.inr hx), fun q => hb1 x (.inr hx) (f3.sub _ q), (g3.at' x hx).2.2⟩, fun x hx => by
   rcases hx with q | rfl | q
   ·exact f3.dsk.lt q
   ·exact Nat.lt_of_lt_of_le lb hc.size
   ·exact Nat.lt_of_lt_of_le (tl x q).1 hc.size, by rw [hr.bl]; exact g3.ok⟩
 ·rintro (q | q | q)
  ·exact n2 sp l1 nD (f3.sub _ q)
  ·exact g2 (q ▸ g3.ab)
  ·exact g2 (g3.at' _ q).1
 ·rintro (q | q | q)
  ·exact f2 (f3.sub _ q)
  ·omega
  ·have := (tl _ q).1; omega
 ·have hx2 : A2 x := by
   rcases hx with rfl | hx
   ·exact f3.ab
   ·exact (f3.at' x hx).1
  rcases q with q | q
  ·rcases hx with rfl | hx
   ·exact f3.nb q
   ·exact (f3.at' x hx).2.1 q
  ·exact hb1 x q hx2
 ·rintro x (q | rfl | q)
  ·rcases hA x (f3.sub _ q) with q | q
   ·exact .inl (g3.sub _ q)
   ·exact .inr q
  ·exact .inl g3.ab
  ·exact .inl (g3.at' x q).1
 ·intro x hx
  rcases hA x (mA x hx) with q | q
  ·exact .inl (g3.sub _ q)
  ·exact .inr q
end
end
section
open Go.RowKit

theorem beside_true {w : World} {kv : Value} {ks : List Nat} (hk : Kv w kv ks) (mb ma : Int) (c : Cl) (h : c.n < mb ∨ (c.n = mb ∧ c.k ∈ ks)) :
  Calls Tryz.prog 92 #[.agg #[.int .i64 mb, .int .i64 ma, kv], .agg #[.int .u64 c.k, .bool c.p.h, .int .u64 c.p.b, .bool c.c.h, .int .u64 c.c.b, .int .i64 c.n]] w fun e w' => e = .returned (.bool true) ∧ Below w.heap.size w w' := by
 obtain ⟨ka, kn, kc, rfl⟩ := sv_any hk
 have HB0 : Hid (Below w.heap.size w ((w.alloc (Obj.cells #[.int .i64 mb, .int .i64 ma, .slice ka kn kc] 42)).alloc (Obj.cells #[.int .u64 c.k, .bool c.p.h, .int .u64 c.p.b, .bool c.c.h, .int .u64 c.c.b, .int .i64 c.n] 63))) := below_trans (below_alloc _ _) (below_alloc _ _)
 have HK : Hid (Kv ((w.alloc (Obj.cells #[.int .i64 mb, .int .i64 ma, .slice ka kn kc] 42)).alloc (Obj.cells #[.int .u64 c.k, .bool c.p.h, .int .u64 c.p.b, .bool c.c.h, .int .u64 c.c.b, .int .i64 c.n] 63)) (.slice ka kn kc) ks) := hk.below HB0.out
 have HM : Hid (MB ((w.alloc (Obj.cells #[.int .i64 mb, .int .i64 ma, .slice ka kn kc] 42)).alloc (Obj.cells #[.int .u64 c.k, .bool c.p.h, .int .u64 c.p.b, .bool c.c.h, .int .u64 c.c.b, .int .i64 c.n] 63)) w.heap.size mb ma (.slice ka kn kc)) := (mb_new w mb ma (.slice ka kn kc)).keep (below_alloc _ _)
 have HC : Hid (CB ((w.alloc (Obj.cells #[.int .i64 mb, .int .i64 ma, .slice ka kn kc] 42)).alloc (Obj.cells #[.int .u64 c.k, .bool c.p.h, .int .u64 c.p.b, .bool c.c.h, .int .u64 c.c.b, .int .i64 c.n] 63)) (w.heap.size + 1) c) := by
  have h := cb_new (w.alloc (Obj.cells #[.int .i64 mb, .int .i64 ma, .slice ka kn kc] 42)) c
  rwa [size_allocC] at h
 have HH : Hid (c.n < mb ∨ (c.n = mb ∧ c.k ∈ ks)) := h
 clear hk h
 go_in
 go_upto_region 1 with fail
 obtain ⟨R, hR⟩ : ∃ R, R = w.heap.size := ⟨_, rfl⟩
 obtain ⟨T, hT⟩ : ∃ T, T = w.heap.size + 1 := ⟨_, rfl⟩
 rw [← hT] at HC ⊢
 rw [← hR] at HM ⊢
 generalize ((w.alloc (Obj.cells #[.int .i64 mb, .int .i64 ma, .slice ka kn kc] 42)).alloc (Obj.cells #[.int .u64 c.k, .bool c.p.h, .int .u64 c.p.b, .bool c.c.h, .int .u64 c.c.b, .int .i64 c.n] 63)) = w0 at HB0 HK HM HC ⊢
 clear hR hT
 obtain ⟨c0, c1, c2, _⟩ := HM.out
 obtain ⟨d0, d1, d2, d3, d4, d5, _⟩ := HC.out
 by_cases hlt : c.n < mb
 ·go_wp2_with fail
  go_ret
  exact ⟨rfl, HB0.out⟩
 ·have heq : (c.n == mb) = true := by
   rcases HH.out with q | q
   ·exact absurd q hlt
   ·rw [q.1]; simp
  have HE : Hid (decide (c.k ∈ ks) = true) := by
   rcases HH.out with q | q
   ·exact absurd q hlt
   ·exact decide_eq_true q.2
  go_wp2_with fail
  refine (has_walkM HK.out mb ma c.k).mono ?_
  rw [HE.out]
  rintro e w1 ⟨rfl, hb⟩
  have HB1 := hidH (below_trans HB0.out hb)
  clear hb
  go_wp2_with fail
  go_ret
  exact ⟨rfl, HB1.out⟩
theorem right_true {w : World} {Q : Nat} {f : Nat → Value} {Ls : List (List Cl)} {k : Int} {m : Mk} {kv : Value} (h : SH w Q f Ls) (hk : Kv w kv m.k) (g : Gk k m Ls) :
  Calls Tryz.prog 47 #[.pointer (some ⟨Q, 0, none⟩), .int .i64 k, .agg #[.int .i64 m.b, .int .i64 m.a, kv]] w fun e w' => e = .returned (.bool true) ∧ Below w.heap.size w w' := by
 obtain ⟨ka, kn, kc, rfl⟩ := sv_any hk
 have HB0 : Hid (Below w.heap.size w (w.alloc (Obj.cells #[.int .i64 m.b, .int .i64 m.a, .slice ka kn kc] 42))) := below_alloc _ _
 have HM0 : Hid (MB (w.alloc (Obj.cells #[.int .i64 m.b, .int .i64 m.a, .slice ka kn kc] 42)) w.heap.size m.b m.a (.slice ka kn kc)) := mb_new w m.b m.a (.slice ka kn kc)
 have HK0 : Hid (Kv (w.alloc (Obj.cells #[.int .i64 m.b, .int .i64 m.a, .slice ka kn kc] 42)) (.slice ka kn kc) m.k) := hk.below HB0.out
 have HS0 : Hid (SH (w.alloc (Obj.cells #[.int .i64 m.b, .int .i64 m.a, .slice ka kn kc] 42)) Q f Ls) := h.below HB0.out
 have HG : Hid (Gk k m Ls) := g
 have HL6 : Hid (Ls.length = 6) := h.len
 clear h hk g
 go_in
 go_upto_region 1 with fail
 generalize hN : w.heap.size = N at HM0 ⊢
 have HN : Hid (w.heap.size = N) := hN
 clear hN
 generalize (w.alloc (Obj.cells #[.int .i64 m.b, .int .i64 m.a, .slice ka kn kc] 42)) = w0 at HB0 HM0 HK0 HS0 ⊢
 go_wp2_with fail
 refine (sorted_walkS HS0.out HG.out.gd.pok.2.2).mono ?_
 rintro e w1 ⟨ao, cap, d, rfl, hdc, hcm, hsr, hmc, hnn, hB1⟩
 have HX : Hid (d.length ≤ cap ∧ cap ≤ maxLen ∧ SrtOf Ls.flatten d) := ⟨hdc, hcm, hsr⟩
 have HMC : Hid (d ≠ [] → ∃ g, ao = some ⟨g, 0, none⟩ ∧ g < w1.heap.size ∧ Mc w1 g d) := fun q => by obtain ⟨g, a, _, b, c⟩ := hmc q; exact ⟨g, a, b, c⟩
 have HB1 := hidH hB1
 obtain ⟨n, hn⟩ : ∃ n, n = d.length := ⟨_, rfl⟩
 rw [← hn]
 have HND : Hid (n = d.length) := hn
 have hni : (n : Int) ≤ 9223372036854775807 := by simp only [maxLen] at hcm; omega
 clear hdc hcm hsr hmc hnn hB1 hn
 go_wp2_with fail
 go_loopw [14] (fun iv wr => ∃ i : Nat, iv = .int .i64 i ∧ i ≤ n ∧ Below w1.heap.size w1 wr) (fun iv _ => n - (intOf iv).toNat)
 case atStart => exact ⟨0, rfl, by omega, Below.refl _ _⟩
 case round =>
  obtain ⟨i, rfl, hi, hB⟩ := hrel
  have HB := hidH hB
  have HBW := hidH (below_trans HB0.out (below_trans HB1.out hB))
  clear hB
  by_cases hlt : i < n
  rotate_left
  ·have hlti : ¬ (i : Int) < (n : Int) := by omega
   go_wp2_with fail
   go_ret
   exact ⟨rfl, HBW.out⟩
  ·have hlti : (i : Int) < (n : Int) := by omega
   have hil : i < d.length := by have := HND.out; omega
   obtain ⟨g, rfl, hgl, hmc⟩ := HMC.out (fun e => by rw [e] at hil; simp at hil)
   have HGL : Hid (g < w1.heap.size) := hgl
   have HMR : Hid (Mc wr g d) := mc_below hmc HB.out hgl
   obtain ⟨m0, m1, m2, m3, m4, m5⟩ := mc_cells HMR.out hil
   obtain ⟨c, hc⟩ : ∃ c, c = d[i] := ⟨_, rfl⟩
   rw [← hc] at m0 m1 m2 m3 m4 m5
   have HC : Hid (c = d[i]) := hc
   have HIN : Hid (InS Ls c) := ins_flat HL6.out (HX.out.2.2.1.mem_iff.1 (by rw [hc]; exact List.getElem_mem hil))
   clear hc hgl hmc
   go_upto_region 5 with fail
   clear m0 m1 m2 m3 m4 m5
   have HCB : Hid (CB (wr.alloc (Obj.cells #[.int .u64 c.k, .bool c.p.h, .int .u64 c.p.b, .bool c.c.h, .int .u64 c.c.b, .int .i64 c.n] 63)) wr.heap.size c) := cb_new wr c
   have HBC : Hid (Below wr.heap.size wr (wr.alloc (Obj.cells #[.int .u64 c.k, .bool c.p.h, .int .u64 c.p.b, .bool c.c.h, .int .u64 c.c.b, .int .i64 c.n] 63))) := below_alloc _ _
   generalize hXX : wr.heap.size = X at HCB ⊢
   have HXX : Hid (wr.heap.size = X) := hXX
   clear hXX
   generalize (wr.alloc (Obj.cells #[.int .u64 c.k, .bool c.p.h, .int .u64 c.p.b, .bool c.c.h, .int .u64 c.c.b, .int .i64 c.n] 63)) = w2 at HCB HBC ⊢
   have HM2 : Hid (MB w2 N m.b m.a (.slice ka kn kc)) := HM0.out.keep (below_trans HB1.out (below_trans HB.out HBC.out))
   have HK2 : Hid (Kv w2 (.slice ka kn kc) m.k) := HK0.out.below (below_trans HB1.out (below_trans HB.out HBC.out))
   have HMD : Hid (Mc w2 g d) := mc_below HMR.out HBC.out (Nat.lt_of_lt_of_le HGL.out HB.out.size)
   have HB2 := hidH (below_trans HB.out HBC.out)
   go_cut [31] (fun v wx => v = .bool false ∧ Below w2.heap.size w2 wx)
   case first =>
    have d0 : ∀ wx, Below w2.heap.size w2 wx → wx.cell? ⟨X, 0, none⟩ = some (.int .u64 c.k) := fun wx h => (HCB.out.keep h).c0
    by_cases hz : i = 0
    ·have hg1 : ¬ (0 : Int) < (i : Int) := by omega
     have hg2 : ¬ 0 < i := by omega
     have hg3 : decide (0 < i) = false := decide_eq_false hg2
     clear hz
     refine wp_region_noPanic ?_
     refine wp_region_held_drew (S := fun wx => Below w2.heap.size w2 wx) (by kernel_rfl) ?_ (fun hHeld => ?_)
     ·exact (Below.refl _ _).drew
     refine tkS 0 19 rfl hHeld ?_
     refine tkS 1 20 rfl hHeld ?_
     refine tkS 2 21 rfl hHeld ?_
     refine tuH 3 22 rfl hHeld ?_
     try simp only [Act.put, zA, zB, zC]
     refine tuH 4 23 rfl hHeld ?_
     try simp only [Act.put, zA, zB, zC]
     refine tuH 5 24 rfl hHeld ?_
     try simp only [Act.put, zA, zB, zC]
     refine tuH 6 25 rfl hHeld ?_
     try simp only [Act.put, zA, zB, zC]
     refine tuH 7 26 rfl hHeld ?_
     try simp only [Act.put, zA, zB, zC]
     refine tuH 8 27 rfl hHeld ?_
     try simp only [Act.put, zA, zB, zC]
     refine tuH 9 28 rfl hHeld ?_
     try simp only [Act.put, zA, zB, zC]
     refine tuH 10 29 rfl hHeld ?_
     try simp only [Act.put, zA, zB, zC]
     refine tuH 11 30 rfl hHeld ?_
     try simp only [Act.put, zA, zB, zC]
     refine tkS 12 31 rfl hHeld ?_
     refine wpAnyH_done (by kernel_rfl) ?_ _
     refine NoPanic.normal ?_
     go_wp2_with fail
     go_meet
     exact ⟨rfl, hHeld⟩
    ·obtain ⟨j, hj⟩ : ∃ j, i = j + 1 := ⟨i - 1, by omega⟩
     have HIJ : Hid (i = j + 1) := hj
     have hg1 : (0 : Int) < (i : Int) := by omega
     have hg2 : 0 < i := by omega
     have hg3 : decide (0 < i) = true := decide_eq_true hg2
     have hw : IntKind.i64.wrap ((i : Int) - 1) = (j : Int) := by rw [IntKind.wrap_i64]; omega
     have hj0 : (0 : Int) ≤ (j : Int) := by omega
     have hjn : (j : Int) < (n : Int) := by omega
     have hjn' : j < n := by omega
     have hjl : j + 1 < d.length := by have := HIJ.out; omega
     obtain ⟨q, hq⟩ : ∃ q, q = d[j].k := ⟨_, rfl⟩
     have HQ0 : Hid (w2.cell? ⟨g, j * 6, none⟩ = some (.int .u64 q)) := by rw [hq]; exact (mc_cells HMD.out (show j < d.length by omega)).1
     have hgw : g < w2.heap.size := Nat.lt_of_lt_of_le HGL.out HB2.out.size
     have k0 : ∀ wx, Below w2.heap.size w2 wx → wx.cell? ⟨g, j * 6, none⟩ = some (.int .u64 q) := fun wx h => by rw [h.cell (p := ⟨g, j * 6, none⟩) (cell_lt HQ0.out)]; exact HQ0.out
     have hne : q ≠ c.k := by
      have h := srt_ne HL6.out HG.out.lk HX.out.2.2 hjl
      have e := HC.out
      rw [hq, e]
      have e2 := HIJ.out
      subst e2
      exact h
     have hnb : ((q : Int) == (c.k : Int)) = false := by rw [beq_eq_false_iff_ne]; omega
     have hnb' : (q == c.k) = false := by rw [beq_eq_false_iff_ne]; exact hne
     clear hz hj hq hgw hjl
     refine wp_region_noPanic ?_
     refine wp_region_held_drew (S := fun wx => Below w2.heap.size w2 wx) (by kernel_rfl) ?_ (fun hHeld => ?_)
     ·exact (Below.refl _ _).drew
     refine tkS 0 19 rfl hHeld ?_
     refine tkS 1 20 rfl hHeld ?_
     refine tkS 2 21 rfl hHeld ?_
     refine tkS 3 22 rfl hHeld ?_
     refine tkS 4 23 rfl hHeld ?_
     refine tkS 5 24 rfl hHeld ?_
     refine tkS 6 25 rfl hHeld ?_
     refine tkS 7 26 rfl hHeld ?_
     refine tkS 8 27 rfl hHeld ?_
     refine tkS 9 28 rfl hHeld ?_
     refine tkS 10 29 rfl hHeld ?_
     refine tkS 11 30 rfl hHeld ?_
     refine tkS 12 31 rfl hHeld ?_
     refine wpAnyH_done (by kernel_rfl) ?_ _
     refine NoPanic.normal ?_
     go_wp2_with fail
     go_meet
     exact ⟨rfl, hHeld⟩
   case rest =>
    rename_i wy
    obtain ⟨rfl, hb⟩ := hcut
    have HBy := hidH hb
    clear hb
    obtain ⟨d0, d1, d2, d3, d4, d5, _⟩ := HCB.out.keep HBy.out
    have HOK : Hid c.okB := by obtain ⟨x, hx, h⟩ := HIN.out; exact HG.out.gd.pok.2.1 x hx c h
    go_wp2_with fail
    refine (cfit_walk k (c := c) ⟨HOK.out.2.1, HOK.out.2.2.1⟩ _).mono ?_
    rw [HG.out.fit c HIN.out]
    rintro e w3 ⟨rfl, hb⟩
    have HB3 := hidH (below_trans HBy.out hb)
    clear hb d0 d1 d2 d3 d4 d5
    obtain ⟨d0, d1, d2, d3, d4, d5, _⟩ := HCB.out.keep HB3.out
    go_wp2_with fail
    refine (empty_walk c _).mono ?_
    rw [HG.out.ne c HIN.out]
    rintro e w4 ⟨rfl, hb⟩
    have HB4 := hidH (below_trans HB3.out hb)
    clear hb d0 d1 d2 d3 d4 d5
    obtain ⟨d0, d1, d2, d3, d4, d5, _⟩ := HCB.out.keep HB4.out
    obtain ⟨c0, c1, c2, _⟩ := HM2.out.keep HB4.out
    go_wp2_with fail
    refine (beside_true (HK2.out.below HB4.out) m.b m.a c (HG.out.bes c HIN.out)).mono ?_
    rintro e w5 ⟨rfl, hb⟩
    have HB5 := hidH (below_trans HB2.out (below_trans HB4.out hb))
    clear hb d0 d1 d2 d3 d4 d5 c0 c1 c2
    go_wp2_with fail
    go_roundw
    case rel => exact ⟨i + 1, by go_num, hlt, HB5.out⟩
    case measure => simp [intOf]; omega
theorem rdS_rdd (S : Dk) : ∀ j, Rdd j S (rdS S j) := by
 intro j
 induction j with
 | zero => exact Rdd.refl _
 | succ j ih =>
  refine ih.trans (j := 1) ?_
  show Rdd 1 (rdS S j) (readS (rdS S j) j)
  unfold readS
  split
  ·exact ⟨(rdS S j).rd + 1, rfl, by omega, by omega⟩
  ·exact Rdd.refl _
theorem sopen_good {D : Nat → Prop} {w : World} {dv : Value} {S : Dk} (hd : Dsk 89 D w dv S) (hrd : S.rd < 1000000000) {k : Int} {P : Bo} {m : Mk} {Ls : List (List Cl)} (hi : Iw P S (pagesW m Ls)) (hg : Gk k m Ls) :
  Calls Tryz.prog 17 #[dv, .int .i64 k] w fun e w' => ∃ A' sp S', e = .returned (.tuple #[.pointer (some ⟨sp, 0, none⟩), .int .i64 0]) ∧ w.heap.size ≤ sp ∧ ST A' w' (.pointer (some ⟨sp, 0, none⟩)) dv k P S' ∧ Rdd 9 S S' ∧ (∀ x, A' x → D x ∨ w.heap.size ≤ x) ∧ Ch D w w' := by
 have HD := hidH hd
 have HRD : Hid (S.rd < 1000000000) := hrd
 have HI := hidH hi
 have HG : Hid (Gk k m Ls) := hg
 obtain ⟨sb, hsb⟩ : ∃ sb, dv = .pointer (some ⟨sb, 0, none⟩) := by obtain ⟨sb, gp, cap, e, _⟩ := hd; exact ⟨sb, e⟩
 subst hsb
 clear hd hrd hi hg
 go_in
 go_wp2_with fail
 refine (srefuses_walk sb k _).mono ?_
 unfold refK
 rw [if_pos HG.out.kn]
 rintro e w1 ⟨rfl, hw1⟩
 replace hw1 := hw1.symm
 subst hw1
 go_wp2_with fail
 refine (open_walk HD.out (by have := HRD.out; omega)).mono ?_
 rw [show opI S = 0 by unfold opI; rw [HI.out.dn, open_iw HI.out]; simp, show opB S = some P by unfold opB; rw [HI.out.dn, open_iw HI.out]; simp, show opS S = rdS S 2 by unfold opS; rw [HI.out.dn]; simp]
 rintro e w1 ⟨v1, rfl, _, hyes, hc1⟩
 obtain ⟨A, hbk, hA⟩ := hyes P rfl
 obtain ⟨S1, hS1⟩ : ∃ S1, S1 = rdS S 2 := ⟨_, rfl⟩
 rw [← hS1] at hbk
 have HR1 : Hid (Rdd 2 S S1) := by rw [hS1]; exact rdS_rdd S 2
 have HBK := hidH hbk
 have HA := hidH hA
 have HC1 : Hid (Ch D w w1) := hc1
 have HAL : Hid (∀ x, A x → x < w1.heap.size) := fun x hx => hbk.lt hx
 obtain ⟨pb, hpb⟩ : ∃ pb, v1 = .pointer (some ⟨pb, 0, none⟩) := by obtain ⟨D', pb, tv, e, _⟩ := hbk; exact ⟨pb, e⟩
 subst hpb
 clear hyes hbk hA hc1 hS1
 go_wp2_with fail
 refine (pages_walk HBK.out).mono ?_
 rw [HI.out.n8]
 rintro e wz ⟨rfl, hwz⟩
 replace hwz := hwz.symm
 subst hwz
 have HST : Hid (ST A (w1.alloc (Obj.cells #[.pointer (some ⟨pb, 0, none⟩), .int .i64 k] 99)) (.pointer (some ⟨w1.heap.size, 0, none⟩)) (.pointer (some ⟨sb, 0, none⟩)) k P S1) :=
  ⟨w1.heap.size, _, rfl, heap_alloc_new w1 _, fun e => by have := HAL.out _ e; omega, HBK.out.below (below_alloc _ _), HI.out.n8⟩
 have HCa : Hid (Ch D w (w1.alloc (Obj.cells #[.pointer (some ⟨pb, 0, none⟩), .int .i64 k] 99))) := HC1.out.self (Ch.of_below (below_alloc _ _))
 have HSP : Hid (w.heap.size ≤ w1.heap.size) := HC1.out.size
 go_upto_region 10 with fail
 generalize w1.heap.size = sp at HST HSP ⊢
 generalize w1.alloc (Obj.cells #[.pointer (some ⟨pb, 0, none⟩), .int .i64 k] 99) = w2 at HST HCa ⊢
 have HRS : Hid (RSX A w2 (.pointer (some ⟨sp, 0, none⟩)) (.pointer (some ⟨sb, 0, none⟩)) k P S1 m Ls) := ⟨HST.out, HI.out.rdd HR1.out, HG.out⟩
 clear HBK HC1 HST
 go_wp2_with fail
 refine (smark_rsx HRS.out (by have h1 := HR1.out.rd; have h2 := HRD.out; omega)).mono ?_
 rintro e w3 ⟨kv, rfl, ho, S3, hst3, hr3, hc3⟩
 have HR3 : Hid (Rdd 3 S S3) := (HR1.out.trans hr3).mono (by omega)
 have HRS3 : Hid (RSX A w3 (.pointer (some ⟨sp, 0, none⟩)) (.pointer (some ⟨sb, 0, none⟩)) k P S3 m Ls) := ⟨hst3, HI.out.rdd HR3.out, HG.out⟩
 have HC3 : Hid (Ch D w w3) := HCa.out.trans hc3 HA.out
 have HW23 : Hid (w2.heap.size ≤ w3.heap.size) := hc3.size
 have HKV : Hid (Kv w3 kv m.k) := own_sv ho
 have HKB : Hid (∀ x, kv.ownBlock = some x → w2.heap.size ≤ x ∧ x < w3.heap.size) := fun x hx => ho.lt x hx
 have HAL2 : Hid (∀ x, A x → x < w2.heap.size) := fun x hx => HRS.out.st.lt hx
 obtain ⟨ka, kn, kc, rfl⟩ := sv_any HKV.out
 clear ho hst3 hr3 hc3 HRS HCa HR1
 go_upto_region 11 with fail
 have HM3 : Hid (MB (w3.alloc (Obj.cells #[.int .i64 m.b, .int .i64 m.a, .slice ka kn kc] 42)) w3.heap.size m.b m.a (.slice ka kn kc)) := mb_new w3 m.b m.a (.slice ka kn kc)
 have HB3 : Hid (Below w3.heap.size w3 (w3.alloc (Obj.cells #[.int .i64 m.b, .int .i64 m.a, .slice ka kn kc] 42))) := below_alloc _ _
 obtain ⟨MX, hMX⟩ : ∃ MX, MX = w3.heap.size := ⟨_, rfl⟩
 have HMX : Hid (MX = w3.heap.size) := hMX
 rw [← hMX] at HM3 ⊢
 clear hMX
 generalize w3.alloc (Obj.cells #[.int .i64 m.b, .int .i64 m.a, .slice ka kn kc] 42) = w4 at HM3 HB3 ⊢
 have HRS4 : Hid (RSX A w4 (.pointer (some ⟨sp, 0, none⟩)) (.pointer (some ⟨sb, 0, none⟩)) k P S3 m Ls) := ⟨HRS3.out.st.below HB3.out, HRS3.out.iw, HRS3.out.gk⟩
 have HC4 : Hid (Ch D w w4) := HC3.out.self (Ch.of_below HB3.out)
 have HKV4 := hidH (HKV.out.below HB3.out)
 clear HRS3 HC3 HKV
 go_wp2_with fail
 refine (cells_walk HRS4.out.st (by have h1 := HR3.out.rd; have h2 := HRD.out; omega)).mono ?_
 rintro e w5 ⟨c, f, S5, rfl, hform, hfr, hcase, hst5, hr5, hc5⟩
 have HSH5 : Hid (shutB P S3 = false) := HRS4.out.iw.shut
 have HCE : Hid (c = 0 ∧ ∀ j, j < 6 → Cv w5 (f j) (pgc Ls j)) := by
  have e := hd_cells HRS4.out.gk.gd HRS4.out.iw
  rcases hcase with ⟨_, h⟩ | ⟨_, _, h⟩ | ⟨h1, h2, L', h3, h4⟩
  ·rw [HSH5.out] at h; cases h
  ·rw [e] at h; cases h
  ·rw [e] at h3; cases h3; exact ⟨h1, h4⟩
 rw [getB_ok HSH5.out] at hst5
 have HST5 := hidH hst5
 have HR5 : Hid (Rdd 9 S S5) := (HR3.out.trans hr5).mono (by omega)
 have HC5 : Hid (Ch D w w5) := HC4.out.trans hc5 HA.out
 have HNA : Hid (∀ x, w2.heap.size ≤ x → ¬ A x) := fun x hx e => by have := HAL2.out x e; omega
 have HMXW : Hid (w2.heap.size ≤ MX) := by
  have := HMX.out
  show _ ≤ _
  rw [this]
  exact HW23.out
 have HM5 : Hid (MB w5 MX m.b m.a (.slice ka kn kc)) := ⟨hc5.cell HM3.out.c0 (HNA.out _ HMXW.out), hc5.cell HM3.out.c1 (HNA.out _ HMXW.out), hc5.cell HM3.out.c2 (HNA.out _ HMXW.out), fun j => by rw [frozen_ch (p := ⟨MX, j, none⟩) hc5 (show MX < _ from cell_lt HM3.out.c0) (HNA.out _ HMXW.out)]; exact HM3.out.z j⟩
 have HKV5 : Hid (Kv w5 (.slice ka kn kc) m.k) := kv_ch HKV4.out hc5 (fun x hx => HNA.out x (HKB.out x hx).1)
 obtain ⟨a0, n0, p0, e0⟩ := hform 0 (by omega)
 obtain ⟨a1, n1, p1, e1⟩ := hform 1 (by omega)
 obtain ⟨a2, n2, p2, e2⟩ := hform 2 (by omega)
 obtain ⟨a3, n3, p3, e3⟩ := hform 3 (by omega)
 obtain ⟨a4, n4, p4, e4⟩ := hform 4 (by omega)
 obtain ⟨a5, n5, p5, e5⟩ := hform 5 (by omega)
 have HSL : Hid (SH (w5.alloc (Obj.cells #[.slice a0 n0 p0, .slice a1 n1 p1, .slice a2 n2 p2, .slice a3 n3 p3, .slice a4 n4 p4, .slice a5 n5 p5] 83)) w5.heap.size f Ls) := by
  have h := sh_lit w5 f HRS4.out.gk.gd.pok.1 HCE.out.2
  rw [e0, e1, e2, e3, e4, e5] at h
  exact h
 have HB6 : Hid (Below w5.heap.size w5 (w5.alloc (Obj.cells #[.slice a0 n0 p0, .slice a1 n1 p1, .slice a2 n2 p2, .slice a3 n3 p3, .slice a4 n4 p4, .slice a5 n5 p5] 83))) := below_alloc _ _
 have hc0 := HCE.out.1
 subst hc0
 rw [e0, e1, e2, e3, e4, e5]
 clear hform hfr hcase hst5 hr5 hc5 e0 e1 e2 e3 e4 e5
 go_upto_region 14 with fail
 obtain ⟨TX, hTX⟩ : ∃ TX, TX = w5.heap.size := ⟨_, rfl⟩
 rw [← hTX] at HSL ⊢
 clear hTX
 generalize (w5.alloc (Obj.cells #[.slice a0 n0 p0, .slice a1 n1 p1, .slice a2 n2 p2, .slice a3 n3 p3, .slice a4 n4 p4, .slice a5 n5 p5] 83)) = w6 at HSL HB6 ⊢
 obtain ⟨c0, c1, c2, _⟩ := HM5.out.keep HB6.out
 have HKV6 := hidH (HKV5.out.below HB6.out)
 go_wp2_with fail
 refine (right_true HSL.out HKV6.out HG.out).mono ?_
 rintro e w7 ⟨rfl, hb7⟩
 have HB7 := hidH (below_trans HB6.out hb7)
 clear hb7 c0 c1 c2
 go_wp2_with fail
 go_ret2
 exact ⟨A, sp, S5, rfl, HSP.out, HST5.out.below HB7.out, HR5.out, HA.out, HC5.out.self (Ch.of_below HB7.out)⟩
end
section
open Go.RowKit

section

variable {wz w w' : World} {K K' A A' D : Nat → Prop} {sp sb sp2 : Nat} {k : Int} {m m' : Mk} {Ls Ls' : List (List Cl)} {c c' : Int → Prop} {N N' : Nat} {b a : Int} {ks : List Nat}

def Dd (wz : World) (K : Nat → Prop) (sb : Nat) (k : Int) (m : Mk) (Ls : List (List Cl)) (N : Nat) (w : World) : Prop :=
 ∃ D P S, Dsk 89 D w (.pointer (some ⟨sb, 0, none⟩)) S ∧ Iw P S (pagesW m Ls) ∧ Gk k m Ls ∧ S.left = -1 ∧ cntS P S ≤ N ∧ Kp wz K D w
def Du (wz : World) (K : Nat → Prop) (sp sp2 sb : Nat) (k : Int) (m : Mk) (Ls : List (List Cl)) (N : Nat) (w : World) : Prop :=
 ∃ D pb1 tv1 pb2 tv2 P S, Duo D pb1 tv1 pb2 tv2 w sp sp2 (.pointer (some ⟨sb, 0, none⟩)) k P S ∧ Iw P S (pagesW m Ls) ∧ Gk k m Ls ∧ S.left = -1 ∧ cntS P S ≤ N ∧ Kp wz K (fun x => mnB D pb1 tv1 x ∨ mnB D pb2 tv2 x) w ∧ ¬ K sp ∧ ¬ K sp2
theorem ST.redisk {P : Bo} {S : Dk} {sv dv : Value} (h : ST A w sv dv k P S) : ∃ D, Dsk 89 D w dv S ∧ (∀ x, D x → A x) ∧ ∀ D' w' S', Dsk 89 D' w' dv S' → (∀ x, D' x → D x ∨ w.heap.size ≤ x) → Ch D w w' → S'.bl.length = S.bl.length → ST (fun x => A x ∨ D' x) w' sv dv k P S' := by
 obtain ⟨sp, bv, e, h1, h2, h3, h4⟩ := h
 obtain ⟨D, d1, d2, d3⟩ := h3.disk
 have hl := (Array.getElem?_eq_some_iff.1 h1).1
 have hn : ¬ D sp := fun q => h2 (d2 _ q)
 refine ⟨D, d1, d2, fun D' w' S' hd hx hc hb => ⟨sp, bv, e, by rw [hc.block sp hl hn]; exact h1, ?_, d3 D' w' S' hd hx hc hb, h4⟩⟩
 rintro (q | q)
 ·exact h2 q
 ·rcases hx _ q with q | q
  ·exact hn q
  ·omega
theorem Cr.disk {P : Bo} {S S' : Dk} {D' : Nat → Prop} (h1 : RSX A w (.pointer (some ⟨sp, 0, none⟩)) (.pointer (some ⟨sb, 0, none⟩)) k P S m Ls) (h3 : cntS P S ≤ N) (h4 : Kp wz K A w) (h9 : ¬ K sp) (hs : ST (fun x => A x ∨ D' x) w' (.pointer (some ⟨sp, 0, none⟩)) (.pointer (some ⟨sb, 0, none⟩)) k P S') (hD : ∀ x, D' x → D x ∨ w.heap.size ≤ x) (hd : ∀ x, D x → A x) (hc : Ch D w w') (e1 : S'.down = false) (e2 : S'.bl = S.bl) (e3 : S'.wr = S.wr) (e4 : S'.rd = S.rd) (e5 : c S'.left) : Cr wz K sp sb k m Ls c N w' :=
 ⟨_, P, S', ⟨hs, h1.iw.turn e1 (by rw [e2]) (fun x _ => by rw [e2]), h1.gk⟩, e5, by unfold cntS at h3 ⊢; rw [e3, e4]; exact h3, h4.step (fun x hx => by
  rcases hx with q | q
  ·exact .inl q
  ·rcases hD x q with q | q
   ·exact .inl (hd x q)
   ·exact .inr q) (ch_up hc hd), h9⟩
theorem cr_cut (h : Cr wz K sp sb k m Ls c N w) {n : Int} (hn : n < 9223372036854775808) :
  Calls Tryz.prog 11 #[.pointer (some ⟨sb, 0, none⟩), .int .i64 n] w fun e w' => e = .returned (.tuple #[]) ∧ Ch (fun x => ¬ K x) w w' ∧ Cr wz K sp sb k m Ls (fun _ => True) N w' := by
 obtain ⟨A, P, S, h1, h2, h3, h4, h9⟩ := h
 obtain ⟨D, d1, d2, d3⟩ := h1.st.redisk
 refine (cut_walk d1 hn).mono ?_
 rintro e w1 ⟨rfl, hd, hc⟩
 exact ⟨rfl, h4.ch (ch_up hc d2), Cr.disk h1 h3 h4 h9 (d3 _ _ _ hd (fun x hx => .inl hx) hc rfl) (fun x hx => .inl hx) d2 hc h1.iw.dn rfl rfl rfl trivial⟩
theorem cr_on (h : Cr wz K sp sb k m Ls c N w) :
  Calls Tryz.prog 16 #[.pointer (some ⟨sb, 0, none⟩)] w fun e w' => e = .returned (.tuple #[]) ∧ Ch (fun x => ¬ K x) w w' ∧ Cr wz K sp sb k m Ls (fun x => x = -1) N w' := by
 obtain ⟨A, P, S, h1, h2, h3, h4, h9⟩ := h
 obtain ⟨D, d1, d2, d3⟩ := h1.st.redisk
 refine (on_walk d1).mono ?_
 rintro e w1 ⟨rfl, hd, hc⟩
 exact ⟨rfl, h4.ch (ch_up hc d2), Cr.disk h1 h3 h4 h9 (d3 _ _ _ hd (fun x hx => .inl hx) hc rfl) (fun x hx => .inl hx) d2 hc rfl rfl rfl rfl rfl⟩
theorem cr_down (h : Cr wz K sp sb k m Ls c N w) : Calls Tryz.prog 14 #[.pointer (some ⟨sb, 0, none⟩)] w fun e w' => e = .returned (.bool false) ∧ w' = w := by
 obtain ⟨A, P, S, h1, h2, h3, h4, h9⟩ := h
 obtain ⟨D, d1, _⟩ := h1.st.dsk
 have := down_walk d1
 rw [h1.iw.dn] at this
 exact this
theorem cr_ended (h : Cr wz K sp sb k m Ls c N w) : Calls Tryz.prog 15 #[.pointer (some ⟨sp, 0, none⟩)] w fun e w' => e = .returned (.bool false) ∧ w' = w := by
 obtain ⟨A, P, S, h1, h2, h3, h4, h9⟩ := h
 have := sended_walk h1.st
 rw [h1.iw.ov] at this
 exact this
theorem dr_mark (h : Dr wz K sp sb k m Ls N w) (hN : N < 1000000000) :
  Calls Tryz.prog 9 #[.pointer (some ⟨sp, 0, none⟩)] w fun e w' => ∃ x y z, e = .returned (.tuple #[.agg #[.int .i64 0, .int .i64 0, .slice x y z], .int .i64 80]) ∧ Ch (fun x => ¬ K x) w w' ∧ Dr wz (nwK K w w') sp sb k m Ls (N + 1) w' := by
 obtain ⟨A, P, S, h1, h3, h4⟩ := h
 refine (smark_dn h1 (by unfold cntS at h3; omega)).mono ?_
 rintro e w1 ⟨v, rfl, ⟨x, y, z, rfl⟩, S', hd, hr, hc⟩
 exact ⟨x, y, z, rfl, h4.ch hc, A, P, S', hd, by have := cnt_rdd (P := P) hr; omega, h4.grow (fun _ h => h) (fun x hx => h1.st.lt hx) hc⟩
theorem dr_down (h : Dr wz K sp sb k m Ls N w) : Calls Tryz.prog 14 #[.pointer (some ⟨sb, 0, none⟩)] w fun e w' => e = .returned (.bool true) ∧ w' = w := by
 obtain ⟨A, P, S, h1, h3, h4⟩ := h
 obtain ⟨D, d1, _⟩ := h1.st.dsk
 have := down_walk d1
 rw [h1.dn] at this
 exact this
theorem dr_ended (h : Dr wz K sp sb k m Ls N w) : Calls Tryz.prog 15 #[.pointer (some ⟨sp, 0, none⟩)] w fun e w' => e = .returned (.bool true) ∧ w' = w := by
 obtain ⟨A, P, S, h1, h3, h4⟩ := h
 exact sended_walk h1.st
theorem dr_on (h : Dr wz K sp sb k m Ls N w) :
  Calls Tryz.prog 16 #[.pointer (some ⟨sb, 0, none⟩)] w fun e w' => e = .returned (.tuple #[]) ∧ Ch (fun x => ¬ K x) w w' ∧ Dd wz K sb k m Ls N w' := by
 obtain ⟨A, P, S, h1, h3, h4⟩ := h
 obtain ⟨D, d1, d2⟩ := h1.st.dsk
 refine (on_walk d1).mono ?_
 rintro e w1 ⟨rfl, hd, hc⟩
 exact ⟨rfl, h4.ch (ch_up hc d2), D, P, onS S, hd, h1.iw, h1.gk, rfl, h3, (h4.mono (fun _ h => h) d2).step (fun x hx => .inl hx) hc⟩
theorem dd_open (h : Dd wz K sb k m Ls N w) (hN : N < 1000000000) :
  Calls Tryz.prog 17 #[.pointer (some ⟨sb, 0, none⟩), .int .i64 k] w fun e w' => ∃ sp2, e = .returned (.tuple #[.pointer (some ⟨sp2, 0, none⟩), .int .i64 0]) ∧ Ch (fun x => ¬ K x) w w' ∧ Cr wz K sp2 sb k m Ls (fun x => x = -1) (N + 9) w' := by
 obtain ⟨D, P, S, d1, d2, d3, d4, d5, h4⟩ := h
 refine (sopen_good d1 (by unfold cntS at d5; omega) d2 d3).mono ?_
 rintro e w1 ⟨A', sp2, S', rfl, hsp, hst, hr, hA, hc⟩
 exact ⟨sp2, rfl, h4.ch hc, A', P, S', ⟨hst, d2.rdd hr, d3⟩, by rw [hr.left]; exact d4, by have := cnt_rdd (P := P) hr; omega, h4.step hA hc, fun q => by have := h4.kl _ q; omega⟩
theorem cr_open (h : Cr wz K sp sb k m Ls (fun x => x = -1) N w) (hN : N < 1000000000) :
  Calls Tryz.prog 17 #[.pointer (some ⟨sb, 0, none⟩), .int .i64 k] w fun e w' => ∃ sp2, e = .returned (.tuple #[.pointer (some ⟨sp2, 0, none⟩), .int .i64 0]) ∧ Ch (fun x => ¬ K x) w w' ∧ Du wz K sp sp2 sb k m Ls (N + 9) w' := by
 obtain ⟨A, P, S, h1, h2, h3, h4, h9⟩ := h
 obtain ⟨D, d1, d2, d3⟩ : ∃ D, Dsk 89 D w (.pointer (some ⟨sb, 0, none⟩)) S ∧ (∀ x, D x → A x) ∧ ∀ (A2 : Nat → Prop) sp2 w' S', ST A2 w' (.pointer (some ⟨sp2, 0, none⟩)) (.pointer (some ⟨sb, 0, none⟩)) k P S' → Rdd 9 S S' → (∀ x, A2 x → D x ∨ w.heap.size ≤ x) → Ch D w w' → w.heap.size ≤ sp2 → ∃ D2 pb1 tv1 pb2 tv2, Duo D2 pb1 tv1 pb2 tv2 w' sp sp2 (.pointer (some ⟨sb, 0, none⟩)) k P S' ∧ (∀ x, mnB D2 pb1 tv1 x → A x ∨ w.heap.size ≤ x) ∧ ∀ x, mnB D2 pb2 tv2 x → A x ∨ w.heap.size ≤ x := duo_open h1
 refine (sopen_good d1 (by unfold cntS at h3; omega) h1.iw h1.gk).mono ?_
 rintro e w1 ⟨A', sp2, S', rfl, hsp, hst, hr, hA, hc⟩
 obtain ⟨D2, pb1, tv1, pb2, tv2, q1, q2, q3⟩ := d3 A' sp2 w1 S' hst hr hA hc hsp
 exact ⟨sp2, rfl, h4.ch (ch_up hc d2), D2, pb1, tv1, pb2, tv2, P, S', q1, h1.iw.rdd hr, h1.gk, by rw [hr.left]; exact h2, by have := cnt_rdd (P := P) hr; omega, h4.step (fun x hx => by
  rcases hx with q | q
  ·exact q2 x q
  ·exact q3 x q) (ch_up hc d2), h9, fun q => by have := h4.kl _ q; omega⟩
theorem Du.swap (h : Du wz K sp sp2 sb k m Ls N w) : Du wz K sp2 sp sb k m Ls N w := by
 obtain ⟨D, pb1, tv1, pb2, tv2, P, S, h1, h2, h3, h4, h5, h6, h8, h9⟩ := h
 exact ⟨D, pb2, tv2, pb1, tv1, P, S, h1.swap, h2, h3, h4, h5, h6.mono (fun _ h => h) (fun x hx => hx.symm), h9, h8⟩
theorem Du.step {D : Nat → Prop} {pb1 pb2 : Nat} {tv1 tv2 : Value} {P : Bo} {S S' : Dk} {j : Nat} (h1 : Duo D pb1 tv1 pb2 tv2 w sp sp2 (.pointer (some ⟨sb, 0, none⟩)) k P S) (h2 : Iw P S (pagesW m Ls)) (h3 : Gk k m Ls) (h4 : S.left = -1) (h5 : cntS P S ≤ N) (h6 : Kp wz K (fun x => mnB D pb1 tv1 x ∨ mnB D pb2 tv2 x) w) (h8 : ¬ K sp) (h9 : ¬ K sp2) (hs : ST (mnB D pb1 tv1) w' (.pointer (some ⟨sp, 0, none⟩)) (.pointer (some ⟨sb, 0, none⟩)) k P S') (hr : Rdd j S S') (hc : Ch (mnB D pb1 tv1) w w') :
  Ch (fun x => ¬ K x) w w' ∧ Du wz (nwK K w w') sp sp2 sb k m Ls (N + j) w' := by
 obtain ⟨D', tv', q1, q2, q3⟩ := h1.one hs hr hc
 have hu : Ch (fun x => mnB D pb1 tv1 x ∨ mnB D pb2 tv2 x) w w' := ch_up hc (fun x hx => .inl hx)
 refine ⟨h6.ch hu, D', pb1, tv', pb2, tv2, P, S', q1, h2.rdd hr, h3, by rw [hr.left]; exact h4, by have := cnt_rdd (P := P) hr; omega, h6.grow (fun x hx => ?_) (fun x hx => ?_) hu, nw_not h8 (Array.getElem?_eq_some_iff.1 h1.h1).1, nw_not h9 (Array.getElem?_eq_some_iff.1 h1.h2).1⟩
 ·rcases hx with q | q
  ·exact .inl (q2 x q)
  ·exact q3 x q
 ·rcases hx with q | q
  ·exact h1.m1.al x q
  ·exact h1.m2.al x q
theorem du_mark (h : Du wz K sp sp2 sb k m Ls N w) (hN : N < 1000000000) :
  Calls Tryz.prog 9 #[.pointer (some ⟨sp, 0, none⟩)] w fun e w' => ∃ v, e = .returned (.tuple #[.agg #[.int .i64 m.b, .int .i64 m.a, v], .int .i64 0]) ∧ Kv w' v m.k ∧ (∀ x, v.ownBlock = some x → w.heap.size ≤ x ∧ x < w'.heap.size) ∧ Ch (fun x => ¬ K x) w w' ∧ Du wz (nwK K w w') sp sp2 sb k m Ls (N + 1) w' := by
 obtain ⟨D, pb1, tv1, pb2, tv2, P, S, h1, h2, h3, h4, h5, h6, h8, h9⟩ := h
 refine (smark_rsx ⟨h1.st1, h2, h3⟩ (by unfold cntS at h5; omega)).mono ?_
 rintro e w1 ⟨v, rfl, ho, S', hst, hr, hc⟩
 obtain ⟨q1, q2⟩ := Du.step h1 h2 h3 h4 h5 h6 h8 h9 hst hr hc
 exact ⟨v, rfl, own_sv ho, fun x hx => ho.lt x hx, q1, q2⟩
theorem du_cells (h : Du wz K sp sp2 sb k m Ls N w) (hN : N < 1000000000) :
  Calls Tryz.prog 10 #[.pointer (some ⟨sp, 0, none⟩)] w fun e w' => ∃ v d, e = .returned (.tuple #[v, .int .i64 0]) ∧ SrtOf Ls.flatten d ∧ Cw w' v d ∧ (d ≠ [] → ∀ x, v.ownBlock = some x → nwK K w w' x) ∧ Ch (fun x => ¬ K x) w w' ∧ Du wz (nwK K w w') sp sp2 sb k m Ls (N + 6) w' := by
 obtain ⟨D, pb1, tv1, pb2, tv2, P, S, h1, h2, h3, h4, h5, h6, h8, h9⟩ := h
 refine (scells_rsx ⟨h1.st1, h2, h3⟩ (by unfold cntS at h5; omega)).mono ?_
 rintro e w1 ⟨v, d, rfl, hs, hw, hv, S', hst, hr, hc⟩
 obtain ⟨q1, q2⟩ := Du.step h1 h2 h3 h4 h5 h6 h8 h9 hst hr hc
 exact ⟨v, d, rfl, hs, hw, fun q x hx => .inr (hv q x hx), q1, q2⟩
theorem Du.fin (h : Du wz K sp sp2 sb k m Ls N w) : Cr wz K sp2 sb k m Ls (fun x => x = -1) N w := by
 obtain ⟨D, pb1, tv1, pb2, tv2, P, S, h1, h2, h3, h4, h5, h6, h8, h9⟩ := h
 exact ⟨mnB D pb2 tv2, P, S, ⟨h1.swap.st1, h2, h3⟩, h4, h5, h6.mono (fun _ h => h) (fun x hx => .inr hx), h9⟩
theorem Du.set (h : Du wz K sp sp2 sb k m Ls N w) {g i : Nat} {u : Value} (hg : K g) : Du wz K sp sp2 sb k m Ls N (w.setCell ⟨g, i, none⟩ u) := by
 obtain ⟨D, pb1, tv1, pb2, tv2, P, S, h1, h2, h3, h4, h5, h6, h8, h9⟩ := h
 have hn := h6.ap g hg
 have hc := ch_set w g i u
 have hs : w.heap.size ≤ (w.setCell ⟨g, i, none⟩ u).heap.size := hc.size
 have kb : ∀ x, x < w.heap.size → x ≠ g → (w.setCell ⟨g, i, none⟩ u).heap[x]? = w.heap[x]? := fun x hx hne => hc.block x hx hne
 have l1 := (Array.getElem?_eq_some_iff.1 h1.h1).1
 have l2 := (Array.getElem?_eq_some_iff.1 h1.h2).1
 refine ⟨D, pb1, tv1, pb2, tv2, P, S, ⟨by rw [kb sp l1 (fun e => h8 (e ▸ hg))]; exact h1.h1, by rw [kb sp2 l2 (fun e => h9 (e ▸ hg))]; exact h1.h2, h1.m1.keep (fun x hx => kb x (h1.m1.al x hx) (fun e => hn (.inl (e ▸ hx)))) hs, h1.m2.keep (fun x hx => kb x (h1.m2.al x hx) (fun e => hn (.inr (e ▸ hx)))) hs, h1.n7, h1.s11, h1.s12, h1.s21, h1.s22, h1.ap, h1.ap'⟩, h2, h3, h4, h5, ⟨h6.ap, fun x hx => Nat.lt_of_lt_of_le (h6.kl x hx) hs, h6.kz, h6.az, h6.bw.trans (hc.to_below h6.bw.size (fun x hx => by subst hx; exact h6.kz _ hg))⟩, h8, h9⟩
theorem Cr.set (h : Cr wz K sp sb k m Ls c N w) {g i : Nat} {u : Value} (hg : K g) : Cr wz K sp sb k m Ls c N (w.setCell ⟨g, i, none⟩ u) := by
 obtain ⟨A, P, S, h1, h2, h3, h4, h9⟩ := h
 have hn := h4.ap g hg
 have hc := ch_set w g i u
 exact ⟨A, P, S, ⟨h1.st.setB (fun x _ hA e => hn (e ▸ hA)) (fun s e => by cases e; exact fun e => h9 (e ▸ hg)), h1.iw, h1.gk⟩, h2, h3, ⟨h4.ap, fun x hx => Nat.lt_of_lt_of_le (h4.kl x hx) hc.size, h4.kz, h4.az, h4.bw.trans (hc.to_below h4.bw.size (fun x hx => by subst hx; exact h4.kz _ hg))⟩, h9⟩
end
end
section
open Go.RowKit

theorem rv_3 (w : World) (a b c : Rcd) (ha : a.ok) (hb : b.ok) (hc : c.ok) : Rv (w.alloc (Obj.cells #[.int .u64 a.k, .float .f64 a.x, .int .u64 b.k, .float .f64 b.x, .int .u64 c.k, .float .f64 c.x] 36)) (.slice (some ⟨w.heap.size, 0, none⟩) 3 3) [a, b, c] := by
 refine ⟨⟨_, 3, rfl, Nat.le_refl _, by simp [maxLen], by simp, fun i hi => ?_⟩, fun o ho => ?_⟩
 ·have h : i = 0 ∨ i = 1 ∨ i = 2 := by simp at hi; omega
  rcases h with rfl | rfl | rfl
  ·exact ⟨w.heap.size, 0, rfl, by simp [go_sem], by simp [go_sem]⟩
  ·exact ⟨w.heap.size, 0, rfl, by simp [go_sem], by simp [go_sem]⟩
  ·exact ⟨w.heap.size, 0, rfl, by simp [go_sem], by simp [go_sem]⟩
 ·simp at ho
  rcases ho with rfl | rfl | rfl
  ·exact ha
  ·exact hb
  ·exact hc
structure Ba (ks : List Nat) (T : List Pr) (kv tv : Value) (K : Nat → Prop) (w : World) : Prop where
 kk : Kv w kv ks
 qq : Qv w tv T
 kK : ∀ x, kv.ownBlock = some x → K x
 tK : ∀ x, tv.ownBlock = some x → K x
structure Bb (m : Mk) (mv lv : Value) (d : List Cl) (T13 : Nat) (K : Nat → Prop) (w : World) : Prop where
 mb : MB w T13 m.b m.a mv
 mkk : Kv w mv m.k
 cw : Cw w lv d
 tK : K T13
 mK : ∀ x, mv.ownBlock = some x → K x
 lK : d ≠ [] → ∀ x, lv.ownBlock = some x → K x
section

variable {ks : List Nat} {T : List Pr} {kv tv mv lv : Value} {K K' : Nat → Prop} {w w' : World} {m : Mk} {d : List Cl} {T13 : Nat}

theorem Ba.ch (h : Ba ks T kv tv K w) (hc : Ch (fun x => ¬ K x) w w') (hK : ∀ x, K x → K' x) : Ba ks T kv tv K' w' :=
 ⟨kv_ch h.kk hc (fun x hx q => q (h.kK x hx)), qv_ch h.qq hc (fun _ x hx q => q (h.tK x hx)), fun x hx => hK x (h.kK x hx), fun x hx => hK x (h.tK x hx)⟩
theorem Ba.to {D : Nat → Prop} (h : Ba ks T kv tv K w) (hc : Ch D w w') (hk : ∀ x, kv.ownBlock = some x → ¬ D x) (ht : ∀ x, tv.ownBlock = some x → ¬ D x) (hK : ∀ x, K x → K' x) : Ba ks T kv tv K' w' :=
 ⟨kv_ch h.kk hc hk, qv_ch h.qq hc (fun _ => ht), fun x hx => hK x (h.kK x hx), fun x hx => hK x (h.tK x hx)⟩
theorem Bb.to {D : Nat → Prop} (h : Bb m mv lv d T13 K w) (hc : Ch D w w') (h1 : ¬ D T13) (h2 : ∀ x, mv.ownBlock = some x → ¬ D x) (h3 : d ≠ [] → ∀ x, lv.ownBlock = some x → ¬ D x) : Bb m mv lv d T13 K w' :=
 ⟨h.mb.ch hc h1, kv_ch h.mkk hc h2, cw_ch h.cw hc h3, h.tK, h.mK, h.lK⟩
theorem set_three (w : World) (g : Nat) (a b c : Value) : Ch (fun x => x = g) w (((w.setCell ⟨g, 0, none⟩ a).setCell ⟨g, 1, none⟩ b).setCell ⟨g, 2, none⟩ c) := ch_three (D := fun x => x = g) (Ch.refl _ _) (.inl rfl) a b c
theorem Bb.ch (h : Bb m mv lv d T13 K w) (hc : Ch (fun x => ¬ K x) w w') (hK : ∀ x, K x → K' x) : Bb m mv lv d T13 K' w' :=
 ⟨h.mb.ch hc (fun q => q h.tK), kv_ch h.mkk hc (fun x hx q => q (h.mK x hx)), cw_ch h.cw hc (fun e x hx q => q (h.lK e x hx)), hK _ h.tK, fun x hx => hK x (h.mK x hx), fun e x hx => hK x (h.lK e x hx)⟩
end

def C0 (B : Int) (ks : List Nat) (i : Nat) (m : Mk) (Ls : List (List Cl)) : Prop := Low Ls ∧ ((i = 0 ∧ (B = m.b ∨ B = m.b + 1) ∧ (m.b < B ∨ (B = m.b ∧ m.a < 99))) ∨ (i ≠ 0 ∧ m = ⟨B, 99, ks⟩))
theorem c0_next {k B : Int} {ks : List Nat} {i : Nat} {m : Mk} {Ls : List (List Cl)} {T : List Pr} (gk : Gk k m Ls) (h : C0 B ks i m Ls) (h1 : 1 ≤ B) (h2 : B ≤ 61) (ko : keysOk ks) (h64 : ks.length ≤ 64) (hr : risB ks = true) (ht : Ta k ⟨B, 99, ks⟩ T) :
  ∃ L', Low L' ∧ (i = 0 → L' = begS Ls m B) ∧ (i ≠ 0 → appA k B Ls T = (0, L') ∧ Gk k m L') := by
 obtain ⟨low, ⟨rfl, hb, hm⟩ | ⟨hi, rfl⟩⟩ := h
 ·exact ⟨_, (beg_good (a := 99) (ks := ks) gk hb h1 (sound_beg h1 (by omega) (by omega) (by omega) h64 hr) ko).2.2.2 low, fun _ => rfl, fun q => absurd rfl q⟩
 ·obtain ⟨L2, e2, g2, l2, _⟩ := app_all (k := k) (m := ⟨B, 99, ks⟩) (b := B) rfl h1 T Ls gk low ht
  exact ⟨L2, l2, fun q => absurd q hi, fun _ => ⟨e2, g2⟩⟩
def Cx (wz : World) (K : Nat → Prop) (sp sb : Nat) (k : Int) (m : Mk) (Ls : List (List Cl)) (m' : Mk) (Ls' : List (List Cl)) (N : Nat) (c : Int) (D : Bool) (w : World) : Prop :=
 (c = 0 ∧ D = false ∧ Cr wz K sp sb k m' Ls' (fun _ => True) N w) ∨ (c = 80 ∧ D = true ∧ Dr wz K sp sb k m Ls N w)
section

variable {wz w w' : World} {K K' : Nat → Prop} {sp sb : Nat} {k : Int} {m m' : Mk} {Ls Ls' : List (List Cl)} {N : Nat} {c : Int} {D : Bool}

def CxR (wz : World) (K : Nat → Prop) (sp sb : Nat) (k : Int) (m : Mk) (Ls : List (List Cl)) (m' : Mk) (Ls' : List (List Cl)) (N : Nat) (w4 : World) (ev : Value) (wx : World) : Prop :=
 ∃ c D, ev = .int .i64 c ∧ (c == 80) = D ∧ Ch (fun x => ¬ K x) w4 wx ∧ Cx wz K sp sb k m Ls m' Ls' N c D wx
def CyR (wz : World) (K : Nat → Prop) (sb : Nat) (k : Int) (m' : Mk) (Ls' : List (List Cl)) (N : Nat) (w7 : World) (T17 : Nat) (sv ev : Value) (wx : World) : Prop :=
 ∃ (sq : Nat) (b' a' : Int) (v' : Value), sv = (.pointer (some ⟨sq, 0, none⟩)) ∧ ev = .int .i64 0 ∧ Ch (fun x => ¬ K x ∨ x = T17) w7 wx ∧ MB wx T17 b' a' v' ∧ Cr wz K sq sb k m' Ls' (fun _ => True) N wx
theorem Cx.below (h : Cx wz K sp sb k m Ls m' Ls' N c D w) (hb : Below w.heap.size w w') : Cx wz (nwK K w w') sp sb k m Ls m' Ls' N c D w' := by
 rcases h with ⟨h1, h2, h⟩ | ⟨h1, h2, h⟩
 ·exact .inl ⟨h1, h2, h.below hb⟩
 ·exact .inr ⟨h1, h2, h.below hb⟩
theorem Cx.kl (h : Cx wz K sp sb k m Ls m' Ls' N c D w) : ∀ x, K x → x < w.heap.size := by
 rcases h with ⟨_, _, h⟩ | ⟨_, _, h⟩
 ·exact h.kl
 ·exact h.kl
theorem cx_mark (h : Cx wz K sp sb k m Ls m' Ls' N c D w) (hN : N < 1000000000) :
  Calls Tryz.prog 9 #[.pointer (some ⟨sp, 0, none⟩)] w fun e w' => ∃ (b a : Int) (x : Option Addr) (y z : Nat), e = .returned (.tuple #[.agg #[.int .i64 b, .int .i64 a, .slice x y z], .int .i64 c]) ∧ Ch (fun x => ¬ K x) w w' ∧ Cx wz (nwK K w w') sp sb k m Ls m' Ls' (N + 1) c D w' := by
 rcases h with ⟨rfl, rfl, h⟩ | ⟨rfl, rfl, h⟩
 ·refine (cr_mark h hN).mono ?_
  rintro e w1 ⟨v, rfl, hv, _, hc, hr⟩
  obtain ⟨x, y, z, rfl⟩ := sv_any hv
  exact ⟨m'.b, m'.a, x, y, z, rfl, hc, .inl ⟨rfl, rfl, hr⟩⟩
 ·refine (dr_mark h hN).mono ?_
  rintro e w1 ⟨x, y, z, rfl, hc, hr⟩
  exact ⟨0, 0, x, y, z, rfl, hc, .inr ⟨rfl, rfl, hr⟩⟩
theorem cx_down (h : Cx wz K sp sb k m Ls m' Ls' N c D w) : Calls Tryz.prog 14 #[.pointer (some ⟨sb, 0, none⟩)] w fun e w' => e = .returned (.bool D) ∧ w' = w := by
 rcases h with ⟨rfl, rfl, h⟩ | ⟨rfl, rfl, h⟩
 ·exact cr_down h
 ·exact dr_down h
theorem cx_ended (h : Cx wz K sp sb k m Ls m' Ls' N c D w) : Calls Tryz.prog 15 #[.pointer (some ⟨sp, 0, none⟩)] w fun e w' => e = .returned (.bool D) ∧ w' = w := by
 rcases h with ⟨rfl, rfl, h⟩ | ⟨rfl, rfl, h⟩
 ·exact cr_ended h
 ·exact dr_ended h
theorem cx_of {e : Ending} (h : CgK wz K sp sb k m Ls m' Ls' N w e w') : ∃ c D, e = .returned (.int .i64 c) ∧ (c == 80) = D ∧ Ch (fun x => ¬ K x) w w' ∧ Cx wz K sp sb k m Ls m' Ls' (N + 17) c D w' := by
 obtain ⟨hc, ⟨rfl, h⟩ | ⟨rfl, h⟩⟩ := h
 ·exact ⟨0, false, rfl, rfl, hc, .inl ⟨rfl, rfl, h⟩⟩
 ·exact ⟨80, true, rfl, rfl, hc, .inr ⟨rfl, rfl, h⟩⟩
end

theorem crash_walk {k cut : Int} {w : World} {jv : Value} {jobs : List Jb} (hj : Jv w jv jobs) :
  Calls Tryz.prog 3 #[.int .i64 k, jv, .int .i64 cut] w fun e w' => e = .returned (.bool true) ∧ Below w.heap.size w w' := by
 have HJ : Hid (Jv w jv jobs) := hj
 obtain ⟨⟨ja, jn, jc, rfl⟩⟩ : Nonempty (∃ x y z, jv = .slice x y z) := by obtain ⟨x, z, e, _⟩ := hj; exact ⟨x, _, z, e⟩
 obtain ⟨U, hU⟩ : ∃ U : Nat, IntKind.u64.wrap cut = (U : Int) := ⟨(IntKind.u64.wrap cut).toNat, by rw [IntKind.wrap_u64]; omega⟩
 have hU64 : U < 18446744073709551616 := by rw [IntKind.wrap_u64] at hU; omega
 obtain ⟨q, hq⟩ : ∃ q : Nat, q = U % 40 := ⟨_, rfl⟩
 obtain ⟨z, hz⟩ : ∃ z : Nat, z = U % 9 := ⟨_, rfl⟩
 have hq40 : ((U : Int)).tmod 40 = (q : Int) := by rw [Int.tmod_eq_emod_of_nonneg (by omega)]; omega
 have hz9 : ((U : Int)).tmod 9 = (z : Int) := by rw [Int.tmod_eq_emod_of_nonneg (by omega)]; omega
 have hq40' : ((U : Int)) % 40 = (q : Int) := by omega
 have hz9' : ((U : Int)) % 9 = (z : Int) := by omega
 have hzw : IntKind.i64.wrap (z : Int) = (z : Int) := by rw [IntKind.wrap_i64]; omega
 have HQ : Hid (q < 40) := by show _ < _; omega
 have HZ : Hid ((z : Int) < 9223372036854775808) := by show _ < _; omega
 clear hj hU64 hq hz
 go_in
 go_wp2_with fail
 refine (awake_walkS w).mono ?_
 rintro e w1 ⟨rfl, hb1⟩
 have HB1 := hidH hb1
 clear hb1
 obtain ⟨KN, hK⟩ : ∃ K, K = knownB k := ⟨_, rfl⟩
 have HK : Hid (KN = knownB k) := hK
 clear hK
 go_wp2_with fail
 refine (known_walk k w1).mono ?_
 rw [← HK.out]
 rintro e w2 ⟨rfl, hw2⟩
 replace hw2 := hw2.symm
 subst hw2
 cases KN
 ·go_wp2_with fail
  go_ret
  exact ⟨rfl, HB1.out⟩
 go_wp2_with fail
 refine (rowed_walk HK.out.symm (HJ.out.below HB1.out)).mono ?_
 obtain ⟨js, hjs⟩ : ∃ js, js = jobs.take 60 := ⟨_, rfl⟩
 have HJ60 : Hid (js.length ≤ 60) := by rw [hjs, List.length_take]; show _ ≤ _; omega
 rw [← hjs]
 clear hjs
 rintro e w3 ⟨sp, sb, rfl, A3, P3, S3, m3, L3, hrw, hA3, hsp, hcn, hbl, hb3⟩
 obtain ⟨B, hB⟩ : ∃ B, B = rowB js := ⟨_, rfl⟩
 rw [List.take_length, ← hB] at hrw
 rw [← hB]
 have HBB : Hid (1 ≤ B ∧ B ≤ 61) := by
  have h1 := rowB_le js
  have h2 := HJ60.out
  have h3 : 1 ≤ rowB js := by unfold rowB; omega
  exact ⟨by omega, by omega⟩
 have HRW := hidH hrw
 have HC3 := hidH hcn
 have HA3 : Hid (∀ x, A3 x → w.heap.size ≤ x) := fun x hx => Nat.le_trans HB1.out.size (hA3 x hx)
 have HW3 := hidH (below_trans HB1.out hb3)
 have HRV : Hid (Rv (w3.alloc (Obj.cells #[.int .u64 3, .float .f64 4617315517961601024, .int .u64 31, .float .f64 13835058055282163712, .int .u64 q, .float .f64 4607182418800017408] 36)) (.slice (some ⟨w3.heap.size, 0, none⟩) 3 3) [⟨3, 4617315517961601024⟩, ⟨31, 13835058055282163712⟩, ⟨q, 4607182418800017408⟩]) := rv_3 w3 ⟨3, 4617315517961601024⟩ ⟨31, 13835058055282163712⟩ ⟨q, 4607182418800017408⟩ ⟨by show (3 : Nat) < _; decide, by show (4617315517961601024 : Nat) < _; decide⟩ ⟨by show (31 : Nat) < _; decide, by show (13835058055282163712 : Nat) < _; decide⟩ ⟨by have := HQ.out; show q < _; omega, by show (4607182418800017408 : Nat) < _; decide⟩
 have HNIL : Hid (Kv (w3.alloc (Obj.cells #[.int .u64 3, .float .f64 4617315517961601024, .int .u64 31, .float .f64 13835058055282163712, .int .u64 q, .float .f64 4607182418800017408] 36)) (.slice none 0 0) []) := Sv.nil .u64 _
 have HB4 : Hid (Below w3.heap.size w3 (w3.alloc (Obj.cells #[.int .u64 3, .float .f64 4617315517961601024, .int .u64 31, .float .f64 13835058055282163712, .int .u64 q, .float .f64 4607182418800017408] 36))) := below_alloc _ _
 clear hrw hA3 hsp hcn hbl hb3 hB
 go_wp2_with fail
 refine (part_walk HK.out.symm HRV.out HNIL.out false false).mono ?_
 obtain ⟨recs, hrecs⟩ : ∃ recs, recs = ([⟨3, 4617315517961601024⟩, ⟨31, 13835058055282163712⟩, ⟨q, 4607182418800017408⟩] : List Rcd) := ⟨_, rfl⟩
 have HROK : Hid (∀ r ∈ recs, r.ok) := by rw [hrecs]; exact HRV.out.2
 rw [← hrecs]
 rintro e w5 ⟨tv, kv, rfl, hqv, hqb, hkv, hb5⟩
 obtain ⟨T, hT⟩ : ∃ T, T = ptT k recs := ⟨_, rfl⟩
 obtain ⟨ks, hks⟩ : ∃ ks, ks = ptK k recs [] := ⟨_, rfl⟩
 have HTA : Hid (Ta k ⟨(B : Nat), 99, ks⟩ T) := by rw [hT, hks]; exact pt_ta HK.out.symm HROK.out _ _ _
 have HKS : Hid (keysOk ks ∧ ks.length ≤ 64 ∧ risB ks = true) := by rw [hks]; exact ⟨ptK_ok _ _ _, ptK_len _ _ _, ptK_ris _ _ _⟩
 rw [← hT] at hqv
 rw [← hks] at hkv
 have HKV : Hid (Kv w5 kv ks) := own_sv hkv
 obtain ⟨ta, tn, tc, rfl⟩ : ∃ x y z, tv = .slice x y z := by obtain ⟨⟨x, z, e, _⟩, _⟩ := id hqv; exact ⟨x, _, z, e⟩
 obtain ⟨ka, kn, kc, rfl⟩ := sv_any HKV.out
 have HB35 := hidH (below_trans HB4.out hb5)
 obtain ⟨K0, hK0⟩ : ∃ K0 : Nat → Prop, K0 = fun x => (Value.slice ka kn kc).ownBlock = some x ∨ (Value.slice ta tn tc).ownBlock = some x := ⟨_, rfl⟩
 have HKL : Hid (∀ x, K0 x → w3.heap.size ≤ x ∧ x < w5.heap.size) := by
  rw [hK0]
  rintro x (h | h)
  ·have := hkv.lt x h; have h2 := HB4.out.size; exact ⟨by omega, this.2⟩
  ·have := hqb x h; have h2 := HB4.out.size; exact ⟨by omega, this.2⟩
 have HBA : Hid (Ba ks T (.slice ka kn kc) (.slice ta tn tc) K0 w5) := ⟨HKV.out, hqv, fun x hx => by rw [hK0]; exact .inl hx, fun x hx => by rw [hK0]; exact .inr hx⟩
 have HCR : Hid (Cr w K0 sp sb k m3 L3 (fun x => x = -1) 2060 w5) := by
  have hA : ∀ x, A3 x → x < w3.heap.size := fun x hx => HRW.out.rs.st.lt hx
  refine ⟨A3, P3, S3, (HRW.out.rs.below HB35.out).x, HRW.out.rs.lf, by have h1 := HC3.out; have h2 := HJ60.out; omega, ⟨fun x hx hA' => by have h1 := HKL.out x hx; have h2 := hA x hA'; omega, fun x hx => (HKL.out x hx).2, fun x hx => by have h1 := HKL.out x hx; have h2 := HW3.out.size; omega, HA3.out, below_trans HW3.out HB35.out⟩, fun hx => by have h1 := HKL.out _ hx; have h2 := HRW.out.rs.st.pl2; omega⟩
 have HC0 : Hid (C0 (B : Nat) ks 0 m3 L3) := by
  have h1 := HRW.out.mb
  have h2 := HRW.out.ma
  have h3 := HJ60.out
  exact ⟨HRW.out.low, .inl ⟨rfl, by omega, by omega⟩⟩
 have hb1i : (1 : Int) ≤ (B : Int) := by have := HBB.out; omega
 have hb2i : (B : Int) ≤ 61 := by have := HBB.out; omega
 clear hqv hqb hkv hb5 hT hks hK0 hrecs HRV HNIL HKV HRW HC3 HA3 HW3 HB4 HB35 HROK hq40 hq40'
 go_wp2_with fail
 go_loopw [8, 12] (fun sv iv wr => ∃ i : Nat, iv = .int .i64 i ∧ i ≤ 2 ∧ ∃ sp m Ls, sv = (.pointer (some ⟨sp, 0, none⟩)) ∧ Ba ks T (.slice ka kn kc) (.slice ta tn tc) K0 wr ∧ Cr w K0 sp sb k m Ls (fun x => x = -1) (2060 + 200 * i) wr ∧ C0 (B : Nat) ks i m Ls) (fun _ iv _ => 2 - (intOf iv).toNat)
 case atStart => exact ⟨0, rfl, by omega, sp, m3, L3, rfl, HBA.out, HCR.out, HC0.out⟩
 case round =>
  obtain ⟨i, rfl, hi, sp, m, Ls, rfl, hba, hcr, hc0⟩ := hrel
  have HA0 := hidH hba
  have HR0 : Hid (Cr w K0 sp sb k m Ls (fun x => x = -1) (2060 + 200 * i) wr) := hcr
  have HC := hidH hc0
  have HK0K : Hid ((∀ x, (Value.slice ka kn kc).ownBlock = some x → K0 x) ∧ (∀ x, (Value.slice ta tn tc).ownBlock = some x → K0 x)) := ⟨hba.kK, hba.tK⟩
  clear hba hcr hc0 HBA HCR HC0 HKL
  by_cases hlt : i < 2
  rotate_left
  ·have hlti : ¬ (i : Int) < 2 := by omega
   go_wp2_with fail
   go_ret
   exact ⟨rfl, HR0.out.bw⟩
  have hlti : (i : Int) < 2 := by omega
  obtain ⟨L', hLow, hL0, hL1⟩ := c0_next HR0.out.gk HC.out hb1i hb2i HKS.out.1 HKS.out.2.1 HKS.out.2.2 HTA.out
  have HLOW : Hid (Low L') := hLow
  have HL0 : Hid (i = 0 → L' = begS Ls m (B : Nat)) := hL0
  have HL1 : Hid (i ≠ 0 → appA k (B : Nat) Ls T = (0, L') ∧ Gk k m L') := hL1
  have HGK : Hid (Gk k m Ls) := HR0.out.gk
  clear hLow hL0 hL1
  obtain ⟨M, hM⟩ : ∃ M, M = 2060 + 200 * i := ⟨_, rfl⟩
  have HMM : Hid (M = 2060 + 200 * i) := hM
  have HM5 : Hid (M < 5000) := by show _ < _; omega
  rw [← hM] at HR0
  clear hM
  go_wp2_with fail
  refine (cr_mark HR0.out (by have := HM5.out; omega)).mono ?_
  rintro e w1 ⟨mv, rfl, hmk, hmK, hc, hr⟩
  obtain ⟨va, vn, vc, rfl⟩ := sv_any hmk
  have HA1 : Hid (Ba ks T (.slice ka kn kc) (.slice ta tn tc) (nwK K0 wr w1) w1) := HA0.out.ch hc (fun x h => .inl h)
  have HR1 : Hid (Cr w (nwK K0 wr w1) sp sb k m Ls (fun x => x = -1) (M + 1) w1) := hr
  have HMK := hidH hmk
  have HMKK : Hid (∀ x, (Value.slice va vn vc).ownBlock = some x → nwK K0 wr w1 x) := fun x hx => .inr (hmK x hx)
  obtain ⟨K1, hK1⟩ : ∃ K1, K1 = nwK K0 wr w1 := ⟨_, rfl⟩
  have H01 : Hid (∀ x, K0 x → K1 x) := fun x h => by rw [hK1]; exact .inl h
  rw [← hK1] at HA1 HR1 HMKK
  clear hmk hmK hc hr hK1 HA0 HR0
  go_upto_region 13 with fail
  have HB2 : Hid (Below w1.heap.size w1 (w1.alloc (Obj.cells #[.int .i64 m.b, .int .i64 m.a, .slice va vn vc] 42))) := below_alloc _ _
  have HM2 : Hid (MB (w1.alloc (Obj.cells #[.int .i64 m.b, .int .i64 m.a, .slice va vn vc] 42)) w1.heap.size m.b m.a (.slice va vn vc)) := mb_new w1 m.b m.a (.slice va vn vc)
  have HLT2 : Hid (w1.heap.size < (w1.alloc (Obj.cells #[.int .i64 m.b, .int .i64 m.a, .slice va vn vc] 42)).heap.size) := by rw [size_allocC]; show _ < _; omega
  obtain ⟨T13, hT13⟩ : ∃ T, T = w1.heap.size := ⟨_, rfl⟩
  have HT13 : Hid (T13 = w1.heap.size) := hT13
  rw [← hT13] at HM2 ⊢
  clear hT13
  generalize (w1.alloc (Obj.cells #[.int .i64 m.b, .int .i64 m.a, .slice va vn vc] 42)) = w2 at HB2 HM2 HLT2 ⊢
  obtain ⟨K2, hK2⟩ : ∃ K2, K2 = nwK K1 w1 w2 := ⟨_, rfl⟩
  have H12 : Hid (∀ x, K1 x → K2 x) := fun x h => by rw [hK2]; exact .inl h
  have HA2 : Hid (Ba ks T (.slice ka kn kc) (.slice ta tn tc) K2 w2) := by rw [hK2]; exact HA1.out.ch (Ch.of_below HB2.out) (fun x h => .inl h)
  have HR2 : Hid (Cr w K2 sp sb k m Ls (fun x => x = -1) (M + 1) w2) := by rw [hK2]; exact HR1.out.below HB2.out
  have HTK : Hid (K2 T13) := by rw [hK2]; exact .inr ⟨by rw [HT13.out]; exact Nat.le_refl _, by rw [HT13.out]; exact HLT2.out⟩
  have HMK2 : Hid (Kv w2 (.slice va vn vc) m.k ∧ ∀ x, (Value.slice va vn vc).ownBlock = some x → K2 x) := ⟨HMK.out.below HB2.out, fun x hx => H12.out x (HMKK.out x hx)⟩
  clear hK2 HA1 HR1 HMK HMKK HB2
  go_wp2_with fail
  refine (cr_cells HR2.out (by have := HM5.out; omega)).mono ?_
  rintro e w3 ⟨lv, d, rfl, hsr, hcw, hlK, hc, hr⟩
  have HSR : Hid (SrtOf Ls.flatten d) := hsr
  obtain ⟨K3, hK3⟩ : ∃ K3, K3 = nwK K2 w2 w3 := ⟨_, rfl⟩
  rw [← hK3] at hlK hr
  have H23 : ∀ x, K2 x → K3 x := fun x h => by rw [hK3]; exact .inl h
  have H03 : Hid (∀ x, K0 x → K3 x) := fun x h => H23 x (H12.out x (H01.out x h))
  have HA3 : Hid (Ba ks T (.slice ka kn kc) (.slice ta tn tc) K3 w3) := HA2.out.ch hc H23
  have HE3 : Hid (Bb m (.slice va vn vc) lv d T13 K3 w3) := ⟨HM2.out.ch hc (fun q => q HTK.out), kv_ch HMK2.out.1 hc (fun x hx q => q (HMK2.out.2 x hx)), hcw, H23 _ HTK.out, fun x hx => H23 x (HMK2.out.2 x hx), hlK⟩
  have HR3 : Hid (Cr w K3 sp sb k m Ls (fun x => x = -1) (M + 1 + 6) w3) := hr
  obtain ⟨la, ln, lc, rfl⟩ : ∃ x y z, lv = .slice x y z := by obtain ⟨x, z, e, _⟩ := hcw; exact ⟨x, _, z, e⟩
  clear hsr hcw hlK hc hr hK3 H23 HA2 HR2 HTK HMK2 HM2 H01 H12 HLT2
  go_wp2_with fail
  refine (cr_cut HR3.out HZ.out).mono ?_
  rintro e w4 ⟨rfl, hc, hr⟩
  have HA4 : Hid (Ba ks T (.slice ka kn kc) (.slice ta tn tc) K3 w4) := HA3.out.ch hc (fun _ h => h)
  have HE4 : Hid (Bb m (.slice va vn vc) (.slice la ln lc) d T13 K3 w4) := HE3.out.ch hc (fun _ h => h)
  have HR4 := hidH hr
  clear hc hr HA3 HE3 HR3
  go_upto_if 79 with fail
  go_cut [16] (fun ev wx => CxR w K3 sp sb k m Ls ⟨(B : Nat), 99, ks⟩ L' (M + 1 + 6 + 17) w4 ev wx)
  case first =>
   by_cases hz : i = 0
   ·have hzb : ((i : Int) == 0) = true := by rw [beq_iff_eq]; omega
    obtain ⟨-, ⟨-, hmb, hmm⟩ | ⟨hn, -⟩⟩ := HC.out
    rotate_left
    ·exact absurd hz hn
    have HMB : Hid ((((B : Nat) : Int) = m.b ∨ ((B : Nat) : Int) = m.b + 1) ∧ (m.b < ((B : Nat) : Int) ∨ (((B : Nat) : Int) = m.b ∧ m.a < 99))) := ⟨hmb, hmm⟩
    clear hmb hmm
    have HE : Hid (L' = begS Ls m (B : Nat)) := HL0.out hz
    clear hz
    go_simp
    go_wp2_with fail
    refine (cr_begin HR4.out (by have := HM5.out; omega) HA4.out.kk HKS.out.1 HA4.out.kK (b := (B : Nat)) (a := 99) HMB.out.1 hb1i (by omega) (by omega) (by omega) HKS.out.2.1 HKS.out.2.2 HMB.out.2).mono ?_
    rw [← HE.out]
    rintro e w5 ⟨hg, _⟩
    obtain ⟨c, D, rfl, h1, h2, h3⟩ := cx_of hg
    have HX : Hid (((c == 80) = D) ∧ Ch (fun x => ¬ K3 x) w4 w5 ∧ Cx w K3 sp sb k m Ls ⟨(B : Nat), 99, ks⟩ L' (M + 1 + 6 + 17) c D w5) := ⟨h1, h2, h3⟩
    clear hg h1 h2 h3
    go_wp2_with fail
    go_meet
    exact ⟨c, D, rfl, HX.out⟩
   ·have hzb : ((i : Int) == 0) = false := by rw [beq_eq_false_iff_ne]; omega
    obtain ⟨-, ⟨hn, -⟩ | ⟨-, rfl⟩⟩ := HC.out
    ·exact absurd hn hz
    have HE : Hid (appA k (B : Nat) Ls T = (0, L') ∧ Gk k ⟨(B : Nat), 99, ks⟩ L') := HL1.out hz
    clear hz
    go_simp
    go_wp2_with fail
    refine (cr_apply HR4.out (by have := HM5.out; omega) HA4.out.qq HA4.out.tK hb1i (by show (1 : Int) ≤ 99; omega) HTA.out ⟨L', HE.out⟩).mono ?_
    rw [HE.out.1]
    rintro e w5 ⟨hg, _⟩
    obtain ⟨c, D, rfl, h1, h2, h3⟩ := cx_of hg
    have HX : Hid (((c == 80) = D) ∧ Ch (fun x => ¬ K3 x) w4 w5 ∧ Cx w K3 sp sb k ⟨(B : Nat), 99, ks⟩ Ls ⟨(B : Nat), 99, ks⟩ L' (M + 1 + 6 + 17) c D w5) := ⟨h1, h2, h3⟩
    clear hg h1 h2 h3
    go_wp2_with fail
    go_meet
    exact ⟨c, D, rfl, HX.out⟩
  case rest =>
   obtain ⟨c, D, rfl, hcD, hc, hx⟩ := hcut
   have HA5 : Hid (Ba ks T (.slice ka kn kc) (.slice ta tn tc) K3 wc) := HA4.out.ch hc (fun _ h => h)
   have HE5 : Hid (Bb m (.slice va vn vc) (.slice la ln lc) d T13 K3 wc) := HE4.out.ch hc (fun _ h => h)
   have HX5 := hidH hx
   clear hc hx HA4 HE4 HR4
   obtain ⟨wf, hwf⟩ : ∃ wf, wf = wc := ⟨_, rfl⟩
   subst hwf
   go_wp2_with fail
   refine (cx_mark HX5.out (by have := HM5.out; omega)).mono ?_
   rintro e w6 ⟨nb, na, nx, ny, nz, rfl, hc, hx⟩
   obtain ⟨K6, hK6⟩ : ∃ K6, K6 = nwK K3 wf w6 := ⟨_, rfl⟩
   have H36 : ∀ x, K3 x → K6 x := fun x h => by rw [hK6]; exact .inl h
   rw [← hK6] at hx
   have HA6 : Hid (Ba ks T (.slice ka kn kc) (.slice ta tn tc) K6 w6) := HA5.out.ch hc H36
   have HE6 : Hid (Bb m (.slice va vn vc) (.slice la ln lc) d T13 K6 w6) := HE5.out.ch hc H36
   have HX6 := hidH hx
   have H06 : Hid (∀ x, K0 x → K6 x) := fun x h => H36 x (H03.out x h)
   clear hc hx hK6 H36 HA5 HE5 HX5 H03
   go_upto_region 21 with fail
   have HB7 : Hid (Below w6.heap.size w6 (w6.alloc (Obj.cells #[.int .i64 nb, .int .i64 na, .slice nx ny nz] 42))) := below_alloc _ _
   have HM7 : Hid (MB (w6.alloc (Obj.cells #[.int .i64 nb, .int .i64 na, .slice nx ny nz] 42)) w6.heap.size nb na (.slice nx ny nz)) := mb_new w6 nb na (.slice nx ny nz)
   have HLT7 : Hid (w6.heap.size < (w6.alloc (Obj.cells #[.int .i64 nb, .int .i64 na, .slice nx ny nz] 42)).heap.size) := by rw [size_allocC]; show _ < _; omega
   obtain ⟨T17, hT17⟩ : ∃ T, T = w6.heap.size := ⟨_, rfl⟩
   have HT17 : Hid (T17 = w6.heap.size) := hT17
   rw [← hT17] at HM7 ⊢
   clear hT17
   generalize (w6.alloc (Obj.cells #[.int .i64 nb, .int .i64 na, .slice nx ny nz] 42)) = w7 at HB7 HM7 HLT7 ⊢
   obtain ⟨K7, hK7⟩ : ∃ K7, K7 = nwK K6 w6 w7 := ⟨_, rfl⟩
   have H67 : ∀ x, K6 x → K7 x := fun x h => by rw [hK7]; exact .inl h
   have HA7 : Hid (Ba ks T (.slice ka kn kc) (.slice ta tn tc) K7 w7) := HA6.out.ch (Ch.of_below HB7.out) H67
   have HE7 : Hid (Bb m (.slice va vn vc) (.slice la ln lc) d T13 K7 w7) := HE6.out.ch (Ch.of_below HB7.out) H67
   have HX7 : Hid (Cx w K7 sp sb k m Ls ⟨(B : Nat), 99, ks⟩ L' (M + 1 + 6 + 17 + 1) c D w7) := by rw [hK7]; exact HX6.out.below HB7.out
   have HTK : Hid (K7 T17) := by rw [hK7]; exact .inr ⟨by rw [HT17.out]; exact Nat.le_refl _, by rw [HT17.out]; exact HLT7.out⟩
   have H07 : Hid (∀ x, K0 x → K7 x) := fun x h => H67 x (H06.out x h)
   have HKN : Hid (∀ x, K6 x → x ≠ T17) := fun x hx e => by have h1 := HX6.out.kl x hx; have h2 := HT17.out; omega
   have HN17 : Hid ((∀ x, (Value.slice ka kn kc).ownBlock = some x → x ≠ T17) ∧ (∀ x, (Value.slice ta tn tc).ownBlock = some x → x ≠ T17) ∧ T13 ≠ T17 ∧ (∀ x, (Value.slice va vn vc).ownBlock = some x → x ≠ T17) ∧ (d ≠ [] → ∀ x, (Value.slice la ln lc).ownBlock = some x → x ≠ T17)) := ⟨fun x hx => HKN.out x (HA6.out.kK x hx), fun x hx => HKN.out x (HA6.out.tK x hx), HKN.out _ HE6.out.tK, fun x hx => HKN.out x (HE6.out.mK x hx), fun e x hx => HKN.out x (HE6.out.lK e x hx)⟩
   have HT7 : Hid (T17 < w7.heap.size) := by show _ < _; rw [HT17.out]; exact HLT7.out
   clear hK7 H67 HA6 HE6 HX6 H06 HB7 HLT7 HT17 HKN
   go_wp2_with fail
   refine (cx_down HX7.out).mono ?_
   rintro e wy ⟨rfl, hwy⟩
   replace hwy := hwy.symm
   subst hwy
   go_wp2_with fail
   refine (cx_down HX7.out).mono ?_
   rintro e wy ⟨rfl, hwy⟩
   replace hwy := hwy.symm
   subst hwy
   go_wp2_with fail
   refine (cx_ended HX7.out).mono ?_
   rintro e wy ⟨rfl, hwy⟩
   replace hwy := hwy.symm
   subst hwy
   go_wp2_with fail
   refine (cx_down HX7.out).mono ?_
   rintro e wy ⟨rfl, hwy⟩
   replace hwy := hwy.symm
   subst hwy
   go_upto_if 113 with fail
   go_cut [8, 16] (fun sv ev wx => CyR w K7 sb k ⟨(B : Nat), 99, ks⟩ L' (M + 100) w7 T17 sv ev wx)
   case first =>
    rcases HX7.out with ⟨rfl, rfl, hcr⟩ | ⟨rfl, rfl, hdr⟩
    ·have HY : Hid (Cr w K7 sp sb k ⟨(B : Nat), 99, ks⟩ L' (fun _ => True) (M + 100) w7) := hcr.mono (fun _ h => h) (fun _ h => h) (by omega)
     clear hcr
     go_wp2_with fail
     go_meet
     exact ⟨sp, nb, na, _, rfl, rfl, Ch.refl _ _, HM7.out, HY.out⟩
    ·have HD7 := hidH hdr
     clear hdr
     go_wp2_with fail
     refine (dr_on HD7.out).mono ?_
     rintro e w8 ⟨rfl, hc, hd⟩
     have HA8 : Hid (Ba ks T (.slice ka kn kc) (.slice ta tn tc) K7 w8) := HA7.out.ch hc (fun _ h => h)
     have HE8 : Hid (Bb m (.slice va vn vc) (.slice la ln lc) d T13 K7 w8) := HE7.out.ch hc (fun _ h => h)
     have HM8 : Hid (MB w8 T17 nb na (.slice nx ny nz)) := HM7.out.ch hc (fun q => q HTK.out)
     have HD8 := hidH hd
     have HW8 : Hid (Ch (fun x => ¬ K7 x ∨ x = T17) w7 w8) := ch_up hc (fun x h => .inl h)
     clear hc hd HD7
     go_wp2_with fail
     refine (dd_open HD8.out (by have := HM5.out; omega)).mono ?_
     rintro e w9 ⟨sq, rfl, hc, hr⟩
     have HA9 : Hid (Ba ks T (.slice ka kn kc) (.slice ta tn tc) K7 w9) := HA8.out.ch hc (fun _ h => h)
     have HE9 : Hid (Bb m (.slice va vn vc) (.slice la ln lc) d T13 K7 w9) := HE8.out.ch hc (fun _ h => h)
     have HM9 : Hid (MB w9 T17 nb na (.slice nx ny nz)) := HM8.out.ch hc (fun q => q HTK.out)
     have HW9 : Hid (Ch (fun x => ¬ K7 x ∨ x = T17) w7 w9) := HW8.out.self (ch_up hc (fun x h => .inl h))
     have HR9 : Hid (Cr w K7 sq sb k m Ls (fun x => x = -1) (M + 34) w9) := hr.mono (fun _ h => h) (fun _ h => h) (by omega)
     clear hc hr HA8 HE8 HM8 HW8 HD8
     go_wp2_with fail
     refine (cr_mark HR9.out (by have := HM5.out; omega)).mono ?_
     rintro e wa ⟨nv, rfl, hmk, hmK, hc, hr⟩
     obtain ⟨xa, xn, xc, rfl⟩ := sv_any hmk
     obtain ⟨K8, hK8⟩ : ∃ K8, K8 = nwK K7 w9 wa := ⟨_, rfl⟩
     rw [← hK8] at hr
     have H78 : ∀ x, K7 x → K8 x := fun x h => by rw [hK8]; exact .inl h
     have HAa : Hid (Ba ks T (.slice ka kn kc) (.slice ta tn tc) K8 wa) := HA9.out.ch hc H78
     have HEa : Hid (Bb m (.slice va vn vc) (.slice la ln lc) d T13 K8 wa) := HE9.out.ch hc H78
     have HMa : Hid (MB wa T17 nb na (.slice nx ny nz)) := HM9.out.ch hc (fun q => q HTK.out)
     have HWa : Hid (Ch (fun x => ¬ K7 x ∨ x = T17) w7 wa) := HW9.out.self (ch_up hc (fun x h => .inl h))
     have HRa : Hid (Cr w K8 sq sb k m Ls (fun x => x = -1) (M + 34 + 1) wa) := hr
     have HKa : Hid (Kv wa (.slice xa xn xc) m.k ∧ (∀ x, (Value.slice xa xn xc).ownBlock = some x → K8 x ∧ x ≠ T17)) := ⟨hmk, fun x hx => ⟨by rw [hK8]; exact .inr (hmK x hx), fun e => by have h1 := hmK x hx; have h2 := HT7.out; have h3 := HW9.out.size; omega⟩⟩
     have HTK8 : Hid (K8 T17) := H78 _ HTK.out
     have HK78 := hidH H78
     clear hmk hmK hc hr hK8 H78 HA9 HE9 HM9 HW9 HR9
     obtain ⟨g0, g1, g2, gz⟩ := HMa.out
     have z0 := gz 0
     have z1 := gz 1
     have z2 := gz 2
     clear gz
     go_upto_region 29 with fail
     clear z0 z1 z2 g0 g1 g2
     have HCb : Hid (Ch (fun x => x = T17) wa (((wa.setCell ⟨T17, 0, none⟩ (.int .i64 m.b)).setCell ⟨T17, 1, none⟩ (.int .i64 m.a)).setCell ⟨T17, 2, none⟩ (.slice xa xn xc))) := set_three wa T17 _ _ _
     have HMb : Hid (MB (((wa.setCell ⟨T17, 0, none⟩ (.int .i64 m.b)).setCell ⟨T17, 1, none⟩ (.int .i64 m.a)).setCell ⟨T17, 2, none⟩ (.slice xa xn xc)) T17 m.b m.a (.slice xa xn xc)) := ((HMa.out.set0 m.b).set1 m.a).set2 _
     have HRb : Hid (Cr w K8 sq sb k m Ls (fun x => x = -1) (M + 34 + 1) (((wa.setCell ⟨T17, 0, none⟩ (.int .i64 m.b)).setCell ⟨T17, 1, none⟩ (.int .i64 m.a)).setCell ⟨T17, 2, none⟩ (.slice xa xn xc))) := ((HRa.out.set HTK8.out).set HTK8.out).set HTK8.out
     generalize (((wa.setCell ⟨T17, 0, none⟩ (.int .i64 m.b)).setCell ⟨T17, 1, none⟩ (.int .i64 m.a)).setCell ⟨T17, 2, none⟩ (.slice xa xn xc)) = wb at HCb HMb HRb ⊢
     have HAb : Hid (Ba ks T (.slice ka kn kc) (.slice ta tn tc) K8 wb) := HAa.out.to HCb.out HN17.out.1 HN17.out.2.1 (fun _ h => h)
     have HEb : Hid (Bb m (.slice va vn vc) (.slice la ln lc) d T13 K8 wb) := HEa.out.to HCb.out HN17.out.2.2.1 HN17.out.2.2.2.1 HN17.out.2.2.2.2
     have HKb : Hid (Kv wb (.slice xa xn xc) m.k) := kv_ch HKa.out.1 HCb.out (fun x hx => (HKa.out.2 x hx).2)
     have HWb : Hid (Ch (fun x => ¬ K7 x ∨ x = T17) w7 wb) := HWa.out.self (ch_up HCb.out (fun x h => .inr h))
     clear HAa HEa HMa HWa HRa HCb
     go_wp2_with fail
     refine (cr_cells HRb.out (by have := HM5.out; omega)).mono ?_
     rintro e wd ⟨kw, d2, rfl, hsr, hcw, hlK, hc, hr⟩
     obtain rfl : d2 = d := srt_eq HGK.out.gd.pok.1 HGK.out.lk hsr HSR.out
     obtain ⟨K9, hK9⟩ : ∃ K9, K9 = nwK K8 wb wd := ⟨_, rfl⟩
     rw [← hK9] at hr
     have H89 : ∀ x, K8 x → K9 x := fun x h => by rw [hK9]; exact .inl h
     have HAd : Hid (Ba ks T (.slice ka kn kc) (.slice ta tn tc) K9 wd) := HAb.out.ch hc H89
     have HEd : Hid (Bb m (.slice va vn vc) (.slice la ln lc) d2 T13 K9 wd) := HEb.out.ch hc H89
     have HMd : Hid (MB wd T17 m.b m.a (.slice xa xn xc)) := HMb.out.ch hc (fun q => q HTK8.out)
     have HKd : Hid (Kv wd (.slice xa xn xc) m.k) := kv_ch HKb.out hc (fun x hx q => q (HKa.out.2 x hx).1)
     have HWd : Hid (Ch (fun x => ¬ K7 x ∨ x = T17) w7 wd) := HWb.out.self (ch_up hc (fun x h => .inl (fun q => h (HK78.out x q))))
     have HRd : Hid (Cr w K9 sq sb k m Ls (fun x => x = -1) (M + 34 + 1 + 6) wd) := hr
     have HCWd : Hid (Cw wd kw d2) := hcw
     have HT9 : Hid (K9 T17 ∧ ∀ x, K7 x → K9 x) := ⟨H89 _ HTK8.out, fun x h => H89 x (HK78.out x h)⟩
     obtain ⟨ya, yn, yc, rfl⟩ : ∃ x y z, kw = .slice x y z := by obtain ⟨x, z, e, _⟩ := hcw; exact ⟨x, _, z, e⟩
     clear hsr hcw hlK hc hr hK9 H89 HAb HEb HMb HKb HWb HRb HTK8 HK78 HKa
     obtain ⟨c0, c1, c2, _⟩ := HMd.out
     obtain ⟨f0, f1, f2, _⟩ := HEd.out.mb
     go_wp2_with fail
     refine (marks_same HKd.out HEd.out.mkk m.b m.a).mono ?_
     rintro e we ⟨rfl, hb⟩
     have HBe := hidH hb
     clear hb c0 c1 c2 f0 f1 f2
     go_wp2_with fail
     refine (cells_same (cw_below HCWd.out HBe.out) (cw_below HEd.out.cw HBe.out)).mono ?_
     rintro e wg ⟨rfl, hb⟩
     have HBg := hidH (below_trans HBe.out hb)
     have HAg : Hid (Ba ks T (.slice ka kn kc) (.slice ta tn tc) K9 wg) := HAd.out.ch (Ch.of_below HBg.out) (fun _ h => h)
     have HMg : Hid (MB wg T17 m.b m.a (.slice xa xn xc)) := HMd.out.ch (D := fun _ => False) (Ch.of_below HBg.out) (fun q => q)
     have HWg : Hid (Ch (fun x => ¬ K7 x ∨ x = T17) w7 wg) := HWd.out.self (Ch.of_below HBg.out)
     have HRg : Hid (Cr w K9 sq sb k m Ls (fun x => x = -1) (M + 34 + 1 + 6) wg) := (HRd.out.below HBg.out).mono (fun x h => .inl h) (fun _ h => h) (Nat.le_refl _)
     clear hb HAd HEd HMd HWd HRd HKd HBe HBg HCWd
     go_upto_if 150 with fail
     by_cases hz : i = 0
     ·have hzb : ((i : Int) == 0) = true := by rw [beq_iff_eq]; omega
      obtain ⟨-, ⟨-, hmb, hmm⟩ | ⟨hn, -⟩⟩ := HC.out
      rotate_left
      ·exact absurd hz hn
      have HMB : Hid ((((B : Nat) : Int) = m.b ∨ ((B : Nat) : Int) = m.b + 1) ∧ (m.b < ((B : Nat) : Int) ∨ (((B : Nat) : Int) = m.b ∧ m.a < 99))) := ⟨hmb, hmm⟩
      clear hmb hmm
      have HE : Hid (L' = begS Ls m (B : Nat)) := HL0.out hz
      clear hz
      go_simp
      go_wp2_with fail
      refine (cr_begin HRg.out (by have := HM5.out; omega) HAg.out.kk HKS.out.1 HAg.out.kK (b := (B : Nat)) (a := 99) HMB.out.1 hb1i (by omega) (by omega) (by omega) HKS.out.2.1 HKS.out.2.2 HMB.out.2).mono ?_
      rw [← HE.out]
      rintro e wh ⟨⟨hc, _⟩, hg⟩
      obtain ⟨rfl, hr⟩ := hg (fun _ h => h)
      have HY : Hid (CyR w K7 sb k ⟨(B : Nat), 99, ks⟩ L' (M + 100) w7 T17 (.pointer (some ⟨sq, 0, none⟩)) (.int .i64 0) wh) := ⟨sq, m.b, m.a, _, rfl, rfl, HWg.out.self (ch_up hc (fun x h => .inl (fun q => h (HT9.out.2 x q)))), HMg.out.ch hc (fun q => q HT9.out.1), hr.mono HT9.out.2 (fun _ _ => trivial) (by omega)⟩
      clear hc hg hr
      go_wp2_with fail
      go_meet
      exact HY.out
     ·have hzb : ((i : Int) == 0) = false := by rw [beq_eq_false_iff_ne]; omega
      obtain ⟨-, ⟨hn, -⟩ | ⟨-, rfl⟩⟩ := HC.out
      ·exact absurd hn hz
      have HE : Hid (appA k (B : Nat) Ls T = (0, L') ∧ Gk k ⟨(B : Nat), 99, ks⟩ L') := HL1.out hz
      clear hz
      go_simp
      go_wp2_with fail
      refine (cr_apply HRg.out (by have := HM5.out; omega) HAg.out.qq HAg.out.tK hb1i (by show (1 : Int) ≤ 99; omega) HTA.out ⟨L', HE.out⟩).mono ?_
      rw [HE.out.1]
      rintro e wh ⟨⟨hc, _⟩, hg⟩
      obtain ⟨rfl, hr⟩ := hg (fun _ h => h)
      have HY : Hid (CyR w K7 sb k ⟨(B : Nat), 99, ks⟩ L' (M + 100) w7 T17 (.pointer (some ⟨sq, 0, none⟩)) (.int .i64 0) wh) := ⟨sq, _, _, _, rfl, rfl, HWg.out.self (ch_up hc (fun x h => .inl (fun q => h (HT9.out.2 x q)))), HMg.out.ch hc (fun q => q HT9.out.1), hr.mono HT9.out.2 (fun _ _ => trivial) (by omega)⟩
      clear hc hg hr
      go_wp2_with fail
      go_meet
      exact HY.out
   case rest =>
    obtain ⟨sq, b', a', v', rfl, rfl, hc, hm, hr⟩ := hcut
    have HA8 : Hid (Ba ks T (.slice ka kn kc) (.slice ta tn tc) K7 wc) := HA7.out.to hc (fun x hx q => by rcases q with q | q; exact q (HA7.out.kK x hx); exact HN17.out.1 x hx q) (fun x hx q => by rcases q with q | q; exact q (HA7.out.tK x hx); exact HN17.out.2.1 x hx q) (fun _ h => h)
    have HM8 : Hid (MB wc T17 b' a' v') := hm
    have HR8 := hidH hr
    clear hc hm hr HA7 HE7 HX7 HM7
    go_wp2_with fail
    refine (cr_on HR8.out).mono ?_
    rintro e w8 ⟨rfl, hc, hr⟩
    have HA9 : Hid (Ba ks T (.slice ka kn kc) (.slice ta tn tc) K7 w8) := HA8.out.ch hc (fun _ h => h)
    have HM9 : Hid (MB w8 T17 b' a' v') := HM8.out.ch hc (fun q => q HTK.out)
    have HR9 : Hid (Cr w K7 sq sb k ⟨(B : Nat), 99, ks⟩ L' (fun x => x = -1) (M + 100) w8) := hr
    clear hc hr HA8 HM8 HR8
    go_wp2_with fail
    refine (cr_open HR9.out (by have := HM5.out; omega)).mono ?_
    rintro e w9 ⟨s3, rfl, hc, hr⟩
    have HAa : Hid (Ba ks T (.slice ka kn kc) (.slice ta tn tc) K7 w9) := HA9.out.ch hc (fun _ h => h)
    have HMa : Hid (MB w9 T17 b' a' v') := HM9.out.ch hc (fun q => q HTK.out)
    have HDa := hidH hr
    have HT9 : Hid (T17 < w9.heap.size) := cell_lt HMa.out.c0
    clear hc hr HA9 HM9 HR9
    go_wp2_with fail
    refine (du_mark HDa.out.swap (by have := HM5.out; omega)).mono ?_
    rintro e wa ⟨nv, rfl, hmk, hmK, hc, hr⟩
    obtain ⟨xa, xn, xc, rfl⟩ := sv_any hmk
    obtain ⟨K8, hK8⟩ : ∃ K8, K8 = nwK K7 w9 wa := ⟨_, rfl⟩
    rw [← hK8] at hr
    have H78 : ∀ x, K7 x → K8 x := fun x h => by rw [hK8]; exact .inl h
    have HAb : Hid (Ba ks T (.slice ka kn kc) (.slice ta tn tc) K8 wa) := HAa.out.ch hc H78
    have HMb : Hid (MB wa T17 b' a' v') := HMa.out.ch hc (fun q => q HTK.out)
    have HDb := hidH hr
    have HTK8 : Hid (K8 T17) := H78 _ HTK.out
    have H08 : Hid (∀ x, K0 x → K8 x) := fun x h => H78 x (H07.out x h)
    clear hmk hmK hc hr hK8 H78 HAa HMa HDa
    obtain ⟨g0, g1, g2, gz⟩ := HMb.out
    have z0 := gz 0
    have z1 := gz 1
    have z2 := gz 2
    clear gz
    go_upto_region 41 with fail
    clear z0 z1 z2 g0 g1 g2
    have HCc : Hid (Ch (fun x => x = T17) wa (((wa.setCell ⟨T17, 0, none⟩ (.int .i64 (B : Nat))).setCell ⟨T17, 1, none⟩ (.int .i64 99)).setCell ⟨T17, 2, none⟩ (.slice xa xn xc))) := set_three wa T17 _ _ _
    have HMc : Hid (MB (((wa.setCell ⟨T17, 0, none⟩ (.int .i64 (B : Nat))).setCell ⟨T17, 1, none⟩ (.int .i64 99)).setCell ⟨T17, 2, none⟩ (.slice xa xn xc)) T17 (B : Nat) 99 (.slice xa xn xc)) := ((HMb.out.set0 (B : Nat)).set1 99).set2 _
    have HDc : Hid (Du w K8 s3 sq sb k ⟨(B : Nat), 99, ks⟩ L' (M + 100 + 9 + 1) (((wa.setCell ⟨T17, 0, none⟩ (.int .i64 (B : Nat))).setCell ⟨T17, 1, none⟩ (.int .i64 99)).setCell ⟨T17, 2, none⟩ (.slice xa xn xc))) := ((HDb.out.set HTK8.out).set HTK8.out).set HTK8.out
    generalize (((wa.setCell ⟨T17, 0, none⟩ (.int .i64 (B : Nat))).setCell ⟨T17, 1, none⟩ (.int .i64 99)).setCell ⟨T17, 2, none⟩ (.slice xa xn xc)) = wb at HCc HMc HDc ⊢
    have HAc : Hid (Ba ks T (.slice ka kn kc) (.slice ta tn tc) K8 wb) := HAb.out.to HCc.out HN17.out.1 HN17.out.2.1 (fun _ h => h)
    clear HAb HMb HDb HCc
    go_wp2_with fail
    refine (du_cells HDc.out (by have := HM5.out; omega)).mono ?_
    rintro e wd ⟨kw, d1, rfl, hsr, hcw, hlK, hc, hr⟩
    have HGK' : Hid (Gk k ⟨(B : Nat), 99, ks⟩ L') := hr.fin.gk
    have HSR1 : Hid (SrtOf L'.flatten d1) := hsr
    obtain ⟨K9, hK9⟩ : ∃ K9, K9 = nwK K8 wb wd := ⟨_, rfl⟩
    rw [← hK9] at hlK hr
    have H89 : ∀ x, K8 x → K9 x := fun x h => by rw [hK9]; exact .inl h
    have HAd : Hid (Ba ks T (.slice ka kn kc) (.slice ta tn tc) K9 wd) := HAc.out.ch hc H89
    have HMd : Hid (MB wd T17 (B : Nat) 99 (.slice xa xn xc)) := HMc.out.ch hc (fun q => q HTK8.out)
    have HDd := hidH hr
    have HCd : Hid (Cw wd kw d1 ∧ (d1 ≠ [] → ∀ x, kw.ownBlock = some x → K9 x)) := ⟨hcw, hlK⟩
    have HT9K : Hid (K9 T17 ∧ ∀ x, K0 x → K9 x) := ⟨H89 _ HTK8.out, fun x h => H89 x (H08.out x h)⟩
    obtain ⟨ya, yn, yc, rfl⟩ : ∃ x y z, kw = .slice x y z := by obtain ⟨x, z, e, _⟩ := hcw; exact ⟨x, _, z, e⟩
    clear hsr hcw hlK hc hr hK9 H89 HAc HMc HDc HTK8 H08
    go_wp2_with fail
    refine (du_cells HDd.out.swap (by have := HM5.out; omega)).mono ?_
    rintro e wg ⟨pw, d3, rfl, hsr, hcw, hlK, hc, hr⟩
    obtain rfl : d3 = d1 := srt_eq HGK'.out.gd.pok.1 HGK'.out.lk hsr HSR1.out
    have HAg : Hid (Ba ks T (.slice ka kn kc) (.slice ta tn tc) K9 wg) := HAd.out.ch hc (fun _ h => h)
    have HMg : Hid (MB wg T17 (B : Nat) 99 (.slice xa xn xc)) := HMd.out.ch hc (fun q => q HT9K.out.1)
    have HCg : Hid (Cw wg (.slice ya yn yc) d3) := cw_ch HCd.out.1 hc (fun e x hx q => q (HCd.out.2 e x hx))
    have HPg : Hid (Cw wg pw d3) := hcw
    have HRg : Hid (Cr w K0 s3 sb k ⟨(B : Nat), 99, ks⟩ L' (fun x => x = -1) (2060 + 200 * (i + 1)) wg) := hr.fin.mono (fun x h => .inl (HT9K.out.2 x h)) (fun _ h => h) (by have := HMM.out; omega)
    have HAz : Hid (Ba ks T (.slice ka kn kc) (.slice ta tn tc) K0 wg) := ⟨HAg.out.kk, HAg.out.qq, HK0K.out.1, HK0K.out.2⟩
    obtain ⟨pa, pn, pc, rfl⟩ : ∃ x y z, pw = .slice x y z := by obtain ⟨x, z, e, _⟩ := hcw; exact ⟨x, _, z, e⟩
    clear hsr hcw hlK hc hr HAd HMd HDd HCd HT9K
    obtain ⟨c0, c1, c2, _⟩ := HMg.out
    have hbb : (((B : Nat) : Int) != ((B : Nat) : Int)) = false := by simp
    go_wp2_with fail
    refine (cells_same HCg.out HPg.out).mono ?_
    rintro e wh ⟨rfl, hb⟩
    have HAh : Hid (Ba ks T (.slice ka kn kc) (.slice ta tn tc) K0 wh) := HAz.out.ch (Ch.of_below hb) (fun _ h => h)
    have HRh : Hid (Cr w K0 s3 sb k ⟨(B : Nat), 99, ks⟩ L' (fun x => x = -1) (2060 + 200 * (i + 1)) wh) := (HRg.out.below hb).mono (fun x h => .inl h) (fun _ h => h) (Nat.le_refl _)
    have HCh : Hid (C0 (B : Nat) ks (i + 1) ⟨(B : Nat), 99, ks⟩ L') := ⟨HLOW.out, .inr ⟨by omega, rfl⟩⟩
    clear hb c0 c1 c2 hbb
    go_wp2_with fail
    go_roundw
    case rel => exact ⟨i + 1, by go_num, by omega, s3, _, _, rfl, HAh.out, HRh.out, HCh.out⟩
    case measure => simp [intOf]; omega
end
end Go.Proofs.YtofkhgokfdpdiabGreat
