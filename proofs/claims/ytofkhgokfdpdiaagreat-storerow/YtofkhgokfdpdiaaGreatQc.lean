/- P13.3 to P13.8: through a row of batches Query answers just the parts of the committed attempts put together.
-/
import Derived.Test.YtofkhgokfdpdiaaGreatB09
import Derived.Test.YtofkhgokfdpdiaaGreatB50
import Derived.Test.YtofkhgokfdpdiaaGreatB48
set_option maxRecDepth 100000
set_option maxHeartbeats 16000000
namespace Go.Proofs.YtofkhgokfdpdiaaGreat
section
open Go.RowKit

theorem answers_walk {A : Nat → Prop} {w : World} {sp sb : Nat} {k : Int} {P : Bo} {S : Dk} {m : Mk} {Ls : List (List Cl)} (h : RS A w (.pointer (some ⟨sp, 0, none⟩)) (.pointer (some ⟨sb, 0, none⟩)) k P S m Ls) (hN : cntS P S < 100000000) {tv : Value} {t : List Pr} (hq : Qv w tv t) (hqA : ∀ x, tv.ownBlock = some x → ¬ A x) {n : Int} (hv : ∀ x, x < 40 → shRes Ls x n = getT x t) :
  Calls Tryz.prog 37 #[(.pointer (some ⟨sb, 0, none⟩)), (.pointer (some ⟨sp, 0, none⟩)), .int .i64 n, tv] w fun e w' => e = .returned (.bool true) ∧ ∃ S', RS A w' (.pointer (some ⟨sp, 0, none⟩)) (.pointer (some ⟨sb, 0, none⟩)) k P S' m Ls ∧ Rdd 240 S S' ∧ Ch A w w' := by
 have HR := hidH h
 have HN : Hid (cntS P S < 100000000) := hN
 have HV : Hid (∀ x, x < 40 → shRes Ls x n = getT x t) := hv
 have HQ : Hid (Qv w tv t) := hq
 obtain ⟨⟨ta, tc, rfl, t1, t2, _, _⟩, _⟩ := hq
 have HTL : Hid (t.length ≤ maxLen) := Nat.le_trans t1 t2
 have HQA : Hid (∀ x, (Value.slice ta t.length tc).ownBlock = some x → ¬ A x) := hqA
 clear h hN hv hqA t1 t2
 go_in
 go_wp2_with fail
 go_loopw [9] (fun kv wr => ∃ i : Nat, kv = .int .u64 i ∧ i ≤ 40 ∧ ∃ S', RS A wr (.pointer (some ⟨sp, 0, none⟩)) (.pointer (some ⟨sb, 0, none⟩)) k P S' m Ls ∧ Rdd (6 * i) S S' ∧ Ch A w wr) (fun kv _ => 40 - (intOf kv).toNat)
 case atStart => exact ⟨0, rfl, by omega, S, HR.out, Rdd.refl _, Ch.refl _ _⟩
 case round =>
  obtain ⟨i, rfl, hi, S1, hrs, hrd, hch⟩ := hrel
  have HR1 := hidH hrs
  have HD1 : Hid (Rdd (6 * i) S S1) := hrd
  have HC1 : Hid (Ch A w wr) := hch
  clear hrs hrd hch
  by_cases hlt : i < 40
  rotate_left
  ·have hlti : ¬ (i : Int) < 40 := by omega
   go_wp2_with fail
   go_ret
   exact ⟨rfl, S1, HR1.out, HD1.out.mono (by omega), HC1.out⟩
  ·have hlti : (i : Int) < 40 := by omega
   have HN1 : Hid (cntS P S1 < 100000300) := by have h1 := cnt_rdd (P := P) HD1.out; have h2 := HN.out; show _ < _; omega
   obtain ⟨r1, hr1⟩ : ∃ r, r = S1.rd := ⟨_, rfl⟩
   have HR1D : Hid (r1 = S1.rd) := hr1
   have hr1b : (r1 : Int) ≤ 100000300 := by have h := HN1.out; unfold cntS at h; omega
   clear hr1
   go_wp2_with fail
   refine (reads_rs HR1.out.st).mono ?_
   rw [← HR1D.out]
   rintro e wx ⟨rfl, hwx⟩
   replace hwx := hwx.symm
   subst hwx
   obtain ⟨v, hvv⟩ : ∃ v, v = shRes Ls i n := ⟨_, rfl⟩
   have HVS : Hid (v = shRes Ls i n) := hvv
   have HVG : Hid (v = getT i t) := hvv.trans (HV.out i hlt)
   clear hvv
   go_wp2_with fail
   refine (query_rs HR1.out (by have := HN1.out; omega) i n).mono ?_
   rw [← HVS.out]
   rintro e w2 ⟨rfl, S2, hrs, hr, hc⟩
   have HR2 := hidH hrs
   have HD2 : Hid (Rdd (6 * (i + 1)) S S2) := (HD1.out.trans hr).mono (by omega)
   have HC2 : Hid (Ch A w w2) := HC1.out.trans hc (fun x hx => .inl hx)
   obtain ⟨r2, hr2⟩ : ∃ r, r = S2.rd := ⟨_, rfl⟩
   have HR2D : Hid (S2.rd = r2) := hr2.symm
   have hr2b : (r2 : Int) ≤ (r1 : Int) + 6 := by have h := hr.rd; have h1 := HR1D.out; omega
   have hr2n : ¬ (r1 : Int) + 6 < (r2 : Int) := by omega
   have hw6 : IntKind.i64.wrap ((r1 : Int) + 6) = (r1 : Int) + 6 := by rw [IntKind.wrap_i64]; omega
   clear hrs hr hc hr2 HR1 HD1 HC1
   go_upto_region 6 with fail
   obtain ⟨T, hT⟩ : ∃ T, T = w2.heap.size := ⟨_, rfl⟩
   have HV3 : Hid ((w2.alloc (Obj.cells #[.bool v.h, .int .u64 v.b] 53)).cell? ⟨T, 0, none⟩ = some (.bool v.h) ∧ (w2.alloc (Obj.cells #[.bool v.h, .int .u64 v.b] 53)).cell? ⟨T, 1, none⟩ = some (.int .u64 v.b)) := by rw [hT]; exact vb_newS w2 v.h v.b
   have HB3 : Hid (Below w2.heap.size w2 (w2.alloc (Obj.cells #[.bool v.h, .int .u64 v.b] 53))) := below_alloc _ _
   rw [← hT]
   generalize (w2.alloc (Obj.cells #[.bool v.h, .int .u64 v.b] 53)) = w3 at HV3 HB3 ⊢
   have HR3 : Hid (RS A w3 (.pointer (some ⟨sp, 0, none⟩)) (.pointer (some ⟨sb, 0, none⟩)) k P S2 m Ls) := HR2.out.below HB3.out
   have HC3 : Hid (Ch A w w3) := HC2.out.self (Ch.of_below HB3.out)
   have HQ3 : Hid (Ql w3 ta t) := by
    obtain ⟨⟨ao, cap, e, _, _, _, h⟩, _⟩ := qv_ch HQ.out HC3.out (fun _ => HQA.out)
    cases e
    exact h
   have qv : ∀ wx, (binOp .neq 53 (.agg #[.bool v.h, .int .u64 v.b]) (.agg #[.bool v.h, .int .u64 v.b])).run Tryz.prog wx = .ok (.bool false) wx := neq_val v
   have hgv := guard_val
   clear hT HR2 HC2 HB3
   refine wp_region_noPanic ?_
   refine wp_region_held_drew (S := fun wx => wx.cell? ⟨T, 0, none⟩ = some (.bool v.h) ∧ wx.cell? ⟨T, 1, none⟩ = some (.int .u64 v.b) ∧ Hid (RS A wx (.pointer (some ⟨sp, 0, none⟩)) (.pointer (some ⟨sb, 0, none⟩)) k P S2 m Ls ∧ Ql wx ta t ∧ Ch A w wx)) (by kernel_rfl) ?_ (fun hHeld => ?_)
   ·exact (by have hb : Below w3.heap.size w3 w3.drew := ⟨rfl, rfl, rfl, Nat.le_refl _, fun _ _ => rfl⟩; exact ⟨by rw [hb.cell (p := ⟨T, 0, none⟩) (cell_lt HV3.out.1)]; exact HV3.out.1, by rw [hb.cell (p := ⟨T, 1, none⟩) (cell_lt HV3.out.2)]; exact HV3.out.2, ⟨HR3.out.below hb, HQ3.out.below hb, HC3.out.self (Ch.of_below hb)⟩⟩)
   refine tkS 0 26 rfl hHeld ?_
   refine tkS 1 27 rfl hHeld ?_
   refine tkS 2 28 rfl hHeld ?_
   refine tkS 3 29 rfl hHeld ?_
   refine tkS 4 30 rfl hHeld ?_
   refine tkS 5 31 rfl hHeld ?_
   refine rdH 6 32 rfl (fun K hK => ?_)
   go_simp
   have x6 := hHeld
   have c6 := find_walk (ca := tc) HTL.out x6.2.2.out.2.1 i
   rw [← HVG.out] at c6
   refine c6.mono ?_
   rintro e9 w6 ⟨rfl, h6⟩
   refine hK.out _ _ ?_ (fun hHeld => ?_)
   ·exact ⟨by rw [h6.cell (p := ⟨T, 0, none⟩) (cell_lt x6.1)]; exact x6.1, by rw [h6.cell (p := ⟨T, 1, none⟩) (cell_lt x6.2.1)]; exact x6.2.1, ⟨x6.2.2.out.1.below h6, x6.2.2.out.2.1.below h6, x6.2.2.out.2.2.self (Ch.of_below h6)⟩⟩
   clear hK K
   try simp only [Act.put, zA, zB, zC]
   refine tkS 7 33 rfl hHeld ?_
   refine tkS 8 34 rfl hHeld ?_
   refine tkS 9 35 rfl hHeld ?_
   refine tkS 10 36 rfl hHeld ?_
   refine tkS 12 38 rfl hHeld ?_
   refine tkS 13 39 rfl hHeld ?_
   refine rdH 11 37 rfl (fun K hK => ?_)
   go_simp
   have x11 := hHeld
   have c11 := reads_rs x11.2.2.out.1.st
   rw [HR2D.out] at c11
   refine c11.mono ?_
   rintro e9 w11 ⟨rfl, h11⟩
   replace h11 := h11.symm
   subst h11
   refine hK.out _ _ ?_ (fun hHeld => ?_)
   ·exact x11
   clear hK K
   try simp only [Act.put, zA, zB, zC]
   refine tkS 14 40 rfl hHeld ?_
   refine tkS 15 41 rfl hHeld ?_
   refine wpAnyH_done (by kernel_rfl) ?_ _
   refine NoPanic.normal ?_
   go_wp2_with fail
   go_roundw
   case rel => exact ⟨i + 1, by go_num, by omega, S2, hHeld.2.2.out.1, HD2.out, hHeld.2.2.out.2.2⟩
   case measure => simp [intOf]; omega
end
section
open Go.RowKit

structure T40 (k : Int) (a : List Pr) : Prop where
 r : Rise a
 h : hasT a
 o : okT a
 f : ∀ p ∈ a, p.k < 40 ∧ fitV k p.v = p.v
theorem T40.len {k : Int} {a : List Pr} (h : T40 k a) : a.length ≤ 40 := by
 have h1 : (a.map (·.k)).Nodup := by
  unfold List.Nodup
  rw [List.pairwise_map]
  exact h.r.imp (fun h => by omega)
 have := nodup_lt 40 _ h1 (fun x hx => by obtain ⟨p, hp, rfl⟩ := List.mem_map.1 hx; exact (h.f p hp).1)
 simpa using this
theorem t40_nil (k : Int) : T40 k [] := ⟨rise_nil, has_nil, ok_nil, by simp⟩
theorem t40_pt {k : Int} (hk : knownB k = true) {recs : List Rcd} (h : ∀ r ∈ recs, r.ok) : T40 k (ptT k recs) := ⟨pt_rise _ _, pt_has hk _, pt_ok h, pt_low⟩
theorem t40_add {k : Int} (hk : knownB k = true) {a b : List Pr} (ha : T40 k a) (hb : T40 k b) : T40 k (addT k a b) := by
 have hm : ∀ p ∈ a ++ b, p.k < 40 := fun p hp => by rcases List.mem_append.1 hp with q | q; exact (ha.f p q).1; exact (hb.f p q).1
 refine ⟨rise_adds rise_nil _, has_adds hk has_nil (fun p hp => ?_), ok_adds ok_nil (fun p hp => ?_), low_adds _ _ hm (by simp)⟩
 ·rcases List.mem_append.1 hp with q | q; exact ha.h p q; exact hb.h p q
 ·rcases List.mem_append.1 hp with q | q; exact ha.o p q; exact hb.o p q
theorem t40_get {k : Int} {a b : List Pr} (ha : T40 k a) (hb : T40 k b) (x : Nat) : getT x (addT k a b) = addF k (fun x => getT x a) b x := by
 rw [get_add ha.r hb.r ha.o hb.o]
 unfold addF
 split
 ·rfl
 ·rename_i hn
  have hno : getT x b = noV := by
   refine get_none (fun p hp e => hn ?_)
   subst e
   rw [get_memS hb.r hp]
   exact hb.h p hp
  have hfit : fitV k (getT x a) = getT x a := by
   by_cases q : ∃ p ∈ a, p.k = x
   ·obtain ⟨p, hp, rfl⟩ := q
    rw [get_memS ha.r hp]
    exact (ha.f p hp).2
   ·rw [get_none (fun p hp e => q ⟨p, hp, e⟩)]; rfl
  rw [hno]
  unfold mergeV joinV
  rw [hfit]
  show (if (getT x a).h = false then fitV k noV else if (fitV k noV).h = false then getT x a else _) = getT x a
  split
  ·rename_i hz
   unfold fitV at hfit
   rw [if_pos hz] at hfit
   rw [← hfit]; rfl
  ·rfl
theorem sformat_nil (k : Int) (w : World) : Calls Tryz.prog 10 #[.pointer none, .int .i64 k] w fun e w' => e = .returned (.tuple #[.pointer none, .int .i64 2]) ∧ w' = w := by
 go_in
 go_wp2_with fail
 refine (srefuses_nil k w).mono ?_
 rintro e w1 ⟨rfl, hw1⟩
 replace hw1 := hw1.symm
 subst hw1
 go_wp2_with fail
 go_ret2
 exact ⟨rfl, rfl⟩
end
section
open Go.RowKit

def SrR (k : Int) (w : World) (sp sb : Nat) (B i : Nat) (av : Value) (wr : World) : Prop :=
 ∃ A P S m Ls a, RW A wr (.pointer (some ⟨sp, 0, none⟩)) (.pointer (some ⟨sb, 0, none⟩)) k P S m Ls (B : Nat) i (fun x => getT x a) ∧ T40 k a ∧ Qv wr av a ∧ (∀ x, av.ownBlock = some x → ¬ A x ∧ x < wr.heap.size) ∧ (∀ x, A x → w.heap.size ≤ x) ∧ cntS P S ≤ 12 + 2000 * i ∧ Below w.heap.size w wr
theorem row_walk {k : Int} {w : World} {jv : Value} {jobs : List Jb} (hj : Jv w jv jobs) :
  Calls Tryz.prog 5 #[.int .i64 k, jv] w fun e w' => e = .returned (.bool true) ∧ Below w.heap.size w w' := by
 obtain ⟨jo, jc, rfl, j1, j2, j3⟩ := hj
 obtain ⟨n, hn⟩ : ∃ n, n = jobs.length := ⟨_, rfl⟩
 rw [← hn] at j1 ⊢
 have HN : Hid (n = jobs.length) := hn
 have hni : (n : Int) ≤ 9223372036854775807 := by simp only [maxLen] at j2; omega
 have HJ : Hid (Jl w jo jobs) := j3
 clear hn j1 j2 j3
 go_in
 go_wp2_with fail
 refine (awake_walkS w).mono ?_
 rintro e w1 ⟨rfl, hb1⟩
 have HB1 : Hid (Below w.heap.size w w1) := hb1
 clear hb1
 obtain ⟨K, hK⟩ : ∃ K, K = knownB k := ⟨_, rfl⟩
 have HK : Hid (K = knownB k) := hK
 clear hK
 go_wp2_with fail
 refine (known_walk k w1).mono ?_
 rw [← HK.out]
 rintro e w2 ⟨rfl, hw2⟩
 replace hw2 := hw2.symm
 subst hw2
 cases K
 ·go_wp2_with fail
  refine (sformat_nil k w1).mono ?_
  rintro e w2 ⟨rfl, hw2⟩
  replace hw2 := hw2.symm
  subst hw2
  go_wp2_with fail
  go_ret
  exact ⟨rfl, HB1.out⟩
 go_wp2_with fail
 refine (fresh_walk HK.out.symm w1).mono ?_
 rintro e w2 ⟨A2, P2, S2, sp, sb, rfl, hrs, hA, hsp, hcn, hbl, hb2⟩
 have HS : Hid (SrR k w sp sb 1 0 (.slice none 0 0) w2) :=
  ⟨A2, P2, S2, zeroM, noS, [], ⟨hrs, low_no, fun x => hrs.gk.lk.res0 (fun c hc => absurd hc (in_no c)) _, .inr rfl, Int.le_refl _, by decide, by decide⟩, t40_nil k, qv_0 w2, fun x hx => by simp [Value.ownBlock] at hx, fun x hx => Nat.le_trans HB1.out.size (hA x hx), by omega, below_trans HB1.out hb2⟩
 clear hrs hA hsp hcn hbl hb2
 go_wp2_with fail
 go_loopw [9, 10, 11] (fun av bv iv wr => ∃ i B : Nat, iv = .int .i64 i ∧ bv = .int .i64 B ∧ i ≤ 200 ∧ i ≤ n ∧ SrR k w sp sb B i av wr) (fun _ _ iv _ => 200 - (intOf iv).toNat)
 case atStart => exact ⟨0, 1, rfl, rfl, by omega, by omega, HS.out⟩
 case round =>
  obtain ⟨i, B, rfl, rfl, hi, hin, A, P, S, m, Ls, a, hrw, ht40, hqv, hqa, hA, hcn, hB⟩ := hrel
  have HRW := hidH hrw
  have HT : Hid (T40 k a) := ht40
  have HQ : Hid (Qv wr u9 a) := hqv
  have HQA : Hid (∀ x, u9.ownBlock = some x → ¬ A x ∧ x < wr.heap.size) := hqa
  have HA : Hid (∀ x, A x → w.heap.size ≤ x) := hA
  have HC : Hid (cntS P S ≤ 12 + 2000 * i) := hcn
  have HB : Hid (Below w.heap.size w wr) := hB
  have hB1 : (1 : Int) ≤ (B : Int) := hrw.b1
  have HB2I : Hid ((B : Int) ≤ (i : Int) + 1) := hrw.b2
  have hB2 : (B : Int) ≤ 201 := by have := hrw.b2; omega
  obtain ⟨qa, qn, qc, rfl⟩ : ∃ x y z, u9 = .slice x y z := by obtain ⟨⟨x, z, e, _⟩, _⟩ := hqv; exact ⟨x, _, z, e⟩
  clear hrw ht40 hqv hqa hA hcn hB HS
  by_cases hgo : i < n ∧ i < 200
  rotate_left
  ·have HEND : Hid True := trivial
   by_cases hlt : i < n
   ·have hlti : (i : Int) < (n : Int) := by omega
    have h200 : ¬ (i : Int) < 200 := by omega
    go_wp2_with fail
    refine (answers_walk HRW.out.rs (by have := HC.out; omega) HQ.out (fun x hx => (HQA.out x hx).1) (n := (B : Int) - 1) (fun x _ => HRW.out.val x)).mono ?_
    rintro e w9 ⟨rfl, S9, hrs, hd, hc⟩
    go_wp2_with fail
    go_ret
    exact ⟨rfl, HB.out.trans (hc.to_below HB.out.size HA.out)⟩
   ·have hlti : ¬ (i : Int) < (n : Int) := by omega
    go_wp2_with fail
    refine (answers_walk HRW.out.rs (by have := HC.out; omega) HQ.out (fun x hx => (HQA.out x hx).1) (n := (B : Int) - 1) (fun x _ => HRW.out.val x)).mono ?_
    rintro e w9 ⟨rfl, S9, hrs, hd, hc⟩
    go_wp2_with fail
    go_ret
    exact ⟨rfl, HB.out.trans (hc.to_below HB.out.size HA.out)⟩
  obtain ⟨hlt, h200⟩ := hgo
  have hlti : (i : Int) < (n : Int) := by omega
  have h200i : (i : Int) < 200 := by omega
  have hlt' : i < jobs.length := by rw [← HN.out]; exact hlt
  obtain ⟨b, off, rv, mv, rfl, c0, c1, c2, c3, hrv, hmv⟩ := HJ.out.below HB.out i hlt'
  obtain ⟨j, hjj⟩ : ∃ j, j = jobs[i] := ⟨_, rfl⟩
  rw [← hjj] at c2 c3 hrv hmv
  have HRV : Hid (Rv wr rv j.r) := hrv
  have HMV : Hid (Kv wr mv j.m) := hmv
  have HBW : Hid (b < w.heap.size) := by obtain ⟨b', off', _, _, e, d0, _⟩ := HJ.out i hlt'; cases e; exact cell_lt d0
  obtain ⟨ra, rn, rc, rfl⟩ : ∃ x y z, rv = .slice x y z := by obtain ⟨⟨x, z, e, _⟩, _⟩ := hrv; exact ⟨x, _, z, e⟩
  obtain ⟨ma, mn, mc, rfl⟩ := sv_any hmv
  obtain ⟨jf, hjf⟩ : ∃ f, f = j.f := ⟨_, rfl⟩
  obtain ⟨js, hjs⟩ : ∃ s, s = j.s := ⟨_, rfl⟩
  rw [← hjf] at c2
  rw [← hjs] at c3
  clear hrv hmv hjj hjf hjs
  go_wp2_with fail
  refine (part_walk HK.out.symm HRV.out HMV.out jf js).mono ?_
  rintro e w2 ⟨tv, kv, rfl, hqv, hqb, hkv, hb2⟩
  obtain ⟨T, hT⟩ : ∃ T, T = ptT k j.r := ⟨_, rfl⟩
  obtain ⟨ks, hks⟩ : ∃ ks, ks = ptK k j.r j.m := ⟨_, rfl⟩
  have HTA : Hid (Ta k ⟨(B : Nat), (i : Int) + 1, ks⟩ T) := by rw [hT, hks]; exact pt_ta HK.out.symm HRV.out.2 _ _ _
  have HTT : Hid (T40 k T) := by rw [hT]; exact t40_pt HK.out.symm HRV.out.2
  have HKS : Hid (keysOk ks ∧ ks.length ≤ 64 ∧ risB ks = true) := by rw [hks]; exact ⟨ptK_ok _ _ _, ptK_len _ _ _, ptK_ris _ _ _⟩
  rw [← hT] at hqv
  rw [← hks] at hkv
  have HKV : Hid (Kv w2 kv ks) := own_sv hkv
  have HAL : Hid (∀ x, A x → x < wr.heap.size) := fun x hx => HRW.out.rs.st.lt hx
  have HKA : Hid (∀ x, kv.ownBlock = some x → ¬ A x) := fun x hx hA => by have h1 := (hkv.lt x hx).1; have h2 := HAL.out x hA; omega
  have HT2 : Hid (Qv w2 tv T) := hqv
  have HTB := hidH hqb
  have HQ2 : Hid (Qv w2 (.slice qa qn qc) a) := HQ.out.below hb2
  have HRW2 : Hid (RW A w2 (.pointer (some ⟨sp, 0, none⟩)) (.pointer (some ⟨sb, 0, none⟩)) k P S m Ls (B : Nat) i (fun x => getT x a)) := HRW.out.below hb2
  have HW2 : Hid (Below w.heap.size w w2) := below_trans HB.out hb2
  have HSZ2 : Hid (wr.heap.size ≤ w2.heap.size) := hb2.size
  have e2 : w2.cell? ⟨b, off + i * 4 + 2, none⟩ = some (.bool jf) := by rw [hb2.cell (p := ⟨b, off + i * 4 + 2, none⟩) (cell_lt c2)]; exact c2
  have e3 : w2.cell? ⟨b, off + i * 4 + 3, none⟩ = some (.bool js) := by rw [hb2.cell (p := ⟨b, off + i * 4 + 3, none⟩) (cell_lt c3)]; exact c3
  obtain ⟨ta, tn, tc, rfl⟩ : ∃ x y z, tv = .slice x y z := by obtain ⟨⟨x, z, e, _⟩, _⟩ := hqv; exact ⟨x, _, z, e⟩
  obtain ⟨ka, kn, kc, rfl⟩ := sv_any HKV.out
  clear hqv hqb hkv hb2 hT hks c0 c1 c2 c3 HRW HQ HB HRV HMV
  go_wp2_with fail
  refine (begin_row HRW2.out (by have := HC.out; omega) (by omega) HKV.out HKS.out.1 HKA.out (a := (i : Int) + 1) (by omega) (by omega) HKS.out.2.1 HKS.out.2.2).mono ?_
  rintro e w3 ⟨rfl, A3, P3, S3, L3, hrs, low3, val3, hA3, hc, hcn, _⟩
  have HR3 := hidH hrs
  have HLO3 : Hid (Low L3) := low3
  have HV3 : Hid (∀ x n, (B : Int) - 1 ≤ n → shRes L3 x n = getT x a) := val3
  have HA3 : Hid (∀ x, A3 x → w.heap.size ≤ x) := fun x hx => by
   rcases hA3 x hx with q | q
   ·exact HA.out x q
   ·have := HW2.out.size; omega
  have HC3 : Hid (cntS P3 S3 ≤ 12 + 2000 * i + 17) := by have := HC.out; show _ ≤ _; omega
  have HW3 : Hid (Below w.heap.size w w3) := HW2.out.trans (hc.to_below HW2.out.size HA.out)
  have HQ3 : Hid (Qv w3 (.slice qa qn qc) a) := qv_ch HQ2.out hc (fun _ x hx => (HQA.out x hx).1)
  have HT3 : Hid (Qv w3 (.slice ta tn tc) T) := qv_ch HT2.out hc (fun _ x hx hA => by have h1 := HTB.out x hx; have h2 := HAL.out x hA; omega)
  have HQA3 : Hid (∀ x, (Value.slice qa qn qc).ownBlock = some x → ¬ A3 x ∧ x < w3.heap.size) := fun x hx => by
   have h1 := HQA.out x hx
   have h2 := HSZ2.out
   have h3 := hc.size
   refine ⟨fun hA => ?_, by omega⟩
   rcases hA3 x hA with q | q
   ·exact h1.1 q
   ·omega
  have HTA3 : Hid (∀ x, (Value.slice ta tn tc).ownBlock = some x → ¬ A3 x ∧ x < w3.heap.size) := fun x hx => by
   have h1 := HTB.out x hx
   have h3 := hc.size
   refine ⟨fun hA => ?_, by omega⟩
   rcases hA3 x hA with q | q
   ·have := HAL.out x q; omega
   ·omega
  have f2 : w3.cell? ⟨b, off + i * 4 + 2, none⟩ = some (.bool jf) := hc.cell e2 (fun e => by have h1 := HA.out b e; have h2 := HBW.out; omega)
  have f3 : w3.cell? ⟨b, off + i * 4 + 3, none⟩ = some (.bool js) := hc.cell e3 (fun e => by have h1 := HA.out b e; have h2 := HBW.out; omega)
  clear hrs low3 val3 hA3 hc hcn e2 e3 HRW2 HQ2 HT2 HTB HQA HKA HAL HA HC HW2 HKV
  go_wp2_with fail
  refine (answers_walk HR3.out (by have := HC3.out; omega) HQ3.out (fun x hx => (HQA3.out x hx).1) (n := (B : Int) - 1) (fun x _ => HV3.out x _ (Int.le_refl _))).mono ?_
  rintro e w4 ⟨rfl, S4, hrs, hd, hc⟩
  have HR4 := hidH hrs
  have HC4 : Hid (cntS P3 S4 ≤ 12 + 2000 * i + 257) := by have h1 := cnt_rdd (P := P3) hd; have := HC3.out; show _ ≤ _; omega
  have HW4 : Hid (Below w.heap.size w w4) := HW3.out.trans (hc.to_below HW3.out.size HA3.out)
  have HQ4 : Hid (Qv w4 (.slice qa qn qc) a) := qv_ch HQ3.out hc (fun _ x hx => (HQA3.out x hx).1)
  have HT4 : Hid (Qv w4 (.slice ta tn tc) T) := qv_ch HT3.out hc (fun _ x hx => (HTA3.out x hx).1)
  have HSZ4 : Hid (w3.heap.size ≤ w4.heap.size) := hc.size
  have g2 : w4.cell? ⟨b, off + i * 4 + 2, none⟩ = some (.bool jf) := hc.cell f2 (fun e => by have h1 := HA3.out b e; have h2 := HBW.out; omega)
  have g3 : w4.cell? ⟨b, off + i * 4 + 3, none⟩ = some (.bool js) := hc.cell f3 (fun e => by have h1 := HA3.out b e; have h2 := HBW.out; omega)
  clear hrs hd hc f2 f3 HR3 HC3 HW3 HQ3 HT3
  go_wp2_with fail
  refine (answers_walk HR4.out (by have := HC4.out; omega) HQ4.out (fun x hx => (HQA3.out x hx).1) (n := (B : Int)) (fun x _ => HV3.out x _ (by omega))).mono ?_
  rintro e w5 ⟨rfl, S5, hrs, hd, hc⟩
  have HR5 := hidH hrs
  have HC5 : Hid (cntS P3 S5 ≤ 12 + 2000 * i + 497) := by have h1 := cnt_rdd (P := P3) hd; have := HC4.out; show _ ≤ _; omega
  have HW5 : Hid (Below w.heap.size w w5) := HW4.out.trans (hc.to_below HW4.out.size HA3.out)
  have HQ5 : Hid (Qv w5 (.slice qa qn qc) a) := qv_ch HQ4.out hc (fun _ x hx => (HQA3.out x hx).1)
  have HT5 : Hid (Qv w5 (.slice ta tn tc) T) := qv_ch HT4.out hc (fun _ x hx => (HTA3.out x hx).1)
  have HSZ5 : Hid (w3.heap.size ≤ w5.heap.size) := Nat.le_trans HSZ4.out hc.size
  have h2c : w5.cell? ⟨b, off + i * 4 + 2, none⟩ = some (.bool jf) := hc.cell g2 (fun e => by have h1 := HA3.out b e; have h2 := HBW.out; omega)
  have h3c : w5.cell? ⟨b, off + i * 4 + 3, none⟩ = some (.bool js) := hc.cell g3 (fun e => by have h1 := HA3.out b e; have h2 := HBW.out; omega)
  clear hrs hd hc g2 g3 HR4 HC4 HW4 HQ4 HT4
  have HB1 : Hid ((1 : Int) ≤ (B : Int)) := hB1
  have HGO : Hid (SrR k w sp sb B (i + 1) (.slice qa qn qc) w5) :=
   ⟨A3, P3, S5, _, L3, a, ⟨HR5.out, HLO3.out, fun x => HV3.out x _ (Int.le_refl _), .inl rfl, by show (i : Int) + 1 ≤ ((i + 1 : Nat) : Int); omega, hB1, by have := HB2I.out; omega⟩, HT.out, HQ5.out, fun x hx => ⟨(HQA3.out x hx).1, Nat.lt_of_lt_of_le (HQA3.out x hx).2 HSZ5.out⟩, HA3.out, by have := HC5.out; omega, HW5.out⟩
  go_upto_region 17 with fail
  cases js <;> cases jf
  rotate_right
  ·go_wp2_with fail
   go_roundw
   case rel => exact ⟨i + 1, B, by go_num, rfl, by omega, by omega, HGO.out⟩
   case measure => simp [intOf]; omega
  all_goals
   clear HGO
   go_wp2_with fail
   refine (add_good HQ5.out HT5.out HK.out.symm (tab_iff.2 ⟨HT.out.r, HT.out.h⟩) (tab_iff.2 ⟨HTT.out.r, HTT.out.h⟩) (by have h1 := HT.out.len; have h2 := HTT.out.len; omega)).mono ?_
   rintro e w6 ⟨g, rfl, hmq, hg1, hg2, hb6⟩
   obtain ⟨N, hN⟩ : ∃ N, N = addT k a T := ⟨_, rfl⟩
   rw [← hN] at hmq ⊢
   have HNT : Hid (T40 k N) := by rw [hN]; exact t40_add HK.out.symm HT.out HTT.out
   have HNG : Hid (∀ x, getT x N = addF k (fun x => getT x a) T x) := by rw [hN]; exact t40_get HT.out HTT.out
   have HN6 : Hid (Qv w6 (.slice (some ⟨g, 0, none⟩) N.length N.length) N) := by
    have h := mq_qv (n := N.length) (cap := N.length) hmq (Nat.le_refl _) (Nat.le_refl _) (by have := HNT.out.len; simp only [maxLen]; omega) HNT.out.o
    rwa [List.take_length] at h
   have HG6 : Hid (w5.heap.size ≤ g ∧ g < w6.heap.size) := ⟨hg1, hg2⟩
   have HR6 : Hid (RS A3 w6 (.pointer (some ⟨sp, 0, none⟩)) (.pointer (some ⟨sb, 0, none⟩)) k P3 S5 ⟨(B : Nat), (i : Int) + 1, ks⟩ L3) := HR5.out.below hb6
   have HQ6 : Hid (Qv w6 (.slice qa qn qc) a) := HQ5.out.below hb6
   have HT6 : Hid (Qv w6 (.slice ta tn tc) T) := HT5.out.below hb6
   have HW6 : Hid (Below w.heap.size w w6) := below_trans HW5.out hb6
   have HSZ6 : Hid (w3.heap.size ≤ w6.heap.size) := Nat.le_trans HSZ5.out hb6.size
   have HA5 : Hid (∀ x, A3 x → x < w5.heap.size) := fun x hx => HR5.out.st.lt hx
   have i2 := h2c
   rw [← hb6.cell (p := ⟨b, off + i * 4 + 2, none⟩) (cell_lt h2c)] at i2
   obtain ⟨nl, hnl⟩ : ∃ nl, nl = N.length := ⟨_, rfl⟩
   rw [← hnl] at HN6 ⊢
   clear hmq hg1 hg2 hb6 hN hnl h2c h3c HQ5 HT5 HR5 HW5
   go_wp2_with fail
   refine (apply_row HR6.out HLO3.out HV3.out (by have := HC5.out; omega) HT6.out (fun x hx => (HTA3.out x hx).1) HB1.out (by show (1 : Int) ≤ (i : Int) + 1; omega) HTA.out).mono ?_
   rintro e w7 ⟨rfl, A7, P7, S7, L7, q1, q2, q3, q4, _, q5, q6, q7, _⟩
   have HR7 := hidH q1
   have HLO7 : Hid (Low L7) := q2
   have HV7 : Hid (∀ x, shRes L7 x ((B : Int) - 1) = getT x a) := q3
   have HV7b : Hid (∀ x, shRes L7 x (B : Int) = getT x N) := fun x => by rw [HNG.out x]; exact q4 x
   have HA7 : Hid (∀ x, A7 x → w.heap.size ≤ x) := fun x hx => by
    rcases q5 x hx with q | q
    ·exact HA3.out x q
    ·have := HW6.out.size; omega
   have HC7 : Hid (cntS P7 S7 ≤ 12 + 2000 * i + 514) := by have := HC5.out; show _ ≤ _; omega
   have HW7 : Hid (Below w.heap.size w w7) := HW6.out.trans (q6.to_below HW6.out.size HA3.out)
   have HQ7 : Hid (Qv w7 (.slice qa qn qc) a) := qv_ch HQ6.out q6 (fun _ x hx => (HQA3.out x hx).1)
   have HN7 : Hid (Qv w7 (.slice (some ⟨g, 0, none⟩) nl nl) N) := qv_ch HN6.out q6 (fun _ x hx hA => by simp [Value.ownBlock] at hx; subst hx; have h1 := HA5.out _ hA; have h2 := HG6.out; omega)
   have HQA7 : Hid (∀ x, (Value.slice qa qn qc).ownBlock = some x → ¬ A7 x ∧ x < w7.heap.size) := fun x hx => by
    have h1 := HQA3.out x hx
    have h2 := HSZ6.out
    have h3 := q6.size
    refine ⟨fun hA => ?_, by omega⟩
    rcases q5 x hA with q | q
    ·exact h1.1 q
    ·omega
   have HNA7 : Hid (∀ x, (Value.slice (some ⟨g, 0, none⟩) nl nl).ownBlock = some x → ¬ A7 x ∧ x < w7.heap.size) := fun x hx => by
    simp [Value.ownBlock] at hx
    subst hx
    have h1 := HG6.out
    have h3 := q6.size
    refine ⟨fun hA => ?_, by omega⟩
    rcases q5 _ hA with q | q
    ·have := HA5.out _ q; omega
    ·omega
   have k2 := q6.cell i2 (fun e => by have h1 := HA3.out b e; have h2 := HBW.out; omega)
   clear q1 q2 q3 q4 q5 q6 q7 i2 HR6 HQ6 HT6 HW6 HN6 HC5 HA5
   go_wp2_with fail
   refine (answers_walk HR7.out (by have := HC7.out; omega) HQ7.out (fun x hx => (HQA7.out x hx).1) (n := (B : Int) - 1) (fun x _ => HV7.out x)).mono ?_
   rintro e w8 ⟨rfl, S8, hrs, hd, hc⟩
   have HR8 := hidH hrs
   have HC8 : Hid (cntS P7 S8 ≤ 12 + 2000 * i + 754) := by have h1 := cnt_rdd (P := P7) hd; have := HC7.out; show _ ≤ _; omega
   have HW8 : Hid (Below w.heap.size w w8) := HW7.out.trans (hc.to_below HW7.out.size HA7.out)
   have HQ8 : Hid (Qv w8 (.slice qa qn qc) a) := qv_ch HQ7.out hc (fun _ x hx => (HQA7.out x hx).1)
   have HN8 : Hid (Qv w8 (.slice (some ⟨g, 0, none⟩) nl nl) N) := qv_ch HN7.out hc (fun _ x hx => (HNA7.out x hx).1)
   have HSZ8 : Hid (w7.heap.size ≤ w8.heap.size) := hc.size
   have l2 := hc.cell k2 (fun e => by have h1 := HA7.out b e; have h2 := HBW.out; omega)
   clear hrs hd hc k2 HR7 HC7 HW7 HQ7 HN7
   go_wp2_with fail
   refine (answers_walk HR8.out (by have := HC8.out; omega) HN8.out (fun x hx => (HNA7.out x hx).1) (n := (B : Int)) (fun x _ => HV7b.out x)).mono ?_
   rintro e w9 ⟨rfl, S9, hrs, hd, hc⟩
   have HR9 := hidH hrs
   have HC9 : Hid (cntS P7 S9 ≤ 12 + 2000 * i + 994) := by have h1 := cnt_rdd (P := P7) hd; have := HC8.out; show _ ≤ _; omega
   have HW9 : Hid (Below w.heap.size w w9) := HW8.out.trans (hc.to_below HW8.out.size HA7.out)
   have HQ9 : Hid (Qv w9 (.slice qa qn qc) a) := qv_ch HQ8.out hc (fun _ x hx => (HQA7.out x hx).1)
   have HN9 : Hid (Qv w9 (.slice (some ⟨g, 0, none⟩) nl nl) N) := qv_ch HN8.out hc (fun _ x hx => (HNA7.out x hx).1)
   have HSZ9 : Hid (w7.heap.size ≤ w9.heap.size) := Nat.le_trans HSZ8.out hc.size
   have m2 := hc.cell l2 (fun e => by have h1 := HA7.out b e; have h2 := HBW.out; omega)
   clear hrs hd hc l2 HR8 HC8 HW8 HQ8 HN8
   obtain ⟨un, hun⟩ : ∃ un, un = usedN P7.tab := ⟨_, rfl⟩
   have hu7 : ¬ (7 : Int) < (un : Int) := by have h1 := used_le P7.tab; have h2 := HR9.out.iw.n8; omega
   have HUN : Hid (un = usedN P7.tab) := hun
   clear hun
   go_wp2_with fail
   refine (sused_walk HR9.out.st).mono ?_
   rw [← HUN.out]
   rintro e wu ⟨rfl, hwu⟩
   replace hwu := hwu.symm
   subst hwu
   have HGO : Hid (SrR k w sp sb B (i + 1) (.slice qa qn qc) w9) :=
    ⟨A7, P7, S9, _, L7, a, ⟨HR9.out, HLO7.out, HV7.out, .inl rfl, by show (i : Int) + 1 ≤ ((i + 1 : Nat) : Int); omega, HB1.out, by have := HB2I.out; omega⟩, HT.out, HQ9.out, fun x hx => ⟨(HQA7.out x hx).1, Nat.lt_of_lt_of_le (HQA7.out x hx).2 HSZ9.out⟩, HA7.out, by have := HC9.out; omega, HW9.out⟩
   have HGN : Hid (SrR k w sp sb (B + 1) (i + 1) (.slice (some ⟨g, 0, none⟩) nl nl) w9) :=
    ⟨A7, P7, S9, _, L7, N, ⟨HR9.out, HLO7.out, fun x => by have h := HV7b.out x; rw [show (((B + 1 : Nat) : Int) - 1) = (B : Int) by omega]; exact h, .inr (by show (B : Int) = ((B + 1 : Nat) : Int) - 1; omega), by show (i : Int) + 1 ≤ ((i + 1 : Nat) : Int); omega, by omega, by have := HB2I.out; omega⟩, HNT.out, HN9.out, fun x hx => ⟨(HNA7.out x hx).1, Nat.lt_of_lt_of_le (HNA7.out x hx).2 HSZ9.out⟩, HA7.out, by have := HC9.out; omega, HW9.out⟩
   clear HR9 HC9 HW9 HQ9 HN9
   go_wp2_with fail
   go_roundw
   case rel => first | exact ⟨i + 1, B, by go_num, rfl, by omega, by omega, HGO.out⟩ | exact ⟨i + 1, B + 1, by go_num, by go_num, by omega, by omega, HGN.out⟩
   case measure => simp [intOf]; omega
end
section
open Go.ChangeShapes Go.WideShapes Go.ChangeAt Go.RowKit

theorem lifted_storeRow (os : Os) (started : os.Started) (H : Type) (enc : TypeId × Value → H) :
  ReturnsInHanded {} Tryz.checked os 5 .any (Rows.storeRowSpec.pre6 enc Tryz.prog Tryz.f5 Rows.storeRowRow.domain false) (Rows.storeRowSpec.post enc Tryz.prog Tryz.f5 false true false false) := by
 refine returnsInHanded_of_change (C := Tryz.checked) own_knob started (by kernel_rfl) Tryz.func5
  (ChangeSpec.witness6 (enc := enc) (C := Tryz.checked) false ⟨#[], #[.int .i64 0, .slice none 0 0], []⟩ 8 (by kernel_rfl) (by kernel_rfl) (by kernel_rfl) (by kernel_rfl)) ?_
 intro W base args ds gs before hval0 hW hcnd _
 have hval : ∀ (j : Nat) t v, Tryz.f5.params[j]? = some t → args[j]? = some v → Value.okWide Tryz.prog W .any base t v := hval0
 have hW' := hW
 obtain ⟨p, q, hA0, hV, rfl, hfz, hnd⟩ := hW
 have hA : DataW.TrodAll enc Tryz.prog W 0 (fun _ => true) true Tryz.f5.params.toList args.toList ds p := hA0
 rw [Tryz.params5] at hA hval
 obtain ⟨v0, vs0, d0, ds0, p0, q0, hargs, rfl, rfl, t0, r0⟩ := trodAll_cons hA
 obtain ⟨v1, vs1, d1, ds1, p1, q1, rfl, rfl, rfl, t1, r1⟩ := trodAll_cons r0
 obtain ⟨rfl, rfl, rfl⟩ := trodAll_nil r1
 obtain rfl : args = #[v0, v1] := by cases args; simp_all
 obtain ⟨rfl, rfl⟩ := trodVars_none hV
 simp only [List.append_nil] at hW'
 have o0 := open_int Tryz.underlying3 (hval 0 3 v0 rfl rfl) t0
 obtain ⟨a0, e0, _, _, wf0⟩ := o0
 have w0 := i64_of_wf wf0
 subst e0
 obtain ⟨l1, b1⟩ := open_jobs (hval 1 57 v1 rfl rfl) t1
 refine (row_walk b1).mono fun e W' ⟨he, hB⟩ => ?_
 subst he
 exact ⟨_, rfl, post_of_below (pv := []) hW' (fun _ _ _ => (trodAll_cons_mk (shut_bool Tryz.underlying4 _) trodAll_mk0)) (fun sp hsp => (trodAll_cons_mk (again (by kernel_rfl) (of_decide_eq_true (by kernel_rfl)) t0 hB (fun x hx => by simpa using hW'.lt x (by simp [hx])) (fun x hx => hsp x (by simp [hx]))) (trodAll_cons_mk (again (by kernel_rfl) (of_decide_eq_true (by kernel_rfl)) t1 hB (fun x hx => by simpa using hW'.lt x (by simp [hx])) (fun x hx => hsp x (by simp [hx]))) trodAll_mk0))) (fun _ _ => rfl) (by simp) hB⟩
theorem storeRow_holds : Rows.StoreRowSaid :=
 OpenClaim.holds_of_wide 5 Tryz.f5 rfl rfl rfl rfl rfl rfl rfl ⟨rfl, rfl, rfl, rfl, rfl⟩ rfl rfl rfl rfl rfl (by kernel_rfl) Tryz.func5 (by kernel_rfl)
  (of_decide_eq_true (by kernel_rfl)) (by unfold Func.isWrapper; first | (rw [if_pos (by decide +kernel)]; kernel_rfl) | (rw [if_neg (by decide +kernel)]; exact ⟨rfl, rfl⟩))
  (fun os started H enc _ => lifted_storeRow os started H enc)
#print axioms storeRow_holds
end
end Go.Proofs.YtofkhgokfdpdiaaGreat
