/- The walk of MarkForm. -/
import Derived.Test.YtjcmmhonidamoabKq
namespace Go.Proofs.Ytjcmmhonidamoab
open Go.RowKit

theorem bv_upto {w : World} {ao : Option Addr} {n cap : Nat} {l : List Nat} (h : Bv w (.slice ao n cap) l) (k : Nat) (hk : k ≤ l.length) : Bv w (.slice ao k cap) (l.take k) := by
  obtain ⟨⟨ao', cap', e, h1, h2, h3, h4⟩, h5⟩ := h
  simp only [Value.slice.injEq] at e
  obtain ⟨rfl, _, rfl⟩ := e
  rw [ib_len] at h1
  refine ⟨⟨ao, cap, by rw [ib_len]; simp; omega, by rw [ib_len]; simp; omega, h2, h3, fun i hi => ?_⟩, fun c hc => h5 c (List.mem_of_mem_take hc)⟩
  rw [ib_len] at hi
  simp at hi
  obtain ⟨b, off, e1, e2⟩ := h4 i (by rw [ib_len]; omega)
  refine ⟨b, off, e1, ?_⟩
  rw [e2]
  have hi2 : i < l.length := by omega
  have hi3 : i < k := by omega
  simp [ib, List.getD, hi2, hi3]
theorem own_form8 {w : World} {base e : Nat} {v : Value} {n : Nat} {xs : List Value} (h : w.ownsRow base e 1 v n xs) : ∃ a c, v = .slice a n c := by
  rcases h.2 with ⟨rfl, h0⟩ | ⟨g, cap, cur, rfl, _⟩
  · exact ⟨none, 0, by rw [h0]⟩
  · exact ⟨_, _, rfl⟩
theorem Kv.set {w : World} {v : Value} {l : List Nat} (h : Kv w v l) {p : Addr} {u : Value} (hp : w.cell? p = some u) (hu : ∀ x, u ≠ .int .u64 x) (u' : Value) : Kv (w.setCell p u') v l := by
  obtain ⟨ao, cap, e, h1, h2, h3, h4⟩ := h
  refine ⟨ao, cap, e, h1, h2, h3, fun i hi => ?_⟩
  obtain ⟨b, off, e1, e2⟩ := h4 i hi
  refine ⟨b, off, e1, ?_⟩
  rw [World.cell?_setCell_other _ _ _ _ (by rintro rfl; rw [hp] at e2; cases e2; exact hu _ rfl)]
  exact e2
/-- A mark's block written over: what else there is stays. -/
theorem over3 {w : World} {D : Nat} {b a : Int} {v : Value} (h : MB w D b a v) (hv : ∀ k x, v ≠ .int k x) (b' a' : Int) (v' : Value) :
    MB (((w.setCell ⟨D, 0, none⟩ (.int .i64 b')).setCell ⟨D, 1, none⟩ (.int .i64 a')).setCell ⟨D, 2, none⟩ v') D b' a' v' ∧
    Ch (fun x => x = D) w (((w.setCell ⟨D, 0, none⟩ (.int .i64 b')).setCell ⟨D, 1, none⟩ (.int .i64 a')).setCell ⟨D, 2, none⟩ v') ∧
    (∀ u l, Kv w u l → Kv (((w.setCell ⟨D, 0, none⟩ (.int .i64 b')).setCell ⟨D, 1, none⟩ (.int .i64 a')).setCell ⟨D, 2, none⟩ v') u l) ∧
    (∀ u l, Bv w u l → Bv (((w.setCell ⟨D, 0, none⟩ (.int .i64 b')).setCell ⟨D, 1, none⟩ (.int .i64 a')).setCell ⟨D, 2, none⟩ v') u l) := by
  have h1 := h.set0 b'
  have h2 := h1.set1 a'
  refine ⟨h2.set2 v', ((ch_set w D 0 _).self (ch_set _ D 1 _)).self (ch_set _ D 2 _), fun u l hk => ?_, fun u l hk => ?_⟩
  · exact ((Kv.set hk h.c0 (by intro x e; cases e) _).set h1.c1 (by intro x e; cases e) _).set h2.c2 (fun x => hv _ x) _
  · exact ((hk.set h.c0 (by intro x e; cases e) _).set h1.c1 (by intro x e; cases e) _).set h2.c2 (fun x => hv _ x) _
theorem slice_noint {ao : Option Addr} {n cap : Nat} : ∀ k x, Value.slice ao n cap ≠ .int k x := by intro k x e; cases e
theorem encM_no {m : Mk} (h : (encM m).2 ≠ 0) : encM m = ([], 1) ∧ soundB m = false := by
  cases hs : soundB m
  · exact ⟨by simp [encM, hs], rfl⟩
  · simp [encM, hs] at h
theorem encM_yes {m : Mk} (h : (encM m).2 = 0) : encM m = (bytesM m, 0) ∧ soundB m = true := by
  cases hs : soundB m
  · simp [encM, hs] at h
  · exact ⟨by simp [encM, hs], rfl⟩

set_option maxRecDepth 100000 in
set_option maxHeartbeats 8000000 in
theorem markform_walk {w : World} {bv kv : Value} {b : List Nat} {k : List Nat} (mb ma : Int) (hb : Bv w bv b) (hk : Kv w kv k) (hok : keysOk k) :
    Calls Try.prog 7 #[bv, .agg #[.int .i64 mb, .int .i64 ma, kv]] w fun e w' => e = .returned (.bool true) ∧ Below w.heap.size w w' := by
  have HBW : Hid (Bv w bv b) := hb
  have HK0 : Hid (Kv (w.alloc (Obj.cells #[.int .i64 mb, .int .i64 ma, kv] 24)) kv k) := hk.below (below_alloc _ _)
  have HM0 : Hid _ := mb_new w mb ma kv
  have HB0 : Hid _ := below_alloc w (Obj.cells #[.int .i64 mb, .int .i64 ma, kv] 24)
  have HOK : Hid _ := hok
  obtain ⟨ka, kn, kc, rfl⟩ := sv_any hk
  clear hb hk hok
  go_enter Try.func7, Try.ntmps7
  go_upto_region 1 with fail
  obtain ⟨P, hP⟩ : ∃ P, P = w.heap.size := ⟨_, rfl⟩
  rw [← hP] at HM0 ⊢
  have HPW : Hid (P = w.heap.size) := hP
  clear hP
  generalize w.alloc (Obj.cells #[.int .i64 mb, .int .i64 ma, .slice ka kn kc] 24) = w0 at HK0 HM0 HB0 ⊢
  go_wp2_with fail
  refine (awake_walk _).mono ?_
  rintro e w1 ⟨rfl, hB1⟩
  have HB1 : Hid (Below w.heap.size w w1) := below_trans HB0.out hB1
  have HK1 : Hid (Kv w1 (.slice ka kn kc) k) := HK0.out.below hB1
  have HM1 : Hid _ := HM0.out.keep hB1
  clear hB1 HB0 HK0 HM0
  go_wp2_with fail
  refine (mdec_walk (HBW.out.below HB1.out)).mono ?_
  rintro e w2 ⟨v2, he, ho2, hB2⟩
  obtain ⟨E, hE⟩ : ∃ E, E = (decM b).2 := ⟨_, rfl⟩
  obtain ⟨db, hdb⟩ : ∃ db, db = (decM b).1.b := ⟨_, rfl⟩
  obtain ⟨da, hda⟩ : ∃ da, da = (decM b).1.a := ⟨_, rfl⟩
  obtain ⟨dk, hdk⟩ : ∃ dk, dk = (decM b).1.k := ⟨_, rfl⟩
  have hd : (decM b).1 = ⟨db, da, dk⟩ := by rw [hdb, hda, hdk]
  rw [← hE, ← hdb, ← hda] at he
  rw [← hdk] at ho2
  clear hdb hda hdk
  subst he
  have HEE : Hid (E = (decM b).2) := hE
  have HDD : Hid ((decM b).1 = ⟨db, da, dk⟩) := hd
  clear hE hd
  obtain ⟨ga, gn, gc, rfl⟩ := sv_any (own_sv ho2)
  have HG2 : Hid (Kv w2 (.slice ga gn gc) dk) := own_sv ho2
  have HBX : Hid (Below w.heap.size w (w2.alloc (Obj.cells #[.int .i64 db, .int .i64 da, .slice ga gn gc] 24))) := below_trans HB1.out (below_trans hB2 (below_alloc _ _))
  have HKX : Hid (Kv (w2.alloc (Obj.cells #[.int .i64 db, .int .i64 da, .slice ga gn gc] 24)) (.slice ka kn kc) k) := HK1.out.below (below_trans hB2 (below_alloc _ _))
  have HGX : Hid (Kv (w2.alloc (Obj.cells #[.int .i64 db, .int .i64 da, .slice ga gn gc] 24)) (.slice ga gn gc) dk) := HG2.out.below (below_alloc _ _)
  have HMX : Hid _ := HM1.out.keep (below_trans hB2 (below_alloc _ (Obj.cells #[.int .i64 db, .int .i64 da, .slice ga gn gc] 24)))
  have HDX : Hid _ := mb_new w2 db da (.slice ga gn gc)
  have HPD : Hid (P < w2.heap.size) := by show _ < _; have h := (below_trans HB1.out hB2).size; have h1 := cell_lt (HM1.out.keep hB2).c0; exact h1
  clear ho2 hB2 HG2 HB1 HK1 HM1
  go_upto_region 4 with fail
  obtain ⟨D, hD⟩ : ∃ D, D = w2.heap.size := ⟨_, rfl⟩
  rw [← hD] at HDX HPD ⊢
  clear hD
  generalize w2.alloc (Obj.cells #[.int .i64 db, .int .i64 da, .slice ga gn gc] 24) = wx at HBX HKX HGX HMX HDX ⊢
  by_cases hE0 : E = 0
  · subst hE0
    have HF : Hid _ := formM_back HBW.out.2 HEE.out.symm
    rw [HDD.out] at HF
    clear HEE HDD
    have d0 := HDX.out.c0
    have d1 := HDX.out.c1
    have d2 := HDX.out.c2
    go_wp2_with fail
    refine (menc_walk HGX.out HF.out.2.2 db da).mono ?_
    rintro e w9 ⟨v9, he, ho9, hB9⟩
    rw [HF.out.2.1] at he ho9
    subst he
    have HB9 : Hid (Below w.heap.size w w9) := below_trans HBX.out hB9
    have HK9 : Hid (Kv w9 (.slice ka kn kc) k) := HKX.out.below hB9
    have HG9 : Hid (Kv w9 (.slice ga gn gc) dk) := HGX.out.below hB9
    have HM9 : Hid _ := HMX.out.keep hB9
    have HD9 : Hid _ := HDX.out.keep hB9
    have s1 : (convert 26 9 v9).run Try.prog w9 = .ok (.string (str b)) w9 := (own_bv ho9 HBW.out.2).str 26 5 9 Try.underlying26 Try.underlying5 Try.underlying9
    have s2 : (convert 26 9 bv).run Try.prog w9 = .ok (.string (str b)) w9 := (HBW.out.below HB9.out).str 26 5 9 Try.underlying26 Try.underlying5 Try.underlying9
    clear hB9 ho9 HBX HKX HGX HMX HDX d0 d1 d2
    generalize str b = S0 at s1 s2
    have d0 := HD9.out.c0
    have d1 := HD9.out.c1
    have d2 := HD9.out.c2
    go_wp2_with fail
    clear s1 s2
    refine (sound_walk HG9.out db da).mono ?_
    rw [HF.out.1]
    rintro e w3 ⟨rfl, hB3⟩
    have HB3 : Hid (Below w.heap.size w w3) := below_trans HB9.out hB3
    have HK3 : Hid (Kv w3 (.slice ka kn kc) k) := HK9.out.below hB3
    have HM3 : Hid _ := HM9.out.keep hB3
    have HD3 : Hid _ := HD9.out.keep hB3
    clear hB3 HB9 HK9 HG9 HM9 HD9 d0 d1 d2
    have c0 := HM3.out.c0
    have c1 := HM3.out.c1
    have c2 := HM3.out.c2
    go_wp2_with fail
    refine (menc_walk HK3.out HOK.out mb ma).mono ?_
    rintro e w4 ⟨v4, he, ho4, hB4⟩
    have HB4 : Hid (Below w.heap.size w w4) := below_trans HB3.out hB4
    have HK4 : Hid (Kv w4 (.slice ka kn kc) k) := HK3.out.below hB4
    have HM4 : Hid _ := HM3.out.keep hB4
    have HD4 : Hid _ := HD3.out.keep hB4
    clear hB4 HB3 HK3 HM3 HD3 c0 c1 c2
    have c0 := HM4.out.c0
    have c1 := HM4.out.c1
    have c2 := HM4.out.c2
    by_cases h2 : (encM ⟨mb, ma, k⟩).2 = 0
    rotate_left
    · obtain ⟨q1, q2⟩ := encM_no h2
      rw [q1] at he ho4
      subst he
      obtain ⟨a4, c4, rfl⟩ := own_form8 ho4
      have HS : Hid _ := q2
      clear ho4 h2 q1 q2
      go_wp2_with fail
      refine (sound_walk HK4.out mb ma).mono ?_
      rw [HS.out]
      rintro e w5 ⟨rfl, hB5⟩
      have HB5 : Hid (Below w.heap.size w w5) := below_trans HB4.out hB5
      clear hB5
      go_wp2_with fail
      go_ret
      exact ⟨rfl, HB5.out⟩
    obtain ⟨q1, q2⟩ := encM_yes h2
    have HS : Hid (soundB ⟨mb, ma, k⟩ = true) := q2
    rw [q1] at he ho4
    subst he
    obtain ⟨B, hBB⟩ : ∃ B, B = bytesM ⟨mb, ma, k⟩ := ⟨_, rfl⟩
    rw [← hBB] at ho4
    have HBY : Hid (∀ c ∈ B, c < 256) := by show ∀ c ∈ B, c < 256; rw [hBB]; exact bytesM_lt HS.out HOK.out
    have HV4 : Hid (Bv w4 v4 B) := own_bv ho4 HBY.out
    have HLEN : Hid (B.length ≤ 670) := by show _ ≤ _; rw [hBB]; exact bytesM_len HS.out
    have HTH : Hid (∀ r, decM (B ++ r) = if r.length ≠ 0 then (zeroM, 5) else (⟨mb, ma, k⟩, 0)) := by show ∀ r, _; rw [hBB]; exact formM_there HS.out HOK.out
    have HCU : Hid (∀ n, n < B.length → decM (B.take n) = (zeroM, 3)) := by show ∀ n, _; rw [hBB]; exact fun n hn => formM_cut HS.out HOK.out hn
    have HDE : Hid (decM B = (⟨mb, ma, k⟩, 0)) := by show decM B = _; have h := HTH.out []; simpa using h
    clear ho4 hBB h2 q1 q2
    have d0 := HD4.out.c0
    have d1 := HD4.out.c1
    have d2 := HD4.out.c2
    have y0 := HD4.out.z 0
    have y1 := HD4.out.z 1
    have y2 := HD4.out.z 2
    go_wp2_with fail
    refine (mdec_walk HV4.out).mono ?_
    rintro e w5 ⟨v5, he, ho5, hB5⟩
    rw [HDE.out] at he ho5
    subst he
    have HK5' : Hid (Kv w5 v5 k) := own_sv ho5
    obtain ⟨ea, en, ec, rfl⟩ := sv_any HK5'.out
    have HB5 : Hid (Below w.heap.size w w5) := below_trans HB4.out hB5
    have HV5 : Hid (Bv w5 v4 B) := HV4.out.below hB5
    have HK5 : Hid (Kv w5 (.slice ka kn kc) k) := HK4.out.below hB5
    have HM5 : Hid _ := HM4.out.keep hB5
    have HD5 : Hid _ := HD4.out.keep hB5
    clear ho5 hB5 HV4 HB4 HK4 HM4 HD4 c0 c1 c2 d0 d1 d2 y0 y1 y2
    have d0 := HD5.out.c0
    have d1 := HD5.out.c1
    have d2 := HD5.out.c2
    have y0 := HD5.out.z 0
    have y1 := HD5.out.z 1
    have y2 := HD5.out.z 2
    have HOV : Hid _ := over3 HD5.out slice_noint mb ma (.slice ea en ec)
    go_upto_region 12 with fail
    generalize ((w5.setCell ⟨D, 0, none⟩ (.int .i64 mb)).setCell ⟨D, 1, none⟩ (.int .i64 ma)).setCell ⟨D, 2, none⟩ (.slice ea en ec) = w6 at HOV ⊢
    clear d0 d1 d2 y0 y1 y2
    have HB6 : Hid (Below w.heap.size w w6) := HB5.out.trans (HOV.out.2.1.to_below HB5.out.size (fun x hx => by have h1 := HPD.out; have h2 := HPW.out; omega))
    have HV6 : Hid (Bv w6 v4 B) := HOV.out.2.2.2 _ _ HV5.out
    have HK6 : Hid (Kv w6 (.slice ka kn kc) k) := HOV.out.2.2.1 _ _ HK5.out
    have HJ6 : Hid (Kv w6 (.slice ea en ec) k) := HOV.out.2.2.1 _ _ HK5'.out
    have HM6 : Hid _ := HM5.out.ch HOV.out.2.1 (by have h1 := HPD.out; omega)
    have HD6 : Hid _ := HOV.out.1
    clear HB5 HV5 HK5 HK5' HM5 HD5 HOV
    have c0 := HM6.out.c0
    have c1 := HM6.out.c1
    have c2 := HM6.out.c2
    have d0 := HD6.out.c0
    have d1 := HD6.out.c1
    have d2 := HD6.out.c2
    obtain ⟨a4, n4, q4, h4⟩ := bv_any HV6.out
    subst h4
    obtain ⟨hn4, hq4, hm4⟩ := bv_le HV6.out
    have HN4 : Hid (n4 = B.length) := hn4
    have h4a : ¬ (1024 : Int) < (n4 : Int) := by have := HLEN.out; omega
    have h4b : (n4 : Int) ≤ (q4 : Int) := by omega
    have h4c : (n4 : Int) ≤ 1024 := by have := HLEN.out; omega
    clear hn4 hq4 hm4
    go_wp2_with fail
    refine (msame_walk mb ma HJ6.out HK6.out).mono ?_
    rintro e w7 ⟨rfl, hB7⟩
    have HB7 : Hid (Below w.heap.size w w7) := below_trans HB6.out hB7
    have HV7 : Hid (Bv w7 (.slice a4 n4 q4) B) := HV6.out.below hB7
    clear hB7 HB6 HV6 HK6 HJ6 HM6 HD6 c0 c1 c2 d0 d1 d2
    go_wp2_with fail
    go_loopw [10, 11] (fun _ iv wr => ∃ j : Nat, iv = .int .i64 j ∧ j ≤ n4 ∧ Below w.heap.size w wr ∧ Bv wr (.slice a4 n4 q4) B) (fun _ iv _ => n4 - (intOf iv).toNat)
    case atStart => exact ⟨0, rfl, by omega, HB7.out, HV7.out⟩
    case round =>
      obtain ⟨j, rfl, hjn, hbel, hbv⟩ := hrel
      have HBR : Hid (Below w.heap.size w wr) := hbel
      have HVR : Hid (Bv wr (.slice a4 n4 q4) B) := hbv
      clear hbel hbv
      by_cases hlt : j < n4
      · have hlti : (j : Int) < (n4 : Int) := by omega
        have hjq : (j : Int) ≤ (q4 : Int) := by omega
        have HCUT : Hid (decM (B.take j) = (zeroM, 3)) := HCU.out j (by rw [← HN4.out]; exact hlt)
        go_wp2_with fail
        refine (mdec_walk (bv_upto HVR.out j (by rw [← HN4.out]; omega))).mono ?_
        rintro e wq ⟨vq, he, _, hBq⟩
        rw [HCUT.out] at he
        subst he
        have HBq : Hid (Below w.heap.size w wq) := below_trans HBR.out hBq
        have HVq : Hid (Bv wq (.slice a4 n4 q4) B) := HVR.out.below hBq
        clear hBq
        go_wp2_with fail
        go_roundw
        case rel => exact ⟨j + 1, by go_num, by omega, HBq.out, HVq.out⟩
        case measure => simp [intOf]; omega
      · have hlti : ¬ (j : Int) < (n4 : Int) := by omega
        have HO0 : Hid ((wr.alloc (Obj.cells #[] 5)).ownsRow wr.heap.size 5 1 (.slice (some ⟨wr.heap.size, 0, none⟩) 0 0) 0 []) := World.ownsRow_made wr #[] 0 (Nat.le_refl _) (by simp [maxLen]) rfl
        have HVA : Hid (Bv (wr.alloc (Obj.cells #[] 5)) (.slice a4 n4 q4) B) := HVR.out.below (below_alloc _ _)
        have HLB : Hid ((ib B).length ≤ 1024) := by show _ ≤ _; rw [ib_len]; have := HLEN.out; omega
        go_wp2_with (first | (at_builtin; refine wpList_append_sv (by rfl) (.tmp 93) (.tmp 94) 26 (by rfl) wr.heap.size 5 .u8 1 Try.underlying26 info_u8 _ _ _ (by rfl) HO0.out _ _ (by rfl) HVA.out.1 (by have := HLB.out; simp only [maxLen]; omega) (by have := HLB.out; omega) (by rw [size_allocC]; omega) ?_; intro v8 w8 hown8 hgrow8; have HBA : Hid (Below wr.heap.size wr w8) := (below_alloc wr _).trans (grown_belowC HO0.out hgrow8 (by rw [size_allocC]; omega)); have HO8 : Hid (w8.ownsRow wr.heap.size 5 1 v8 (0 + (ib B).length) ((ib B).map (Value.int .u8))) := hown8; clear hown8 hgrow8) | (at_builtin; refine wpList_append_sv (by rfl) (.tmp 95) (.tmp 96) 26 (by rfl) wr.heap.size 5 .u8 1 Try.underlying26 info_u8 _ _ _ (by rfl) (HO8.out.alloc _) _ [0] (by rfl) (sv_one .u8 _ _ _) (by have := HLB.out; simp only [maxLen, List.length_singleton]; omega) (by have := HLB.out; simp only [List.length_singleton]; omega) (by rw [size_allocC]; have := HBA.out.size; omega) ?_; intro v9 w9 hown9 hgrow9))
        have HV9 : Hid (Bv w9 v9 (B ++ [0])) := by
          refine own_bv (base := wr.heap.size) (e := 5) (n := 0 + (ib B).length + [(0 : Int)].length) ?_ ?_
          · rw [ib_append, List.map_append]; exact hown9
          · intro c hc; simp only [List.mem_append, List.mem_singleton] at hc; rcases hc with h | rfl; exact HBY.out c h; omega
        have HB9 : Hid (Below w.heap.size w w9) := below_trans HBR.out (HBA.out.trans ((below_alloc w8 _).mono HBA.out.size |>.trans (grown_belowC (HO8.out.alloc _) hgrow9 (by rw [size_allocC]; have := HBA.out.size; omega))))
        have HTL : Hid (decM (B ++ [0]) = (zeroM, 5)) := by show decM (B ++ [0]) = _; have h := HTH.out [0]; simpa using h
        clear hown9 hgrow9
        go_wp2_with fail
        refine (mdec_walk HV9.out).mono ?_
        rintro e wa ⟨va, he, _, hBa⟩
        rw [HTL.out] at he
        subst he
        go_wp2_with fail
        go_ret
        exact ⟨rfl, below_trans HB9.out hBa⟩
  · have hEi : ((E : Int) == 0) = false := by rw [beq_eq_false_iff_ne]; omega
    have HB3 := HBX
    have HK3 := HKX
    have HM3 := HMX
    have HD3 := HDX
    clear HEE HDD hE0 HBX HKX HGX HMX HDX
    have c0 := HM3.out.c0
    have c1 := HM3.out.c1
    have c2 := HM3.out.c2
    go_wp2_with fail
    refine (menc_walk HK3.out HOK.out mb ma).mono ?_
    rintro e w4 ⟨v4, he, ho4, hB4⟩
    have HB4 : Hid (Below w.heap.size w w4) := below_trans HB3.out hB4
    have HK4 : Hid (Kv w4 (.slice ka kn kc) k) := HK3.out.below hB4
    have HM4 : Hid _ := HM3.out.keep hB4
    have HD4 : Hid _ := HD3.out.keep hB4
    clear hB4 HB3 HK3 HM3 HD3 c0 c1 c2
    have c0 := HM4.out.c0
    have c1 := HM4.out.c1
    have c2 := HM4.out.c2
    by_cases h2 : (encM ⟨mb, ma, k⟩).2 = 0
    rotate_left
    · obtain ⟨q1, q2⟩ := encM_no h2
      rw [q1] at he ho4
      subst he
      obtain ⟨a4, c4, rfl⟩ := own_form8 ho4
      have HS : Hid _ := q2
      clear ho4 h2 q1 q2
      go_wp2_with fail
      refine (sound_walk HK4.out mb ma).mono ?_
      rw [HS.out]
      rintro e w5 ⟨rfl, hB5⟩
      have HB5 : Hid (Below w.heap.size w w5) := below_trans HB4.out hB5
      clear hB5
      go_wp2_with fail
      go_ret
      exact ⟨rfl, HB5.out⟩
    obtain ⟨q1, q2⟩ := encM_yes h2
    have HS : Hid (soundB ⟨mb, ma, k⟩ = true) := q2
    rw [q1] at he ho4
    subst he
    obtain ⟨B, hBB⟩ : ∃ B, B = bytesM ⟨mb, ma, k⟩ := ⟨_, rfl⟩
    rw [← hBB] at ho4
    have HBY : Hid (∀ c ∈ B, c < 256) := by show ∀ c ∈ B, c < 256; rw [hBB]; exact bytesM_lt HS.out HOK.out
    have HV4 : Hid (Bv w4 v4 B) := own_bv ho4 HBY.out
    have HLEN : Hid (B.length ≤ 670) := by show _ ≤ _; rw [hBB]; exact bytesM_len HS.out
    have HTH : Hid (∀ r, decM (B ++ r) = if r.length ≠ 0 then (zeroM, 5) else (⟨mb, ma, k⟩, 0)) := by show ∀ r, _; rw [hBB]; exact formM_there HS.out HOK.out
    have HCU : Hid (∀ n, n < B.length → decM (B.take n) = (zeroM, 3)) := by show ∀ n, _; rw [hBB]; exact fun n hn => formM_cut HS.out HOK.out hn
    have HDE : Hid (decM B = (⟨mb, ma, k⟩, 0)) := by show decM B = _; have h := HTH.out []; simpa using h
    clear ho4 hBB h2 q1 q2
    have d0 := HD4.out.c0
    have d1 := HD4.out.c1
    have d2 := HD4.out.c2
    have y0 := HD4.out.z 0
    have y1 := HD4.out.z 1
    have y2 := HD4.out.z 2
    go_wp2_with fail
    refine (mdec_walk HV4.out).mono ?_
    rintro e w5 ⟨v5, he, ho5, hB5⟩
    rw [HDE.out] at he ho5
    subst he
    have HK5' : Hid (Kv w5 v5 k) := own_sv ho5
    obtain ⟨ea, en, ec, rfl⟩ := sv_any HK5'.out
    have HB5 : Hid (Below w.heap.size w w5) := below_trans HB4.out hB5
    have HV5 : Hid (Bv w5 v4 B) := HV4.out.below hB5
    have HK5 : Hid (Kv w5 (.slice ka kn kc) k) := HK4.out.below hB5
    have HM5 : Hid _ := HM4.out.keep hB5
    have HD5 : Hid _ := HD4.out.keep hB5
    clear ho5 hB5 HV4 HB4 HK4 HM4 HD4 c0 c1 c2 d0 d1 d2 y0 y1 y2
    have d0 := HD5.out.c0
    have d1 := HD5.out.c1
    have d2 := HD5.out.c2
    have y0 := HD5.out.z 0
    have y1 := HD5.out.z 1
    have y2 := HD5.out.z 2
    have HOV : Hid _ := over3 HD5.out slice_noint mb ma (.slice ea en ec)
    go_upto_region 12 with fail
    generalize ((w5.setCell ⟨D, 0, none⟩ (.int .i64 mb)).setCell ⟨D, 1, none⟩ (.int .i64 ma)).setCell ⟨D, 2, none⟩ (.slice ea en ec) = w6 at HOV ⊢
    clear d0 d1 d2 y0 y1 y2
    have HB6 : Hid (Below w.heap.size w w6) := HB5.out.trans (HOV.out.2.1.to_below HB5.out.size (fun x hx => by have h1 := HPD.out; have h2 := HPW.out; omega))
    have HV6 : Hid (Bv w6 v4 B) := HOV.out.2.2.2 _ _ HV5.out
    have HK6 : Hid (Kv w6 (.slice ka kn kc) k) := HOV.out.2.2.1 _ _ HK5.out
    have HJ6 : Hid (Kv w6 (.slice ea en ec) k) := HOV.out.2.2.1 _ _ HK5'.out
    have HM6 : Hid _ := HM5.out.ch HOV.out.2.1 (by have h1 := HPD.out; omega)
    have HD6 : Hid _ := HOV.out.1
    clear HB5 HV5 HK5 HK5' HM5 HD5 HOV
    have c0 := HM6.out.c0
    have c1 := HM6.out.c1
    have c2 := HM6.out.c2
    have d0 := HD6.out.c0
    have d1 := HD6.out.c1
    have d2 := HD6.out.c2
    obtain ⟨a4, n4, q4, h4⟩ := bv_any HV6.out
    subst h4
    obtain ⟨hn4, hq4, hm4⟩ := bv_le HV6.out
    have HN4 : Hid (n4 = B.length) := hn4
    have h4a : ¬ (1024 : Int) < (n4 : Int) := by have := HLEN.out; omega
    have h4b : (n4 : Int) ≤ (q4 : Int) := by omega
    have h4c : (n4 : Int) ≤ 1024 := by have := HLEN.out; omega
    clear hn4 hq4 hm4
    go_wp2_with fail
    refine (msame_walk mb ma HJ6.out HK6.out).mono ?_
    rintro e w7 ⟨rfl, hB7⟩
    have HB7 : Hid (Below w.heap.size w w7) := below_trans HB6.out hB7
    have HV7 : Hid (Bv w7 (.slice a4 n4 q4) B) := HV6.out.below hB7
    clear hB7 HB6 HV6 HK6 HJ6 HM6 HD6 c0 c1 c2 d0 d1 d2
    go_wp2_with fail
    go_loopw [10, 11] (fun _ iv wr => ∃ j : Nat, iv = .int .i64 j ∧ j ≤ n4 ∧ Below w.heap.size w wr ∧ Bv wr (.slice a4 n4 q4) B) (fun _ iv _ => n4 - (intOf iv).toNat)
    case atStart => exact ⟨0, rfl, by omega, HB7.out, HV7.out⟩
    case round =>
      obtain ⟨j, rfl, hjn, hbel, hbv⟩ := hrel
      have HBR : Hid (Below w.heap.size w wr) := hbel
      have HVR : Hid (Bv wr (.slice a4 n4 q4) B) := hbv
      clear hbel hbv
      by_cases hlt : j < n4
      · have hlti : (j : Int) < (n4 : Int) := by omega
        have hjq : (j : Int) ≤ (q4 : Int) := by omega
        have HCUT : Hid (decM (B.take j) = (zeroM, 3)) := HCU.out j (by rw [← HN4.out]; exact hlt)
        go_wp2_with fail
        refine (mdec_walk (bv_upto HVR.out j (by rw [← HN4.out]; omega))).mono ?_
        rintro e wq ⟨vq, he, _, hBq⟩
        rw [HCUT.out] at he
        subst he
        have HBq : Hid (Below w.heap.size w wq) := below_trans HBR.out hBq
        have HVq : Hid (Bv wq (.slice a4 n4 q4) B) := HVR.out.below hBq
        clear hBq
        go_wp2_with fail
        go_roundw
        case rel => exact ⟨j + 1, by go_num, by omega, HBq.out, HVq.out⟩
        case measure => simp [intOf]; omega
      · have hlti : ¬ (j : Int) < (n4 : Int) := by omega
        have HO0 : Hid ((wr.alloc (Obj.cells #[] 5)).ownsRow wr.heap.size 5 1 (.slice (some ⟨wr.heap.size, 0, none⟩) 0 0) 0 []) := World.ownsRow_made wr #[] 0 (Nat.le_refl _) (by simp [maxLen]) rfl
        have HVA : Hid (Bv (wr.alloc (Obj.cells #[] 5)) (.slice a4 n4 q4) B) := HVR.out.below (below_alloc _ _)
        have HLB : Hid ((ib B).length ≤ 1024) := by show _ ≤ _; rw [ib_len]; have := HLEN.out; omega
        go_wp2_with (first | (at_builtin; refine wpList_append_sv (by rfl) (.tmp 93) (.tmp 94) 26 (by rfl) wr.heap.size 5 .u8 1 Try.underlying26 info_u8 _ _ _ (by rfl) HO0.out _ _ (by rfl) HVA.out.1 (by have := HLB.out; simp only [maxLen]; omega) (by have := HLB.out; omega) (by rw [size_allocC]; omega) ?_; intro v8 w8 hown8 hgrow8; have HBA : Hid (Below wr.heap.size wr w8) := (below_alloc wr _).trans (grown_belowC HO0.out hgrow8 (by rw [size_allocC]; omega)); have HO8 : Hid (w8.ownsRow wr.heap.size 5 1 v8 (0 + (ib B).length) ((ib B).map (Value.int .u8))) := hown8; clear hown8 hgrow8) | (at_builtin; refine wpList_append_sv (by rfl) (.tmp 95) (.tmp 96) 26 (by rfl) wr.heap.size 5 .u8 1 Try.underlying26 info_u8 _ _ _ (by rfl) (HO8.out.alloc _) _ [0] (by rfl) (sv_one .u8 _ _ _) (by have := HLB.out; simp only [maxLen, List.length_singleton]; omega) (by have := HLB.out; simp only [List.length_singleton]; omega) (by rw [size_allocC]; have := HBA.out.size; omega) ?_; intro v9 w9 hown9 hgrow9))
        have HV9 : Hid (Bv w9 v9 (B ++ [0])) := by
          refine own_bv (base := wr.heap.size) (e := 5) (n := 0 + (ib B).length + [(0 : Int)].length) ?_ ?_
          · rw [ib_append, List.map_append]; exact hown9
          · intro c hc; simp only [List.mem_append, List.mem_singleton] at hc; rcases hc with h | rfl; exact HBY.out c h; omega
        have HB9 : Hid (Below w.heap.size w w9) := below_trans HBR.out (HBA.out.trans ((below_alloc w8 _).mono HBA.out.size |>.trans (grown_belowC (HO8.out.alloc _) hgrow9 (by rw [size_allocC]; have := HBA.out.size; omega))))
        have HTL : Hid (decM (B ++ [0]) = (zeroM, 5)) := by show decM (B ++ [0]) = _; have h := HTH.out [0]; simpa using h
        clear hown9 hgrow9
        go_wp2_with fail
        refine (mdec_walk HV9.out).mono ?_
        rintro e wa ⟨va, he, _, hBa⟩
        rw [HTL.out] at he
        subst he
        go_wp2_with fail
        go_ret
        exact ⟨rfl, below_trans HB9.out hBa⟩
end Go.Proofs.Ytjcmmhonidamoab
