/- Contract of the reference's Encode. -/
import Derived.Test.YtonnlhehbhiiiaaJd

import Derived.Test.YtonnlhehbhiiiaaJj

import Derived.Test.YtonnlhehbhiiiaaWo

namespace Go.Proofs.Ytonnlhehbhiiiaa

open Go.RowKit



/-- Where the reference's Encode stands: N its message, v its bytes so far. -/
structure RI (w0 : World) (N : Nat) (m : Ms) (ev qv pv : Value) (L : List Nat) (v : Value) (w : World) : Prop where
  n : N = w0.heap.size
  mx : MX w N m ev qv pv
  own : w.ownsRow (N + 1) 5 1 v L.length (cb L)
  below : Below N w0 w
theorem RI.lt {w0 w : World} {N : Nat} {m : Ms} {ev qv pv v : Value} {L : List Nat} (h : RI w0 N m ev qv pv L v w) : N + 1 ≤ w.heap.size := cell_lt h.mx.c0
theorem RI.old {w0 w w' : World} {N : Nat} {m : Ms} {ev qv pv v : Value} {L : List Nat} (h : RI w0 N m ev qv pv L v w) (hb : Below w.heap.size w w') : RI w0 N m ev qv pv L v w' :=
  ⟨h.n, h.mx.keep hb, own_belowC h.own hb, h.below.trans (hb.mono (by have := h.lt; omega))⟩
theorem RI.app {w0 w w' : World} {N : Nat} {m : Ms} {ev qv pv v v' : Value} {L l : List Nat} (h : RI w0 N m ev qv pv L v w) (hown : w'.ownsRow (N + 1) 5 1 v' (L.length + (ib l).length) (cb L ++ (ib l).map (Value.int .u8))) (hg : w.grownBy w' v.ownBlock) : RI w0 N m ev qv pv (L ++ l) v' w' := by
  have hb : Below (N + 1) w w' := grown_belowC h.own hg h.lt
  refine ⟨h.n, h.mx.belowB hb (by omega), ?_, h.below.trans (hb.mono (by omega))⟩
  rw [List.length_append, cb_append, ← ib_len l]
  exact hown
/-- The head's numbers in an array of their own. -/
def RA (G : Nat) (m : Ms) (w : World) : Prop := ∃ t, t ≠ 5 ∧ w.heap[G]? = some (.cells #[.int .i64 m.K, .int .i64 m.F, .int .i64 m.T, .int .i64 m.B, .int .i64 m.A] t (0, 0))
theorem RA.old {w w' : World} {G : Nat} {m : Ms} (h : RA G m w) (hb : Below w.heap.size w w') : RA G m w' := by
  obtain ⟨t, ht, hh⟩ := h
  exact ⟨t, ht, by rw [hb.block G ((Array.getElem?_eq_some_iff.1 hh).1)]; exact hh⟩
theorem RA.app {w w' : World} {G base n : Nat} {m : Ms} {v : Value} {xs : List Value} (h : RA G m w) (hown : w.ownsRow base 5 1 v n xs) (hg : w.grownBy w' v.ownBlock) : RA G m w' := by
  obtain ⟨t, ht, hh⟩ := h
  refine ⟨t, ht, ?_⟩
  rw [hg.block G ((Array.getElem?_eq_some_iff.1 hh).1) ?_]
  · exact hh
  · intro e
    rcases hown.2 with ⟨rfl, _⟩ | ⟨g, cap, cur, rfl, _, h2, _⟩
    · cases e
    · cases e
      rw [h2] at hh
      cases hh
      exact ht rfl
theorem RA.cell {w : World} {G : Nat} {m : Ms} (h : RA G m w) {i : Nat} (hi : i < 5) : w.cell? ⟨G, i, none⟩ = some (.int .i64 ((hdI m).getD i 0)) := by
  obtain ⟨t, _, hh⟩ := h
  rw [cell_of_row w G i _ _ (0, 0) hh]
  have : i = 0 ∨ i = 1 ∨ i = 2 ∨ i = 3 ∨ i = 4 := by omega
  rcases this with rfl | rfl | rfl | rfl | rfl <;> rfl
set_option maxHeartbeats 1000000 in
theorem rmenc_bad {w : World} {m : Ms} {ev qv pv : Value} (h : ML w m ev qv pv) (hs : sndM m = false) : Calls Try.prog 40 #[.agg #[.int .i64 m.K, .int .i64 m.F, .int .i64 m.T, .int .i64 m.B, .int .i64 m.A, .int .i64 m.C, ev, qv, pv]] w (EGot m w) := by
  have HB : Hid (Below w.heap.size w (w.alloc (Obj.cells #[.int .i64 m.K, .int .i64 m.F, .int .i64 m.T, .int .i64 m.B, .int .i64 m.A, .int .i64 m.C, ev, qv, pv] 35))) := below_alloc _ _
  have HV : Hid (ML (w.alloc (Obj.cells #[.int .i64 m.K, .int .i64 m.F, .int .i64 m.T, .int .i64 m.B, .int .i64 m.A, .int .i64 m.C, ev, qv, pv] 35)) m ev qv pv) := h.below (below_alloc _ _)
  have HS : Hid (sndM m = false) := hs
  have HEN : Hid (encS m = ([], 150)) := encS_bad hs
  clear h hs
  go_enter Try.func40, Try.ntmps40
  go_wp2_with fail
  refine (rmsound_walk HV.out).mono ?_
  rw [HS.out]
  rintro e w2 ⟨rfl, hB2⟩
  go_wp2_with fail
  go_ret2
  exact ⟨_, by rw [HEN.out]; rfl, by rw [HEN.out]; exact ⟨by simp [cb, ib], .inl ⟨rfl, rfl⟩⟩, below_trans HB.out hB2⟩


set_option maxRecDepth 100000 in
set_option maxHeartbeats 8000000 in
theorem rmenc_good {w : World} {m : Ms} {ev qv pv : Value} (h : ML w m ev qv pv) (hok : m.ok) (hs : sndM m = true) : Calls Try.prog 40 #[.agg #[.int .i64 m.K, .int .i64 m.F, .int .i64 m.T, .int .i64 m.B, .int .i64 m.A, .int .i64 m.C, ev, qv, pv]] w (EGot m w) := by
  have HB : Hid (Below w.heap.size w (w.alloc (Obj.cells #[.int .i64 m.K, .int .i64 m.F, .int .i64 m.T, .int .i64 m.B, .int .i64 m.A, .int .i64 m.C, ev, qv, pv] 35))) := below_alloc _ _
  have HV : Hid (ML (w.alloc (Obj.cells #[.int .i64 m.K, .int .i64 m.F, .int .i64 m.T, .int .i64 m.B, .int .i64 m.A, .int .i64 m.C, ev, qv, pv] 35)) m ev qv pv) := h.below (below_alloc _ _)
  have HMX : Hid (MX (w.alloc (Obj.cells #[.int .i64 m.K, .int .i64 m.F, .int .i64 m.T, .int .i64 m.B, .int .i64 m.A, .int .i64 m.C, ev, qv, pv] 35)) w.heap.size m ev qv pv) := mx_new w m ev qv pv
  have HVW : Hid (ML w m ev qv pv) := h
  have HS : Hid (sndM m = true) := hs
  have HP : Hid (SndP m) := snd_parts hs
  have HEN : Hid (encS m = (headL m ++ restL m, 0)) := encS_ok hs
  have HHL : Hid ((headL m).length ≤ 50) := headL_len m
  have HOK : Hid m.ok := hok
  obtain ⟨N, hN⟩ : ∃ N, N = w.heap.size := ⟨_, rfl⟩
  have HN : Hid (N = w.heap.size) := hN
  obtain ⟨ea, en, ec, rfl, he, _⟩ := sv_le h.e
  obtain ⟨qa, qn, qc, rfl, hq, _⟩ := sv_le h.q
  obtain ⟨pa, pn, pc, rfl, hp, hpm⟩ := qv_le h.p
  rw [ib_len] at hq
  have HEL : Hid (en = m.E.length) := he
  have HQL : Hid (qn = m.Q.length) := hq
  have HPL : Hid (pn = m.P.length) := hp
  clear h hs he hq hp hpm hok
  go_enter Try.func40, Try.ntmps40
  go_wp2_with fail
  refine (rmsound_walk HV.out).mono ?_
  rw [HS.out]
  rintro e w2 ⟨rfl, hB2⟩
  have hM2 := HMX.out.keep hB2
  have hBw := below_trans HB.out hB2
  rw [← hN] at hM2
  have HI : Hid (RI w N m (.slice ea en ec) (.slice qa qn qc) (.slice pa pn pc) [] (.slice (some ⟨w2.heap.size, 0, none⟩) 0 0) (w2.alloc (Obj.cells #[] 5))) :=
    ⟨hN, hM2.keep (below_alloc _ _), own_baseC (World.ownsRow_made w2 #[] 0 (Nat.le_refl _) (by simp [maxLen]) rfl) (cell_lt hM2.c0), by have k := below_trans hBw (below_alloc w2 (Obj.cells #[] 5)); rw [hN]; exact k⟩
  clear hM2 hBw hB2 HMX HB HV
  rw [← hN]
  clear hN
  go_upto_region 4 with fail
  obtain ⟨G, hG⟩ : ∃ G, G = w2.heap.size := ⟨_, rfl⟩
  rw [← hG] at HI
  rw [← hG]
  generalize w2.alloc (Obj.cells #[] 5) = w3 at HI ⊢
  clear hG
  have k0 := HI.out.mx.c0; have k1 := HI.out.mx.c1; have k2 := HI.out.mx.c2; have k3 := HI.out.mx.c3; have k4 := HI.out.mx.c4
  have hra : ∀ t, t ≠ 5 → RA w3.heap.size m (w3.alloc (Obj.cells #[.int .i64 m.K, .int .i64 m.F, .int .i64 m.T, .int .i64 m.B, .int .i64 m.A] t)) := fun t ht => ⟨t, ht, heap_alloc_new w3 _⟩
  have HRA : Hid _ := hra
  have HI3 : ∀ ob, RI w N m (.slice ea en ec) (.slice qa qn qc) (.slice pa pn pc) [] (.slice (some ⟨G, 0, none⟩) 0 0) (w3.alloc ob) := fun ob => HI.out.old (below_alloc _ _)
  replace HI3 : Hid _ := HI3
  clear hra HI
  go_upto_region 5 with fail
  obtain ⟨R, hR⟩ : ∃ R, R = w3.heap.size := ⟨_, rfl⟩
  rw [← hR] at HRA ⊢
  clear hR
  have HR4 : Hid (RA R m (w3.alloc (Obj.cells #[.int .i64 m.K, .int .i64 m.F, .int .i64 m.T, .int .i64 m.B, .int .i64 m.A] 84))) := HRA.out _ (by decide)
  have HI4 : Hid _ := HI3.out (Obj.cells #[.int .i64 m.K, .int .i64 m.F, .int .i64 m.T, .int .i64 m.B, .int .i64 m.A] 84)
  generalize w3.alloc (Obj.cells #[.int .i64 m.K, .int .i64 m.F, .int .i64 m.T, .int .i64 m.B, .int .i64 m.A] 84) = w4 at HR4 HI4 ⊢
  clear HRA HI3 k0 k1 k2 k3 k4
  have HH : Hid (∀ i, i < 5 → 0 ≤ (hdI m).getD i 0 ∧ (hdI m).getD i 0 ≤ 1099511627776) := by
    intro i hi
    have h1 := HP.out.k; have h2 := HP.out.f; have h3 := HP.out.t; have h4 := HP.out.b; have h5 := HP.out.a
    have : i = 0 ∨ i = 1 ∨ i = 2 ∨ i = 3 ∨ i = 4 := by omega
    rcases this with rfl | rfl | rfl | rfl | rfl <;> simp [hdI] <;> omega
  go_wp2_with fail
  go_loopw [4, 6] (fun bv iv wr => ∃ i : Nat, iv = .int .i64 i ∧ i ≤ 5 ∧ RI w N m (.slice ea en ec) (.slice qa qn qc) (.slice pa pn pc) (Wm.encAll ((nats (hdI m)).take i)) bv wr ∧ RA R m wr) (fun _ iv _ => 5 - (intOf iv).toNat)
  case atStart => exact ⟨0, rfl, by omega, HI4.out, HR4.out⟩
  case round =>
    clear HI4 HR4
    obtain ⟨i, rfl, hi5, hri, hra⟩ := hrel
    have HI : Hid (RI w N m (.slice ea en ec) (.slice qa qn qc) (.slice pa pn pc) (Wm.encAll ((nats (hdI m)).take i)) u4 wr) := hri
    have HRA : Hid (RA R m wr) := hra
    clear hri hra
    by_cases hlt : i < 5
    · have hlti : (i : Int) < 5 := by omega
      have hc := HRA.out.cell hlt
      obtain ⟨x, hx⟩ : ∃ x : Nat, (hdI m).getD i 0 = (x : Int) := ⟨((hdI m).getD i 0).toNat, by have := (HH.out i hlt).1; omega⟩
      rw [hx] at hc
      have hxb := (HH.out i hlt).2
      rw [hx] at hxb
      have HXB : Hid (x < 18446744073709551616) := by show _ < _; omega
      have hwx : IntKind.u64.wrap (x : Int) = (x : Int) := wrap_u64_id (by omega) (by omega)
      have HNX : Hid (Wm.encAll ((nats (hdI m)).take (i + 1)) = Wm.encAll ((nats (hdI m)).take i) ++ Wm.enc x) := by
        show _ = _
        rw [encAll_take (by simp [nats, hdI]; omega)]
        congr 2
        have e : i < (hdI m).length := by simp [hdI]; omega
        simp only [nats, List.getElem_map]
        have : (hdI m)[i] = (x : Int) := by rw [← hx]; simp [List.getD, List.getElem?_eq_getElem e]
        rw [this]; rfl
      have HLE : Hid ((Wm.encAll ((nats (hdI m)).take i)).length + (ib (Wm.enc x)).length ≤ 5000) := by have h2 := encAll_tlen (nats (hdI m)) i; rw [show (nats (hdI m)).length = 5 from rfl] at h2; have h3 := Wm.enc_len x; show _ ≤ _; rw [ib_len]; omega
      clear hx hxb
      go_wp2_with fail
      refine (rput_walk x HXB.out _).mono ?_
      rintro e w6 ⟨y6, rfl, hy6, hB6⟩
      have HY : Hid (Sv .u8 w6 y6 (ib (Wm.enc x))) := own_sv hy6
      have HI6 : Hid _ := HI.out.old hB6
      have HRA6 : Hid (RA R m w6) := RA.old HRA.out hB6
      obtain ⟨ya, yn, yq, rfl⟩ := sv_any HY.out
      clear hy6 hB6 HI HRA hc
      go_upto_region 7 with (at_builtin; refine wpList_append_sv (by rfl) (.tmp 30) (.tmp 35) 79 (by rfl) (N + 1) 5 .u8 1 Try.underlying79 info_u8 _ _ _ (by rfl) HI6.out.own _ _ (by rfl) HY.out (by have := HLE.out; simp only [maxLen]; omega) (by have := HLE.out; omega) HI6.out.lt ?_; intro v7 w7 hown hgrow)
      have hri := HI6.out.app hown hgrow
      rw [← HNX.out] at hri
      have HI7 : Hid _ := hri
      have HRA7 : Hid (RA R m w7) := RA.app HRA6.out HI6.out.own hgrow
      clear hown hgrow hri HI6 HRA6 HY
      go_wp2_with fail
      go_roundw
      case rel => exact ⟨i + 1, by simp, by omega, HI7.out, HRA7.out⟩
      case measure => simp [intOf]; omega
    · have hlti : ¬ (i : Int) < 5 := by omega
      obtain rfl : i = 5 := by omega
      have HI2 : Hid (RI w N m (.slice ea en ec) (.slice qa qn qc) (.slice pa pn pc) (headL m) u4 wr) := by have h := HI.out; rw [List.take_of_length_le (by simp [nats, hdI]), ← head_all] at h; exact h
      clear HI HH HRA
      have k0 := HI2.out.mx.c0
      obtain ⟨wo, hwo⟩ : ∃ wo, wo = wr := ⟨_, rfl⟩
      subst hwo
      go_wp2_with fail
      refine (field_walk m.K _).mono ?_
      rcases fld_cases m.K with hf | hf | hf | hf | hf
      · exact absurd hf HP.out.g
      · rw [hf]
        have hpa := ends_parts HP.out.ask hf
        have HRS : Hid (restL m = Wm.enc m.E.length ++ Wm.encAll (nats m.E)) := by show _ = _; unfold restL; rw [hf]; simp
        have HEA : Hid (numsA m.E = (restL m, 0)) := by show _ = _; rw [numsA_ok (fun i hi => by have := hpa.2.2 m.E[i] (List.getElem_mem hi); simp only [List.getD, List.getElem?_eq_getElem hi, Option.getD_some]; omega), HRS.out]; rfl
        have HEX : Hid (∀ x ∈ m.E, x < 9223372036854775808) := fun x hx => by have := hpa.2.2 x hx; omega
        have HE4 : Hid (m.E.length ≤ 4) := hpa.2.1
        rintro e w4 ⟨rfl, hw4⟩
        replace hw4 := hw4.symm
        subst hw4
        clear hpa hf k0
        have k6 := HI2.out.mx.c6
        have HVR : Hid _ := HVW.out.below (by have h := HI2.out.below; rw [HN.out] at h; exact h)
        go_wp2_with fail
        refine (rnums_walk HVR.out.e (by have := HE4.out; omega) HEX.out).mono ?_
        rintro e w6 ⟨y6, he, hy6, hB6⟩
        rw [HEA.out] at he hy6
        subst he
        have HY : Hid (Sv .u8 w6 y6 (ib (restL m))) := own_sv hy6
        have HI6 : Hid _ := HI2.out.old hB6
        obtain ⟨ya, yn, yq, rfl⟩ := sv_any HY.out
        have HLE : Hid ((headL m).length + (ib (restL m)).length ≤ 5000) := by have h1 := HHL.out; have h2 := restL_len HS.out; show _ ≤ _; rw [ib_len]; omega
        clear hy6 hB6 k6 HI2
        go_upto_region 28 with (at_builtin; refine wpList_append_sv (by rfl) (.tmp 48) (.tmp 49) 79 (by rfl) (N + 1) 5 .u8 1 Try.underlying79 info_u8 _ _ _ (by rfl) HI6.out.own _ _ (by rfl) HY.out (by have := HLE.out; simp only [maxLen]; omega) (by have := HLE.out; omega) HI6.out.lt ?_; intro v7 w7 hown hgrow)
        have HI9 : Hid _ := HI6.out.app hown hgrow
        clear hown hgrow HI6 HY
        have HOZ : Hid _ := HI9.out.own
        have HBZ : Hid _ := HI9.out.below
        go_wp2_with fail
        go_ret2
        exact ⟨_, by rw [HEN.out]; rfl, by rw [HEN.out]; exact own_baseC HOZ.out (by have := HN.out; omega), by have h := HBZ.out; rw [HN.out] at h; exact h⟩
      · rw [hf]
        have hpa := keys_parts HP.out.ask hf
        have H64 : Hid (m.Q.length ≤ 64) := by show _ ≤ _; omega
        have HRS : Hid (restL m = Wm.enc m.Q.length ++ Wm.encAll m.Q) := by show _ = _; unfold restL; rw [hf]; simp
        have HZ : Hid (headL m ++ Wm.enc m.Q.length = headL m ++ (Wm.enc m.Q.length ++ Wm.encAll (m.Q.take 0))) := by show _ = _; simp [Wm.encAll]
        rintro e w4 ⟨rfl, hw4⟩
        replace hw4 := hw4.symm
        subst hw4
        clear hpa hf k0
        have k6 := HI2.out.mx.c7
        have hwn : IntKind.u64.wrap (qn : Int) = (qn : Int) := wrap_u64_id (by omega) (by have := HQL.out; have := H64.out; omega)
        go_wp2_with fail
        refine (rput_walk qn (by have := HQL.out; have := H64.out; omega) _).mono ?_
        rw [HQL.out]
        rintro e w6 ⟨y6, rfl, hy6, hB6⟩
        rw [← HQL.out]
        have HY : Hid (Sv .u8 w6 y6 (ib (Wm.enc m.Q.length))) := own_sv hy6
        have HI6 : Hid _ := HI2.out.old hB6
        obtain ⟨ya, yn, yq, rfl⟩ := sv_any HY.out
        have HLE : Hid ((headL m).length + (ib (Wm.enc m.Q.length)).length ≤ 5000) := by have h1 := HHL.out; have h2 := Wm.enc_len m.Q.length; show _ ≤ _; rw [ib_len]; omega
        clear hy6 hB6 k6 HI2 hwn
        go_upto_region 15 with (at_builtin; refine wpList_append_sv (by rfl) (.tmp 53) (.tmp 58) 79 (by rfl) (N + 1) 5 .u8 1 Try.underlying79 info_u8 _ _ _ (by rfl) HI6.out.own _ _ (by rfl) HY.out (by have := HLE.out; simp only [maxLen]; omega) (by have := HLE.out; omega) HI6.out.lt ?_; intro v7 w7 hown hgrow)
        have hri := HI6.out.app hown hgrow
        rw [HZ.out] at hri
        have HI7 : Hid (RI w N m (.slice ea en ec) (.slice qa qn qc) (.slice pa pn pc) (headL m ++ (Wm.enc m.Q.length ++ Wm.encAll (m.Q.take 0))) v7 w7) := hri
        clear hown hgrow hri HI6 HY HLE
        have hnb : (qn : Int) ≤ 64 := by have := HQL.out; have := H64.out; omega
        go_wp2_with fail
        go_loopw [4, 9] (fun bv iv wr => ∃ i : Nat, iv = .int .i64 i ∧ i ≤ m.Q.length ∧ RI w N m (.slice ea en ec) (.slice qa qn qc) (.slice pa pn pc) (headL m ++ (Wm.enc m.Q.length ++ Wm.encAll (m.Q.take i))) bv wr) (fun _ iv _ => m.Q.length - (intOf iv).toNat)
        case atStart => exact ⟨0, rfl, by omega, HI7.out⟩
        case round =>
          clear HI7
          obtain ⟨i, rfl, hil, hri⟩ := hrel
          have HI : Hid (RI w N m (.slice ea en ec) (.slice qa qn qc) (.slice pa pn pc) (headL m ++ (Wm.enc m.Q.length ++ Wm.encAll (m.Q.take i))) u4 wr) := hri
          clear hri
          have k6 := HI.out.mx.c7
          have HVR : Hid (ML wr m (.slice ea en ec) (.slice qa qn qc) (.slice pa pn pc)) := HVW.out.below (by have h := HI.out.below; rw [HN.out] at h; exact h)
          have HLE : Hid ((headL m ++ (Wm.enc m.Q.length ++ Wm.encAll (m.Q.take i))).length + 100 ≤ 5000) := by
            have h1 := HHL.out; have h3 := Wm.enc_len m.Q.length; have h4 := H64.out; have h2 := encAll_tlen m.Q i
            show _ ≤ _
            simp only [List.length_append]; omega
          by_cases hlt : i < m.Q.length
          · have hlti : (i : Int) < (qn : Int) := by have := HQL.out; omega
            obtain ⟨b, off, rfl, hc⟩ := sv_at HVR.out.q (i := i) (by rw [ib_len]; exact hlt)
            obtain ⟨x, hx⟩ : ∃ x : Nat, m.Q[i] = x := ⟨_, rfl⟩
            have hxi : (ib m.Q)[i]'(by rw [ib_len]; exact hlt) = (x : Int) := by simp [ib, hx]
            rw [hxi] at hc
            have HXB : Hid (x < 18446744073709551616) := by show _ < _; rw [← hx]; exact HOK.out.Q _ (List.getElem_mem hlt)
            have HNX : Hid (headL m ++ (Wm.enc m.Q.length ++ Wm.encAll (m.Q.take (i + 1))) = (headL m ++ (Wm.enc m.Q.length ++ Wm.encAll (m.Q.take i))) ++ Wm.enc x) := by
              show _ = _
              rw [encAll_take hlt, hx]
              simp only [List.append_assoc]
            clear hx hxi
            go_wp2_with fail
            refine (rput_walk x HXB.out _).mono ?_
            rintro e w8 ⟨y8, rfl, hy8, hB8⟩
            have HY : Hid (Sv .u8 w8 y8 (ib (Wm.enc x))) := own_sv hy8
            have HI8 : Hid _ := HI.out.old hB8
            obtain ⟨ya, yn, yq, rfl⟩ := sv_any HY.out
            have HL8 : Hid ((headL m ++ (Wm.enc m.Q.length ++ Wm.encAll (m.Q.take i))).length + (ib (Wm.enc x)).length ≤ 5000) := by have h1 := HLE.out; have h2 := Wm.enc_len x; show _ ≤ _; rw [ib_len]; omega
            clear hy8 hB8 hc k6 HI HVR
            go_upto_region 17 with (at_builtin; refine wpList_append_sv (by rfl) (.tmp 67) (.tmp 73) 79 (by rfl) (N + 1) 5 .u8 1 Try.underlying79 info_u8 _ _ _ (by rfl) HI8.out.own _ _ (by rfl) HY.out (by have := HL8.out; simp only [maxLen]; omega) (by have := HL8.out; omega) HI8.out.lt ?_; intro v9 w9 hown hgrow)
            have hri := HI8.out.app hown hgrow
            rw [← HNX.out] at hri
            have HI9 : Hid _ := hri
            clear hown hgrow hri HI8 HY
            go_wp2_with fail
            go_roundw
            case rel => exact ⟨i + 1, by simp, hlt, HI9.out⟩
            case measure => simp [intOf]; omega
          · have hlti : ¬ (i : Int) < (qn : Int) := by have := HQL.out; omega
            obtain rfl : i = m.Q.length := by omega
            have HI9 : Hid (RI w N m (.slice ea en ec) (.slice qa qn qc) (.slice pa pn pc) (headL m ++ restL m) u4 wr) := by have h := HI.out; rw [List.take_of_length_le (Nat.le_refl _), ← HRS.out] at h; exact h
            clear HI HVR HLE
            have HOZ : Hid _ := HI9.out.own
            have HBZ : Hid _ := HI9.out.below
            go_wp2_with fail
            go_ret2
            exact ⟨_, by rw [HEN.out]; rfl, by rw [HEN.out]; exact own_baseC HOZ.out (by have := HN.out; omega), by have h := HBZ.out; rw [HN.out] at h; exact h⟩
      · rw [hf]
        have hpa := pairs_parts HP.out.ask hf
        have H64 : Hid (m.P.length ≤ 64) := by show _ ≤ _; omega
        have HRS : Hid (restL m = Wm.enc m.P.length ++ pairL m.P) := by show _ = _; unfold restL; rw [hf]; simp
        have HZ : Hid (headL m ++ Wm.enc m.P.length = headL m ++ (Wm.enc m.P.length ++ pairL (m.P.take 0))) := by show _ = _; simp [pairL]
        rintro e w4 ⟨rfl, hw4⟩
        replace hw4 := hw4.symm
        subst hw4
        clear hpa hf k0
        have k6 := HI2.out.mx.c8
        have hwn : IntKind.u64.wrap (pn : Int) = (pn : Int) := wrap_u64_id (by omega) (by have := HPL.out; have := H64.out; omega)
        go_wp2_with fail
        refine (rput_walk pn (by have := HPL.out; have := H64.out; omega) _).mono ?_
        rw [HPL.out]
        rintro e w6 ⟨y6, rfl, hy6, hB6⟩
        rw [← HPL.out]
        have HY : Hid (Sv .u8 w6 y6 (ib (Wm.enc m.P.length))) := own_sv hy6
        have HI6 : Hid _ := HI2.out.old hB6
        obtain ⟨ya, yn, yq, rfl⟩ := sv_any HY.out
        have HLE : Hid ((headL m).length + (ib (Wm.enc m.P.length)).length ≤ 5000) := by have h1 := HHL.out; have h2 := Wm.enc_len m.P.length; show _ ≤ _; rw [ib_len]; omega
        clear hy6 hB6 k6 HI2 hwn
        go_upto_region 21 with (at_builtin; refine wpList_append_sv (by rfl) (.tmp 77) (.tmp 82) 79 (by rfl) (N + 1) 5 .u8 1 Try.underlying79 info_u8 _ _ _ (by rfl) HI6.out.own _ _ (by rfl) HY.out (by have := HLE.out; simp only [maxLen]; omega) (by have := HLE.out; omega) HI6.out.lt ?_; intro v7 w7 hown hgrow)
        have hri := HI6.out.app hown hgrow
        rw [HZ.out] at hri
        have HI7 : Hid (RI w N m (.slice ea en ec) (.slice qa qn qc) (.slice pa pn pc) (headL m ++ (Wm.enc m.P.length ++ pairL (m.P.take 0))) v7 w7) := hri
        clear hown hgrow hri HI6 HY HLE
        have hnb : (pn : Int) ≤ 64 := by have := HPL.out; have := H64.out; omega
        go_wp2_with fail
        go_loopw [4, 10] (fun bv iv wr => ∃ i : Nat, iv = .int .i64 i ∧ i ≤ m.P.length ∧ RI w N m (.slice ea en ec) (.slice qa qn qc) (.slice pa pn pc) (headL m ++ (Wm.enc m.P.length ++ pairL (m.P.take i))) bv wr) (fun _ iv _ => m.P.length - (intOf iv).toNat)
        case atStart => exact ⟨0, rfl, by omega, HI7.out⟩
        case round =>
          clear HI7
          obtain ⟨i, rfl, hil, hri⟩ := hrel
          have HI : Hid (RI w N m (.slice ea en ec) (.slice qa qn qc) (.slice pa pn pc) (headL m ++ (Wm.enc m.P.length ++ pairL (m.P.take i))) u4 wr) := hri
          clear hri
          have k6 := HI.out.mx.c8
          have HVR : Hid (ML wr m (.slice ea en ec) (.slice qa qn qc) (.slice pa pn pc)) := HVW.out.below (by have h := HI.out.below; rw [HN.out] at h; exact h)
          have HLE : Hid ((headL m ++ (Wm.enc m.P.length ++ pairL (m.P.take i))).length + 100 ≤ 5000) := by
            have h1 := HHL.out; have h3 := Wm.enc_len m.P.length; have h4 := H64.out; have h2 := pairL_tlen m.P i
            show _ ≤ _
            simp only [List.length_append]; omega
          by_cases hlt : i < m.P.length
          · have hlti : (i : Int) < (pn : Int) := by have := HPL.out; omega
            obtain ⟨b, off, hpa, d0, d1, d2⟩ := HVR.out.p.ql i hlt
            subst hpa
            obtain ⟨p, hp⟩ : ∃ p, p = m.P[i] := ⟨_, rfl⟩
            rw [← hp] at d0 d1 d2
            have HPO : Hid p.ok := by show Pr.ok _; rw [hp]; exact HOK.out.P _ (List.getElem_mem hlt)
            obtain ⟨x, hx⟩ : ∃ x, x = p.k := ⟨_, rfl⟩
            obtain ⟨y, hy⟩ : ∃ y, y = p.v.b := ⟨_, rfl⟩
            rw [← hx] at d0
            rw [← hy] at d2
            have HXB : Hid (x < 18446744073709551616) := by show _ < _; rw [hx]; exact HPO.out.1
            have HYB : Hid (y < 18446744073709551616) := by show _ < _; rw [hy]; exact HPO.out.2
            have HNX : Hid (headL m ++ (Wm.enc m.P.length ++ pairL (m.P.take (i + 1))) = ((headL m ++ (Wm.enc m.P.length ++ pairL (m.P.take i))) ++ Wm.enc x) ++ Wm.wd y) := by
              show _ = _
              rw [pairL_take hlt, ← hp, ← hx, ← hy]
              simp only [List.append_assoc]
            clear hp hx hy d1
            have HI0 : Hid (Below N w wr) := HI.out.below
            have HD2 : Hid (wr.cell? ⟨b, off + i * 3 + 2, none⟩ = some (.int .u64 y)) := d2
            clear d2
            go_wp2_with fail
            refine (rput_walk x HXB.out _).mono ?_
            rintro e w8 ⟨y8, rfl, hy8, hB8⟩
            have HY : Hid (Sv .u8 w8 y8 (ib (Wm.enc x))) := own_sv hy8
            have HI8 : Hid _ := HI.out.old hB8
            have HBL : Hid (b < N) := by have h1 := HVW.out.p.ql i hlt; obtain ⟨b', off', e', g0, _⟩ := h1; cases e'; have h2 := cell_lt g0; simp only at h2; have := HN.out; show _ < _; omega
            obtain ⟨ya, yn, yq, rfl⟩ := sv_any HY.out
            have HL8 : Hid ((headL m ++ (Wm.enc m.P.length ++ pairL (m.P.take i))).length + (ib (Wm.enc x)).length ≤ 5000) := by have h1 := HLE.out; have h2 := Wm.enc_len x; show _ ≤ _; rw [ib_len]; omega
            clear hy8 hB8 d0 k6 HI HVR
            go_upto_region 25 with (at_builtin; refine wpList_append_sv (by rfl) (.tmp 91) (.tmp 98) 79 (by rfl) (N + 1) 5 .u8 1 Try.underlying79 info_u8 _ _ _ (by rfl) HI8.out.own _ _ (by rfl) HY.out (by have := HL8.out; simp only [maxLen]; omega) (by have := HL8.out; omega) HI8.out.lt ?_; intro v9 w9 hown hgrow)
            have HI9 : Hid (RI w N m (.slice ea en ec) (.slice qa qn qc) (.slice (some ⟨b, off, none⟩) pn pc) ((headL m ++ (Wm.enc m.P.length ++ pairL (m.P.take i))) ++ Wm.enc x) v9 w9) := HI8.out.app hown hgrow
            clear hown hgrow HI8 HY
            have k6 := HI9.out.mx.c8
            have d2 : w9.cell? ⟨b, off + i * 3 + 2, none⟩ = some (.int .u64 y) := by
              have hb9 := HI9.out.below
              obtain ⟨b', off', e', g0, g1, g2⟩ := HVW.out.p.ql i hlt
              cases e'
              have h0 := HD2.out
              have hq : w.cell? ⟨b, off + i * 3 + 2, none⟩ = some (.int .u64 m.P[i].v.b) := g2
              rw [hb9.cell (p := ⟨b, off + i * 3 + 2, none⟩) HBL.out]
              rw [HI0.out.cell (p := ⟨b, off + i * 3 + 2, none⟩) HBL.out] at h0
              exact h0
            go_wp2_with fail
            refine (rword_walk y HYB.out _).mono ?_
            rintro e wa ⟨ya', rfl, hya, hBa⟩
            have HY : Hid (Sv .u8 wa ya' (ib (Wm.wd y))) := own_sv hya
            have HIa : Hid _ := HI9.out.old hBa
            obtain ⟨za, zn, zq, rfl⟩ := sv_any HY.out
            have HLa : Hid (((headL m ++ (Wm.enc m.P.length ++ pairL (m.P.take i))) ++ Wm.enc x).length + (ib (Wm.wd y)).length ≤ 5000) := by have h1 := HLE.out; have h2 := Wm.enc_len x; have h3 := Wm.wd_len y; show _ ≤ _; rw [ib_len, List.length_append]; omega
            clear hya hBa d2 k6 HI9
            go_upto_region 23 with (at_builtin; refine wpList_append_sv (by rfl) (.tmp 100) (.tmp 108) 79 (by rfl) (N + 1) 5 .u8 1 Try.underlying79 info_u8 _ _ _ (by rfl) HIa.out.own _ _ (by rfl) HY.out (by have := HLa.out; simp only [maxLen]; omega) (by have := HLa.out; omega) HIa.out.lt ?_; intro vb wb hown hgrow)
            have hri := HIa.out.app hown hgrow
            rw [← HNX.out] at hri
            have HIb : Hid _ := hri
            clear hown hgrow hri HIa HY
            go_wp2_with fail
            go_roundw
            case rel => exact ⟨i + 1, by simp, hlt, HIb.out⟩
            case measure => simp [intOf]; omega
          · have hlti : ¬ (i : Int) < (pn : Int) := by have := HPL.out; omega
            obtain rfl : i = m.P.length := by omega
            have HI9 : Hid (RI w N m (.slice ea en ec) (.slice qa qn qc) (.slice pa pn pc) (headL m ++ restL m) u4 wr) := by have h := HI.out; rw [List.take_of_length_le (Nat.le_refl _), ← HRS.out] at h; exact h
            clear HI HVR HLE
            have HOZ : Hid _ := HI9.out.own
            have HBZ : Hid _ := HI9.out.below
            go_wp2_with fail
            go_ret2
            exact ⟨_, by rw [HEN.out]; rfl, by rw [HEN.out]; exact own_baseC HOZ.out (by have := HN.out; omega), by have h := HBZ.out; rw [HN.out] at h; exact h⟩
      · rw [hf]
        have hpa := code_parts HP.out.ask hf
        have HRS : Hid (restL m = Wm.enc m.C.toNat) := by show _ = _; unfold restL; rw [hf]; simp
        obtain ⟨x, hx⟩ : ∃ x : Nat, m.C = (x : Int) := ⟨m.C.toNat, by omega⟩
        rintro e w4 ⟨rfl, hw4⟩
        replace hw4 := hw4.symm
        subst hw4
        clear hf k0
        have k6 := HI2.out.mx.c5
        rw [hx] at k6 hpa
        rw [hx, Int.toNat_natCast] at HRS
        have HXB : Hid (x < 18446744073709551616) := by show _ < _; omega
        have hwx : IntKind.u64.wrap (x : Int) = (x : Int) := wrap_u64_id (by omega) (by omega)
        clear hpa hx
        go_wp2_with fail
        refine (rput_walk x HXB.out _).mono ?_
        rintro e w6 ⟨y6, rfl, hy6, hB6⟩
        have HY : Hid (Sv .u8 w6 y6 (ib (Wm.enc x))) := own_sv hy6
        have HI6 : Hid _ := HI2.out.old hB6
        obtain ⟨ya, yn, yq, rfl⟩ := sv_any HY.out
        have HLE : Hid ((headL m).length + (ib (Wm.enc x)).length ≤ 5000) := by have h1 := HHL.out; have h2 := Wm.enc_len x; show _ ≤ _; rw [ib_len]; omega
        clear hy6 hB6 k6 HI2 hwx
        go_upto_region 28 with (at_builtin; refine wpList_append_sv (by rfl) (.tmp 112) (.tmp 116) 79 (by rfl) (N + 1) 5 .u8 1 Try.underlying79 info_u8 _ _ _ (by rfl) HI6.out.own _ _ (by rfl) HY.out (by have := HLE.out; simp only [maxLen]; omega) (by have := HLE.out; omega) HI6.out.lt ?_; intro v7 w7 hown hgrow)
        have hri := HI6.out.app hown hgrow
        rw [← HRS.out] at hri
        have HI9 : Hid _ := hri
        clear hown hgrow hri HI6 HY
        have HOZ : Hid _ := HI9.out.own
        have HBZ : Hid _ := HI9.out.below
        go_wp2_with fail
        go_ret2
        exact ⟨_, by rw [HEN.out]; rfl, by rw [HEN.out]; exact own_baseC HOZ.out (by have := HN.out; omega), by have h := HBZ.out; rw [HN.out] at h; exact h⟩
theorem rmenc_walk {w : World} {m : Ms} {ev qv pv : Value} (h : ML w m ev qv pv) (hok : m.ok) : Calls Try.prog 40 #[.agg #[.int .i64 m.K, .int .i64 m.F, .int .i64 m.T, .int .i64 m.B, .int .i64 m.A, .int .i64 m.C, ev, qv, pv]] w (EGot m w) := by
  cases hs : sndM m
  · exact rmenc_bad h hs
  · exact rmenc_good h hok hs
end Go.Proofs.Ytonnlhehbhiiiaa


