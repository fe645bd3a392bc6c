/- The walk of NetBag. -/
import Derived.Test.YtokfbnpjndlccaaNp

namespace Go.Proofs.Ytokfbnpjndlccaa

open Go.RowKit



/-- A call in a block of its own. -/
structure OX (w : World) (O : Nat) (x : Oq) (ev qv pv : Value) : Prop where
  c0 : w.cell? ⟨O, 0, none⟩ = some (.int .i64 x.c)
  c2 : w.cell? ⟨O, 2, none⟩ = some (.int .i64 x.k)
  m0 : w.cell? ⟨O, 3, none⟩ = some (.int .i64 x.m.K)
  m1 : w.cell? ⟨O, 4, none⟩ = some (.int .i64 x.m.F)
  m2 : w.cell? ⟨O, 5, none⟩ = some (.int .i64 x.m.T)
  m3 : w.cell? ⟨O, 6, none⟩ = some (.int .i64 x.m.B)
  m4 : w.cell? ⟨O, 7, none⟩ = some (.int .i64 x.m.A)
  m5 : w.cell? ⟨O, 8, none⟩ = some (.int .i64 x.m.C)
  m6 : w.cell? ⟨O, 9, none⟩ = some ev
  m7 : w.cell? ⟨O, 10, none⟩ = some qv
  m8 : w.cell? ⟨O, 11, none⟩ = some pv
theorem ox_new (w : World) (x : Oq) (ev qv pv : Value) : OX (w.alloc (Obj.cells #[.int .i64 x.c, .int .i64 x.o, .int .i64 x.k, .int .i64 x.m.K, .int .i64 x.m.F, .int .i64 x.m.T, .int .i64 x.m.B, .int .i64 x.m.A, .int .i64 x.m.C, ev, qv, pv] 37)) w.heap.size x ev qv pv := by
  constructor <;> simp [go_sem]
theorem OX.ch {D : Nat → Prop} {w w' : World} {O : Nat} {x : Oq} {ev qv pv : Value} (h : OX w O x ev qv pv) (hc : Ch D w w') (hd : ¬ D O) : OX w' O x ev qv pv :=
  ⟨hc.cell h.c0 hd, hc.cell h.c2 hd, hc.cell h.m0 hd, hc.cell h.m1 hd, hc.cell h.m2 hd, hc.cell h.m3 hd, hc.cell h.m4 hd, hc.cell h.m5 hd, hc.cell h.m6 hd, hc.cell h.m7 hd, hc.cell h.m8 hd⟩
theorem OX.below {w w' : World} {O : Nat} {x : Oq} {ev qv pv : Value} (h : OX w O x ev qv pv) (hb : Below w.heap.size w w') : OX w' O x ev qv pv := h.ch (D := fun _ => False) (Ch.of_below hb) (fun e => e)
theorem bg_nx {w0 wr : World} {B P b r : Nat} {T : List Tq} {t : Tq} {G : List Bool} {L : List En} {sv gv : Value} (h : Bg w0 B P b r (T.length + 1) (T ++ [t]) G L sv gv wr) : Bg w0 B P b r (T ++ [t]).length (T ++ [t]) G L sv gv wr := by rw [List.length_append, List.length_singleton]; exact h
/-- A script's round. -/
def RnB (w : World) (B P b r : Nat) (l : List Oq) (sv gv tv iv : Value) (wr : World) : Prop :=
  ∃ (i : Nat) (T : List Tq) (G : List Bool) (L : List En), iv = .int .i64 i ∧ i ≤ l.length ∧ i ≤ 2000 ∧ tv = .int .i64 L.length ∧ T.length ≤ i ∧ Bg w B P b r T.length T G L sv gv wr ∧ Live T G L ∧ Tok w T


set_option maxRecDepth 100000 in
set_option maxHeartbeats 16000000 in
theorem netbag_walk {w : World} {mo : Int} {v : Value} {l : List Oq} (hs : Sc w v l) : Calls Try.prog 4 #[.int .i64 mo, v] w fun e w' => e = .returned (.bool true) ∧ Below w.heap.size w w' := by
  have HS : Hid (Sc w v l) := hs
  obtain ⟨so, sc, rfl, hsl, _⟩ := hs.form
  have hll : (l.length : Int) ≤ 9223372036854775807 := by unfold maxLen at hsl; omega
  clear hs hsl
  go_enter Try.func4, Try.ntmps4
  go_wp2_with fail
  refine (awake_walk _).mono ?_
  rintro e w1 ⟨rfl, hB⟩
  have HB1 : Hid (Below w.heap.size w w1) := hB
  clear hB
  go_wp2_with fail
  by_cases hm0 : mo < 0
  · refine (new_bad (.inl hm0) _).mono ?_
    rintro e w2 ⟨rfl, hw2⟩
    rw [← hw2] at HB1
    clear hw2
    go_wp2_with fail
    go_ret
    exact ⟨rfl, HB1.out⟩
  by_cases hm1 : 4096 < mo
  · refine (new_bad (.inr hm1) _).mono ?_
    rintro e w2 ⟨rfl, hw2⟩
    rw [← hw2] at HB1
    clear hw2
    go_wp2_with fail
    go_ret
    exact ⟨rfl, HB1.out⟩
  obtain ⟨r, rfl⟩ : ∃ r : Nat, mo = (r : Int) := ⟨mo.toNat, by omega⟩
  have hr : r ≤ 4096 := by omega
  clear hm0 hm1
  refine (new_walk hr w1).mono ?_
  rintro e w2 ⟨P, b, rfl, hn, hP, hb, hB⟩
  have HI : Hid (RnB w w2.heap.size P b r l (.slice none 0 0) (.slice none 0 0) (.int .i64 0) (.int .i64 0) w2) := by
    have hs1 := HB1.out.size
    have hs2 := hB.size
    exact ⟨0, [], [], [], rfl, Nat.zero_le _, Nat.zero_le _, rfl, Nat.zero_le _, ⟨hn, World.ownsRow_nil _ _ _ _, World.ownsRow_nil _ _ _ _, by simp [Value.ownBlock], by simp [Value.ownBlock], by simp [Value.ownBlock], below_trans HB1.out hB, ⟨by omega, Nat.le_refl _, by omega, by omega⟩⟩, ⟨rfl, by simp, by simp⟩, fun t ht => by simp at ht⟩
  clear hn hP hb hB HB1
  obtain ⟨B, hBB⟩ : ∃ B, B = w2.heap.size := ⟨_, rfl⟩
  rw [← hBB] at HI
  clear hBB
  have hr4 : (r : Int) ≤ 4096 := by omega
  go_upto_region 10 with fail
  rename_i QT KT AT
  go_loopw [7, 8, 9, 10] (fun sv gv tv iv wr => RnB w B P b r l sv gv tv iv wr) (fun _ _ _ iv _ => l.length - (intOf iv).toNat)
  case atStart => exact HI.out
  case round =>
    obtain ⟨i, T, G, L, rfl, hil, hi2, rfl, hti, hbg, hlv, htk⟩ := hrel
    clear HI
    obtain ⟨sa, sca, rfl⟩ := own_formN hbg.so
    obtain ⟨ga, gca, rfl⟩ := own_formN hbg.go
    have HG : Hid _ := hbg
    have HLV : Hid _ := hlv
    have HTK : Hid _ := htk
    have HTI : Hid (T.length ≤ i) := hti
    have HGL : Hid (G.length = T.length) := hlv.gl
    have HLR : Hid (L.length ≤ r) := hbg.nt.len
    have HI2 : Hid (i ≤ 2000) := hi2
    clear hbg hlv htk hti
    by_cases hlt : i < l.length ∧ i < 2000
    · have hlti : (i : Int) < (l.length : Int) := by omega
      have hlt2 : (i : Int) < 2000 := by omega
      have HLT : Hid (i < l.length ∧ i < 2000) := hlt
      obtain ⟨sb, soff, rfl, hox⟩ := sc_at (HS.out.below HG.out.w) hlt.1
      have hml := HS.out.ml l[i] (List.getElem_mem _)
      have hok := HS.out.ok l[i] (List.getElem_mem _)
      obtain ⟨x, hx⟩ : ∃ x, x = l[i] := ⟨_, rfl⟩
      have hox' : Ox wr sb (soff + i * 12) x := by rw [hx]; exact hox
      have HML : Hid (ML w x.m x.e x.q x.p) := by rw [hx]; exact hml
      have HOK : Hid (x.ok) := by rw [hx]; exact hok
      clear hml hok hox hx hlt hil hi2
      obtain ⟨ea, en, ec, qa, qn, qc, pa, pn, pc, e1, e2, e3⟩ := ml_form HML.out
      obtain ⟨c0, c1, c2, m0, m1, m2, m3, m4, m5, m6, m7, m8⟩ := hox'
      have HEQ : Hid (x.e = .slice ea en ec ∧ x.q = .slice qa qn qc ∧ x.p = .slice pa pn pc) := ⟨e1, e2, e3⟩
      rw [e1] at m6
      rw [e2] at m7
      rw [e3] at m8
      rw [e1, e2, e3] at HML
      clear e1 e2 e3
      have htl : (T.length : Int) ≤ 2000 := by have := HTI.out; have := HLT.out; omega
      go_upto_region 13 with fail
      have HO : Hid _ := ox_new wr x (.slice ea en ec) (.slice qa qn qc) (.slice pa pn pc)
      have HB0 : Hid _ := below_alloc wr (Obj.cells #[.int .i64 x.c, .int .i64 x.o, .int .i64 x.k, .int .i64 x.m.K, .int .i64 x.m.F, .int .i64 x.m.T, .int .i64 x.m.B, .int .i64 x.m.A, .int .i64 x.m.C, .slice ea en ec, .slice qa qn qc, .slice pa pn pc] 37)
      obtain ⟨O, hO⟩ : ∃ O, O = wr.heap.size := ⟨_, rfl⟩
      have HOF : Hid (Of w P b L (.slice sa T.length sca) (.slice ga G.length gca) O) := HG.out.off (by rw [hO]; exact Nat.le_refl _)
      rw [← hO] at HO ⊢
      clear hO c0 c1 c2 m0 m1 m2 m3 m4 m5 m6 m7 m8 hlti hlt2
      generalize wr.alloc (Obj.cells #[.int .i64 x.c, .int .i64 x.o, .int .i64 x.k, .int .i64 x.m.K, .int .i64 x.m.F, .int .i64 x.m.T, .int .i64 x.m.B, .int .i64 x.m.A, .int .i64 x.m.C, .slice ea en ec, .slice qa qn qc, .slice pa pn pc] 37) = w3 at HO HB0 ⊢
      have HG3 : Hid _ := HG.out.below HB0.out
      have HWV : Hid (Below w.heap.size w w3) := HG3.out.w
      have HOL : Hid (O < w3.heap.size) := cell_lt HO.out.c0
      clear HG HB0
      have o0 := HO.out.c0
      have o2 := HO.out.c2
      obtain ⟨kn, hkn⟩ : ∃ kn, kn = (atN L x.k).isSome := ⟨_, rfl⟩
      have HKN : Hid (kn = (atN L x.k).isSome) := hkn
      clear hkn
      go_cut [12] (fun kv wx => kv = .bool kn ∧ wx = w3)
      case first =>
        rename_i RT Q0 K1 A2 K0 AK J KP A1 A0
        clear_value Q0
        clear AT A2 RT AK
        as_aux_lemma =>
          by_cases hk0 : 0 ≤ x.k
          · obtain ⟨k, hk⟩ : ∃ k : Nat, x.k = (k : Int) := ⟨x.k.toNat, by omega⟩
            rw [hk] at o2 HKN
            clear hk hk0
            have hk0 : (0 : Int) ≤ (k : Int) := by omega
            by_cases hkl : k < T.length
            · have hkl' : (k : Int) < (T.length : Int) := by omega
              have hgl' : (k : Int) < (G.length : Int) := by have := HGL.out; omega
              obtain ⟨gb, gcap, hgv, _⟩ := row_formN HG3.out.go (by have := HGL.out; omega)
              simp only [Value.slice.injEq] at hgv
              obtain ⟨rfl, _, rfl⟩ := hgv
              obtain ⟨y, hy⟩ : ∃ y, G[k]? = some y := ⟨G[k]'(by have := HGL.out; omega), List.getElem?_eq_getElem _⟩
              have hgc := (own_cellN HG3.out.go (j := k) (u := .bool y) (by rw [List.getElem?_map, hy]; rfl)).1
              cases y with
              | true =>
                have HE : Hid (kn = false) := by show kn = false; rw [HKN.out, live_gone HLV.out hy]; rfl
                clear hy
                go_wp2_with fail
                go_meet
                exact ⟨by rw [HE.out], rfl⟩
              | false =>
                have HE : Hid (kn = true) := by
                  obtain ⟨z, hz, _⟩ := live_there HLV.out (HG3.out.nt.rise.imp (fun h => h.1)) hy
                  show kn = true
                  rw [HKN.out, hz]; rfl
                clear hy
                go_wp2_with fail
                go_meet
                exact ⟨by rw [HE.out], rfl⟩
            · have hkl' : ¬ (k : Int) < (T.length : Int) := by omega
              have HE : Hid (kn = false) := by show kn = false; rw [HKN.out, live_far HLV.out (by omega)]; rfl
              go_wp2_with fail
              go_meet
              exact ⟨by rw [HE.out], rfl⟩
          · have HE : Hid (kn = false) := by show kn = false; rw [HKN.out, live_neg (by omega)]; rfl
            go_wp2_with fail
            go_meet
            exact ⟨by rw [HE.out], rfl⟩
      case rest =>
        obtain ⟨rfl, hwc⟩ := hcut
        replace hwc := hwc.symm
        subst hwc
        rename_i aK
        refine aK _ _ ?_
        refine wp_seq_k fun K9 hK9 => ?_
        go_cut [7, 8, 9, 13, 14, 15, 16, 17, 18] (fun sv2 gv2 tv2 _ _ _ _ _ _ wx => ∃ (T2 : List Tq) (G2 : List Bool) (L2 : List En), tv2 = .int .i64 L2.length ∧ T2.length ≤ i + 1 ∧ Bg w B P b r T2.length T2 G2 L2 sv2 gv2 wx ∧ Live T2 G2 L2 ∧ Tok w T2)
        case first =>
          rename_i RT Q0 K1 A2 K0 J KP A1 A0
          clear_value Q0
          clear AT A2 RT aK hK9
          have o0 := HO.out.c0
          by_cases hk1 : x.c = 1
          · have hkk : (x.c == 1) = true := by simp [hk1]
            have hk4 : (x.c == 4) = false := by simp [hk1]
            clear hk1
            have o3 := HO.out.m0
            have o4 := HO.out.m1
            have o5 := HO.out.m2
            have o6 := HO.out.m3
            have o7 := HO.out.m4
            have o8 := HO.out.m5
            have o9 := HO.out.m6
            have o10 := HO.out.m7
            have o11 := HO.out.m8
            go_upto_region 18 with fail
            have HM : Hid _ := mx_new w3 x.m (.slice ea en ec) (.slice qa qn qc) (.slice pa pn pc)
            have HB4 : Hid _ := below_alloc w3 (Obj.cells #[.int .i64 x.m.K, .int .i64 x.m.F, .int .i64 x.m.T, .int .i64 x.m.B, .int .i64 x.m.A, .int .i64 x.m.C, .slice ea en ec, .slice qa qn qc, .slice pa pn pc] 35)
            obtain ⟨M, hM⟩ : ∃ M, M = w3.heap.size := ⟨_, rfl⟩
            have HMF : Hid (Of w P b L (.slice sa T.length sca) (.slice ga G.length gca) M) := HG3.out.off (by rw [hM]; exact Nat.le_refl _)
            rw [← hM] at HM ⊢
            clear hM o0 o3 o4 o5 o6 o7 o8 o9 o10 o11
            generalize w3.alloc (Obj.cells #[.int .i64 x.m.K, .int .i64 x.m.F, .int .i64 x.m.T, .int .i64 x.m.B, .int .i64 x.m.A, .int .i64 x.m.C, .slice ea en ec, .slice qa qn qc, .slice pa pn pc] 35) = w4 at HM HB4 ⊢
            have HG4 : Hid _ := HG3.out.below HB4.out
            have HO4 : Hid _ := HO.out.below HB4.out
            have HML4 : Hid (M < w4.heap.size) := cell_lt HM.out.c0
            have o0 := HO4.out.c0
            have y0 := HM.out.c0
            have y1 := HM.out.c1
            have y2 := HM.out.c2
            have y3 := HM.out.c3
            have y4 := HM.out.c4
            have y5 := HM.out.c5
            have y6 := HM.out.c6
            have y7 := HM.out.c7
            have y8 := HM.out.c8
            go_upto_region 20 with fail
            go_wp2_with fail
            refine (send_walk HG4.out.nt (HML.out.below HG4.out.w) HOK.out.m (by have := HTI.out; have := HLT.out; omega)).mono ?_
            rintro e w5 (⟨hsn, rfl, hB⟩ | ⟨hsn, ⟨hfull, rfl, hB⟩ | ⟨hroom, rfl, en2, hxn, hxm, hn, hxl, hc⟩⟩)
            · have HG5 : Hid _ := HG4.out.below hB
              have HO5 : Hid _ := HO4.out.below hB
              have HM5 : Hid _ := HM.out.keep hB
              have HSN : Hid (sndM x.m = false) := hsn
              clear hB hsn o0 y0 y1 y2 y3 y4 y5 y6 y7 y8
              as_aux_lemma =>
                have o0 := HO5.out.c0
                have y0 := HM5.out.c0
                have y1 := HM5.out.c1
                have y2 := HM5.out.c2
                have y3 := HM5.out.c3
                have y4 := HM5.out.c4
                have y5 := HM5.out.c5
                have y6 := HM5.out.c6
                have y7 := HM5.out.c7
                have y8 := HM5.out.c8
                go_wp2_with fail
                refine (sound_walk (HML.out.below HG5.out.w)).mono ?_
                rintro e w6 ⟨rfl, hB⟩
                rw [HSN.out]
                have HG6 : Hid _ := HG5.out.below hB
                have HO6 : Hid _ := HO5.out.below hB
                have HM6 : Hid _ := HM5.out.keep hB
                clear hB o0 y0 y1 y2 y3 y4 y5 y6 y7 y8
                have HGz : Hid _ := HG6.out
                go_wp2_with fail
                go_meet
                exact ⟨T, G, L, rfl, by have := HTI.out; omega, HGz.out, HLV.out, HTK.out⟩
            · have HG5 : Hid _ := HG4.out.below hB
              have HO5 : Hid _ := HO4.out.below hB
              have HM5 : Hid _ := HM.out.keep hB
              have HSN : Hid (sndM x.m = true) := hsn
              clear hB hsn o0 y0 y1 y2 y3 y4 y5 y6 y7 y8
              as_aux_lemma =>
                have o0 := HO5.out.c0
                have y0 := HM5.out.c0
                have y1 := HM5.out.c1
                have y2 := HM5.out.c2
                have y3 := HM5.out.c3
                have y4 := HM5.out.c4
                have y5 := HM5.out.c5
                have y6 := HM5.out.c6
                have y7 := HM5.out.c7
                have y8 := HM5.out.c8
                go_wp2_with fail
                refine (sound_walk (HML.out.below HG5.out.w)).mono ?_
                rintro e w6 ⟨rfl, hB⟩
                rw [HSN.out]
                have HG6 : Hid _ := HG5.out.below hB
                have HO6 : Hid _ := HO5.out.below hB
                have HM6 : Hid _ := HM5.out.keep hB
                clear hB o0 y0 y1 y2 y3 y4 y5 y6 y7 y8
                have hge : (r : Int) ≤ (L.length : Int) := by omega
                have HGz : Hid _ := HG6.out
                go_wp2_with fail
                go_meet
                exact ⟨T, G, L, rfl, by have := HTI.out; omega, HGz.out, HLV.out, HTK.out⟩
            have HG5 : Hid _ := HG4.out.move hc hn (fun y hy => by rcases List.mem_append.1 hy with q | q; exact .inl q; rw [List.mem_singleton] at q; subst q; exact .inr hxl)
            have HO5 : Hid _ := HO4.out.ch hc (fun e => HOF.out.k (e.elim .inl (fun q => .inr (.inl q))))
            have HM5 : Hid _ := HM.out.ch hc (fun e => HMF.out.k (e.elim .inl (fun q => .inr (.inl q))))
            have HLV5 : Hid (Live (T ++ [⟨x.m, .slice ea en ec, .slice qa qn qc, .slice pa pn pc⟩]) (G ++ [false]) (L ++ [en2])) := live_send HLV.out hxn hxm
            have HTK5 : Hid (Tok w (T ++ [⟨x.m, .slice ea en ec, .slice qa qn qc, .slice pa pn pc⟩])) := Tok.app HTK.out HML.out HOK.out.m
            have HSN : Hid (sndM x.m = true) := hsn
            have HRM : Hid (L.length < r) := hroom
            clear hn hc hxn hxm hxl hsn hroom o0 y0 y1 y2 y3 y4 y5 y6 y7 y8
            have o0 := HO5.out.c0
            have y0 := HM5.out.c0
            have y1 := HM5.out.c1
            have y2 := HM5.out.c2
            have y3 := HM5.out.c3
            have y4 := HM5.out.c4
            have y5 := HM5.out.c5
            have y6 := HM5.out.c6
            have y7 := HM5.out.c7
            have y8 := HM5.out.c8
            go_wp2_with fail
            refine (sound_walk (HML.out.below HG5.out.w)).mono ?_
            rintro e w6 ⟨rfl, hB⟩
            rw [HSN.out]
            have HG6 : Hid _ := HG5.out.below hB
            have HO6 : Hid _ := HO5.out.below hB
            have HM6 : Hid _ := HM5.out.keep hB
            clear hB o0 y0 y1 y2 y3 y4 y5 y6 y7 y8
            have hge : ¬ (r : Int) ≤ (L.length : Int) := by have := HRM.out; omega
            have hnx0 : ((T.length : Int) != (T.length : Int)) = false := by simp
            have HCT : Hid (∀ u ∈ cellsT (Tq.mk x.m (.slice ea en ec) (.slice qa qn qc) (.slice pa pn pc)), u.oneCell' = true) := cellsT_one (w := w) HML.out
            have HLT9 : Hid (T.length ≤ 5000) := by have := HTI.out; have := HLT.out; show _ ≤ _; omega
            have HGT9 : Hid (G.length ≤ 5000) := by have := HGL.out; have := HLT9.out; show _ ≤ _; omega
            have o0 := HO6.out.c0
            have y0 := HM6.out.c0
            have y1 := HM6.out.c1
            have y2 := HM6.out.c2
            have y3 := HM6.out.c3
            have y4 := HM6.out.c4
            have y5 := HM6.out.c5
            have y6 := HM6.out.c6
            have y7 := HM6.out.c7
            have y8 := HM6.out.c8
            go_upto_region 37 with (at_builtin; refine wpList_append_ms (by rfl) (.tmp 146) (.tmp 148) (by rfl) B _ T.length (flatT T) (by rfl) (own_belowC HG6.out.so (below_alloc _ _)) w6.heap.size 1 (Tq.mk x.m (.slice ea en ec) (.slice qa qn qc) (.slice pa pn pc)) (by rfl) cells_litT HCT.out HLT9.out (by have h := HG6.out.lo; rw [size_allocC]; omega) ?_; intro v7 w7 hown hgrow hat)
            as_aux_lemma =>
              have HG7 : Hid _ := HG6.out.sent (below_alloc _ _) hown hgrow hat
              obtain ⟨a7, c7, rfl⟩ := own_formN HG7.out.so
              clear hown hgrow hat
              go_upto_region 38 with (at_builtin; refine wpList_append_bl (by rfl) (.tmp 150) (.tmp 151) (by rfl) B _ G.length (G.map Value.bool) (by rfl) (own_belowC HG7.out.go (below_alloc _ _)) w7.heap.size 1 false (by rfl) (by simp [go_sem]) HGT9.out (by have h := HG7.out.lo; rw [size_allocC]; omega) ?_; intro v8 w8 hown hgrow hat)
              have HG8 : Hid _ := HG7.out.live (below_alloc _ _) hown hgrow hat
              obtain ⟨a8, c8, rfl⟩ := own_formN HG8.out.go
              clear hown hgrow hat
              have hl1 : IntKind.i64.wrap ((L.length : Int) + 1) = ((L ++ [en2]).length : Int) := by rw [List.length_append, List.length_singleton]; have := HLR.out; rw [wrap_small (by omega) (by omega)]; omega
              have HGz : Hid _ := bg_nx HG8.out
              go_wp2_with fail
              go_meet
              exact ⟨T ++ [Tq.mk x.m (.slice ea en ec) (.slice qa qn qc) (.slice pa pn pc)], G ++ [false], L ++ [en2], by simp, by have := HTI.out; simp; omega, by have h := HGz.out; simp only [List.length_append, List.length_singleton] at h ⊢; exact h, HLV5.out, HTK5.out⟩
          have hf1 : (x.c == 1) = false := by simp [hk1]
          by_cases hk4 : x.c = 4
          · have hkk : (x.c == 4) = true := by simp [hk4]
            clear hk4
            have o3 := HO.out.m0
            have o4 := HO.out.m1
            have o5 := HO.out.m2
            have o6 := HO.out.m3
            have o7 := HO.out.m4
            have o8 := HO.out.m5
            have o9 := HO.out.m6
            have o10 := HO.out.m7
            have o11 := HO.out.m8
            go_upto_region 18 with fail
            have HM : Hid _ := mx_new w3 x.m (.slice ea en ec) (.slice qa qn qc) (.slice pa pn pc)
            have HB4 : Hid _ := below_alloc w3 (Obj.cells #[.int .i64 x.m.K, .int .i64 x.m.F, .int .i64 x.m.T, .int .i64 x.m.B, .int .i64 x.m.A, .int .i64 x.m.C, .slice ea en ec, .slice qa qn qc, .slice pa pn pc] 35)
            obtain ⟨M, hM⟩ : ∃ M, M = w3.heap.size := ⟨_, rfl⟩
            have HMF : Hid (Of w P b L (.slice sa T.length sca) (.slice ga G.length gca) M) := HG3.out.off (by rw [hM]; exact Nat.le_refl _)
            rw [← hM] at HM ⊢
            clear hM o0 o3 o4 o5 o6 o7 o8 o9 o10 o11
            generalize w3.alloc (Obj.cells #[.int .i64 x.m.K, .int .i64 x.m.F, .int .i64 x.m.T, .int .i64 x.m.B, .int .i64 x.m.A, .int .i64 x.m.C, .slice ea en ec, .slice qa qn qc, .slice pa pn pc] 35) = w4 at HM HB4 ⊢
            have HG4 : Hid _ := HG3.out.below HB4.out
            have HO4 : Hid _ := HO.out.below HB4.out
            have HML4 : Hid (M < w4.heap.size) := cell_lt HM.out.c0
            have o0 := HO4.out.c0
            have o2 := HO4.out.c2
            have y0 := HM.out.c0
            have y1 := HM.out.c1
            have y2 := HM.out.c2
            have y3 := HM.out.c3
            have y4 := HM.out.c4
            have y5 := HM.out.c5
            have y6 := HM.out.c6
            have y7 := HM.out.c7
            have y8 := HM.out.c8
            go_upto_region 21 with fail
            go_wp2_with fail
            cases hat : atN L x.k with
            | none =>
              have hkf : kn = false := by rw [HKN.out, hat]; rfl
              subst hkf
              refine (copy_out HG4.out.nt HOK.out.k hat).mono ?_
              rintro e w5 ⟨rfl, hB⟩
              have HGz : Hid _ := HG4.out.below hB
              have HO5 : Hid _ := HO4.out.below hB
              clear hB hat o0 o2 y0 y1 y2 y3 y4 y5 y6 y7 y8
              have o0 := HO5.out.c0
              as_aux_lemma =>
                go_wp2_with fail
                go_meet
                exact ⟨T, G, L, rfl, by have := HTI.out; omega, HGz.out, HLV.out, HTK.out⟩
            | some z =>
              have hkf : kn = true := by rw [HKN.out, hat]; rfl
              subst hkf
              obtain ⟨k, hkx⟩ : ∃ k : Nat, x.k = (k : Int) := ⟨z.n, (atN_mem hat).2.symm⟩
              have hzk : z.n = k := by have := (atN_mem hat).2; omega
              obtain ⟨htl2, hgk, hzm⟩ := HLV.out.fwd z (atN_mem hat).1
              have hkt : k < T.length := by omega
              obtain ⟨t, hte⟩ : ∃ t, t = T[k] := ⟨_, rfl⟩
              have hzt : z.m = t.m := by rw [hzm, hte]; congr 2
              have hgk' : G[k]? = some false := by rw [← hzk]; exact hgk
              obtain ⟨hm1, hm2⟩ := HTK.out t (by rw [hte]; exact List.getElem_mem _)
              obtain ⟨ta, tn, tc, ua, un, uc, za, zn, zc, f1, f2, f3⟩ := ml_form hm1
              obtain ⟨tm, te, tq, tp⟩ := t
              simp only at f1 f2 f3 hm1 hm2 hzt
              subst f1 f2 f3
              have HTE : Hid (T[k]? = some (Tq.mk tm (.slice ta tn tc) (.slice ua un uc) (.slice za zn zc))) := by show _ = _; rw [List.getElem?_eq_getElem hkt, ← hte]
              have HTL : Hid (ML w tm (.slice ta tn tc) (.slice ua un uc) (.slice za zn zc)) := hm1
              have HTO : Hid (tm.ok) := hm2
              have HZT : Hid (z.m = tm) := hzt
              have HGK : Hid (G[k]? = some false) := hgk'
              have HKT : Hid (k < T.length ∧ k < G.length) := ⟨hkt, by rw [HGL.out]; exact hkt⟩
              have HKX : Hid (x.k = (k : Int)) := hkx
              clear hzk htl2 hgk hzm hte hzt hgk' hm1 hm2 hkt hkx
              refine (copy_in HG4.out.nt HOK.out.k hat (by have := HTI.out; have := HLT.out; omega)).mono ?_
              rintro e w5 (⟨hfull, rfl, hB⟩ | ⟨hroom, rfl, en2, hxn, hxm, hn, hxl, hc⟩)
              · have HGz : Hid _ := HG4.out.below hB
                have HO5 : Hid _ := HO4.out.below hB
                have hge : (r : Int) ≤ (L.length : Int) := by omega
                clear hB hat o0 o2 y0 y1 y2 y3 y4 y5 y6 y7 y8
                have o0 := HO5.out.c0
                as_aux_lemma =>
                  go_wp2_with fail
                  go_meet
                  exact ⟨T, G, L, rfl, by have := HTI.out; omega, HGz.out, HLV.out, HTK.out⟩
              · have HG5 : Hid _ := HG4.out.move hc hn (fun y hy => by rcases List.mem_append.1 hy with q | q; exact .inl q; rw [List.mem_singleton] at q; subst q; exact .inr hxl)
                have HO5 : Hid _ := HO4.out.ch hc (fun e => HOF.out.k (e.elim .inl (fun q => .inr (.inl q))))
                have HM5 : Hid _ := HM.out.ch hc (fun e => HMF.out.k (e.elim .inl (fun q => .inr (.inl q))))
                have HMF5 : Hid _ := HMF.out.move HML4.out (L' := L ++ [en2]) (fun y hy => by rcases List.mem_append.1 hy with q | q; exact .inl q; rw [List.mem_singleton] at q; subst q; exact .inr hxl)
                have HLV5 : Hid (Live (T ++ [Tq.mk tm (.slice ta tn tc) (.slice ua un uc) (.slice za zn zc)]) (G ++ [false]) (L ++ [en2])) := live_send HLV.out hxn (hxm.trans HZT.out)
                have HTK5 : Hid (Tok w (T ++ [Tq.mk tm (.slice ta tn tc) (.slice ua un uc) (.slice za zn zc)])) := Tok.app HTK.out HTL.out HTO.out
                have HRM : Hid (L.length < r) := hroom
                clear hn hc hxn hxm hxl hroom hat o0 o2 y0 y1 y2 y3 y4 y5 y6 y7 y8
                have hge : ¬ (r : Int) ≤ (L.length : Int) := by have := HRM.out; omega
                have hnx0 : ((T.length : Int) != (T.length : Int)) = false := by simp
                obtain ⟨sg, scap, hsv, _⟩ := row_formN HG5.out.so (by have := HKT.out; omega)
                simp only [Value.slice.injEq] at hsv
                obtain ⟨rfl, _, rfl⟩ := hsv
                have hsc : ∀ j u, (cellsT (Tq.mk tm (.slice ta tn tc) (.slice ua un uc) (.slice za zn zc)))[j]? = some u → (w5).cell? ⟨sg, k * 9 + j, none⟩ = some u := fun j u hj => by
                  have hj9 : j < 9 := by
                    rcases Nat.lt_or_ge j 9 with q | q
                    · exact q
                    · rw [List.getElem?_eq_none (by simpa [cellsT] using q)] at hj; cases hj
                  refine (own_cellN HG5.out.so (j := k * 9 + j) ?_).1
                  rw [flatT_get T k j HKT.out.1 hj9]
                  have he : T[k]'HKT.out.1 = Tq.mk tm (.slice ta tn tc) (.slice ua un uc) (.slice za zn zc) := by have h := HTE.out; rw [List.getElem?_eq_getElem HKT.out.1] at h; exact Option.some.inj h
                  rw [he]; exact hj
                have s0 : w5.cell? ⟨sg, k * 9, none⟩ = some (.int .i64 tm.K) := hsc 0 _ rfl
                have s1 : w5.cell? ⟨sg, k * 9 + 1, none⟩ = some (.int .i64 tm.F) := hsc 1 _ rfl
                have s2 : w5.cell? ⟨sg, k * 9 + 2, none⟩ = some (.int .i64 tm.T) := hsc 2 _ rfl
                have s3 : w5.cell? ⟨sg, k * 9 + 3, none⟩ = some (.int .i64 tm.B) := hsc 3 _ rfl
                have s4 : w5.cell? ⟨sg, k * 9 + 4, none⟩ = some (.int .i64 tm.A) := hsc 4 _ rfl
                have s5 : w5.cell? ⟨sg, k * 9 + 5, none⟩ = some (.int .i64 tm.C) := hsc 5 _ rfl
                have s6 : w5.cell? ⟨sg, k * 9 + 6, none⟩ = some (.slice ta tn tc) := hsc 6 _ rfl
                have s7 : w5.cell? ⟨sg, k * 9 + 7, none⟩ = some (.slice ua un uc) := hsc 7 _ rfl
                have s8 : w5.cell? ⟨sg, k * 9 + 8, none⟩ = some (.slice za zn zc) := hsc 8 _ rfl
                clear hsc
                have hkt' : (k : Int) < (T.length : Int) := by have := HKT.out; omega
                have o0 := HO5.out.c0
                have o2 := HO5.out.c2
                rw [HKX.out] at o2
                have y0 := HM5.out.c0
                have y1 := HM5.out.c1
                have y2 := HM5.out.c2
                have y3 := HM5.out.c3
                have y4 := HM5.out.c4
                have y5 := HM5.out.c5
                have y6 := HM5.out.c6
                have y7 := HM5.out.c7
                have y8 := HM5.out.c8
                have hz := HM5.out.z
                go_upto_region 34 with fail
                show Code.wp _ _ _ _ (setM w5 M tm (.slice ta tn tc) (.slice ua un uc) (.slice za zn zc))
                have HM6 : Hid _ := HM5.out.over tm (.slice ta tn tc) (.slice ua un uc) (.slice za zn zc)
                have HC6 : Hid (Ch (fun x => x = M) w5 (setM w5 M tm (.slice ta tn tc) (.slice ua un uc) (.slice za zn zc))) := ch_setM _ _ _ _ _ _
                generalize setM w5 M tm (.slice ta tn tc) (.slice ua un uc) (.slice za zn zc) = w6 at HM6 HC6 ⊢
                have HG6 : Hid _ := HG5.out.other HMF5.out HC6.out
                clear o0 o2 y0 y1 y2 y3 y4 y5 y6 y7 y8 s0 s1 s2 s3 s4 s5 s6 s7 s8 hz hkt'
                have HCT : Hid (∀ u ∈ cellsT (Tq.mk tm (.slice ta tn tc) (.slice ua un uc) (.slice za zn zc)), u.oneCell' = true) := cellsT_one (w := w) HTL.out
                have HLT9 : Hid (T.length ≤ 5000) := by have := HTI.out; have := HLT.out; show _ ≤ _; omega
                have HGT9 : Hid (G.length ≤ 5000) := by have := HGL.out; have := HLT9.out; show _ ≤ _; omega
                have y0 := HM6.out.c0
                have y1 := HM6.out.c1
                have y2 := HM6.out.c2
                have y3 := HM6.out.c3
                have y4 := HM6.out.c4
                have y5 := HM6.out.c5
                have y6 := HM6.out.c6
                have y7 := HM6.out.c7
                have y8 := HM6.out.c8
                go_upto_region 37 with (at_builtin; refine wpList_append_ms (by rfl) (.tmp 146) (.tmp 148) (by rfl) B _ T.length (flatT T) (by rfl) (own_belowC HG6.out.so (below_alloc _ _)) w6.heap.size 1 (Tq.mk tm (.slice ta tn tc) (.slice ua un uc) (.slice za zn zc)) (by rfl) cells_litT HCT.out HLT9.out (by have h := HG6.out.lo; rw [size_allocC]; omega) ?_; intro v7 w7 hown hgrow hat)
                as_aux_lemma =>
                  have HG7 : Hid _ := HG6.out.sent (below_alloc _ _) hown hgrow hat
                  obtain ⟨a7, c7, rfl⟩ := own_formN HG7.out.so
                  clear hown hgrow hat
                  go_upto_region 38 with (at_builtin; refine wpList_append_bl (by rfl) (.tmp 150) (.tmp 151) (by rfl) B _ G.length (G.map Value.bool) (by rfl) (own_belowC HG7.out.go (below_alloc _ _)) w7.heap.size 1 false (by rfl) (by simp [go_sem]) HGT9.out (by have h := HG7.out.lo; rw [size_allocC]; omega) ?_; intro v8 w8 hown hgrow hat)
                  have HG8 : Hid _ := HG7.out.live (below_alloc _ _) hown hgrow hat
                  obtain ⟨a8, c8, rfl⟩ := own_formN HG8.out.go
                  clear hown hgrow hat
                  have hl1 : IntKind.i64.wrap ((L.length : Int) + 1) = ((L ++ [en2]).length : Int) := by rw [List.length_append, List.length_singleton]; have := HLR.out; rw [wrap_small (by omega) (by omega)]; omega
                  have HGz : Hid _ := bg_nx HG8.out
                  go_wp2_with fail
                  go_meet
                  exact ⟨T ++ [Tq.mk tm (.slice ta tn tc) (.slice ua un uc) (.slice za zn zc)], G ++ [false], L ++ [en2], by simp, by have := HTI.out; simp; omega, by have h := HGz.out; simp only [List.length_append, List.length_singleton] at h ⊢; exact h, HLV5.out, HTK5.out⟩
          have hf4 : (x.c == 4) = false := by simp [hk4]
          clear hk1 hk4
          by_cases hk2 : x.c = 2
          · have hkk : (x.c == 2) = true := by simp [hk2]
            clear hk2
            go_upto_region 42 with fail
            have HY : Hid _ := mx_zero w3
            have HB4 : Hid _ := below_alloc w3 (Obj.cells #[.int .i64 0, .int .i64 0, .int .i64 0, .int .i64 0, .int .i64 0, .int .i64 0, .slice none 0 0, .slice none 0 0, .slice none 0 0] 35)
            obtain ⟨Y, hY⟩ : ∃ Y, Y = w3.heap.size := ⟨_, rfl⟩
            have HYW : Hid (Y = w3.heap.size) := hY
            have HYF : Hid (Of w P b L (.slice sa T.length sca) (.slice ga G.length gca) Y) := HG3.out.off (by rw [hY]; exact Nat.le_refl _)
            rw [← hY] at HY ⊢
            clear hY o0
            generalize w3.alloc (Obj.cells #[.int .i64 0, .int .i64 0, .int .i64 0, .int .i64 0, .int .i64 0, .int .i64 0, .slice none 0 0, .slice none 0 0, .slice none 0 0] 35) = w4 at HY HB4 ⊢
            have HG4 : Hid _ := HG3.out.below HB4.out
            have HO4 : Hid _ := HO.out.below HB4.out
            have HYL4 : Hid (Y < w4.heap.size) := cell_lt HY.out.c0
            have o0 := HO4.out.c0
            have o2 := HO4.out.c2
            go_upto_region 43 with fail
            go_wp2_with fail
            cases hat : atN L x.k with
            | none =>
              have hkf : kn = false := by rw [HKN.out, hat]; rfl
              subst hkf
              refine (deliver_out HG4.out.nt HOK.out.k hat).mono ?_
              rintro e w5 ⟨he, hB⟩
              unfold zMsg at he
              subst he
              have HG5 : Hid _ := HG4.out.below hB
              have HY5 : Hid _ := HY.out.keep hB
              clear hB hat o0 o2
              have hz := HY5.out.z
              have y0 := HY5.out.c0
              have y1 := HY5.out.c1
              have y2 := HY5.out.c2
              have y3 := HY5.out.c3
              have y4 := HY5.out.c4
              have y5 := HY5.out.c5
              have y6 := HY5.out.c6
              have y7 := HY5.out.c7
              have y8 := HY5.out.c8
              go_upto_region 45 with fail
              show Code.wp _ _ _ _ (setM w5 Y zeroMs (.slice none 0 0) (.slice none 0 0) (.slice none 0 0))
              have HC6 : Hid (Ch (fun x => x = Y) w5 (setM w5 Y zeroMs (.slice none 0 0) (.slice none 0 0) (.slice none 0 0))) := ch_setM _ _ _ _ _ _
              generalize setM w5 Y zeroMs (.slice none 0 0) (.slice none 0 0) (.slice none 0 0) = w6 at HC6 ⊢
              have HGz : Hid _ := HG5.out.other HYF.out HC6.out
              clear hz y0 y1 y2 y3 y4 y5 y6 y7 y8
              go_wp2_with fail
              go_meet
              exact ⟨T, G, L, rfl, by have := HTI.out; omega, HGz.out, HLV.out, HTK.out⟩
            | some z =>
              have hkf : kn = true := by rw [HKN.out, hat]; rfl
              subst hkf
              obtain ⟨k, hkx⟩ : ∃ k : Nat, x.k = (k : Int) := ⟨z.n, (atN_mem hat).2.symm⟩
              have hzk : z.n = k := by have := (atN_mem hat).2; omega
              obtain ⟨htl2, hgk, hzm⟩ := HLV.out.fwd z (atN_mem hat).1
              have hkt : k < T.length := by omega
              obtain ⟨t, hte⟩ : ∃ t, t = T[k] := ⟨_, rfl⟩
              have hzt : z.m = t.m := by rw [hzm, hte]; congr 2
              have hgk' : G[k]? = some false := by rw [← hzk]; exact hgk
              obtain ⟨hm1, hm2⟩ := HTK.out t (by rw [hte]; exact List.getElem_mem _)
              obtain ⟨ta, tn, tc, ua, un, uc, za, zn, zc, f1, f2, f3⟩ := ml_form hm1
              obtain ⟨tm, te, tq, tp⟩ := t
              simp only at f1 f2 f3 hm1 hm2 hzt
              subst f1 f2 f3
              have HTE : Hid (T[k]? = some (Tq.mk tm (.slice ta tn tc) (.slice ua un uc) (.slice za zn zc))) := by show _ = _; rw [List.getElem?_eq_getElem hkt, ← hte]
              have HTL : Hid (ML w tm (.slice ta tn tc) (.slice ua un uc) (.slice za zn zc)) := hm1
              have HTO : Hid (tm.ok) := hm2
              have HZT : Hid (z.m = tm) := hzt
              have HGK : Hid (G[k]? = some false) := hgk'
              have HKT : Hid (k < T.length ∧ k < G.length) := ⟨hkt, by rw [HGL.out]; exact hkt⟩
              have HKX : Hid (x.k = (k : Int)) := hkx
              clear hzk htl2 hgk hzm hte hzt hgk' hm1 hm2 hkt hkx
              have hEz := HG4.out.nt.ent z (atN_mem hat).1
              have hOz := HG4.out.nt.off z (atN_mem hat).1
              have HLO : Hid ((outN L (k : Int)).length + 1 = L.length) := by have h := len_out (HG4.out.nt.rise.imp (fun h => h.1)) hat; rw [HKX.out] at h; exact h
              refine (deliver_in HG4.out.nt HOK.out.k hat).mono ?_
              rintro e w5 ⟨he, hn, hc⟩
              obtain ⟨ya, yn, yc, va, vn, vc, wa, wn', wc, g1, g2, g3⟩ := en_form hEz
              have HE5 : Hid (Eo w5 z) := hEz.ch hc (fun y h1 _ e => by omega)
              have HGQ : Hid (z.e = .slice ya yn yc ∧ z.q = .slice va vn vc ∧ z.p = .slice wa wn' wc) := ⟨g1, g2, g3⟩
              have HYZ : Hid (∀ y, z.lo ≤ y → y < z.hi → ¬ y = Y) := by
                have hm := (atN_mem hat).1
                intro y h1 h2 e
                exact HYF.out.k (.inr (.inr ⟨z, hm, by omega, by omega⟩))
              have hv : mvE z = .agg #[.int .i64 tm.K, .int .i64 tm.F, .int .i64 tm.T, .int .i64 tm.B, .int .i64 tm.A, .int .i64 tm.C, .slice ya yn yc, .slice va vn vc, .slice wa wn' wc] := by unfold mvE; rw [g1, g2, g3, HZT.out]
              rw [hv] at he
              subst he
              rw [HKX.out] at hn
              have hcP : Ch (fun x => x = P ∨ x = b) w4 w5 := hc.mono (fun x hx => .inr hx)
              have HG5 : Hid _ := HG4.out.move hcP hn (fun y hy => .inl (mem_out hy).1)
              have HO5 : Hid _ := HO4.out.ch hcP (fun e => HOF.out.k (e.elim .inl (fun q => .inr (.inl q))))
              have HY5 : Hid _ := HY.out.ch hcP (fun e => HYF.out.k (e.elim .inl (fun q => .inr (.inl q))))
              have HYF5 : Hid _ := HYF.out.move HYL4.out (L' := outN L (k : Int)) (fun y hy => .inl (mem_out hy).1)
              have HOY : Hid (O ≠ Y) := by show O ≠ Y; intro e; have h1 := HOL.out; have h2 := HYW.out; omega
              clear hn hc hcP hat hEz hOz g1 g2 g3 hv o0 o2
              have hz := HY5.out.z
              have y0 := HY5.out.c0
              have y1 := HY5.out.c1
              have y2 := HY5.out.c2
              have y3 := HY5.out.c3
              have y4 := HY5.out.c4
              have y5 := HY5.out.c5
              have y6 := HY5.out.c6
              have y7 := HY5.out.c7
              have y8 := HY5.out.c8
              go_upto_region 45 with fail
              show Code.wp _ _ _ _ (setM w5 Y tm (.slice ya yn yc) (.slice va vn vc) (.slice wa wn' wc))
              have HY6 : Hid _ := HY5.out.over tm (.slice ya yn yc) (.slice va vn vc) (.slice wa wn' wc)
              have HC6 : Hid (Ch (fun x => x = Y) w5 (setM w5 Y tm (.slice ya yn yc) (.slice va vn vc) (.slice wa wn' wc))) := ch_setM _ _ _ _ _ _
              generalize setM w5 Y tm (.slice ya yn yc) (.slice va vn vc) (.slice wa wn' wc) = w6 at HY6 HC6 ⊢
              have HG6 : Hid _ := HG5.out.other HYF5.out HC6.out
              have HO6 : Hid _ := HO5.out.ch HC6.out HOY.out
              have HL6 : Hid (ML w6 tm (.slice ya yn yc) (.slice va vn vc) (.slice wa wn' wc)) := by
                have h := (HE5.out.ch HC6.out HYZ.out).mo.l
                rw [HGQ.out.1, HGQ.out.2.1, HGQ.out.2.2, HZT.out] at h
                exact h
              clear hz HG5 HO5 HY5 HC6 HE5 HGQ HYZ y0 y1 y2 y3 y4 y5 y6 y7 y8
              as_aux_lemma =>
                obtain ⟨sg, scap, hsv, _⟩ := row_formN HG6.out.so (by have := HKT.out; omega)
                simp only [Value.slice.injEq] at hsv
                obtain ⟨rfl, _, rfl⟩ := hsv
                have hsc : ∀ j u, (cellsT (Tq.mk tm (.slice ta tn tc) (.slice ua un uc) (.slice za zn zc)))[j]? = some u → (w6).cell? ⟨sg, k * 9 + j, none⟩ = some u := fun j u hj => by
                  have hj9 : j < 9 := by
                    rcases Nat.lt_or_ge j 9 with q | q
                    · exact q
                    · rw [List.getElem?_eq_none (by simpa [cellsT] using q)] at hj; cases hj
                  refine (own_cellN HG6.out.so (j := k * 9 + j) ?_).1
                  rw [flatT_get T k j HKT.out.1 hj9]
                  have he : T[k]'HKT.out.1 = Tq.mk tm (.slice ta tn tc) (.slice ua un uc) (.slice za zn zc) := by have h := HTE.out; rw [List.getElem?_eq_getElem HKT.out.1] at h; exact Option.some.inj h
                  rw [he]; exact hj
                have q0 : ∀ wx, Below w6.heap.size w6 wx → wx.cell? ⟨O, 0, none⟩ = some (.int .i64 x.c) := fun wx hx => (HO6.out.below hx).c0
                have q2 : ∀ wx, Below w6.heap.size w6 wx → wx.cell? ⟨O, 2, none⟩ = some (.int .i64 (k : Int)) := fun wx hx => by have h := (HO6.out.below hx).c2; rw [HKX.out] at h; exact h
                have y0 : ∀ wx, Below w6.heap.size w6 wx → wx.cell? ⟨Y, 0, none⟩ = some (.int .i64 tm.K) := fun wx hx => (HY6.out.keep hx).c0
                have y1 : ∀ wx, Below w6.heap.size w6 wx → wx.cell? ⟨Y, 1, none⟩ = some (.int .i64 tm.F) := fun wx hx => (HY6.out.keep hx).c1
                have y2 : ∀ wx, Below w6.heap.size w6 wx → wx.cell? ⟨Y, 2, none⟩ = some (.int .i64 tm.T) := fun wx hx => (HY6.out.keep hx).c2
                have y3 : ∀ wx, Below w6.heap.size w6 wx → wx.cell? ⟨Y, 3, none⟩ = some (.int .i64 tm.B) := fun wx hx => (HY6.out.keep hx).c3
                have y4 : ∀ wx, Below w6.heap.size w6 wx → wx.cell? ⟨Y, 4, none⟩ = some (.int .i64 tm.A) := fun wx hx => (HY6.out.keep hx).c4
                have y5 : ∀ wx, Below w6.heap.size w6 wx → wx.cell? ⟨Y, 5, none⟩ = some (.int .i64 tm.C) := fun wx hx => (HY6.out.keep hx).c5
                have y6 : ∀ wx, Below w6.heap.size w6 wx → wx.cell? ⟨Y, 6, none⟩ = some (.slice ya yn yc) := fun wx hx => (HY6.out.keep hx).c6
                have y7 : ∀ wx, Below w6.heap.size w6 wx → wx.cell? ⟨Y, 7, none⟩ = some (.slice va vn vc) := fun wx hx => (HY6.out.keep hx).c7
                have y8 : ∀ wx, Below w6.heap.size w6 wx → wx.cell? ⟨Y, 8, none⟩ = some (.slice wa wn' wc) := fun wx hx => (HY6.out.keep hx).c8
                have s0 : ∀ wx, Below w6.heap.size w6 wx → wx.cell? ⟨sg, k * 9, none⟩ = some (.int .i64 tm.K) := fun wx hx => by rw [hx.cell (p := ⟨sg, k * 9, none⟩) (cell_lt (hsc 0 _ rfl))]; exact hsc 0 _ rfl
                have s1 : ∀ wx, Below w6.heap.size w6 wx → wx.cell? ⟨sg, k * 9 + 1, none⟩ = some (.int .i64 tm.F) := fun wx hx => by rw [hx.cell (p := ⟨sg, k * 9 + 1, none⟩) (cell_lt (hsc 1 _ rfl))]; exact hsc 1 _ rfl
                have s2 : ∀ wx, Below w6.heap.size w6 wx → wx.cell? ⟨sg, k * 9 + 2, none⟩ = some (.int .i64 tm.T) := fun wx hx => by rw [hx.cell (p := ⟨sg, k * 9 + 2, none⟩) (cell_lt (hsc 2 _ rfl))]; exact hsc 2 _ rfl
                have s3 : ∀ wx, Below w6.heap.size w6 wx → wx.cell? ⟨sg, k * 9 + 3, none⟩ = some (.int .i64 tm.B) := fun wx hx => by rw [hx.cell (p := ⟨sg, k * 9 + 3, none⟩) (cell_lt (hsc 3 _ rfl))]; exact hsc 3 _ rfl
                have s4 : ∀ wx, Below w6.heap.size w6 wx → wx.cell? ⟨sg, k * 9 + 4, none⟩ = some (.int .i64 tm.A) := fun wx hx => by rw [hx.cell (p := ⟨sg, k * 9 + 4, none⟩) (cell_lt (hsc 4 _ rfl))]; exact hsc 4 _ rfl
                have s5 : ∀ wx, Below w6.heap.size w6 wx → wx.cell? ⟨sg, k * 9 + 5, none⟩ = some (.int .i64 tm.C) := fun wx hx => by rw [hx.cell (p := ⟨sg, k * 9 + 5, none⟩) (cell_lt (hsc 5 _ rfl))]; exact hsc 5 _ rfl
                have s6 : ∀ wx, Below w6.heap.size w6 wx → wx.cell? ⟨sg, k * 9 + 6, none⟩ = some (.slice ta tn tc) := fun wx hx => by rw [hx.cell (p := ⟨sg, k * 9 + 6, none⟩) (cell_lt (hsc 6 _ rfl))]; exact hsc 6 _ rfl
                have s7 : ∀ wx, Below w6.heap.size w6 wx → wx.cell? ⟨sg, k * 9 + 7, none⟩ = some (.slice ua un uc) := fun wx hx => by rw [hx.cell (p := ⟨sg, k * 9 + 7, none⟩) (cell_lt (hsc 7 _ rfl))]; exact hsc 7 _ rfl
                have s8 : ∀ wx, Below w6.heap.size w6 wx → wx.cell? ⟨sg, k * 9 + 8, none⟩ = some (.slice za zn zc) := fun wx hx => by rw [hx.cell (p := ⟨sg, k * 9 + 8, none⟩) (cell_lt (hsc 8 _ rfl))]; exact hsc 8 _ rfl
                clear hsc
                have hkt' : (k : Int) < (T.length : Int) := by have := HKT.out; omega
                go_upto_region 48 with fail
                refine wp_region_noPanic ?_
                refine wp_region_held_drew (S := fun wx => Below w6.heap.size w6 wx) (by kernel_rfl) ?_ (fun hHeld => ?_)
                · exact below_drewN w6 1
                refine wpAnyH_take (i := 0) (oi := ⟨some 186, _, _, _, _, _⟩) (v := ?_) rfl (by kernel_rfl) (by kernel_rfl) (by kernel_rfl) (fun _ _ _ h => h) (Or.inl ⟨by rfl, ?_⟩) hHeld ?_
                rotate_left
                · intro w hSw; (try dsimp only at hSw); go_simp; all_goals (with_reducible rfl)
                try simp only [Act.put, List.setIfInBounds_toArray, List.set_cons_zero, List.set_cons_succ]
                refine wpAnyH_take (i := 1) (oi := ⟨some 187, _, _, _, _, _⟩) (v := ?_) rfl (by kernel_rfl) (by kernel_rfl) (by kernel_rfl) (fun _ _ _ h => h) (Or.inl ⟨by rfl, ?_⟩) hHeld ?_
                rotate_left
                · intro w hSw; (try dsimp only at hSw); go_simp; all_goals (with_reducible rfl)
                try simp only [Act.put, List.setIfInBounds_toArray, List.set_cons_zero, List.set_cons_succ]
                refine wpAnyH_take (i := 2) (oi := ⟨some 188, _, _, _, _, _⟩) (v := ?_) rfl (by kernel_rfl) (by kernel_rfl) (by kernel_rfl) (fun _ _ _ h => h) (Or.inl ⟨by rfl, ?_⟩) hHeld ?_
                rotate_left
                · intro w hSw; (try dsimp only at hSw); go_simp; all_goals (with_reducible rfl)
                try simp only [Act.put, List.setIfInBounds_toArray, List.set_cons_zero, List.set_cons_succ]
                refine wpAnyH_take (i := 3) (oi := ⟨some 189, _, _, _, _, _⟩) (v := ?_) rfl (by kernel_rfl) (by kernel_rfl) (by kernel_rfl) (fun _ _ _ h => h) (Or.inl ⟨by rfl, ?_⟩) hHeld ?_
                rotate_left
                · intro w hSw; (try dsimp only at hSw); go_simp; all_goals (with_reducible rfl)
                try simp only [Act.put, List.setIfInBounds_toArray, List.set_cons_zero, List.set_cons_succ]
                refine wpAnyH_take (i := 4) (oi := ⟨some 190, _, _, _, _, _⟩) (v := ?_) rfl (by kernel_rfl) (by kernel_rfl) (by kernel_rfl) (fun _ _ _ h => h) (Or.inl ⟨by rfl, ?_⟩) hHeld ?_
                rotate_left
                · intro w hSw; (try dsimp only at hSw); go_simp; all_goals (with_reducible rfl)
                try simp only [Act.put, List.setIfInBounds_toArray, List.set_cons_zero, List.set_cons_succ]
                refine wpAnyH_take (i := 5) (oi := ⟨some 191, _, _, _, _, _⟩) (v := ?_) rfl (by kernel_rfl) (by kernel_rfl) (by kernel_rfl) (fun _ _ _ h => h) (Or.inl ⟨by rfl, ?_⟩) hHeld ?_
                rotate_left
                · intro w hSw; (try dsimp only at hSw); go_simp; all_goals (with_reducible rfl)
                try simp only [Act.put, List.setIfInBounds_toArray, List.set_cons_zero, List.set_cons_succ]
                refine wpAnyH_take (i := 6) (oi := ⟨some 192, _, _, _, _, _⟩) (v := ?_) rfl (by kernel_rfl) (by kernel_rfl) (by kernel_rfl) (fun _ _ _ h => h) (Or.inl ⟨by rfl, ?_⟩) hHeld ?_
                rotate_left
                · intro w hSw; (try dsimp only at hSw); go_simp; all_goals (with_reducible rfl)
                try simp only [Act.put, List.setIfInBounds_toArray, List.set_cons_zero, List.set_cons_succ]
                refine wpAnyH_take (i := 7) (oi := ⟨some 193, _, _, _, _, _⟩) (v := ?_) rfl (by kernel_rfl) (by kernel_rfl) (by kernel_rfl) (fun _ _ _ h => h) (Or.inl ⟨by rfl, ?_⟩) hHeld ?_
                rotate_left
                · intro w hSw; (try dsimp only at hSw); go_simp; all_goals (with_reducible rfl)
                try simp only [Act.put, List.setIfInBounds_toArray, List.set_cons_zero, List.set_cons_succ]
                refine wpAnyH_take (i := 8) (oi := ⟨some 194, _, _, _, _, _⟩) (v := ?_) rfl (by kernel_rfl) (by kernel_rfl) (by kernel_rfl) (fun _ _ _ h => h) (Or.inl ⟨by rfl, ?_⟩) hHeld ?_
                rotate_left
                · intro w hSw; (try dsimp only at hSw); go_simp; all_goals (with_reducible rfl)
                try simp only [Act.put, List.setIfInBounds_toArray, List.set_cons_zero, List.set_cons_succ]
                refine wpAnyH_take (i := 9) (oi := ⟨some 195, _, _, _, _, _⟩) (v := ?_) rfl (by kernel_rfl) (by kernel_rfl) (by kernel_rfl) (fun _ _ _ h => h) (Or.inl ⟨by rfl, ?_⟩) hHeld ?_
                rotate_left
                · intro w hSw; (try dsimp only at hSw); go_simp; all_goals (with_reducible rfl)
                try simp only [Act.put, List.setIfInBounds_toArray, List.set_cons_zero, List.set_cons_succ]
                refine wpAnyH_ready (rs := [10]) (by kernel_rfl) (by simp) ?_
                refine AllReadyH.cons (o := ⟨some 196, _, _, _, _, _⟩) rfl (fun K hK => ?_) AllReadyH.nil
                go_simp
                refine (same_walk (HL6.out.below (below_drewN w6 1)) (HTL.out.below (HG6.out.below (below_drewN w6 1)).w) HTO.out).mono ?_
                rintro e9 w7 ⟨rfl, hB⟩
                have HB7 : Hid (Below w6.heap.size w6 w7) := below_trans (below_drewN w6 1) hB
                clear hB
                refine hK.out _ _ ?_ (fun hHeld => ?_)
                · exact HB7.out
                clear hK K
                try simp only [Act.put, List.setIfInBounds_toArray, List.set_cons_zero, List.set_cons_succ]
                refine wpAnyH_take (i := 11) (oi := ⟨some 197, _, _, _, _, _⟩) (v := ?_) rfl (by kernel_rfl) (by kernel_rfl) (by kernel_rfl) (fun _ _ _ h => h) (Or.inl ⟨by rfl, ?_⟩) hHeld ?_
                rotate_left
                · intro w hSw; (try dsimp only at hSw); go_simp; all_goals (with_reducible rfl)
                try simp only [Act.put, List.setIfInBounds_toArray, List.set_cons_zero, List.set_cons_succ]
                refine wpAnyH_take (i := 12) (oi := ⟨some 198, _, _, _, _, _⟩) (v := ?_) rfl (by kernel_rfl) (by kernel_rfl) (by kernel_rfl) (fun _ _ _ h => h) (Or.inl ⟨by rfl, ?_⟩) hHeld ?_
                rotate_left
                · intro w hSw; (try dsimp only at hSw); go_simp; all_goals (with_reducible rfl)
                try simp only [Act.put, List.setIfInBounds_toArray, List.set_cons_zero, List.set_cons_succ]
                refine wpAnyH_done (by kernel_rfl) ?_ _
                refine NoPanic.normal ?_
                have HG6b : Hid _ := HG6.out.below HB7.out
                have HO6b : Hid _ := HO6.out.below HB7.out
                clear HG6 HO6 HY6 q0 q2 y0 y1 y2 y3 y4 y5 y6 y7 y8 s0 s1 s2 s3 s4 s5 s6 s7 s8 hkt'
                have HG6 : Hid _ := HG6b.out
                have HO6 : Hid _ := HO6b.out
                as_aux_lemma =>
                  obtain ⟨gg, gcap, hgv, _⟩ := row_formN HG6.out.go (by have := HKT.out; omega)
                  simp only [Value.slice.injEq] at hgv
                  obtain ⟨rfl, _, rfl⟩ := hgv
                  obtain ⟨hg1, hg2⟩ := own_cellN HG6.out.go (j := k) (u := .bool false) (by rw [List.getElem?_map, HGK.out]; rfl)
                  have hkg : (k : Int) < (G.length : Int) := by have := HKT.out; omega
                  have o0 := HO6.out.c0
                  have o2 := HO6.out.c2
                  rw [HKX.out] at o2
                  go_upto_region 51 with fail
                  have HG7 : Hid _ := HG6.out.gone (k := k)
                  have hl1 : IntKind.i64.wrap ((L.length : Int) - 1) = ((outN L (k : Int)).length : Int) := by have h := HLO.out; have := HLR.out; rw [wrap_small (by omega) (by omega)]; omega
                  have HGz : Hid (Bg w B P b r T.length T (G.set k true) (outN L (k : Int)) _ _ _) := HG7.out
                  clear hg1 hg2 hkg o0 o2
                  generalize w7.setCell ⟨gg, k, none⟩ (.bool true) = w9 at HG7 HGz ⊢
                  go_wp2_with fail
                  go_meet
                  exact ⟨T, G.set k true, outN L (k : Int), rfl, by have := HTI.out; omega, HGz.out, live_out HLV.out k, HTK.out⟩
          have hf2 : (x.c == 2) = false := by simp [hk2]
          by_cases hk3 : x.c = 3
          · have hkk : (x.c == 3) = true := by simp [hk3]
            clear hk2 hk3
            as_aux_lemma =>
              go_upto_region 42 with fail
              have HY : Hid _ := mx_zero w3
              have HB4 : Hid _ := below_alloc w3 (Obj.cells #[.int .i64 0, .int .i64 0, .int .i64 0, .int .i64 0, .int .i64 0, .int .i64 0, .slice none 0 0, .slice none 0 0, .slice none 0 0] 35)
              obtain ⟨Y, hY⟩ : ∃ Y, Y = w3.heap.size := ⟨_, rfl⟩
              have HYW : Hid (Y = w3.heap.size) := hY
              have HYF : Hid (Of w P b L (.slice sa T.length sca) (.slice ga G.length gca) Y) := HG3.out.off (by rw [hY]; exact Nat.le_refl _)
              rw [← hY] at HY ⊢
              clear hY o0
              generalize w3.alloc (Obj.cells #[.int .i64 0, .int .i64 0, .int .i64 0, .int .i64 0, .int .i64 0, .int .i64 0, .slice none 0 0, .slice none 0 0, .slice none 0 0] 35) = w4 at HY HB4 ⊢
              have HG4 : Hid _ := HG3.out.below HB4.out
              have HO4 : Hid _ := HO.out.below HB4.out
              have HYL4 : Hid (Y < w4.heap.size) := cell_lt HY.out.c0
              have o0 := HO4.out.c0
              have o2 := HO4.out.c2
              go_upto_region 44 with fail
              go_wp2_with fail
              cases hat : atN L x.k with
              | none =>
                have hkf : kn = false := by rw [HKN.out, hat]; rfl
                subst hkf
                refine (drop_out HG4.out.nt HOK.out.k hat).mono ?_
                rintro e w5 ⟨rfl, hB⟩
                have HGz : Hid _ := HG4.out.below hB
                clear hB hat o0 o2
                go_wp2_with fail
                go_meet
                exact ⟨T, G, L, rfl, by have := HTI.out; omega, HGz.out, HLV.out, HTK.out⟩
              | some z =>
                have hkf : kn = true := by rw [HKN.out, hat]; rfl
                subst hkf
                obtain ⟨k, hkx⟩ : ∃ k : Nat, x.k = (k : Int) := ⟨z.n, (atN_mem hat).2.symm⟩
                have hzk : z.n = k := by have := (atN_mem hat).2; omega
                obtain ⟨htl2, hgk, hzm⟩ := HLV.out.fwd z (atN_mem hat).1
                have hkt : k < T.length := by omega
                obtain ⟨t, hte⟩ : ∃ t, t = T[k] := ⟨_, rfl⟩
                have hzt : z.m = t.m := by rw [hzm, hte]; congr 2
                have hgk' : G[k]? = some false := by rw [← hzk]; exact hgk
                obtain ⟨hm1, hm2⟩ := HTK.out t (by rw [hte]; exact List.getElem_mem _)
                obtain ⟨ta, tn, tc, ua, un, uc, za, zn, zc, f1, f2, f3⟩ := ml_form hm1
                obtain ⟨tm, te, tq, tp⟩ := t
                simp only at f1 f2 f3 hm1 hm2 hzt
                subst f1 f2 f3
                have HTE : Hid (T[k]? = some (Tq.mk tm (.slice ta tn tc) (.slice ua un uc) (.slice za zn zc))) := by show _ = _; rw [List.getElem?_eq_getElem hkt, ← hte]
                have HTL : Hid (ML w tm (.slice ta tn tc) (.slice ua un uc) (.slice za zn zc)) := hm1
                have HTO : Hid (tm.ok) := hm2
                have HZT : Hid (z.m = tm) := hzt
                have HGK : Hid (G[k]? = some false) := hgk'
                have HKT : Hid (k < T.length ∧ k < G.length) := ⟨hkt, by rw [HGL.out]; exact hkt⟩
                have HKX : Hid (x.k = (k : Int)) := hkx
                clear hzk htl2 hgk hzm hte hzt hgk' hm1 hm2 hkt hkx
                have HLO : Hid ((outN L (k : Int)).length + 1 = L.length) := by have h := len_out (HG4.out.nt.rise.imp (fun h => h.1)) hat; rw [HKX.out] at h; exact h
                refine (drop_in HG4.out.nt HOK.out.k hat).mono ?_
                rintro e w5 ⟨rfl, hn, hc⟩
                rw [HKX.out] at hn
                have hcP : Ch (fun x => x = P ∨ x = b) w4 w5 := hc.mono (fun x hx => .inr hx)
                have HG5 : Hid _ := HG4.out.move hcP hn (fun y hy => .inl (mem_out hy).1)
                have HO5 : Hid _ := HO4.out.ch hcP (fun e => HOF.out.k (e.elim .inl (fun q => .inr (.inl q))))
                clear hn hc hcP hat o0 o2
                have o0 := HO5.out.c0
                go_upto_region 48 with fail
                go_quiet (fail)
                go_upto_region 50 with fail
                generalize hw7 : w5.drewN nq = w7
                have HB7 : Hid (Below w5.heap.size w5 w7) := by rw [← hw7]; exact below_drewN w5 nq
                have HG6 : Hid _ := HG5.out.below HB7.out
                have HO6 : Hid _ := HO5.out.below HB7.out
                clear hw7 HG5 HO5 o0
                obtain ⟨gg, gcap, hgv, _⟩ := row_formN HG6.out.go (by have := HKT.out; omega)
                simp only [Value.slice.injEq] at hgv
                obtain ⟨rfl, _, rfl⟩ := hgv
                obtain ⟨hg1, hg2⟩ := own_cellN HG6.out.go (j := k) (u := .bool false) (by rw [List.getElem?_map, HGK.out]; rfl)
                have hkg : (k : Int) < (G.length : Int) := by have := HKT.out; omega
                have o0 := HO6.out.c0
                have o2 := HO6.out.c2
                rw [HKX.out] at o2
                go_upto_region 51 with fail
                have HG7 : Hid _ := HG6.out.gone (k := k)
                have hl1 : IntKind.i64.wrap ((L.length : Int) - 1) = ((outN L (k : Int)).length : Int) := by have h := HLO.out; have := HLR.out; rw [wrap_small (by omega) (by omega)]; omega
                have HGz : Hid (Bg w B P b r T.length T (G.set k true) (outN L (k : Int)) _ _ _) := HG7.out
                clear hg1 hg2 hkg o0 o2
                generalize w7.setCell ⟨gg, k, none⟩ (.bool true) = w9 at HG7 HGz ⊢
                go_wp2_with fail
                go_meet
                exact ⟨T, G.set k true, outN L (k : Int), rfl, by have := HTI.out; omega, HGz.out, live_out HLV.out k, HTK.out⟩
          have hf3 : (x.c == 3) = false := by simp [hk3]
          clear hk2 hk3 
          have HGz : Hid _ := HG3.out
          go_wp2_with fail
          go_meet
          exact ⟨T, G, L, rfl, by have := HTI.out; omega, HGz.out, HLV.out, HTK.out⟩
        case rest =>
          obtain ⟨T2, G2', L2, rfl, hti2, hbg2, hlv2, htk2⟩ := hcut
          obtain ⟨sa2, sca2, hsv2⟩ := own_formN hbg2.so
          obtain ⟨ga2, gca2, hgv2⟩ := own_formN hbg2.go
          subst hsv2 hgv2
          have HG2 : Hid _ := hbg2
          have HL2 : Hid _ := hlv2
          have HT2 : Hid _ := htk2
          have HTI2 : Hid (T2.length ≤ i + 1) := hti2
          clear hbg2 hlv2 htk2 hti2
          go_wp2_with fail
          refine (next_walk HG2.out.nt).mono ?_
          rintro e wn ⟨rfl, hwn⟩
          rw [← hwn] at HG2
          clear hwn
          have hnx : ((T2.length : Int) != (T2.length : Int)) = false := by simp
          have hth : ¬ (r : Int) < (L2.length : Int) := by have h := HG2.out.nt.len; omega
          have htl9 : (T2.length : Int) ≤ 9223372036854775807 := by have := HTI2.out; have := HLT.out; omega
          have hib : (i : Int) < 2000 := by have := HLT.out; omega
          go_wp2_with fail
          go_roundw
          case rel => exact ⟨i + 1, T2, G2', L2, by go_num, HLT.out.1, HLT.out.2, rfl, HTI2.out, HG2.out, HL2.out, HT2.out⟩
          case measure => have := HLT.out; simp [intOf]; omega
    · have HOUT : Hid (¬ (i < l.length ∧ i < 2000)) := hlt
      have HIL : Hid (i ≤ l.length) := hil
      clear hlt hil hi2
      obtain ⟨wo, hwo⟩ : ∃ wo, wo = wr := ⟨_, rfl⟩
      rw [← hwo] at HG ⊢
      clear hwo
      go_upto_region 10 with fail
      go_cut [52] (fun cv wx => cv = .bool false ∧ wx = wo)
      case first =>
        by_cases hlt1 : i < l.length
        · have hlti : (i : Int) < (l.length : Int) := by omega
          have hlt2 : ¬ (i : Int) < 2000 := by have := HOUT.out; omega
          go_wp2_with fail
          go_meet
          exact ⟨rfl, rfl⟩
        · have hlti : ¬ (i : Int) < (l.length : Int) := by omega
          go_wp2_with fail
          go_meet
          exact ⟨rfl, rfl⟩
      case rest =>
        obtain ⟨rfl, hwc⟩ := hcut
        replace hwc := hwc.symm
        subst hwc
        have htl : (T.length : Int) ≤ 3000 := by have := HTI.out; have := HIL.out; have := HOUT.out; have := HI2.out; omega
        have hlr : (L.length : Int) ≤ 4096 := by have := HLR.out; omega
        go_upto_region 54 with fail
        as_aux_lemma =>
          go_wp2_with fail
          refine (flights_walk HG.out.nt (by omega)).mono ?_
          rintro e w6 ⟨v6, F, rfl, hfr, hnm, hB⟩
          have hFL : F.length = L.length := by have h := congrArg List.length hnm; simpa using h
          obtain ⟨fa, fc, rfl⟩ := own_formN hfr.own
          rw [hFL]
          rw [hFL] at hfr
          have HFV : Hid (Fv w6 (.slice fa L.length fc) F) := hfr.fv
          have HNM : Hid (F.map nmE = L.map nmE) := hnm
          have HFL : Hid (F.length = L.length) := hFL
          have HG6 : Hid _ := HG.out.below hB
          have HRS : Hid (RiseE L) := HG.out.nt.rise.imp (fun h => h.1)
          have hne : ((L.length : Int) != (L.length : Int)) = false := by simp
          clear hfr hnm hFL hB HG
          go_upto_region 59 with fail
          clear hne
          go_loopw [20, 21] (fun av kv wx => ∃ k : Nat, kv = .int .i64 k ∧ k ≤ T.length ∧ av = .int .i64 (cnE L k) ∧ Below w6.heap.size w6 wx) (fun _ kv _ => T.length - (intOf kv).toNat)
          case atStart => exact ⟨0, rfl, Nat.zero_le _, by rw [cnE_zero]; rfl, Below.refl _ _⟩
          case round =>
            obtain ⟨k, rfl, hkt, rfl, hbel⟩ := hrel
            have HB : Hid (Below w6.heap.size w6 wr) := hbel
            have HG7 : Hid _ := HG6.out.below hbel
            clear hbel
            by_cases hlt : k < T.length
            · have hlti : (k : Int) < (T.length : Int) := by omega
              have HKT : Hid (k < T.length ∧ k < G.length) := ⟨hlt, by rw [HGL.out]; exact hlt⟩
              have hkg : (k : Int) < (G.length : Int) := by have := HKT.out; omega
              obtain ⟨gg, gcap, hgv, _⟩ := row_formN HG7.out.go (by have := HKT.out; omega)
              simp only [Value.slice.injEq] at hgv
              obtain ⟨rfl, _, rfl⟩ := hgv
              obtain ⟨y, hy⟩ : ∃ y, G[k]? = some y := ⟨G[k]'(HKT.out.2), List.getElem?_eq_getElem _⟩
              have hgc := (own_cellN HG7.out.go (j := k) (u := .bool y) (by rw [List.getElem?_map, hy]; rfl)).1
              cases y with
              | true =>
                have HCN : Hid (cnE L (k + 1) = cnE L k) := cnE_no (fun z hz e => by obtain ⟨_, h2, _⟩ := HLV.out.fwd z hz; rw [e, hy] at h2; cases h2)
                clear hy
                go_wp2_with fail
                go_roundw
                case rel => exact ⟨k + 1, by go_num, HKT.out.1, by rw [HCN.out], HB.out⟩
                case measure => have := HKT.out; simp [intOf]; omega
              | false =>
                obtain ⟨z, hz, hzn⟩ := HLV.out.bwd k hy
                obtain ⟨hc1, hc2⟩ := cnE_yes HRS.out hz
                rw [hzn] at hc1 hc2
                obtain ⟨_, _, hzm⟩ := HLV.out.fwd z hz
                obtain ⟨a, ha⟩ : ∃ a, a = cnE L k := ⟨_, rfl⟩
                have HAE : Hid (a = cnE L k ∧ cnE L (k + 1) = cnE L k + 1) := ⟨ha, hc1⟩
                rw [← ha] at hc2 ⊢
                have hal : a < L.length := by
                  rcases Nat.lt_or_ge a L.length with q | q
                  · exact q
                  · rw [List.getElem?_eq_none q] at hc2; cases hc2
                have hafl : a < F.length := by rw [HFL.out]; exact hal
                have hali : (a : Int) < (L.length : Int) := by omega
                have hage : ¬ (L.length : Int) ≤ (a : Int) := by omega
                obtain ⟨fb, foff, rfl, hfx⟩ := fv_at (HFV.out.below HB.out) hafl
                have hml := (HFV.out.below HB.out).ml F[a] (List.getElem_mem _)
                have hxe : nmE F[a] = nmE z := by
                  have h := congrArg (fun l => l[a]?) HNM.out
                  simp only [List.getElem?_map, List.getElem?_eq_getElem hafl, hc2, Option.map_some, Option.some.injEq] at h
                  exact h
                obtain ⟨f, hf⟩ : ∃ f, f = F[a] := ⟨_, rfl⟩
                have hfx' : Fx wr fb (foff + a * 10) f.n f.m f.e f.q f.p := by rw [hf]; exact hfx
                have hml' : ML wr f.m f.e f.q f.p := by rw [hf]; exact hml
                have hxe' : nmE f = nmE z := by rw [hf]; exact hxe
                clear hfx hml hxe hf
                obtain ⟨t, hte⟩ : ∃ t, t = T[k] := ⟨_, rfl⟩
                have hzt : z.m = t.m := by rw [hzm, hte]; congr 2
                obtain ⟨hm1, hm2⟩ := HTK.out t (by rw [hte]; exact List.getElem_mem _)
                obtain ⟨ta, tn, tc, ua, un, uc, za, zn, zc, f1, f2, f3⟩ := ml_form hm1
                obtain ⟨tm, te, tq, tp⟩ := t
                simp only at f1 f2 f3 hm1 hm2 hzt
                subst f1 f2 f3
                have HTE : Hid (T[k]? = some (Tq.mk tm (.slice ta tn tc) (.slice ua un uc) (.slice za zn zc))) := by show _ = _; rw [List.getElem?_eq_getElem hlt, ← hte]
                obtain ⟨fn, fm, fe, fq, fp, fl, fh⟩ := f
                simp only [nmE, Prod.mk.injEq] at hxe'
                simp only at hfx' hml'
                obtain ⟨rfl, hfm⟩ := hxe'
                rw [hzn] at hfx'
                have hfm' : fm = tm := hfm.trans hzt
                subst hfm'
                obtain ⟨ya, yn, yc, va, vn, vc, wa, wn', wc, rfl, rfl, rfl⟩ := ml_form hml'
                have HFX : Hid _ := hfx'
                have HML : Hid _ := hml'
                have HTL : Hid (ML w fm (.slice ta tn tc) (.slice ua un uc) (.slice za zn zc)) := hm1
                have HTO : Hid (fm.ok) := hm2
                clear hfx' hml' hm1 hm2 hfm hzt hte hzm hzn hc1 hc2 hz hy ha hal hafl
                obtain ⟨sg, scap, hsv, _⟩ := row_formN HG7.out.so (by have := HKT.out; omega)
                simp only [Value.slice.injEq] at hsv
                obtain ⟨rfl, _, rfl⟩ := hsv
                have hsc : ∀ j u, (cellsT (Tq.mk fm (.slice ta tn tc) (.slice ua un uc) (.slice za zn zc)))[j]? = some u → (wr).cell? ⟨sg, k * 9 + j, none⟩ = some u := fun j u hj => by
                  have hj9 : j < 9 := by
                    rcases Nat.lt_or_ge j 9 with q | q
                    · exact q
                    · rw [List.getElem?_eq_none (by simpa [cellsT] using q)] at hj; cases hj
                  refine (own_cellN HG7.out.so (j := k * 9 + j) ?_).1
                  rw [flatT_get T k j HKT.out.1 hj9]
                  have he : T[k]'HKT.out.1 = Tq.mk fm (.slice ta tn tc) (.slice ua un uc) (.slice za zn zc) := by have h := HTE.out; rw [List.getElem?_eq_getElem HKT.out.1] at h; exact Option.some.inj h
                  rw [he]; exact hj
                have y0 : ∀ wx, Below wr.heap.size wr wx → wx.cell? ⟨fb, foff + a * 10, none⟩ = some (.int .i64 (k : Int)) := fun wx hx => (HFX.out.below hx).c0
                have y1 : ∀ wx, Below wr.heap.size wr wx → wx.cell? ⟨fb, foff + a * 10 + 1, none⟩ = some (.int .i64 fm.K) := fun wx hx => (HFX.out.below hx).c1
                have y2 : ∀ wx, Below wr.heap.size wr wx → wx.cell? ⟨fb, foff + a * 10 + 1 + 1, none⟩ = some (.int .i64 fm.F) := fun wx hx => (HFX.out.below hx).c2
                have y3 : ∀ wx, Below wr.heap.size wr wx → wx.cell? ⟨fb, foff + a * 10 + 1 + 2, none⟩ = some (.int .i64 fm.T) := fun wx hx => (HFX.out.below hx).c3
                have y4 : ∀ wx, Below wr.heap.size wr wx → wx.cell? ⟨fb, foff + a * 10 + 1 + 3, none⟩ = some (.int .i64 fm.B) := fun wx hx => (HFX.out.below hx).c4
                have y5 : ∀ wx, Below wr.heap.size wr wx → wx.cell? ⟨fb, foff + a * 10 + 1 + 4, none⟩ = some (.int .i64 fm.A) := fun wx hx => (HFX.out.below hx).c5
                have y6 : ∀ wx, Below wr.heap.size wr wx → wx.cell? ⟨fb, foff + a * 10 + 1 + 5, none⟩ = some (.int .i64 fm.C) := fun wx hx => (HFX.out.below hx).c6
                have y7 : ∀ wx, Below wr.heap.size wr wx → wx.cell? ⟨fb, foff + a * 10 + 1 + 6, none⟩ = some (.slice ya yn yc) := fun wx hx => (HFX.out.below hx).c7
                have y8 : ∀ wx, Below wr.heap.size wr wx → wx.cell? ⟨fb, foff + a * 10 + 1 + 7, none⟩ = some (.slice va vn vc) := fun wx hx => (HFX.out.below hx).c8
                have y9 : ∀ wx, Below wr.heap.size wr wx → wx.cell? ⟨fb, foff + a * 10 + 1 + 8, none⟩ = some (.slice wa wn' wc) := fun wx hx => (HFX.out.below hx).c9
                have s0 : ∀ wx, Below wr.heap.size wr wx → wx.cell? ⟨sg, k * 9, none⟩ = some (.int .i64 fm.K) := fun wx hx => by rw [hx.cell (p := ⟨sg, k * 9, none⟩) (cell_lt (hsc 0 _ rfl))]; exact hsc 0 _ rfl
                have s1 : ∀ wx, Below wr.heap.size wr wx → wx.cell? ⟨sg, k * 9 + 1, none⟩ = some (.int .i64 fm.F) := fun wx hx => by rw [hx.cell (p := ⟨sg, k * 9 + 1, none⟩) (cell_lt (hsc 1 _ rfl))]; exact hsc 1 _ rfl
                have s2 : ∀ wx, Below wr.heap.size wr wx → wx.cell? ⟨sg, k * 9 + 2, none⟩ = some (.int .i64 fm.T) := fun wx hx => by rw [hx.cell (p := ⟨sg, k * 9 + 2, none⟩) (cell_lt (hsc 2 _ rfl))]; exact hsc 2 _ rfl
                have s3 : ∀ wx, Below wr.heap.size wr wx → wx.cell? ⟨sg, k * 9 + 3, none⟩ = some (.int .i64 fm.B) := fun wx hx => by rw [hx.cell (p := ⟨sg, k * 9 + 3, none⟩) (cell_lt (hsc 3 _ rfl))]; exact hsc 3 _ rfl
                have s4 : ∀ wx, Below wr.heap.size wr wx → wx.cell? ⟨sg, k * 9 + 4, none⟩ = some (.int .i64 fm.A) := fun wx hx => by rw [hx.cell (p := ⟨sg, k * 9 + 4, none⟩) (cell_lt (hsc 4 _ rfl))]; exact hsc 4 _ rfl
                have s5 : ∀ wx, Below wr.heap.size wr wx → wx.cell? ⟨sg, k * 9 + 5, none⟩ = some (.int .i64 fm.C) := fun wx hx => by rw [hx.cell (p := ⟨sg, k * 9 + 5, none⟩) (cell_lt (hsc 5 _ rfl))]; exact hsc 5 _ rfl
                have s6 : ∀ wx, Below wr.heap.size wr wx → wx.cell? ⟨sg, k * 9 + 6, none⟩ = some (.slice ta tn tc) := fun wx hx => by rw [hx.cell (p := ⟨sg, k * 9 + 6, none⟩) (cell_lt (hsc 6 _ rfl))]; exact hsc 6 _ rfl
                have s7 : ∀ wx, Below wr.heap.size wr wx → wx.cell? ⟨sg, k * 9 + 7, none⟩ = some (.slice ua un uc) := fun wx hx => by rw [hx.cell (p := ⟨sg, k * 9 + 7, none⟩) (cell_lt (hsc 7 _ rfl))]; exact hsc 7 _ rfl
                have s8 : ∀ wx, Below wr.heap.size wr wx → wx.cell? ⟨sg, k * 9 + 8, none⟩ = some (.slice za zn zc) := fun wx hx => by rw [hx.cell (p := ⟨sg, k * 9 + 8, none⟩) (cell_lt (hsc 8 _ rfl))]; exact hsc 8 _ rfl
                clear hsc
                have hkk : ((k : Int) != (k : Int)) = false := by simp
                go_upto_region 62 with fail
                refine wp_region_noPanic ?_
                refine wp_region_held_drew (S := fun wx => Below wr.heap.size wr wx) (by kernel_rfl) ?_ (fun hHeld => ?_)
                · exact below_drewN wr 1
                refine wpAnyH_take (i := 0) (oi := ⟨some 231, _, _, _, _, _⟩) (v := ?_) rfl (by kernel_rfl) (by kernel_rfl) (by kernel_rfl) (fun _ _ _ h => h) (Or.inl ⟨by rfl, ?_⟩) hHeld ?_
                rotate_left
                · intro w hSw; (try dsimp only at hSw); go_simp; all_goals (with_reducible rfl)
                try simp only [Act.put, List.setIfInBounds_toArray, List.set_cons_zero, List.set_cons_succ]
                refine wpAnyH_take (i := 1) (oi := ⟨some 232, _, _, _, _, _⟩) (v := ?_) rfl (by kernel_rfl) (by kernel_rfl) (by kernel_rfl) (fun _ _ _ h => h) (Or.inl ⟨by rfl, ?_⟩) hHeld ?_
                rotate_left
                · intro w hSw; (try dsimp only at hSw); go_simp; all_goals (with_reducible rfl)
                try simp only [Act.put, List.setIfInBounds_toArray, List.set_cons_zero, List.set_cons_succ]
                refine wpAnyH_take (i := 2) (oi := ⟨some 233, _, _, _, _, _⟩) (v := ?_) rfl (by kernel_rfl) (by kernel_rfl) (by kernel_rfl) (fun _ _ _ h => h) (Or.inl ⟨by rfl, ?_⟩) hHeld ?_
                rotate_left
                · intro w hSw; (try dsimp only at hSw); go_simp; all_goals (with_reducible rfl)
                try simp only [Act.put, List.setIfInBounds_toArray, List.set_cons_zero, List.set_cons_succ]
                refine wpAnyH_take (i := 3) (oi := ⟨some 234, _, _, _, _, _⟩) (v := ?_) rfl (by kernel_rfl) (by kernel_rfl) (by kernel_rfl) (fun _ _ _ h => h) (Or.inl ⟨by rfl, ?_⟩) hHeld ?_
                rotate_left
                · intro w hSw; (try dsimp only at hSw); go_simp; all_goals (with_reducible rfl)
                try simp only [Act.put, List.setIfInBounds_toArray, List.set_cons_zero, List.set_cons_succ]
                refine wpAnyH_take (i := 4) (oi := ⟨some 235, _, _, _, _, _⟩) (v := ?_) rfl (by kernel_rfl) (by kernel_rfl) (by kernel_rfl) (fun _ _ _ h => h) (Or.inl ⟨by rfl, ?_⟩) hHeld ?_
                rotate_left
                · intro w hSw; (try dsimp only at hSw); go_simp; all_goals (with_reducible rfl)
                try simp only [Act.put, List.setIfInBounds_toArray, List.set_cons_zero, List.set_cons_succ]
                refine wpAnyH_take (i := 5) (oi := ⟨some 236, _, _, _, _, _⟩) (v := ?_) rfl (by kernel_rfl) (by kernel_rfl) (by kernel_rfl) (fun _ _ _ h => h) (Or.inl ⟨by rfl, ?_⟩) hHeld ?_
                rotate_left
                · intro w hSw; (try dsimp only at hSw); go_simp; all_goals (with_reducible rfl)
                try simp only [Act.put, List.setIfInBounds_toArray, List.set_cons_zero, List.set_cons_succ]
                refine wpAnyH_take (i := 6) (oi := ⟨some 237, _, _, _, _, _⟩) (v := ?_) rfl (by kernel_rfl) (by kernel_rfl) (by kernel_rfl) (fun _ _ _ h => h) (Or.inl ⟨by rfl, ?_⟩) hHeld ?_
                rotate_left
                · intro w hSw; (try dsimp only at hSw); go_simp; all_goals (with_reducible rfl)
                try simp only [Act.put, List.setIfInBounds_toArray, List.set_cons_zero, List.set_cons_succ]
                refine wpAnyH_take (i := 7) (oi := ⟨some 238, _, _, _, _, _⟩) (v := ?_) rfl (by kernel_rfl) (by kernel_rfl) (by kernel_rfl) (fun _ _ _ h => h) (Or.inl ⟨by rfl, ?_⟩) hHeld ?_
                rotate_left
                · intro w hSw; (try dsimp only at hSw); go_simp; all_goals (with_reducible rfl)
                try simp only [Act.put, List.setIfInBounds_toArray, List.set_cons_zero, List.set_cons_succ]
                refine wpAnyH_take (i := 8) (oi := ⟨some 239, _, _, _, _, _⟩) (v := ?_) rfl (by kernel_rfl) (by kernel_rfl) (by kernel_rfl) (fun _ _ _ h => h) (Or.inl ⟨by rfl, ?_⟩) hHeld ?_
                rotate_left
                · intro w hSw; (try dsimp only at hSw); go_simp; all_goals (with_reducible rfl)
                try simp only [Act.put, List.setIfInBounds_toArray, List.set_cons_zero, List.set_cons_succ]
                refine wpAnyH_take (i := 9) (oi := ⟨some 240, _, _, _, _, _⟩) (v := ?_) rfl (by kernel_rfl) (by kernel_rfl) (by kernel_rfl) (fun _ _ _ h => h) (Or.inl ⟨by rfl, ?_⟩) hHeld ?_
                rotate_left
                · intro w hSw; (try dsimp only at hSw); go_simp; all_goals (with_reducible rfl)
                try simp only [Act.put, List.setIfInBounds_toArray, List.set_cons_zero, List.set_cons_succ]
                refine wpAnyH_take (i := 10) (oi := ⟨some 241, _, _, _, _, _⟩) (v := ?_) rfl (by kernel_rfl) (by kernel_rfl) (by kernel_rfl) (fun _ _ _ h => h) (Or.inl ⟨by rfl, ?_⟩) hHeld ?_
                rotate_left
                · intro w hSw; (try dsimp only at hSw); go_simp; all_goals (with_reducible rfl)
                try simp only [Act.put, List.setIfInBounds_toArray, List.set_cons_zero, List.set_cons_succ]
                refine wpAnyH_take (i := 11) (oi := ⟨some 242, _, _, _, _, _⟩) (v := ?_) rfl (by kernel_rfl) (by kernel_rfl) (by kernel_rfl) (fun _ _ _ h => h) (Or.inl ⟨by rfl, ?_⟩) hHeld ?_
                rotate_left
                · intro w hSw; (try dsimp only at hSw); go_simp; all_goals (with_reducible rfl)
                try simp only [Act.put, List.setIfInBounds_toArray, List.set_cons_zero, List.set_cons_succ]
                refine wpAnyH_take (i := 12) (oi := ⟨some 243, _, _, _, _, _⟩) (v := ?_) rfl (by kernel_rfl) (by kernel_rfl) (by kernel_rfl) (fun _ _ _ h => h) (Or.inl ⟨by rfl, ?_⟩) hHeld ?_
                rotate_left
                · intro w hSw; (try dsimp only at hSw); go_simp; all_goals (with_reducible rfl)
                try simp only [Act.put, List.setIfInBounds_toArray, List.set_cons_zero, List.set_cons_succ]
                refine wpAnyH_take (i := 13) (oi := ⟨some 244, _, _, _, _, _⟩) (v := ?_) rfl (by kernel_rfl) (by kernel_rfl) (by kernel_rfl) (fun _ _ _ h => h) (Or.inl ⟨by rfl, ?_⟩) hHeld ?_
                rotate_left
                · intro w hSw; (try dsimp only at hSw); go_simp; all_goals (with_reducible rfl)
                try simp only [Act.put, List.setIfInBounds_toArray, List.set_cons_zero, List.set_cons_succ]
                refine wpAnyH_take (i := 14) (oi := ⟨some 245, _, _, _, _, _⟩) (v := ?_) rfl (by kernel_rfl) (by kernel_rfl) (by kernel_rfl) (fun _ _ _ h => h) (Or.inl ⟨by rfl, ?_⟩) hHeld ?_
                rotate_left
                · intro w hSw; (try dsimp only at hSw); go_simp; all_goals (with_reducible rfl)
                try simp only [Act.put, List.setIfInBounds_toArray, List.set_cons_zero, List.set_cons_succ]
                refine wpAnyH_take (i := 15) (oi := ⟨some 246, _, _, _, _, _⟩) (v := ?_) rfl (by kernel_rfl) (by kernel_rfl) (by kernel_rfl) (fun _ _ _ h => h) (Or.inl ⟨by rfl, ?_⟩) hHeld ?_
                rotate_left
                · intro w hSw; (try dsimp only at hSw); go_simp; all_goals (with_reducible rfl)
                try simp only [Act.put, List.setIfInBounds_toArray, List.set_cons_zero, List.set_cons_succ]
                refine wpAnyH_take (i := 16) (oi := ⟨some 247, _, _, _, _, _⟩) (v := ?_) rfl (by kernel_rfl) (by kernel_rfl) (by kernel_rfl) (fun _ _ _ h => h) (Or.inl ⟨by rfl, ?_⟩) hHeld ?_
                rotate_left
                · intro w hSw; (try dsimp only at hSw); go_simp; all_goals (with_reducible rfl)
                try simp only [Act.put, List.setIfInBounds_toArray, List.set_cons_zero, List.set_cons_succ]
                refine wpAnyH_take (i := 17) (oi := ⟨some 248, _, _, _, _, _⟩) (v := ?_) rfl (by kernel_rfl) (by kernel_rfl) (by kernel_rfl) (fun _ _ _ h => h) (Or.inl ⟨by rfl, ?_⟩) hHeld ?_
                rotate_left
                · intro w hSw; (try dsimp only at hSw); go_simp; all_goals (with_reducible rfl)
                try simp only [Act.put, List.setIfInBounds_toArray, List.set_cons_zero, List.set_cons_succ]
                refine wpAnyH_take (i := 18) (oi := ⟨some 249, _, _, _, _, _⟩) (v := ?_) rfl (by kernel_rfl) (by kernel_rfl) (by kernel_rfl) (fun _ _ _ h => h) (Or.inl ⟨by rfl, ?_⟩) hHeld ?_
                rotate_left
                · intro w hSw; (try dsimp only at hSw); go_simp; all_goals (with_reducible rfl)
                try simp only [Act.put, List.setIfInBounds_toArray, List.set_cons_zero, List.set_cons_succ]
                refine wpAnyH_take (i := 19) (oi := ⟨some 250, _, _, _, _, _⟩) (v := ?_) rfl (by kernel_rfl) (by kernel_rfl) (by kernel_rfl) (fun _ _ _ h => h) (Or.inl ⟨by rfl, ?_⟩) hHeld ?_
                rotate_left
                · intro w hSw; (try dsimp only at hSw); go_simp; all_goals (with_reducible rfl)
                try simp only [Act.put, List.setIfInBounds_toArray, List.set_cons_zero, List.set_cons_succ]
                refine wpAnyH_take (i := 20) (oi := ⟨some 251, _, _, _, _, _⟩) (v := ?_) rfl (by kernel_rfl) (by kernel_rfl) (by kernel_rfl) (fun _ _ _ h => h) (Or.inl ⟨by rfl, ?_⟩) hHeld ?_
                rotate_left
                · intro w hSw; (try dsimp only at hSw); go_simp; all_goals (with_reducible rfl)
                try simp only [Act.put, List.setIfInBounds_toArray, List.set_cons_zero, List.set_cons_succ]
                refine wpAnyH_take (i := 21) (oi := ⟨some 252, _, _, _, _, _⟩) (v := ?_) rfl (by kernel_rfl) (by kernel_rfl) (by kernel_rfl) (fun _ _ _ h => h) (Or.inl ⟨by rfl, ?_⟩) hHeld ?_
                rotate_left
                · intro w hSw; (try dsimp only at hSw); go_simp; all_goals (with_reducible rfl)
                try simp only [Act.put, List.setIfInBounds_toArray, List.set_cons_zero, List.set_cons_succ]
                refine wpAnyH_take (i := 22) (oi := ⟨some 253, _, _, _, _, _⟩) (v := ?_) rfl (by kernel_rfl) (by kernel_rfl) (by kernel_rfl) (fun _ _ _ h => h) (Or.inl ⟨by rfl, ?_⟩) hHeld ?_
                rotate_left
                · intro w hSw; (try dsimp only at hSw); go_simp; all_goals (with_reducible rfl)
                try simp only [Act.put, List.setIfInBounds_toArray, List.set_cons_zero, List.set_cons_succ]
                refine wpAnyH_ready (rs := [23]) (by kernel_rfl) (by simp) ?_
                refine AllReadyH.cons (o := ⟨some 254, _, _, _, _, _⟩) rfl (fun K hK => ?_) AllReadyH.nil
                go_simp
                refine (same_walk (HML.out.below (below_drewN wr 1)) (HTL.out.below (HG7.out.below (below_drewN wr 1)).w) HTO.out).mono ?_
                rintro e9 w9 ⟨rfl, hB⟩
                have HB9 : Hid (Below wr.heap.size wr w9) := below_trans (below_drewN wr 1) hB
                clear hB
                refine hK.out _ _ ?_ (fun hHeld => ?_)
                · exact HB9.out
                clear hK K
                try simp only [Act.put, List.setIfInBounds_toArray, List.set_cons_zero, List.set_cons_succ]
                refine wpAnyH_take (i := 24) (oi := ⟨some 255, _, _, _, _, _⟩) (v := ?_) rfl (by kernel_rfl) (by kernel_rfl) (by kernel_rfl) (fun _ _ _ h => h) (Or.inl ⟨by rfl, ?_⟩) hHeld ?_
                rotate_left
                · intro w hSw; (try dsimp only at hSw); go_simp; all_goals (with_reducible rfl)
                try simp only [Act.put, List.setIfInBounds_toArray, List.set_cons_zero, List.set_cons_succ]
                refine wpAnyH_take (i := 25) (oi := ⟨some 256, _, _, _, _, _⟩) (v := ?_) rfl (by kernel_rfl) (by kernel_rfl) (by kernel_rfl) (fun _ _ _ h => h) (Or.inl ⟨by rfl, ?_⟩) hHeld ?_
                rotate_left
                · intro w hSw; (try dsimp only at hSw); go_simp; all_goals (with_reducible rfl)
                try simp only [Act.put, List.setIfInBounds_toArray, List.set_cons_zero, List.set_cons_succ]
                refine wpAnyH_done (by kernel_rfl) ?_ _
                refine NoPanic.normal ?_
                clear y0 y1 y2 y3 y4 y5 y6 y7 y8 s0 s1 s2 s3 s4 s5 s6 s7 s8 y9 hkk
                go_wp2_with fail
                have han : IntKind.i64.wrap ((a : Int) + 1) = ((cnE L (k + 1) : Nat) : Int) := by have := HAE.out; rw [wrap_small (by omega) (by omega)]; omega
                go_roundw
                case rel => exact ⟨k + 1, by go_num, HKT.out.1, by have := HAE.out; go_num, below_trans HB.out HB9.out⟩
                case measure => have := HKT.out; simp [intOf]; omega
            · have hlti : ¬ (k : Int) < (T.length : Int) := by omega
              go_wp2_with fail
              go_ret
              exact ⟨rfl, HG7.out.w⟩
end Go.Proofs.Ytokfbnpjndlccaa


