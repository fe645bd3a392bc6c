/- Contract of msg's Decode. -/
import Derived.Test.YthkkbdmbmkgjpaaJg

namespace Go.Proofs.Ythkkbdmbmkgjpaa

open Go.RowKit



theorem ds_new {w : World} {v : Value} {l : List Nat} (hv : Bv w v l) :
    DS w.heap.size w ((((w.alloc (Obj.cells #[.int .i64 0, .int .i64 0, .int .i64 0, .int .i64 0, .int .i64 0, .int .i64 0, .slice none 0 0, .slice none 0 0, .slice none 0 0] 26)).alloc (Obj.cells #[.int .i64 0] 29)).alloc (Obj.cells #[v, .int .i64 0] 55)).alloc (Obj.cells #[.pointer (some ⟨w.heap.size + 2, 0, none⟩)] 53)) v l zeroMs (.slice none 0 0) (.slice none 0 0) (.slice none 0 0) := by
  have hB : Below w.heap.size w ((((w.alloc (Obj.cells #[.int .i64 0, .int .i64 0, .int .i64 0, .int .i64 0, .int .i64 0, .int .i64 0, .slice none 0 0, .slice none 0 0, .slice none 0 0] 26)).alloc (Obj.cells #[.int .i64 0] 29)).alloc (Obj.cells #[v, .int .i64 0] 55)).alloc (Obj.cells #[.pointer (some ⟨w.heap.size + 2, 0, none⟩)] 53)) :=
    below_trans (below_trans (below_trans (below_alloc _ _) (below_alloc _ _)) (below_alloc _ _)) (below_alloc _ _)
  refine ⟨rfl, ⟨by simp [go_sem], by simp [go_sem], by intro j; simp [go_sem], hv.below hB, bv_block hv⟩, ?_, slice_notu8, slice_notu8, slice_notu8, by simp [go_sem], by intro j; simp [go_sem], by simp [go_sem], hB⟩
  exact (((mx_new w zeroMs (.slice none 0 0) (.slice none 0 0) (.slice none 0 0)).keep (below_alloc _ _)).keep (below_alloc _ _)).keep (below_alloc _ _)


/-- What a reading that was given up leaves. -/
structure Out (N er : Nat) (w0 w9 : World) : Prop where
  mx : MX w9 N zeroMs (.slice none 0 0) (.slice none 0 0) (.slice none 0 0)
  x : w9.cell? ⟨N + 1, 0, none⟩ = some (.int .i64 er)
  below : Below N w0 w9
theorem out_of {N er : Nat} {w0 w w5 : World} {v : Value} {l : List Nat} {m : Ms} {ev qv pv : Value} (H : DS N w0 w v l m ev qv pv) (h2 : Ch (fun x => x = N + 2) w w5) :
    Out N er w0 ((setM w5 N zeroMs (.slice none 0 0) (.slice none 0 0) (.slice none 0 0)).setCell ⟨N + 1, 0, none⟩ (.int .i64 er)) := by
  have hm := (H.mx.ch h2 (by simp)).over zeroMs (.slice none 0 0) (.slice none 0 0) (.slice none 0 0)
  have hx := (ch_setM w5 N zeroMs (.slice none 0 0) (.slice none 0 0) (.slice none 0 0)).cell (h2.cell H.x (by simp)) (by simp)
  have hN : N ≤ w.heap.size := Nat.le_of_lt (cell_lt H.mx.c0)
  refine ⟨hm.ch (ch_set _ _ _ _) (by simp), cell_own1 hx, ?_⟩
  have k1 : Below N w w5 := h2.to_below hN (fun x hx => by omega)
  have k2 : Below N w5 (setM w5 N zeroMs (.slice none 0 0) (.slice none 0 0) (.slice none 0 0)) := (ch_setM _ _ _ _ _ _).to_below (Nat.le_trans hN h2.size) (fun x hx => by omega)
  have k3 := (ch_set (setM w5 N zeroMs (.slice none 0 0) (.slice none 0 0) (.slice none 0 0)) (N + 1) 0 (.int .i64 er)).to_below (B := N) (Nat.le_trans hN (Nat.le_trans h2.size (ch_setM w5 N zeroMs _ _ _).size)) (fun x hx => by omega)
  exact ((H.below.trans k1).trans k2).trans k3
theorem dgot_bad {l : List Nat} {w w' : World} {er : Nat} (h : decS l = (zeroMs, er)) (hb : Below w.heap.size w w') : DGot l w (.returned (.tuple #[.agg #[.int .i64 0, .int .i64 0, .int .i64 0, .int .i64 0, .int .i64 0, .int .i64 0, .slice none 0 0, .slice none 0 0, .slice none 0 0], .int .i64 er])) w' := by
  unfold DGot
  rw [h]
  exact ⟨_, _, _, rfl, own_nil, own_nil, own_nil, hb⟩
theorem dgot_ok {l : List Nat} {w w' : World} {m : Ms} {ev qv pv : Value} (h : decS l = (m, 0)) (h1 : w'.ownsRow w.heap.size 3 1 ev m.E.length (m.E.map (Value.int .i64))) (h2 : w'.ownsRow w.heap.size 38 1 qv m.Q.length ((ib m.Q).map (Value.int .u64))) (h3 : w'.ownsRow w.heap.size 42 3 pv m.P.length (flatQ m.P)) (hb : Below w.heap.size w w') :
    DGot l w (.returned (.tuple #[.agg #[.int .i64 m.K, .int .i64 m.F, .int .i64 m.T, .int .i64 m.B, .int .i64 m.A, .int .i64 m.C, ev, qv, pv], .int .i64 0])) w' := by
  unfold DGot
  rw [h]
  exact ⟨_, _, _, rfl, h1, h2, h3, hb⟩
theorem own_qv {w : World} {base e n : Nat} {v : Value} {m : List Pr} (h : w.ownsRow base e 3 v n (flatQ m)) (hok : okT m) : Qv w v m := by
  have h1 := h.1
  rw [flatQ_len] at h1
  have hn : n = m.length := by omega
  subst hn
  rcases h.2 with ⟨rfl, h0⟩ | ⟨g, cap, cur, e1, hb, hg, hnc, hcm, hcs, htake⟩
  · have : m = [] := List.eq_nil_of_length_eq_zero h0
    subst this
    exact ⟨⟨none, 0, rfl, Nat.le_refl _, by simp [maxLen], fun _ => rfl, fun i hi => by simp at hi⟩, by simp⟩
  · subst e1
    have := mq_qv (own_mq h) (Nat.le_refl _) hnc hcm hok
    rwa [List.take_length] at this
theorem qv_nil (w : World) : Qv w (.slice none 0 0) [] := ⟨⟨none, 0, rfl, Nat.le_refl _, by simp [maxLen], fun _ => rfl, fun i hi => by simp at hi⟩, by simp⟩
theorem kv_nil (w : World) : Kv w (.slice none 0 0) [] := Sv.nil _ w
theorem decT_tail {m : Ms} {l : List Nat} (h : l.length ≠ 0) : decT (0, m, l) = (zeroMs, 5) := by unfold decT; simp [h]
theorem decT_none {m : Ms} {l : List Nat} (h : l.length = 0) (hs : sndM m = false) : decT (0, m, l) = (zeroMs, 150) := by unfold decT; simp [h, hs]
theorem decT_ok {m : Ms} {l : List Nat} (h : l.length = 0) (hs : sndM m = true) : decT (0, m, l) = (m, 0) := by unfold decT; simp [h, hs]
theorem decT_bad {m : Ms} {l : List Nat} {er : Nat} (h : er ≠ 0) : decT (er, m, l) = (zeroMs, er) := by unfold decT; simp [h]
theorem fld_some {K : Nat} (h : 1 ≤ K ∧ K ≤ 8) : fld (K : Int) ≠ 0 := by
  have : K = 1 ∨ K = 2 ∨ K = 3 ∨ K = 4 ∨ K = 5 ∨ K = 6 ∨ K = 7 ∨ K = 8 := by omega
  rcases this with rfl | rfl | rfl | rfl | rfl | rfl | rfl | rfl <;> simp [fld]
theorem knd_range {l : List Nat} (h : (kndL l).1 = 0) : 1 ≤ (kndL l).2.1 ∧ (kndL l).2.1 ≤ 8 := by
  unfold kndL at h ⊢
  by_cases h1 : (Wm.take l).2.2 = 0
  · rw [if_neg (by simpa using h1)] at h ⊢
    by_cases h2 : (Wm.take l).1 < 1 ∨ 8 < (Wm.take l).1
    · rw [if_pos h2] at h; simp at h
    · rw [if_neg h2]; simp only; omega
  · rw [if_pos h1] at h; exact absurd h h1
theorem bod_1 {h : Hd} {l : List Nat} (hf : fld h.K = 1) : bodL h l = if (endL l).1 ≠ 0 then ((endL l).1, zeroMs, []) else (0, h.ms 0 (ib (endL l).2.1) [] [], (endL l).2.2) := by unfold bodL; rw [if_pos hf]; rfl
theorem bod_2 {h : Hd} {l : List Nat} (hf : fld h.K = 2) : bodL h l = if (keyD l).1 ≠ 0 then ((keyD l).1, zeroMs, []) else (0, h.ms 0 [] (keyD l).2.1 [], (keyD l).2.2) := by
  unfold bodL keyD
  rw [if_neg (by omega), if_pos hf]
  by_cases h0 : (manL l).1 = 0
  · simp [h0]
  · simp [h0]
theorem bod_3 {h : Hd} {l : List Nat} (hf : fld h.K = 3) : bodL h l = if (pairD l).1 ≠ 0 then ((pairD l).1, zeroMs, []) else (0, h.ms 0 [] [] (pairD l).2.1, (pairD l).2.2) := by
  unfold bodL pairD
  rw [if_neg (by omega), if_neg (by omega), if_pos hf]
  by_cases h0 : (manL l).1 = 0
  · simp [h0]
  · simp [h0]
theorem bod_4 {h : Hd} {l : List Nat} (hf : fld h.K = 4) : bodL h l = if (cntL l).1 ≠ 0 then ((cntL l).1, zeroMs, []) else (0, h.ms (cntL l).2.1 [] [] [], (cntL l).2.2) := by
  unfold bodL
  rw [if_neg (by omega), if_neg (by omega), if_neg (by omega)]
theorem pairD_ok {l : List Nat} (hl : ∀ c ∈ l, c < 256) (h : (pairD l).1 = 0) : okT (pairD l).2.1 := by
  unfold pairD at h ⊢
  by_cases h0 : (manL l).1 = 0
  · rw [if_neg (by simpa using h0)] at h ⊢
    have hb := (man_back hl h0).1
    exact (pair_back (fun c hc => hl c (by rw [hb]; simp [hc])) h).2.2
  · rw [if_pos h0] at h; exact absurd h h0


theorem ds_lists {N : Nat} {w0 w : World} {v : Value} {l : List Nat} {K F T B A C : Int} {e : List Int} {q : List Nat} {p : List Pr} {ev qv pv : Value} (h : DS N w0 w v l ⟨K, F, T, B, A, C, e, q, p⟩ ev qv pv) (e' : List Int) (q' : List Nat) (p' : List Pr) : DS N w0 w v l ⟨K, F, T, B, A, C, e', q', p'⟩ ev qv pv :=
  ⟨h.n, h.rd, ⟨h.mx.c0, h.mx.c1, h.mx.c2, h.mx.c3, h.mx.c4, h.mx.c5, h.mx.c6, h.mx.c7, h.mx.c8, h.mx.z⟩, h.e8, h.q8, h.p8, h.x, h.xz, h.p, h.below⟩
theorem qv_any {w : World} {v : Value} {l : List Pr} (h : Qv w v l) : ∃ a n q, v = .slice a n q := by
  obtain ⟨⟨ao, cap, e, _⟩, _⟩ := h
  exact ⟨ao, _, cap, e⟩
theorem ch_two {P Q : Nat} {a b c : World} (h : Ch (fun x => x = P) a b) (k : Ch (fun x => x = Q) b c) : Ch (fun x => x = P ∨ x = Q) a c :=
  (Ch.trans (D := fun x => x = P ∨ x = Q) (Ch.refl _ _) h (fun _ hx => .inl (.inl hx))).trans k (fun _ hx => .inl (.inr hx))
set_option maxRecDepth 100000 in
set_option maxHeartbeats 8000000 in
theorem mdec_walk {w : World} {v : Value} {l : List Nat} (hv : Bv w v l) :
    Calls Try.prog 14 #[v] w (DGot l w) := by
  have hmf : ∀ (fn : Fn) (first cap : Array Value) (w : World), (Instr.makeFunc fn first cap).run Try.prog w = .ok (.func fn first cap) w := fun _ _ _ _ => rfl
  obtain ⟨N, hN⟩ : ∃ N, N = w.heap.size := ⟨_, rfl⟩
  have H := ds_new hv
  rw [← hN] at H
  replace H : Hid _ := H
  have HLB : Hid (∀ c ∈ l, c < 256) := hv.2
  obtain ⟨ao, n, cap, rfl⟩ := bv_any hv
  clear hv
  go_enter_defers Try.func14, Try.ntmps14
  go_upto_region 3 with fail
  rw [← hN, show N + 1 + 1 = N + 2 from rfl, show N + 2 + 1 = N + 3 from rfl]
  have HN : Hid (N = w.heap.size) := hN
  clear hN hmf
  generalize ((((w.alloc (Obj.cells #[.int .i64 0, .int .i64 0, .int .i64 0, .int .i64 0, .int .i64 0, .int .i64 0, .slice none 0 0, .slice none 0 0, .slice none 0 0] 26)).alloc (Obj.cells #[.int .i64 0] 29)).alloc (Obj.cells #[.slice ao n cap, .int .i64 0] 55)).alloc (Obj.cells #[.pointer (some ⟨N + 2, 0, none⟩)] 53)) = w1 at H ⊢
  have HDE : Hid (decS l = decS l) := rfl
  have HL0 : Hid (∀ c ∈ l, c < 256) := HLB.out
  have p0 := H.out.p
  by_cases hx : (kndL l).1 = 0
  · have HX : Hid ((kndL l).1 = 0) := hx
    have HDN : Hid (decS l = dec2 (kndL l).2.1 (kndL l).2.2) := by show _ = _; rw [HDE.out]; unfold decS; rw [if_neg (by simpa using hx)]
    have HLN : Hid (∀ c ∈ (kndL l).2.2, c < 256) := fun c hc => HL0.out c (by rw [(knd_back HL0.out hx).1]; simp [hc])
    have HK : Hid (1 ≤ (kndL l).2.1 ∧ (kndL l).2.1 ≤ 8) := knd_range hx
    clear hx HDE HL0
    go_wp2_with fail
    refine (kind_ok H.out.rd HX.out).mono ?_
    rintro e9 w2 ⟨rfl, ⟨v2, hR2⟩, hC2⟩
    obtain ⟨G, hx⟩ : ∃ x, x = (kndL l).2.1 := ⟨_, rfl⟩
    obtain ⟨l1, hl⟩ : ∃ x, x = (kndL l).2.2 := ⟨_, rfl⟩
    rw [← hl] at hR2 HDN HLN
    rw [← hx] at HDN HK ⊢
    have H2 : Hid (DS N w w2 v2 l1 ⟨0, 0, 0, 0, 0, 0, [], [], []⟩ (.slice none 0 0) (.slice none 0 0) (.slice none 0 0)) := H.out.turn hR2 hC2
    have c0 := H2.out.mx.c0
    have z0 := H2.out.mx.z 0
    have H3 : Hid (DS N w (w2.setCell ⟨N, 0, none⟩ (.int .i64 (G : Int))) v2 l1 ⟨G, 0, 0, 0, 0, 0, [], [], []⟩ (.slice none 0 0) (.slice none 0 0) (.slice none 0 0)) := H2.out.s0 _
    clear hR2 hC2 H p0 H2 hx hl HX
    go_upto_region 4 with fail
    generalize w2.setCell ⟨N, 0, none⟩ (.int .i64 (G : Int)) = w3 at H3 ⊢
    clear c0 z0
    have H : Hid _ := H3.out
    clear H3
    have HDE : Hid _ := HDN.out
    clear HDN
    have HL0 : Hid _ := HLN.out
    clear HLN
    have p0 := H.out.p
    by_cases hx : (cntL l1).1 = 0
    · have HX : Hid ((cntL l1).1 = 0) := hx
      have HDN : Hid (decS l = dec3 G (cntL l1).2.1 (cntL l1).2.2) := by show _ = _; rw [HDE.out]; unfold dec2; rw [if_neg (by simpa using hx)]
      have HLN : Hid (∀ c ∈ (cntL l1).2.2, c < 256) := fun c hc => HL0.out c (by rw [(cnt_back HL0.out hx).1]; simp [hc])
      clear hx HDE HL0
      go_wp2_with fail
      refine (count_ok H.out.rd HX.out).mono ?_
      rintro e9 w2 ⟨rfl, ⟨v2, hR2⟩, hC2⟩
      obtain ⟨F, hx⟩ : ∃ x, x = (cntL l1).2.1 := ⟨_, rfl⟩
      obtain ⟨l2, hl⟩ : ∃ x, x = (cntL l1).2.2 := ⟨_, rfl⟩
      rw [← hl] at hR2 HDN HLN
      rw [← hx] at HDN ⊢
      have H2 : Hid (DS N w w2 v2 l2 ⟨G, 0, 0, 0, 0, 0, [], [], []⟩ (.slice none 0 0) (.slice none 0 0) (.slice none 0 0)) := H.out.turn hR2 hC2
      have c0 := H2.out.mx.c1
      have z0 := H2.out.mx.z 1
      have H3 : Hid (DS N w (w2.setCell ⟨N, 1, none⟩ (.int .i64 (F : Int))) v2 l2 ⟨G, F, 0, 0, 0, 0, [], [], []⟩ (.slice none 0 0) (.slice none 0 0) (.slice none 0 0)) := H2.out.s1 _
      clear hR2 hC2 H p0 H2 hx hl HX
      go_upto_region 5 with fail
      generalize w2.setCell ⟨N, 1, none⟩ (.int .i64 (F : Int)) = w3 at H3 ⊢
      clear c0 z0
      have H : Hid _ := H3.out
      clear H3
      have HDE : Hid _ := HDN.out
      clear HDN
      have HL0 : Hid _ := HLN.out
      clear HLN
      have p0 := H.out.p
      by_cases hx : (cntL l2).1 = 0
      · have HX : Hid ((cntL l2).1 = 0) := hx
        have HDN : Hid (decS l = dec4 G F (cntL l2).2.1 (cntL l2).2.2) := by show _ = _; rw [HDE.out]; unfold dec3; rw [if_neg (by simpa using hx)]
        have HLN : Hid (∀ c ∈ (cntL l2).2.2, c < 256) := fun c hc => HL0.out c (by rw [(cnt_back HL0.out hx).1]; simp [hc])
        clear hx HDE HL0
        go_wp2_with fail
        refine (count_ok H.out.rd HX.out).mono ?_
        rintro e9 w2 ⟨rfl, ⟨v2, hR2⟩, hC2⟩
        obtain ⟨T, hx⟩ : ∃ x, x = (cntL l2).2.1 := ⟨_, rfl⟩
        obtain ⟨l3, hl⟩ : ∃ x, x = (cntL l2).2.2 := ⟨_, rfl⟩
        rw [← hl] at hR2 HDN HLN
        rw [← hx] at HDN ⊢
        have H2 : Hid (DS N w w2 v2 l3 ⟨G, F, 0, 0, 0, 0, [], [], []⟩ (.slice none 0 0) (.slice none 0 0) (.slice none 0 0)) := H.out.turn hR2 hC2
        have c0 := H2.out.mx.c2
        have z0 := H2.out.mx.z 2
        have H3 : Hid (DS N w (w2.setCell ⟨N, 2, none⟩ (.int .i64 (T : Int))) v2 l3 ⟨G, F, T, 0, 0, 0, [], [], []⟩ (.slice none 0 0) (.slice none 0 0) (.slice none 0 0)) := H2.out.s2 _
        clear hR2 hC2 H p0 H2 hx hl HX
        go_upto_region 6 with fail
        generalize w2.setCell ⟨N, 2, none⟩ (.int .i64 (T : Int)) = w3 at H3 ⊢
        clear c0 z0
        have H : Hid _ := H3.out
        clear H3
        have HDE : Hid _ := HDN.out
        clear HDN
        have HL0 : Hid _ := HLN.out
        clear HLN
        have p0 := H.out.p
        by_cases hx : (cntL l3).1 = 0
        · have HX : Hid ((cntL l3).1 = 0) := hx
          have HDN : Hid (decS l = dec5 G F T (cntL l3).2.1 (cntL l3).2.2) := by show _ = _; rw [HDE.out]; unfold dec4; rw [if_neg (by simpa using hx)]
          have HLN : Hid (∀ c ∈ (cntL l3).2.2, c < 256) := fun c hc => HL0.out c (by rw [(cnt_back HL0.out hx).1]; simp [hc])
          clear hx HDE HL0
          go_wp2_with fail
          refine (count_ok H.out.rd HX.out).mono ?_
          rintro e9 w2 ⟨rfl, ⟨v2, hR2⟩, hC2⟩
          obtain ⟨B, hx⟩ : ∃ x, x = (cntL l3).2.1 := ⟨_, rfl⟩
          obtain ⟨l4, hl⟩ : ∃ x, x = (cntL l3).2.2 := ⟨_, rfl⟩
          rw [← hl] at hR2 HDN HLN
          rw [← hx] at HDN ⊢
          have H2 : Hid (DS N w w2 v2 l4 ⟨G, F, T, 0, 0, 0, [], [], []⟩ (.slice none 0 0) (.slice none 0 0) (.slice none 0 0)) := H.out.turn hR2 hC2
          have c0 := H2.out.mx.c3
          have z0 := H2.out.mx.z 3
          have H3 : Hid (DS N w (w2.setCell ⟨N, 3, none⟩ (.int .i64 (B : Int))) v2 l4 ⟨G, F, T, B, 0, 0, [], [], []⟩ (.slice none 0 0) (.slice none 0 0) (.slice none 0 0)) := H2.out.s3 _
          clear hR2 hC2 H p0 H2 hx hl HX
          go_upto_region 7 with fail
          generalize w2.setCell ⟨N, 3, none⟩ (.int .i64 (B : Int)) = w3 at H3 ⊢
          clear c0 z0
          have H : Hid _ := H3.out
          clear H3
          have HDE : Hid _ := HDN.out
          clear HDN
          have HL0 : Hid _ := HLN.out
          clear HLN
          have p0 := H.out.p
          by_cases hx : (cntL l4).1 = 0
          · have HX : Hid ((cntL l4).1 = 0) := hx
            have HDN : Hid (decS l = decT (bodL ⟨G, F, T, B, (cntL l4).2.1⟩ (cntL l4).2.2)) := by show _ = _; rw [HDE.out]; unfold dec5; rw [if_neg (by simpa using hx)]
            have HLN : Hid (∀ c ∈ (cntL l4).2.2, c < 256) := fun c hc => HL0.out c (by rw [(cnt_back HL0.out hx).1]; simp [hc])
            clear hx HDE HL0
            go_wp2_with fail
            refine (count_ok H.out.rd HX.out).mono ?_
            rintro e9 w2 ⟨rfl, ⟨v2, hR2⟩, hC2⟩
            obtain ⟨A, hx⟩ : ∃ x, x = (cntL l4).2.1 := ⟨_, rfl⟩
            obtain ⟨l5, hl⟩ : ∃ x, x = (cntL l4).2.2 := ⟨_, rfl⟩
            rw [← hl] at hR2 HDN HLN
            rw [← hx] at HDN ⊢
            have H2 : Hid (DS N w w2 v2 l5 ⟨G, F, T, B, 0, 0, [], [], []⟩ (.slice none 0 0) (.slice none 0 0) (.slice none 0 0)) := H.out.turn hR2 hC2
            have c0 := H2.out.mx.c4
            have z0 := H2.out.mx.z 4
            have H3 : Hid (DS N w (w2.setCell ⟨N, 4, none⟩ (.int .i64 (A : Int))) v2 l5 ⟨G, F, T, B, A, 0, [], [], []⟩ (.slice none 0 0) (.slice none 0 0) (.slice none 0 0)) := H2.out.s4 _
            clear hR2 hC2 H p0 H2 hx hl HX
            go_upto_region 8 with fail
            generalize w2.setCell ⟨N, 4, none⟩ (.int .i64 (A : Int)) = w3 at H3 ⊢
            clear c0 z0
            have H : Hid _ := H3.out
            clear H3
            have HDE : Hid _ := HDN.out
            clear HDN
            have HL0 : Hid _ := HLN.out
            clear HLN
            have c0 : w3.cell? ⟨N, 0, none⟩ = some (.int .i64 (G : Int)) := H.out.mx.c0
            have HF0 : Hid (fld (G : Int) ≠ 0) := fld_some HK.out
            rcases fld_cases (G : Int) with hf | hf | hf | hf | hf
            · exact absurd hf HF0.out
            · have HDB : Hid (decS l = decT (bodL ⟨G, F, T, B, A⟩ l5)) := HDE.out
              rw [bod_1 hf] at HDB
              go_wp2_with fail
              refine (asks_walk (G : Int) _).mono ?_
              rw [hf]
              rintro e9 w4 ⟨rfl, hw4⟩
              replace hw4 := hw4.symm
              subst hw4
              clear c0
              have p0 := H.out.p
              by_cases hx : (endL l5).1 = 0
              · have HX : Hid ((endL l5).1 = 0) := hx
                rw [if_neg (by simpa using hx)] at HDB
                clear hx
                go_wp2_with fail
                refine (ends_walk H.out.rd).mono ?_
                rintro e9 w5 (⟨hbad, _⟩ | ⟨_, y, rfl, ho, ⟨v5, hR5⟩, hC5⟩)
                · exact absurd HX.out hbad
                obtain ⟨l7, hl7⟩ : ∃ x, x = (endL l5).2.2 := ⟨_, rfl⟩
                obtain ⟨q, hq⟩ : ∃ x, x = (endL l5).2.1 := ⟨_, rfl⟩
                rw [← hl7, ← hq] at HDB
                rw [← hl7] at hR5
                rw [← hq] at ho
                have H5 : Hid (DS N w w5 v5 l7 ⟨G, F, T, B, A, 0, [], [], []⟩ (.slice none 0 0) (.slice none 0 0) (.slice none 0 0)) := H.out.turn hR5 hC5
                have HO5 : Hid (w5.ownsRow (N + 2) 3 1 y q.length (flI q)) := own_baseC ho (by have := cell_lt H.out.p; simp only at this; omega)
                obtain ⟨ya, yn, yc, hy⟩ := sv_any (own_sv HO5.out)
                subst hy
                have c0 := H5.out.mx.c6
                have z0 := H5.out.mx.z 6
                have HOX : ∀ u, (w5.setCell ⟨N, 6, none⟩ u).ownsRow (N + 2) 3 1 (.slice ya yn yc) q.length (flI q) := fun u => own_ch HO5.out (ch_set _ _ _ _) (fun x hx => by omega)
                have HOE : Hid ((w5.setCell ⟨N, 6, none⟩ (.slice ya yn yc)).ownsRow (N + 2) 3 1 (.slice ya yn yc) q.length (flI q)) := HOX _
                have H7 : Hid (DS N w (w5.setCell ⟨N, 6, none⟩ (.slice ya yn yc)) v5 l7 ⟨G, F, T, B, A, 0, ib q, [], []⟩ (.slice ya yn yc) (.slice none 0 0) (.slice none 0 0)) := ds_lists (H5.out.s6 (.slice ya yn yc) slice_notu8) _ _ _
                clear ho hR5 hC5 HO5 HOX H p0 H5 hl7 hq
                go_upto_region 17 with fail
                generalize w5.setCell ⟨N, 6, none⟩ (.slice ya yn yc) = w7 at H7 HOE ⊢
                clear c0 z0
                have H : Hid _ := H7.out
                clear H7
                clear HDE
                have HDE : Hid _ := HDB.out
                clear HDB
                have HMLF : Hid (∀ wx : World, wx.ownsRow (N + 2) 3 1 (.slice ya yn yc) q.length (flI q) → ML wx ⟨G, F, T, B, A, 0, ib q, [], []⟩ (.slice ya yn yc) (.slice none 0 0) (.slice none 0 0)) := fun wx h => ⟨own_sv h, kv_nil _, qv_nil _⟩
                obtain ⟨ra, rn, rc, hvv⟩ := bv_any H.out.rd.bv
                subst hvv
                obtain ⟨hln, _, _⟩ := bv_le H.out.rd.bv
                have HLNN : Hid (rn = l7.length) := hln
                clear hln
                have j0 : ∀ wx, Below w7.heap.size w7 wx → wx.cell? ⟨N + 3, 0, none⟩ = some (.pointer (some ⟨N + 2, 0, none⟩)) := fun wx hx => by rw [hx.cell (p := ⟨N + 3, 0, none⟩) (cell_lt H.out.p)]; exact H.out.p
                have j1 : ∀ wx, Below w7.heap.size w7 wx → wx.cell? ⟨N + 2, 0, none⟩ = some (.slice ra rn rc) := fun wx hx => by rw [hx.cell (p := ⟨N + 2, 0, none⟩) (cell_lt H.out.rd.c0)]; exact H.out.rd.c0
                by_cases hr0 : rn = 0
                · have HR0 : Hid (l7.length = 0) := by have := HLNN.out; show _ = _; omega
                  subst hr0
                  go_wp2_with fail
                  refine wp_region_noPanic ?_
                  refine wp_region_held_drew (S := fun wx => Below w7.heap.size w7 wx) (by kernel_rfl) ?_ (fun hHeld => ?_)
                  · exact below_drewN w7 1
                  refine wpAnyH_take (i := 0) (oi := ⟨some 47, _, _, _, _, _⟩) (v := ?_) rfl (by kernel_rfl) (by kernel_rfl) (by kernel_rfl) (fun _ _ _ h => h) (Or.inl ⟨by rfl, ?_⟩) hHeld ?_
                  rotate_left
                  · intro w hSw; (try dsimp only at hSw); go_simp; all_goals (with_reducible rfl)
                  try simp only [Act.put, List.setIfInBounds_toArray, List.set_cons_zero, List.set_cons_succ]
                  refine wpAnyH_take (i := 1) (oi := ⟨some 48, _, _, _, _, _⟩) (v := ?_) rfl (by kernel_rfl) (by kernel_rfl) (by kernel_rfl) (fun _ _ _ h => h) (Or.inl ⟨by rfl, ?_⟩) hHeld ?_
                  rotate_left
                  · intro w hSw; (try dsimp only at hSw); go_simp; all_goals (with_reducible rfl)
                  try simp only [Act.put, List.setIfInBounds_toArray, List.set_cons_zero, List.set_cons_succ]
                  refine wpAnyH_take (i := 2) (oi := ⟨some 49, _, _, _, _, _⟩) (v := ?_) rfl (by kernel_rfl) (by kernel_rfl) (by kernel_rfl) (fun _ _ _ h => h) (Or.inl ⟨by rfl, ?_⟩) hHeld ?_
                  rotate_left
                  · intro w hSw; (try dsimp only at hSw); go_simp; all_goals (with_reducible rfl)
                  try simp only [Act.put, List.setIfInBounds_toArray, List.set_cons_zero, List.set_cons_succ]
                  refine wpAnyH_take (i := 3) (oi := ⟨some 50, _, _, _, _, _⟩) (v := ?_) rfl (by kernel_rfl) (by kernel_rfl) (by kernel_rfl) (fun _ _ _ h => h) (Or.inl ⟨by rfl, ?_⟩) hHeld ?_
                  rotate_left
                  · intro w hSw; (try dsimp only at hSw); go_simp; all_goals (with_reducible rfl)
                  try simp only [Act.put, List.setIfInBounds_toArray, List.set_cons_zero, List.set_cons_succ]
                  refine wpAnyH_take (i := 4) (oi := ⟨some 51, _, _, _, _, _⟩) (v := ?_) rfl (by kernel_rfl) (by kernel_rfl) (by kernel_rfl) (fun _ _ _ h => h) (Or.inl ⟨by rfl, ?_⟩) hHeld ?_
                  rotate_left
                  · intro w hSw; (try dsimp only at hSw); go_simp; all_goals (with_reducible rfl)
                  try simp only [Act.put, List.setIfInBounds_toArray, List.set_cons_zero, List.set_cons_succ]
                  refine wpAnyH_take (i := 5) (oi := ⟨some 52, _, _, _, _, _⟩) (v := ?_) rfl (by kernel_rfl) (by kernel_rfl) (by kernel_rfl) (fun _ _ _ h => h) (Or.inl ⟨by rfl, ?_⟩) hHeld ?_
                  rotate_left
                  · intro w hSw; (try dsimp only at hSw); go_simp; all_goals (with_reducible rfl)
                  try simp only [Act.put, List.setIfInBounds_toArray, List.set_cons_zero, List.set_cons_succ]
                  refine wpAnyH_take (i := 6) (oi := ⟨some 53, _, _, _, _, _⟩) (v := ?_) rfl (by kernel_rfl) (by kernel_rfl) (by kernel_rfl) (fun _ _ _ h => h) (Or.inl ⟨by rfl, ?_⟩) hHeld ?_
                  rotate_left
                  · intro w hSw; (try dsimp only at hSw); go_simp; all_goals (with_reducible rfl)
                  try simp only [Act.put, List.setIfInBounds_toArray, List.set_cons_zero, List.set_cons_succ]
                  refine wpAnyH_ready (rs := [7]) (by kernel_rfl) (by simp) ?_
                  refine AllReadyH.cons (o := ⟨some 54, _, _, _, _, _⟩) rfl (fun K hK => ?_) AllReadyH.nil
                  go_simp
                  refine (refuse_no (N + 2) 5 _).mono ?_
                  rintro e9 w8 ⟨rfl, hw8⟩
                  refine hK.out _ _ ?_ (fun hHeld => ?_)
                  · exact (by rw [hw8]; exact below_drewN w7 1)
                  clear hK K
                  try simp only [Act.put, List.setIfInBounds_toArray, List.set_cons_zero, List.set_cons_succ]
                  refine wpAnyH_done (by kernel_rfl) ?_ _
                  refine NoPanic.normal ?_
                  have H8 : Hid (DS N w w8 (.slice ra 0 rc) l7 ⟨G, F, T, B, A, 0, ib q, [], []⟩ (.slice ya yn yc) (.slice none 0 0) (.slice none 0 0)) := H.out.old hHeld
                  have HOE8 : Hid _ := own_belowC HOE.out hHeld
                  clear hw8 hHeld j0 j1 H
                  have hMX := H8.out.mx
                  have j0 : ∀ wx, Below w8.heap.size w8 wx → wx.cell? ⟨N + 3, 0, none⟩ = some (.pointer (some ⟨N + 2, 0, none⟩)) := fun wx hx => by rw [hx.cell (p := ⟨N + 3, 0, none⟩) (cell_lt H8.out.p)]; exact H8.out.p
                  have k0 : ∀ wx, Below w8.heap.size w8 wx → wx.cell? ⟨N, 0, none⟩ = some (.int .i64 (G : Int)) := fun wx hx => (hMX.keep hx).c0
                  have k1 : ∀ wx, Below w8.heap.size w8 wx → wx.cell? ⟨N, 1, none⟩ = some (.int .i64 (F : Int)) := fun wx hx => (hMX.keep hx).c1
                  have k2 : ∀ wx, Below w8.heap.size w8 wx → wx.cell? ⟨N, 2, none⟩ = some (.int .i64 (T : Int)) := fun wx hx => (hMX.keep hx).c2
                  have k3 : ∀ wx, Below w8.heap.size w8 wx → wx.cell? ⟨N, 3, none⟩ = some (.int .i64 (B : Int)) := fun wx hx => (hMX.keep hx).c3
                  have k4 : ∀ wx, Below w8.heap.size w8 wx → wx.cell? ⟨N, 4, none⟩ = some (.int .i64 (A : Int)) := fun wx hx => (hMX.keep hx).c4
                  have k5 : ∀ wx, Below w8.heap.size w8 wx → wx.cell? ⟨N, 5, none⟩ = some (.int .i64 (0 : Int)) := fun wx hx => (hMX.keep hx).c5
                  have k6 : ∀ wx, Below w8.heap.size w8 wx → wx.cell? ⟨N, 6, none⟩ = some ((.slice ya yn yc)) := fun wx hx => (hMX.keep hx).c6
                  have k7 : ∀ wx, Below w8.heap.size w8 wx → wx.cell? ⟨N, 7, none⟩ = some ((.slice none 0 0)) := fun wx hx => (hMX.keep hx).c7
                  have k8 : ∀ wx, Below w8.heap.size w8 wx → wx.cell? ⟨N, 8, none⟩ = some ((.slice none 0 0)) := fun wx hx => (hMX.keep hx).c8
                  have HML : Hid (ML w8 ⟨G, F, T, B, A, 0, ib q, [], []⟩ (.slice ya yn yc) (.slice none 0 0) (.slice none 0 0)) := HMLF.out w8 HOE8.out
                  clear hMX
                  cases hs : sndM ⟨G, F, T, B, A, 0, ib q, [], []⟩
                  · have HDF : Hid (decS l = (zeroMs, 150)) := by show _ = _; rw [HDE.out]; exact decT_none HR0.out hs
                    go_wp2_with fail
                    refine wp_region_held_drew (S := fun wx => Below w8.heap.size w8 wx) (by kernel_rfl) ?_ (fun hHeld => ?_)
                    · exact below_drewN w8 1
                    refine wpAnyH_take (i := 0) (oi := ⟨some 55, _, _, _, _, _⟩) (v := ?_) rfl (by kernel_rfl) (by kernel_rfl) (by kernel_rfl) (fun c a w h => q_dec (by decide) _ c a w h) (Or.inl ⟨by rfl, ?_⟩) hHeld ?_
                    rotate_left
                    · intro w hSw; (try dsimp only at hSw); go_simp; all_goals (with_reducible rfl)
                    try simp only [Act.put, List.setIfInBounds_toArray, List.set_cons_zero, List.set_cons_succ]
                    refine wpAnyH_take (i := 1) (oi := ⟨some 56, _, _, _, _, _⟩) (v := ?_) rfl (by kernel_rfl) (by kernel_rfl) (by kernel_rfl) (fun c a w h => q_dec (by decide) _ c a w h) (Or.inl ⟨by rfl, ?_⟩) hHeld ?_
                    rotate_left
                    · intro w hSw; (try dsimp only at hSw); go_simp; all_goals (with_reducible rfl)
                    try simp only [Act.put, List.setIfInBounds_toArray, List.set_cons_zero, List.set_cons_succ]
                    refine wpAnyH_ready (rs := [2]) (by kernel_rfl) (by simp) ?_
                    refine AllReadyH.cons (o := ⟨some 57, _, _, _, _, _⟩) rfl (fun K hK => ?_) AllReadyH.nil
                    go_simp
                    refine (sound_walk (m := ⟨G, F, T, B, A, 0, ib q, [], []⟩) (HML.out.below (below_drewN w8 1))).mono ?_
                    rw [hs]
                    rintro e9 w9 ⟨rfl, hB9⟩
                    have HB9 : Hid (Below w8.heap.size w8 w9) := below_trans (below_drewN w8 1) hB9
                    clear hB9
                    refine hK.out _ _ ?_ (fun hHeld => ?_)
                    · exact HB9.out
                    clear hK K
                    try simp only [Act.put, List.setIfInBounds_toArray, List.set_cons_zero, List.set_cons_succ]
                    refine wpAnyH_take (i := 3) (oi := ⟨some 58, _, _, _, _, _⟩) (v := ?_) rfl (by kernel_rfl) (by kernel_rfl) (by kernel_rfl) (fun c a w h => q_dec (by decide) _ c a w h) (Or.inl ⟨by rfl, ?_⟩) hHeld ?_
                    rotate_left
                    · intro w hSw; (try dsimp only at hSw); go_simp; all_goals (with_reducible rfl)
                    try simp only [Act.put, List.setIfInBounds_toArray, List.set_cons_zero, List.set_cons_succ]
                    refine wpAnyH_ready (rs := [4]) (by kernel_rfl) (by simp) ?_
                    refine AllReadyH.cons (o := ⟨some 59, _, _, _, _, _⟩) rfl (fun K hK => ?_) AllReadyH.nil
                    go_simp
                    refine (refuse_yes (H8.out.rd.below HB9.out) 150).mono ?_
                    rintro e9 w5 ⟨⟨u, pu, rfl⟩, h1, h20⟩
                    have h2 : Ch (fun x => x = N + 2) w8 w5 := (Ch.of_below HB9.out).self h20
                    clear h20
                    have H : Hid _ := H8.out
                    refine leaves_cons (f := 33) (args := #[.pointer (some ⟨N + 3, 0, none⟩), .pointer (some ⟨N, 0, none⟩), .pointer (some ⟨N + 1, 0, none⟩)]) (by simp) (by simp [go_sem]) ?_
                    refine (catch_go u pu [] (h2.cell H.out.p (by simp)) h1 (H.out.mx.ch h2 (by simp)) (h2.cell H.out.x (by simp)) (by rw [h2.froz H.out.x (by simp) 0]; exact H.out.xz 0)).mono ?_
                    rintro e u' w'' ⟨rfl, rfl, hw9⟩
                    have HO := out_of (er := 150) H.out h2
                    rw [← hw9] at HO
                    have hm := HO.mx
                    have y0 := hm.c0; have y1 := hm.c1; have y2 := hm.c2; have y3 := hm.c3; have y4 := hm.c4; have y5 := hm.c5; have y6 := hm.c6; have y7 := hm.c7; have y8 := hm.c8
                    have x0 := HO.x
                    simp only [zeroMs] at y0 y1 y2 y3 y4 y5
                    have HBW : Hid (Below w.heap.size w w'') := by have h := HO.below; rw [HN.out] at h; exact h
                    clear hw9 HO hm h1 h2
                    exact ⟨_, by simp [results, Try.results14, go_sem, y0, y1, y2, y3, y4, y5, y6, y7, y8, x0], dgot_bad HDF.out HBW.out⟩
                  · have HDF : Hid (decS l = (⟨G, F, T, B, A, 0, ib q, [], []⟩, 0)) := by show _ = _; rw [HDE.out]; exact decT_ok HR0.out hs
                    go_wp2_with fail
                    refine wp_region_noPanic ?_
                    refine wp_region_held_drew (S := fun wx => Below w8.heap.size w8 wx) (by kernel_rfl) ?_ (fun hHeld => ?_)
                    · exact below_drewN w8 1
                    refine wpAnyH_take (i := 0) (oi := ⟨some 55, _, _, _, _, _⟩) (v := ?_) rfl (by kernel_rfl) (by kernel_rfl) (by kernel_rfl) (fun _ _ _ h => h) (Or.inl ⟨by rfl, ?_⟩) hHeld ?_
                    rotate_left
                    · intro w hSw; (try dsimp only at hSw); go_simp; all_goals (with_reducible rfl)
                    try simp only [Act.put, List.setIfInBounds_toArray, List.set_cons_zero, List.set_cons_succ]
                    refine wpAnyH_take (i := 1) (oi := ⟨some 56, _, _, _, _, _⟩) (v := ?_) rfl (by kernel_rfl) (by kernel_rfl) (by kernel_rfl) (fun _ _ _ h => h) (Or.inl ⟨by rfl, ?_⟩) hHeld ?_
                    rotate_left
                    · intro w hSw; (try dsimp only at hSw); go_simp; all_goals (with_reducible rfl)
                    try simp only [Act.put, List.setIfInBounds_toArray, List.set_cons_zero, List.set_cons_succ]
                    refine wpAnyH_ready (rs := [2]) (by kernel_rfl) (by simp) ?_
                    refine AllReadyH.cons (o := ⟨some 57, _, _, _, _, _⟩) rfl (fun K hK => ?_) AllReadyH.nil
                    go_simp
                    refine (sound_walk (m := ⟨G, F, T, B, A, 0, ib q, [], []⟩) (HML.out.below (below_drewN w8 1))).mono ?_
                    rw [hs]
                    rintro e9 w9 ⟨rfl, hB9⟩
                    have HB9 : Hid (Below w8.heap.size w8 w9) := below_trans (below_drewN w8 1) hB9
                    clear hB9
                    refine hK.out _ _ ?_ (fun hHeld => ?_)
                    · exact HB9.out
                    clear hK K
                    try simp only [Act.put, List.setIfInBounds_toArray, List.set_cons_zero, List.set_cons_succ]
                    refine wpAnyH_take (i := 3) (oi := ⟨some 58, _, _, _, _, _⟩) (v := ?_) rfl (by kernel_rfl) (by kernel_rfl) (by kernel_rfl) (fun _ _ _ h => h) (Or.inl ⟨by rfl, ?_⟩) hHeld ?_
                    rotate_left
                    · intro w hSw; (try dsimp only at hSw); go_simp; all_goals (with_reducible rfl)
                    try simp only [Act.put, List.setIfInBounds_toArray, List.set_cons_zero, List.set_cons_succ]
                    refine wpAnyH_ready (rs := [4]) (by kernel_rfl) (by simp) ?_
                    refine AllReadyH.cons (o := ⟨some 59, _, _, _, _, _⟩) rfl (fun K hK => ?_) AllReadyH.nil
                    go_simp
                    refine (refuse_no (N + 2) 150 _).mono ?_
                    rintro e9 wA ⟨rfl, hwA⟩
                    refine hK.out _ _ ?_ (fun hHeld => ?_)
                    · exact (by rw [hwA]; exact HB9.out)
                    clear hK K
                    try simp only [Act.put, List.setIfInBounds_toArray, List.set_cons_zero, List.set_cons_succ]
                    refine wpAnyH_done (by kernel_rfl) ?_ _
                    refine NoPanic.normal ?_
                    have HA : Hid (DS N w wA (.slice ra 0 rc) l7 ⟨G, F, T, B, A, 0, ib q, [], []⟩ (.slice ya yn yc) (.slice none 0 0) (.slice none 0 0)) := H8.out.old hHeld
                    have HOEA : Hid _ := own_belowC HOE8.out hHeld
                    clear hwA hHeld HB9 H8 j0 k0 k1 k2 k3 k4 k5 k6 k7 k8
                    have hm := HA.out.mx
                    have y0 : wA.cell? ⟨N, 0, none⟩ = some (.int .i64 (G : Int)) := hm.c0
                    have z0 := hm.z 0
                    have y1 : wA.cell? ⟨N, 1, none⟩ = some (.int .i64 (F : Int)) := hm.c1
                    have z1 := hm.z 1
                    have y2 : wA.cell? ⟨N, 2, none⟩ = some (.int .i64 (T : Int)) := hm.c2
                    have z2 := hm.z 2
                    have y3 : wA.cell? ⟨N, 3, none⟩ = some (.int .i64 (B : Int)) := hm.c3
                    have z3 := hm.z 3
                    have y4 : wA.cell? ⟨N, 4, none⟩ = some (.int .i64 (A : Int)) := hm.c4
                    have z4 := hm.z 4
                    have y5 : wA.cell? ⟨N, 5, none⟩ = some (.int .i64 (0 : Int)) := hm.c5
                    have z5 := hm.z 5
                    have y6 : wA.cell? ⟨N, 6, none⟩ = some ((.slice ya yn yc)) := hm.c6
                    have z6 := hm.z 6
                    have y7 : wA.cell? ⟨N, 7, none⟩ = some ((.slice none 0 0)) := hm.c7
                    have z7 := hm.z 7
                    have y8 : wA.cell? ⟨N, 8, none⟩ = some ((.slice none 0 0)) := hm.c8
                    have z8 := hm.z 8
                    have x0 := HA.out.x
                    have xz := HA.out.xz 0
                    have HM9 : Hid _ := hm.over ⟨G, F, T, B, A, 0, ib q, [], []⟩ (.slice ya yn yc) (.slice none 0 0) (.slice none 0 0)
                    have HC9 : Hid _ := ch_setM wA N ⟨G, F, T, B, A, 0, ib q, [], []⟩ (.slice ya yn yc) (.slice none 0 0) (.slice none 0 0)
                    clear hm
                    go_wp2_with fail
                    refine leaves_cons (f := 33) (args := #[.pointer (some ⟨N + 3, 0, none⟩), .pointer (some ⟨N, 0, none⟩), .pointer (some ⟨N + 1, 0, none⟩)]) (by simp) (by simp [go_sem]) ?_
                    refine (catch_idle _ _ _ _).mono ?_
                    rintro e u' w'' ⟨rfl, rfl, hw9⟩
                    replace hw9 : w'' = (setM wA N ⟨G, F, T, B, A, 0, ib q, [], []⟩ (.slice ya yn yc) (.slice none 0 0) (.slice none 0 0)).setCell ⟨N + 1, 0, none⟩ (.int .i64 0) := hw9
                    have q0 := (HC9.out.cell x0 (by simp))
                    have HM10 : MX w'' N ⟨G, F, T, B, A, 0, ib q, [], []⟩ (.slice ya yn yc) (.slice none 0 0) (.slice none 0 0) := by rw [hw9]; exact HM9.out.ch (ch_set _ _ _ _) (by simp)
                    have x10 : w''.cell? ⟨N + 1, 0, none⟩ = some (.int .i64 0) := by rw [hw9]; exact cell_own1 q0
                    have HC10 : Ch (fun x => x = N ∨ x = N + 1) wA w'' := by rw [hw9]; exact ch_two HC9.out (ch_set _ _ _ _)
                    have HBW : Hid (Below w.heap.size w w'') := by have h := HA.out.below.trans (HC10.to_below (Nat.le_of_lt (cell_lt HA.out.mx.c0)) (fun x hx => by omega)); rw [HN.out] at h; exact h
                    have u0 : w''.cell? ⟨N, 0, none⟩ = some (.int .i64 (G : Int)) := HM10.c0
                    have u1 : w''.cell? ⟨N, 1, none⟩ = some (.int .i64 (F : Int)) := HM10.c1
                    have u2 : w''.cell? ⟨N, 2, none⟩ = some (.int .i64 (T : Int)) := HM10.c2
                    have u3 : w''.cell? ⟨N, 3, none⟩ = some (.int .i64 (B : Int)) := HM10.c3
                    have u4 : w''.cell? ⟨N, 4, none⟩ = some (.int .i64 (A : Int)) := HM10.c4
                    have u5 : w''.cell? ⟨N, 5, none⟩ = some (.int .i64 (0 : Int)) := HM10.c5
                    have u6 : w''.cell? ⟨N, 6, none⟩ = some ((.slice ya yn yc)) := HM10.c6
                    have u7 : w''.cell? ⟨N, 7, none⟩ = some ((.slice none 0 0)) := HM10.c7
                    have u8 : w''.cell? ⟨N, 8, none⟩ = some ((.slice none 0 0)) := HM10.c8
                    have HOEB := own_ch HOEA.out HC10 (fun x hx => by omega)
                    clear hw9 HM10 HC10 q0 x0 xz y0 z0 y1 z1 y2 z2 y3 z3 y4 z4 y5 z5 y6 z6 y7 z7 y8 z8
                    exact ⟨_, by simp [results, Try.results14, go_sem, u0, u1, u2, u3, u4, u5, u6, u7, u8, x10], dgot_ok (ev := (.slice ya yn yc)) (qv := (.slice none 0 0)) (pv := (.slice none 0 0)) HDF.out (by have h := own_baseC (base' := w.heap.size) HOEB (by have := HN.out; omega); rw [← ib_len q] at h; exact h) (own_nil) (own_nil) HBW.out⟩
                · have HR0 : Hid (l7.length ≠ 0) := by have := HLNN.out; show _ ≠ _; omega
                  have HDF : Hid (decS l = (zeroMs, 5)) := by show _ = _; rw [HDE.out]; exact decT_tail HR0.out
                  have hb1 : decide (0 < rn) = true := decide_eq_true (by omega)
                  have hb2 : decide ((0 : Int) < (rn : Int)) = true := decide_eq_true (by omega)
                  clear hr0
                  go_wp2_with fail
                  refine wp_region_held_drew (S := fun wx => Below w7.heap.size w7 wx) (by kernel_rfl) ?_ (fun hHeld => ?_)
                  · exact below_drewN w7 1
                  refine wpAnyH_take (i := 0) (oi := ⟨some 47, _, _, _, _, _⟩) (v := ?_) rfl (by kernel_rfl) (by kernel_rfl) (by kernel_rfl) (fun c a w h => q_dec (by decide) _ c a w h) (Or.inl ⟨by rfl, ?_⟩) hHeld ?_
                  rotate_left
                  · intro w hSw; (try dsimp only at hSw); go_simp; all_goals (with_reducible rfl)
                  try simp only [Act.put, List.setIfInBounds_toArray, List.set_cons_zero, List.set_cons_succ]
                  refine wpAnyH_take (i := 1) (oi := ⟨some 48, _, _, _, _, _⟩) (v := ?_) rfl (by kernel_rfl) (by kernel_rfl) (by kernel_rfl) (fun c a w h => q_dec (by decide) _ c a w h) (Or.inl ⟨by rfl, ?_⟩) hHeld ?_
                  rotate_left
                  · intro w hSw; (try dsimp only at hSw); go_simp; all_goals (with_reducible rfl)
                  try simp only [Act.put, List.setIfInBounds_toArray, List.set_cons_zero, List.set_cons_succ]
                  refine wpAnyH_take (i := 2) (oi := ⟨some 49, _, _, _, _, _⟩) (v := ?_) rfl (by kernel_rfl) (by kernel_rfl) (by kernel_rfl) (fun c a w h => q_dec (by decide) _ c a w h) (Or.inl ⟨by rfl, ?_⟩) hHeld ?_
                  rotate_left
                  · intro w hSw; (try dsimp only at hSw); go_simp; all_goals (with_reducible rfl)
                  try simp only [Act.put, List.setIfInBounds_toArray, List.set_cons_zero, List.set_cons_succ]
                  refine wpAnyH_take (i := 3) (oi := ⟨some 50, _, _, _, _, _⟩) (v := ?_) rfl (by kernel_rfl) (by kernel_rfl) (by kernel_rfl) (fun c a w h => q_dec (by decide) _ c a w h) (Or.inl ⟨by rfl, ?_⟩) hHeld ?_
                  rotate_left
                  · intro w hSw; (try dsimp only at hSw); go_simp; all_goals (with_reducible rfl)
                  try simp only [Act.put, List.setIfInBounds_toArray, List.set_cons_zero, List.set_cons_succ]
                  refine wpAnyH_take (i := 4) (oi := ⟨some 51, _, _, _, _, _⟩) (v := ?_) rfl (by kernel_rfl) (by kernel_rfl) (by kernel_rfl) (fun c a w h => q_dec (by decide) _ c a w h) (Or.inl ⟨by rfl, ?_⟩) hHeld ?_
                  rotate_left
                  · intro w hSw; (try dsimp only at hSw); go_simp; all_goals (with_reducible rfl)
                  try simp only [Act.put, List.setIfInBounds_toArray, List.set_cons_zero, List.set_cons_succ]
                  refine wpAnyH_take (i := 5) (oi := ⟨some 52, _, _, _, _, _⟩) (v := ?_) rfl (by kernel_rfl) (by kernel_rfl) (by kernel_rfl) (fun c a w h => q_dec (by decide) _ c a w h) (Or.inl ⟨by rfl, ?_⟩) hHeld ?_
                  rotate_left
                  · intro w hSw; (try dsimp only at hSw); go_simp; all_goals (with_reducible rfl)
                  try simp only [Act.put, List.setIfInBounds_toArray, List.set_cons_zero, List.set_cons_succ]
                  refine wpAnyH_take (i := 6) (oi := ⟨some 53, _, _, _, _, _⟩) (v := ?_) rfl (by kernel_rfl) (by kernel_rfl) (by kernel_rfl) (fun c a w h => q_dec (by decide) _ c a w h) (Or.inl ⟨by rfl, ?_⟩) hHeld ?_
                  rotate_left
                  · intro w hSw; (try dsimp only at hSw); go_simp; all_goals (with_reducible rfl)
                  try simp only [Act.put, List.setIfInBounds_toArray, List.set_cons_zero, List.set_cons_succ]
                  refine wpAnyH_ready (rs := [7]) (by kernel_rfl) (by simp) ?_
                  refine AllReadyH.cons (o := ⟨some 54, _, _, _, _, _⟩) rfl (fun K hK => ?_) AllReadyH.nil
                  go_simp
                  refine (refuse_yes (H.out.rd.below (below_drewN w7 1)) 5).mono ?_
                  rintro e9 w5 ⟨⟨u, pu, rfl⟩, h1, h20⟩
                  have h2 : Ch (fun x => x = N + 2) w7 w5 := (Ch.of_below (below_drewN w7 1)).self h20
                  clear h20
                  refine leaves_cons (f := 33) (args := #[.pointer (some ⟨N + 3, 0, none⟩), .pointer (some ⟨N, 0, none⟩), .pointer (some ⟨N + 1, 0, none⟩)]) (by simp) (by simp [go_sem]) ?_
                  refine (catch_go u pu [] (h2.cell H.out.p (by simp)) h1 (H.out.mx.ch h2 (by simp)) (h2.cell H.out.x (by simp)) (by rw [h2.froz H.out.x (by simp) 0]; exact H.out.xz 0)).mono ?_
                  rintro e u' w'' ⟨rfl, rfl, hw9⟩
                  have HO := out_of (er := 5) H.out h2
                  rw [← hw9] at HO
                  have hm := HO.mx
                  have y0 := hm.c0; have y1 := hm.c1; have y2 := hm.c2; have y3 := hm.c3; have y4 := hm.c4; have y5 := hm.c5; have y6 := hm.c6; have y7 := hm.c7; have y8 := hm.c8
                  have x0 := HO.x
                  simp only [zeroMs] at y0 y1 y2 y3 y4 y5
                  have HBW : Hid (Below w.heap.size w w'') := by have h := HO.below; rw [HN.out] at h; exact h
                  clear hw9 HO hm h1 h2
                  exact ⟨_, by simp [results, Try.results14, go_sem, y0, y1, y2, y3, y4, y5, y6, y7, y8, x0], dgot_bad HDF.out HBW.out⟩
              · have HX : Hid ((endL l5).1 ≠ 0) := hx
                rw [if_pos hx, decT_bad hx] at HDB
                clear hx
                go_wp2_with fail
                refine (ends_walk H.out.rd).mono ?_
                rintro e9 w5 (⟨_, ⟨u, pu, rfl⟩, h1, h2⟩ | ⟨hgood, _⟩)
                · go_wp2_with fail
                  refine leaves_cons (f := 33) (args := #[.pointer (some ⟨N + 3, 0, none⟩), .pointer (some ⟨N, 0, none⟩), .pointer (some ⟨N + 1, 0, none⟩)]) (by simp) (by simp [go_sem]) ?_
                  refine (catch_go u pu [] (h2.cell H.out.p (by simp)) h1 (H.out.mx.ch h2 (by simp)) (h2.cell H.out.x (by simp)) (by rw [h2.froz H.out.x (by simp) 0]; exact H.out.xz 0)).mono ?_
                  rintro e u' w'' ⟨rfl, rfl, hw9⟩
                  have HO := out_of (er := (endL l5).1) H.out h2
                  rw [← hw9] at HO
                  have hm := HO.mx
                  have y0 := hm.c0; have y1 := hm.c1; have y2 := hm.c2; have y3 := hm.c3; have y4 := hm.c4; have y5 := hm.c5; have y6 := hm.c6; have y7 := hm.c7; have y8 := hm.c8
                  have x0 := HO.x
                  simp only [zeroMs] at y0 y1 y2 y3 y4 y5
                  have HBW : Hid (Below w.heap.size w w'') := by have h := HO.below; rw [HN.out] at h; exact h
                  clear hw9 HO hm h1 h2
                  exact ⟨_, by simp [results, Try.results14, go_sem, y0, y1, y2, y3, y4, y5, y6, y7, y8, x0], dgot_bad HDB.out HBW.out⟩
                · exact absurd hgood HX.out
            · have HDB : Hid (decS l = decT (bodL ⟨G, F, T, B, A⟩ l5)) := HDE.out
              rw [bod_2 hf] at HDB
              go_wp2_with fail
              refine (asks_walk (G : Int) _).mono ?_
              rw [hf]
              rintro e9 w4 ⟨rfl, hw4⟩
              replace hw4 := hw4.symm
              subst hw4
              clear c0
              have p0 := H.out.p
              by_cases hx : (keyD l5).1 = 0
              · have HX : Hid ((keyD l5).1 = 0) := hx
                rw [if_neg (by simpa using hx)] at HDB
                clear hx
                go_wp2_with fail
                refine (keys_walk H.out.rd (by omega)).mono ?_
                rintro e9 w5 (⟨hbad, _⟩ | ⟨_, y, rfl, ho, ⟨v5, hR5⟩, hC5⟩)
                · exact absurd HX.out hbad
                obtain ⟨l7, hl7⟩ : ∃ x, x = (keyD l5).2.2 := ⟨_, rfl⟩
                obtain ⟨q, hq⟩ : ∃ x, x = (keyD l5).2.1 := ⟨_, rfl⟩
                rw [← hl7, ← hq] at HDB
                rw [← hl7] at hR5
                rw [← hq] at ho
                have H5 : Hid (DS N w w5 v5 l7 ⟨G, F, T, B, A, 0, [], [], []⟩ (.slice none 0 0) (.slice none 0 0) (.slice none 0 0)) := H.out.turn hR5 hC5
                have HO5 : Hid (w5.ownsRow (N + 2) 38 1 y q.length (flU q)) := own_baseC ho (by have := cell_lt H.out.p; simp only at this; omega)
                obtain ⟨ya, yn, yc, hy⟩ := sv_any (own_sv HO5.out)
                subst hy
                have c0 := H5.out.mx.c7
                have z0 := H5.out.mx.z 7
                have HOX : ∀ u, (w5.setCell ⟨N, 7, none⟩ u).ownsRow (N + 2) 38 1 (.slice ya yn yc) q.length (flU q) := fun u => own_ch HO5.out (ch_set _ _ _ _) (fun x hx => by omega)
                have HOQ : Hid ((w5.setCell ⟨N, 7, none⟩ (.slice ya yn yc)).ownsRow (N + 2) 38 1 (.slice ya yn yc) q.length (flU q)) := HOX _
                have H7 : Hid (DS N w (w5.setCell ⟨N, 7, none⟩ (.slice ya yn yc)) v5 l7 ⟨G, F, T, B, A, 0, [], q, []⟩ (.slice none 0 0) (.slice ya yn yc) (.slice none 0 0)) := ds_lists (H5.out.s7 (.slice ya yn yc) slice_notu8) _ _ _
                clear ho hR5 hC5 HO5 HOX H p0 H5 hl7 hq
                go_upto_region 17 with fail
                generalize w5.setCell ⟨N, 7, none⟩ (.slice ya yn yc) = w7 at H7 HOQ ⊢
                clear c0 z0
                have H : Hid _ := H7.out
                clear H7
                clear HDE
                have HDE : Hid _ := HDB.out
                clear HDB
                have HMLF : Hid (∀ wx : World, wx.ownsRow (N + 2) 38 1 (.slice ya yn yc) q.length (flU q) → ML wx ⟨G, F, T, B, A, 0, [], q, []⟩ (.slice none 0 0) (.slice ya yn yc) (.slice none 0 0)) := fun wx h => ⟨Sv.nil _ _, own_sv h, qv_nil _⟩
                obtain ⟨ra, rn, rc, hvv⟩ := bv_any H.out.rd.bv
                subst hvv
                obtain ⟨hln, _, _⟩ := bv_le H.out.rd.bv
                have HLNN : Hid (rn = l7.length) := hln
                clear hln
                have j0 : ∀ wx, Below w7.heap.size w7 wx → wx.cell? ⟨N + 3, 0, none⟩ = some (.pointer (some ⟨N + 2, 0, none⟩)) := fun wx hx => by rw [hx.cell (p := ⟨N + 3, 0, none⟩) (cell_lt H.out.p)]; exact H.out.p
                have j1 : ∀ wx, Below w7.heap.size w7 wx → wx.cell? ⟨N + 2, 0, none⟩ = some (.slice ra rn rc) := fun wx hx => by rw [hx.cell (p := ⟨N + 2, 0, none⟩) (cell_lt H.out.rd.c0)]; exact H.out.rd.c0
                by_cases hr0 : rn = 0
                · have HR0 : Hid (l7.length = 0) := by have := HLNN.out; show _ = _; omega
                  subst hr0
                  go_wp2_with fail
                  refine wp_region_noPanic ?_
                  refine wp_region_held_drew (S := fun wx => Below w7.heap.size w7 wx) (by kernel_rfl) ?_ (fun hHeld => ?_)
                  · exact below_drewN w7 1
                  refine wpAnyH_take (i := 0) (oi := ⟨some 47, _, _, _, _, _⟩) (v := ?_) rfl (by kernel_rfl) (by kernel_rfl) (by kernel_rfl) (fun _ _ _ h => h) (Or.inl ⟨by rfl, ?_⟩) hHeld ?_
                  rotate_left
                  · intro w hSw; (try dsimp only at hSw); go_simp; all_goals (with_reducible rfl)
                  try simp only [Act.put, List.setIfInBounds_toArray, List.set_cons_zero, List.set_cons_succ]
                  refine wpAnyH_take (i := 1) (oi := ⟨some 48, _, _, _, _, _⟩) (v := ?_) rfl (by kernel_rfl) (by kernel_rfl) (by kernel_rfl) (fun _ _ _ h => h) (Or.inl ⟨by rfl, ?_⟩) hHeld ?_
                  rotate_left
                  · intro w hSw; (try dsimp only at hSw); go_simp; all_goals (with_reducible rfl)
                  try simp only [Act.put, List.setIfInBounds_toArray, List.set_cons_zero, List.set_cons_succ]
                  refine wpAnyH_take (i := 2) (oi := ⟨some 49, _, _, _, _, _⟩) (v := ?_) rfl (by kernel_rfl) (by kernel_rfl) (by kernel_rfl) (fun _ _ _ h => h) (Or.inl ⟨by rfl, ?_⟩) hHeld ?_
                  rotate_left
                  · intro w hSw; (try dsimp only at hSw); go_simp; all_goals (with_reducible rfl)
                  try simp only [Act.put, List.setIfInBounds_toArray, List.set_cons_zero, List.set_cons_succ]
                  refine wpAnyH_take (i := 3) (oi := ⟨some 50, _, _, _, _, _⟩) (v := ?_) rfl (by kernel_rfl) (by kernel_rfl) (by kernel_rfl) (fun _ _ _ h => h) (Or.inl ⟨by rfl, ?_⟩) hHeld ?_
                  rotate_left
                  · intro w hSw; (try dsimp only at hSw); go_simp; all_goals (with_reducible rfl)
                  try simp only [Act.put, List.setIfInBounds_toArray, List.set_cons_zero, List.set_cons_succ]
                  refine wpAnyH_take (i := 4) (oi := ⟨some 51, _, _, _, _, _⟩) (v := ?_) rfl (by kernel_rfl) (by kernel_rfl) (by kernel_rfl) (fun _ _ _ h => h) (Or.inl ⟨by rfl, ?_⟩) hHeld ?_
                  rotate_left
                  · intro w hSw; (try dsimp only at hSw); go_simp; all_goals (with_reducible rfl)
                  try simp only [Act.put, List.setIfInBounds_toArray, List.set_cons_zero, List.set_cons_succ]
                  refine wpAnyH_take (i := 5) (oi := ⟨some 52, _, _, _, _, _⟩) (v := ?_) rfl (by kernel_rfl) (by kernel_rfl) (by kernel_rfl) (fun _ _ _ h => h) (Or.inl ⟨by rfl, ?_⟩) hHeld ?_
                  rotate_left
                  · intro w hSw; (try dsimp only at hSw); go_simp; all_goals (with_reducible rfl)
                  try simp only [Act.put, List.setIfInBounds_toArray, List.set_cons_zero, List.set_cons_succ]
                  refine wpAnyH_take (i := 6) (oi := ⟨some 53, _, _, _, _, _⟩) (v := ?_) rfl (by kernel_rfl) (by kernel_rfl) (by kernel_rfl) (fun _ _ _ h => h) (Or.inl ⟨by rfl, ?_⟩) hHeld ?_
                  rotate_left
                  · intro w hSw; (try dsimp only at hSw); go_simp; all_goals (with_reducible rfl)
                  try simp only [Act.put, List.setIfInBounds_toArray, List.set_cons_zero, List.set_cons_succ]
                  refine wpAnyH_ready (rs := [7]) (by kernel_rfl) (by simp) ?_
                  refine AllReadyH.cons (o := ⟨some 54, _, _, _, _, _⟩) rfl (fun K hK => ?_) AllReadyH.nil
                  go_simp
                  refine (refuse_no (N + 2) 5 _).mono ?_
                  rintro e9 w8 ⟨rfl, hw8⟩
                  refine hK.out _ _ ?_ (fun hHeld => ?_)
                  · exact (by rw [hw8]; exact below_drewN w7 1)
                  clear hK K
                  try simp only [Act.put, List.setIfInBounds_toArray, List.set_cons_zero, List.set_cons_succ]
                  refine wpAnyH_done (by kernel_rfl) ?_ _
                  refine NoPanic.normal ?_
                  have H8 : Hid (DS N w w8 (.slice ra 0 rc) l7 ⟨G, F, T, B, A, 0, [], q, []⟩ (.slice none 0 0) (.slice ya yn yc) (.slice none 0 0)) := H.out.old hHeld
                  have HOQ8 : Hid _ := own_belowC HOQ.out hHeld
                  clear hw8 hHeld j0 j1 H
                  have hMX := H8.out.mx
                  have j0 : ∀ wx, Below w8.heap.size w8 wx → wx.cell? ⟨N + 3, 0, none⟩ = some (.pointer (some ⟨N + 2, 0, none⟩)) := fun wx hx => by rw [hx.cell (p := ⟨N + 3, 0, none⟩) (cell_lt H8.out.p)]; exact H8.out.p
                  have k0 : ∀ wx, Below w8.heap.size w8 wx → wx.cell? ⟨N, 0, none⟩ = some (.int .i64 (G : Int)) := fun wx hx => (hMX.keep hx).c0
                  have k1 : ∀ wx, Below w8.heap.size w8 wx → wx.cell? ⟨N, 1, none⟩ = some (.int .i64 (F : Int)) := fun wx hx => (hMX.keep hx).c1
                  have k2 : ∀ wx, Below w8.heap.size w8 wx → wx.cell? ⟨N, 2, none⟩ = some (.int .i64 (T : Int)) := fun wx hx => (hMX.keep hx).c2
                  have k3 : ∀ wx, Below w8.heap.size w8 wx → wx.cell? ⟨N, 3, none⟩ = some (.int .i64 (B : Int)) := fun wx hx => (hMX.keep hx).c3
                  have k4 : ∀ wx, Below w8.heap.size w8 wx → wx.cell? ⟨N, 4, none⟩ = some (.int .i64 (A : Int)) := fun wx hx => (hMX.keep hx).c4
                  have k5 : ∀ wx, Below w8.heap.size w8 wx → wx.cell? ⟨N, 5, none⟩ = some (.int .i64 (0 : Int)) := fun wx hx => (hMX.keep hx).c5
                  have k6 : ∀ wx, Below w8.heap.size w8 wx → wx.cell? ⟨N, 6, none⟩ = some ((.slice none 0 0)) := fun wx hx => (hMX.keep hx).c6
                  have k7 : ∀ wx, Below w8.heap.size w8 wx → wx.cell? ⟨N, 7, none⟩ = some ((.slice ya yn yc)) := fun wx hx => (hMX.keep hx).c7
                  have k8 : ∀ wx, Below w8.heap.size w8 wx → wx.cell? ⟨N, 8, none⟩ = some ((.slice none 0 0)) := fun wx hx => (hMX.keep hx).c8
                  have HML : Hid (ML w8 ⟨G, F, T, B, A, 0, [], q, []⟩ (.slice none 0 0) (.slice ya yn yc) (.slice none 0 0)) := HMLF.out w8 HOQ8.out
                  clear hMX
                  cases hs : sndM ⟨G, F, T, B, A, 0, [], q, []⟩
                  · have HDF : Hid (decS l = (zeroMs, 150)) := by show _ = _; rw [HDE.out]; exact decT_none HR0.out hs
                    go_wp2_with fail
                    refine wp_region_held_drew (S := fun wx => Below w8.heap.size w8 wx) (by kernel_rfl) ?_ (fun hHeld => ?_)
                    · exact below_drewN w8 1
                    refine wpAnyH_take (i := 0) (oi := ⟨some 55, _, _, _, _, _⟩) (v := ?_) rfl (by kernel_rfl) (by kernel_rfl) (by kernel_rfl) (fun c a w h => q_dec (by decide) _ c a w h) (Or.inl ⟨by rfl, ?_⟩) hHeld ?_
                    rotate_left
                    · intro w hSw; (try dsimp only at hSw); go_simp; all_goals (with_reducible rfl)
                    try simp only [Act.put, List.setIfInBounds_toArray, List.set_cons_zero, List.set_cons_succ]
                    refine wpAnyH_take (i := 1) (oi := ⟨some 56, _, _, _, _, _⟩) (v := ?_) rfl (by kernel_rfl) (by kernel_rfl) (by kernel_rfl) (fun c a w h => q_dec (by decide) _ c a w h) (Or.inl ⟨by rfl, ?_⟩) hHeld ?_
                    rotate_left
                    · intro w hSw; (try dsimp only at hSw); go_simp; all_goals (with_reducible rfl)
                    try simp only [Act.put, List.setIfInBounds_toArray, List.set_cons_zero, List.set_cons_succ]
                    refine wpAnyH_ready (rs := [2]) (by kernel_rfl) (by simp) ?_
                    refine AllReadyH.cons (o := ⟨some 57, _, _, _, _, _⟩) rfl (fun K hK => ?_) AllReadyH.nil
                    go_simp
                    refine (sound_walk (m := ⟨G, F, T, B, A, 0, [], q, []⟩) (HML.out.below (below_drewN w8 1))).mono ?_
                    rw [hs]
                    rintro e9 w9 ⟨rfl, hB9⟩
                    have HB9 : Hid (Below w8.heap.size w8 w9) := below_trans (below_drewN w8 1) hB9
                    clear hB9
                    refine hK.out _ _ ?_ (fun hHeld => ?_)
                    · exact HB9.out
                    clear hK K
                    try simp only [Act.put, List.setIfInBounds_toArray, List.set_cons_zero, List.set_cons_succ]
                    refine wpAnyH_take (i := 3) (oi := ⟨some 58, _, _, _, _, _⟩) (v := ?_) rfl (by kernel_rfl) (by kernel_rfl) (by kernel_rfl) (fun c a w h => q_dec (by decide) _ c a w h) (Or.inl ⟨by rfl, ?_⟩) hHeld ?_
                    rotate_left
                    · intro w hSw; (try dsimp only at hSw); go_simp; all_goals (with_reducible rfl)
                    try simp only [Act.put, List.setIfInBounds_toArray, List.set_cons_zero, List.set_cons_succ]
                    refine wpAnyH_ready (rs := [4]) (by kernel_rfl) (by simp) ?_
                    refine AllReadyH.cons (o := ⟨some 59, _, _, _, _, _⟩) rfl (fun K hK => ?_) AllReadyH.nil
                    go_simp
                    refine (refuse_yes (H8.out.rd.below HB9.out) 150).mono ?_
                    rintro e9 w5 ⟨⟨u, pu, rfl⟩, h1, h20⟩
                    have h2 : Ch (fun x => x = N + 2) w8 w5 := (Ch.of_below HB9.out).self h20
                    clear h20
                    have H : Hid _ := H8.out
                    refine leaves_cons (f := 33) (args := #[.pointer (some ⟨N + 3, 0, none⟩), .pointer (some ⟨N, 0, none⟩), .pointer (some ⟨N + 1, 0, none⟩)]) (by simp) (by simp [go_sem]) ?_
                    refine (catch_go u pu [] (h2.cell H.out.p (by simp)) h1 (H.out.mx.ch h2 (by simp)) (h2.cell H.out.x (by simp)) (by rw [h2.froz H.out.x (by simp) 0]; exact H.out.xz 0)).mono ?_
                    rintro e u' w'' ⟨rfl, rfl, hw9⟩
                    have HO := out_of (er := 150) H.out h2
                    rw [← hw9] at HO
                    have hm := HO.mx
                    have y0 := hm.c0; have y1 := hm.c1; have y2 := hm.c2; have y3 := hm.c3; have y4 := hm.c4; have y5 := hm.c5; have y6 := hm.c6; have y7 := hm.c7; have y8 := hm.c8
                    have x0 := HO.x
                    simp only [zeroMs] at y0 y1 y2 y3 y4 y5
                    have HBW : Hid (Below w.heap.size w w'') := by have h := HO.below; rw [HN.out] at h; exact h
                    clear hw9 HO hm h1 h2
                    exact ⟨_, by simp [results, Try.results14, go_sem, y0, y1, y2, y3, y4, y5, y6, y7, y8, x0], dgot_bad HDF.out HBW.out⟩
                  · have HDF : Hid (decS l = (⟨G, F, T, B, A, 0, [], q, []⟩, 0)) := by show _ = _; rw [HDE.out]; exact decT_ok HR0.out hs
                    go_wp2_with fail
                    refine wp_region_noPanic ?_
                    refine wp_region_held_drew (S := fun wx => Below w8.heap.size w8 wx) (by kernel_rfl) ?_ (fun hHeld => ?_)
                    · exact below_drewN w8 1
                    refine wpAnyH_take (i := 0) (oi := ⟨some 55, _, _, _, _, _⟩) (v := ?_) rfl (by kernel_rfl) (by kernel_rfl) (by kernel_rfl) (fun _ _ _ h => h) (Or.inl ⟨by rfl, ?_⟩) hHeld ?_
                    rotate_left
                    · intro w hSw; (try dsimp only at hSw); go_simp; all_goals (with_reducible rfl)
                    try simp only [Act.put, List.setIfInBounds_toArray, List.set_cons_zero, List.set_cons_succ]
                    refine wpAnyH_take (i := 1) (oi := ⟨some 56, _, _, _, _, _⟩) (v := ?_) rfl (by kernel_rfl) (by kernel_rfl) (by kernel_rfl) (fun _ _ _ h => h) (Or.inl ⟨by rfl, ?_⟩) hHeld ?_
                    rotate_left
                    · intro w hSw; (try dsimp only at hSw); go_simp; all_goals (with_reducible rfl)
                    try simp only [Act.put, List.setIfInBounds_toArray, List.set_cons_zero, List.set_cons_succ]
                    refine wpAnyH_ready (rs := [2]) (by kernel_rfl) (by simp) ?_
                    refine AllReadyH.cons (o := ⟨some 57, _, _, _, _, _⟩) rfl (fun K hK => ?_) AllReadyH.nil
                    go_simp
                    refine (sound_walk (m := ⟨G, F, T, B, A, 0, [], q, []⟩) (HML.out.below (below_drewN w8 1))).mono ?_
                    rw [hs]
                    rintro e9 w9 ⟨rfl, hB9⟩
                    have HB9 : Hid (Below w8.heap.size w8 w9) := below_trans (below_drewN w8 1) hB9
                    clear hB9
                    refine hK.out _ _ ?_ (fun hHeld => ?_)
                    · exact HB9.out
                    clear hK K
                    try simp only [Act.put, List.setIfInBounds_toArray, List.set_cons_zero, List.set_cons_succ]
                    refine wpAnyH_take (i := 3) (oi := ⟨some 58, _, _, _, _, _⟩) (v := ?_) rfl (by kernel_rfl) (by kernel_rfl) (by kernel_rfl) (fun _ _ _ h => h) (Or.inl ⟨by rfl, ?_⟩) hHeld ?_
                    rotate_left
                    · intro w hSw; (try dsimp only at hSw); go_simp; all_goals (with_reducible rfl)
                    try simp only [Act.put, List.setIfInBounds_toArray, List.set_cons_zero, List.set_cons_succ]
                    refine wpAnyH_ready (rs := [4]) (by kernel_rfl) (by simp) ?_
                    refine AllReadyH.cons (o := ⟨some 59, _, _, _, _, _⟩) rfl (fun K hK => ?_) AllReadyH.nil
                    go_simp
                    refine (refuse_no (N + 2) 150 _).mono ?_
                    rintro e9 wA ⟨rfl, hwA⟩
                    refine hK.out _ _ ?_ (fun hHeld => ?_)
                    · exact (by rw [hwA]; exact HB9.out)
                    clear hK K
                    try simp only [Act.put, List.setIfInBounds_toArray, List.set_cons_zero, List.set_cons_succ]
                    refine wpAnyH_done (by kernel_rfl) ?_ _
                    refine NoPanic.normal ?_
                    have HA : Hid (DS N w wA (.slice ra 0 rc) l7 ⟨G, F, T, B, A, 0, [], q, []⟩ (.slice none 0 0) (.slice ya yn yc) (.slice none 0 0)) := H8.out.old hHeld
                    have HOQA : Hid _ := own_belowC HOQ8.out hHeld
                    clear hwA hHeld HB9 H8 j0 k0 k1 k2 k3 k4 k5 k6 k7 k8
                    have hm := HA.out.mx
                    have y0 : wA.cell? ⟨N, 0, none⟩ = some (.int .i64 (G : Int)) := hm.c0
                    have z0 := hm.z 0
                    have y1 : wA.cell? ⟨N, 1, none⟩ = some (.int .i64 (F : Int)) := hm.c1
                    have z1 := hm.z 1
                    have y2 : wA.cell? ⟨N, 2, none⟩ = some (.int .i64 (T : Int)) := hm.c2
                    have z2 := hm.z 2
                    have y3 : wA.cell? ⟨N, 3, none⟩ = some (.int .i64 (B : Int)) := hm.c3
                    have z3 := hm.z 3
                    have y4 : wA.cell? ⟨N, 4, none⟩ = some (.int .i64 (A : Int)) := hm.c4
                    have z4 := hm.z 4
                    have y5 : wA.cell? ⟨N, 5, none⟩ = some (.int .i64 (0 : Int)) := hm.c5
                    have z5 := hm.z 5
                    have y6 : wA.cell? ⟨N, 6, none⟩ = some ((.slice none 0 0)) := hm.c6
                    have z6 := hm.z 6
                    have y7 : wA.cell? ⟨N, 7, none⟩ = some ((.slice ya yn yc)) := hm.c7
                    have z7 := hm.z 7
                    have y8 : wA.cell? ⟨N, 8, none⟩ = some ((.slice none 0 0)) := hm.c8
                    have z8 := hm.z 8
                    have x0 := HA.out.x
                    have xz := HA.out.xz 0
                    have HM9 : Hid _ := hm.over ⟨G, F, T, B, A, 0, [], q, []⟩ (.slice none 0 0) (.slice ya yn yc) (.slice none 0 0)
                    have HC9 : Hid _ := ch_setM wA N ⟨G, F, T, B, A, 0, [], q, []⟩ (.slice none 0 0) (.slice ya yn yc) (.slice none 0 0)
                    clear hm
                    go_wp2_with fail
                    refine leaves_cons (f := 33) (args := #[.pointer (some ⟨N + 3, 0, none⟩), .pointer (some ⟨N, 0, none⟩), .pointer (some ⟨N + 1, 0, none⟩)]) (by simp) (by simp [go_sem]) ?_
                    refine (catch_idle _ _ _ _).mono ?_
                    rintro e u' w'' ⟨rfl, rfl, hw9⟩
                    replace hw9 : w'' = (setM wA N ⟨G, F, T, B, A, 0, [], q, []⟩ (.slice none 0 0) (.slice ya yn yc) (.slice none 0 0)).setCell ⟨N + 1, 0, none⟩ (.int .i64 0) := hw9
                    have q0 := (HC9.out.cell x0 (by simp))
                    have HM10 : MX w'' N ⟨G, F, T, B, A, 0, [], q, []⟩ (.slice none 0 0) (.slice ya yn yc) (.slice none 0 0) := by rw [hw9]; exact HM9.out.ch (ch_set _ _ _ _) (by simp)
                    have x10 : w''.cell? ⟨N + 1, 0, none⟩ = some (.int .i64 0) := by rw [hw9]; exact cell_own1 q0
                    have HC10 : Ch (fun x => x = N ∨ x = N + 1) wA w'' := by rw [hw9]; exact ch_two HC9.out (ch_set _ _ _ _)
                    have HBW : Hid (Below w.heap.size w w'') := by have h := HA.out.below.trans (HC10.to_below (Nat.le_of_lt (cell_lt HA.out.mx.c0)) (fun x hx => by omega)); rw [HN.out] at h; exact h
                    have u0 : w''.cell? ⟨N, 0, none⟩ = some (.int .i64 (G : Int)) := HM10.c0
                    have u1 : w''.cell? ⟨N, 1, none⟩ = some (.int .i64 (F : Int)) := HM10.c1
                    have u2 : w''.cell? ⟨N, 2, none⟩ = some (.int .i64 (T : Int)) := HM10.c2
                    have u3 : w''.cell? ⟨N, 3, none⟩ = some (.int .i64 (B : Int)) := HM10.c3
                    have u4 : w''.cell? ⟨N, 4, none⟩ = some (.int .i64 (A : Int)) := HM10.c4
                    have u5 : w''.cell? ⟨N, 5, none⟩ = some (.int .i64 (0 : Int)) := HM10.c5
                    have u6 : w''.cell? ⟨N, 6, none⟩ = some ((.slice none 0 0)) := HM10.c6
                    have u7 : w''.cell? ⟨N, 7, none⟩ = some ((.slice ya yn yc)) := HM10.c7
                    have u8 : w''.cell? ⟨N, 8, none⟩ = some ((.slice none 0 0)) := HM10.c8
                    have HOQB := own_ch HOQA.out HC10 (fun x hx => by omega)
                    clear hw9 HM10 HC10 q0 x0 xz y0 z0 y1 z1 y2 z2 y3 z3 y4 z4 y5 z5 y6 z6 y7 z7 y8 z8
                    exact ⟨_, by simp [results, Try.results14, go_sem, u0, u1, u2, u3, u4, u5, u6, u7, u8, x10], dgot_ok (ev := (.slice none 0 0)) (qv := (.slice ya yn yc)) (pv := (.slice none 0 0)) HDF.out (own_nil) (own_baseC HOQB (by have := HN.out; omega)) (own_nil) HBW.out⟩
                · have HR0 : Hid (l7.length ≠ 0) := by have := HLNN.out; show _ ≠ _; omega
                  have HDF : Hid (decS l = (zeroMs, 5)) := by show _ = _; rw [HDE.out]; exact decT_tail HR0.out
                  have hb1 : decide (0 < rn) = true := decide_eq_true (by omega)
                  have hb2 : decide ((0 : Int) < (rn : Int)) = true := decide_eq_true (by omega)
                  clear hr0
                  go_wp2_with fail
                  refine wp_region_held_drew (S := fun wx => Below w7.heap.size w7 wx) (by kernel_rfl) ?_ (fun hHeld => ?_)
                  · exact below_drewN w7 1
                  refine wpAnyH_take (i := 0) (oi := ⟨some 47, _, _, _, _, _⟩) (v := ?_) rfl (by kernel_rfl) (by kernel_rfl) (by kernel_rfl) (fun c a w h => q_dec (by decide) _ c a w h) (Or.inl ⟨by rfl, ?_⟩) hHeld ?_
                  rotate_left
                  · intro w hSw; (try dsimp only at hSw); go_simp; all_goals (with_reducible rfl)
                  try simp only [Act.put, List.setIfInBounds_toArray, List.set_cons_zero, List.set_cons_succ]
                  refine wpAnyH_take (i := 1) (oi := ⟨some 48, _, _, _, _, _⟩) (v := ?_) rfl (by kernel_rfl) (by kernel_rfl) (by kernel_rfl) (fun c a w h => q_dec (by decide) _ c a w h) (Or.inl ⟨by rfl, ?_⟩) hHeld ?_
                  rotate_left
                  · intro w hSw; (try dsimp only at hSw); go_simp; all_goals (with_reducible rfl)
                  try simp only [Act.put, List.setIfInBounds_toArray, List.set_cons_zero, List.set_cons_succ]
                  refine wpAnyH_take (i := 2) (oi := ⟨some 49, _, _, _, _, _⟩) (v := ?_) rfl (by kernel_rfl) (by kernel_rfl) (by kernel_rfl) (fun c a w h => q_dec (by decide) _ c a w h) (Or.inl ⟨by rfl, ?_⟩) hHeld ?_
                  rotate_left
                  · intro w hSw; (try dsimp only at hSw); go_simp; all_goals (with_reducible rfl)
                  try simp only [Act.put, List.setIfInBounds_toArray, List.set_cons_zero, List.set_cons_succ]
                  refine wpAnyH_take (i := 3) (oi := ⟨some 50, _, _, _, _, _⟩) (v := ?_) rfl (by kernel_rfl) (by kernel_rfl) (by kernel_rfl) (fun c a w h => q_dec (by decide) _ c a w h) (Or.inl ⟨by rfl, ?_⟩) hHeld ?_
                  rotate_left
                  · intro w hSw; (try dsimp only at hSw); go_simp; all_goals (with_reducible rfl)
                  try simp only [Act.put, List.setIfInBounds_toArray, List.set_cons_zero, List.set_cons_succ]
                  refine wpAnyH_take (i := 4) (oi := ⟨some 51, _, _, _, _, _⟩) (v := ?_) rfl (by kernel_rfl) (by kernel_rfl) (by kernel_rfl) (fun c a w h => q_dec (by decide) _ c a w h) (Or.inl ⟨by rfl, ?_⟩) hHeld ?_
                  rotate_left
                  · intro w hSw; (try dsimp only at hSw); go_simp; all_goals (with_reducible rfl)
                  try simp only [Act.put, List.setIfInBounds_toArray, List.set_cons_zero, List.set_cons_succ]
                  refine wpAnyH_take (i := 5) (oi := ⟨some 52, _, _, _, _, _⟩) (v := ?_) rfl (by kernel_rfl) (by kernel_rfl) (by kernel_rfl) (fun c a w h => q_dec (by decide) _ c a w h) (Or.inl ⟨by rfl, ?_⟩) hHeld ?_
                  rotate_left
                  · intro w hSw; (try dsimp only at hSw); go_simp; all_goals (with_reducible rfl)
                  try simp only [Act.put, List.setIfInBounds_toArray, List.set_cons_zero, List.set_cons_succ]
                  refine wpAnyH_take (i := 6) (oi := ⟨some 53, _, _, _, _, _⟩) (v := ?_) rfl (by kernel_rfl) (by kernel_rfl) (by kernel_rfl) (fun c a w h => q_dec (by decide) _ c a w h) (Or.inl ⟨by rfl, ?_⟩) hHeld ?_
                  rotate_left
                  · intro w hSw; (try dsimp only at hSw); go_simp; all_goals (with_reducible rfl)
                  try simp only [Act.put, List.setIfInBounds_toArray, List.set_cons_zero, List.set_cons_succ]
                  refine wpAnyH_ready (rs := [7]) (by kernel_rfl) (by simp) ?_
                  refine AllReadyH.cons (o := ⟨some 54, _, _, _, _, _⟩) rfl (fun K hK => ?_) AllReadyH.nil
                  go_simp
                  refine (refuse_yes (H.out.rd.below (below_drewN w7 1)) 5).mono ?_
                  rintro e9 w5 ⟨⟨u, pu, rfl⟩, h1, h20⟩
                  have h2 : Ch (fun x => x = N + 2) w7 w5 := (Ch.of_below (below_drewN w7 1)).self h20
                  clear h20
                  refine leaves_cons (f := 33) (args := #[.pointer (some ⟨N + 3, 0, none⟩), .pointer (some ⟨N, 0, none⟩), .pointer (some ⟨N + 1, 0, none⟩)]) (by simp) (by simp [go_sem]) ?_
                  refine (catch_go u pu [] (h2.cell H.out.p (by simp)) h1 (H.out.mx.ch h2 (by simp)) (h2.cell H.out.x (by simp)) (by rw [h2.froz H.out.x (by simp) 0]; exact H.out.xz 0)).mono ?_
                  rintro e u' w'' ⟨rfl, rfl, hw9⟩
                  have HO := out_of (er := 5) H.out h2
                  rw [← hw9] at HO
                  have hm := HO.mx
                  have y0 := hm.c0; have y1 := hm.c1; have y2 := hm.c2; have y3 := hm.c3; have y4 := hm.c4; have y5 := hm.c5; have y6 := hm.c6; have y7 := hm.c7; have y8 := hm.c8
                  have x0 := HO.x
                  simp only [zeroMs] at y0 y1 y2 y3 y4 y5
                  have HBW : Hid (Below w.heap.size w w'') := by have h := HO.below; rw [HN.out] at h; exact h
                  clear hw9 HO hm h1 h2
                  exact ⟨_, by simp [results, Try.results14, go_sem, y0, y1, y2, y3, y4, y5, y6, y7, y8, x0], dgot_bad HDF.out HBW.out⟩
              · have HX : Hid ((keyD l5).1 ≠ 0) := hx
                rw [if_pos hx, decT_bad hx] at HDB
                clear hx
                go_wp2_with fail
                refine (keys_walk H.out.rd (by omega)).mono ?_
                rintro e9 w5 (⟨_, ⟨u, pu, rfl⟩, h1, h2⟩ | ⟨hgood, _⟩)
                · go_wp2_with fail
                  refine leaves_cons (f := 33) (args := #[.pointer (some ⟨N + 3, 0, none⟩), .pointer (some ⟨N, 0, none⟩), .pointer (some ⟨N + 1, 0, none⟩)]) (by simp) (by simp [go_sem]) ?_
                  refine (catch_go u pu [] (h2.cell H.out.p (by simp)) h1 (H.out.mx.ch h2 (by simp)) (h2.cell H.out.x (by simp)) (by rw [h2.froz H.out.x (by simp) 0]; exact H.out.xz 0)).mono ?_
                  rintro e u' w'' ⟨rfl, rfl, hw9⟩
                  have HO := out_of (er := (keyD l5).1) H.out h2
                  rw [← hw9] at HO
                  have hm := HO.mx
                  have y0 := hm.c0; have y1 := hm.c1; have y2 := hm.c2; have y3 := hm.c3; have y4 := hm.c4; have y5 := hm.c5; have y6 := hm.c6; have y7 := hm.c7; have y8 := hm.c8
                  have x0 := HO.x
                  simp only [zeroMs] at y0 y1 y2 y3 y4 y5
                  have HBW : Hid (Below w.heap.size w w'') := by have h := HO.below; rw [HN.out] at h; exact h
                  clear hw9 HO hm h1 h2
                  exact ⟨_, by simp [results, Try.results14, go_sem, y0, y1, y2, y3, y4, y5, y6, y7, y8, x0], dgot_bad HDB.out HBW.out⟩
                · exact absurd hgood HX.out
            · have HDB : Hid (decS l = decT (bodL ⟨G, F, T, B, A⟩ l5)) := HDE.out
              rw [bod_3 hf] at HDB
              go_wp2_with fail
              refine (asks_walk (G : Int) _).mono ?_
              rw [hf]
              rintro e9 w4 ⟨rfl, hw4⟩
              replace hw4 := hw4.symm
              subst hw4
              clear c0
              have p0 := H.out.p
              by_cases hx : (pairD l5).1 = 0
              · have HX : Hid ((pairD l5).1 = 0) := hx
                rw [if_neg (by simpa using hx)] at HDB
                have HPK : Hid (okT (pairD l5).2.1) := pairD_ok HL0.out hx
                clear hx
                go_wp2_with fail
                refine (pairs_walk H.out.rd (by omega)).mono ?_
                rintro e9 w5 (⟨hbad, _⟩ | ⟨_, y, rfl, ho, ⟨v5, hR5⟩, hC5⟩)
                · exact absurd HX.out hbad
                obtain ⟨l7, hl7⟩ : ∃ x, x = (pairD l5).2.2 := ⟨_, rfl⟩
                obtain ⟨q, hq⟩ : ∃ x, x = (pairD l5).2.1 := ⟨_, rfl⟩
                rw [← hl7, ← hq] at HDB
                rw [← hl7] at hR5
                rw [← hq] at ho HPK
                have H5 : Hid (DS N w w5 v5 l7 ⟨G, F, T, B, A, 0, [], [], []⟩ (.slice none 0 0) (.slice none 0 0) (.slice none 0 0)) := H.out.turn hR5 hC5
                have HO5 : Hid (w5.ownsRow (N + 2) 42 3 y q.length (flatQ q)) := own_baseC ho (by have := cell_lt H.out.p; simp only at this; omega)
                obtain ⟨ya, yn, yc, hy⟩ := qv_any (own_qv HO5.out HPK.out)
                subst hy
                have c0 := H5.out.mx.c8
                have z0 := H5.out.mx.z 8
                have HOX : ∀ u, (w5.setCell ⟨N, 8, none⟩ u).ownsRow (N + 2) 42 3 (.slice ya yn yc) q.length (flatQ q) := fun u => own_ch HO5.out (ch_set _ _ _ _) (fun x hx => by omega)
                have HOP : Hid ((w5.setCell ⟨N, 8, none⟩ (.slice ya yn yc)).ownsRow (N + 2) 42 3 (.slice ya yn yc) q.length (flatQ q)) := HOX _
                have H7 : Hid (DS N w (w5.setCell ⟨N, 8, none⟩ (.slice ya yn yc)) v5 l7 ⟨G, F, T, B, A, 0, [], [], q⟩ (.slice none 0 0) (.slice none 0 0) (.slice ya yn yc)) := ds_lists (H5.out.s8 (.slice ya yn yc) slice_notu8) _ _ _
                clear ho hR5 hC5 HO5 HOX H p0 H5 hl7 hq
                go_upto_region 17 with fail
                generalize w5.setCell ⟨N, 8, none⟩ (.slice ya yn yc) = w7 at H7 HOP ⊢
                clear c0 z0
                have H : Hid _ := H7.out
                clear H7
                clear HDE
                have HDE : Hid _ := HDB.out
                clear HDB
                have HMLF : Hid (∀ wx : World, wx.ownsRow (N + 2) 42 3 (.slice ya yn yc) q.length (flatQ q) → ML wx ⟨G, F, T, B, A, 0, [], [], q⟩ (.slice none 0 0) (.slice none 0 0) (.slice ya yn yc)) := fun wx h => ⟨Sv.nil _ _, kv_nil _, own_qv h HPK.out⟩
                obtain ⟨ra, rn, rc, hvv⟩ := bv_any H.out.rd.bv
                subst hvv
                obtain ⟨hln, _, _⟩ := bv_le H.out.rd.bv
                have HLNN : Hid (rn = l7.length) := hln
                clear hln
                have j0 : ∀ wx, Below w7.heap.size w7 wx → wx.cell? ⟨N + 3, 0, none⟩ = some (.pointer (some ⟨N + 2, 0, none⟩)) := fun wx hx => by rw [hx.cell (p := ⟨N + 3, 0, none⟩) (cell_lt H.out.p)]; exact H.out.p
                have j1 : ∀ wx, Below w7.heap.size w7 wx → wx.cell? ⟨N + 2, 0, none⟩ = some (.slice ra rn rc) := fun wx hx => by rw [hx.cell (p := ⟨N + 2, 0, none⟩) (cell_lt H.out.rd.c0)]; exact H.out.rd.c0
                by_cases hr0 : rn = 0
                · have HR0 : Hid (l7.length = 0) := by have := HLNN.out; show _ = _; omega
                  subst hr0
                  go_wp2_with fail
                  refine wp_region_noPanic ?_
                  refine wp_region_held_drew (S := fun wx => Below w7.heap.size w7 wx) (by kernel_rfl) ?_ (fun hHeld => ?_)
                  · exact below_drewN w7 1
                  refine wpAnyH_take (i := 0) (oi := ⟨some 47, _, _, _, _, _⟩) (v := ?_) rfl (by kernel_rfl) (by kernel_rfl) (by kernel_rfl) (fun _ _ _ h => h) (Or.inl ⟨by rfl, ?_⟩) hHeld ?_
                  rotate_left
                  · intro w hSw; (try dsimp only at hSw); go_simp; all_goals (with_reducible rfl)
                  try simp only [Act.put, List.setIfInBounds_toArray, List.set_cons_zero, List.set_cons_succ]
                  refine wpAnyH_take (i := 1) (oi := ⟨some 48, _, _, _, _, _⟩) (v := ?_) rfl (by kernel_rfl) (by kernel_rfl) (by kernel_rfl) (fun _ _ _ h => h) (Or.inl ⟨by rfl, ?_⟩) hHeld ?_
                  rotate_left
                  · intro w hSw; (try dsimp only at hSw); go_simp; all_goals (with_reducible rfl)
                  try simp only [Act.put, List.setIfInBounds_toArray, List.set_cons_zero, List.set_cons_succ]
                  refine wpAnyH_take (i := 2) (oi := ⟨some 49, _, _, _, _, _⟩) (v := ?_) rfl (by kernel_rfl) (by kernel_rfl) (by kernel_rfl) (fun _ _ _ h => h) (Or.inl ⟨by rfl, ?_⟩) hHeld ?_
                  rotate_left
                  · intro w hSw; (try dsimp only at hSw); go_simp; all_goals (with_reducible rfl)
                  try simp only [Act.put, List.setIfInBounds_toArray, List.set_cons_zero, List.set_cons_succ]
                  refine wpAnyH_take (i := 3) (oi := ⟨some 50, _, _, _, _, _⟩) (v := ?_) rfl (by kernel_rfl) (by kernel_rfl) (by kernel_rfl) (fun _ _ _ h => h) (Or.inl ⟨by rfl, ?_⟩) hHeld ?_
                  rotate_left
                  · intro w hSw; (try dsimp only at hSw); go_simp; all_goals (with_reducible rfl)
                  try simp only [Act.put, List.setIfInBounds_toArray, List.set_cons_zero, List.set_cons_succ]
                  refine wpAnyH_take (i := 4) (oi := ⟨some 51, _, _, _, _, _⟩) (v := ?_) rfl (by kernel_rfl) (by kernel_rfl) (by kernel_rfl) (fun _ _ _ h => h) (Or.inl ⟨by rfl, ?_⟩) hHeld ?_
                  rotate_left
                  · intro w hSw; (try dsimp only at hSw); go_simp; all_goals (with_reducible rfl)
                  try simp only [Act.put, List.setIfInBounds_toArray, List.set_cons_zero, List.set_cons_succ]
                  refine wpAnyH_take (i := 5) (oi := ⟨some 52, _, _, _, _, _⟩) (v := ?_) rfl (by kernel_rfl) (by kernel_rfl) (by kernel_rfl) (fun _ _ _ h => h) (Or.inl ⟨by rfl, ?_⟩) hHeld ?_
                  rotate_left
                  · intro w hSw; (try dsimp only at hSw); go_simp; all_goals (with_reducible rfl)
                  try simp only [Act.put, List.setIfInBounds_toArray, List.set_cons_zero, List.set_cons_succ]
                  refine wpAnyH_take (i := 6) (oi := ⟨some 53, _, _, _, _, _⟩) (v := ?_) rfl (by kernel_rfl) (by kernel_rfl) (by kernel_rfl) (fun _ _ _ h => h) (Or.inl ⟨by rfl, ?_⟩) hHeld ?_
                  rotate_left
                  · intro w hSw; (try dsimp only at hSw); go_simp; all_goals (with_reducible rfl)
                  try simp only [Act.put, List.setIfInBounds_toArray, List.set_cons_zero, List.set_cons_succ]
                  refine wpAnyH_ready (rs := [7]) (by kernel_rfl) (by simp) ?_
                  refine AllReadyH.cons (o := ⟨some 54, _, _, _, _, _⟩) rfl (fun K hK => ?_) AllReadyH.nil
                  go_simp
                  refine (refuse_no (N + 2) 5 _).mono ?_
                  rintro e9 w8 ⟨rfl, hw8⟩
                  refine hK.out _ _ ?_ (fun hHeld => ?_)
                  · exact (by rw [hw8]; exact below_drewN w7 1)
                  clear hK K
                  try simp only [Act.put, List.setIfInBounds_toArray, List.set_cons_zero, List.set_cons_succ]
                  refine wpAnyH_done (by kernel_rfl) ?_ _
                  refine NoPanic.normal ?_
                  have H8 : Hid (DS N w w8 (.slice ra 0 rc) l7 ⟨G, F, T, B, A, 0, [], [], q⟩ (.slice none 0 0) (.slice none 0 0) (.slice ya yn yc)) := H.out.old hHeld
                  have HOP8 : Hid _ := own_belowC HOP.out hHeld
                  clear hw8 hHeld j0 j1 H
                  have hMX := H8.out.mx
                  have j0 : ∀ wx, Below w8.heap.size w8 wx → wx.cell? ⟨N + 3, 0, none⟩ = some (.pointer (some ⟨N + 2, 0, none⟩)) := fun wx hx => by rw [hx.cell (p := ⟨N + 3, 0, none⟩) (cell_lt H8.out.p)]; exact H8.out.p
                  have k0 : ∀ wx, Below w8.heap.size w8 wx → wx.cell? ⟨N, 0, none⟩ = some (.int .i64 (G : Int)) := fun wx hx => (hMX.keep hx).c0
                  have k1 : ∀ wx, Below w8.heap.size w8 wx → wx.cell? ⟨N, 1, none⟩ = some (.int .i64 (F : Int)) := fun wx hx => (hMX.keep hx).c1
                  have k2 : ∀ wx, Below w8.heap.size w8 wx → wx.cell? ⟨N, 2, none⟩ = some (.int .i64 (T : Int)) := fun wx hx => (hMX.keep hx).c2
                  have k3 : ∀ wx, Below w8.heap.size w8 wx → wx.cell? ⟨N, 3, none⟩ = some (.int .i64 (B : Int)) := fun wx hx => (hMX.keep hx).c3
                  have k4 : ∀ wx, Below w8.heap.size w8 wx → wx.cell? ⟨N, 4, none⟩ = some (.int .i64 (A : Int)) := fun wx hx => (hMX.keep hx).c4
                  have k5 : ∀ wx, Below w8.heap.size w8 wx → wx.cell? ⟨N, 5, none⟩ = some (.int .i64 (0 : Int)) := fun wx hx => (hMX.keep hx).c5
                  have k6 : ∀ wx, Below w8.heap.size w8 wx → wx.cell? ⟨N, 6, none⟩ = some ((.slice none 0 0)) := fun wx hx => (hMX.keep hx).c6
                  have k7 : ∀ wx, Below w8.heap.size w8 wx → wx.cell? ⟨N, 7, none⟩ = some ((.slice none 0 0)) := fun wx hx => (hMX.keep hx).c7
                  have k8 : ∀ wx, Below w8.heap.size w8 wx → wx.cell? ⟨N, 8, none⟩ = some ((.slice ya yn yc)) := fun wx hx => (hMX.keep hx).c8
                  have HML : Hid (ML w8 ⟨G, F, T, B, A, 0, [], [], q⟩ (.slice none 0 0) (.slice none 0 0) (.slice ya yn yc)) := HMLF.out w8 HOP8.out
                  clear hMX
                  cases hs : sndM ⟨G, F, T, B, A, 0, [], [], q⟩
                  · have HDF : Hid (decS l = (zeroMs, 150)) := by show _ = _; rw [HDE.out]; exact decT_none HR0.out hs
                    go_wp2_with fail
                    refine wp_region_held_drew (S := fun wx => Below w8.heap.size w8 wx) (by kernel_rfl) ?_ (fun hHeld => ?_)
                    · exact below_drewN w8 1
                    refine wpAnyH_take (i := 0) (oi := ⟨some 55, _, _, _, _, _⟩) (v := ?_) rfl (by kernel_rfl) (by kernel_rfl) (by kernel_rfl) (fun c a w h => q_dec (by decide) _ c a w h) (Or.inl ⟨by rfl, ?_⟩) hHeld ?_
                    rotate_left
                    · intro w hSw; (try dsimp only at hSw); go_simp; all_goals (with_reducible rfl)
                    try simp only [Act.put, List.setIfInBounds_toArray, List.set_cons_zero, List.set_cons_succ]
                    refine wpAnyH_take (i := 1) (oi := ⟨some 56, _, _, _, _, _⟩) (v := ?_) rfl (by kernel_rfl) (by kernel_rfl) (by kernel_rfl) (fun c a w h => q_dec (by decide) _ c a w h) (Or.inl ⟨by rfl, ?_⟩) hHeld ?_
                    rotate_left
                    · intro w hSw; (try dsimp only at hSw); go_simp; all_goals (with_reducible rfl)
                    try simp only [Act.put, List.setIfInBounds_toArray, List.set_cons_zero, List.set_cons_succ]
                    refine wpAnyH_ready (rs := [2]) (by kernel_rfl) (by simp) ?_
                    refine AllReadyH.cons (o := ⟨some 57, _, _, _, _, _⟩) rfl (fun K hK => ?_) AllReadyH.nil
                    go_simp
                    refine (sound_walk (m := ⟨G, F, T, B, A, 0, [], [], q⟩) (HML.out.below (below_drewN w8 1))).mono ?_
                    rw [hs]
                    rintro e9 w9 ⟨rfl, hB9⟩
                    have HB9 : Hid (Below w8.heap.size w8 w9) := below_trans (below_drewN w8 1) hB9
                    clear hB9
                    refine hK.out _ _ ?_ (fun hHeld => ?_)
                    · exact HB9.out
                    clear hK K
                    try simp only [Act.put, List.setIfInBounds_toArray, List.set_cons_zero, List.set_cons_succ]
                    refine wpAnyH_take (i := 3) (oi := ⟨some 58, _, _, _, _, _⟩) (v := ?_) rfl (by kernel_rfl) (by kernel_rfl) (by kernel_rfl) (fun c a w h => q_dec (by decide) _ c a w h) (Or.inl ⟨by rfl, ?_⟩) hHeld ?_
                    rotate_left
                    · intro w hSw; (try dsimp only at hSw); go_simp; all_goals (with_reducible rfl)
                    try simp only [Act.put, List.setIfInBounds_toArray, List.set_cons_zero, List.set_cons_succ]
                    refine wpAnyH_ready (rs := [4]) (by kernel_rfl) (by simp) ?_
                    refine AllReadyH.cons (o := ⟨some 59, _, _, _, _, _⟩) rfl (fun K hK => ?_) AllReadyH.nil
                    go_simp
                    refine (refuse_yes (H8.out.rd.below HB9.out) 150).mono ?_
                    rintro e9 w5 ⟨⟨u, pu, rfl⟩, h1, h20⟩
                    have h2 : Ch (fun x => x = N + 2) w8 w5 := (Ch.of_below HB9.out).self h20
                    clear h20
                    have H : Hid _ := H8.out
                    refine leaves_cons (f := 33) (args := #[.pointer (some ⟨N + 3, 0, none⟩), .pointer (some ⟨N, 0, none⟩), .pointer (some ⟨N + 1, 0, none⟩)]) (by simp) (by simp [go_sem]) ?_
                    refine (catch_go u pu [] (h2.cell H.out.p (by simp)) h1 (H.out.mx.ch h2 (by simp)) (h2.cell H.out.x (by simp)) (by rw [h2.froz H.out.x (by simp) 0]; exact H.out.xz 0)).mono ?_
                    rintro e u' w'' ⟨rfl, rfl, hw9⟩
                    have HO := out_of (er := 150) H.out h2
                    rw [← hw9] at HO
                    have hm := HO.mx
                    have y0 := hm.c0; have y1 := hm.c1; have y2 := hm.c2; have y3 := hm.c3; have y4 := hm.c4; have y5 := hm.c5; have y6 := hm.c6; have y7 := hm.c7; have y8 := hm.c8
                    have x0 := HO.x
                    simp only [zeroMs] at y0 y1 y2 y3 y4 y5
                    have HBW : Hid (Below w.heap.size w w'') := by have h := HO.below; rw [HN.out] at h; exact h
                    clear hw9 HO hm h1 h2
                    exact ⟨_, by simp [results, Try.results14, go_sem, y0, y1, y2, y3, y4, y5, y6, y7, y8, x0], dgot_bad HDF.out HBW.out⟩
                  · have HDF : Hid (decS l = (⟨G, F, T, B, A, 0, [], [], q⟩, 0)) := by show _ = _; rw [HDE.out]; exact decT_ok HR0.out hs
                    go_wp2_with fail
                    refine wp_region_noPanic ?_
                    refine wp_region_held_drew (S := fun wx => Below w8.heap.size w8 wx) (by kernel_rfl) ?_ (fun hHeld => ?_)
                    · exact below_drewN w8 1
                    refine wpAnyH_take (i := 0) (oi := ⟨some 55, _, _, _, _, _⟩) (v := ?_) rfl (by kernel_rfl) (by kernel_rfl) (by kernel_rfl) (fun _ _ _ h => h) (Or.inl ⟨by rfl, ?_⟩) hHeld ?_
                    rotate_left
                    · intro w hSw; (try dsimp only at hSw); go_simp; all_goals (with_reducible rfl)
                    try simp only [Act.put, List.setIfInBounds_toArray, List.set_cons_zero, List.set_cons_succ]
                    refine wpAnyH_take (i := 1) (oi := ⟨some 56, _, _, _, _, _⟩) (v := ?_) rfl (by kernel_rfl) (by kernel_rfl) (by kernel_rfl) (fun _ _ _ h => h) (Or.inl ⟨by rfl, ?_⟩) hHeld ?_
                    rotate_left
                    · intro w hSw; (try dsimp only at hSw); go_simp; all_goals (with_reducible rfl)
                    try simp only [Act.put, List.setIfInBounds_toArray, List.set_cons_zero, List.set_cons_succ]
                    refine wpAnyH_ready (rs := [2]) (by kernel_rfl) (by simp) ?_
                    refine AllReadyH.cons (o := ⟨some 57, _, _, _, _, _⟩) rfl (fun K hK => ?_) AllReadyH.nil
                    go_simp
                    refine (sound_walk (m := ⟨G, F, T, B, A, 0, [], [], q⟩) (HML.out.below (below_drewN w8 1))).mono ?_
                    rw [hs]
                    rintro e9 w9 ⟨rfl, hB9⟩
                    have HB9 : Hid (Below w8.heap.size w8 w9) := below_trans (below_drewN w8 1) hB9
                    clear hB9
                    refine hK.out _ _ ?_ (fun hHeld => ?_)
                    · exact HB9.out
                    clear hK K
                    try simp only [Act.put, List.setIfInBounds_toArray, List.set_cons_zero, List.set_cons_succ]
                    refine wpAnyH_take (i := 3) (oi := ⟨some 58, _, _, _, _, _⟩) (v := ?_) rfl (by kernel_rfl) (by kernel_rfl) (by kernel_rfl) (fun _ _ _ h => h) (Or.inl ⟨by rfl, ?_⟩) hHeld ?_
                    rotate_left
                    · intro w hSw; (try dsimp only at hSw); go_simp; all_goals (with_reducible rfl)
                    try simp only [Act.put, List.setIfInBounds_toArray, List.set_cons_zero, List.set_cons_succ]
                    refine wpAnyH_ready (rs := [4]) (by kernel_rfl) (by simp) ?_
                    refine AllReadyH.cons (o := ⟨some 59, _, _, _, _, _⟩) rfl (fun K hK => ?_) AllReadyH.nil
                    go_simp
                    refine (refuse_no (N + 2) 150 _).mono ?_
                    rintro e9 wA ⟨rfl, hwA⟩
                    refine hK.out _ _ ?_ (fun hHeld => ?_)
                    · exact (by rw [hwA]; exact HB9.out)
                    clear hK K
                    try simp only [Act.put, List.setIfInBounds_toArray, List.set_cons_zero, List.set_cons_succ]
                    refine wpAnyH_done (by kernel_rfl) ?_ _
                    refine NoPanic.normal ?_
                    have HA : Hid (DS N w wA (.slice ra 0 rc) l7 ⟨G, F, T, B, A, 0, [], [], q⟩ (.slice none 0 0) (.slice none 0 0) (.slice ya yn yc)) := H8.out.old hHeld
                    have HOPA : Hid _ := own_belowC HOP8.out hHeld
                    clear hwA hHeld HB9 H8 j0 k0 k1 k2 k3 k4 k5 k6 k7 k8
                    have hm := HA.out.mx
                    have y0 : wA.cell? ⟨N, 0, none⟩ = some (.int .i64 (G : Int)) := hm.c0
                    have z0 := hm.z 0
                    have y1 : wA.cell? ⟨N, 1, none⟩ = some (.int .i64 (F : Int)) := hm.c1
                    have z1 := hm.z 1
                    have y2 : wA.cell? ⟨N, 2, none⟩ = some (.int .i64 (T : Int)) := hm.c2
                    have z2 := hm.z 2
                    have y3 : wA.cell? ⟨N, 3, none⟩ = some (.int .i64 (B : Int)) := hm.c3
                    have z3 := hm.z 3
                    have y4 : wA.cell? ⟨N, 4, none⟩ = some (.int .i64 (A : Int)) := hm.c4
                    have z4 := hm.z 4
                    have y5 : wA.cell? ⟨N, 5, none⟩ = some (.int .i64 (0 : Int)) := hm.c5
                    have z5 := hm.z 5
                    have y6 : wA.cell? ⟨N, 6, none⟩ = some ((.slice none 0 0)) := hm.c6
                    have z6 := hm.z 6
                    have y7 : wA.cell? ⟨N, 7, none⟩ = some ((.slice none 0 0)) := hm.c7
                    have z7 := hm.z 7
                    have y8 : wA.cell? ⟨N, 8, none⟩ = some ((.slice ya yn yc)) := hm.c8
                    have z8 := hm.z 8
                    have x0 := HA.out.x
                    have xz := HA.out.xz 0
                    have HM9 : Hid _ := hm.over ⟨G, F, T, B, A, 0, [], [], q⟩ (.slice none 0 0) (.slice none 0 0) (.slice ya yn yc)
                    have HC9 : Hid _ := ch_setM wA N ⟨G, F, T, B, A, 0, [], [], q⟩ (.slice none 0 0) (.slice none 0 0) (.slice ya yn yc)
                    clear hm
                    go_wp2_with fail
                    refine leaves_cons (f := 33) (args := #[.pointer (some ⟨N + 3, 0, none⟩), .pointer (some ⟨N, 0, none⟩), .pointer (some ⟨N + 1, 0, none⟩)]) (by simp) (by simp [go_sem]) ?_
                    refine (catch_idle _ _ _ _).mono ?_
                    rintro e u' w'' ⟨rfl, rfl, hw9⟩
                    replace hw9 : w'' = (setM wA N ⟨G, F, T, B, A, 0, [], [], q⟩ (.slice none 0 0) (.slice none 0 0) (.slice ya yn yc)).setCell ⟨N + 1, 0, none⟩ (.int .i64 0) := hw9
                    have q0 := (HC9.out.cell x0 (by simp))
                    have HM10 : MX w'' N ⟨G, F, T, B, A, 0, [], [], q⟩ (.slice none 0 0) (.slice none 0 0) (.slice ya yn yc) := by rw [hw9]; exact HM9.out.ch (ch_set _ _ _ _) (by simp)
                    have x10 : w''.cell? ⟨N + 1, 0, none⟩ = some (.int .i64 0) := by rw [hw9]; exact cell_own1 q0
                    have HC10 : Ch (fun x => x = N ∨ x = N + 1) wA w'' := by rw [hw9]; exact ch_two HC9.out (ch_set _ _ _ _)
                    have HBW : Hid (Below w.heap.size w w'') := by have h := HA.out.below.trans (HC10.to_below (Nat.le_of_lt (cell_lt HA.out.mx.c0)) (fun x hx => by omega)); rw [HN.out] at h; exact h
                    have u0 : w''.cell? ⟨N, 0, none⟩ = some (.int .i64 (G : Int)) := HM10.c0
                    have u1 : w''.cell? ⟨N, 1, none⟩ = some (.int .i64 (F : Int)) := HM10.c1
                    have u2 : w''.cell? ⟨N, 2, none⟩ = some (.int .i64 (T : Int)) := HM10.c2
                    have u3 : w''.cell? ⟨N, 3, none⟩ = some (.int .i64 (B : Int)) := HM10.c3
                    have u4 : w''.cell? ⟨N, 4, none⟩ = some (.int .i64 (A : Int)) := HM10.c4
                    have u5 : w''.cell? ⟨N, 5, none⟩ = some (.int .i64 (0 : Int)) := HM10.c5
                    have u6 : w''.cell? ⟨N, 6, none⟩ = some ((.slice none 0 0)) := HM10.c6
                    have u7 : w''.cell? ⟨N, 7, none⟩ = some ((.slice none 0 0)) := HM10.c7
                    have u8 : w''.cell? ⟨N, 8, none⟩ = some ((.slice ya yn yc)) := HM10.c8
                    have HOPB := own_ch HOPA.out HC10 (fun x hx => by omega)
                    clear hw9 HM10 HC10 q0 x0 xz y0 z0 y1 z1 y2 z2 y3 z3 y4 z4 y5 z5 y6 z6 y7 z7 y8 z8
                    exact ⟨_, by simp [results, Try.results14, go_sem, u0, u1, u2, u3, u4, u5, u6, u7, u8, x10], dgot_ok (ev := (.slice none 0 0)) (qv := (.slice none 0 0)) (pv := (.slice ya yn yc)) HDF.out (own_nil) (own_nil) (own_baseC HOPB (by have := HN.out; omega)) HBW.out⟩
                · have HR0 : Hid (l7.length ≠ 0) := by have := HLNN.out; show _ ≠ _; omega
                  have HDF : Hid (decS l = (zeroMs, 5)) := by show _ = _; rw [HDE.out]; exact decT_tail HR0.out
                  have hb1 : decide (0 < rn) = true := decide_eq_true (by omega)
                  have hb2 : decide ((0 : Int) < (rn : Int)) = true := decide_eq_true (by omega)
                  clear hr0
                  go_wp2_with fail
                  refine wp_region_held_drew (S := fun wx => Below w7.heap.size w7 wx) (by kernel_rfl) ?_ (fun hHeld => ?_)
                  · exact below_drewN w7 1
                  refine wpAnyH_take (i := 0) (oi := ⟨some 47, _, _, _, _, _⟩) (v := ?_) rfl (by kernel_rfl) (by kernel_rfl) (by kernel_rfl) (fun c a w h => q_dec (by decide) _ c a w h) (Or.inl ⟨by rfl, ?_⟩) hHeld ?_
                  rotate_left
                  · intro w hSw; (try dsimp only at hSw); go_simp; all_goals (with_reducible rfl)
                  try simp only [Act.put, List.setIfInBounds_toArray, List.set_cons_zero, List.set_cons_succ]
                  refine wpAnyH_take (i := 1) (oi := ⟨some 48, _, _, _, _, _⟩) (v := ?_) rfl (by kernel_rfl) (by kernel_rfl) (by kernel_rfl) (fun c a w h => q_dec (by decide) _ c a w h) (Or.inl ⟨by rfl, ?_⟩) hHeld ?_
                  rotate_left
                  · intro w hSw; (try dsimp only at hSw); go_simp; all_goals (with_reducible rfl)
                  try simp only [Act.put, List.setIfInBounds_toArray, List.set_cons_zero, List.set_cons_succ]
                  refine wpAnyH_take (i := 2) (oi := ⟨some 49, _, _, _, _, _⟩) (v := ?_) rfl (by kernel_rfl) (by kernel_rfl) (by kernel_rfl) (fun c a w h => q_dec (by decide) _ c a w h) (Or.inl ⟨by rfl, ?_⟩) hHeld ?_
                  rotate_left
                  · intro w hSw; (try dsimp only at hSw); go_simp; all_goals (with_reducible rfl)
                  try simp only [Act.put, List.setIfInBounds_toArray, List.set_cons_zero, List.set_cons_succ]
                  refine wpAnyH_take (i := 3) (oi := ⟨some 50, _, _, _, _, _⟩) (v := ?_) rfl (by kernel_rfl) (by kernel_rfl) (by kernel_rfl) (fun c a w h => q_dec (by decide) _ c a w h) (Or.inl ⟨by rfl, ?_⟩) hHeld ?_
                  rotate_left
                  · intro w hSw; (try dsimp only at hSw); go_simp; all_goals (with_reducible rfl)
                  try simp only [Act.put, List.setIfInBounds_toArray, List.set_cons_zero, List.set_cons_succ]
                  refine wpAnyH_take (i := 4) (oi := ⟨some 51, _, _, _, _, _⟩) (v := ?_) rfl (by kernel_rfl) (by kernel_rfl) (by kernel_rfl) (fun c a w h => q_dec (by decide) _ c a w h) (Or.inl ⟨by rfl, ?_⟩) hHeld ?_
                  rotate_left
                  · intro w hSw; (try dsimp only at hSw); go_simp; all_goals (with_reducible rfl)
                  try simp only [Act.put, List.setIfInBounds_toArray, List.set_cons_zero, List.set_cons_succ]
                  refine wpAnyH_take (i := 5) (oi := ⟨some 52, _, _, _, _, _⟩) (v := ?_) rfl (by kernel_rfl) (by kernel_rfl) (by kernel_rfl) (fun c a w h => q_dec (by decide) _ c a w h) (Or.inl ⟨by rfl, ?_⟩) hHeld ?_
                  rotate_left
                  · intro w hSw; (try dsimp only at hSw); go_simp; all_goals (with_reducible rfl)
                  try simp only [Act.put, List.setIfInBounds_toArray, List.set_cons_zero, List.set_cons_succ]
                  refine wpAnyH_take (i := 6) (oi := ⟨some 53, _, _, _, _, _⟩) (v := ?_) rfl (by kernel_rfl) (by kernel_rfl) (by kernel_rfl) (fun c a w h => q_dec (by decide) _ c a w h) (Or.inl ⟨by rfl, ?_⟩) hHeld ?_
                  rotate_left
                  · intro w hSw; (try dsimp only at hSw); go_simp; all_goals (with_reducible rfl)
                  try simp only [Act.put, List.setIfInBounds_toArray, List.set_cons_zero, List.set_cons_succ]
                  refine wpAnyH_ready (rs := [7]) (by kernel_rfl) (by simp) ?_
                  refine AllReadyH.cons (o := ⟨some 54, _, _, _, _, _⟩) rfl (fun K hK => ?_) AllReadyH.nil
                  go_simp
                  refine (refuse_yes (H.out.rd.below (below_drewN w7 1)) 5).mono ?_
                  rintro e9 w5 ⟨⟨u, pu, rfl⟩, h1, h20⟩
                  have h2 : Ch (fun x => x = N + 2) w7 w5 := (Ch.of_below (below_drewN w7 1)).self h20
                  clear h20
                  refine leaves_cons (f := 33) (args := #[.pointer (some ⟨N + 3, 0, none⟩), .pointer (some ⟨N, 0, none⟩), .pointer (some ⟨N + 1, 0, none⟩)]) (by simp) (by simp [go_sem]) ?_
                  refine (catch_go u pu [] (h2.cell H.out.p (by simp)) h1 (H.out.mx.ch h2 (by simp)) (h2.cell H.out.x (by simp)) (by rw [h2.froz H.out.x (by simp) 0]; exact H.out.xz 0)).mono ?_
                  rintro e u' w'' ⟨rfl, rfl, hw9⟩
                  have HO := out_of (er := 5) H.out h2
                  rw [← hw9] at HO
                  have hm := HO.mx
                  have y0 := hm.c0; have y1 := hm.c1; have y2 := hm.c2; have y3 := hm.c3; have y4 := hm.c4; have y5 := hm.c5; have y6 := hm.c6; have y7 := hm.c7; have y8 := hm.c8
                  have x0 := HO.x
                  simp only [zeroMs] at y0 y1 y2 y3 y4 y5
                  have HBW : Hid (Below w.heap.size w w'') := by have h := HO.below; rw [HN.out] at h; exact h
                  clear hw9 HO hm h1 h2
                  exact ⟨_, by simp [results, Try.results14, go_sem, y0, y1, y2, y3, y4, y5, y6, y7, y8, x0], dgot_bad HDF.out HBW.out⟩
              · have HX : Hid ((pairD l5).1 ≠ 0) := hx
                rw [if_pos hx, decT_bad hx] at HDB
                clear hx
                go_wp2_with fail
                refine (pairs_walk H.out.rd (by omega)).mono ?_
                rintro e9 w5 (⟨_, ⟨u, pu, rfl⟩, h1, h2⟩ | ⟨hgood, _⟩)
                · go_wp2_with fail
                  refine leaves_cons (f := 33) (args := #[.pointer (some ⟨N + 3, 0, none⟩), .pointer (some ⟨N, 0, none⟩), .pointer (some ⟨N + 1, 0, none⟩)]) (by simp) (by simp [go_sem]) ?_
                  refine (catch_go u pu [] (h2.cell H.out.p (by simp)) h1 (H.out.mx.ch h2 (by simp)) (h2.cell H.out.x (by simp)) (by rw [h2.froz H.out.x (by simp) 0]; exact H.out.xz 0)).mono ?_
                  rintro e u' w'' ⟨rfl, rfl, hw9⟩
                  have HO := out_of (er := (pairD l5).1) H.out h2
                  rw [← hw9] at HO
                  have hm := HO.mx
                  have y0 := hm.c0; have y1 := hm.c1; have y2 := hm.c2; have y3 := hm.c3; have y4 := hm.c4; have y5 := hm.c5; have y6 := hm.c6; have y7 := hm.c7; have y8 := hm.c8
                  have x0 := HO.x
                  simp only [zeroMs] at y0 y1 y2 y3 y4 y5
                  have HBW : Hid (Below w.heap.size w w'') := by have h := HO.below; rw [HN.out] at h; exact h
                  clear hw9 HO hm h1 h2
                  exact ⟨_, by simp [results, Try.results14, go_sem, y0, y1, y2, y3, y4, y5, y6, y7, y8, x0], dgot_bad HDB.out HBW.out⟩
                · exact absurd hgood HX.out
            · have HDB : Hid (decS l = decT (bodL ⟨G, F, T, B, A⟩ l5)) := HDE.out
              rw [bod_4 hf] at HDB
              go_wp2_with fail
              refine (asks_walk (G : Int) _).mono ?_
              rw [hf]
              rintro e9 w4 ⟨rfl, hw4⟩
              replace hw4 := hw4.symm
              subst hw4
              clear c0
              have p0 := H.out.p
              by_cases hx : (cntL l5).1 = 0
              · have HX : Hid ((cntL l5).1 = 0) := hx
                rw [if_neg (by simpa using hx)] at HDB
                clear hx
                go_wp2_with fail
                refine (count_ok H.out.rd HX.out).mono ?_
                rintro e9 w5 ⟨rfl, ⟨v5, hR5⟩, hC5⟩
                obtain ⟨l7, hl7⟩ : ∃ x, x = (cntL l5).2.2 := ⟨_, rfl⟩
                obtain ⟨C, hq⟩ : ∃ x, x = (cntL l5).2.1 := ⟨_, rfl⟩
                rw [← hl7, ← hq] at HDB
                rw [← hl7] at hR5
                rw [← hq]
                have H5 : Hid (DS N w w5 v5 l7 ⟨G, F, T, B, A, 0, [], [], []⟩ (.slice none 0 0) (.slice none 0 0) (.slice none 0 0)) := H.out.turn hR5 hC5
                have c0 := H5.out.mx.c5
                have z0 := H5.out.mx.z 5
                have H7 : Hid (DS N w (w5.setCell ⟨N, 5, none⟩ (.int .i64 (C : Int))) v5 l7 ⟨G, F, T, B, A, C, [], [], []⟩ (.slice none 0 0) (.slice none 0 0) (.slice none 0 0)) := H5.out.s5 _
                clear hR5 hC5 H p0 H5 hl7 hq
                go_upto_region 17 with fail
                generalize w5.setCell ⟨N, 5, none⟩ (.int .i64 (C : Int)) = w7 at H7 ⊢
                clear c0 z0
                have H : Hid _ := H7.out
                clear H7
                clear HDE
                have HDE : Hid _ := HDB.out
                clear HDB
                have HMLF : Hid (∀ wx : World, ML wx ⟨G, F, T, B, A, C, [], [], []⟩ (.slice none 0 0) (.slice none 0 0) (.slice none 0 0)) := fun wx => ⟨Sv.nil _ _, kv_nil _, qv_nil _⟩
                obtain ⟨ra, rn, rc, hvv⟩ := bv_any H.out.rd.bv
                subst hvv
                obtain ⟨hln, _, _⟩ := bv_le H.out.rd.bv
                have HLNN : Hid (rn = l7.length) := hln
                clear hln
                have j0 : ∀ wx, Below w7.heap.size w7 wx → wx.cell? ⟨N + 3, 0, none⟩ = some (.pointer (some ⟨N + 2, 0, none⟩)) := fun wx hx => by rw [hx.cell (p := ⟨N + 3, 0, none⟩) (cell_lt H.out.p)]; exact H.out.p
                have j1 : ∀ wx, Below w7.heap.size w7 wx → wx.cell? ⟨N + 2, 0, none⟩ = some (.slice ra rn rc) := fun wx hx => by rw [hx.cell (p := ⟨N + 2, 0, none⟩) (cell_lt H.out.rd.c0)]; exact H.out.rd.c0
                by_cases hr0 : rn = 0
                · have HR0 : Hid (l7.length = 0) := by have := HLNN.out; show _ = _; omega
                  subst hr0
                  go_wp2_with fail
                  refine wp_region_noPanic ?_
                  refine wp_region_held_drew (S := fun wx => Below w7.heap.size w7 wx) (by kernel_rfl) ?_ (fun hHeld => ?_)
                  · exact below_drewN w7 1
                  refine wpAnyH_take (i := 0) (oi := ⟨some 47, _, _, _, _, _⟩) (v := ?_) rfl (by kernel_rfl) (by kernel_rfl) (by kernel_rfl) (fun _ _ _ h => h) (Or.inl ⟨by rfl, ?_⟩) hHeld ?_
                  rotate_left
                  · intro w hSw; (try dsimp only at hSw); go_simp; all_goals (with_reducible rfl)
                  try simp only [Act.put, List.setIfInBounds_toArray, List.set_cons_zero, List.set_cons_succ]
                  refine wpAnyH_take (i := 1) (oi := ⟨some 48, _, _, _, _, _⟩) (v := ?_) rfl (by kernel_rfl) (by kernel_rfl) (by kernel_rfl) (fun _ _ _ h => h) (Or.inl ⟨by rfl, ?_⟩) hHeld ?_
                  rotate_left
                  · intro w hSw; (try dsimp only at hSw); go_simp; all_goals (with_reducible rfl)
                  try simp only [Act.put, List.setIfInBounds_toArray, List.set_cons_zero, List.set_cons_succ]
                  refine wpAnyH_take (i := 2) (oi := ⟨some 49, _, _, _, _, _⟩) (v := ?_) rfl (by kernel_rfl) (by kernel_rfl) (by kernel_rfl) (fun _ _ _ h => h) (Or.inl ⟨by rfl, ?_⟩) hHeld ?_
                  rotate_left
                  · intro w hSw; (try dsimp only at hSw); go_simp; all_goals (with_reducible rfl)
                  try simp only [Act.put, List.setIfInBounds_toArray, List.set_cons_zero, List.set_cons_succ]
                  refine wpAnyH_take (i := 3) (oi := ⟨some 50, _, _, _, _, _⟩) (v := ?_) rfl (by kernel_rfl) (by kernel_rfl) (by kernel_rfl) (fun _ _ _ h => h) (Or.inl ⟨by rfl, ?_⟩) hHeld ?_
                  rotate_left
                  · intro w hSw; (try dsimp only at hSw); go_simp; all_goals (with_reducible rfl)
                  try simp only [Act.put, List.setIfInBounds_toArray, List.set_cons_zero, List.set_cons_succ]
                  refine wpAnyH_take (i := 4) (oi := ⟨some 51, _, _, _, _, _⟩) (v := ?_) rfl (by kernel_rfl) (by kernel_rfl) (by kernel_rfl) (fun _ _ _ h => h) (Or.inl ⟨by rfl, ?_⟩) hHeld ?_
                  rotate_left
                  · intro w hSw; (try dsimp only at hSw); go_simp; all_goals (with_reducible rfl)
                  try simp only [Act.put, List.setIfInBounds_toArray, List.set_cons_zero, List.set_cons_succ]
                  refine wpAnyH_take (i := 5) (oi := ⟨some 52, _, _, _, _, _⟩) (v := ?_) rfl (by kernel_rfl) (by kernel_rfl) (by kernel_rfl) (fun _ _ _ h => h) (Or.inl ⟨by rfl, ?_⟩) hHeld ?_
                  rotate_left
                  · intro w hSw; (try dsimp only at hSw); go_simp; all_goals (with_reducible rfl)
                  try simp only [Act.put, List.setIfInBounds_toArray, List.set_cons_zero, List.set_cons_succ]
                  refine wpAnyH_take (i := 6) (oi := ⟨some 53, _, _, _, _, _⟩) (v := ?_) rfl (by kernel_rfl) (by kernel_rfl) (by kernel_rfl) (fun _ _ _ h => h) (Or.inl ⟨by rfl, ?_⟩) hHeld ?_
                  rotate_left
                  · intro w hSw; (try dsimp only at hSw); go_simp; all_goals (with_reducible rfl)
                  try simp only [Act.put, List.setIfInBounds_toArray, List.set_cons_zero, List.set_cons_succ]
                  refine wpAnyH_ready (rs := [7]) (by kernel_rfl) (by simp) ?_
                  refine AllReadyH.cons (o := ⟨some 54, _, _, _, _, _⟩) rfl (fun K hK => ?_) AllReadyH.nil
                  go_simp
                  refine (refuse_no (N + 2) 5 _).mono ?_
                  rintro e9 w8 ⟨rfl, hw8⟩
                  refine hK.out _ _ ?_ (fun hHeld => ?_)
                  · exact (by rw [hw8]; exact below_drewN w7 1)
                  clear hK K
                  try simp only [Act.put, List.setIfInBounds_toArray, List.set_cons_zero, List.set_cons_succ]
                  refine wpAnyH_done (by kernel_rfl) ?_ _
                  refine NoPanic.normal ?_
                  have H8 : Hid (DS N w w8 (.slice ra 0 rc) l7 ⟨G, F, T, B, A, C, [], [], []⟩ (.slice none 0 0) (.slice none 0 0) (.slice none 0 0)) := H.out.old hHeld
                  clear hw8 hHeld j0 j1 H
                  have hMX := H8.out.mx
                  have j0 : ∀ wx, Below w8.heap.size w8 wx → wx.cell? ⟨N + 3, 0, none⟩ = some (.pointer (some ⟨N + 2, 0, none⟩)) := fun wx hx => by rw [hx.cell (p := ⟨N + 3, 0, none⟩) (cell_lt H8.out.p)]; exact H8.out.p
                  have k0 : ∀ wx, Below w8.heap.size w8 wx → wx.cell? ⟨N, 0, none⟩ = some (.int .i64 (G : Int)) := fun wx hx => (hMX.keep hx).c0
                  have k1 : ∀ wx, Below w8.heap.size w8 wx → wx.cell? ⟨N, 1, none⟩ = some (.int .i64 (F : Int)) := fun wx hx => (hMX.keep hx).c1
                  have k2 : ∀ wx, Below w8.heap.size w8 wx → wx.cell? ⟨N, 2, none⟩ = some (.int .i64 (T : Int)) := fun wx hx => (hMX.keep hx).c2
                  have k3 : ∀ wx, Below w8.heap.size w8 wx → wx.cell? ⟨N, 3, none⟩ = some (.int .i64 (B : Int)) := fun wx hx => (hMX.keep hx).c3
                  have k4 : ∀ wx, Below w8.heap.size w8 wx → wx.cell? ⟨N, 4, none⟩ = some (.int .i64 (A : Int)) := fun wx hx => (hMX.keep hx).c4
                  have k5 : ∀ wx, Below w8.heap.size w8 wx → wx.cell? ⟨N, 5, none⟩ = some (.int .i64 (C : Int)) := fun wx hx => (hMX.keep hx).c5
                  have k6 : ∀ wx, Below w8.heap.size w8 wx → wx.cell? ⟨N, 6, none⟩ = some ((.slice none 0 0)) := fun wx hx => (hMX.keep hx).c6
                  have k7 : ∀ wx, Below w8.heap.size w8 wx → wx.cell? ⟨N, 7, none⟩ = some ((.slice none 0 0)) := fun wx hx => (hMX.keep hx).c7
                  have k8 : ∀ wx, Below w8.heap.size w8 wx → wx.cell? ⟨N, 8, none⟩ = some ((.slice none 0 0)) := fun wx hx => (hMX.keep hx).c8
                  have HML : Hid (ML w8 ⟨G, F, T, B, A, C, [], [], []⟩ (.slice none 0 0) (.slice none 0 0) (.slice none 0 0)) := HMLF.out w8 
                  clear hMX
                  cases hs : sndM ⟨G, F, T, B, A, C, [], [], []⟩
                  · have HDF : Hid (decS l = (zeroMs, 150)) := by show _ = _; rw [HDE.out]; exact decT_none HR0.out hs
                    go_wp2_with fail
                    refine wp_region_held_drew (S := fun wx => Below w8.heap.size w8 wx) (by kernel_rfl) ?_ (fun hHeld => ?_)
                    · exact below_drewN w8 1
                    refine wpAnyH_take (i := 0) (oi := ⟨some 55, _, _, _, _, _⟩) (v := ?_) rfl (by kernel_rfl) (by kernel_rfl) (by kernel_rfl) (fun c a w h => q_dec (by decide) _ c a w h) (Or.inl ⟨by rfl, ?_⟩) hHeld ?_
                    rotate_left
                    · intro w hSw; (try dsimp only at hSw); go_simp; all_goals (with_reducible rfl)
                    try simp only [Act.put, List.setIfInBounds_toArray, List.set_cons_zero, List.set_cons_succ]
                    refine wpAnyH_take (i := 1) (oi := ⟨some 56, _, _, _, _, _⟩) (v := ?_) rfl (by kernel_rfl) (by kernel_rfl) (by kernel_rfl) (fun c a w h => q_dec (by decide) _ c a w h) (Or.inl ⟨by rfl, ?_⟩) hHeld ?_
                    rotate_left
                    · intro w hSw; (try dsimp only at hSw); go_simp; all_goals (with_reducible rfl)
                    try simp only [Act.put, List.setIfInBounds_toArray, List.set_cons_zero, List.set_cons_succ]
                    refine wpAnyH_ready (rs := [2]) (by kernel_rfl) (by simp) ?_
                    refine AllReadyH.cons (o := ⟨some 57, _, _, _, _, _⟩) rfl (fun K hK => ?_) AllReadyH.nil
                    go_simp
                    refine (sound_walk (m := ⟨G, F, T, B, A, C, [], [], []⟩) (HML.out.below (below_drewN w8 1))).mono ?_
                    rw [hs]
                    rintro e9 w9 ⟨rfl, hB9⟩
                    have HB9 : Hid (Below w8.heap.size w8 w9) := below_trans (below_drewN w8 1) hB9
                    clear hB9
                    refine hK.out _ _ ?_ (fun hHeld => ?_)
                    · exact HB9.out
                    clear hK K
                    try simp only [Act.put, List.setIfInBounds_toArray, List.set_cons_zero, List.set_cons_succ]
                    refine wpAnyH_take (i := 3) (oi := ⟨some 58, _, _, _, _, _⟩) (v := ?_) rfl (by kernel_rfl) (by kernel_rfl) (by kernel_rfl) (fun c a w h => q_dec (by decide) _ c a w h) (Or.inl ⟨by rfl, ?_⟩) hHeld ?_
                    rotate_left
                    · intro w hSw; (try dsimp only at hSw); go_simp; all_goals (with_reducible rfl)
                    try simp only [Act.put, List.setIfInBounds_toArray, List.set_cons_zero, List.set_cons_succ]
                    refine wpAnyH_ready (rs := [4]) (by kernel_rfl) (by simp) ?_
                    refine AllReadyH.cons (o := ⟨some 59, _, _, _, _, _⟩) rfl (fun K hK => ?_) AllReadyH.nil
                    go_simp
                    refine (refuse_yes (H8.out.rd.below HB9.out) 150).mono ?_
                    rintro e9 w5 ⟨⟨u, pu, rfl⟩, h1, h20⟩
                    have h2 : Ch (fun x => x = N + 2) w8 w5 := (Ch.of_below HB9.out).self h20
                    clear h20
                    have H : Hid _ := H8.out
                    refine leaves_cons (f := 33) (args := #[.pointer (some ⟨N + 3, 0, none⟩), .pointer (some ⟨N, 0, none⟩), .pointer (some ⟨N + 1, 0, none⟩)]) (by simp) (by simp [go_sem]) ?_
                    refine (catch_go u pu [] (h2.cell H.out.p (by simp)) h1 (H.out.mx.ch h2 (by simp)) (h2.cell H.out.x (by simp)) (by rw [h2.froz H.out.x (by simp) 0]; exact H.out.xz 0)).mono ?_
                    rintro e u' w'' ⟨rfl, rfl, hw9⟩
                    have HO := out_of (er := 150) H.out h2
                    rw [← hw9] at HO
                    have hm := HO.mx
                    have y0 := hm.c0; have y1 := hm.c1; have y2 := hm.c2; have y3 := hm.c3; have y4 := hm.c4; have y5 := hm.c5; have y6 := hm.c6; have y7 := hm.c7; have y8 := hm.c8
                    have x0 := HO.x
                    simp only [zeroMs] at y0 y1 y2 y3 y4 y5
                    have HBW : Hid (Below w.heap.size w w'') := by have h := HO.below; rw [HN.out] at h; exact h
                    clear hw9 HO hm h1 h2
                    exact ⟨_, by simp [results, Try.results14, go_sem, y0, y1, y2, y3, y4, y5, y6, y7, y8, x0], dgot_bad HDF.out HBW.out⟩
                  · have HDF : Hid (decS l = (⟨G, F, T, B, A, C, [], [], []⟩, 0)) := by show _ = _; rw [HDE.out]; exact decT_ok HR0.out hs
                    go_wp2_with fail
                    refine wp_region_noPanic ?_
                    refine wp_region_held_drew (S := fun wx => Below w8.heap.size w8 wx) (by kernel_rfl) ?_ (fun hHeld => ?_)
                    · exact below_drewN w8 1
                    refine wpAnyH_take (i := 0) (oi := ⟨some 55, _, _, _, _, _⟩) (v := ?_) rfl (by kernel_rfl) (by kernel_rfl) (by kernel_rfl) (fun _ _ _ h => h) (Or.inl ⟨by rfl, ?_⟩) hHeld ?_
                    rotate_left
                    · intro w hSw; (try dsimp only at hSw); go_simp; all_goals (with_reducible rfl)
                    try simp only [Act.put, List.setIfInBounds_toArray, List.set_cons_zero, List.set_cons_succ]
                    refine wpAnyH_take (i := 1) (oi := ⟨some 56, _, _, _, _, _⟩) (v := ?_) rfl (by kernel_rfl) (by kernel_rfl) (by kernel_rfl) (fun _ _ _ h => h) (Or.inl ⟨by rfl, ?_⟩) hHeld ?_
                    rotate_left
                    · intro w hSw; (try dsimp only at hSw); go_simp; all_goals (with_reducible rfl)
                    try simp only [Act.put, List.setIfInBounds_toArray, List.set_cons_zero, List.set_cons_succ]
                    refine wpAnyH_ready (rs := [2]) (by kernel_rfl) (by simp) ?_
                    refine AllReadyH.cons (o := ⟨some 57, _, _, _, _, _⟩) rfl (fun K hK => ?_) AllReadyH.nil
                    go_simp
                    refine (sound_walk (m := ⟨G, F, T, B, A, C, [], [], []⟩) (HML.out.below (below_drewN w8 1))).mono ?_
                    rw [hs]
                    rintro e9 w9 ⟨rfl, hB9⟩
                    have HB9 : Hid (Below w8.heap.size w8 w9) := below_trans (below_drewN w8 1) hB9
                    clear hB9
                    refine hK.out _ _ ?_ (fun hHeld => ?_)
                    · exact HB9.out
                    clear hK K
                    try simp only [Act.put, List.setIfInBounds_toArray, List.set_cons_zero, List.set_cons_succ]
                    refine wpAnyH_take (i := 3) (oi := ⟨some 58, _, _, _, _, _⟩) (v := ?_) rfl (by kernel_rfl) (by kernel_rfl) (by kernel_rfl) (fun _ _ _ h => h) (Or.inl ⟨by rfl, ?_⟩) hHeld ?_
                    rotate_left
                    · intro w hSw; (try dsimp only at hSw); go_simp; all_goals (with_reducible rfl)
                    try simp only [Act.put, List.setIfInBounds_toArray, List.set_cons_zero, List.set_cons_succ]
                    refine wpAnyH_ready (rs := [4]) (by kernel_rfl) (by simp) ?_
                    refine AllReadyH.cons (o := ⟨some 59, _, _, _, _, _⟩) rfl (fun K hK => ?_) AllReadyH.nil
                    go_simp
                    refine (refuse_no (N + 2) 150 _).mono ?_
                    rintro e9 wA ⟨rfl, hwA⟩
                    refine hK.out _ _ ?_ (fun hHeld => ?_)
                    · exact (by rw [hwA]; exact HB9.out)
                    clear hK K
                    try simp only [Act.put, List.setIfInBounds_toArray, List.set_cons_zero, List.set_cons_succ]
                    refine wpAnyH_done (by kernel_rfl) ?_ _
                    refine NoPanic.normal ?_
                    have HA : Hid (DS N w wA (.slice ra 0 rc) l7 ⟨G, F, T, B, A, C, [], [], []⟩ (.slice none 0 0) (.slice none 0 0) (.slice none 0 0)) := H8.out.old hHeld
                    clear hwA hHeld HB9 H8 j0 k0 k1 k2 k3 k4 k5 k6 k7 k8
                    have hm := HA.out.mx
                    have y0 : wA.cell? ⟨N, 0, none⟩ = some (.int .i64 (G : Int)) := hm.c0
                    have z0 := hm.z 0
                    have y1 : wA.cell? ⟨N, 1, none⟩ = some (.int .i64 (F : Int)) := hm.c1
                    have z1 := hm.z 1
                    have y2 : wA.cell? ⟨N, 2, none⟩ = some (.int .i64 (T : Int)) := hm.c2
                    have z2 := hm.z 2
                    have y3 : wA.cell? ⟨N, 3, none⟩ = some (.int .i64 (B : Int)) := hm.c3
                    have z3 := hm.z 3
                    have y4 : wA.cell? ⟨N, 4, none⟩ = some (.int .i64 (A : Int)) := hm.c4
                    have z4 := hm.z 4
                    have y5 : wA.cell? ⟨N, 5, none⟩ = some (.int .i64 (C : Int)) := hm.c5
                    have z5 := hm.z 5
                    have y6 : wA.cell? ⟨N, 6, none⟩ = some ((.slice none 0 0)) := hm.c6
                    have z6 := hm.z 6
                    have y7 : wA.cell? ⟨N, 7, none⟩ = some ((.slice none 0 0)) := hm.c7
                    have z7 := hm.z 7
                    have y8 : wA.cell? ⟨N, 8, none⟩ = some ((.slice none 0 0)) := hm.c8
                    have z8 := hm.z 8
                    have x0 := HA.out.x
                    have xz := HA.out.xz 0
                    have HM9 : Hid _ := hm.over ⟨G, F, T, B, A, C, [], [], []⟩ (.slice none 0 0) (.slice none 0 0) (.slice none 0 0)
                    have HC9 : Hid _ := ch_setM wA N ⟨G, F, T, B, A, C, [], [], []⟩ (.slice none 0 0) (.slice none 0 0) (.slice none 0 0)
                    clear hm
                    go_wp2_with fail
                    refine leaves_cons (f := 33) (args := #[.pointer (some ⟨N + 3, 0, none⟩), .pointer (some ⟨N, 0, none⟩), .pointer (some ⟨N + 1, 0, none⟩)]) (by simp) (by simp [go_sem]) ?_
                    refine (catch_idle _ _ _ _).mono ?_
                    rintro e u' w'' ⟨rfl, rfl, hw9⟩
                    replace hw9 : w'' = (setM wA N ⟨G, F, T, B, A, C, [], [], []⟩ (.slice none 0 0) (.slice none 0 0) (.slice none 0 0)).setCell ⟨N + 1, 0, none⟩ (.int .i64 0) := hw9
                    have q0 := (HC9.out.cell x0 (by simp))
                    have HM10 : MX w'' N ⟨G, F, T, B, A, C, [], [], []⟩ (.slice none 0 0) (.slice none 0 0) (.slice none 0 0) := by rw [hw9]; exact HM9.out.ch (ch_set _ _ _ _) (by simp)
                    have x10 : w''.cell? ⟨N + 1, 0, none⟩ = some (.int .i64 0) := by rw [hw9]; exact cell_own1 q0
                    have HC10 : Ch (fun x => x = N ∨ x = N + 1) wA w'' := by rw [hw9]; exact ch_two HC9.out (ch_set _ _ _ _)
                    have HBW : Hid (Below w.heap.size w w'') := by have h := HA.out.below.trans (HC10.to_below (Nat.le_of_lt (cell_lt HA.out.mx.c0)) (fun x hx => by omega)); rw [HN.out] at h; exact h
                    have u0 : w''.cell? ⟨N, 0, none⟩ = some (.int .i64 (G : Int)) := HM10.c0
                    have u1 : w''.cell? ⟨N, 1, none⟩ = some (.int .i64 (F : Int)) := HM10.c1
                    have u2 : w''.cell? ⟨N, 2, none⟩ = some (.int .i64 (T : Int)) := HM10.c2
                    have u3 : w''.cell? ⟨N, 3, none⟩ = some (.int .i64 (B : Int)) := HM10.c3
                    have u4 : w''.cell? ⟨N, 4, none⟩ = some (.int .i64 (A : Int)) := HM10.c4
                    have u5 : w''.cell? ⟨N, 5, none⟩ = some (.int .i64 (C : Int)) := HM10.c5
                    have u6 : w''.cell? ⟨N, 6, none⟩ = some ((.slice none 0 0)) := HM10.c6
                    have u7 : w''.cell? ⟨N, 7, none⟩ = some ((.slice none 0 0)) := HM10.c7
                    have u8 : w''.cell? ⟨N, 8, none⟩ = some ((.slice none 0 0)) := HM10.c8
                    clear hw9 HM10 HC10 q0 x0 xz y0 z0 y1 z1 y2 z2 y3 z3 y4 z4 y5 z5 y6 z6 y7 z7 y8 z8
                    exact ⟨_, by simp [results, Try.results14, go_sem, u0, u1, u2, u3, u4, u5, u6, u7, u8, x10], dgot_ok (ev := (.slice none 0 0)) (qv := (.slice none 0 0)) (pv := (.slice none 0 0)) HDF.out (own_nil) (own_nil) (own_nil) HBW.out⟩
                · have HR0 : Hid (l7.length ≠ 0) := by have := HLNN.out; show _ ≠ _; omega
                  have HDF : Hid (decS l = (zeroMs, 5)) := by show _ = _; rw [HDE.out]; exact decT_tail HR0.out
                  have hb1 : decide (0 < rn) = true := decide_eq_true (by omega)
                  have hb2 : decide ((0 : Int) < (rn : Int)) = true := decide_eq_true (by omega)
                  clear hr0
                  go_wp2_with fail
                  refine wp_region_held_drew (S := fun wx => Below w7.heap.size w7 wx) (by kernel_rfl) ?_ (fun hHeld => ?_)
                  · exact below_drewN w7 1
                  refine wpAnyH_take (i := 0) (oi := ⟨some 47, _, _, _, _, _⟩) (v := ?_) rfl (by kernel_rfl) (by kernel_rfl) (by kernel_rfl) (fun c a w h => q_dec (by decide) _ c a w h) (Or.inl ⟨by rfl, ?_⟩) hHeld ?_
                  rotate_left
                  · intro w hSw; (try dsimp only at hSw); go_simp; all_goals (with_reducible rfl)
                  try simp only [Act.put, List.setIfInBounds_toArray, List.set_cons_zero, List.set_cons_succ]
                  refine wpAnyH_take (i := 1) (oi := ⟨some 48, _, _, _, _, _⟩) (v := ?_) rfl (by kernel_rfl) (by kernel_rfl) (by kernel_rfl) (fun c a w h => q_dec (by decide) _ c a w h) (Or.inl ⟨by rfl, ?_⟩) hHeld ?_
                  rotate_left
                  · intro w hSw; (try dsimp only at hSw); go_simp; all_goals (with_reducible rfl)
                  try simp only [Act.put, List.setIfInBounds_toArray, List.set_cons_zero, List.set_cons_succ]
                  refine wpAnyH_take (i := 2) (oi := ⟨some 49, _, _, _, _, _⟩) (v := ?_) rfl (by kernel_rfl) (by kernel_rfl) (by kernel_rfl) (fun c a w h => q_dec (by decide) _ c a w h) (Or.inl ⟨by rfl, ?_⟩) hHeld ?_
                  rotate_left
                  · intro w hSw; (try dsimp only at hSw); go_simp; all_goals (with_reducible rfl)
                  try simp only [Act.put, List.setIfInBounds_toArray, List.set_cons_zero, List.set_cons_succ]
                  refine wpAnyH_take (i := 3) (oi := ⟨some 50, _, _, _, _, _⟩) (v := ?_) rfl (by kernel_rfl) (by kernel_rfl) (by kernel_rfl) (fun c a w h => q_dec (by decide) _ c a w h) (Or.inl ⟨by rfl, ?_⟩) hHeld ?_
                  rotate_left
                  · intro w hSw; (try dsimp only at hSw); go_simp; all_goals (with_reducible rfl)
                  try simp only [Act.put, List.setIfInBounds_toArray, List.set_cons_zero, List.set_cons_succ]
                  refine wpAnyH_take (i := 4) (oi := ⟨some 51, _, _, _, _, _⟩) (v := ?_) rfl (by kernel_rfl) (by kernel_rfl) (by kernel_rfl) (fun c a w h => q_dec (by decide) _ c a w h) (Or.inl ⟨by rfl, ?_⟩) hHeld ?_
                  rotate_left
                  · intro w hSw; (try dsimp only at hSw); go_simp; all_goals (with_reducible rfl)
                  try simp only [Act.put, List.setIfInBounds_toArray, List.set_cons_zero, List.set_cons_succ]
                  refine wpAnyH_take (i := 5) (oi := ⟨some 52, _, _, _, _, _⟩) (v := ?_) rfl (by kernel_rfl) (by kernel_rfl) (by kernel_rfl) (fun c a w h => q_dec (by decide) _ c a w h) (Or.inl ⟨by rfl, ?_⟩) hHeld ?_
                  rotate_left
                  · intro w hSw; (try dsimp only at hSw); go_simp; all_goals (with_reducible rfl)
                  try simp only [Act.put, List.setIfInBounds_toArray, List.set_cons_zero, List.set_cons_succ]
                  refine wpAnyH_take (i := 6) (oi := ⟨some 53, _, _, _, _, _⟩) (v := ?_) rfl (by kernel_rfl) (by kernel_rfl) (by kernel_rfl) (fun c a w h => q_dec (by decide) _ c a w h) (Or.inl ⟨by rfl, ?_⟩) hHeld ?_
                  rotate_left
                  · intro w hSw; (try dsimp only at hSw); go_simp; all_goals (with_reducible rfl)
                  try simp only [Act.put, List.setIfInBounds_toArray, List.set_cons_zero, List.set_cons_succ]
                  refine wpAnyH_ready (rs := [7]) (by kernel_rfl) (by simp) ?_
                  refine AllReadyH.cons (o := ⟨some 54, _, _, _, _, _⟩) rfl (fun K hK => ?_) AllReadyH.nil
                  go_simp
                  refine (refuse_yes (H.out.rd.below (below_drewN w7 1)) 5).mono ?_
                  rintro e9 w5 ⟨⟨u, pu, rfl⟩, h1, h20⟩
                  have h2 : Ch (fun x => x = N + 2) w7 w5 := (Ch.of_below (below_drewN w7 1)).self h20
                  clear h20
                  refine leaves_cons (f := 33) (args := #[.pointer (some ⟨N + 3, 0, none⟩), .pointer (some ⟨N, 0, none⟩), .pointer (some ⟨N + 1, 0, none⟩)]) (by simp) (by simp [go_sem]) ?_
                  refine (catch_go u pu [] (h2.cell H.out.p (by simp)) h1 (H.out.mx.ch h2 (by simp)) (h2.cell H.out.x (by simp)) (by rw [h2.froz H.out.x (by simp) 0]; exact H.out.xz 0)).mono ?_
                  rintro e u' w'' ⟨rfl, rfl, hw9⟩
                  have HO := out_of (er := 5) H.out h2
                  rw [← hw9] at HO
                  have hm := HO.mx
                  have y0 := hm.c0; have y1 := hm.c1; have y2 := hm.c2; have y3 := hm.c3; have y4 := hm.c4; have y5 := hm.c5; have y6 := hm.c6; have y7 := hm.c7; have y8 := hm.c8
                  have x0 := HO.x
                  simp only [zeroMs] at y0 y1 y2 y3 y4 y5
                  have HBW : Hid (Below w.heap.size w w'') := by have h := HO.below; rw [HN.out] at h; exact h
                  clear hw9 HO hm h1 h2
                  exact ⟨_, by simp [results, Try.results14, go_sem, y0, y1, y2, y3, y4, y5, y6, y7, y8, x0], dgot_bad HDF.out HBW.out⟩
              · have HX : Hid ((cntL l5).1 ≠ 0) := hx
                rw [if_pos hx, decT_bad hx] at HDB
                clear hx
                go_wp2_with fail
                refine (count_bad H.out.rd rfl HX.out).mono ?_
                rintro e9 w5 ⟨⟨u, pu, rfl⟩, h1, h2⟩
                go_wp2_with fail
                refine leaves_cons (f := 33) (args := #[.pointer (some ⟨N + 3, 0, none⟩), .pointer (some ⟨N, 0, none⟩), .pointer (some ⟨N + 1, 0, none⟩)]) (by simp) (by simp [go_sem]) ?_
                refine (catch_go u pu [] (h2.cell H.out.p (by simp)) h1 (H.out.mx.ch h2 (by simp)) (h2.cell H.out.x (by simp)) (by rw [h2.froz H.out.x (by simp) 0]; exact H.out.xz 0)).mono ?_
                rintro e u' w'' ⟨rfl, rfl, hw9⟩
                have HO := out_of (er := (cntL l5).1) H.out h2
                rw [← hw9] at HO
                have hm := HO.mx
                have y0 := hm.c0; have y1 := hm.c1; have y2 := hm.c2; have y3 := hm.c3; have y4 := hm.c4; have y5 := hm.c5; have y6 := hm.c6; have y7 := hm.c7; have y8 := hm.c8
                have x0 := HO.x
                simp only [zeroMs] at y0 y1 y2 y3 y4 y5
                have HBW : Hid (Below w.heap.size w w'') := by have h := HO.below; rw [HN.out] at h; exact h
                clear hw9 HO hm h1 h2
                exact ⟨_, by simp [results, Try.results14, go_sem, y0, y1, y2, y3, y4, y5, y6, y7, y8, x0], dgot_bad HDB.out HBW.out⟩
          · have HX : Hid ((cntL l4).1 ≠ 0) := hx
            have HDF : Hid (decS l = (zeroMs, (cntL l4).1)) := by show _ = _; rw [HDE.out]; unfold dec5; rw [if_pos hx]
            clear hx
            go_wp2_with fail
            refine (count_bad H.out.rd rfl HX.out).mono ?_
            rintro e9 w5 ⟨⟨u, pu, rfl⟩, h1, h2⟩
            go_wp2_with fail
            refine leaves_cons (f := 33) (args := #[.pointer (some ⟨N + 3, 0, none⟩), .pointer (some ⟨N, 0, none⟩), .pointer (some ⟨N + 1, 0, none⟩)]) (by simp) (by simp [go_sem]) ?_
            refine (catch_go u pu [] (h2.cell H.out.p (by simp)) h1 (H.out.mx.ch h2 (by simp)) (h2.cell H.out.x (by simp)) (by rw [h2.froz H.out.x (by simp) 0]; exact H.out.xz 0)).mono ?_
            rintro e u' w'' ⟨rfl, rfl, hw9⟩
            have HO := out_of (er := (cntL l4).1) H.out h2
            rw [← hw9] at HO
            have hm := HO.mx
            have y0 := hm.c0; have y1 := hm.c1; have y2 := hm.c2; have y3 := hm.c3; have y4 := hm.c4; have y5 := hm.c5; have y6 := hm.c6; have y7 := hm.c7; have y8 := hm.c8
            have x0 := HO.x
            simp only [zeroMs] at y0 y1 y2 y3 y4 y5
            have HBW : Hid (Below w.heap.size w w'') := by have h := HO.below; rw [HN.out] at h; exact h
            clear hw9 HO hm h1 h2
            exact ⟨_, by simp [results, Try.results14, go_sem, y0, y1, y2, y3, y4, y5, y6, y7, y8, x0], dgot_bad HDF.out HBW.out⟩
        · have HX : Hid ((cntL l3).1 ≠ 0) := hx
          have HDF : Hid (decS l = (zeroMs, (cntL l3).1)) := by show _ = _; rw [HDE.out]; unfold dec4; rw [if_pos hx]
          clear hx
          go_wp2_with fail
          refine (count_bad H.out.rd rfl HX.out).mono ?_
          rintro e9 w5 ⟨⟨u, pu, rfl⟩, h1, h2⟩
          go_wp2_with fail
          refine leaves_cons (f := 33) (args := #[.pointer (some ⟨N + 3, 0, none⟩), .pointer (some ⟨N, 0, none⟩), .pointer (some ⟨N + 1, 0, none⟩)]) (by simp) (by simp [go_sem]) ?_
          refine (catch_go u pu [] (h2.cell H.out.p (by simp)) h1 (H.out.mx.ch h2 (by simp)) (h2.cell H.out.x (by simp)) (by rw [h2.froz H.out.x (by simp) 0]; exact H.out.xz 0)).mono ?_
          rintro e u' w'' ⟨rfl, rfl, hw9⟩
          have HO := out_of (er := (cntL l3).1) H.out h2
          rw [← hw9] at HO
          have hm := HO.mx
          have y0 := hm.c0; have y1 := hm.c1; have y2 := hm.c2; have y3 := hm.c3; have y4 := hm.c4; have y5 := hm.c5; have y6 := hm.c6; have y7 := hm.c7; have y8 := hm.c8
          have x0 := HO.x
          simp only [zeroMs] at y0 y1 y2 y3 y4 y5
          have HBW : Hid (Below w.heap.size w w'') := by have h := HO.below; rw [HN.out] at h; exact h
          clear hw9 HO hm h1 h2
          exact ⟨_, by simp [results, Try.results14, go_sem, y0, y1, y2, y3, y4, y5, y6, y7, y8, x0], dgot_bad HDF.out HBW.out⟩
      · have HX : Hid ((cntL l2).1 ≠ 0) := hx
        have HDF : Hid (decS l = (zeroMs, (cntL l2).1)) := by show _ = _; rw [HDE.out]; unfold dec3; rw [if_pos hx]
        clear hx
        go_wp2_with fail
        refine (count_bad H.out.rd rfl HX.out).mono ?_
        rintro e9 w5 ⟨⟨u, pu, rfl⟩, h1, h2⟩
        go_wp2_with fail
        refine leaves_cons (f := 33) (args := #[.pointer (some ⟨N + 3, 0, none⟩), .pointer (some ⟨N, 0, none⟩), .pointer (some ⟨N + 1, 0, none⟩)]) (by simp) (by simp [go_sem]) ?_
        refine (catch_go u pu [] (h2.cell H.out.p (by simp)) h1 (H.out.mx.ch h2 (by simp)) (h2.cell H.out.x (by simp)) (by rw [h2.froz H.out.x (by simp) 0]; exact H.out.xz 0)).mono ?_
        rintro e u' w'' ⟨rfl, rfl, hw9⟩
        have HO := out_of (er := (cntL l2).1) H.out h2
        rw [← hw9] at HO
        have hm := HO.mx
        have y0 := hm.c0; have y1 := hm.c1; have y2 := hm.c2; have y3 := hm.c3; have y4 := hm.c4; have y5 := hm.c5; have y6 := hm.c6; have y7 := hm.c7; have y8 := hm.c8
        have x0 := HO.x
        simp only [zeroMs] at y0 y1 y2 y3 y4 y5
        have HBW : Hid (Below w.heap.size w w'') := by have h := HO.below; rw [HN.out] at h; exact h
        clear hw9 HO hm h1 h2
        exact ⟨_, by simp [results, Try.results14, go_sem, y0, y1, y2, y3, y4, y5, y6, y7, y8, x0], dgot_bad HDF.out HBW.out⟩
    · have HX : Hid ((cntL l1).1 ≠ 0) := hx
      have HDF : Hid (decS l = (zeroMs, (cntL l1).1)) := by show _ = _; rw [HDE.out]; unfold dec2; rw [if_pos hx]
      clear hx
      go_wp2_with fail
      refine (count_bad H.out.rd rfl HX.out).mono ?_
      rintro e9 w5 ⟨⟨u, pu, rfl⟩, h1, h2⟩
      go_wp2_with fail
      refine leaves_cons (f := 33) (args := #[.pointer (some ⟨N + 3, 0, none⟩), .pointer (some ⟨N, 0, none⟩), .pointer (some ⟨N + 1, 0, none⟩)]) (by simp) (by simp [go_sem]) ?_
      refine (catch_go u pu [] (h2.cell H.out.p (by simp)) h1 (H.out.mx.ch h2 (by simp)) (h2.cell H.out.x (by simp)) (by rw [h2.froz H.out.x (by simp) 0]; exact H.out.xz 0)).mono ?_
      rintro e u' w'' ⟨rfl, rfl, hw9⟩
      have HO := out_of (er := (cntL l1).1) H.out h2
      rw [← hw9] at HO
      have hm := HO.mx
      have y0 := hm.c0; have y1 := hm.c1; have y2 := hm.c2; have y3 := hm.c3; have y4 := hm.c4; have y5 := hm.c5; have y6 := hm.c6; have y7 := hm.c7; have y8 := hm.c8
      have x0 := HO.x
      simp only [zeroMs] at y0 y1 y2 y3 y4 y5
      have HBW : Hid (Below w.heap.size w w'') := by have h := HO.below; rw [HN.out] at h; exact h
      clear hw9 HO hm h1 h2
      exact ⟨_, by simp [results, Try.results14, go_sem, y0, y1, y2, y3, y4, y5, y6, y7, y8, x0], dgot_bad HDF.out HBW.out⟩
  · have HX : Hid ((kndL l).1 ≠ 0) := hx
    have HDF : Hid (decS l = (zeroMs, (kndL l).1)) := by show _ = _; rw [HDE.out]; unfold decS; rw [if_pos hx]
    clear hx
    go_wp2_with fail
    refine (kind_bad H.out.rd rfl HX.out).mono ?_
    rintro e9 w5 ⟨⟨u, pu, rfl⟩, h1, h2⟩
    go_wp2_with fail
    refine leaves_cons (f := 33) (args := #[.pointer (some ⟨N + 3, 0, none⟩), .pointer (some ⟨N, 0, none⟩), .pointer (some ⟨N + 1, 0, none⟩)]) (by simp) (by simp [go_sem]) ?_
    refine (catch_go u pu [] (h2.cell H.out.p (by simp)) h1 (H.out.mx.ch h2 (by simp)) (h2.cell H.out.x (by simp)) (by rw [h2.froz H.out.x (by simp) 0]; exact H.out.xz 0)).mono ?_
    rintro e u' w'' ⟨rfl, rfl, hw9⟩
    have HO := out_of (er := (kndL l).1) H.out h2
    rw [← hw9] at HO
    have hm := HO.mx
    have y0 := hm.c0; have y1 := hm.c1; have y2 := hm.c2; have y3 := hm.c3; have y4 := hm.c4; have y5 := hm.c5; have y6 := hm.c6; have y7 := hm.c7; have y8 := hm.c8
    have x0 := HO.x
    simp only [zeroMs] at y0 y1 y2 y3 y4 y5
    have HBW : Hid (Below w.heap.size w w'') := by have h := HO.below; rw [HN.out] at h; exact h
    clear hw9 HO hm h1 h2
    exact ⟨_, by simp [results, Try.results14, go_sem, y0, y1, y2, y3, y4, y5, y6, y7, y8, x0], dgot_bad HDF.out HBW.out⟩
end Go.Proofs.Ythkkbdmbmkgjpaa


