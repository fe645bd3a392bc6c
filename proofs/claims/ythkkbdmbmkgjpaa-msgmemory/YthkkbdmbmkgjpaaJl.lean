/- The mathematics of msg, second part: there and back, cut, and what is read. -/
import Derived.Test.YthkkbdmbmkgjpaaJh

import Derived.Test.YthkkbdmbmkgjpaaJj

namespace Go.Proofs.Ythkkbdmbmkgjpaa



theorem ib_nats {l : List Int} (h : ∀ x ∈ l, 0 ≤ x ∧ x ≤ 256) : ib (nats l) = l := by
  unfold ib nats
  rw [List.map_map]
  conv => rhs; rw [← List.map_id l]
  refine List.map_congr_left fun x hx => ?_
  have := h x hx
  simp only [Function.comp, id]
  omega
theorem nats_ib (l : List Nat) : nats (ib l) = l := by
  unfold ib nats
  rw [List.map_map]
  conv => rhs; rw [← List.map_id l]
  refine List.map_congr_left fun x _ => ?_
  simp
theorem nats_len (l : List Int) : (nats l).length = l.length := by simp [nats]
theorem nats_small {l : List Int} (h : ∀ x ∈ l, 0 ≤ x ∧ x ≤ 256) : ∀ x ∈ nats l, x ≤ 4611686018427387904 := by
  intro y hy
  obtain ⟨x, hx, rfl⟩ := List.mem_map.1 hy
  have := h x hx
  omega
theorem rest_1 {m : Ms} (hf : fld m.K = 1) : restL m = Wm.enc m.E.length ++ Wm.encAll (nats m.E) := by unfold restL; rw [if_pos hf]
theorem rest_2 {m : Ms} (hf : fld m.K = 2) : restL m = Wm.enc m.Q.length ++ Wm.encAll m.Q := by unfold restL; rw [if_neg (by omega), if_pos hf]
theorem rest_3 {m : Ms} (hf : fld m.K = 3) : restL m = Wm.enc m.P.length ++ pairL m.P := by unfold restL; rw [if_neg (by omega), if_neg (by omega), if_pos hf]
theorem rest_4 {m : Ms} (hf : fld m.K = 4) : restL m = Wm.enc m.C.toNat := by unfold restL; rw [if_neg (by omega), if_neg (by omega), if_neg (by omega)]
def hdOf (m : Ms) : Hd := ⟨m.K.toNat, m.F.toNat, m.T.toNat, m.B.toNat, m.A.toNat⟩
theorem hd_ms {m : Ms} (hp : SndP m) (c : Int) (e : List Int) (q : List Nat) (p : List Pr) : (hdOf m).ms c e q p = ⟨m.K, m.F, m.T, m.B, m.A, c, e, q, p⟩ := by
  have h1 := hp.k; have h2 := hp.f; have h3 := hp.t; have h4 := hp.b; have h5 := hp.a
  simp only [hdOf, Hd.ms]
  congr 1 <;> omega
theorem hd_fld {m : Ms} (hp : SndP m) : fld ((hdOf m).K : Int) = fld m.K := by
  have h1 := hp.k
  show fld ((m.K.toNat : Nat) : Int) = _
  rw [show ((m.K.toNat : Nat) : Int) = m.K by omega]
theorem bod_there {m : Ms} (h : sndM m = true) (hk : m.ok) (r : List Nat) : bodL (hdOf m) (restL m ++ r) = (0, m, r) := by
  have hp := snd_parts h
  have hb := bare_parts hp.bare
  rcases fld_cases m.K with hf | hf | hf | hf | hf
  · exact absurd hf hp.g
  · have ha := ends_parts hp.ask hf
    obtain ⟨_, h2, h3, h4⟩ := hb
    have e2 : m.Q = [] := by rcases h2 with e | e; omega; exact e
    have e3 : m.P = [] := by rcases h3 with e | e; omega; exact e
    have e4 : m.C = 0 := by rcases h4 with e | e; omega; exact e
    have e := end_of (xs := nats m.E) (by rw [nats_len]; exact ha.2.1) (nats_small ha.2.2) r
    rw [nats_len] at e
    rw [bod_1 (by rw [hd_fld hp]; exact hf), rest_1 hf, List.append_assoc, e]
    simp only
    rw [if_neg (by simp), hd_ms hp, ib_nats ha.2.2]
    simp only [Prod.mk.injEq, true_and, and_true]
    rcases m with ⟨K, F, T, B, A, C, E, Q, P⟩
    simp only at e2 e3 e4
    subst e2 e3 e4
    rfl
  · have ha := keys_parts hp.ask hf
    obtain ⟨h1, _, h3, h4⟩ := hb
    have e1 : m.E = [] := by rcases h1 with e | e; omega; exact e
    have e3 : m.P = [] := by rcases h3 with e | e; omega; exact e
    have e4 : m.C = 0 := by rcases h4 with e | e; omega; exact e
    have e : keyD (Wm.enc m.Q.length ++ (Wm.encAll m.Q ++ r)) = (0, m.Q, r) := by
      unfold keyD
      rw [man_of ha.1]
      simp only
      rw [if_neg (by simp), key_of hk.Q]
    rw [bod_2 (by rw [hd_fld hp]; exact hf), rest_2 hf, List.append_assoc, e]
    simp only
    rw [if_neg (by simp), hd_ms hp]
    simp only [Prod.mk.injEq, true_and, and_true]
    rcases m with ⟨K, F, T, B, A, C, E, Q, P⟩
    simp only at e1 e3 e4
    subst e1 e3 e4
    rfl
  · have ha := pairs_parts hp.ask hf
    obtain ⟨h1, h2, _, h4⟩ := hb
    have e1 : m.E = [] := by rcases h1 with e | e; omega; exact e
    have e2 : m.Q = [] := by rcases h2 with e | e; omega; exact e
    have e4 : m.C = 0 := by rcases h4 with e | e; omega; exact e
    have e : pairD (Wm.enc m.P.length ++ (pairL m.P ++ r)) = (0, m.P, r) := by
      unfold pairD
      rw [man_of ha.1]
      simp only
      rw [if_neg (by simp), pair_of hk.P (tab_has ha.2)]
    rw [bod_3 (by rw [hd_fld hp]; exact hf), rest_3 hf, List.append_assoc, e]
    simp only
    rw [if_neg (by simp), hd_ms hp]
    simp only [Prod.mk.injEq, true_and, and_true]
    rcases m with ⟨K, F, T, B, A, C, E, Q, P⟩
    simp only at e1 e2 e4
    subst e1 e2 e4
    rfl
  · have ha := code_parts hp.ask hf
    obtain ⟨h1, h2, h3, _⟩ := hb
    have e1 : m.E = [] := by rcases h1 with e | e; omega; exact e
    have e2 : m.Q = [] := by rcases h2 with e | e; omega; exact e
    have e3 : m.P = [] := by rcases h3 with e | e; omega; exact e
    rw [bod_4 (by rw [hd_fld hp]; exact hf), rest_4 hf, cnt_of (show m.C.toNat ≤ 1099511627776 by omega)]
    simp only
    rw [if_neg (by simp), hd_ms hp, show ((m.C.toNat : Nat) : Int) = m.C by omega]
    simp only [Prod.mk.injEq, true_and, and_true]
    rcases m with ⟨K, F, T, B, A, C, E, Q, P⟩
    simp only at e1 e2 e3
    subst e1 e2 e3
    rfl
theorem dec_head {m : Ms} (h : sndM m = true) (r : List Nat) : decS (headL m ++ r) = decT (bodL (hdOf m) r) := by
  have hp := snd_parts h
  have h1 := hp.k; have h2 := hp.f; have h3 := hp.t; have h4 := hp.b; have h5 := hp.a
  have e : headL m ++ r = Wm.enc m.K.toNat ++ (Wm.enc m.F.toNat ++ (Wm.enc m.T.toNat ++ (Wm.enc m.B.toNat ++ (Wm.enc m.A.toNat ++ r)))) := by simp [headL]
  rw [e]
  simp only [decS, knd_of (show 1 ≤ m.K.toNat ∧ m.K.toNat ≤ 8 by omega), dec2, cnt_of (show m.F.toNat ≤ 1099511627776 by omega), dec3, cnt_of (show m.T.toNat ≤ 1099511627776 by omega), dec4, cnt_of (show m.B.toNat ≤ 1099511627776 by omega), dec5, cnt_of (show m.A.toNat ≤ 1099511627776 by omega)]
  simp [hdOf]
theorem formS_there {m : Ms} (h : sndM m = true) (hk : m.ok) (r : List Nat) : decS (bytS m ++ r) = if r.length ≠ 0 then (zeroMs, 5) else (m, 0) := by
  unfold bytS
  rw [List.append_assoc, dec_head h, bod_there h hk]
  by_cases hr : r.length = 0
  · rw [if_neg (by simpa using hr), decT_ok hr h]
  · rw [if_pos hr, decT_tail hr]
theorem bod_cut {m : Ms} (h : sndM m = true) (hk : m.ok) {n : Nat} (hn : n < (restL m).length) : (bodL (hdOf m) ((restL m).take n)).1 = 3 := by
  have hp := snd_parts h
  rcases fld_cases m.K with hf | hf | hf | hf | hf
  · exact absurd hf hp.g
  · have ha := ends_parts hp.ask hf
    rw [rest_1 hf] at hn ⊢
    have e := end_short (xs := nats m.E) (n := n) (by rw [nats_len]; exact ha.2.1) (nats_small ha.2.2) (by rw [nats_len]; exact hn)
    rw [nats_len] at e
    rw [bod_1 (by rw [hd_fld hp]; exact hf), e]
    simp
  · have ha := keys_parts hp.ask hf
    rw [rest_2 hf] at hn ⊢
    have e : (keyD ((Wm.enc m.Q.length ++ Wm.encAll m.Q).take n)).1 = 3 := by
      unfold keyD
      rw [take_app]
      split
      · rename_i q; rw [man_short ha.1 q]; simp
      · rename_i q
        rw [List.length_append] at hn
        rw [man_of ha.1]
        simp only
        rw [if_neg (by simp), key_short hk.Q (by omega)]
    rw [bod_2 (by rw [hd_fld hp]; exact hf), e]
    simp
  · have ha := pairs_parts hp.ask hf
    rw [rest_3 hf] at hn ⊢
    have e : (pairD ((Wm.enc m.P.length ++ pairL m.P).take n)).1 = 3 := by
      unfold pairD
      rw [take_app]
      split
      · rename_i q; rw [man_short ha.1 q]; simp
      · rename_i q
        rw [List.length_append] at hn
        rw [man_of ha.1]
        simp only
        rw [if_neg (by simp), pair_short hk.P (by omega)]
    rw [bod_3 (by rw [hd_fld hp]; exact hf), e]
    simp
  · have ha := code_parts hp.ask hf
    rw [rest_4 hf] at hn ⊢
    rw [bod_4 (by rw [hd_fld hp]; exact hf), cnt_short (show m.C.toNat ≤ 1099511627776 by omega) hn]
    simp
theorem decT_err {r : Nat × Ms × List Nat} {e : Nat} (h : r.1 = e) (h0 : e ≠ 0) : decT r = (zeroMs, e) := by subst h; unfold decT; rw [if_pos h0]
theorem formS_cut {m : Ms} (h : sndM m = true) (hk : m.ok) {n : Nat} (hn : n < (bytS m).length) : decS ((bytS m).take n) = (zeroMs, 3) := by
  have hp := snd_parts h
  have h1 := hp.k; have h2 := hp.f; have h3 := hp.t; have h4 := hp.b; have h5 := hp.a
  have b1 : 1 ≤ m.K.toNat ∧ m.K.toNat ≤ 8 := by omega
  have b2 : m.F.toNat ≤ 1099511627776 := by omega
  have b3 : m.T.toNat ≤ 1099511627776 := by omega
  have b4 : m.B.toNat ≤ 1099511627776 := by omega
  have b5 : m.A.toNat ≤ 1099511627776 := by omega
  unfold bytS at hn ⊢
  by_cases hh : n < (headL m).length
  · rw [List.take_append_of_le_length (by omega)]
    unfold headL at hh ⊢
    rw [take_app]
    split
    · rename_i q; simp [decS, knd_short b1.2 q]
    rename_i q1
    simp only [decS, knd_of b1]
    rw [if_neg (by simp), take_app]
    split
    · rename_i q; simp [dec2, cnt_short b2 q]
    rename_i q2
    simp only [dec2, cnt_of b2]
    rw [if_neg (by simp), take_app]
    split
    · rename_i q; simp [dec3, cnt_short b3 q]
    rename_i q3
    simp only [dec3, cnt_of b3]
    rw [if_neg (by simp), take_app]
    split
    · rename_i q; simp [dec4, cnt_short b4 q]
    rename_i q4
    simp only [dec4, cnt_of b4]
    rw [if_neg (by simp)]
    simp [dec5, cnt_short b5 (show n - (Wm.enc m.K.toNat).length - (Wm.enc m.F.toNat).length - (Wm.enc m.T.toNat).length - (Wm.enc m.B.toNat).length < (Wm.enc m.A.toNat).length by simp only [List.length_append] at hh; omega)]
  · rw [take_app, if_neg hh, dec_head h]
    rw [List.length_append] at hn
    exact decT_err (bod_cut h hk (by omega)) (by decide)

/-! What was read. -/
theorem int_ok {x : Nat} (h : x ≤ 4611686018427387904) : in64 (x : Int) := ⟨by omega, by omega⟩
theorem keyD_back {l : List Nat} (hl : ∀ c ∈ l, c < 256) (h : (keyD l).1 = 0) : l = Wm.enc (keyD l).2.1.length ++ (Wm.encAll (keyD l).2.1 ++ (keyD l).2.2) ∧ keysOk (keyD l).2.1 := by
  unfold keyD at h ⊢
  by_cases h0 : (manL l).1 = 0
  · rw [if_neg (by simpa using h0)] at h ⊢
    obtain ⟨m1, _⟩ := man_back hl h0
    obtain ⟨k1, k2, k3⟩ := key_back (l := (manL l).2.2) (fun c hc => hl c (by rw [m1]; simp [hc])) h
    exact ⟨by rw [k2, ← k1]; exact m1, k3⟩
  · rw [if_pos h0] at h; exact absurd h h0
theorem pairD_back {l : List Nat} (hl : ∀ c ∈ l, c < 256) (h : (pairD l).1 = 0) : l = Wm.enc (pairD l).2.1.length ++ (pairL (pairD l).2.1 ++ (pairD l).2.2) ∧ okT (pairD l).2.1 := by
  unfold pairD at h ⊢
  by_cases h0 : (manL l).1 = 0
  · rw [if_neg (by simpa using h0)] at h ⊢
    obtain ⟨m1, _⟩ := man_back hl h0
    obtain ⟨k1, k2, k3⟩ := pair_back (l := (manL l).2.2) (fun c hc => hl c (by rw [m1]; simp [hc])) h
    exact ⟨by rw [k2, ← k1]; exact m1, k3⟩
  · rw [if_pos h0] at h; exact absurd h h0
theorem bod_back {K F T B A : Nat} {l : List Nat} (hl : ∀ c ∈ l, c < 256) (hK : 1 ≤ K ∧ K ≤ 8) (hF : F ≤ 1099511627776) (hT : T ≤ 1099511627776) (hB : B ≤ 1099511627776) (hA : A ≤ 1099511627776) (h : (bodL ⟨K, F, T, B, A⟩ l).1 = 0) :
    l = restL (bodL ⟨K, F, T, B, A⟩ l).2.1 ++ (bodL ⟨K, F, T, B, A⟩ l).2.2 ∧ (bodL ⟨K, F, T, B, A⟩ l).2.1.ok ∧ headL (bodL ⟨K, F, T, B, A⟩ l).2.1 = Wm.enc K ++ (Wm.enc F ++ (Wm.enc T ++ (Wm.enc B ++ Wm.enc A))) := by
  have o1 := int_ok (show K ≤ 4611686018427387904 by omega); have o2 := int_ok (show F ≤ 4611686018427387904 by omega); have o3 := int_ok (show T ≤ 4611686018427387904 by omega); have o4 := int_ok (show B ≤ 4611686018427387904 by omega); have o5 := int_ok (show A ≤ 4611686018427387904 by omega)
  have o0 : in64 0 := ⟨by omega, by omega⟩
  have hd : ∀ c e q p, headL ((⟨K, F, T, B, A⟩ : Hd).ms c e q p) = Wm.enc K ++ (Wm.enc F ++ (Wm.enc T ++ (Wm.enc B ++ Wm.enc A))) := fun c e q p => by simp [headL, Hd.ms]
  rcases fld_cases (K : Int) with hf | hf | hf | hf | hf
  · exact absurd hf (fld_some hK)
  · rw [bod_1 hf] at h ⊢
    by_cases h0 : (endL l).1 = 0
    · rw [if_neg (by simpa using h0)] at h ⊢
      obtain ⟨b1, b2, b3⟩ := end_back hl h0
      refine ⟨?_, ⟨o1, o2, o3, o4, o5, o0, ?_, (by intro x hx; cases hx), (by intro x hx; cases hx)⟩, hd _ _ _ _⟩
      · simp only
        rw [rest_1 (by exact hf)]
        show l = (Wm.enc (ib (endL l).2.1).length ++ Wm.encAll (nats (ib (endL l).2.1))) ++ _
        rw [nats_ib, ib_len, List.append_assoc]
        exact b1
      · intro x hx
        obtain ⟨y, hy, rfl⟩ := List.mem_map.1 hx
        exact int_ok (b3 y hy)
    · rw [if_pos h0] at h; exact absurd h h0
  · rw [bod_2 hf] at h ⊢
    by_cases h0 : (keyD l).1 = 0
    · rw [if_neg (by simpa using h0)] at h ⊢
      obtain ⟨b1, b2⟩ := keyD_back hl h0
      refine ⟨?_, ⟨o1, o2, o3, o4, o5, o0, (by intro x hx; cases hx), b2, (by intro x hx; cases hx)⟩, hd _ _ _ _⟩
      simp only
      rw [rest_2 (by exact hf)]
      show l = (Wm.enc (keyD l).2.1.length ++ Wm.encAll (keyD l).2.1) ++ _
      rw [List.append_assoc]
      exact b1
    · rw [if_pos h0] at h; exact absurd h h0
  · rw [bod_3 hf] at h ⊢
    by_cases h0 : (pairD l).1 = 0
    · rw [if_neg (by simpa using h0)] at h ⊢
      obtain ⟨b1, b2⟩ := pairD_back hl h0
      refine ⟨?_, ⟨o1, o2, o3, o4, o5, o0, (by intro x hx; cases hx), (by intro x hx; cases hx), b2⟩, hd _ _ _ _⟩
      simp only
      rw [rest_3 (by exact hf)]
      show l = (Wm.enc (pairD l).2.1.length ++ pairL (pairD l).2.1) ++ _
      rw [List.append_assoc]
      exact b1
    · rw [if_pos h0] at h; exact absurd h h0
  · rw [bod_4 hf] at h ⊢
    by_cases h0 : (cntL l).1 = 0
    · rw [if_neg (by simpa using h0)] at h ⊢
      obtain ⟨b1, b2⟩ := cnt_back hl h0
      refine ⟨?_, ⟨o1, o2, o3, o4, o5, int_ok (by omega), (by intro x hx; cases hx), (by intro x hx; cases hx), (by intro x hx; cases hx)⟩, hd _ _ _ _⟩
      simp only
      rw [rest_4 (by exact hf)]
      show l = Wm.enc ((cntL l).2.1 : Int).toNat ++ _
      rw [Int.toNat_natCast]
      exact b1
    · rw [if_pos h0] at h; exact absurd h h0
theorem zero_ok : zeroMs.ok := by
  have o0 : in64 0 := ⟨by omega, by omega⟩
  exact ⟨o0, o0, o0, o0, o0, o0, (by intro x hx; cases hx), (by intro x hx; cases hx), (by intro x hx; cases hx)⟩
theorem formS_back {l : List Nat} (hl : ∀ c ∈ l, c < 256) (h : (decS l).2 = 0) : sndM (decS l).1 = true ∧ encS (decS l).1 = (l, 0) ∧ (decS l).1.ok := by
  unfold decS at h ⊢
  by_cases h1 : (kndL l).1 = 0
  · rw [if_neg (by simpa using h1)] at h ⊢
    obtain ⟨a1, a2⟩ := knd_back hl h1
    generalize (kndL l).2.1 = K at h a1 a2 ⊢
    generalize (kndL l).2.2 = l1 at h a1 ⊢
    have hl1 : ∀ c ∈ l1, c < 256 := fun c hc => hl c (by rw [a1]; simp [hc])
    unfold dec2 at h ⊢
    by_cases h2 : (cntL l1).1 = 0
    · rw [if_neg (by simpa using h2)] at h ⊢
      obtain ⟨b1, b2⟩ := cnt_back hl1 h2
      generalize (cntL l1).2.1 = F at h b1 b2 ⊢
      generalize (cntL l1).2.2 = l2 at h b1 ⊢
      have hl2 : ∀ c ∈ l2, c < 256 := fun c hc => hl1 c (by rw [b1]; simp [hc])
      unfold dec3 at h ⊢
      by_cases h3 : (cntL l2).1 = 0
      · rw [if_neg (by simpa using h3)] at h ⊢
        obtain ⟨c1, c2⟩ := cnt_back hl2 h3
        generalize (cntL l2).2.1 = T at h c1 c2 ⊢
        generalize (cntL l2).2.2 = l3 at h c1 ⊢
        have hl3 : ∀ c ∈ l3, c < 256 := fun c hc => hl2 c (by rw [c1]; simp [hc])
        unfold dec4 at h ⊢
        by_cases h4 : (cntL l3).1 = 0
        · rw [if_neg (by simpa using h4)] at h ⊢
          obtain ⟨d1, d2⟩ := cnt_back hl3 h4
          generalize (cntL l3).2.1 = B at h d1 d2 ⊢
          generalize (cntL l3).2.2 = l4 at h d1 ⊢
          have hl4 : ∀ c ∈ l4, c < 256 := fun c hc => hl3 c (by rw [d1]; simp [hc])
          unfold dec5 at h ⊢
          by_cases h5 : (cntL l4).1 = 0
          · rw [if_neg (by simpa using h5)] at h ⊢
            obtain ⟨e1, e2⟩ := cnt_back hl4 h5
            generalize (cntL l4).2.1 = A at h e1 e2 ⊢
            generalize (cntL l4).2.2 = l5 at h e1 ⊢
            have hl5 : ∀ c ∈ l5, c < 256 := fun c hc => hl4 c (by rw [e1]; simp [hc])
            unfold decT at h ⊢
            by_cases h6 : (bodL ⟨K, F, T, B, A⟩ l5).1 = 0
            · rw [if_neg (by simpa using h6)] at h ⊢
              obtain ⟨g1, g2, g3⟩ := bod_back hl5 a2 b2 c2 d2 e2 h6
              generalize (bodL ⟨K, F, T, B, A⟩ l5).2.1 = m at h g1 g2 g3 ⊢
              generalize (bodL ⟨K, F, T, B, A⟩ l5).2.2 = r at h g1 ⊢
              by_cases h7 : r.length = 0
              · rw [if_neg (by simpa using h7)] at h ⊢
                have hr : r = [] := List.eq_nil_of_length_eq_zero h7
                cases h8 : sndM m
                · rw [if_pos h8] at h; simp at h
                · rw [if_neg (by simp)]
                  refine ⟨h8, ?_, g2⟩
                  rw [encS_ok h8, g3]
                  have e3 : l5 = restL m := by rw [g1, hr]; simp
                  rw [← e3]
                  simp only [List.append_assoc]
                  rw [← e1, ← d1, ← c1, ← b1, ← a1]
              · rw [if_pos h7] at h; simp at h
            · rw [if_pos h6] at h; exact absurd h h6
          · rw [if_pos h5] at h; exact absurd h h5
        · rw [if_pos h4] at h; exact absurd h h4
      · rw [if_pos h3] at h; exact absurd h h3
    · rw [if_pos h2] at h; exact absurd h h2
  · rw [if_pos h1] at h; exact absurd h h1
theorem decS_ok {l : List Nat} (hl : ∀ c ∈ l, c < 256) : (decS l).1.ok := by
  by_cases h : (decS l).2 = 0
  · exact (formS_back hl h).2.2
  · rw [decS_bad h]; exact zero_ok
theorem encS_bytS {m : Ms} (h : sndM m = true) : encS m = (bytS m, 0) := by unfold encS; rw [if_pos h]
end Go.Proofs.Ythkkbdmbmkgjpaa


