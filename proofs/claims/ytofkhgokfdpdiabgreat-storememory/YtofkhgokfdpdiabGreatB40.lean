/- The store's calls, of a store that is right: Begin, Apply, Query, Mark. -/
import Derived.Test.YtofkhgokfdpdiabGreatB39
import Derived.Test.YtofkhgokfdpdiabGreatB36
set_option maxRecDepth 100000
set_option maxHeartbeats 16000000
namespace Go.Proofs.YtofkhgokfdpdiabGreat
section
def InS (Ls : List (List Cl)) (c : Cl) : Prop := ∃ i, i < 6 ∧ c ∈ pgc Ls i
structure Lk (Ls : List (List Cl)) : Prop where
 srt : ∀ i, i < 6 → SrtC (pgc Ls i)
 dis : ∀ i j c d, i < 6 → j < 6 → i ≠ j → c ∈ pgc Ls i → d ∈ pgc Ls j → c.k ≠ d.k
structure Gk (k : Int) (m : Mk) (Ls : List (List Cl)) : Prop where
 gd : Gd m Ls
 kn : knownB k = true
 dis : ∀ i j c d, i < 6 → j < 6 → i ≠ j → c ∈ pgc Ls i → d ∈ pgc Ls j → c.k ≠ d.k
 fit : ∀ c, InS Ls c → fitC k c = true
 ne : ∀ c, InS Ls c → empC c = false
 bes : ∀ c, InS Ls c → c.n < m.b ∨ (c.n = m.b ∧ c.k ∈ m.k)
def Low (Ls : List (List Cl)) : Prop := ∀ c, InS Ls c → c.k < 40
section

variable {k b a : Int} {m : Mk} {Ls : List (List Cl)} {c d : Cl} {i key : Nat} {n : Int} {v : Vl}

theorem Gk.lk (h : Gk k m Ls) : Lk Ls := ⟨fun i hi => (encode_iff.1 (h.gd.enc i hi)).2.1, h.dis⟩
theorem Lk.uniq (h : Lk Ls) (hc : InS Ls c) (hd : InS Ls d) (e : c.k = d.k) : c = d := by
 obtain ⟨i, hi, hc⟩ := hc
 obtain ⟨j, hj, hd⟩ := hd
 by_cases q : i = j
 ·subst q; exact srt_uniq (h.srt i hi) hc hd e
 ·exact absurd e (h.dis i j c d hi hj q hc hd)
theorem Lk.at (h : Lk Ls) (hc : InS Ls c) : ∃ i, i < 6 ∧ c ∈ pgc Ls i ∧ shAt Ls c.k = some i ∧ cellAt Ls i c.k = c := by
 obtain ⟨i, hi, hm⟩ := hc
 cases e : shAt Ls c.k with
 | none =>
  have := shG_none 6 0 e i (by omega) (by omega)
  rw [(find_srt (h.srt i hi)).2 ⟨c, hm, rfl⟩] at this
  cases this
 | some j =>
  obtain ⟨_, h2, h3⟩ := shG_lt 6 0 e
  obtain ⟨d, hd, e2⟩ := (find_srt (h.srt j (by omega))).1 h3
  have : d = c := h.uniq ⟨j, by omega, hd⟩ ⟨i, hi, hm⟩ e2
  subst this
  exact ⟨j, by omega, hd, rfl, find_is (h.srt j (by omega)) hd⟩
theorem Lk.none (h : Lk Ls) (hn : ∀ c, InS Ls c → c.k ≠ key) : shAt Ls key = none := by
 cases e : shAt Ls key with
 | none => rfl
 | some j =>
  obtain ⟨_, h2, h3⟩ := shG_lt 6 0 e
  obtain ⟨d, hd, e2⟩ := (find_srt (h.srt j (by omega))).1 h3
  exact absurd e2 (hn d ⟨j, by omega, hd⟩)
theorem Lk.res (h : Lk Ls) (hc : InS Ls c) (n : Int) : shRes Ls c.k n = resC c n := by
 obtain ⟨i, _, _, e1, e2⟩ := h.at hc
 unfold shRes
 rw [e1]
 show resC (cellAt Ls i c.k) n = _
 rw [e2]
theorem Lk.res0 (h : Lk Ls) (hn : ∀ c, InS Ls c → c.k ≠ key) (n : Int) : shRes Ls key n = noV := by
 unfold shRes
 rw [h.none hn]
theorem key_or (Ls : List (List Cl)) (key : Nat) : (∃ c, InS Ls c ∧ c.k = key) ∨ ∀ c, InS Ls c → c.k ≠ key := by
 by_cases h : ∃ c, InS Ls c ∧ c.k = key
 ·exact .inl h
 ·exact .inr fun c hc e => h ⟨c, hc, e⟩
theorem set_in (h : Lk Ls) (hl : Ls.length = 6) (hi : i < 6) (hp : (∃ d ∈ pgc Ls i, d.k = c.k) ∨ ((∀ d, InS Ls d → d.k ≠ c.k) ∧ (pgc Ls i).length < 16)) :
  ∃ r, putR (pgc Ls i) c = (r, 0) ∧ Lk (Ls.set i r) ∧ ∀ x, InS (Ls.set i r) x ↔ x = c ∨ (InS Ls x ∧ x.k ≠ c.k) := by
 obtain ⟨r, hr, hs, hm⟩ := put_srt (c := c) (h.srt i hi) (hp.imp id (·.2))
 have hpg : ∀ j, j < 6 → pgc (Ls.set i r) j = if i = j then r else pgc Ls j := fun j hj => pgc_set (by rw [hl]; exact hj)
 have hoth : ∀ j x, j < 6 → i ≠ j → x ∈ pgc Ls j → x.k ≠ c.k := fun j x hj hn hx => by
  rcases hp with ⟨d, hd, e⟩ | ⟨hp, _⟩
  ·rw [← e]; exact h.dis j i x d hj hi (Ne.symm hn) hx hd
  ·exact hp x ⟨j, hj, hx⟩
 refine ⟨r, hr, ⟨fun j hj => ?_, fun j1 j2 x y h1 h2 hn hx hy => ?_⟩, fun x => ?_⟩
 ·rw [hpg j hj]; split; exact hs; exact h.srt j hj
 ·rw [hpg j1 h1] at hx
  rw [hpg j2 h2] at hy
  by_cases e1 : i = j1
  ·rw [if_pos e1] at hx
   have e2 : i ≠ j2 := by omega
   rw [if_neg e2] at hy
   rcases (hm x).1 hx with rfl | ⟨hx, _⟩
   ·exact Ne.symm (hoth j2 y h2 e2 hy)
   ·exact h.dis i j2 x y hi h2 e2 hx hy
  ·rw [if_neg e1] at hx
   by_cases e2 : i = j2
   ·rw [if_pos e2] at hy
    rcases (hm y).1 hy with rfl | ⟨hy, _⟩
    ·exact hoth j1 x h1 e1 hx
    ·exact h.dis j1 i x y h1 hi (Ne.symm e1) hx hy
   ·rw [if_neg e2] at hy
    exact h.dis j1 j2 x y h1 h2 hn hx hy
 ·constructor
  ·rintro ⟨j, hj, hx⟩
   rw [hpg j hj] at hx
   by_cases e : i = j
   ·rw [if_pos e] at hx
    rcases (hm x).1 hx with q | ⟨q, z⟩
    ·exact .inl q
    ·exact .inr ⟨⟨i, hi, q⟩, z⟩
   ·rw [if_neg e] at hx
    exact .inr ⟨⟨j, hj, hx⟩, hoth j x hj e hx⟩
  ·rintro (rfl | ⟨⟨j, hj, hx⟩, z⟩)
   ·exact ⟨i, hi, by rw [hpg i hi, if_pos rfl]; exact (hm x).2 (.inl rfl)⟩
   ·refine ⟨j, hj, ?_⟩
    rw [hpg j hj]
    split
    ·rename_i e; subst e; exact (hm x).2 (.inr ⟨hx, z⟩)
    ·exact hx
theorem srt_keys {l : List Cl} (h : SrtC l) : (l.map (·.k)).Nodup := by
 unfold List.Nodup
 rw [List.pairwise_map]
 exact h.imp (fun h => by omega)
theorem room_of (h : Lk Ls) (low : Low Ls) : ∃ i, shRoom Ls = some i ∧ i < 6 ∧ (pgc Ls i).length < 16 := by
 cases e : shRoom Ls with
 | some i =>
  obtain ⟨_, h2, h3⟩ := shG_lt 6 0 e
  exact ⟨i, rfl, by omega, of_decide_eq_true h3⟩
 | none =>
  exfalso
  have hg : ∀ j, j < 6 → 16 ≤ (pgc Ls j).length := fun j hj => by
   have := shG_none 6 0 e j (by omega) (by omega)
   simp only [decide_eq_false_iff_not] at this
   omega
  have hnd : ((pgc Ls 0).map (·.k) ++ ((pgc Ls 1).map (·.k) ++ (pgc Ls 2).map (·.k))).Nodup := by
   have hx : ∀ i j, i < 6 → j < 6 → i ≠ j → ∀ x ∈ (pgc Ls i).map (·.k), ∀ y ∈ (pgc Ls j).map (·.k), x ≠ y := fun i j hi hj hn x hx y hy => by
    obtain ⟨c, hc, rfl⟩ := List.mem_map.1 hx
    obtain ⟨d, hd, rfl⟩ := List.mem_map.1 hy
    exact h.dis i j c d hi hj hn hc hd
   rw [List.nodup_append, List.nodup_append]
   refine ⟨srt_keys (h.srt 0 (by omega)), ⟨srt_keys (h.srt 1 (by omega)), srt_keys (h.srt 2 (by omega)), hx 1 2 (by omega) (by omega) (by omega)⟩, fun x hx0 y hy => ?_⟩
   rcases List.mem_append.1 hy with hy | hy
   ·exact hx 0 1 (by omega) (by omega) (by omega) x hx0 y hy
   ·exact hx 0 2 (by omega) (by omega) (by omega) x hx0 y hy
  have hlt := nodup_lt 40 _ hnd (fun x hx => by
   have hk : ∀ j, j < 6 → x ∈ (pgc Ls j).map (·.k) → x < 40 := fun j hj hx => by
    obtain ⟨c, hc, rfl⟩ := List.mem_map.1 hx
    exact low c ⟨j, hj, hc⟩
   rcases List.mem_append.1 hx with hx | hx
   ·exact hk 0 (by omega) hx
   ·rcases List.mem_append.1 hx with hx | hx
    ·exact hk 1 (by omega) hx
    ·exact hk 2 (by omega) hx)
  simp only [List.length_append, List.length_map] at hlt
  have h0 := hg 0 (by omega)
  have h1 := hg 1 (by omega)
  have h2 := hg 2 (by omega)
  omega
theorem eqV_iffS {x y : Vl} : eqV x y = true ↔ x = y := by
 obtain ⟨a, b⟩ := x
 obtain ⟨c, d⟩ := y
 simp [eqV]
theorem fitC_iff : fitC k c = true ↔ knownB k = true ∧ fitV k c.p = c.p ∧ fitV k c.c = c.c ∧ 0 ≤ c.n ∧ c.n ≤ 1099511627776 := by
 simp only [fitC, Bool.and_eq_true, eqV_iffS, decide_eq_true_eq, and_assoc]
theorem fit_plain (h : fitV k v = v) : plainB v = true := by
 unfold plainB
 cases hv : v.h
 ·unfold fitV at h
  rw [if_pos hv] at h
  rw [← h]; rfl
 ·rfl
theorem fit_writ (h : fitC k c = true) : writB c = true := by
 obtain ⟨_, h2, h3, h4, h5⟩ := fitC_iff.1 h
 simp only [writB, Bool.and_eq_true, decide_eq_true_eq]
 exact ⟨⟨⟨h4, h5⟩, fit_plain h2⟩, fit_plain h3⟩
theorem merge_hasS (hv : v.h = true) (fv : fitV k v = v) (u : Vl) : (mergeV k u v).h = true := by
 unfold mergeV joinV
 rw [fv]
 split
 ·exact hv
 ·split
  ·rename_i h; rw [hv] at h; cases h
  ·split
   ·rfl
   ·split <;> rfl
theorem app_one (g : Gk k m Ls) (low : Low Ls) (hm : m.b = b) (h1 : 1 ≤ b) (hk : key ∈ m.k) (hlow : key < 40) (hv : v.ok) (fv : fitV k v = v) (hh : v.h = true) :
  ∃ Ls', shApp k b Ls key v = (0, Ls') ∧ Gk k m Ls' ∧ Low Ls' ∧ (∀ x, x ≠ key → ∀ n, shRes Ls' x n = shRes Ls x n) ∧ shRes Ls' key (b - 1) = shRes Ls key (b - 1) ∧ shRes Ls' key b = mergeV k (shRes Ls key (b - 1)) v ∧
   (∀ c, InS Ls c → c.k ≠ key → InS Ls' c) ∧ ∃ c, InS Ls' c ∧ c.k = key ∧ c.n = b ∧ c.c = mergeV k c.p v := by
 have hL := g.lk
 have hb40 : b ≤ 1099511627776 := by have := sound_parts g.gd.snd; omega
 have hpl : ∃ i c, shOne Ls key = some (i, c) ∧ i < 6 ∧ c.k = key ∧ fitC k c = true ∧ c.n ≤ b ∧ ((∃ d ∈ pgc Ls i, d.k = key) ∨ ((∀ d, InS Ls d → d.k ≠ key) ∧ (pgc Ls i).length < 16)) ∧ shRes Ls key (b - 1) = aheadC c b := by
  rcases key_or Ls key with ⟨c, hc, rfl⟩ | hn
  ·obtain ⟨i, hi, hci, e1, e2⟩ := hL.at hc
   refine ⟨i, c, by unfold shOne; rw [e1]; simp only [e2], hi, rfl, g.fit c hc, ?_, .inl ⟨c, hci, rfl⟩, ?_⟩
   ·rcases g.bes c hc with q | q <;> omega
   ·rw [hL.res hc]
    unfold resC aheadC
    by_cases q : c.n < b
    ·rw [if_pos q, if_pos (by omega)]
    ·rw [if_neg q, if_neg (by omega)]
  ·obtain ⟨i, e, hi, hlt⟩ := room_of hL low
   refine ⟨i, ⟨key, noV, noV, 0⟩, by unfold shOne; rw [hL.none hn]; simp only [e], hi, rfl, fitC_iff.2 ⟨g.kn, rfl, rfl, by show (0 : Int) ≤ 0; decide, by show (0 : Int) ≤ 1099511627776; decide⟩, by show (0 : Int) ≤ b; omega, .inr ⟨hn, hlt⟩, ?_⟩
   rw [hL.res0 hn]
   unfold aheadC
   split <;> rfl
 obtain ⟨i, c, ho, hi, hck, hcf, hcn, hpl, hres⟩ := hpl
 have hI : appI k c b = 0 := by
  unfold appI
  rw [if_neg (by rw [g.kn]; simp; omega), if_neg (by omega)]
 obtain ⟨_, f1, f2, f3, f4⟩ := fitC_iff.1 hcf
 have hah : fitV k (aheadC c b) = aheadC c b := by unfold aheadC; split; exact f2; exact f1
 have hC : appC k c b v = ⟨key, aheadC c b, mergeV k (aheadC c b) v, b⟩ := by unfold appC; rw [if_pos hI, hck]
 obtain ⟨c', hc'⟩ : ∃ c', c' = appC k c b v := ⟨_, rfl⟩
 rw [hC] at hc'
 have hk' : c'.k = key := by rw [hc']
 obtain ⟨r, hr, hL', hin⟩ := set_in (c := c') hL g.gd.pok.1 hi (by rw [hk']; exact hpl)
 have hA : shApp k b Ls key v = (0, Ls.set i r) := by
  rw [app_good ho hI, hC, ← hc']
  unfold shPut
  rw [hr]
  rfl
 have hfit' : fitC k c' = true := fitC_iff.2 ⟨g.kn, by rw [hc']; exact hah, by rw [hc']; exact fit_merge k _ _, by rw [hc']; show 0 ≤ b; omega, by rw [hc']; exact hb40⟩
 have hins : InS (Ls.set i r) c' := (hin c').2 (.inl rfl)
 have hpok : Pok (Ls.set i r) := by
  have := shApp_pok (kind := k) (b := b) (v := v) (k := key) g.gd.pok (by omega) hv (by omega) (by rw [hA])
  rwa [hA] at this
 have hall : ∀ x, InS (Ls.set i r) x → fitC k x = true ∧ empC x = false ∧ (x.n < m.b ∨ (x.n = m.b ∧ x.k ∈ m.k)) ∧ x.k < 40 := fun x hx => by
  rcases (hin x).1 hx with rfl | ⟨hx, _⟩
  ·refine ⟨hfit', ?_, .inr ⟨by rw [hc']; exact hm.symm, by rw [hk']; exact hk⟩, by rw [hk']; exact hlow⟩
   unfold empC
   rw [hc']
   simp only [merge_hasS hh fv]
   simp
  ·exact ⟨g.fit x hx, g.ne x hx, g.bes x hx, low x hx⟩
 refine ⟨_, hA, ⟨⟨g.gd.snd, g.gd.ko, hpok, fun j hj => encode_iff.2 ⟨hpok.2.2 j hj, hL'.srt j hj, fun x hx => fit_writ (hall x ⟨j, hj, hx⟩).1⟩⟩, g.kn, hL'.dis, fun x hx => (hall x hx).1, fun x hx => (hall x hx).2.1, fun x hx => (hall x hx).2.2.1⟩, fun x hx => (hall x hx).2.2.2, fun x hx n => ?_, ?_, ?_, fun x hx hn => (hin x).2 (.inr ⟨hx, by rw [hk']; exact hn⟩), c', hins, hk', by rw [hc'], by rw [hc']⟩
 ·rcases key_or Ls x with ⟨d, hd, rfl⟩ | hn
  ·rw [hL.res hd, hL'.res ((hin d).2 (.inr ⟨hd, by rw [hk']; exact hx⟩))]
  ·rw [hL.res0 hn, hL'.res0 (fun d hd => by
    rcases (hin d).1 hd with rfl | ⟨hd, _⟩
    ·rw [hk']; exact Ne.symm hx
    ·exact hn d hd)]
 ·rw [hres]
  have := hL'.res hins (b - 1)
  rw [hk'] at this
  rw [this]
  unfold resC
  rw [if_neg (by rw [hc']; show ¬ b ≤ b - 1; omega), hc']
 ·rw [hres]
  have := hL'.res hins b
  rw [hk'] at this
  rw [this]
  unfold resC
  rw [if_pos (by rw [hc']; exact Int.le_refl _), hc']
def Ta (k : Int) (m : Mk) (t : List Pr) : Prop := Rise t ∧ ∀ p ∈ t, p.k ∈ m.k ∧ p.k < 40 ∧ p.v.ok ∧ fitV k p.v = p.v ∧ p.v.h = true
theorem app_all (hm : m.b = b) (h1 : 1 ≤ b) : ∀ (t : List Pr) (Ls : List (List Cl)), Gk k m Ls → Low Ls → Ta k m t →
  ∃ Ls', appA k b Ls t = (0, Ls') ∧ Gk k m Ls' ∧ Low Ls' ∧ (∀ x n, (∀ p ∈ t, p.k ≠ x) → shRes Ls' x n = shRes Ls x n) ∧ (∀ x, shRes Ls' x (b - 1) = shRes Ls x (b - 1)) ∧ (∀ p ∈ t, shRes Ls' p.k b = mergeV k (shRes Ls p.k (b - 1)) p.v) ∧
   (∀ c, InS Ls c → (∀ p ∈ t, p.k ≠ c.k) → InS Ls' c) ∧ ∀ p ∈ t, ∃ c, InS Ls' c ∧ c.k = p.k ∧ c.n = b ∧ c.c = mergeV k c.p p.v := by
 intro t
 induction t with
 | nil => intro Ls g low _; exact ⟨Ls, rfl, g, low, fun _ _ _ => rfl, fun _ => rfl, by simp, fun _ h _ => h, by simp⟩
 | cons p r ih =>
  intro Ls g low ht
  obtain ⟨hr, hall⟩ := ht
  obtain ⟨hr1, hr2⟩ := List.pairwise_cons.1 hr
  obtain ⟨q1, q2, q3, q4, q5⟩ := hall p (by simp)
  obtain ⟨L1, e1, g1, l1, s1, s2, s3, s4, c0, s5, s6, s7, s8⟩ := app_one g low hm h1 q1 q2 q3 q4 q5
  obtain ⟨L2, e2, g2, l2, t1, t2, t3, t4, t5⟩ := ih L1 g1 l1 ⟨hr2, fun x hx => hall x (by simp [hx])⟩
  have hpr : ∀ x ∈ r, x.k ≠ p.k := fun x hx => by have := hr1 x hx; omega
  refine ⟨L2, ?_, g2, l2, fun x n hx => ?_, fun x => ?_, fun x hx => ?_, fun c hc hn => ?_, fun x hx => ?_⟩
  ·rw [appA, e1, if_neg (by simp)]; exact e2
  ·rw [t1 x n (fun y hy => hx y (by simp [hy])), s1 x (Ne.symm (hx p (by simp)))]
  ·rw [t2 x]
   by_cases e : x = p.k
   ·rw [e]; exact s2
   ·exact s1 x e _
  ·rcases List.mem_cons.1 hx with rfl | hx
   ·rw [t1 _ _ hpr]; exact s3
   ·rw [t3 x hx, s1 x.k (hpr x hx)]
  ·exact t4 c (s4 c hc (Ne.symm (hn p (by simp)))) (fun y hy => hn y (by simp [hy]))
  ·rcases List.mem_cons.1 hx with rfl | hx
   ·exact ⟨c0, t4 c0 s5 (fun y hy => by rw [s6]; exact hpr y hy), s6, s7, s8⟩
   ·exact t5 x hx
end
end
section
section

variable {k b a : Int} {m : Mk} {Ls : List (List Cl)} {c d : Cl} {i key : Nat} {n : Int} {v : Vl} {ks : List Nat}

theorem revP_k : (revP ks b c).k = c.k := by
 unfold revP revC
 split
 ·split <;> rfl
 ·rfl
theorem revL_mem {l : List Cl} : d ∈ revL ks b l ↔ ∃ c ∈ l, d = revP ks b c ∧ empC d = false := by
 unfold revL
 rw [List.mem_filter, List.mem_map]
 constructor
 ·rintro ⟨⟨c, hc, e⟩, h⟩
  exact ⟨c, hc, e.symm, by simpa using h⟩
 ·rintro ⟨c, hc, e, h⟩
  exact ⟨⟨c, hc, e.symm⟩, by simp [h]⟩
theorem revL_srt {l : List Cl} (h : SrtC l) : SrtC (revL ks b l) := by
 unfold revL SrtC
 refine List.Pairwise.filter _ ?_
 rw [List.pairwise_map]
 exact h.imp (fun h => by rw [revP_k, revP_k]; exact h)
theorem rev_in (hl : Ls.length = 6) : InS (Ls.map (revL ks b)) d ↔ ∃ c, InS Ls c ∧ d = revP ks b c ∧ empC d = false := by
 constructor
 ·rintro ⟨i, hi, hd⟩
  rw [pgc_map (by rw [hl]; exact hi), revL_mem] at hd
  obtain ⟨c, hc, e⟩ := hd
  exact ⟨c, ⟨i, hi, hc⟩, e⟩
 ·rintro ⟨c, ⟨i, hi, hc⟩, e⟩
  exact ⟨i, hi, by rw [pgc_map (by rw [hl]; exact hi), revL_mem]; exact ⟨c, hc, e⟩⟩
theorem rev_one (g : Gk k m Ls) (hc : InS Ls c) (h1 : 1 ≤ m.b) : (c.n < m.b ∧ revP m.k m.b c = c) ∨ (c.n = m.b ∧ revP m.k m.b c = ⟨c.k, c.p, c.p, m.b - 1⟩) := by
 rcases g.bes c hc with q | ⟨q, hk⟩
 ·left
  refine ⟨q, ?_⟩
  unfold revP revC
  split
  ·rw [if_pos (by right; omega)]
  ·rfl
 ·right
  refine ⟨q, ?_⟩
  unfold revP revC
  rw [if_pos hk, if_neg (by omega), q]
theorem beg_good (g : Gk k m Ls) (hb : b = m.b ∨ b = m.b + 1) (h1 : 1 ≤ b) (hs : soundBM ⟨b, a, ks⟩ = true) (ko : keysOk ks) :
  Gk k ⟨b, a, ks⟩ (begS Ls m b) ∧ (∀ c, InS (begS Ls m b) c → c.n < b) ∧ (∀ x n, b - 1 ≤ n → shRes (begS Ls m b) x n = shRes Ls x (b - 1)) ∧ (Low Ls → Low (begS Ls m b)) := by
 have hL := g.lk
 have hl := g.gd.pok.1
 by_cases e : b = m.b
 ·have hS : begS Ls m b = Ls.map (revL m.k m.b) := by unfold begS; rw [if_pos e]
  rw [hS]
  have hin : ∀ d, InS (Ls.map (revL m.k m.b)) d ↔ ∃ c, InS Ls c ∧ d = revP m.k m.b c ∧ empC d = false := fun d => rev_in hl
  have hall : ∀ d, InS (Ls.map (revL m.k m.b)) d → fitC k d = true ∧ empC d = false ∧ d.n < b := fun d hd => by
   obtain ⟨c, hc, e1, e2⟩ := (hin d).1 hd
   obtain ⟨_, f1, f2, f3, f4⟩ := fitC_iff.1 (g.fit c hc)
   rcases rev_one g hc (by omega) with ⟨q, e3⟩ | ⟨q, e3⟩
   ·rw [e3] at e1
    subst e1
    exact ⟨g.fit d hc, e2, by omega⟩
   ·rw [e3] at e1
    refine ⟨fitC_iff.2 ⟨g.kn, by rw [e1]; exact f1, by rw [e1]; exact f1, by rw [e1]; show 0 ≤ m.b - 1; omega, by rw [e1]; show m.b - 1 ≤ _; omega⟩, e2, by rw [e1]; show m.b - 1 < b; omega⟩
  have hL' : Lk (Ls.map (revL m.k m.b)) := by
   refine ⟨fun i hi => by rw [pgc_map (by rw [hl]; exact hi)]; exact revL_srt (hL.srt i hi), fun i j x y hi hj hn hx hy => ?_⟩
   rw [pgc_map (by rw [hl]; exact hi), revL_mem] at hx
   rw [pgc_map (by rw [hl]; exact hj), revL_mem] at hy
   obtain ⟨c, hc, e1, _⟩ := hx
   obtain ⟨d, hd, e2, _⟩ := hy
   rw [e1, e2, revP_k, revP_k]
   exact hL.dis i j c d hi hj hn hc hd
  have hpok : Pok (Ls.map (revL m.k m.b)) := map_pok g.gd.pok
  refine ⟨⟨⟨hs, ko, hpok, fun j hj => encode_iff.2 ⟨hpok.2.2 j hj, hL'.srt j hj, fun x hx => fit_writ (hall x ⟨j, hj, hx⟩).1⟩⟩, g.kn, hL'.dis, fun x hx => (hall x hx).1, fun x hx => (hall x hx).2.1, fun x hx => .inl (hall x hx).2.2⟩, fun x hx => (hall x hx).2.2, fun x n hn => ?_, fun low d hd => ?_⟩
  ·rcases key_or Ls x with ⟨c, hc, rfl⟩ | hno
   ·rw [hL.res hc]
    obtain ⟨_, f1, f2, f3, f4⟩ := fitC_iff.1 (g.fit c hc)
    have hval : (revP m.k m.b c).n ≤ b - 1 ∧ (revP m.k m.b c).c = resC c (b - 1) := by
     rcases rev_one g hc (by omega) with ⟨q, e3⟩ | ⟨q, e3⟩
     ·rw [e3]; exact ⟨by omega, by unfold resC; rw [if_pos (by omega)]⟩
     ·rw [e3]; exact ⟨by show m.b - 1 ≤ _; omega, by unfold resC; rw [if_neg (by omega)]⟩
    cases hem : empC (revP m.k m.b c)
    ·have hi := (hin _).2 ⟨c, hc, rfl, hem⟩
     have := hL'.res hi n
     rw [revP_k] at this
     rw [this]
     unfold resC
     rw [if_pos (by omega), hval.2]
     rfl
    ·rw [hL'.res0 (fun d hd => ?_), ← hval.2]
     ·rcases rev_one g hc (by omega) with ⟨q, e3⟩ | ⟨q, e3⟩
      ·rw [e3] at hem
       rw [g.ne c hc] at hem
       cases hem
      ·rw [e3] at hem ⊢
       have hp : c.p.h = false := by simpa [empC] using hem
       show noV = c.p
       rw [← f1]
       unfold fitV
       rw [if_pos hp]
     ·obtain ⟨y, hy, e1, e2⟩ := (hin d).1 hd
      intro e4
      rw [e1, revP_k] at e4
      have : y = c := hL.uniq hy hc e4
      subst this
      rw [← e1, e2] at hem
      cases hem
   ·rw [hL.res0 hno, hL'.res0 (fun d hd => by
     obtain ⟨y, hy, e1, e2⟩ := (hin d).1 hd
     rw [e1, revP_k]
     exact hno y hy)]
  ·obtain ⟨y, hy, e1, e2⟩ := (hin d).1 hd
   rw [e1, revP_k]
   exact low y hy
 ·have hS : begS Ls m b = Ls := by unfold begS; rw [if_neg e]
  rw [hS]
  have hlt : ∀ c, InS Ls c → c.n < b := fun c hc => by rcases g.bes c hc with q | q <;> omega
  refine ⟨⟨⟨hs, ko, g.gd.pok, g.gd.enc⟩, g.kn, g.dis, g.fit, g.ne, fun c hc => .inl (hlt c hc)⟩, hlt, fun x n hn => ?_, id⟩
  rcases key_or Ls x with ⟨c, hc, rfl⟩ | hno
  ·have := hlt c hc
   rw [hL.res hc, hL.res hc]
   unfold resC
   rw [if_pos (by omega), if_pos (by omega)]
  ·rw [hL.res0 hno, hL.res0 hno]
theorem jud_up {mb ma : Int} (h1 : 1 ≤ b) (ha : 1 ≤ a) (hm : mb < b ∨ (b = mb ∧ ma < a)) : judI mb ma b a = 131 := by
 have hc : cmpA b a mb ma = 1 := by
  unfold cmpA cmpIM
  by_cases e : b = mb
  ·rw [if_pos e, if_neg (by omega), if_pos (by omega)]
  ·rw [if_neg e, if_neg (by omega), if_pos (by omega)]
 unfold judI
 rw [if_neg (by omega), hc]; rfl
theorem jud_eq (h1 : 1 ≤ b) (ha : 1 ≤ a) : judI b a b a = 0 := by
 have hc : cmpA b a b a = 0 := by
  unfold cmpA cmpIM
  rw [if_pos rfl, if_neg (by omega), if_neg (by omega)]
 unfold judI
 rw [if_neg (by omega), hc]; rfl
theorem beg_none {m : Mk} (h1 : 1 ≤ b) (hb : b ≤ 1099511627776) (ha : 1 ≤ a) (ha2 : a ≤ 1099511627776) (hk : ks.length ≤ 64) (hr : risB ks = true) (hm : m.b < b ∨ (b = m.b ∧ m.a < a)) (hb1 : b ≤ m.b + 1) : begE m b a ks = none := by
 have hj : judI m.b m.a b a ≠ 130 ∧ judI m.b m.a b a ≠ 0 := by rw [jud_up h1 ha hm]; decide
 refine beg_open ?_ hj.1 hj.2 (by omega)
 rintro (q | q | q)
 ·simp [cntdB] at q; omega
 ·omega
 ·rw [hr] at q; cases q
theorem sound_beg (h1 : 1 ≤ b) (hb : b ≤ 1099511627776) (ha : 1 ≤ a) (ha2 : a ≤ 1099511627776) (hk : ks.length ≤ 64) (hr : risB ks = true) : soundBM ⟨b, a, ks⟩ = true := by
 simp only [soundBM, cntB, Bool.and_eq_true, decide_eq_true_eq]
 refine ⟨⟨by omega, hb⟩, ⟨by omega, ha2⟩, ?_⟩
 rw [if_neg (by omega)]
 simp [hk, hr]
end
end
section
open Go.RowKit

def cntS (P : Bo) (S : Dk) : Nat := P.gen + S.wr + S.rd
structure RS (A : Nat → Prop) (w : World) (sv dv : Value) (k : Int) (P : Bo) (S : Dk) (m : Mk) (Ls : List (List Cl)) : Prop where
 st : ST A w sv dv k P S
 iw : Iw P S (pagesW m Ls)
 gk : Gk k m Ls
 lf : S.left = -1
section

variable {A A' : Nat → Prop} {w w' : World} {sv dv : Value} {k : Int} {P : Bo} {S S' : Dk} {m m' : Mk} {Ls Ls' : List (List Cl)} {j : Nat} {b a : Int} {ks : List Nat}

theorem RS.rdd (h : RS A w sv dv k P S m Ls) (hs : ST A' w' sv dv k P S') (hr : Rdd j S S') : RS A' w' sv dv k P S' m Ls :=
 ⟨hs, h.iw.rdd hr, h.gk, by rw [hr.left]; exact h.lf⟩
theorem RS.below (h : RS A w sv dv k P S m Ls) (hb : Below w.heap.size w w') : RS A w' sv dv k P S m Ls := ⟨h.st.below hb, h.iw, h.gk, h.lf⟩
theorem ST.dsk (h : ST A w sv dv k P S) : ∃ D, Dsk 89 D w dv S ∧ ∀ x, D x → A x := by
 obtain ⟨sp, bv, e, h1, h2, h3, h4⟩ := h
 exact Bk.dsk h3
theorem RS.mk0 (h : RS A w sv dv k P S m Ls) : decM (getL P S 0) = (m, 0) := hd_mark h.gk.gd h.iw
theorem RS.ce (h : RS A w sv dv k P S m Ls) : decP P S 6 = some Ls := hd_cells h.gk.gd h.iw
theorem RS.open (h : RS A w sv dv k P S m Ls) : shutB P S = false := h.iw.shut
theorem cnt_rdd {n : Nat} (h : Rdd n S S') : cntS P S' ≤ cntS P S + n := by unfold cntS; rw [h.wr]; have := h.rd; omega
theorem chgM_len (o : Option Mk) : (chgM Ls Ls' o).length ≤ 7 := by
 unfold chgM
 have := chg_len Ls Ls' 6
 rw [List.length_append]
 cases o <;> simp <;> omega
theorem put_rs {o : Option Mk} (h : Iw P S (pagesW m Ls)) (g : Gd m Ls) (g' : Gd m' Ls') (ho : o = some m' ∨ (o = none ∧ m' = m)) (hl : S.left = -1) (hg : P.gen < 1099511627776) :
  ∃ P' S', putO P S (chgM Ls Ls' o) = (0, P', S') ∧ Iw P' S' (pagesW m' Ls') ∧ S'.left = -1 ∧ P'.gen ≤ P.gen + 1 ∧ S'.wr ≤ S.wr + 8 ∧ S'.rd = S.rd ∧ S'.bl.length = S.bl.length ∧ (chgM Ls Ls' o = [] → S' = S) := by
 by_cases he : chgM Ls Ls' o = []
 ·refine ⟨P, S, ?_, ?_, hl, by omega, by omega, rfl, rfl, fun _ => rfl⟩
  ·rw [he]
   unfold putO
   rw [if_neg (by rw [h.shut]; simp), if_neg (by simp [faultI, faultF]), if_pos rfl]
  ·have := chgM_with (m := m) g.pok.1 g' o ho
   rw [he] at this
   rw [← this]
   exact h
 ·rcases put_iw h (chgM_lok g' o) he hg with ⟨P', S', e, i, e2, e3, e4, e5, e6, e7, e8⟩ | ⟨S', e, _, _, q, _⟩
  ·rw [chgM_with g.pok.1 g' o ho] at i
   refine ⟨P', S', e, i, e8 hl, by omega, ?_, e5, e7, fun e => absurd e he⟩
   have h1 : cntN (chgM Ls Ls' o) ≤ (chgM Ls Ls' o).length := List.length_filter_le _ _
   have h2 := chgM_len (Ls := Ls) (Ls' := Ls') o
   omega
  ·exact absurd hl q
def Chg (A : Nat → Prop) (w : World) (sv dv : Value) (k : Int) (P : Bo) (S : Dk) (m' : Mk) (Ls' : List (List Cl)) (X : Dk → Prop) (e : Ending) (w' : World) : Prop :=
 e = .returned (.int .i64 0) ∧ ∃ A' P' S', RS A' w' sv dv k P' S' m' Ls' ∧ (∀ x, A' x → A x ∨ w.heap.size ≤ x) ∧ Ch A w w' ∧ cntS P' S' ≤ cntS P S + 17 ∧ S'.bl.length = S.bl.length ∧ X S'
def Not (A : Nat → Prop) (w : World) (sv dv : Value) (k : Int) (P : Bo) (S : Dk) (m : Mk) (Ls : List (List Cl)) (c : Int) (e : Ending) (w' : World) : Prop :=
 e = .returned (.int .i64 c) ∧ ∃ S', RS A w' sv dv k P S' m Ls ∧ Rdd 8 S S' ∧ Ch A w w'
theorem begin_open (h : RS A w sv dv k P S m Ls) (hN : cntS P S < 1000000000) {kv : Value} (hk : Kv w kv ks) (ko : keysOk ks) (hkA : ∀ x, kv.ownBlock = some x → ¬ A x) (hb : b = m.b ∨ b = m.b + 1) (h1 : 1 ≤ b) (hb2 : b ≤ 1099511627776) (ha : 1 ≤ a) (ha2 : a ≤ 1099511627776) (hk64 : ks.length ≤ 64) (hr : risB ks = true) (hm : m.b < b ∨ (b = m.b ∧ m.a < a)) :
  Calls Tryz.prog 12 #[sv, .int .i64 b, .int .i64 a, kv] w (Chg A w sv dv k P S ⟨b, a, ks⟩ (begS Ls m b) fun _ => True) := by
 have hrd : S.rd < 1000000000 := by unfold cntS at hN; omega
 have hwr : S.wr < 1000000000 := by unfold cntS at hN; omega
 have hgn : P.gen < 1000000000 := by unfold cntS at hN; omega
 refine (begin_walk h.st (fun _ => h.mk0) (fun _ => h.ce) (by omega) (by omega) hk ko hkA b a).mono ?_
 have hE : begE m b a ks = none := beg_none h1 hb2 ha ha2 hk64 hr hm (by omega)
 have hs := sound_beg (ks := ks) h1 hb2 ha ha2 hk64 hr
 have hg := (beg_good (a := a) (ks := ks) h.gk hb h1 hs ko).1
 rintro e w1 (⟨q, _⟩ | ⟨_, c, S', q, _⟩ | ⟨_, _, S', A', hr, rfl, hst, hA', hc⟩)
 ·rw [h.open] at q; cases q
 ·rw [hE] at q; cases q
 ·rw [begL_is] at hst ⊢
  obtain ⟨P', S2, e1, e2, e3, e4, e5, e6, e7, _⟩ := put_rs (o := some ⟨b, a, ks⟩) (h.iw.rdd hr) h.gk.gd hg.gd (.inl rfl) (by rw [hr.left]; exact h.lf) (by omega)
  rw [e1] at hst ⊢
  refine ⟨rfl, A', P', S2, ⟨hst, e2, hg, e3⟩, hA', hc, ?_, by rw [e7, hr.bl], trivial⟩
  have h4 := hr.wr
  have h5 := hr.rd
  unfold cntS
  omega
theorem begin_not (h : RS A w sv dv k P S m Ls) (hN : cntS P S < 1000000000) {kv : Value} (hk : Kv w kv ks) (ko : keysOk ks) (hkA : ∀ x, kv.ownBlock = some x → ¬ A x) {c : Int} (hE : begE m b a ks = some c) :
  Calls Tryz.prog 12 #[sv, .int .i64 b, .int .i64 a, kv] w (Not A w sv dv k P S m Ls c) := by
 have hrd : S.rd < 1000000000 := by unfold cntS at hN; omega
 have hwr : S.wr < 1000000000 := by unfold cntS at hN; omega
 refine (begin_walk h.st (fun _ => h.mk0) (fun _ => h.ce) (by omega) (by omega) hk ko hkA b a).mono ?_
 rintro e w1 (⟨q, _⟩ | ⟨_, c', S', q, rfl, hst, hr, hc⟩ | ⟨_, q, _⟩)
 ·rw [h.open] at q; cases q
 ·rw [hE] at q
  cases q
  exact ⟨rfl, S', h.rdd hst hr, hr, hc⟩
 ·rw [hE] at q; cases q
theorem fits_of {t : List Pr} (h : tabB t = true) (hf : ∀ p ∈ t, fitV k p.v = p.v) : fitsB k t = true := by
 unfold fitsB fitL
 rw [h, Bool.and_true, List.all_eq_true]
 intro p hp
 rw [hf p hp]
 exact eqV_iffS.2 rfl
theorem apply_open (h : RS A w sv dv k P S m Ls) (hN : cntS P S < 1000000000) {tv : Value} {t : List Pr} (hq : Qv w tv t) (hqA : ∀ x, tv.ownBlock = some x → ¬ A x) (h1 : 1 ≤ m.b) (ha : 1 ≤ m.a) (ht : Ta k m t) (hA : ∃ Ls', appA k m.b Ls t = (0, Ls') ∧ Gk k m Ls') :
  Calls Tryz.prog 13 #[sv, .int .i64 m.b, .int .i64 m.a, tv] w (Chg A w sv dv k P S m (appA k m.b Ls t).2 fun S' => (appA k m.b Ls t).2 = Ls → S'.bl = S.bl ∧ S'.wr = S.wr) := by
 have hrd : S.rd < 1000000000 := by unfold cntS at hN; omega
 have hwr : S.wr < 1000000000 := by unfold cntS at hN; omega
 have hgn : P.gen < 1000000000 := by unfold cntS at hN; omega
 obtain ⟨Ls', hA, hg⟩ := hA
 have hp := sound_parts h.gk.gd.snd
 have hE : apE m k m.b m.a Ls t = none := by
  refine ap_put ?_ (jud_eq h1 ha) ?_ (by rw [hA])
  ·rintro (q | q)
   ·simp [cntdB] at q; omega
   ·rw [fits_of (tab_iff.2 ⟨ht.1, fun p hp => (ht.2 p hp).2.2.2.2⟩) (fun p hp => (ht.2 p hp).2.2.2.1)] at q; cases q
  ·unfold toucB
   rw [List.all_eq_true]
   exact fun p hp => decide_eq_true (ht.2 p hp).1
 refine (apply_walkS h.st (fun _ => h.mk0) (fun _ => h.ce) (by omega) (by omega) hq hqA m.b m.a).mono ?_
 rintro e w1 (⟨q, _⟩ | ⟨_, c, S', q, _⟩ | ⟨_, _, S', A', hr, rfl, hst, hA', hc⟩)
 ·rw [h.open] at q; cases q
 ·rw [hE] at q; cases q
 ·rw [apL_is] at hst ⊢
  rw [hA] at hst ⊢
  obtain ⟨P', S2, e1, e2, e3, e4, e5, e6, e7, e8⟩ := put_rs (o := none) (h.iw.rdd hr) h.gk.gd hg.gd (.inr ⟨rfl, rfl⟩) (by rw [hr.left]; exact h.lf) (by omega)
  rw [e1] at hst ⊢
  refine ⟨rfl, A', P', S2, ⟨hst, e2, hg, e3⟩, hA', hc, ?_, by rw [e7, hr.bl], fun q => ?_⟩
  ·have h4 := hr.wr
   have h5 := hr.rd
   unfold cntS
   omega
  ·have q2 : Ls' = Ls := q
   subst q2
   have := e8 (by unfold chgM; rw [chg_self]; rfl)
   rw [this]
   exact ⟨hr.bl, hr.wr⟩
theorem apply_not (h : RS A w sv dv k P S m Ls) (hN : cntS P S < 1000000000) {tv : Value} {t : List Pr} (hq : Qv w tv t) (hqA : ∀ x, tv.ownBlock = some x → ¬ A x) {c : Int} (hE : apE m k b a Ls t = some c) :
  Calls Tryz.prog 13 #[sv, .int .i64 b, .int .i64 a, tv] w (Not A w sv dv k P S m Ls c) := by
 have hrd : S.rd < 1000000000 := by unfold cntS at hN; omega
 have hwr : S.wr < 1000000000 := by unfold cntS at hN; omega
 refine (apply_walkS h.st (fun _ => h.mk0) (fun _ => h.ce) (by omega) (by omega) hq hqA b a).mono ?_
 rintro e w1 (⟨q, _⟩ | ⟨_, c', S', q, rfl, hst, hr, hc⟩ | ⟨_, q, _⟩)
 ·rw [h.open] at q; cases q
 ·rw [hE] at q
  cases q
  exact ⟨rfl, S', h.rdd hst hr, hr, hc⟩
 ·rw [hE] at q; cases q
theorem query_rs (h : RS A w sv dv k P S m Ls) (hN : cntS P S < 1000000000) (key : Nat) (n : Int) :
  Calls Tryz.prog 22 #[sv, .int .u64 key, .int .i64 n] w fun e w' => e = .returned (.tuple #[.agg #[.bool (shRes Ls key n).h, .int .u64 (shRes Ls key n).b], .int .i64 0]) ∧ ∃ S', RS A w' sv dv k P S' m Ls ∧ Rdd 6 S S' ∧ Ch A w w' := by
 have hrd : S.rd < 1000000000 := by unfold cntS at hN; omega
 refine (query_walk h.st (fun _ => h.ce) (by omega) key n).mono ?_
 rintro e w1 ⟨c, v, S', rfl, ⟨q, _⟩ | ⟨_, rfl, rfl⟩, hst, hr, hc⟩
 ·rw [h.open] at q; cases q
 ·rw [getB_ok h.open] at hst
  exact ⟨rfl, S', h.rdd hst hr, hr, hc⟩
theorem mark_rs (h : RS A w sv dv k P S m Ls) (hN : cntS P S < 1000000000) :
  Calls Tryz.prog 9 #[sv] w fun e w' => ∃ v, e = .returned (.tuple #[.agg #[.int .i64 m.b, .int .i64 m.a, v], .int .i64 0]) ∧ w'.ownsRow w.heap.size 33 1 v m.k.length ((ib m.k).map (Value.int .u64)) ∧ ∃ S', RS A w' sv dv k P S' m Ls ∧ Rdd 1 S S' ∧ Ch A w w' := by
 have hrd : S.rd < 1000000000 := by unfold cntS at hN; omega
 refine (smark_walk h.st (by omega)).mono ?_
 rintro e w1 ⟨c, m1, v, S', rfl, ho, hh, hst, hr, hc⟩
 rw [getB_ok h.open] at hst
 rcases hh with ⟨_, q, _⟩ | ⟨_, _, q, _⟩ | ⟨rfl, _, q⟩
 ·rw [h.open] at q; cases q
 ·rw [h.mk0] at q; simp at q
 ·rw [h.mk0] at q
  cases q
  exact ⟨v, rfl, ho, S', h.rdd hst hr, hr, hc⟩
end
end
end Go.Proofs.YtofkhgokfdpdiabGreat
