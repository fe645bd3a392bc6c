/- Contract of msg's Encode. -/
import Derived.Test.YthkkbdmbmkgjpaaJi

import Derived.Test.YthkkbdmbmkgjpaaJg

import Derived.Test.YthkkbdmbmkgjpaaWw

namespace Go.Proofs.Ythkkbdmbmkgjpaa

open Go.RowKit



/-- What Encode leaves. -/
def EGot (m : Ms) (w : World) (e : Ending) (w' : World) : Prop :=
  ∃ v, e = .returned (.tuple #[v, .int .i64 ((encS m).2 : Nat)]) ∧ w'.ownsRow w.heap.size 5 1 v (encS m).1.length (cb (encS m).1) ∧ Below w.heap.size w w'
def hdI (m : Ms) : List Int := [m.K, m.F, m.T, m.B, m.A]
theorem head_all (m : Ms) : headL m = Wm.encAll (nats (hdI m)) := by simp [headL, hdI, nats, Wm.encAll]
theorem encAll_take {l : List Nat} {i : Nat} (hi : i < l.length) : Wm.encAll (l.take (i + 1)) = Wm.encAll (l.take i) ++ Wm.enc l[i] := by
  rw [List.take_succ_eq_append_getElem hi, encAll_append]
  simp [Wm.encAll]
theorem pairL_take {l : List Pr} {i : Nat} (hi : i < l.length) : pairL (l.take (i + 1)) = pairL (l.take i) ++ (Wm.enc l[i].k ++ Wm.wd l[i].v.b) := by
  rw [List.take_succ_eq_append_getElem hi, pairL_append]
  simp [pairL]
theorem encAll_tlen (l : List Nat) (i : Nat) : (Wm.encAll (l.take i)).length ≤ 10 * l.length := by
  have := encAll_len (l.take i)
  rw [List.length_take] at this
  omega
theorem pairL_tlen (l : List Pr) (i : Nat) : (pairL (l.take i)).length ≤ 18 * l.length := by
  have := pairL_len (l.take i)
  rw [List.length_take] at this
  omega


/-- Where Encode stands: N its message, G + 1 the variable b, G + 2 the head's numbers. -/
def AG (G : Nat) (x : Nat) : Prop := x = G + 1 ∨ x = G + 2
structure EI (w0 : World) (N G : Nat) (m : Ms) (ev qv pv : Value) (L : List Nat) (w : World) : Prop where
  n : N = w0.heap.size
  g : N < G
  mx : MX w N m ev qv pv
  eb : ∃ v, EB (AG G) (N + 1) (G + 1) L w v
  arr : ∀ i, i < 5 → w.cell? ⟨G + 2, i, none⟩ = some (.int .i64 ((hdI m).getD i 0))
  below : Below N w0 w
theorem EI.turn {w0 w w' : World} {N G : Nat} {m : Ms} {ev qv pv : Value} {L L' : List Nat} (h : EI w0 N G m ev qv pv L w) (he : ∃ v, EB (AG G) (N + 1) (G + 1) L' w' v) (hc : Ch (Wn (AG G) (N + 1) (G + 1)) w w') : EI w0 N G m ev qv pv L' w' :=
  ⟨h.n, h.g, h.mx.ch hc (by rintro (e | ⟨e, _⟩); have := h.g; omega; omega), he, fun i hi => hc.cell (h.arr i hi) (by rintro (e | ⟨_, e⟩); simp only at e; omega; exact e (.inr rfl)),
    h.below.trans (hc.to_below (Nat.le_of_lt (cell_lt h.mx.c0)) (fun x hx => by rcases hx with e | e; have := h.g; omega; omega))⟩
theorem EI.old {w0 w w' : World} {N G : Nat} {m : Ms} {ev qv pv : Value} {L : List Nat} (h : EI w0 N G m ev qv pv L w) (hb : Below w.heap.size w w') : EI w0 N G m ev qv pv L w' :=
  h.turn (by obtain ⟨v, hv⟩ := h.eb; exact ⟨v, hv.below hb⟩) (Ch.of_below hb)
theorem ei_new {w w2 : World} {m : Ms} {ev qv pv : Value} (hx : MX w2 w.heap.size m ev qv pv) (hb : Below w.heap.size w w2) :
    EI w w.heap.size w2.heap.size m ev qv pv [] (((w2.alloc (Obj.cells #[] 5)).alloc (Obj.cells #[.slice (some ⟨w2.heap.size, 0, none⟩) 0 0] 28)).alloc (Obj.cells #[.int .i64 m.K, .int .i64 m.F, .int .i64 m.T, .int .i64 m.B, .int .i64 m.A] 3)) := by
  have hB : Below w2.heap.size w2 (((w2.alloc (Obj.cells #[] 5)).alloc (Obj.cells #[.slice (some ⟨w2.heap.size, 0, none⟩) 0 0] 28)).alloc (Obj.cells #[.int .i64 m.K, .int .i64 m.F, .int .i64 m.T, .int .i64 m.B, .int .i64 m.A] 3)) :=
    below_trans (below_trans (below_alloc _ _) (below_alloc _ _)) (below_alloc _ _)
  have hlt : w.heap.size < w2.heap.size := cell_lt hx.c0
  have ho : (w2.alloc (Obj.cells #[] 5)).ownsRow (w.heap.size + 1) 5 1 (.slice (some ⟨w2.heap.size, 0, none⟩) 0 0) 0 [] := own_baseC (World.ownsRow_made w2 #[] 0 (Nat.le_refl _) (by simp [maxLen]) rfl) hlt
  refine ⟨rfl, hlt, hx.keep hB, ⟨_, ⟨by simp [go_sem], by intro j; simp [go_sem], own_belowC ho (below_trans (below_alloc _ _) (below_alloc _ _)), ?_, .inl rfl, ?_, by omega⟩⟩, ?_, below_trans hb hB⟩
  · intro x e
    simp only [Value.ownBlock, Option.some.injEq] at e
    subst e
    rintro (e | e) <;> omega
  · intro x e
    simp [go_sem]
    rcases e with e | e <;> omega
  · intro i hi
    have : i = 0 ∨ i = 1 ∨ i = 2 ∨ i = 3 ∨ i = 4 := by omega
    rcases this with rfl | rfl | rfl | rfl | rfl <;> simp [go_sem, hdI]


theorem EB.more {A : Nat → Prop} {base BB : Nat} {L : List Nat} {w : World} {v : Value} (h : EB A base BB L w v) (ob : Obj) : EB (fun z => A z ∨ z = w.heap.size) base BB L (w.alloc ob) v := by
  have k := h.below (below_alloc w ob)
  refine ⟨k.c, k.z, k.own, fun x hx e => ?_, .inl h.ab, fun x e => ?_, h.bb⟩
  · rcases e with e | e
    · exact h.ne x hx e
    · have := (own_lt h.own hx).2
      omega
  · rcases e with e | e
    · exact k.al x e
    · rw [e, size_allocC]; omega
theorem EB.less {A : Nat → Prop} {base g : Nat} {L : List Nat} {w : World} {v : Value} (h : EB (fun z => AG g z ∨ A z) base (g + 1) L w v) : EB (AG g) base (g + 1) L w v :=
  ⟨h.c, h.z, h.own, fun x hx e => h.ne x hx (.inl e), .inl rfl, fun x e => h.al x (.inl e), h.bb⟩
theorem encS_bad {m : Ms} (h : sndM m = false) : encS m = ([], 150) := by unfold encS; rw [if_neg (by simp [h])]
theorem encS_ok {m : Ms} (h : sndM m = true) : encS m = (headL m ++ restL m, 0) := by unfold encS; rw [if_pos h]; rfl
set_option maxHeartbeats 1000000 in
theorem menc_bad {w : World} {m : Ms} {ev qv pv : Value} (h : ML w m ev qv pv) (hs : sndM m = false) : Calls Try.prog 10 #[.agg #[.int .i64 m.K, .int .i64 m.F, .int .i64 m.T, .int .i64 m.B, .int .i64 m.A, .int .i64 m.C, ev, qv, pv]] w (EGot m w) := by
  have HB : Hid (Below w.heap.size w (w.alloc (Obj.cells #[.int .i64 m.K, .int .i64 m.F, .int .i64 m.T, .int .i64 m.B, .int .i64 m.A, .int .i64 m.C, ev, qv, pv] 26))) := below_alloc _ _
  have HV : Hid (ML (w.alloc (Obj.cells #[.int .i64 m.K, .int .i64 m.F, .int .i64 m.T, .int .i64 m.B, .int .i64 m.A, .int .i64 m.C, ev, qv, pv] 26)) m ev qv pv) := h.below (below_alloc _ _)
  have HS : Hid (sndM m = false) := hs
  have HEN : Hid (encS m = ([], 150)) := encS_bad hs
  clear h hs
  go_enter Try.func10, Try.ntmps10
  go_wp2_with fail
  refine (sound_walk HV.out).mono ?_
  rw [HS.out]
  rintro e w2 ⟨rfl, hB2⟩
  go_wp2_with fail
  go_ret2
  exact ⟨_, by rw [HEN.out]; rfl, by rw [HEN.out]; exact ⟨by simp [cb, ib], .inl ⟨rfl, rfl⟩⟩, below_trans HB.out hB2⟩


set_option maxRecDepth 100000 in
set_option maxHeartbeats 8000000 in
theorem menc_good {w : World} {m : Ms} {ev qv pv : Value} (h : ML w m ev qv pv) (hok : m.ok) (hs : sndM m = true) : Calls Try.prog 10 #[.agg #[.int .i64 m.K, .int .i64 m.F, .int .i64 m.T, .int .i64 m.B, .int .i64 m.A, .int .i64 m.C, ev, qv, pv]] w (EGot m w) := by
  have hmf : ∀ (fn : Fn) (first cap : Array Value) (w : World), (Instr.makeFunc fn first cap).run Try.prog w = .ok (.func fn first cap) w := fun _ _ _ _ => rfl
  have HB : Hid (Below w.heap.size w (w.alloc (Obj.cells #[.int .i64 m.K, .int .i64 m.F, .int .i64 m.T, .int .i64 m.B, .int .i64 m.A, .int .i64 m.C, ev, qv, pv] 26))) := below_alloc _ _
  have HV : Hid (ML (w.alloc (Obj.cells #[.int .i64 m.K, .int .i64 m.F, .int .i64 m.T, .int .i64 m.B, .int .i64 m.A, .int .i64 m.C, ev, qv, pv] 26)) m ev qv pv) := h.below (below_alloc _ _)
  have HMX : Hid (MX (w.alloc (Obj.cells #[.int .i64 m.K, .int .i64 m.F, .int .i64 m.T, .int .i64 m.B, .int .i64 m.A, .int .i64 m.C, ev, qv, pv] 26)) w.heap.size m ev qv pv) := mx_new w m ev qv pv
  have HVW : Hid (ML w m ev qv pv) := h
  have HS : Hid (sndM m = true) := hs
  have HP : Hid (SndP m) := snd_parts hs
  have HEN : Hid (encS m = (headL m ++ restL m, 0)) := encS_ok hs
  have HHL : Hid ((headL m).length ≤ 50) := headL_len m
  have HOK : Hid m.ok := hok
  obtain ⟨N, hN⟩ : ∃ N, N = w.heap.size := ⟨_, rfl⟩
  have HN : Hid (N = w.heap.size) := hN
  obtain ⟨ea, en, ec, rfl, he, _⟩ := sv_le h.e
  obtain ⟨qa, qn, qc, rfl, hq, _⟩ := sv_le h.q
  obtain ⟨pa, pn, pc, rfl, hp, hpm⟩ := qv_le h.p
  rw [ib_len] at hq
  have HEL : Hid (en = m.E.length) := he
  have HQL : Hid (qn = m.Q.length) := hq
  have HPL : Hid (pn = m.P.length) := hp
  clear h hs he hq hp hpm hok
  go_enter Try.func10, Try.ntmps10
  go_wp2_with fail
  refine (sound_walk HV.out).mono ?_
  rw [HS.out]
  rintro e w2 ⟨rfl, hB2⟩
  have hM2 := HMX.out.keep hB2
  have HI := ei_new hM2 (below_trans HB.out hB2)
  rw [← hN] at HI hM2
  replace HI : Hid _ := HI
  have hM4 := hM2.keep (below_trans (below_alloc w2 (Obj.cells #[] 5)) (below_alloc _ (Obj.cells #[.slice (some ⟨w2.heap.size, 0, none⟩) 0 0] 28)))
  have hsz : ((w2.alloc (Obj.cells #[] 5)).alloc (Obj.cells #[.slice (some ⟨w2.heap.size, 0, none⟩) 0 0] 28)).heap.size = w2.heap.size + 2 := by simp [go_sem]
  clear hM2 HMX HB HV
  rw [← hN]
  clear hN
  go_upto_region 5 with fail
  obtain ⟨G, hG⟩ : ∃ G, G = w2.heap.size := ⟨_, rfl⟩
  rw [← hG] at HI hM4 hsz
  rw [← hG]
  generalize (w2.alloc (Obj.cells #[] 5)).alloc (Obj.cells #[.slice (some ⟨G, 0, none⟩) 0 0] 28) = w4 at HI hM4 hsz ⊢
  have k0 := hM4.c0; have k1 := hM4.c1; have k2 := hM4.c2; have k3 := hM4.c3; have k4 := hM4.c4
  have HSZ : Hid (w4.heap.size = G + 2) := hsz
  clear hG hM4 hB2 hmf hsz
  go_upto_region 6 with fail
  rw [HSZ.out]
  generalize w4.alloc (Obj.cells #[.int .i64 m.K, .int .i64 m.F, .int .i64 m.T, .int .i64 m.B, .int .i64 m.A] 3) = w5 at HI ⊢
  clear k0 k1 k2 k3 k4
  have HH : Hid (∀ i, i < 5 → 0 ≤ (hdI m).getD i 0 ∧ (hdI m).getD i 0 ≤ 1099511627776) := by
    intro i hi
    have h1 := HP.out.k; have h2 := HP.out.f; have h3 := HP.out.t; have h4 := HP.out.b; have h5 := HP.out.a
    have : i = 0 ∨ i = 1 ∨ i = 2 ∨ i = 3 ∨ i = 4 := by omega
    rcases this with rfl | rfl | rfl | rfl | rfl <;> simp [hdI] <;> omega
  go_loopw [31] (fun iv wr => ∃ i : Nat, iv = .int .i64 i ∧ i ≤ 5 ∧ EI w N G m (.slice ea en ec) (.slice qa qn qc) (.slice pa pn pc) (Wm.encAll ((nats (hdI m)).take i)) wr) (fun iv _ => 5 - (intOf iv).toNat)
  case atStart => exact ⟨0, rfl, by omega, HI.out⟩
  case round =>
    clear HI
    obtain ⟨i, rfl, hi5, hei⟩ := hrel
    have HI : Hid (EI w N G m (.slice ea en ec) (.slice qa qn qc) (.slice pa pn pc) (Wm.encAll ((nats (hdI m)).take i)) wr) := hei
    clear hei
    by_cases hlt : i < 5
    · have hlti : (i : Int) < 5 := by omega
      have hc := HI.out.arr i hlt
      obtain ⟨x, hx⟩ : ∃ x : Nat, (hdI m).getD i 0 = (x : Int) := ⟨((hdI m).getD i 0).toNat, by have := (HH.out i hlt).1; omega⟩
      rw [hx] at hc
      have hxb := (HH.out i hlt).2
      rw [hx] at hxb
      have HXB : Hid (x < 18446744073709551616) := by show _ < _; omega
      have hwx : IntKind.u64.wrap (x : Int) = (x : Int) := wrap_u64_id (by omega) (by omega)
      have HNX : Hid (Wm.encAll ((nats (hdI m)).take (i + 1)) = Wm.encAll ((nats (hdI m)).take i) ++ Wm.enc x) := by
        show _ = _
        rw [encAll_take (by simp [nats, hdI]; omega)]
        congr 2
        have e : i < (hdI m).length := by simp [hdI]; omega
        simp only [nats, List.getElem_map]
        have : (hdI m)[i] = (x : Int) := by rw [← hx]; simp [List.getD, List.getElem?_eq_getElem e]
        rw [this]; rfl
      have HLE : Hid ((Wm.encAll ((nats (hdI m)).take i)).length ≤ 5000) := by have h2 := encAll_tlen (nats (hdI m)) i; rw [show (nats (hdI m)).length = 5 from rfl] at h2; show _ ≤ _; omega
      obtain ⟨v, hv⟩ := HI.out.eb
      have HE : Hid _ := hv
      clear hx hxb hv
      go_wp2_with fail
      refine (write_walk HE.out x HXB.out HLE.out).mono ?_
      rintro e w6 ⟨rfl, h6, hC6⟩
      rw [← HNX.out] at h6
      have HI6 : Hid _ := HI.out.turn h6 hC6
      clear h6 hC6 hc HI HE
      go_wp2_with fail
      go_roundw
      case rel => exact ⟨i + 1, by simp, by omega, HI6.out⟩
      case measure => simp [intOf]; omega
    · have hlti : ¬ (i : Int) < 5 := by omega
      obtain rfl : i = 5 := by omega
      have HI2 : Hid (EI w N G m (.slice ea en ec) (.slice qa qn qc) (.slice pa pn pc) (headL m) wr) := by have h := HI.out; rw [List.take_of_length_le (by simp [nats, hdI]), ← head_all] at h; exact h
      clear HI HH
      have k0 := HI2.out.mx.c0
      obtain ⟨wo, hwo⟩ : ∃ wo, wo = wr := ⟨_, rfl⟩
      subst hwo
      go_wp2_with fail
      refine (asks_walk m.K _).mono ?_
      rcases fld_cases m.K with hf | hf | hf | hf | hf
      · exact absurd hf HP.out.g
      · rw [hf]
        have hpa := ends_parts HP.out.ask hf
        have H64 : Hid (m.E.length ≤ 64) := by show _ ≤ _; omega
        have HEB : Hid (∀ x ∈ m.E, 0 ≤ x ∧ x ≤ 256) := hpa.2.2
        have HRS : Hid (restL m = Wm.enc m.E.length ++ Wm.encAll (nats m.E)) := by show _ = _; unfold restL; rw [hf]; simp
        have HZ : Hid (headL m ++ Wm.enc m.E.length = headL m ++ (Wm.enc m.E.length ++ Wm.encAll ((nats m.E).take 0))) := by show _ = _; simp [Wm.encAll]
        rintro e w4 ⟨rfl, hw4⟩
        replace hw4 := hw4.symm
        subst hw4
        clear hpa hf k0
        have k6 := HI2.out.mx.c6
        obtain ⟨v, hv⟩ := HI2.out.eb
        have HE : Hid _ := hv
        clear hv
        have hwn : IntKind.u64.wrap (en : Int) = (en : Int) := wrap_u64_id (by omega) (by have := HEL.out; have := H64.out; omega)
        go_wp2_with fail
        refine (write_walk HE.out en (by have := HEL.out; have := H64.out; omega) (by have := HHL.out; omega)).mono ?_
        rintro e w6 ⟨rfl, h6, hC6⟩
        rw [HEL.out, HZ.out] at h6
        have HI6 : Hid (EI w N G m (.slice ea en ec) (.slice qa qn qc) (.slice pa pn pc) (headL m ++ (Wm.enc m.E.length ++ Wm.encAll ((nats m.E).take 0))) w6) := HI2.out.turn h6 hC6
        clear h6 hC6 k6 HI2 HE hwn
        have k6 := HI6.out.mx.c6
        go_wp2_with fail
        have hnb : (en : Int) ≤ 64 := by have := HEL.out; have := H64.out; omega
        go_loopw [54] (fun iv wr => ∃ i : Nat, iv = .int .i64 i ∧ i ≤ m.E.length ∧ EI w N G m (.slice ea en ec) (.slice qa qn qc) (.slice pa pn pc) (headL m ++ (Wm.enc m.E.length ++ Wm.encAll ((nats m.E).take i))) wr) (fun iv _ => m.E.length - (intOf iv).toNat)
        case atStart => exact ⟨0, rfl, by omega, HI6.out⟩
        case round =>
          clear HI6 k6
          obtain ⟨i, rfl, hil, hei⟩ := hrel
          have HI : Hid (EI w N G m (.slice ea en ec) (.slice qa qn qc) (.slice pa pn pc) (headL m ++ (Wm.enc m.E.length ++ Wm.encAll ((nats m.E).take i))) wr) := hei
          clear hei
          have HVR : Hid (ML wr m (.slice ea en ec) (.slice qa qn qc) (.slice pa pn pc)) := HVW.out.below (by have h := HI.out.below; rw [HN.out] at h; exact h)
          have HLE : Hid ((headL m ++ (Wm.enc m.E.length ++ Wm.encAll ((nats m.E).take i))).length + 100 ≤ 5000) := by
            have h1 := HHL.out; have h3 := Wm.enc_len m.E.length; have h4 := H64.out; have h2 := encAll_tlen (nats m.E) i; simp only [nats, List.length_map] at h2 ⊢
            show _ ≤ _
            simp only [List.length_append, nats] at *; omega
          by_cases hlt : i < m.E.length
          · have hlti : (i : Int) < (en : Int) := by have := HEL.out; omega
            obtain ⟨v, hv⟩ := HI.out.eb
            have HE : Hid _ := hv
            clear hv
            obtain ⟨b, off, rfl, hc⟩ := sv_at HVR.out.e hlt
            have hxr := HEB.out m.E[i] (List.getElem_mem hlt)
            obtain ⟨x, hx⟩ : ∃ x : Nat, m.E[i] = (x : Int) := ⟨m.E[i].toNat, by omega⟩
            rw [hx] at hc hxr
            have HXB : Hid (x < 18446744073709551616) := by show _ < _; omega
            have hwx : IntKind.u64.wrap (x : Int) = (x : Int) := wrap_u64_id (by omega) (by omega)
            have HNX : Hid (headL m ++ (Wm.enc m.E.length ++ Wm.encAll ((nats m.E).take (i + 1))) = (headL m ++ (Wm.enc m.E.length ++ Wm.encAll ((nats m.E).take i))) ++ Wm.enc x) := by
              show _ = _
              rw [encAll_take (by simpa [nats] using hlt)]
              simp only [nats, List.getElem_map, hx, Int.toNat_natCast, List.append_assoc]
            clear hx hxr
            go_wp2_with fail
            refine (write_walk HE.out x HXB.out (by have := HLE.out; omega)).mono ?_
            rintro e w7 ⟨rfl, h7, hC7⟩
            rw [← HNX.out] at h7
            have HI7 : Hid _ := HI.out.turn h7 hC7
            clear h7 hC7 hc HI HE
            go_wp2_with fail
            go_roundw
            case rel => exact ⟨i + 1, by simp, hlt, HI7.out⟩
            case measure => simp [intOf]; omega
          · have hlti : ¬ (i : Int) < (en : Int) := by have := HEL.out; omega
            obtain rfl : i = m.E.length := by omega
            have HI9 : Hid (EI w N G m (.slice ea en ec) (.slice qa qn qc) (.slice pa pn pc) (headL m ++ restL m) wr) := by have h := HI.out; rw [List.take_of_length_le (by simp [nats]), ← HRS.out] at h; exact h
            clear HI HVR HLE
            obtain ⟨vz, hvz⟩ := HI9.out.eb
            have cz := hvz.c
            have HOZ : Hid _ := hvz.own
            have HBZ : Hid _ := HI9.out.below
            clear hvz
            go_wp2_with fail
            go_ret2
            exact ⟨_, by rw [HEN.out]; rfl, by rw [HEN.out]; exact own_baseC HOZ.out (by have := HN.out; omega), by have h := HBZ.out; rw [HN.out] at h; exact h⟩
      · rw [hf]
        have hpa := keys_parts HP.out.ask hf
        have H64 : Hid (m.Q.length ≤ 64) := by show _ ≤ _; omega
        have HRS : Hid (restL m = Wm.enc m.Q.length ++ Wm.encAll m.Q) := by show _ = _; unfold restL; rw [hf]; simp
        have HZ : Hid (headL m ++ Wm.enc m.Q.length = headL m ++ (Wm.enc m.Q.length ++ Wm.encAll (m.Q.take 0))) := by show _ = _; simp [Wm.encAll]
        rintro e w4 ⟨rfl, hw4⟩
        replace hw4 := hw4.symm
        subst hw4
        clear hpa hf k0
        have k6 := HI2.out.mx.c7
        obtain ⟨v, hv⟩ := HI2.out.eb
        have HE : Hid _ := hv
        clear hv
        have hwn : IntKind.u64.wrap (qn : Int) = (qn : Int) := wrap_u64_id (by omega) (by have := HQL.out; have := H64.out; omega)
        go_wp2_with fail
        refine (write_walk HE.out qn (by have := HQL.out; have := H64.out; omega) (by have := HHL.out; omega)).mono ?_
        rintro e w6 ⟨rfl, h6, hC6⟩
        rw [HQL.out, HZ.out] at h6
        have HI6 : Hid (EI w N G m (.slice ea en ec) (.slice qa qn qc) (.slice pa pn pc) (headL m ++ (Wm.enc m.Q.length ++ Wm.encAll (m.Q.take 0))) w6) := HI2.out.turn h6 hC6
        clear h6 hC6 k6 HI2 HE hwn
        have k6 := HI6.out.mx.c7
        go_wp2_with fail
        have hnb : (qn : Int) ≤ 64 := by have := HQL.out; have := H64.out; omega
        go_loopw [74] (fun iv wr => ∃ i : Nat, iv = .int .i64 i ∧ i ≤ m.Q.length ∧ EI w N G m (.slice ea en ec) (.slice qa qn qc) (.slice pa pn pc) (headL m ++ (Wm.enc m.Q.length ++ Wm.encAll (m.Q.take i))) wr) (fun iv _ => m.Q.length - (intOf iv).toNat)
        case atStart => exact ⟨0, rfl, by omega, HI6.out⟩
        case round =>
          clear HI6 k6
          obtain ⟨i, rfl, hil, hei⟩ := hrel
          have HI : Hid (EI w N G m (.slice ea en ec) (.slice qa qn qc) (.slice pa pn pc) (headL m ++ (Wm.enc m.Q.length ++ Wm.encAll (m.Q.take i))) wr) := hei
          clear hei
          have HVR : Hid (ML wr m (.slice ea en ec) (.slice qa qn qc) (.slice pa pn pc)) := HVW.out.below (by have h := HI.out.below; rw [HN.out] at h; exact h)
          have HLE : Hid ((headL m ++ (Wm.enc m.Q.length ++ Wm.encAll (m.Q.take i))).length + 100 ≤ 5000) := by
            have h1 := HHL.out; have h3 := Wm.enc_len m.Q.length; have h4 := H64.out; have h2 := encAll_tlen m.Q i
            show _ ≤ _
            simp only [List.length_append] at *; omega
          by_cases hlt : i < m.Q.length
          · have hlti : (i : Int) < (qn : Int) := by have := HQL.out; omega
            obtain ⟨v, hv⟩ := HI.out.eb
            have HE : Hid _ := hv
            clear hv
            obtain ⟨b, off, rfl, hc⟩ := sv_at HVR.out.q (i := i) (by rw [ib_len]; exact hlt)
            obtain ⟨x, hx⟩ : ∃ x : Nat, m.Q[i] = x := ⟨_, rfl⟩
            have hxi : (ib m.Q)[i]'(by rw [ib_len]; exact hlt) = (x : Int) := by simp [ib, hx]
            rw [hxi] at hc
            have HXB : Hid (x < 18446744073709551616) := by show _ < _; rw [← hx]; exact HOK.out.Q _ (List.getElem_mem hlt)
            have HNX : Hid (headL m ++ (Wm.enc m.Q.length ++ Wm.encAll (m.Q.take (i + 1))) = (headL m ++ (Wm.enc m.Q.length ++ Wm.encAll (m.Q.take i))) ++ Wm.enc x) := by
              show _ = _
              rw [encAll_take hlt, hx]
              simp only [List.append_assoc]
            clear hx hxi
            go_wp2_with fail
            refine (write_walk HE.out x HXB.out (by have := HLE.out; omega)).mono ?_
            rintro e w7 ⟨rfl, h7, hC7⟩
            rw [← HNX.out] at h7
            have HI7 : Hid _ := HI.out.turn h7 hC7
            clear h7 hC7 hc HI HE
            go_wp2_with fail
            go_roundw
            case rel => exact ⟨i + 1, by simp, hlt, HI7.out⟩
            case measure => simp [intOf]; omega
          · have hlti : ¬ (i : Int) < (qn : Int) := by have := HQL.out; omega
            obtain rfl : i = m.Q.length := by omega
            have HI9 : Hid (EI w N G m (.slice ea en ec) (.slice qa qn qc) (.slice pa pn pc) (headL m ++ restL m) wr) := by have h := HI.out; rw [List.take_of_length_le (Nat.le_refl _), ← HRS.out] at h; exact h
            clear HI HVR HLE
            obtain ⟨vz, hvz⟩ := HI9.out.eb
            have cz := hvz.c
            have HOZ : Hid _ := hvz.own
            have HBZ : Hid _ := HI9.out.below
            clear hvz
            go_wp2_with fail
            go_ret2
            exact ⟨_, by rw [HEN.out]; rfl, by rw [HEN.out]; exact own_baseC HOZ.out (by have := HN.out; omega), by have h := HBZ.out; rw [HN.out] at h; exact h⟩
      · rw [hf]
        have hpa := pairs_parts HP.out.ask hf
        have H64 : Hid (m.P.length ≤ 64) := by show _ ≤ _; omega
        have HRS : Hid (restL m = Wm.enc m.P.length ++ pairL m.P) := by show _ = _; unfold restL; rw [hf]; simp
        have HZ : Hid (headL m ++ Wm.enc m.P.length = headL m ++ (Wm.enc m.P.length ++ pairL (m.P.take 0))) := by show _ = _; simp [pairL]
        rintro e w4 ⟨rfl, hw4⟩
        replace hw4 := hw4.symm
        subst hw4
        clear hpa hf k0
        have k6 := HI2.out.mx.c8
        obtain ⟨v, hv⟩ := HI2.out.eb
        have HE : Hid _ := hv
        clear hv
        have hwn : IntKind.u64.wrap (pn : Int) = (pn : Int) := wrap_u64_id (by omega) (by have := HPL.out; have := H64.out; omega)
        go_wp2_with fail
        refine (write_walk HE.out pn (by have := HPL.out; have := H64.out; omega) (by have := HHL.out; omega)).mono ?_
        rintro e w6 ⟨rfl, h6, hC6⟩
        rw [HPL.out, HZ.out] at h6
        have HI6 : Hid (EI w N G m (.slice ea en ec) (.slice qa qn qc) (.slice pa pn pc) (headL m ++ (Wm.enc m.P.length ++ pairL (m.P.take 0))) w6) := HI2.out.turn h6 hC6
        clear h6 hC6 k6 HI2 HE hwn
        have k6 := HI6.out.mx.c8
        go_wp2_with fail
        have hnb : (pn : Int) ≤ 64 := by have := HPL.out; have := H64.out; omega
        go_loopw [93] (fun iv wr => ∃ i : Nat, iv = .int .i64 i ∧ i ≤ m.P.length ∧ EI w N G m (.slice ea en ec) (.slice qa qn qc) (.slice pa pn pc) (headL m ++ (Wm.enc m.P.length ++ pairL (m.P.take i))) wr) (fun iv _ => m.P.length - (intOf iv).toNat)
        case atStart => exact ⟨0, rfl, by omega, HI6.out⟩
        case round =>
          clear HI6 k6
          obtain ⟨i, rfl, hil, hei⟩ := hrel
          have HI : Hid (EI w N G m (.slice ea en ec) (.slice qa qn qc) (.slice pa pn pc) (headL m ++ (Wm.enc m.P.length ++ pairL (m.P.take i))) wr) := hei
          clear hei
          have HVR : Hid (ML wr m (.slice ea en ec) (.slice qa qn qc) (.slice pa pn pc)) := HVW.out.below (by have h := HI.out.below; rw [HN.out] at h; exact h)
          have HLE : Hid ((headL m ++ (Wm.enc m.P.length ++ pairL (m.P.take i))).length + 100 ≤ 5000) := by
            have h1 := HHL.out; have h3 := Wm.enc_len m.P.length; have h4 := H64.out; have h2 := pairL_tlen m.P i
            show _ ≤ _
            simp only [List.length_append] at *; omega
          by_cases hlt : i < m.P.length
          · have hlti : (i : Int) < (pn : Int) := by have := HPL.out; omega
            obtain ⟨v, hv⟩ := HI.out.eb
            have HE : Hid _ := hv
            clear hv
            obtain ⟨b, off, hpa, d0, d1, d2⟩ := HVR.out.p.ql i hlt
            subst hpa
            obtain ⟨p, hp⟩ : ∃ p, p = m.P[i] := ⟨_, rfl⟩
            rw [← hp] at d0 d1 d2
            have HPO : Hid p.ok := by show Pr.ok _; rw [hp]; exact HOK.out.P _ (List.getElem_mem hlt)
            obtain ⟨x, hx⟩ : ∃ x, x = p.k := ⟨_, rfl⟩
            obtain ⟨y, hy⟩ : ∃ y, y = p.v.b := ⟨_, rfl⟩
            obtain ⟨t, ht⟩ : ∃ t, t = p.v.h := ⟨_, rfl⟩
            rw [← hx] at d0
            rw [← ht] at d1
            rw [← hy] at d2
            have HXB : Hid (x < 18446744073709551616) := by show _ < _; rw [hx]; exact HPO.out.1
            have HYB : Hid (y < 18446744073709551616) := by show _ < _; rw [hy]; exact HPO.out.2
            have HNX : Hid (headL m ++ (Wm.enc m.P.length ++ pairL (m.P.take (i + 1))) = ((headL m ++ (Wm.enc m.P.length ++ pairL (m.P.take i))) ++ Wm.enc x) ++ Wm.wd y) := by
              show _ = _
              rw [pairL_take hlt, ← hp, ← hx, ← hy]
              simp only [List.append_assoc]
            clear hp hx hy ht
            go_upto_region 30 with fail
            obtain ⟨g, hg⟩ : ∃ g, g = wr.heap.size := ⟨_, rfl⟩
            have HEA : Hid (EB (fun z => AG G z ∨ z = g) (N + 1) (G + 1) (headL m ++ (Wm.enc m.P.length ++ pairL (m.P.take i))) (wr.alloc (Obj.cells #[.int .u64 x, .bool t, .int .u64 y] 42)) v) := by rw [hg]; exact HE.out.more _
            have HIA : Hid (EI w N G m (.slice ea en ec) (.slice qa qn qc) (.slice (some ⟨b, off, none⟩) pn pc) (headL m ++ (Wm.enc m.P.length ++ pairL (m.P.take i))) (wr.alloc (Obj.cells #[.int .u64 x, .bool t, .int .u64 y] 42))) := HI.out.old (below_alloc _ _)
            have q0 : (wr.alloc (Obj.cells #[.int .u64 x, .bool t, .int .u64 y] 42)).cell? ⟨g, 0, none⟩ = some (.int .u64 x) := by rw [hg]; simp [go_sem]
            have q2 : (wr.alloc (Obj.cells #[.int .u64 x, .bool t, .int .u64 y] 42)).cell? ⟨g, 2, none⟩ = some (.int .u64 y) := by rw [hg]; simp [go_sem]
            have HGG : Hid (G + 1 ≠ g) := by have := HE.out.al _ HE.out.ab; show _ ≠ _; omega
            rw [← hg]
            generalize wr.alloc (Obj.cells #[.int .u64 x, .bool t, .int .u64 y] 42) = wA at HEA HIA q0 q2 ⊢
            clear hg d0 d1 d2 HE HI HVR
            go_wp2_with fail
            refine (write_walk HEA.out x HXB.out (by have := HLE.out; omega)).mono ?_
            rintro e w7 ⟨rfl, ⟨v7, h7⟩, hC7⟩
            have HE7 : Hid _ := h7
            have r2 : w7.cell? ⟨g, 2, none⟩ = some (.int .u64 y) := hC7.cell q2 (by rintro (e | ⟨_, e⟩); exact HGG.out e.symm; exact e (.inr rfl))
            have HC7 : Hid (Ch (Wn (AG G) (N + 1) (G + 1)) wA w7) := hC7.mono (fun z hz => by rcases hz with e | ⟨e1, e2⟩; exact .inl e; exact .inr ⟨e1, fun q => e2 (.inl q)⟩)
            clear h7 hC7 q0 q2 HEA
            have c7 := HE7.out.c
            have HBS : Hid (N + 1 ≤ w7.heap.size) := by have h1 := HE7.out.al _ HE7.out.ab; have h2 := HE7.out.bb; show _ ≤ _; omega
            go_wp2_with fail
            refine wp_region_noPanic ?_
            refine wp_region_held_drew (S := fun wx => wx.cell? ⟨g, 2, none⟩ = some (.int .u64 y)) (by kernel_rfl) ?_ (fun hHeld => ?_)
            · exact r2
            refine wpAnyH_take (i := 1) (oi := ⟨some 102, _, _, _, _, _⟩) (v := ?_) rfl (by kernel_rfl) (by kernel_rfl) (by kernel_rfl) (fun _ _ _ h => h) (Or.inl ⟨by rfl, ?_⟩) hHeld ?_
            rotate_left
            · intro w hSw; (try dsimp only at hSw); go_simp; all_goals (with_reducible rfl)
            try simp only [Act.put, List.setIfInBounds_toArray, List.set_cons_zero, List.set_cons_succ]
            refine wpAnyH_take (i := 2) (oi := ⟨some 103, _, _, _, _, _⟩) (v := ?_) rfl (by kernel_rfl) (by kernel_rfl) (by kernel_rfl) (fun _ _ _ h => h) (Or.inl ⟨by rfl, ?_⟩) hHeld ?_
            rotate_left
            · intro w hSw; (try dsimp only at hSw); go_simp; all_goals (with_reducible rfl)
            try simp only [Act.put, List.setIfInBounds_toArray, List.set_cons_zero, List.set_cons_succ]
            refine wpAnyH_take (i := 3) (oi := ⟨some 104, _, _, _, _, _⟩) (v := ?_) rfl (by kernel_rfl) (by kernel_rfl) (by kernel_rfl) (fun _ _ _ h => h) (Or.inl ⟨by rfl, ?_⟩) hHeld ?_
            rotate_left
            · intro w hSw; (try dsimp only at hSw); go_simp; all_goals (with_reducible rfl)
            try simp only [Act.put, List.setIfInBounds_toArray, List.set_cons_zero, List.set_cons_succ]
            refine wpAnyH_ready (rs := [0, 4]) (by kernel_rfl) (by simp) ?_
            refine AllReadyH.cons (o := ⟨some 101, _, _, _, _, _⟩) rfl (fun K hK => ?_) (AllReadyH.cons (o := ⟨some 105, _, _, _, _, _⟩) rfl (fun K hK => ?_) AllReadyH.nil)
            · go_simp
              refine hK.out _ _ ?_ (fun hHeld => ?_)
              · exact hHeld
              clear hK K
              try simp only [Act.put, List.setIfInBounds_toArray, List.set_cons_zero, List.set_cons_succ]
              refine wpAnyH_ready (rs := [4]) (by kernel_rfl) (by simp) ?_
              refine AllReadyH.cons (o := ⟨some 105, _, _, _, _, _⟩) rfl (fun K hK => ?_) AllReadyH.nil
              go_simp
              refine (word_walk y _).mono ?_
              rintro e9 w8 ⟨y8, rfl, hy8, hB8⟩
              have HY : Hid (Sv .u8 w8 y8 (ib (Wm.wd y))) := own_sv hy8
              have HB8 : Hid (Below w7.heap.size w7 w8) := below_trans (below_drewN w7 1) hB8
              have HE8 : Hid _ := HE7.out.below HB8.out
              have c8 := HE8.out.c
              have s8 : w8.cell? ⟨g, 2, none⟩ = some (.int .u64 y) := by rw [HB8.out.cell (p := ⟨g, 2, none⟩) (cell_lt r2)]; exact r2
              clear hy8 hB8
              refine hK.out _ _ ?_ (fun hHeld => ?_)
              · exact s8
              clear hK K
              try simp only [Act.put, List.setIfInBounds_toArray, List.set_cons_zero, List.set_cons_succ]
              refine wpAnyH_ready (rs := [5]) (by kernel_rfl) (by simp) ?_
              refine AllReadyH.cons (o := ⟨some 106, _, _, _, _, _⟩) rfl (fun K hK => ?_) AllReadyH.nil
              refine step_app_by rfl (.tmp 101) (.tmp 105) rfl (N + 1) v7 ((headL m ++ (Wm.enc m.P.length ++ pairL (m.P.take i))) ++ Wm.enc x) (by simp [Act.eval]) HE8.out.own y8 (Wm.wd y) (by simp [Act.eval]) HY.out (by have h1 := HLE.out; have h2 := Wm.enc_len x; have h3 := Wm.wd_len y; rw [List.length_append]; omega) (Nat.le_trans HBS.out HB8.out.size) ?_
              intro v9 w9 hown hgrow hat
              obtain ⟨va, vn, vc, hv9⟩ := sv_any (own_sv (l := ib (((headL m ++ (Wm.enc m.P.length ++ pairL (m.P.take i))) ++ Wm.enc x) ++ Wm.wd y)) hown)
              subst hv9
              obtain ⟨e0, ez, hE9, hC9, hC10⟩ := HE8.out.app hown hgrow hat
              have s9 : w9.cell? ⟨g, 2, none⟩ = some (.int .u64 y) := hC9.cell s8 (by rintro (e | ⟨_, e⟩); exact HGG.out e.symm; exact e (.inr rfl))
              have s10 : (w9.setCell ⟨G + 1, 0, none⟩ (.slice va vn vc)).cell? ⟨g, 2, none⟩ = some (.int .u64 y) := hC10.cell s8 (by rintro (e | ⟨_, e⟩); exact HGG.out e.symm; exact e (.inr rfl))
              have HE10 : Hid _ := hE9.less
              have HC10 : Hid (Ch (Wn (AG G) (N + 1) (G + 1)) wA (w9.setCell ⟨G + 1, 0, none⟩ (.slice va vn vc))) := HC7.out.self ((Ch.of_below HB8.out).self (hC10.mono (fun z hz => by rcases hz with e | ⟨e1, e2⟩; exact .inl e; exact .inr ⟨e1, fun q => e2 (.inl q)⟩)))
              clear hE9 hC9 hC10 hown hgrow hat
              refine hK.out _ _ ?_ (fun hHeld => ?_)
              · exact s9
              clear hK K
              try simp only [Act.put, List.setIfInBounds_toArray, List.set_cons_zero, List.set_cons_succ]
              refine wpAnyH_ready (rs := [6]) (by kernel_rfl) (by simp) ?_
              refine AllReadyH.cons (o := ⟨none, _, _, _, _, _⟩) rfl (fun K hK => ?_) AllReadyH.nil
              go_simp
              refine hK.out _ _ ?_ (fun hHeld => ?_)
              · exact s10
              clear hK K
              try simp only [Act.put, List.setIfInBounds_toArray, List.set_cons_zero, List.set_cons_succ]
              refine wpAnyH_done (by kernel_rfl) ?_ _
              refine NoPanic.normal ?_
              have hei := HE10.out
              rw [← HNX.out] at hei
              have HI11 : Hid _ := HIA.out.turn ⟨_, hei⟩ HC10.out
              clear hei HE10 HC10 HE8 HE7 HIA
              go_wp2_with fail
              go_roundw
              case rel => exact ⟨i + 1, by simp, hlt, HI11.out⟩
              case measure => simp [intOf]; omega
            · go_simp
              refine (word_walk y _).mono ?_
              rintro e9 w8 ⟨y8, rfl, hy8, hB8⟩
              have HY : Hid (Sv .u8 w8 y8 (ib (Wm.wd y))) := own_sv hy8
              have HB8 : Hid (Below w7.heap.size w7 w8) := below_trans (below_drewN w7 1) hB8
              have HE8 : Hid _ := HE7.out.below HB8.out
              have c8 := HE8.out.c
              have s8 : w8.cell? ⟨g, 2, none⟩ = some (.int .u64 y) := by rw [HB8.out.cell (p := ⟨g, 2, none⟩) (cell_lt r2)]; exact r2
              clear hy8 hB8
              refine hK.out _ _ ?_ (fun hHeld => ?_)
              · exact s8
              clear hK K
              try simp only [Act.put, List.setIfInBounds_toArray, List.set_cons_zero, List.set_cons_succ]
              refine wpAnyH_ready (rs := [0]) (by kernel_rfl) (by simp) ?_
              refine AllReadyH.cons (o := ⟨some 101, _, _, _, _, _⟩) rfl (fun K hK => ?_) AllReadyH.nil
              go_simp
              refine hK.out _ _ ?_ (fun hHeld => ?_)
              · exact hHeld
              clear hK K
              try simp only [Act.put, List.setIfInBounds_toArray, List.set_cons_zero, List.set_cons_succ]
              refine wpAnyH_ready (rs := [5]) (by kernel_rfl) (by simp) ?_
              refine AllReadyH.cons (o := ⟨some 106, _, _, _, _, _⟩) rfl (fun K hK => ?_) AllReadyH.nil
              refine step_app_by rfl (.tmp 101) (.tmp 105) rfl (N + 1) v7 ((headL m ++ (Wm.enc m.P.length ++ pairL (m.P.take i))) ++ Wm.enc x) (by simp [Act.eval]) HE8.out.own y8 (Wm.wd y) (by simp [Act.eval]) HY.out (by have h1 := HLE.out; have h2 := Wm.enc_len x; have h3 := Wm.wd_len y; rw [List.length_append]; omega) (Nat.le_trans HBS.out HB8.out.size) ?_
              intro v9 w9 hown hgrow hat
              obtain ⟨va, vn, vc, hv9⟩ := sv_any (own_sv (l := ib (((headL m ++ (Wm.enc m.P.length ++ pairL (m.P.take i))) ++ Wm.enc x) ++ Wm.wd y)) hown)
              subst hv9
              obtain ⟨e0, ez, hE9, hC9, hC10⟩ := HE8.out.app hown hgrow hat
              have s9 : w9.cell? ⟨g, 2, none⟩ = some (.int .u64 y) := hC9.cell s8 (by rintro (e | ⟨_, e⟩); exact HGG.out e.symm; exact e (.inr rfl))
              have s10 : (w9.setCell ⟨G + 1, 0, none⟩ (.slice va vn vc)).cell? ⟨g, 2, none⟩ = some (.int .u64 y) := hC10.cell s8 (by rintro (e | ⟨_, e⟩); exact HGG.out e.symm; exact e (.inr rfl))
              have HE10 : Hid _ := hE9.less
              have HC10 : Hid (Ch (Wn (AG G) (N + 1) (G + 1)) wA (w9.setCell ⟨G + 1, 0, none⟩ (.slice va vn vc))) := HC7.out.self ((Ch.of_below HB8.out).self (hC10.mono (fun z hz => by rcases hz with e | ⟨e1, e2⟩; exact .inl e; exact .inr ⟨e1, fun q => e2 (.inl q)⟩)))
              clear hE9 hC9 hC10 hown hgrow hat
              refine hK.out _ _ ?_ (fun hHeld => ?_)
              · exact s9
              clear hK K
              try simp only [Act.put, List.setIfInBounds_toArray, List.set_cons_zero, List.set_cons_succ]
              refine wpAnyH_ready (rs := [6]) (by kernel_rfl) (by simp) ?_
              refine AllReadyH.cons (o := ⟨none, _, _, _, _, _⟩) rfl (fun K hK => ?_) AllReadyH.nil
              go_simp
              refine hK.out _ _ ?_ (fun hHeld => ?_)
              · exact s10
              clear hK K
              try simp only [Act.put, List.setIfInBounds_toArray, List.set_cons_zero, List.set_cons_succ]
              refine wpAnyH_done (by kernel_rfl) ?_ _
              refine NoPanic.normal ?_
              have hei := HE10.out
              rw [← HNX.out] at hei
              have HI11 : Hid _ := HIA.out.turn ⟨_, hei⟩ HC10.out
              clear hei HE10 HC10 HE8 HE7 HIA
              go_wp2_with fail
              go_roundw
              case rel => exact ⟨i + 1, by simp, hlt, HI11.out⟩
              case measure => simp [intOf]; omega
          · have hlti : ¬ (i : Int) < (pn : Int) := by have := HPL.out; omega
            obtain rfl : i = m.P.length := by omega
            have HI9 : Hid (EI w N G m (.slice ea en ec) (.slice qa qn qc) (.slice pa pn pc) (headL m ++ restL m) wr) := by have h := HI.out; rw [List.take_of_length_le (Nat.le_refl _), ← HRS.out] at h; exact h
            clear HI HVR HLE
            obtain ⟨vz, hvz⟩ := HI9.out.eb
            have cz := hvz.c
            have HOZ : Hid _ := hvz.own
            have HBZ : Hid _ := HI9.out.below
            clear hvz
            go_wp2_with fail
            go_ret2
            exact ⟨_, by rw [HEN.out]; rfl, by rw [HEN.out]; exact own_baseC HOZ.out (by have := HN.out; omega), by have h := HBZ.out; rw [HN.out] at h; exact h⟩
      · rw [hf]
        have hpa := code_parts HP.out.ask hf
        have HRS : Hid (restL m = Wm.enc m.C.toNat) := by show _ = _; unfold restL; rw [hf]; simp
        obtain ⟨x, hx⟩ : ∃ x : Nat, m.C = (x : Int) := ⟨m.C.toNat, by omega⟩
        rintro e w4 ⟨rfl, hw4⟩
        replace hw4 := hw4.symm
        subst hw4
        clear hf k0
        have k6 := HI2.out.mx.c5
        rw [hx] at k6 hpa
        rw [hx, Int.toNat_natCast] at HRS
        have HXB : Hid (x < 18446744073709551616) := by show _ < _; omega
        have hwx : IntKind.u64.wrap (x : Int) = (x : Int) := wrap_u64_id (by omega) (by omega)
        clear hpa hx
        obtain ⟨v, hv⟩ := HI2.out.eb
        have HE : Hid _ := hv
        clear hv
        go_wp2_with fail
        refine (write_walk HE.out x HXB.out (by have := HHL.out; omega)).mono ?_
        rintro e w6 ⟨rfl, h6, hC6⟩
        rw [← HRS.out] at h6
        have HI9 : Hid (EI w N G m (.slice ea en ec) (.slice qa qn qc) (.slice pa pn pc) (headL m ++ restL m) w6) := HI2.out.turn h6 hC6
        clear h6 hC6 k6 HI2 HE
        obtain ⟨vz, hvz⟩ := HI9.out.eb
        have cz := hvz.c
        have HOZ : Hid _ := hvz.own
        have HBZ : Hid _ := HI9.out.below
        clear hvz
        go_wp2_with fail
        go_ret2
        exact ⟨_, by rw [HEN.out]; rfl, by rw [HEN.out]; exact own_baseC HOZ.out (by have := HN.out; omega), by have h := HBZ.out; rw [HN.out] at h; exact h⟩
theorem menc_walk {w : World} {m : Ms} {ev qv pv : Value} (h : ML w m ev qv pv) (hok : m.ok) : Calls Try.prog 10 #[.agg #[.int .i64 m.K, .int .i64 m.F, .int .i64 m.T, .int .i64 m.B, .int .i64 m.A, .int .i64 m.C, ev, qv, pv]] w (EGot m w) := by
  cases hs : sndM m
  · exact menc_bad h hs
  · exact menc_good h hok hs
end Go.Proofs.Ythkkbdmbmkgjpaa


