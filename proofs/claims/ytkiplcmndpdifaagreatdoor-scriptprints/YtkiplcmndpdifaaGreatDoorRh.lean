/- The reference's Parse. Printed by gen_rh22.py. -/
import Derived.Test.YtkiplcmndpdifaaGreatDoorRg

namespace Go.Proofs.YtkiplcmndpdifaaGreatDoor

open Go.RowKit

attribute [local go_sem] run_store_float


theorem line_plan_no {w : Bs} {ws : List Bs} (h : w ≠ planW) : lineR Rs.zero w ws = .error 210 := by simp [lineR, Rs.zero, h]
theorem line_plan_yes {ws : List Bs} {l : List Int} (h : nms 7 ws = some (l, [])) : lineR Rs.zero planW ws = .ok ⟨true, plOf l, [], []⟩ := by simp [lineR, Rs.zero, h]
theorem line_plan_bad {ws : List Bs} (h : ∀ l, nms 7 ws ≠ some (l, [])) : lineR Rs.zero planW ws = .error 211 := by
  simp only [lineR, Rs.zero, if_true, ne_eq, not_true_eq_false, if_false]
  cases hn : nms 7 ws with
  | none => rfl
  | some q =>
    obtain ⟨l, r⟩ := q
    have : r ≠ [] := fun e => h l (by rw [hn, e])
    simp [this]
theorem line_op_yes {s : Rs} {ws : List Bs} {o : Og} (hp : s.pd = true) (hs : s.sts = []) (h : opA ws = some (o, [])) : lineR s opW ws = .ok { s with ops := s.ops ++ [o] } := by simp [lineR, hp, hs, h]
theorem line_op_bad {s : Rs} {ws : List Bs} (hp : s.pd = true) (hs : s.sts = []) (h : ∀ o, opA ws ≠ some (o, [])) : lineR s opW ws = .error 211 := by
  simp only [lineR, hp, hs, Bool.true_eq_false, if_false, and_self, if_true]
  cases hn : opA ws with
  | none => rfl
  | some q =>
    obtain ⟨l, r⟩ := q
    have : r ≠ [] := fun e => h l (by rw [hn, e])
    simp [this]
theorem line_many {s : Rs} {w : Bs} {ws : List Bs} (hp : s.pd = true) (hn : ¬ (w = opW ∧ s.sts = [])) (h : s.sts.length = 4096) : lineR s w ws = .error 212 := by
  unfold lineR
  rw [if_neg (by rw [hp]; decide), if_neg hn, if_pos h]
theorem line_word {s : Rs} {w : Bs} {ws : List Bs} (hp : s.pd = true) (hn : ¬ (w = opW ∧ s.sts = [])) (h : ¬ s.sts.length = 4096) (hf : formW w = none) : lineR s w ws = .error 210 := by
  unfold lineR
  rw [if_neg (by rw [hp]; decide), if_neg hn, if_neg h, hf]
theorem line_st_yes {s : Rs} {w : Bs} {ws : List Bs} {f : Fm} {t : Sp} (hp : s.pd = true) (hn : ¬ (w = opW ∧ s.sts = [])) (h : ¬ s.sts.length = 4096) (hf : formW w = some f) (ht : stA f ws = some (t, [])) : lineR s w ws = .ok { s with sts := s.sts ++ [t] } := by
  unfold lineR
  rw [if_neg (by rw [hp]; decide), if_neg hn, if_neg h, hf]
  simp [ht]
theorem line_st_bad {s : Rs} {w : Bs} {ws : List Bs} {f : Fm} (hp : s.pd = true) (hn : ¬ (w = opW ∧ s.sts = [])) (h : ¬ s.sts.length = 4096) (hf : formW w = some f) (ht : ∀ t, stA f ws ≠ some (t, [])) : lineR s w ws = .error 211 := by
  unfold lineR
  rw [if_neg (by rw [hp]; decide), if_neg hn, if_neg h, hf]
  dsimp only
  cases hn : stA f ws with
  | none => rfl
  | some q =>
    obtain ⟨l, r⟩ := q
    have : r ≠ [] := fun e => ht l (by rw [hn, e])
    simp [this]
theorem knd_pos : ∀ f ∈ formL, f.K ≠ 0 := by decide
theorem one_op9 (o : Og) : ∀ u ∈ opF o, u.oneCell' = true := by
  intro u hu
  simp only [opF, List.mem_cons, List.not_mem_nil, or_false] at hu
  rcases hu with rfl | rfl | rfl <;> rfl
theorem one_st9 (s : Sp) : ∀ u ∈ stF s, u.oneCell' = true := by
  intro u hu
  simp only [stF, List.mem_cons, List.not_mem_nil, or_false] at hu
  rcases hu with rfl | rfl | rfl | rfl | rfl <;> rfl


set_option maxRecDepth 100000 in
set_option maxHeartbeats 16000000 in
theorem rparse_walk (T : Bs) (w : World) : Calls Tryz.prog 7 #[S T] w (ParseGot (parseT T) w) := by
  obtain ⟨t, ht⟩ : ∃ t : ByteArray, t = ⟨T.toArray⟩ := ⟨_, rfl⟩
  obtain ⟨n, hn⟩ : ∃ n, n = T.length := ⟨_, rfl⟩
  have hsz : t.size = n := by rw [ht, size_mk, hn]
  have HTT : Hid (t = ⟨T.toArray⟩ ∧ n = T.length) := ⟨ht, hn⟩
  show Calls _ _ #[.string _] _ _
  rw [← ht]
  clear ht hn
  by_cases hbig : 262144 < n
  · have hbi : (262144 : Int) < (n : Int) := by omega
    have HP : Hid (parseT T = .error (0, 6)) := by show parseT T = _; unfold parseT; rw [if_pos (by have := HTT.out.2; omega)]
    clear hbig
    go_enter Tryz.func7, Tryz.ntmps7
    go_wp2_with fail
    refine bodyPost_ret (v := .tuple #[.agg #[.int .i64 0, .int .i64 0, .int .i64 0, .slice none 0 0, .int .i64 0, .int .i64 0, .int .i64 0, .int .i64 0], .slice none 0 0, .int .i64 0, .int .i64 6]) (by rw [results_c3 rfl]; go_simp) rfl ?_
    rw [HP.out]
    exact ⟨rfl, below_alloc _ _⟩
  · have hbi : ¬ (262144 : Int) < (n : Int) := by omega
    have HNB : Hid (¬ 262144 < T.length) := by have := HTT.out.2; show ¬ _; omega
    have HRL : Hid (∀ wx, Calls Tryz.prog 14 #[.string t] wx fun e w' => ∃ v, e = .returned v ∧ WR wx.heap.size w' v (splitB 10 T) ∧ Below wx.heap.size wx w') := by intro wx; rw [HTT.out.1]; exact rlines_walk T wx (by have := HNB.out; omega)
    obtain ⟨P, hP⟩ : ∃ P, P = w.heap.size := ⟨_, rfl⟩
    obtain ⟨w1, hw1⟩ : ∃ w1, w1 = w.alloc (.cells #[.int .i64 0, .int .i64 0, .int .i64 0, .slice none 0 0, .int .i64 0, .int .i64 0, .int .i64 0, .int .i64 0] 25) := ⟨_, rfl⟩
    have HW1 : Hid (w1 = w.alloc (.cells #[.int .i64 0, .int .i64 0, .int .i64 0, .slice none 0 0, .int .i64 0, .int .i64 0, .int .i64 0, .int .i64 0] 25) ∧ P = w.heap.size ∧ Below w.heap.size w w1 ∧ w1.heap[P]? = some (.cells #[.int .i64 0, .int .i64 0, .int .i64 0, .slice none 0 0, .int .i64 0, .int .i64 0, .int .i64 0, .int .i64 0] 25 (0, 0))) := ⟨hw1, hP, by rw [hw1]; exact below_alloc _ _, by rw [hw1]; exact alloc_at hP⟩
    clear hw1 hP hbig
    go_enter Tryz.func7, Tryz.ntmps7
    go_wp2_with fail
    rw [← HW1.out.2.1, ← HW1.out.1]
    refine (HRL.out _).mono ?_
    rintro e9 w2 ⟨av, rfl, hal, hB2⟩
    obtain ⟨L, hL⟩ : ∃ L, L = splitB 10 T := ⟨_, rfl⟩
    rw [← hL] at hal
    have HLL : Hid (L = splitB 10 T) := hL
    obtain ⟨aa, ac, hav, _, _⟩ := own_form21 hal
    subst hav
    obtain ⟨nL, hnL⟩ : ∃ nL, nL = L.length := ⟨_, rfl⟩
    rw [← hnL] at hal ⊢
    have hnLb : (nL : Int) ≤ 262145 := by have h1 := split_cnt 10 T; rw [← hL, ← hnL] at h1; have := HNB.out; omega
    have HNL : Hid (nL = L.length) := hnL
    obtain ⟨Q, hQ⟩ : ∃ Q, Q = w2.heap.size := ⟨_, rfl⟩
    obtain ⟨S9, hS9⟩ : ∃ Q, Q = w2.heap.size + 1 := ⟨_, rfl⟩
    obtain ⟨w3, hw3⟩ : ∃ w3, w3 = (w2.alloc (.cells #[.int .i64 0, .int .i64 0, .int .i64 0, .slice none 0 0, .int .i64 0, .int .i64 0, .int .i64 0, .int .i64 0] 25)).alloc (.cells #[] 41) := ⟨_, rfl⟩
    have HW3 : Hid (w3 = (w2.alloc (.cells #[.int .i64 0, .int .i64 0, .int .i64 0, .slice none 0 0, .int .i64 0, .int .i64 0, .int .i64 0, .int .i64 0] 25)).alloc (.cells #[] 41) ∧ Q = w2.heap.size ∧ S9 = w2.heap.size + 1) := ⟨hw3, hQ, hS9⟩
    have HM3 : Hid (Rm w P Q L (.slice aa nL ac) Rs.zero (.slice none 0 0) (.slice (some ⟨S9, 0, none⟩) 0 0) w3) := by
      have hb : Below w2.heap.size w2 w3 := by rw [hw3]; exact below_trans (below_alloc _ _) (below_alloc _ _)
      have h1 := HW1.out
      have h2 := blk_lt h1.2.2.2
      have h3 := hB2.size
      have h4 := h1.2.2.1.size
      refine ⟨below_trans h1.2.2.1 (below_trans hB2 hb), blk_below h1.2.2.2 (below_trans hB2 hb), ?_, World.ownsRow_nil _ _ _ _, ?_, own_low (hal.keep hb) h4, by omega, by omega⟩
      · rw [hw3]; exact alloc_old (alloc_at hQ)
      · refine ⟨rfl, .inr ⟨S9, 0, #[], rfl, by omega, ?_, Nat.le_refl _, by simp [maxLen], rfl, rfl⟩⟩
        rw [hw3]; exact alloc_at (by rw [alloc_sz]; exact hS9)
    clear hw3 hQ hS9 hal hB2 hL hnL HW1
    go_wp2_with fail
    rw [← HW3.out.2.2, ← HW3.out.2.1, ← HW3.out.1]
    clear HW3 HRL
    go_loopw [8, 9, 10, 11, 12, 13, 14, 15, 16, 17, 18] (fun v8 v9 v10 _ _ _ _ _ _ _ _ wr => ∃ (i : Nat) (s : Rs) (ov : Value), v10 = .int .i64 i ∧ v9 = .bool s.pd ∧ Ri9 L i s ∧ Rm w P Q L (.slice aa nL ac) s ov v8 wr) (fun _ _ v10 _ _ _ _ _ _ _ _ _ => nL - (intOf v10).toNat)
    case atStart => exact ⟨0, Rs.zero, _, rfl, rfl, Ri9.start L, HM3.out⟩
    case round =>
      obtain ⟨i, s, ov, rfl, rfl, hri, hrm⟩ := hrel
      clear HM3
      obtain ⟨sa, sc, hsv, _, _⟩ := own_form21 hrm.rs
      subst hsv
      obtain ⟨oa, oc, hov, _, _⟩ := own_form21 hrm.ro
      subst hov
      obtain ⟨k, hk⟩ : ∃ k, k = s.sts.length := ⟨_, rfl⟩
      obtain ⟨pd, hpd⟩ : ∃ b, b = s.pd := ⟨_, rfl⟩
      rw [← hk, ← hpd]
      have HQ : Hid (Ri9 L i s ∧ Rm w P Q L (.slice aa nL ac) s (.slice oa s.ops.length oc) (.slice sa s.sts.length sc) wr ∧ k = s.sts.length ∧ pd = s.pd) := ⟨hri, hrm, hk, hpd⟩
      have htop := hri.top
      rw [← HNL.out] at htop
      have hcast : (((i + 1 : Nat)) : Int) = (i : Int) + 1 := by omega
      clear hri hrm hk hpd
      by_cases hlt : i < nL
      · have hli : (i : Int) < (nL : Int) := by omega
        obtain ⟨l, hl⟩ : ∃ l, L[i]? = some l := ⟨_, List.getElem?_eq_getElem (by have := HNL.out; omega)⟩
        have hlen : l.length ≤ 262144 := by have h1 := split_mem 10 T l (by rw [← HLL.out]; exact List.mem_of_getElem? hl); have := HNB.out; omega
        obtain ⟨tl, htl⟩ : ∃ t : ByteArray, t = ⟨l.toArray⟩ := ⟨_, rfl⟩
        obtain ⟨ga, ca, na, haf, _, hgal, hgc⟩ := ar_form HQ.out.2.1.al.ar (by have := HNL.out; omega)
        have haa : aa = some ⟨ga, 0, none⟩ := by cases haf; rfl
        clear haf
        subst haa
        have kl : wr.cell? ⟨ga, i, none⟩ = some (.string tl) := by rw [htl]; exact hgc wr i l (below_same _) hl
        have HLI : Hid (L[i]? = some l ∧ tl = ⟨l.toArray⟩ ∧ l.length ≤ 262144) := ⟨hl, htl, hlen⟩
        clear hl hlen htl hgc
        cases hsk : skipB l with
        | true =>
          have HN : Hid (Ri9 L (i + 1) s) := HQ.out.1.step HLI.out.1 (by unfold readLine; rw [hsk]; rfl) HQ.out.1.zero (by have := HQ.out.1.ops; omega) HQ.out.1.sts
          have hcs : tl.toList.isEmpty = true ∨ ∃ h0 : 0 < tl.size, tl.toList.isEmpty = false ∧ (((tl[0]'h0).toNat : Int) == 35) = true := by
            cases hlc : l with
            | nil => left; rw [HLI.out.2.1, hlc]; exact emp_nil
            | cons c r =>
              right
              have h0 : 0 < tl.size := by rw [HLI.out.2.1, hlc, size_mk]; simp
              refine ⟨h0, by rw [HLI.out.2.1, hlc]; exact emp_cons _ _, ?_⟩
              rw [get_mk HLI.out.2.1 (show l[0]? = some c by rw [hlc]; rfl) h0]
              rw [hlc] at hsk
              simp [skipB] at hsk
              rw [hsk]
              rfl
          clear hsk
          rcases hcs with he | ⟨h0, he, hq⟩
          all_goals
            go_wp2_with fail
            exact ⟨⟨i + 1, s, .slice oa s.ops.length oc, by (congr 1), by rw [HQ.out.2.2.2], HN.out, by rw [HQ.out.2.2.1]; exact HQ.out.2.1⟩, by simp [intOf]; omega⟩
        | false =>
          obtain ⟨h0, he, hq⟩ : ∃ h0 : 0 < tl.size, tl.toList.isEmpty = false ∧ (((tl[0]'h0).toNat : Int) == 35) = false := by
            cases hlc : l with
            | nil => rw [hlc] at hsk; cases hsk
            | cons c r =>
              have h0 : 0 < tl.size := by rw [HLI.out.2.1, hlc, size_mk]; simp
              refine ⟨h0, by rw [HLI.out.2.1, hlc]; exact emp_cons _ _, ?_⟩
              rw [get_mk HLI.out.2.1 (show l[0]? = some c by rw [hlc]; rfl) h0]
              rw [hlc] at hsk
              simp [skipB] at hsk
              rw [beq_eq_false_iff_ne]
              intro e
              exact hsk (UInt8.toNat_inj.1 (by have : c.toNat = 35 := by omega
                                               simpa using this))
          obtain ⟨w0, ws, hsp, _, _⟩ := split_cons 32 l
          obtain ⟨xs, hxs⟩ : ∃ xs, xs = w0 :: ws := ⟨_, rfl⟩
          have HRD : Hid (readLine s l = lineR s w0 ws ∧ xs = w0 :: ws) := ⟨by unfold readLine; rw [hsk, hsp]; rfl, hxs⟩
          have HRP : Hid (∀ wx, Calls Tryz.prog 15 #[.string tl] wx fun e w' => ∃ v, e = .returned v ∧ WR wx.heap.size w' v xs ∧ Below wx.heap.size wx w') := by intro wx; rw [HLI.out.2.1, hxs, ← hsp]; exact rparts_walk l wx HLI.out.2.2
          have HXL : Hid (∀ x ∈ xs, x.length ≤ 262144) := by intro x hx; have h1 := split_mem 32 l x (by rw [hsp, ← hxs]; exact hx); have := HLI.out.2.2; omega
          have HXF : Hid (xs.length ≤ 262145) := by have h1 := split_cnt 32 l; rw [hsp, ← hxs] at h1; have := HLI.out.2.2; show _ ≤ _; omega
          clear hsk hsp hxs
          go_wp2_with fail
          refine (HRP.out _).mono ?_
          rintro e9 w5 ⟨xv, rfl, hxw, hB5⟩
          have HM5 : Hid (Rm w P Q L (.slice (some ⟨ga, 0, none⟩) nL ac) s (.slice oa s.ops.length oc) (.slice sa s.sts.length sc) w5 ∧ Wl w5 xv xs) := ⟨HQ.out.2.1.more hB5, hxw.ar, HXL.out, HXF.out⟩
          obtain ⟨gx, cx, nx, hxv, hnx, hgxl, hxc⟩ := ar_form hxw.ar (by rw [HRD.out.2]; simp)
          subst hxv
          obtain ⟨t0, ht0⟩ : ∃ t : ByteArray, t = ⟨w0.toArray⟩ := ⟨_, rfl⟩
          have HXC : Hid (∀ wx, Below w5.heap.size w5 wx → wx.cell? ⟨gx, 0, none⟩ = some (.string t0)) := by intro wx hx; rw [ht0]; exact hxc wx 0 w0 hx (by rw [HRD.out.2]; rfl)
          have k0 := HXC.out w5 (below_same _)
          have hi0 : (0 : Int) < (nx : Int) := by rw [hnx, HRD.out.2]; simp
          obtain ⟨u0, hu0⟩ : ∃ t : ByteArray, t = ⟨(askW w0).toArray⟩ := ⟨_, rfl⟩
          obtain ⟨K, hK⟩ : ∃ K, K = kndW w0 := ⟨_, rfl⟩
          have HRA : Hid (∀ wx, Calls Tryz.prog 16 #[.string t0] wx fun e w' => e = .returned (.tuple #[.string u0, .int .i64 K]) ∧ w' = wx) := by intro wx; rw [ht0, hu0, hK]; exact rasks_walk _ _
          have HT0 : Hid (t0 = ⟨w0.toArray⟩ ∧ K = kndW w0 ∧ nx = xs.length ∧ L[i]? = some l) := ⟨ht0, hK, hnx, HLI.out.1⟩
          clear hB5 hxw hxc ht0 hu0 hK kl hnx
          go_wp2_with fail
          refine (HRA.out _).mono ?_
          rintro e9 w6 ⟨rfl, hw⟩
          subst hw
          clear HRA HRP
          have hPD := HQ.out.2.2.2
          have HBAD : Hid (∀ e, lineR s w0 ws = .error e → parseT T = .error (i + 1, e)) := by
            intro e he
            have h := HQ.out.1
            have hl := HT0.out.2.2.2
            rw [HLL.out] at h hl
            exact h.bad HNB.out hl (by rw [HRD.out.1]; exact he)
          have hPQ : ¬ P = Q := by have := HM5.out.1.pq; omega
          have hQP : ¬ Q = P := by omega
          have HTL : Hid (xs.tail = ws ∧ 0 < xs.length ∧ xs[0]? = some w0) := by rw [HRD.out.2]; exact ⟨rfl, by simp, rfl⟩
          cases pd with
          | false =>
            have HZ : Hid (s = Rs.zero) := HQ.out.1.zero hPD.symm
            clear hPD
            by_cases hpl : w0 = planW
            · have qa : (t0.toList == ([112, 108, 97, 110] : Bs)) = true := str_eq_lit HT0.out.1 hpl
              have qb : (t0.toList != ([112, 108, 97, 110] : Bs)) = false := by rw [bne, qa]; rfl
              have HPL : Hid (w0 = planW) := hpl
              clear hpl
              go_wp2_with fail
              refine (rplan_walk HM5.out.2 HTL.out.2.1).mono ?_
              rintro e9 w7 ⟨p9, b, rfl, hyes, hno, hB7⟩
              rw [HTL.out.1] at hyes hno
              have HM7 := hidH (HM5.out.1.more hB7)
              obtain ⟨q0, q1, q2, q3, q4, q5, q6, q7⟩ := pl_cells9 HM7.out.q
              have y0 := blk_soft HM7.out.q 0
              have y1 := blk_soft HM7.out.q 1
              have y2 := blk_soft HM7.out.q 2
              have y3 := blk_soft HM7.out.q 3
              have y4 := blk_soft HM7.out.q 4
              have y5 := blk_soft HM7.out.q 5
              have y6 := blk_soft HM7.out.q 6
              have y7 := blk_soft HM7.out.q 7
              clear hB7 k0
              cases b with
              | true =>
                obtain ⟨l9, hl9, hp9⟩ := hyes rfl
                have HN : Hid (Ri9 L (i + 1) ⟨true, p9, [], []⟩) := HQ.out.1.step HT0.out.2.2.2 (by rw [HRD.out.1, HZ.out, HPL.out, hp9]; exact line_plan_yes hl9) (fun h => by cases h) (by simp) (by simp)
                have HM8 : Hid (Rm w P Q L (.slice (some ⟨ga, 0, none⟩) nL ac) ⟨true, p9, [], []⟩ (.slice none 0 0) (.slice sa s.sts.length sc) ((((((((w7.setCell ⟨Q, 0, none⟩ (.int .i64 p9.P)).setCell ⟨Q, 1, none⟩ (.int .i64 p9.S)).setCell ⟨Q, 2, none⟩ (.int .i64 p9.W)).setCell ⟨Q, 3, none⟩ (.slice none 0 0)).setCell ⟨Q, 4, none⟩ (.int .i64 p9.A)).setCell ⟨Q, 5, none⟩ (.int .i64 p9.B)).setCell ⟨Q, 6, none⟩ (.int .i64 p9.N)).setCell ⟨Q, 7, none⟩ (.int .i64 p9.G))) := by
                  have h := HM7.out
                  rw [HZ.out] at h ⊢
                  exact h.plan p9
                clear hyes hno hl9 hp9
                go_wp2_with fail
                exact ⟨⟨i + 1, _, _, by (congr 1), rfl, HN.out, by rw [HQ.out.2.2.1]; exact HM8.out⟩, by simp [intOf]; omega⟩
              | false =>
                have HP : Hid (parseT T = .error (i + 1, 211)) := HBAD.out _ (by rw [HZ.out, HPL.out]; exact line_plan_bad (hno rfl))
                obtain ⟨p0, p1, p2, p3, p4, p5, p6, p7⟩ := pl_cells9 HM7.out.pl
                have z0 := blk_soft HM7.out.pl 0
                have z1 := blk_soft HM7.out.pl 1
                have z2 := blk_soft HM7.out.pl 2
                have z3 := blk_soft HM7.out.pl 3
                have z4 := blk_soft HM7.out.pl 4
                have z5 := blk_soft HM7.out.pl 5
                have z6 := blk_soft HM7.out.pl 6
                have z7 := blk_soft HM7.out.pl 7
                clear hyes hno
                go_wp2_with fail
                refine bodyPost_ret (v := .tuple #[.agg #[.int .i64 0, .int .i64 0, .int .i64 0, .slice none 0 0, .int .i64 0, .int .i64 0, .int .i64 0, .int .i64 0], .slice none 0 0, .int .i64 ((i : Int) + 1), .int .i64 211]) (by rw [results_c3 rfl]; go_simp) rfl ?_
                rw [HP.out]
                exact ⟨by rw [hcast]; rfl, below8 (below8 HM7.out.bel (by have := HM7.out.pq; have := HM7.out.lo; omega)) HM7.out.lo⟩
            · have qa : (t0.toList == ([112, 108, 97, 110] : Bs)) = false := str_ne_lit HT0.out.1 hpl
              have qb : (t0.toList != ([112, 108, 97, 110] : Bs)) = true := by rw [bne, qa]; rfl
              have HP : Hid (parseT T = .error (i + 1, 210)) := HBAD.out _ (by rw [HZ.out]; exact line_plan_no hpl)
              obtain ⟨p0, p1, p2, p3, p4, p5, p6, p7⟩ := pl_cells9 HM5.out.1.pl
              have z0 := blk_soft HM5.out.1.pl 0
              have z1 := blk_soft HM5.out.1.pl 1
              have z2 := blk_soft HM5.out.1.pl 2
              have z3 := blk_soft HM5.out.1.pl 3
              have z4 := blk_soft HM5.out.1.pl 4
              have z5 := blk_soft HM5.out.1.pl 5
              have z6 := blk_soft HM5.out.1.pl 6
              have z7 := blk_soft HM5.out.1.pl 7
              clear hpl
              go_wp2_with fail
              refine bodyPost_ret (v := .tuple #[.agg #[.int .i64 0, .int .i64 0, .int .i64 0, .slice none 0 0, .int .i64 0, .int .i64 0, .int .i64 0, .int .i64 0], .slice none 0 0, .int .i64 ((i : Int) + 1), .int .i64 210]) (by rw [results_c3 rfl]; go_simp) rfl ?_
              rw [HP.out]
              exact ⟨by rw [hcast]; rfl, below8 HM5.out.1.bel HM5.out.1.lo⟩
          | true =>
            have HPD : Hid (s.pd = true) := hPD.symm
            clear hPD
            by_cases hop : w0 = opW ∧ s.sts = []
            · have qa : (t0.toList == ([111, 112] : Bs)) = true := str_eq_lit HT0.out.1 hop.1
              have hk0 : ((k : Int) == 0) = true := by rw [HQ.out.2.2.1, hop.2]; rfl
              have HOP : Hid (w0 = opW ∧ s.sts = []) := hop
              clear hop
              go_wp2_with fail
              refine (rop_walk HM5.out.2 HTL.out.2.1).mono ?_
              rintro e9 w7 ⟨o9, b, rfl, hyes, hno, hB7⟩
              rw [HTL.out.1] at hyes hno
              have HM7 := hidH (HM5.out.1.more hB7)
              have q3 : w7.cell? ⟨Q, 3, none⟩ = some (.slice oa s.ops.length oc) := (pl_cells9 HM7.out.q).2.2.2.1
              have hQl : Q < w7.heap.size := blk_lt HM7.out.q
              have hQn : ¬ Q = w7.heap.size := by omega
              clear hB7 k0
              cases b with
              | true =>
                have HN : Hid (Ri9 L (i + 1) { s with ops := s.ops ++ [o9] }) := HQ.out.1.step HT0.out.2.2.2 (by rw [HRD.out.1, HOP.out.1]; exact line_op_yes HPD.out HOP.out.2 (hyes rfl)) (fun h => by rw [show ({ s with ops := s.ops ++ [o9] } : Rs).pd = s.pd from rfl, HPD.out] at h; cases h) (by have := HQ.out.1.ops; simp; omega) HQ.out.1.sts
                clear hyes hno
                go_upto_region 25 with fail
                obtain ⟨C9, hC9⟩ : ∃ C, C = w7.heap.size := ⟨_, rfl⟩
                obtain ⟨w8, hw8⟩ : ∃ w8, w8 = w7.alloc (.cells #[.int .i64 o9.K, .int .i64 o9.N, .float .f64 o9.X] 53) := ⟨_, rfl⟩
                rw [← hC9, ← hw8]
                have HM8 : Hid (Rm w P Q L (.slice (some ⟨ga, 0, none⟩) nL ac) s (.slice oa s.ops.length oc) (.slice sa s.sts.length sc) w8) := by rw [hw8]; exact HM7.out.more (below_alloc _ _)
                have hcb : w8.heap[C9]? = some (.cells #[.int .i64 o9.K, .int .i64 o9.N, .float .f64 o9.X] 53 (0, 0)) := by rw [hw8]; exact alloc_at hC9
                have d0 : w8.cell? ⟨C9, 0, none⟩ = some (.int .i64 o9.K) := blk_cell hcb 0
                have d1 : w8.cell? ⟨C9, 1, none⟩ = some (.int .i64 o9.N) := blk_cell hcb 1
                have d2 : w8.cell? ⟨C9, 2, none⟩ = some (.float .f64 o9.X) := blk_cell hcb 2
                have q8 : w8.cell? ⟨Q, 3, none⟩ = some (.slice oa s.ops.length oc) := (pl_cells9 HM8.out.q).2.2.2.1
                clear hC9 hw8 hcb q3 hQl hQn
                go_upto_region 30 with (at_builtin; refine wpl_app_gv (base := w.heap.size) (l := [o9]) info_op Tryz.underlying23 (by rfl) (by decide) (fun _ => rfl) one_op9 (by rfl) (.tmp 100) (.tmp 102) (by rfl) (by rfl) (HM8.out.more (below_alloc _ _)).ro (by rfl) (gv_lit (f := opF) (n := 3) (l := [o9]) (cs := #[.int .i64 o9.K, .int .i64 o9.N, .float .f64 o9.X]) (t := 53) (fun _ => rfl) w8 rfl (by simp [maxLen])) (by have := HQ.out.1.ops; simp [maxLen]; omega) (by have := HQ.out.1.ops; simp; omega) (by have := HM8.out.bel.size; rw [alloc_sz]; omega) ?_; intro v9 w9 hr9 hg9 _; have hgo := (HM8.out.more (below_alloc _ _)).growO (o := o9) (by simpa using hr9) hg9; have q9 : w9.cell? ⟨Q, 3, none⟩ = some (.slice oa s.ops.length oc) := (pl_cells9 (by rw [hgo.2]; exact (HM8.out.more (below_alloc _ _)).q)).2.2.2.1; have y9 : w9.frozen? ⟨Q, 3, none⟩ = false := blk_soft (by rw [hgo.2]; exact (HM8.out.more (below_alloc _ _)).q) 3; have HM9 := hidH hgo.1; obtain ⟨va9, vc9, hv9, _, _⟩ := own_form21 hr9; subst hv9; clear hr9 hg9 hgo)
                go_wp2_with fail
                exact ⟨⟨i + 1, _, _, by (congr 1), by rw [HPD.out], HN.out, by rw [HQ.out.2.2.1]; exact HM9.out⟩, by simp [intOf]; omega⟩
              | false =>
                have HP : Hid (parseT T = .error (i + 1, 211)) := HBAD.out _ (by rw [HOP.out.1]; exact line_op_bad HPD.out HOP.out.2 (hno rfl))
                clear hyes hno
                go_upto_region 25 with fail
                obtain ⟨C9, hC9⟩ : ∃ C, C = w7.heap.size := ⟨_, rfl⟩
                obtain ⟨w8, hw8⟩ : ∃ w8, w8 = w7.alloc (.cells #[.int .i64 o9.K, .int .i64 o9.N, .float .f64 o9.X] 53) := ⟨_, rfl⟩
                rw [← hC9, ← hw8]
                have HM8 : Hid (Rm w P Q L (.slice (some ⟨ga, 0, none⟩) nL ac) s (.slice oa s.ops.length oc) (.slice sa s.sts.length sc) w8) := by rw [hw8]; exact HM7.out.more (below_alloc _ _)
                have hcb : w8.heap[C9]? = some (.cells #[.int .i64 o9.K, .int .i64 o9.N, .float .f64 o9.X] 53 (0, 0)) := by rw [hw8]; exact alloc_at hC9
                have d0 : w8.cell? ⟨C9, 0, none⟩ = some (.int .i64 o9.K) := blk_cell hcb 0
                have d1 : w8.cell? ⟨C9, 1, none⟩ = some (.int .i64 o9.N) := blk_cell hcb 1
                have d2 : w8.cell? ⟨C9, 2, none⟩ = some (.float .f64 o9.X) := blk_cell hcb 2
                have q8 : w8.cell? ⟨Q, 3, none⟩ = some (.slice oa s.ops.length oc) := (pl_cells9 HM8.out.q).2.2.2.1
                clear hC9 hw8 hcb q3 hQl hQn
                go_upto_region 30 with (at_builtin; refine wpl_app_gv (base := w.heap.size) (l := [o9]) info_op Tryz.underlying23 (by rfl) (by decide) (fun _ => rfl) one_op9 (by rfl) (.tmp 100) (.tmp 102) (by rfl) (by rfl) (HM8.out.more (below_alloc _ _)).ro (by rfl) (gv_lit (f := opF) (n := 3) (l := [o9]) (cs := #[.int .i64 o9.K, .int .i64 o9.N, .float .f64 o9.X]) (t := 53) (fun _ => rfl) w8 rfl (by simp [maxLen])) (by have := HQ.out.1.ops; simp [maxLen]; omega) (by have := HQ.out.1.ops; simp; omega) (by have := HM8.out.bel.size; rw [alloc_sz]; omega) ?_; intro v9 w9 hr9 hg9 _; have hgo := (HM8.out.more (below_alloc _ _)).growO (o := o9) (by simpa using hr9) hg9; have q9 : w9.cell? ⟨Q, 3, none⟩ = some (.slice oa s.ops.length oc) := (pl_cells9 (by rw [hgo.2]; exact (HM8.out.more (below_alloc _ _)).q)).2.2.2.1; have y9 : w9.frozen? ⟨Q, 3, none⟩ = false := blk_soft (by rw [hgo.2]; exact (HM8.out.more (below_alloc _ _)).q) 3; have HM9 := hidH hgo.1; obtain ⟨va9, vc9, hv9, _, _⟩ := own_form21 hr9; subst hv9; clear hr9 hg9 hgo)
                have hpl9 : w9.heap[P]? = some (.cells #[.int .i64 0, .int .i64 0, .int .i64 0, .slice none 0 0, .int .i64 0, .int .i64 0, .int .i64 0, .int .i64 0] 25 (0, 0)) := by have h := HM9.out.pl; rw [set_other _ hPQ] at h; exact h
                obtain ⟨p0, p1, p2, p3, p4, p5, p6, p7⟩ := pl_cells9 hpl9
                have z0 := blk_soft hpl9 0
                have z1 := blk_soft hpl9 1
                have z2 := blk_soft hpl9 2
                have z3 := blk_soft hpl9 3
                have z4 := blk_soft hpl9 4
                have z5 := blk_soft hpl9 5
                have z6 := blk_soft hpl9 6
                have z7 := blk_soft hpl9 7
                clear hpl9
                go_wp2_with fail
                refine bodyPost_ret (v := .tuple #[.agg #[.int .i64 0, .int .i64 0, .int .i64 0, .slice none 0 0, .int .i64 0, .int .i64 0, .int .i64 0, .int .i64 0], .slice none 0 0, .int .i64 ((i : Int) + 1), .int .i64 211]) (by rw [results_c3 rfl]; go_simp) rfl ?_
                rw [HP.out]
                exact ⟨by rw [hcast]; rfl, below8 HM9.out.bel HM9.out.lo⟩
            · have hcase : (t0.toList == ([111, 112] : Bs)) = false ∨ ((t0.toList == ([111, 112] : Bs)) = true ∧ ((k : Int) == 0) = false) := by
                by_cases h1 : w0 = opW
                · refine .inr ⟨str_eq_lit HT0.out.1 h1, ?_⟩
                  rw [beq_eq_false_iff_ne]
                  intro e
                  refine hop ⟨h1, List.eq_nil_of_length_eq_zero ?_⟩
                  have := HQ.out.2.2.1
                  omega
                · exact .inl (str_ne_lit HT0.out.1 h1)
              have HOP : Hid (¬ (w0 = opW ∧ s.sts = [])) := hop
              clear hop
              by_cases h4 : k = 4096
              · have hk4 : ((k : Int) == 4096) = true := by rw [h4]; rfl
                have HP : Hid (parseT T = .error (i + 1, 212)) := HBAD.out _ (line_many HPD.out HOP.out (by have := HQ.out.2.2.1; omega))
                obtain ⟨p0, p1, p2, p3, p4, p5, p6, p7⟩ := pl_cells9 HM5.out.1.pl
                have z0 := blk_soft HM5.out.1.pl 0
                have z1 := blk_soft HM5.out.1.pl 1
                have z2 := blk_soft HM5.out.1.pl 2
                have z3 := blk_soft HM5.out.1.pl 3
                have z4 := blk_soft HM5.out.1.pl 4
                have z5 := blk_soft HM5.out.1.pl 5
                have z6 := blk_soft HM5.out.1.pl 6
                have z7 := blk_soft HM5.out.1.pl 7
                clear h4
                rcases hcase with qa | ⟨qa, hk0⟩
                all_goals
                  go_wp2_with fail
                  refine bodyPost_ret (v := .tuple #[.agg #[.int .i64 0, .int .i64 0, .int .i64 0, .slice none 0 0, .int .i64 0, .int .i64 0, .int .i64 0, .int .i64 0], .slice none 0 0, .int .i64 ((i : Int) + 1), .int .i64 212]) (by rw [results_c3 rfl]; go_simp) rfl ?_
                  rw [HP.out]
                  exact ⟨by rw [hcast]; rfl, below8 HM5.out.1.bel HM5.out.1.lo⟩
              · have hk4 : ((k : Int) == 4096) = false := by rw [beq_eq_false_iff_ne]; omega
                have H4 : Hid (¬ s.sts.length = 4096) := by have := HQ.out.2.2.1; show ¬ _; omega
                clear h4
                cases hf : formW w0 with
                | none =>
                  have hK0 : (K == 0) = true := by rw [HT0.out.2.1]; unfold kndW; rw [hf]; rfl
                  have HP : Hid (parseT T = .error (i + 1, 210)) := HBAD.out _ (line_word HPD.out HOP.out H4.out hf)
                  obtain ⟨p0, p1, p2, p3, p4, p5, p6, p7⟩ := pl_cells9 HM5.out.1.pl
                  have z0 := blk_soft HM5.out.1.pl 0
                  have z1 := blk_soft HM5.out.1.pl 1
                  have z2 := blk_soft HM5.out.1.pl 2
                  have z3 := blk_soft HM5.out.1.pl 3
                  have z4 := blk_soft HM5.out.1.pl 4
                  have z5 := blk_soft HM5.out.1.pl 5
                  have z6 := blk_soft HM5.out.1.pl 6
                  have z7 := blk_soft HM5.out.1.pl 7
                  clear hf
                  rcases hcase with qa | ⟨qa, hk0⟩
                  all_goals
                    go_wp2_with fail
                    refine bodyPost_ret (v := .tuple #[.agg #[.int .i64 0, .int .i64 0, .int .i64 0, .slice none 0 0, .int .i64 0, .int .i64 0, .int .i64 0, .int .i64 0], .slice none 0 0, .int .i64 ((i : Int) + 1), .int .i64 210]) (by rw [results_c3 rfl]; go_simp) rfl ?_
                    rw [HP.out]
                    exact ⟨by rw [hcast]; rfl, below8 HM5.out.1.bel HM5.out.1.lo⟩
                | some f =>
                  have hfm : f ∈ formL := List.mem_of_find?_eq_some hf
                  have HKA : Hid (kndW w0 = f.K ∧ askW w0 = askL f.g ∧ formW w0 = some f ∧ f ∈ formL) := ⟨by unfold kndW; rw [hf], by unfold askW; rw [hf], hf, hfm⟩
                  have hK0 : (K == 0) = false := by rw [HT0.out.2.1, HKA.out.1, beq_eq_false_iff_ne]; exact knd_pos f hfm
                  clear hf hfm
                  rcases hcase with qa | ⟨qa, hk0⟩
                  all_goals
                    go_wp2_with fail
                    refine (rstep_walk HM5.out.2 HTL.out.2.2).mono ?_
                    rintro e9 w7 ⟨t9, b, rfl, hyes, hno, hB7⟩
                    rw [HTL.out.1, HKA.out.1, HKA.out.2.1] at hyes hno
                    have HM7 := hidH (HM5.out.1.more hB7)
                    clear hB7 k0
                    cases b with
                    | true =>
                      have HN : Hid (Ri9 L (i + 1) { s with sts := s.sts ++ [t9] }) := HQ.out.1.step HT0.out.2.2.2 (by rw [HRD.out.1]; exact line_st_yes HPD.out HOP.out H4.out HKA.out.2.2.1 ((stA_stp HKA.out.2.2.2 _ _).2 (hyes rfl))) (fun h => by rw [show ({ s with sts := s.sts ++ [t9] } : Rs).pd = s.pd from rfl, HPD.out] at h; cases h) (by have := HQ.out.1.ops; simp; omega) (by have := HQ.out.1.sts; have := H4.out; simp; omega)
                      clear hyes hno
                      go_upto_region 16 with fail
                      obtain ⟨C9, hC9⟩ : ∃ C, C = w7.heap.size := ⟨_, rfl⟩
                      obtain ⟨w8, hw8⟩ : ∃ w8, w8 = w7.alloc (.cells #[.int .i64 t9.K, .int .i64 t9.D, .int .i64 t9.N, .int .u64 t9.k, .float .f64 t9.x] 41) := ⟨_, rfl⟩
                      rw [← hC9, ← hw8]
                      have HM8 : Hid (Rm w P Q L (.slice (some ⟨ga, 0, none⟩) nL ac) s (.slice oa s.ops.length oc) (.slice sa s.sts.length sc) w8) := by rw [hw8]; exact HM7.out.more (below_alloc _ _)
                      have hcb : w8.heap[C9]? = some (.cells #[.int .i64 t9.K, .int .i64 t9.D, .int .i64 t9.N, .int .u64 t9.k, .float .f64 t9.x] 41 (0, 0)) := by rw [hw8]; exact alloc_at hC9
                      have d0 : w8.cell? ⟨C9, 0, none⟩ = some (.int .i64 t9.K) := blk_cell hcb 0
                      have d1 : w8.cell? ⟨C9, 1, none⟩ = some (.int .i64 t9.D) := blk_cell hcb 1
                      have d2 : w8.cell? ⟨C9, 2, none⟩ = some (.int .i64 t9.N) := blk_cell hcb 2
                      have d3 : w8.cell? ⟨C9, 3, none⟩ = some (.int .u64 t9.k) := blk_cell hcb 3
                      have d4 : w8.cell? ⟨C9, 4, none⟩ = some (.float .f64 t9.x) := blk_cell hcb 4
                      clear hC9 hw8 hcb
                      go_upto_region 30 with (at_builtin; refine wpl_app_gv (base := w.heap.size) (l := [t9]) info_st Tryz.underlying26 (by rfl) (by decide) (fun _ => rfl) one_st9 (by rfl) (.tmp 64) (.tmp 66) (by rfl) (by rw [HQ.out.2.2.1]; rfl) (HM8.out.more (below_alloc _ _)).rs (by rfl) (gv_lit (f := stF) (n := 5) (l := [t9]) (cs := #[.int .i64 t9.K, .int .i64 t9.D, .int .i64 t9.N, .int .u64 t9.k, .float .f64 t9.x]) (t := 41) (fun _ => rfl) w8 rfl (by simp [maxLen])) (by have := HQ.out.1.sts; simp [maxLen]; omega) (by have := HQ.out.1.sts; simp; omega) (by have := HM8.out.bel.size; rw [alloc_sz]; omega) ?_; intro v9 w9 hr9 hg9 _; have HM9 := hidH ((HM8.out.more (below_alloc _ _)).growS (t := t9) (by simpa using hr9) hg9); obtain ⟨va9, vc9, hv9, _, _⟩ := own_form21 hr9; subst hv9; clear hr9 hg9)
                      go_wp2_with fail
                      exact ⟨⟨i + 1, _, _, by (congr 1), by rw [HPD.out], HN.out, HM9.out⟩, by simp [intOf]; omega⟩
                    | false =>
                      have HP : Hid (parseT T = .error (i + 1, 211)) := HBAD.out _ (line_st_bad HPD.out HOP.out H4.out HKA.out.2.2.1 (fun t h => hno rfl t ((stA_stp HKA.out.2.2.2 _ _).1 h)))
                      clear hyes hno
                      go_upto_region 16 with fail
                      obtain ⟨C9, hC9⟩ : ∃ C, C = w7.heap.size := ⟨_, rfl⟩
                      obtain ⟨w8, hw8⟩ : ∃ w8, w8 = w7.alloc (.cells #[.int .i64 t9.K, .int .i64 t9.D, .int .i64 t9.N, .int .u64 t9.k, .float .f64 t9.x] 41) := ⟨_, rfl⟩
                      rw [← hC9, ← hw8]
                      have HM8 : Hid (Rm w P Q L (.slice (some ⟨ga, 0, none⟩) nL ac) s (.slice oa s.ops.length oc) (.slice sa s.sts.length sc) w8) := by rw [hw8]; exact HM7.out.more (below_alloc _ _)
                      have hcb : w8.heap[C9]? = some (.cells #[.int .i64 t9.K, .int .i64 t9.D, .int .i64 t9.N, .int .u64 t9.k, .float .f64 t9.x] 41 (0, 0)) := by rw [hw8]; exact alloc_at hC9
                      have d0 : w8.cell? ⟨C9, 0, none⟩ = some (.int .i64 t9.K) := blk_cell hcb 0
                      have d1 : w8.cell? ⟨C9, 1, none⟩ = some (.int .i64 t9.D) := blk_cell hcb 1
                      have d2 : w8.cell? ⟨C9, 2, none⟩ = some (.int .i64 t9.N) := blk_cell hcb 2
                      have d3 : w8.cell? ⟨C9, 3, none⟩ = some (.int .u64 t9.k) := blk_cell hcb 3
                      have d4 : w8.cell? ⟨C9, 4, none⟩ = some (.float .f64 t9.x) := blk_cell hcb 4
                      clear hC9 hw8 hcb
                      go_upto_region 30 with (at_builtin; refine wpl_app_gv (base := w.heap.size) (l := [t9]) info_st Tryz.underlying26 (by rfl) (by decide) (fun _ => rfl) one_st9 (by rfl) (.tmp 64) (.tmp 66) (by rfl) (by rw [HQ.out.2.2.1]; rfl) (HM8.out.more (below_alloc _ _)).rs (by rfl) (gv_lit (f := stF) (n := 5) (l := [t9]) (cs := #[.int .i64 t9.K, .int .i64 t9.D, .int .i64 t9.N, .int .u64 t9.k, .float .f64 t9.x]) (t := 41) (fun _ => rfl) w8 rfl (by simp [maxLen])) (by have := HQ.out.1.sts; simp [maxLen]; omega) (by have := HQ.out.1.sts; simp; omega) (by have := HM8.out.bel.size; rw [alloc_sz]; omega) ?_; intro v9 w9 hr9 hg9 _; have HM9 := hidH ((HM8.out.more (below_alloc _ _)).growS (t := t9) (by simpa using hr9) hg9); obtain ⟨va9, vc9, hv9, _, _⟩ := own_form21 hr9; subst hv9; clear hr9 hg9)
                      obtain ⟨p0, p1, p2, p3, p4, p5, p6, p7⟩ := pl_cells9 HM9.out.pl
                      have z0 := blk_soft HM9.out.pl 0
                      have z1 := blk_soft HM9.out.pl 1
                      have z2 := blk_soft HM9.out.pl 2
                      have z3 := blk_soft HM9.out.pl 3
                      have z4 := blk_soft HM9.out.pl 4
                      have z5 := blk_soft HM9.out.pl 5
                      have z6 := blk_soft HM9.out.pl 6
                      have z7 := blk_soft HM9.out.pl 7
                      go_wp2_with fail
                      refine bodyPost_ret (v := .tuple #[.agg #[.int .i64 0, .int .i64 0, .int .i64 0, .slice none 0 0, .int .i64 0, .int .i64 0, .int .i64 0, .int .i64 0], .slice none 0 0, .int .i64 ((i : Int) + 1), .int .i64 211]) (by rw [results_c3 rfl]; go_simp) rfl ?_
                      rw [HP.out]
                      exact ⟨by rw [hcast]; rfl, below8 HM9.out.bel HM9.out.lo⟩
      · have hni : ¬ (i : Int) < (nL : Int) := by omega
        have HD : Hid (parseT T = if s.pd = false then .error (nL, 210) else .ok s) := by
          have h := HQ.out.1
          have h2 := HNL.out
          show parseT T = _
          rw [h2]
          rw [HLL.out] at h h2 ⊢
          exact h.done HNB.out (by omega)
        have HM := hidH HQ.out.2.1
        obtain ⟨p0, p1, p2, p3, p4, p5, p6, p7⟩ := pl_cells9 HM.out.pl
        have z0 := blk_soft HM.out.pl 0
        have z1 := blk_soft HM.out.pl 1
        have z2 := blk_soft HM.out.pl 2
        have z3 := blk_soft HM.out.pl 3
        have z4 := blk_soft HM.out.pl 4
        have z5 := blk_soft HM.out.pl 5
        have z6 := blk_soft HM.out.pl 6
        have z7 := blk_soft HM.out.pl 7
        obtain ⟨q0, q1, q2, q3, q4, q5, q6, q7⟩ := pl_cells9 HM.out.q
        have hPQ : ¬ P = Q := by have := HM.out.pq; omega
        have hQP : ¬ Q = P := by omega
        have hPD := HQ.out.2.2.2
        cases pd with
        | false =>
          have HP : Hid (parseT T = .error (nL, 210)) := by show parseT T = _; rw [HD.out, if_pos hPD.symm]
          clear hPD
          go_wp2_with fail
          refine bodyPost_ret (v := .tuple #[.agg #[.int .i64 0, .int .i64 0, .int .i64 0, .slice none 0 0, .int .i64 0, .int .i64 0, .int .i64 0, .int .i64 0], .slice none 0 0, .int .i64 (nL : Int), .int .i64 210]) (by rw [results_c3 rfl]; go_simp) rfl ?_
          rw [HP.out]
          exact ⟨rfl, below8 HM.out.bel HM.out.lo⟩
        | true =>
          have HP : Hid (parseT T = .ok s) := by show parseT T = _; rw [HD.out, if_neg (by rw [← hPD]; decide)]
          clear hPD
          go_wp2_with fail
          refine bodyPost_ret (v := .tuple #[.agg #[.int .i64 s.p.P, .int .i64 s.p.S, .int .i64 s.p.W, .slice oa s.ops.length oc, .int .i64 s.p.A, .int .i64 s.p.B, .int .i64 s.p.N, .int .i64 s.p.G], .slice sa k sc, .int .i64 0, .int .i64 0]) (by rw [results_c3 rfl]; go_simp) rfl ?_
          rw [HP.out, HQ.out.2.2.1]
          refine ⟨.slice oa s.ops.length oc, _, rfl, row_keep HM.out.ro fun x hx => set8_other (row_not HM.out.ro HM.out.pl (by decide) hx), row_keep HM.out.rs fun x hx => set8_other (row_not HM.out.rs HM.out.pl (by decide) hx), fun x hx hy => ?_, below8 HM.out.bel HM.out.lo⟩
          obtain ⟨⟨c1, h1⟩, _⟩ := row_type HM.out.ro hx
          exact row_not HM.out.rs h1 (by decide) hy rfl
end Go.Proofs.YtkiplcmndpdifaaGreatDoor


