/- JournalImages: the walk. -/
import Derived.Test.YtnnammlipfappaaRh

import Derived.Test.YtnnammlipfappaaJo

import Derived.Test.YtnnammlipfappaaEb

namespace Go.Proofs.Ytnnammlipfappaa

open Ieee Go.RowKit



theorem wr_same {S S2 : Dk} (h1 : S2.bl = S.bl) (h2 : S2.down = S.down) (h3 : S2.left = S.left) (i : Int) (b : List Nat) : writeI S2 i b = writeI S i b ∧ (writeS S2 i b).bl = (writeS S i b).bl := by
  obtain ⟨bl, dn, lf, rd, wr⟩ := S
  obtain ⟨bl2, dn2, lf2, rd2, wr2⟩ := S2
  simp only at h1 h2 h3
  subst h1 h2 h3
  refine ⟨rfl, ?_⟩
  unfold writeS
  by_cases h1 : refI ⟨bl2, dn2, lf2, rd, wr⟩ i ≠ 0
  · rw [if_pos (show refI ⟨bl2, dn2, lf2, rd2, wr2⟩ i ≠ 0 from h1), if_pos h1]
  · rw [if_neg (show ¬ refI ⟨bl2, dn2, lf2, rd2, wr2⟩ i ≠ 0 from h1), if_neg h1]
    by_cases h2 : 1024 < b.length
    · rw [if_pos h2, if_pos h2]
    · rw [if_neg h2, if_neg h2]
      by_cases h3 : lf2 = 0
      · rw [if_pos h3, if_pos h3]
        try rfl
      · rw [if_neg h3, if_neg h3]
        try rfl
theorem sav_same {S S2 : Dk} {J : Jn} {q : Int} {n : Nt} (h1 : S2.bl = S.bl) (h2 : S2.down = S.down) (h3 : S2.left = S.left) : savI J S2 q n = savI J S q n ∧ (savS J S2 q n).bl = (savS J S q n).bl := by
  obtain ⟨e1, e2⟩ := wr_same h1 h2 h3 ((1 : Int) - J.h) (savB J n)
  unfold savI savS savW
  rw [h2, e1]
  refine ⟨rfl, ?_⟩
  split
  · exact h1
  · split
    · exact h1
    · split
      · exact h1
      · split
        · exact h1
        · exact e2
theorem opn_same {S : Dk} {q : Int} (S2 : Dk) (h : SmD S S2) : S2.bl = (opnS S q).bl ∧ S2.down = (opnS S q).down ∧ S2.left = (opnS S q).left := by
  unfold opnS
  split
  · exact ⟨h.bl, h.down, h.left⟩
  · split
    · exact ⟨h.bl, h.down, h.left⟩
    · obtain ⟨r1, r2, r3, _⟩ := rdK_same S 2
      rw [r1, r2, r3]
      exact ⟨h.bl, h.down, h.left⟩
theorem opn_bl (S : Dk) (q : Int) : (opnS S q).bl = S.bl ∧ (opnS S q).wr = S.wr := by
  unfold opnS
  split
  · exact ⟨rfl, rfl⟩
  · split
    · exact ⟨rfl, rfl⟩
    · obtain ⟨r1, r2, r3, r4, _⟩ := rdK_same S 2
      exact ⟨r1, r4⟩
def zN : Nt := ⟨0, [], [], 0⟩
set_option maxRecDepth 100000 in
set_option maxHeartbeats 8000000 in
theorem journalimages_walk {w : World} {v : Value} {ls : List (List Nat)} {q : Int} (hv : PvD w v ls) : Calls Try.prog 4 #[v, .int .i64 q] w fun e w' => e = .returned (.bool true) ∧ Below w.heap.size w w' := by
  have HV : Hid (PvD w v ls) := hv
  obtain ⟨va, vc, rfl, _⟩ := hv.form
  clear hv
  go_enter Try.func4, Try.ntmps4
  go_wp2_with fail
  refine (awake18_walk w).mono ?_
  rintro e w1 ⟨rfl, hB1⟩
  have HB1 : Hid (Below w.heap.size w w1) := hB1
  have HV1 : Hid (PvD w1 (.slice va ls.length vc) ls) := HV.out.below hB1
  clear hB1
  by_cases hbad : ls.length < 1 ∨ 64 < ls.length
  · have HBAD : Hid (ls.length < 1 ∨ 64 < ls.length) := hbad
    clear hbad
    go_wp2_with fail
    refine (load_bad HV1.out HBAD.out).mono ?_
    rintro e w2 ⟨rfl, h2⟩
    replace h2 := h2.symm
    subst h2
    go_wp2_with fail
    refine (rload_bad HV1.out HBAD.out).mono ?_
    rintro e w2 ⟨rfl, h2⟩
    replace h2 := h2.symm
    subst h2
    go_wp2_with fail
    go_ret
    exact ⟨rfl, HB1.out⟩
  have HLEN : Hid (1 ≤ ls.length ∧ ls.length ≤ 64) := by show _ ∧ _; omega
  clear hbad
  cases hlb : longB ls with
  | true =>
    have HLB : Hid (longB ls = true) := hlb
    clear hlb
    go_wp2_with fail
    refine (load_walk HV1.out HLEN.out.1 HLEN.out.2).mono ?_
    rintro e w2 hld
    unfold Ld at hld
    rw [if_pos HLB.out] at hld
    obtain ⟨rfl, h2⟩ := hld
    replace h2 := h2.symm
    subst h2
    go_wp2_with fail
    refine (rload_walk HV1.out HLEN.out.1 HLEN.out.2).mono ?_
    rintro e w2 hld
    unfold Ld at hld
    rw [if_pos HLB.out] at hld
    obtain ⟨rfl, h2⟩ := hld
    replace h2 := h2.symm
    subst h2
    go_wp2_with fail
    go_ret
    exact ⟨rfl, HB1.out⟩
  | false =>
  have HLB : Hid (¬ longB ls = true) := by show ¬ _; rw [hlb]; simp
  clear hlb
  go_wp2_with fail
  refine (load_walk HV1.out HLEN.out.1 HLEN.out.2).mono ?_
  rintro e w2 hld
  unfold Ld at hld
  rw [if_neg HLB.out] at hld
  obtain ⟨dv, D0, rfl, hD, hB2, hx2⟩ := hld
  obtain ⟨S0, hS0⟩ : ∃ S0 : Dk, S0 = loadS ls := ⟨_, rfl⟩
  have HS0 : Hid (S0 = loadS ls) := hS0
  have HD2 : Hid (Dsk 70 D0 w2 dv S0) := by show Dsk _ _ _ _ _; rw [hS0]; exact hD
  have HB2 : Hid (Below w1.heap.size w1 w2) := hB2
  have HX2 : Hid (∀ x, D0 x → w1.heap.size ≤ x) := hx2
  obtain ⟨pb, _, _, rfl, _⟩ := id hD
  have HV2 : Hid (PvD w2 (.slice va ls.length vc) ls) := HV1.out.below hB2
  clear hD hB2 hx2 hS0
  go_wp2_with fail
  refine (rload_walk HV2.out HLEN.out.1 HLEN.out.2).mono ?_
  rintro e w3 hld
  unfold Ld at hld
  rw [if_neg HLB.out] at hld
  obtain ⟨xv, D1, rfl, hD, hB3, hx3⟩ := hld
  have HX3d : Hid (Dsk DR D1 w3 xv S0) := by show Dsk _ _ _ _ _; rw [HS0.out]; exact hD
  have HD3 : Hid (Dsk 70 D0 w3 (.pointer (some ⟨pb, 0, none⟩)) S0) := HD2.out.below hB3
  have HB3 : Hid (Below w2.heap.size w2 w3) := hB3
  have HX3 : Hid (∀ x, D1 x → w2.heap.size ≤ x) := hx3
  have HD0L : Hid (∀ x, D0 x → x < w2.heap.size) := fun x hx => HD2.out.lt hx
  obtain ⟨xb, _, _, rfl, _⟩ := id hD
  have HD1M : Hid (∀ x, D1 x → x < w3.heap.size) := fun x hx => HX3d.out.lt hx
  have HV3 : Hid (PvD w3 (.slice va ls.length vc) ls) := HV2.out.below hB3
  clear hD hB3 hx3
  go_wp2_with fail
  refine (jopen_walk (q := q) HD3.out (by rw [HS0.out]; show (0 : Nat) < 9223372036854775800; decide)).mono ?_
  rintro e w4 ⟨jv, rfl, hC4, hd4, hn4, hy4⟩
  have HC4 : Hid (Ch D0 w3 w4) := hC4
  have HD4 : Hid (Dsk 70 D0 w4 (.pointer (some ⟨pb, 0, none⟩)) (opnS S0 q)) := hd4
  have HX4d : Hid (Dsk DR D1 w4 (.pointer (some ⟨xb, 0, none⟩)) S0) := HX3d.out.ch hC4 (fun x hx e => by have h1 := HX3.out x hx; have h2 := HD0L.out x e; omega)
  have HN4 : Hid (opnI S0 q ≠ 0 → jv = .pointer none) := hn4
  have HY4 := hidH hy4
  have HB4 : Hid (Below w1.heap.size w1 w4) := (HB2.out.trans (HB3.out.mono HB2.out.size)).trans (hC4.to_below (Nat.le_trans HB2.out.size HB3.out.size) (fun x hx => HX2.out x hx))
  have HV4 : Hid (PvD w4 (.slice va ls.length vc) ls) := HV1.out.below HB4.out
  clear hC4 hd4 hn4 hy4
  obtain ⟨oi, hoi⟩ : ∃ oi, oi = opnI S0 q := ⟨_, rfl⟩
  have HOI : Hid (oi = opnI S0 q) := hoi
  rw [← hoi]
  clear hoi
  go_wp2_with fail
  refine (ropen_walk (q := q) HX4d.out (by rw [HS0.out]; show (0 : Nat) < 9223372036854775800; decide)).mono ?_
  rintro e w5 ⟨kv, S2, rfl, hC5, hd5, hsm, hn5, hy5⟩
  rw [← HOI.out]
  have HC5 : Hid (Ch D1 w4 w5) := hC5
  have HX5d : Hid (Dsk DR D1 w5 (.pointer (some ⟨xb, 0, none⟩)) S2) := hd5
  have HSM : Hid (SmD S0 S2) := hsm
  have HD5 : Hid (Dsk 70 D0 w5 (.pointer (some ⟨pb, 0, none⟩)) (opnS S0 q)) := HD4.out.ch hC5 (fun x hx e => by have h1 := HX3.out x e; have h2 := HD0L.out x hx; omega)
  have HB5 : Hid (Below w1.heap.size w1 w5) := HB4.out.trans (hC5.to_below HB4.out.size (fun x hx => Nat.le_trans HB2.out.size (HX3.out x hx)))
  have HD1L : Hid (∀ x, D1 x → x < w4.heap.size) := fun x hx => HX4d.out.lt hx
  have HV5 : Hid (PvD w5 (.slice va ls.length vc) ls) := HV1.out.below HB5.out
  have HNE : Hid (∀ z : Int, (z != z) = false) := fun z => by simp
  by_cases h0 : oi = 0
  · have hoz : opnI S0 q = 0 := by rw [← HOI.out]; exact h0
    obtain ⟨hh, g, n, K0, hop, hjr, hk0⟩ := HY4.out hoz
    obtain ⟨hh2, g2, n2, K1, hop2, hrj, hk1⟩ := hy5 hoz
    rw [hop] at hop2
    obtain ⟨rfl, rfl, rfl⟩ : hh2 = hh ∧ g2 = g ∧ n2 = n := by cases hop2; exact ⟨rfl, rfl, rfl⟩
    obtain ⟨J, hJ⟩ : ∃ J : Jn, J = ⟨g2, n2, hh2, false⟩ := ⟨_, rfl⟩
    have HJ : Hid (J.n = n2) := by show _ = _; rw [hJ]
    rw [← hJ] at hjr hrj
    obtain ⟨jb, _, _, rfl, _⟩ := id hjr
    obtain ⟨kb, _, _, rfl, _⟩ := id hrj
    have HK0 : Hid (∀ x, K0 x → w3.heap.size ≤ x ∧ x < w4.heap.size ∧ ¬ D0 x) := fun x hx => ⟨(hk0 x hx).1, hjr.lt hx, (hk0 x hx).2⟩
    have HK1 : Hid (∀ x, K1 x → w4.heap.size ≤ x ∧ x < w5.heap.size ∧ ¬ D1 x) := fun x hx => ⟨(hk1 x hx).1, hrj.lt hx, (hk1 x hx).2⟩
    have HJS : Hid (JS D0 K0 w5 (.pointer (some ⟨jb, 0, none⟩)) (.pointer (some ⟨pb, 0, none⟩)) q J (opnS S0 q)) := ⟨HD5.out, hjr.keep (fun x hx => hC5.block x (hjr.lt hx) (fun e => by have h1 := (HK0.out x hx).1; have h2 := HD1M.out x e; omega)) hC5.size, fun x hx => (HK0.out x hx).2.2⟩
    have HRS : Hid (RJS D1 K1 w5 (.pointer (some ⟨kb, 0, none⟩)) (.pointer (some ⟨xb, 0, none⟩)) q J S2) := ⟨HX5d.out, hrj, fun x hx => (HK1.out x hx).2.2⟩
    have HRT : Hid (Rgt n2 q) := by have h := hjr.ok.r; rw [hJ] at h; exact h
    have HSP : Hid (w1.heap.size ≤ w2.heap.size ∧ w2.heap.size ≤ w3.heap.size ∧ w3.heap.size ≤ w4.heap.size ∧ w4.heap.size ≤ w5.heap.size) := ⟨HB2.out.size, HB3.out.size, HC4.out.size, hC5.size⟩
    have hnz := HNE.out
    clear hC5 hd5 hsm hn5 hy5 h0 hop hop2 hjr hrj hk0 hk1 hoz hJ
    go_wp2_with fail
    refine (jnote_walk HJS.out.j).mono ?_
    rw [HJ.out]
    rintro e w6 ⟨pa1, pc1, ca1, cc1, rfl, ho1, ho2, hB6⟩
    have HB6 : Hid (Below w5.heap.size w5 w6) := hB6
    have HP6 : Hid (Nv w6 (.slice pa1 n2.p.length pc1) n2.p) := own_nv ho1 (rgt_p64 HRT.out)
    have HC6 : Hid (Nv w6 (.slice ca1 n2.c.length cc1) n2.c) := own_nv ho2 (rgt_c64 HRT.out)
    clear ho1 ho2 hB6
    go_wp2_with fail
    refine (rnote_walk (HRS.out.below HB6.out).j).mono ?_
    rw [HJ.out]
    rintro e w7 ⟨pa2, pc2, ca2, cc2, rfl, ho1, ho2, hB7⟩
    have HB7 : Hid (Below w5.heap.size w5 w7) := below_trans HB6.out hB7
    have HP7 : Hid (Nv w7 (.slice pa2 n2.p.length pc2) n2.p) := own_nv ho1 (rgt_p64 HRT.out)
    have HC7 : Hid (Nv w7 (.slice ca2 n2.c.length cc2) n2.c) := own_nv ho2 (rgt_c64 HRT.out)
    have HP7a : Hid (Nv w7 (.slice pa1 n2.p.length pc1) n2.p) := HP6.out.below hB7
    have HC7a : Hid (Nv w7 (.slice ca1 n2.c.length cc1) n2.c) := HC6.out.below hB7
    clear ho1 ho2 hB7
    go_wp2_with fail
    refine (notes_walk (n := n2) HP7a.out HC7a.out HP7.out HC7.out).mono ?_
    rintro e w8 ⟨rfl, hB8⟩
    have HB8 : Hid (Below w5.heap.size w5 w8) := below_trans HB7.out hB8
    clear hB8 HP6 HC6 HP7 HC7 HP7a HC7a
    go_wp2_with fail
    refine (image_walk (HD5.out.below HB8.out)).mono ?_
    rintro e w9 ⟨gg, cap, rfl, hG, _, hB9⟩
    have HB9 : Hid (Below w5.heap.size w5 w9) := below_trans HB8.out hB9
    have HG : Hid (PvD w9 (.slice (some ⟨gg, 0, none⟩) (opnS S0 q).bl.length cap) (opnS S0 q).bl) := hG.pv HD5.out.good.byt
    clear hG hB9
    go_wp2_with fail
    refine (images_walk HG.out (HV5.out.below HB9.out)).mono ?_
    rw [decide_eq_true (show (opnS S0 q).bl = ls from (opn_bl S0 q).1.trans (congrArg Dk.bl HS0.out))]
    rintro e w10 ⟨rfl, hB10⟩
    have HB10 : Hid (Below w5.heap.size w5 w10) := below_trans HB9.out hB10
    clear hB10 HG
    go_wp2_with fail
    refine (rnote_walk (HRS.out.below HB10.out).j).mono ?_
    rw [HJ.out]
    rintro e w11 ⟨pa3, pc3, ca3, cc3, rfl, ho1, ho2, hB11⟩
    obtain ⟨w12, hw12⟩ : ∃ w12, w12 = w11.alloc (Obj.cells #[.int .i64 n2.b, .slice pa3 n2.p.length pc3, .slice ca3 n2.c.length cc3, .int .i64 n2.a] 41) := ⟨_, rfl⟩
    have HW12 := hidH hw12
    obtain ⟨NB, hNB⟩ : ∃ NB, NB = w11.heap.size := ⟨_, rfl⟩
    have HNB := hidH hNB
    have hbk : w12.heap[NB]? = some (.cells #[.int .i64 n2.b, .slice pa3 n2.p.length pc3, .slice ca3 n2.c.length cc3, .int .i64 n2.a] 41 (0, 0)) := by rw [hw12, hNB]; exact alloc_at rfl
    have HBK := hidH hbk
    have hb1112 : Below w11.heap.size w11 w12 := by rw [hw12]; exact below_alloc _ _
    have HB12 : Hid (Below w5.heap.size w5 w12) := below_trans HB10.out (below_trans hB11 hb1112)
    have HO1 : Hid (OwN w10.heap.size w12 (.slice pa3 n2.p.length pc3) n2.p) := own_below ho1 hb1112
    have HO2 : Hid (OwN w10.heap.size w12 (.slice ca3 n2.c.length cc3) n2.c) := own_below ho2 hb1112
    have HNG : Hid (w5.heap.size ≤ NB ∧ w5.heap.size ≤ w10.heap.size ∧ NB < w12.heap.size) := ⟨by have h1 := HB10.out.size; have h2 := hB11.size; omega, HB10.out.size, blk_lt hbk⟩
    have n0 : ∀ wx : World, wx.heap[NB]? = some (.cells #[.int .i64 n2.b, .slice pa3 n2.p.length pc3, .slice ca3 n2.c.length cc3, .int .i64 n2.a] 41 (0, 0)) → wx.cell? ⟨NB, 0, none⟩ = some (.int .i64 n2.b) := fun wx h => by rw [blk_cell h]; rfl
    have n1 : ∀ wx : World, wx.heap[NB]? = some (.cells #[.int .i64 n2.b, .slice pa3 n2.p.length pc3, .slice ca3 n2.c.length cc3, .int .i64 n2.a] 41 (0, 0)) → wx.cell? ⟨NB, 1, none⟩ = some (.slice pa3 n2.p.length pc3) := fun wx h => by rw [blk_cell h]; rfl
    have n2' : ∀ wx : World, wx.heap[NB]? = some (.cells #[.int .i64 n2.b, .slice pa3 n2.p.length pc3, .slice ca3 n2.c.length cc3, .int .i64 n2.a] 41 (0, 0)) → wx.cell? ⟨NB, 2, none⟩ = some (.slice ca3 n2.c.length cc3) := fun wx h => by rw [blk_cell h]; rfl
    have n3 : ∀ wx : World, wx.heap[NB]? = some (.cells #[.int .i64 n2.b, .slice pa3 n2.p.length pc3, .slice ca3 n2.c.length cc3, .int .i64 n2.a] 41 (0, 0)) → wx.cell? ⟨NB, 3, none⟩ = some (.int .i64 n2.a) := fun wx h => by rw [blk_cell h]; rfl
    obtain ⟨sv, hsv⟩ : ∃ sv, sv = savI J (opnS S0 q) q n2 := ⟨_, rfl⟩
    have HSV := hidH hsv
    have hvv : (sv == sv) = true := by simp
    have hnb3 : w12.drew.heap[NB]? = some (.cells #[.int .i64 n2.b, .slice pa3 n2.p.length pc3, .slice ca3 n2.c.length cc3, .int .i64 n2.a] 41 (0, 0)) := blk_below hbk (below_drewN w12 1)
    have HN3 := hidH hnb3
    clear hB11 hw12 hNB hbk hb1112 ho1 ho2 hsv hnb3
    go_upto_region 12 with fail
    rw [← HW12.out, ← HNB.out]
    refine wp_region_noPanic ?_
    refine wp_region_held_drew (S := (fun wx : World => wx.heap[NB]? = some (.cells #[.int .i64 n2.b, .slice pa3 n2.p.length pc3, .slice ca3 n2.c.length cc3, .int .i64 n2.a] 41 (0, 0)))) (by kernel_rfl) ?_ (fun hHeld => ?_)
    · exact HN3.out
    refine wpAnyH_take (i := 0) (oi := ⟨some 73, _, _, _, _, _⟩) (v := ?_) rfl (by kernel_rfl) (by kernel_rfl) (by kernel_rfl) (fun _ _ _ h => h) (Or.inl ⟨by rfl, ?_⟩) hHeld ?_
    rotate_left
    · intro w hSw; (try dsimp only at hSw); go_simp; all_goals (with_reducible rfl)
    try simp only [Act.put, List.setIfInBounds_toArray, List.set_cons_zero, List.set_cons_succ]
    refine wpAnyH_take (i := 1) (oi := ⟨some 74, _, _, _, _, _⟩) (v := ?_) rfl (by kernel_rfl) (by kernel_rfl) (by kernel_rfl) (fun _ _ _ h => h) (Or.inl ⟨by rfl, ?_⟩) hHeld ?_
    rotate_left
    · intro w hSw; (try dsimp only at hSw); go_simp; all_goals (with_reducible rfl)
    try simp only [Act.put, List.setIfInBounds_toArray, List.set_cons_zero, List.set_cons_succ]
    refine wpAnyH_take (i := 3) (oi := ⟨some 76, _, _, _, _, _⟩) (v := ?_) rfl (by kernel_rfl) (by kernel_rfl) (by kernel_rfl) (fun _ _ _ h => h) (Or.inl ⟨by rfl, ?_⟩) hHeld ?_
    rotate_left
    · intro w hSw; (try dsimp only at hSw); go_simp; all_goals (with_reducible rfl)
    try simp only [Act.put, List.setIfInBounds_toArray, List.set_cons_zero, List.set_cons_succ]
    refine wpAnyH_take (i := 4) (oi := ⟨some 77, _, _, _, _, _⟩) (v := ?_) rfl (by kernel_rfl) (by kernel_rfl) (by kernel_rfl) (fun _ _ _ h => h) (Or.inl ⟨by rfl, ?_⟩) hHeld ?_
    rotate_left
    · intro w hSw; (try dsimp only at hSw); go_simp; all_goals (with_reducible rfl)
    try simp only [Act.put, List.setIfInBounds_toArray, List.set_cons_zero, List.set_cons_succ]
    refine wpAnyH_ready (rs := [2]) (by kernel_rfl) (by simp) ?_
    refine AllReadyH.cons (o := ⟨some 75, _, _, _, _, _⟩) rfl (fun K hK => ?_) AllReadyH.nil
    go_simp
    refine (jsave_walk (n := n2) ((HJS.out.below HB12.out).below (below_drewN w12 1)) (own_nv (own_below HO1.out (below_drewN w12 1)) (rgt_p64 HRT.out)) (own_nv (own_below HO2.out (below_drewN w12 1)) (rgt_c64 HRT.out)) (by have h1 := HRT.out.b0; have h2 := HRT.out.b1; omega) (by rw [(opn_bl S0 q).2, HS0.out]; show (0 : Nat) < 9223372036854775800; decide)).mono ?_
    rintro e w13 ⟨rfl, ⟨D2, K2, hjs, hd2, hk2⟩, hC⟩
    rw [← HSV.out]
    have HC13 : Hid (Ch (fun x => D0 x ∨ K0 x) w12 w13) := (Ch.of_below (below_drewN w12 1)).trans hC (fun x hx => .inl hx)
    have HJ13 := hidH hjs
    have HD2 : Hid (∀ x, D2 x → D0 x ∨ w12.heap.size ≤ x) := fun x hx => (hd2 x hx).imp id (fun h => Nat.le_trans (below_drewN w12 1).size h)
    have HLO : Hid (∀ x, D0 x ∨ K0 x → x < w4.heap.size) := fun x hx => by rcases hx with h | h; (have h1 := HD0L.out x h; have h2 := HSP.out; omega); exact (HK0.out x h).2.1
    have HN13 : Hid (w13.heap[NB]? = some (.cells #[.int .i64 n2.b, .slice pa3 n2.p.length pc3, .slice ca3 n2.c.length cc3, .int .i64 n2.a] 41 (0, 0))) := (HC13.out.block NB HNG.out.2.2 (fun e => by have h1 := HLO.out NB e; have h2 := HNG.out.1; have h3 := HSP.out; omega)).trans HBK.out
    clear hjs hd2 hk2 hC
    refine hK.out _ _ ?_ (fun hHeld => ?_)
    · exact HN13.out
    clear hK K
    try simp only [Act.put, List.setIfInBounds_toArray, List.set_cons_zero, List.set_cons_succ]
    refine wpAnyH_ready (rs := [5]) (by kernel_rfl) (by simp) ?_
    refine AllReadyH.cons (o := ⟨some 78, _, _, _, _, _⟩) rfl (fun K hK => ?_) AllReadyH.nil
    go_simp
    refine (rsave_walk (n := n2) ((HRS.out.below HB12.out).ch HC13.out (fun x hx e => by have h1 := HLO.out x e; have h3 := HSP.out; rcases hx with h | h; (have h4 := HD1M.out x h; have h5 := HX3.out x h; rcases e with e | e; (have h6 := HD0L.out x e; omega); have h7 := (HK0.out x e).1; omega); have h4 := (HK1.out x h).1; omega)) (own_nv (row_keep HO1.out fun x hx => HC13.out.block x (HO1.out.lt x hx).2 (fun e => by have h1 := HLO.out x e; have h2 := (HO1.out.lt x hx).1; have h3 := HSP.out; have h4 := HNG.out; omega)) (rgt_p64 HRT.out)) (own_nv (row_keep HO2.out fun x hx => HC13.out.block x (HO2.out.lt x hx).2 (fun e => by have h1 := HLO.out x e; have h2 := (HO2.out.lt x hx).1; have h3 := HSP.out; have h4 := HNG.out; omega)) (rgt_c64 HRT.out)) (fun a m o e d => by have h1 := (HO1.out.lt a.block (by rw [e]; rfl)).1; have h2 := HD1L.out _ d; have h3 := HSP.out; have h4 := HNG.out; omega) (fun a m o e d => by have h1 := (HO2.out.lt a.block (by rw [e]; rfl)).1; have h2 := HD1L.out _ d; have h3 := HSP.out; have h4 := HNG.out; omega) (by rw [HSM.out.wr, HS0.out]; show (0 : Nat) < 9223372036854775800; decide)).mono ?_
    rintro e w14 ⟨rfl, ⟨D3, K3, hrs, hd3, hk3⟩, hC⟩
    rw [(sav_same (J := J) (q := q) (n := n2) (opn_same S2 HSM.out).1 (opn_same S2 HSM.out).2.1 (opn_same S2 HSM.out).2.2).1, ← HSV.out]
    have HC14 : Hid (Ch (fun x => D1 x ∨ K1 x) w13 w14) := hC
    have HR14 := hidH hrs
    have HL1 : Hid (∀ x, D1 x ∨ K1 x → w2.heap.size ≤ x ∧ x < w5.heap.size) := fun x hx => by have h3 := HSP.out; rcases hx with h | h; (have h1 := HX3.out x h; have h2 := HD1M.out x h; omega); have h1 := HK1.out x h; omega
    have HZ13 := hidH HC13.out.size
    have HN14 : Hid (w14.heap[NB]? = some (.cells #[.int .i64 n2.b, .slice pa3 n2.p.length pc3, .slice ca3 n2.c.length cc3, .int .i64 n2.a] 41 (0, 0))) := (HC14.out.block NB (by have h1 := HNG.out.2.2; have h2 := HZ13.out; omega) (fun e => by have h1 := (HL1.out NB e).2; have h2 := HNG.out.1; omega)).trans HN13.out
    have HD14 : Hid (Dsk 70 D2 w14 (.pointer (some ⟨pb, 0, none⟩)) (savS J (opnS S0 q) q n2)) := HJ13.out.d.ch HC14.out (fun x hx e => by have h1 := HL1.out x e; rcases HD2.out x hx with h | h; (have h2 := HD0L.out x h; omega); have h3 := HNG.out; omega)
    have HB14 : Hid (Below w1.heap.size w1 w14) := ((HB5.out.trans (HB12.out.mono HB5.out.size)).trans (HC13.out.to_below (Nat.le_trans HB5.out.size HB12.out.size) (fun x hx => by have h3 := HSP.out; rcases hx with h | h; exact HX2.out x h; have h1 := (HK0.out x h).1; omega))).trans (HC14.out.to_below (Nat.le_trans HB5.out.size (Nat.le_trans HB12.out.size HZ13.out)) (fun x hx => by have h1 := (HL1.out x hx).1; have h3 := HSP.out; omega))
    clear hrs hd3 hk3 hC
    refine hK.out _ _ ?_ (fun hHeld => ?_)
    · exact HN14.out
    clear hK K
    try simp only [Act.put, List.setIfInBounds_toArray, List.set_cons_zero, List.set_cons_succ]
    refine wpAnyH_take (i := 6) (oi := ⟨some 79, _, _, _, _, _⟩) (v := ?_) rfl (by kernel_rfl) (by kernel_rfl) (by kernel_rfl) (fun _ _ _ h => h) (Or.inl ⟨by rfl, ?_⟩) hHeld ?_
    rotate_left
    · intro w hSw; (try dsimp only at hSw); go_simp; all_goals (with_reducible rfl)
    try simp only [Act.put, List.setIfInBounds_toArray, List.set_cons_zero, List.set_cons_succ]
    refine wpAnyH_take (i := 7) (oi := ⟨some 80, _, _, _, _, _⟩) (v := ?_) rfl (by kernel_rfl) (by kernel_rfl) (by kernel_rfl) (fun _ _ _ h => h) (Or.inl ⟨by rfl, ?_⟩) hHeld ?_
    rotate_left
    · intro w hSw; (try dsimp only at hSw); go_simp; all_goals (with_reducible rfl)
    try simp only [Act.put, List.setIfInBounds_toArray, List.set_cons_zero, List.set_cons_succ]
    refine wpAnyH_take (i := 8) (oi := ⟨some 81, _, _, _, _, _⟩) (v := ?_) rfl (by kernel_rfl) (by kernel_rfl) (by kernel_rfl) (fun _ _ _ h => h) (Or.inl ⟨by rfl, ?_⟩) hHeld ?_
    rotate_left
    · intro w hSw; (try dsimp only at hSw); go_simp; all_goals (with_reducible rfl)
    try simp only [Act.put, List.setIfInBounds_toArray, List.set_cons_zero, List.set_cons_succ]
    refine wpAnyH_take (i := 10) (oi := ⟨some 83, _, _, _, _, _⟩) (v := ?_) rfl (by kernel_rfl) (by kernel_rfl) (by kernel_rfl) (fun _ _ _ h => h) (Or.inl ⟨by rfl, ?_⟩) hHeld ?_
    rotate_left
    · intro w hSw; (try dsimp only at hSw); go_simp; all_goals (with_reducible rfl)
    try simp only [Act.put, List.setIfInBounds_toArray, List.set_cons_zero, List.set_cons_succ]
    refine wpAnyH_ready (rs := [9]) (by kernel_rfl) (by simp) ?_
    refine AllReadyH.cons (o := ⟨some 82, _, _, _, _, _⟩) rfl (fun K hK => ?_) AllReadyH.nil
    go_simp
    refine (image_walk HD14.out).mono ?_
    rintro e w15 ⟨ga, cap1, rfl, hG, _, hB15⟩
    have HB15 : Hid (Below w14.heap.size w14 w15) := hB15
    have HGA : Hid (PvD w15 (.slice (some ⟨ga, 0, none⟩) (savS J (opnS S0 q) q n2).bl.length cap1) (savS J (opnS S0 q) q n2).bl) := hG.pv HD14.out.good.byt
    clear hG hB15
    refine hK.out _ _ ?_ (fun hHeld => ?_)
    · exact (blk_below HN14.out HB15.out)
    clear hK K
    try simp only [Act.put, List.setIfInBounds_toArray, List.set_cons_zero, List.set_cons_succ]
    refine wpAnyH_ready (rs := [11]) (by kernel_rfl) (by simp) ?_
    refine AllReadyH.cons (o := ⟨some 84, _, _, _, _, _⟩) rfl (fun K hK => ?_) AllReadyH.nil
    go_simp
    refine (rimage_walk (HR14.out.d.below HB15.out)).mono ?_
    rintro e w16 ⟨gb, cap2, rfl, hG, _, hB16⟩
    have HB16 : Hid (Below w14.heap.size w14 w16) := below_trans HB15.out hB16
    have HGB : Hid (PvD w16 (.slice (some ⟨gb, 0, none⟩) (savS J S2 q n2).bl.length cap2) (savS J S2 q n2).bl) := hG.pv HR14.out.d.good.byt
    have HGA2 : Hid (PvD w16 (.slice (some ⟨ga, 0, none⟩) (savS J (opnS S0 q) q n2).bl.length cap1) (savS J (opnS S0 q) q n2).bl) := HGA.out.below hB16
    clear hG hB16
    refine hK.out _ _ ?_ (fun hHeld => ?_)
    · exact (blk_below HN14.out HB16.out)
    clear hK K
    try simp only [Act.put, List.setIfInBounds_toArray, List.set_cons_zero, List.set_cons_succ]
    refine wpAnyH_ready (rs := [12]) (by kernel_rfl) (by simp) ?_
    refine AllReadyH.cons (o := ⟨some 85, _, _, _, _, _⟩) rfl (fun K hK => ?_) AllReadyH.nil
    go_simp
    refine (images_walk HGA2.out HGB.out).mono ?_
    rw [decide_eq_true (show (savS J (opnS S0 q) q n2).bl = (savS J S2 q n2).bl from ((sav_same (opn_same S2 HSM.out).1 (opn_same S2 HSM.out).2.1 (opn_same S2 HSM.out).2.2).2).symm)]
    rintro e w17 ⟨rfl, hB17⟩
    have HB17 : Hid (Below w14.heap.size w14 w17) := below_trans HB16.out hB17
    have HBF : Hid (Below w1.heap.size w1 w17) := HB14.out.trans (HB17.out.mono HB14.out.size)
    clear hB17
    refine hK.out _ _ ?_ (fun hHeld => ?_)
    · exact (blk_below HN14.out HB17.out)
    clear hK K
    try simp only [Act.put, List.setIfInBounds_toArray, List.set_cons_zero, List.set_cons_succ]
    refine wpAnyH_take (i := 13) (oi := ⟨some 86, _, _, _, _, _⟩) (v := ?_) rfl (by kernel_rfl) (by kernel_rfl) (by kernel_rfl) (fun _ _ _ h => h) (Or.inl ⟨by rfl, ?_⟩) hHeld ?_
    rotate_left
    · intro w hSw; (try dsimp only at hSw); go_simp; all_goals (with_reducible rfl)
    try simp only [Act.put, List.setIfInBounds_toArray, List.set_cons_zero, List.set_cons_succ]
    refine wpAnyH_take (i := 14) (oi := ⟨some 4, _, _, _, _, _⟩) (v := ?_) rfl (by kernel_rfl) (by kernel_rfl) (by kernel_rfl) (fun _ _ _ h => h) (Or.inl ⟨by rfl, ?_⟩) hHeld ?_
    rotate_left
    · intro w hSw; (try dsimp only at hSw); go_simp; all_goals (with_reducible rfl)
    try simp only [Act.put, List.setIfInBounds_toArray, List.set_cons_zero, List.set_cons_succ]
    refine wpAnyH_done (by kernel_rfl) ?_ _
    refine NoPanic.normal ?_
    clear n0 n1 n2' n3 hvv
    go_wp2_with fail
    go_ret
    exact ⟨rfl, HB1.out.trans (HBF.out.mono HB1.out.size)⟩
  · have hj0 : jv = .pointer none := HN4.out (by rw [← HOI.out]; exact h0)
    have hk0 : kv = .pointer none := hn5 (by rw [← HOI.out]; exact h0)
    subst hj0 hk0
    have hnz := HNE.out
    clear hC5 hd5 hsm hn5 hy5 h0
    go_wp2_with fail
    refine (jnote_nil (w := w5)).mono ?_
    rintro e w6 ⟨rfl, hB6⟩
    have HB6 : Hid (Below w5.heap.size w5 w6) := hB6
    clear hB6
    go_wp2_with fail
    refine (rnote_nil (w := w6)).mono ?_
    rintro e w7 ⟨rfl, hB7⟩
    have HB7 : Hid (Below w5.heap.size w5 w7) := below_trans HB6.out hB7
    clear hB7
    go_wp2_with fail
    refine (show Calls Try.prog 20 #[.agg #[.int .i64 0, .slice none 0 0, .slice none 0 0, .int .i64 0], .agg #[.int .i64 0, .slice none 0 0, .slice none 0 0, .int .i64 0]] w7 _ from notes_walk (n := zN) (Nv.nil _) (Nv.nil _) (Nv.nil _) (Nv.nil _)).mono ?_
    rintro e w8 ⟨rfl, hB8⟩
    have HB8 : Hid (Below w5.heap.size w5 w8) := below_trans HB7.out hB8
    clear hB8
    go_wp2_with fail
    refine (image_walk (HD5.out.below HB8.out)).mono ?_
    rintro e w9 ⟨g, cap, rfl, hG, _, hB9⟩
    have HB9 : Hid (Below w5.heap.size w5 w9) := below_trans HB8.out hB9
    have HG : Hid (PvD w9 (.slice (some ⟨g, 0, none⟩) (opnS S0 q).bl.length cap) (opnS S0 q).bl) := hG.pv HD5.out.good.byt
    clear hG hB9
    go_wp2_with fail
    refine (images_walk HG.out (HV5.out.below HB9.out)).mono ?_
    rw [decide_eq_true (show (opnS S0 q).bl = ls from (opn_bl S0 q).1.trans (congrArg Dk.bl HS0.out))]
    rintro e w10 ⟨rfl, hB10⟩
    have HB10 : Hid (Below w5.heap.size w5 w10) := below_trans HB9.out hB10
    clear hB10
    go_wp2_with fail
    refine (rnote_nil (w := w10)).mono ?_
    rintro e w11 ⟨rfl, hB11⟩
    obtain ⟨w12, hw12⟩ : ∃ w12, w12 = w11.alloc (Obj.cells #[.int .i64 0, .slice none 0 0, .slice none 0 0, .int .i64 0] 41) := ⟨_, rfl⟩
    have HW12 := hidH hw12
    obtain ⟨NB, hNB⟩ : ∃ NB, NB = w11.heap.size := ⟨_, rfl⟩
    have HNB := hidH hNB
    have HBK : Hid (w12.heap[NB]? = some (.cells #[.int .i64 0, .slice none 0 0, .slice none 0 0, .int .i64 0] 41 (0, 0))) := by show _ = _; rw [hw12, hNB]; exact alloc_at rfl
    have HB12 : Hid (Below w5.heap.size w5 w12) := by show Below _ _ _; rw [hw12]; exact below_trans HB10.out (below_trans hB11 (below_alloc _ _))
    have n0 : ∀ wx, Below w12.heap.size w12 wx → wx.cell? ⟨NB, 0, none⟩ = some (.int .i64 0) := fun wx h => by rw [blk_cell (blk_below HBK.out h)]; rfl
    have n1 : ∀ wx, Below w12.heap.size w12 wx → wx.cell? ⟨NB, 1, none⟩ = some (.slice none 0 0) := fun wx h => by rw [blk_cell (blk_below HBK.out h)]; rfl
    have n2 : ∀ wx, Below w12.heap.size w12 wx → wx.cell? ⟨NB, 2, none⟩ = some (.slice none 0 0) := fun wx h => by rw [blk_cell (blk_below HBK.out h)]; rfl
    have n3 : ∀ wx, Below w12.heap.size w12 wx → wx.cell? ⟨NB, 3, none⟩ = some (.int .i64 0) := fun wx h => by rw [blk_cell (blk_below HBK.out h)]; rfl
    clear hB11 hw12 hNB
    go_upto_region 12 with fail
    rw [← HW12.out, ← HNB.out]
    refine wp_region_noPanic ?_
    refine wp_region_held_drew (S := (fun wx => Below w12.heap.size w12 wx)) (by kernel_rfl) ?_ (fun hHeld => ?_)
    · exact (below_drewN w12 1)
    refine wpAnyH_take (i := 0) (oi := ⟨some 73, _, _, _, _, _⟩) (v := ?_) rfl (by kernel_rfl) (by kernel_rfl) (by kernel_rfl) (fun _ _ _ h => h) (Or.inl ⟨by rfl, ?_⟩) hHeld ?_
    rotate_left
    · intro w hSw; (try dsimp only at hSw); go_simp; all_goals (with_reducible rfl)
    try simp only [Act.put, List.setIfInBounds_toArray, List.set_cons_zero, List.set_cons_succ]
    refine wpAnyH_take (i := 1) (oi := ⟨some 74, _, _, _, _, _⟩) (v := ?_) rfl (by kernel_rfl) (by kernel_rfl) (by kernel_rfl) (fun _ _ _ h => h) (Or.inl ⟨by rfl, ?_⟩) hHeld ?_
    rotate_left
    · intro w hSw; (try dsimp only at hSw); go_simp; all_goals (with_reducible rfl)
    try simp only [Act.put, List.setIfInBounds_toArray, List.set_cons_zero, List.set_cons_succ]
    refine wpAnyH_take (i := 3) (oi := ⟨some 76, _, _, _, _, _⟩) (v := ?_) rfl (by kernel_rfl) (by kernel_rfl) (by kernel_rfl) (fun _ _ _ h => h) (Or.inl ⟨by rfl, ?_⟩) hHeld ?_
    rotate_left
    · intro w hSw; (try dsimp only at hSw); go_simp; all_goals (with_reducible rfl)
    try simp only [Act.put, List.setIfInBounds_toArray, List.set_cons_zero, List.set_cons_succ]
    refine wpAnyH_take (i := 4) (oi := ⟨some 77, _, _, _, _, _⟩) (v := ?_) rfl (by kernel_rfl) (by kernel_rfl) (by kernel_rfl) (fun _ _ _ h => h) (Or.inl ⟨by rfl, ?_⟩) hHeld ?_
    rotate_left
    · intro w hSw; (try dsimp only at hSw); go_simp; all_goals (with_reducible rfl)
    try simp only [Act.put, List.setIfInBounds_toArray, List.set_cons_zero, List.set_cons_succ]
    refine wpAnyH_ready (rs := [2]) (by kernel_rfl) (by simp) ?_
    refine AllReadyH.cons (o := ⟨some 75, _, _, _, _, _⟩) rfl (fun K hK => ?_) AllReadyH.nil
    go_simp
    refine (jsave_nil (w := w12.drew)).mono ?_
    rintro e w13 ⟨rfl, hB13⟩
    have HB13 : Hid (Below w12.heap.size w12 w13) := below_trans (below_drewN w12 1) hB13
    clear hB13
    refine hK.out _ _ ?_ (fun hHeld => ?_)
    · exact HB13.out
    clear hK K
    try simp only [Act.put, List.setIfInBounds_toArray, List.set_cons_zero, List.set_cons_succ]
    refine wpAnyH_ready (rs := [5]) (by kernel_rfl) (by simp) ?_
    refine AllReadyH.cons (o := ⟨some 78, _, _, _, _, _⟩) rfl (fun K hK => ?_) AllReadyH.nil
    go_simp
    refine (rsave_nil (w := w13)).mono ?_
    rintro e w14 ⟨rfl, hB14⟩
    have HB14 : Hid (Below w12.heap.size w12 w14) := below_trans HB13.out hB14
    clear hB14
    refine hK.out _ _ ?_ (fun hHeld => ?_)
    · exact HB14.out
    clear hK K
    try simp only [Act.put, List.setIfInBounds_toArray, List.set_cons_zero, List.set_cons_succ]
    refine wpAnyH_take (i := 6) (oi := ⟨some 79, _, _, _, _, _⟩) (v := ?_) rfl (by kernel_rfl) (by kernel_rfl) (by kernel_rfl) (fun _ _ _ h => h) (Or.inl ⟨by rfl, ?_⟩) hHeld ?_
    rotate_left
    · intro w hSw; (try dsimp only at hSw); go_simp; all_goals (with_reducible rfl)
    try simp only [Act.put, List.setIfInBounds_toArray, List.set_cons_zero, List.set_cons_succ]
    refine wpAnyH_take (i := 7) (oi := ⟨some 80, _, _, _, _, _⟩) (v := ?_) rfl (by kernel_rfl) (by kernel_rfl) (by kernel_rfl) (fun _ _ _ h => h) (Or.inl ⟨by rfl, ?_⟩) hHeld ?_
    rotate_left
    · intro w hSw; (try dsimp only at hSw); go_simp; all_goals (with_reducible rfl)
    try simp only [Act.put, List.setIfInBounds_toArray, List.set_cons_zero, List.set_cons_succ]
    refine wpAnyH_take (i := 8) (oi := ⟨some 81, _, _, _, _, _⟩) (v := ?_) rfl (by kernel_rfl) (by kernel_rfl) (by kernel_rfl) (fun _ _ _ h => h) (Or.inl ⟨by rfl, ?_⟩) hHeld ?_
    rotate_left
    · intro w hSw; (try dsimp only at hSw); go_simp; all_goals (with_reducible rfl)
    try simp only [Act.put, List.setIfInBounds_toArray, List.set_cons_zero, List.set_cons_succ]
    refine wpAnyH_take (i := 10) (oi := ⟨some 83, _, _, _, _, _⟩) (v := ?_) rfl (by kernel_rfl) (by kernel_rfl) (by kernel_rfl) (fun _ _ _ h => h) (Or.inl ⟨by rfl, ?_⟩) hHeld ?_
    rotate_left
    · intro w hSw; (try dsimp only at hSw); go_simp; all_goals (with_reducible rfl)
    try simp only [Act.put, List.setIfInBounds_toArray, List.set_cons_zero, List.set_cons_succ]
    refine wpAnyH_ready (rs := [9]) (by kernel_rfl) (by simp) ?_
    refine AllReadyH.cons (o := ⟨some 82, _, _, _, _, _⟩) rfl (fun K hK => ?_) AllReadyH.nil
    go_simp
    refine (image_walk (HD5.out.below (below_trans HB12.out HB14.out))).mono ?_
    rintro e w15 ⟨ga, cap1, rfl, hG, _, hB15⟩
    have HB15 : Hid (Below w12.heap.size w12 w15) := below_trans HB14.out hB15
    have HGA : Hid (PvD w15 (.slice (some ⟨ga, 0, none⟩) (opnS S0 q).bl.length cap1) (opnS S0 q).bl) := hG.pv HD5.out.good.byt
    clear hG hB15
    refine hK.out _ _ ?_ (fun hHeld => ?_)
    · exact HB15.out
    clear hK K
    try simp only [Act.put, List.setIfInBounds_toArray, List.set_cons_zero, List.set_cons_succ]
    refine wpAnyH_ready (rs := [11]) (by kernel_rfl) (by simp) ?_
    refine AllReadyH.cons (o := ⟨some 84, _, _, _, _, _⟩) rfl (fun K hK => ?_) AllReadyH.nil
    go_simp
    refine (rimage_walk (HX5d.out.below (below_trans HB12.out HB15.out))).mono ?_
    rintro e w16 ⟨gb, cap2, rfl, hG, _, hB16⟩
    have HB16 : Hid (Below w12.heap.size w12 w16) := below_trans HB15.out hB16
    have HGB : Hid (PvD w16 (.slice (some ⟨gb, 0, none⟩) S2.bl.length cap2) S2.bl) := hG.pv HX5d.out.good.byt
    have HGA2 : Hid (PvD w16 (.slice (some ⟨ga, 0, none⟩) (opnS S0 q).bl.length cap1) (opnS S0 q).bl) := HGA.out.below hB16
    clear hG hB16
    refine hK.out _ _ ?_ (fun hHeld => ?_)
    · exact HB16.out
    clear hK K
    try simp only [Act.put, List.setIfInBounds_toArray, List.set_cons_zero, List.set_cons_succ]
    refine wpAnyH_ready (rs := [12]) (by kernel_rfl) (by simp) ?_
    refine AllReadyH.cons (o := ⟨some 85, _, _, _, _, _⟩) rfl (fun K hK => ?_) AllReadyH.nil
    go_simp
    refine (images_walk HGA2.out HGB.out).mono ?_
    rw [decide_eq_true (show (opnS S0 q).bl = S2.bl from ((opn_same S2 HSM.out).1).symm)]
    rintro e w17 ⟨rfl, hB17⟩
    have HB17 : Hid (Below w12.heap.size w12 w17) := below_trans HB16.out hB17
    clear hB17
    refine hK.out _ _ ?_ (fun hHeld => ?_)
    · exact HB17.out
    clear hK K
    try simp only [Act.put, List.setIfInBounds_toArray, List.set_cons_zero, List.set_cons_succ]
    refine wpAnyH_take (i := 13) (oi := ⟨some 86, _, _, _, _, _⟩) (v := ?_) rfl (by kernel_rfl) (by kernel_rfl) (by kernel_rfl) (fun _ _ _ h => h) (Or.inl ⟨by rfl, ?_⟩) hHeld ?_
    rotate_left
    · intro w hSw; (try dsimp only at hSw); go_simp; all_goals (with_reducible rfl)
    try simp only [Act.put, List.setIfInBounds_toArray, List.set_cons_zero, List.set_cons_succ]
    refine wpAnyH_take (i := 14) (oi := ⟨some 4, _, _, _, _, _⟩) (v := ?_) rfl (by kernel_rfl) (by kernel_rfl) (by kernel_rfl) (fun _ _ _ h => h) (Or.inl ⟨by rfl, ?_⟩) hHeld ?_
    rotate_left
    · intro w hSw; (try dsimp only at hSw); go_simp; all_goals (with_reducible rfl)
    try simp only [Act.put, List.setIfInBounds_toArray, List.set_cons_zero, List.set_cons_succ]
    refine wpAnyH_done (by kernel_rfl) ?_ _
    refine NoPanic.normal ?_
    clear n0 n1 n2 n3
    go_wp2_with fail
    go_ret
    exact ⟨rfl, HB1.out.trans ((HB5.out.trans ((below_trans HB12.out HB17.out).mono HB5.out.size)).mono HB1.out.size)⟩
end Go.Proofs.Ytnnammlipfappaa


