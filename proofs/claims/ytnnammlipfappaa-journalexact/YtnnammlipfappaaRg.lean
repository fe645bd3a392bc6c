/- The reference's Open. -/
import Derived.Test.YtnnammlipfappaaRf

import Derived.Test.YtnnammlipfappaaEc

namespace Go.Proofs.Ytnnammlipfappaa

open Ieee Go.RowKit



abbrev DR : TypeId := 72
/-- What read makes, in one form. -/
def RdK (q : Int) (l : List Nat) (w w' : World) (g : Nat) (nb na : Int) (pv cv : Value) : Prop := (takE q l = none ∧ g = 0) ∨ ∃ n : Nt, takE q l = some (g, n) ∧ nb = n.b ∧ na = n.a ∧ OwN w.heap.size w' pv n.p ∧ OwN w.heap.size w' cv n.c
theorem rd_form {q : Int} {l : List Nat} {w w' : World} {e : Ending} (h : RdGot q l w e w') : ∃ (g : Nat) (nb na : Int) (pa : Option Addr) (pn pc : Nat) (ca : Option Addr) (cn cc : Nat), e = .returned (.tuple #[.int .i64 g, .agg #[.int .i64 nb, .slice pa pn pc, .slice ca cn cc, .int .i64 na]]) ∧ Below w.heap.size w w' ∧ RdK q l w w' g nb na (.slice pa pn pc) (.slice ca cn cc) := by
  obtain ⟨hb, ⟨h1, nb, na, pa, pn, pc, ca, cn, cc, rfl⟩ | ⟨g, n, pa, ca, pc, cc, h1, rfl, h2, h3⟩⟩ := h
  · exact ⟨0, nb, na, pa, pn, pc, ca, cn, cc, rfl, hb, .inl ⟨h1, rfl⟩⟩
  · exact ⟨g, n.b, n.a, pa, _, pc, ca, _, cc, rfl, hb, .inr ⟨n, h1, rfl, rfl, h2, h3⟩⟩
theorem RdK.below {q : Int} {l : List Nat} {w w' w2 : World} {g : Nat} {nb na : Int} {pv cv : Value} (h : RdK q l w w' g nb na pv cv) (hb : Below w'.heap.size w' w2) : RdK q l w w2 g nb na pv cv := by
  rcases h with h | ⟨n, h1, h2, h3, h4, h5⟩
  · exact .inl h
  · exact .inr ⟨n, h1, h2, h3, own_below h4 hb, own_below h5 hb⟩
theorem RdK.some {q : Int} {l : List Nat} {w w' : World} {g : Nat} {nb na : Int} {pv cv : Value} (h : RdK q l w w' g nb na pv cv) (hg : g ≠ 0) : ∃ n : Nt, takE q l = some (g, n) ∧ nb = n.b ∧ na = n.a ∧ OwN w.heap.size w' pv n.p ∧ OwN w.heap.size w' cv n.c := by
  rcases h with ⟨_, h⟩ | h
  · exact absurd h hg
  · exact h
theorem RdK.none {q : Int} {l : List Nat} {w w' : World} {g : Nat} {nb na : Int} {pv cv : Value} (h : RdK q l w w' g nb na pv cv) (hg : g = 0) : takE q l = none := by
  rcases h with ⟨h, _⟩ | ⟨n, h1, _⟩
  · exact h
  · have := (takE_some h1).1; omega
/-- The same disk, but for how often it was read. -/
structure SmD (S S2 : Dk) : Prop where
  bl : S2.bl = S.bl
  down : S2.down = S.down
  left : S2.left = S.left
  wr : S2.wr = S.wr
  rd : S2.rd ≤ S.rd + 2
/-- What the reference's Open answers. -/
def RoGot (D : Nat → Prop) (dv : Value) (S : Dk) (q : Int) (w : World) (e : Ending) (w' : World) : Prop := ∃ (v : Value) (S2 : Dk), e = .returned (.tuple #[v, .int .i64 (opnI S q)]) ∧ Ch D w w' ∧ Dsk DR D w' dv S2 ∧ SmD S S2 ∧ (opnI S q ≠ 0 → v = .pointer none) ∧ (opnI S q = 0 → ∃ (h g : Nat) (n : Nt) (K : Nat → Prop), opK q S 2 = some (h, g, n) ∧ Rj K w' v dv q ⟨g, n, h, false⟩ ∧ ∀ x, K x → w.heap.size ≤ x ∧ ¬ D x)
theorem opK_two {q : Int} {S : Dk} : opK q S 2 = match takE q (readL S 0), takE q (readL S 1) with
    | none, none => none
    | some e, none => some (0, e)
    | none, some e => some (1, e)
    | some e, some f => if e.1 < f.1 then some (1, f) else some (0, e) := by
  have e0 : readL S ((0 : Nat) : Int) = readL S 0 := rfl
  have e1 : readL S ((1 : Nat) : Int) = readL S 1 := rfl
  rw [opK, opK, opK, e0, e1]
  cases takE q (readL S 0) <;> cases takE q (readL S 1) <;> rfl
section

variable {D : Nat → Prop} {w : World} {dv : Value} {S : Dk} {q : Int}

theorem ro_no {w' : World} {S2 : Dk} {c : Int} (hC : Ch D w w') (hd : Dsk DR D w' dv S2) (hs : SmD S S2) (hI : opnI S q = c) (h0 : c ≠ 0) : RoGot D dv S q w (.returned (.tuple #[.pointer none, .int .i64 c])) w' :=
  ⟨_, S2, by rw [hI], hC, hd, hs, fun _ => rfl, fun h => absurd (hI.symm.trans h) h0⟩
theorem ro_found {w4 : World} {sv pv cv : Value} {h g : Nat} {n : Nt} {nb na : Int} (hd : Dsk DR D w4 sv S) (hw : w.heap.size ≤ w4.heap.size) {wa : World} (hwa : w.heap.size ≤ wa.heap.size) (hap : ∀ x, D x → x < wa.heap.size) (h1 : OwN wa.heap.size w4 pv n.p) (h2 : OwN wa.heap.size w4 cv n.c) (eb : nb = n.b) (ea : na = n.a) {lb : List Nat} (ht : takE q lb = some (g, n)) (hq : q ≤ 4) (hh : h ≤ 1) :
    ∃ K : Nat → Prop, Rj K (w4.alloc (Obj.cells #[sv, .int .i64 q, .int .i64 nb, pv, cv, .int .i64 na, .int .i64 g, .int .i64 h, .bool false] 75)) (.pointer (some ⟨w4.heap.size, 0, none⟩)) sv q ⟨g, n, h, false⟩ ∧ ∀ x, K x → w.heap.size ≤ x ∧ ¬ D x := by
  have hb := below_alloc w4 (Obj.cells #[sv, .int .i64 q, .int .i64 nb, pv, cv, .int .i64 na, .int .i64 g, .int .i64 h, .bool false] 75)
  have hs := alloc_size w4 (Obj.cells #[sv, .int .i64 q, .int .i64 nb, pv, cv, .int .i64 na, .int .i64 g, .int .i64 h, .bool false] 75)
  obtain ⟨g1, g2, hr⟩ := takE_some ht
  subst eb ea
  refine ⟨fun x => x = w4.heap.size ∨ pv.ownBlock = some x ∨ cv.ownBlock = some x, ⟨w4.heap.size, _, _, rfl, ⟨alloc_at rfl, ?_, ?_, .inl rfl, fun x hx => ⟨.inr (.inl hx), ?_⟩, fun x hx => ⟨.inr (.inr hx), ?_⟩, ?_, ⟨g1, g2, hr, hq, hh⟩⟩⟩, ?_⟩
  · exact own_base (own_below h1 hb) (Nat.zero_le _)
  · exact own_base (own_below h2 hb) (Nat.zero_le _)
  · have := (h1.lt x hx).2; omega
  · have := (h2.lt x hx).2; omega
  · rintro x (rfl | hx | hx)
    · omega
    · have := (h1.lt x hx).2; omega
    · have := (h2.lt x hx).2; omega
  · rintro x (rfl | hx | hx)
    · exact ⟨hw, fun h => by have := hd.lt h; omega⟩
    · exact ⟨Nat.le_trans hwa (h1.lt x hx).1, fun h => by have := hap x h; have := (h1.lt x hx).1; omega⟩
    · exact ⟨Nat.le_trans hwa (h2.lt x hx).1, fun h => by have := hap x h; have := (h2.lt x hx).1; omega⟩
theorem ropen_nil {w : World} (q : Int) : Calls Try.prog 19 #[.pointer none, .int .i64 q] w fun e w' => e = .returned (.tuple #[.pointer none, .int .i64 2]) ∧ w' = w := by
  go_enter Try.func19, Try.ntmps19
  go_wp2_with fail
  go_ret2
  exact ⟨rfl, rfl⟩
theorem bv_any0 (w : World) (ao : Option Addr) : Bv w (.slice ao 0 0) [] := by
  refine ⟨?_, by simp⟩
  exact ⟨ao, 0, rfl, Nat.zero_le _, by simp [maxLen], fun _ => rfl, fun i hi => absurd hi (Nat.not_lt_zero _)⟩
set_option maxRecDepth 100000 in
set_option maxHeartbeats 8000000 in
theorem ropen_walk (h : Dsk DR D w dv S) (hrd : S.rd < 9223372036854775800) : Calls Try.prog 19 #[dv, .int .i64 q] w (RoGot D dv S q w) := by
  have HD : Hid (Dsk DR D w dv S) := h
  have HRD : Hid (S.rd < 9223372036854775800) := hrd
  obtain ⟨sb, gp, cap, rfl, _, _⟩ := h
  clear hrd
  have HSR : Hid (SmD S S) := ⟨rfl, rfl, rfl, rfl, by omega⟩
  by_cases h1 : q < 1
  · have HA : Hid (RoGot D (.pointer (some ⟨sb, 0, none⟩)) S q w (.returned (.tuple #[.pointer none, .int .i64 1])) w) := ro_no (Ch.refl _ _) HD.out HSR.out (by unfold opnI; rw [if_pos (by unfold refJ; rw [if_pos (by omega)]; decide)]) (by decide)
    go_enter Try.func19, Try.ntmps19
    go_wp2_with fail
    go_ret2
    exact HA.out
  by_cases h4 : 4 < q
  · have HA : Hid (RoGot D (.pointer (some ⟨sb, 0, none⟩)) S q w (.returned (.tuple #[.pointer none, .int .i64 1])) w) := ro_no (Ch.refl _ _) HD.out HSR.out (by unfold opnI; rw [if_pos (by unfold refJ; rw [if_pos (by omega)]; decide)]) (by decide)
    go_enter Try.func19, Try.ntmps19
    go_wp2_with fail
    go_ret2
    exact HA.out
  have HR : Hid (refJ q = 0) := by show _ = _; unfold refJ; rw [if_neg (by omega)]
  have HQ4 : Hid (q ≤ 4) := by show _ ≤ _; omega
  cases hdn : S.down
  rotate_left
  · have HA : Hid (RoGot D (.pointer (some ⟨sb, 0, none⟩)) S q w (.returned (.tuple #[.pointer none, .int .i64 80])) w) := ro_no (Ch.refl _ _) HD.out HSR.out (by unfold opnI; rw [if_neg (by simp [HR.out]), if_pos hdn]) (by decide)
    have HDN : Hid (S.down = true) := hdn
    clear hdn
    go_enter Try.func19, Try.ntmps19
    go_wp2_with fail
    refine (rdown_walk HD.out).mono ?_
    rintro e w9 ⟨rfl, h9⟩
    replace h9 := h9.symm
    subst h9
    rw [HDN.out]
    go_wp2_with fail
    go_ret2
    exact HA.out
  have HDN : Hid (S.down = false) := hdn
  have HIF : Hid (opnI S q = if opK q S 2 = none then 180 else 0) := by show _ = _; unfold opnI; rw [if_neg (by simp [HR.out]), if_neg (by simp [hdn])]
  clear hdn
  go_enter Try.func19, Try.ntmps19
  go_wp2_with fail
  refine (rdown_walk HD.out).mono ?_
  rintro e w9 ⟨rfl, h9⟩
  replace h9 := h9.symm
  subst h9
  rw [HDN.out]
  go_wp2_with fail
  refine (rread_walk HD.out 0 (by have := HRD.out; omega)).mono ?_
  rintro e w1 ⟨bv, rfl, hbo, hd1, hC1⟩
  have HD1 : Hid (Dsk DR D w1 (.pointer (some ⟨sb, 0, none⟩)) (readS S 0)) := hd1
  have HC1 : Hid (Ch D w w1) := hC1
  have HS1 : Hid (SmD S (readS S 0)) := by
    refine ⟨?_, ?_, ?_, ?_, ?_⟩ <;> unfold readS <;> split <;> first | rfl | (show S.rd + 1 ≤ _; omega) | omega
  have HBO : Hid (w1.ownsRow w.heap.size 5 1 bv (readL S 0).length (cb (readL S 0))) := hbo
  have HRL : Hid (∀ i : Int, ∀ c ∈ readL S i, c < 256) := fun i => by
    unfold readL
    split
    · rename_i h0
      obtain ⟨_, j, hj, hjl⟩ := ref_ok h0
      have hm := bk_mem (ls := S.bl) (i := i.toNat) (by omega)
      exact HD.out.good.byt _ hm
    · simp
  generalize refI S 0 = re
  obtain ⟨ba, bc, hbf⟩ := bv_form (own_bv hbo (HRL.out 0))
  subst hbf
  clear hbo hd1 hC1
  go_upto_region 9 with fail
  obtain ⟨w2, hw2⟩ : ∃ w2, w2 = w1.alloc (Obj.cells #[] 5) := ⟨_, rfl⟩
  rw [← hw2]
  have hb12 : Below w1.heap.size w1 w2 := by rw [hw2]; exact below_alloc _ _
  have HD2 : Hid (Dsk DR D w2 (.pointer (some ⟨sb, 0, none⟩)) (readS S 0)) := HD1.out.below hb12
  have HC2 : Hid (Ch D w w2) := HC1.out.trans (Ch.of_below (D := D) hb12) (fun x hx => .inl hx)
  have HBV : Hid (Bv w2 (.slice ba (readL S 0).length bc) (readL S 0)) := (own_bv HBO.out (HRL.out 0)).below hb12
  have HBW : Hid (w2.ownsRow w.heap.size 5 1 (.slice ba (readL S 0).length bc) (readL S 0).length (cb (readL S 0))) := own_below HBO.out hb12
  have HDL : Hid (∀ x, D x → x < w.heap.size) := fun x hx => HD.out.lt hx
  have HR1 : Hid ((readS S 0).rd ≤ S.rd + 1) := by show _ ≤ _; unfold readS; split <;> first | omega | (simp only; omega)
  have HBL : Hid ((readS S 0).bl.length = S.bl.length) := by show _ = _; rw [HS1.out.bl]
  generalize w1.heap.size = B1
  obtain ⟨a0, ha0⟩ : ∃ a0, a0 = readL S 0 := ⟨_, rfl⟩
  have HA0 : Hid (a0 = readL S 0) := ha0
  rw [← ha0] at HBV HBW ⊢
  clear hw2 hb12 ha0 HD1 HC1 HBO
  by_cases hbl : 1 < S.bl.length
  · have hbli : (1 : Int) < (S.bl.length : Int) := by omega
    clear hbl
    go_wp2_with fail
    refine (rblocks_walk HD2.out).mono ?_
    rintro e w9 ⟨rfl, h9⟩
    replace h9 := h9.symm
    subst h9
    rw [HBL.out]
    go_wp2_with fail
    refine (rread_walk HD2.out 1 (by have := HRD.out; have := HS1.out.rd; omega)).mono ?_
    rintro e w3 ⟨bv3, rfl, hbo, hd3, hC3⟩
    have hrl : readL (readS S 0) 1 = readL S 1 := by unfold readL refI; rw [HS1.out.bl, HS1.out.down]
    rw [hrl] at hbo
    obtain ⟨a1, ha1⟩ : ∃ a1, a1 = readL S 1 := ⟨_, rfl⟩
    have HL1 : Hid (a1 = readL S 1) := ha1
    rw [← ha1] at hbo
    have HBb0 : Bv w3 bv3 a1 := own_bv hbo (by rw [ha1]; exact HRL.out 1)
    obtain ⟨bb, bd, hbf⟩ := bv_form HBb0
    subst hbf
    have HBb : Hid (Bv w3 (.slice bb a1.length bd) a1) := HBb0
    have HBa : Hid (Bv w3 (.slice ba a0.length bc) a0) := own_bv (row_keep HBW.out fun x hx => hC3.block x (HBW.out.lt x hx).2 (fun hd => by have h1 := HDL.out x hd; have h2 := (HBW.out.lt x hx).1; omega)) (by rw [HA0.out]; exact HRL.out 0)
    have HDb : Hid (Dsk DR D w3 (.pointer (some ⟨sb, 0, none⟩)) (readS (readS S 0) 1)) := hd3
    have HCb : Hid (Ch D w w3) := HC2.out.trans hC3 (fun x hx => .inl hx)
    have HSb : Hid (SmD S (readS (readS S 0) 1)) := by
      have h1 : (readS (readS S 0) 1).bl = (readS S 0).bl ∧ (readS (readS S 0) 1).down = (readS S 0).down ∧ (readS (readS S 0) 1).left = (readS S 0).left ∧ (readS (readS S 0) 1).wr = (readS S 0).wr ∧ (readS (readS S 0) 1).rd ≤ (readS S 0).rd + 1 := by
        refine ⟨?_, ?_, ?_, ?_, ?_⟩ <;> unfold readS <;> (repeat' split) <;> first | rfl | omega | (simp only; omega)
      obtain ⟨h1, h2, h3, h4, h5⟩ := h1
      have hx := HR1.out
      exact ⟨h1.trans HS1.out.bl, h2.trans HS1.out.down, h3.trans HS1.out.left, h4.trans HS1.out.wr, by omega⟩
    generalize refI (readS S 0) 1 = re2
    clear hbo hd3 hC3 hrl ha1 HBb0 HD2 HC2 HBV hbli
    go_wp2_with fail
    refine (rread18_walk HBa.out HQ4.out).mono ?_
    rintro e w4 hrd1
    obtain ⟨g, nb, na, pa, pn, pc, ca, cn, cc, rfl, hB4, hk4⟩ := rd_form hrd1
    obtain ⟨w5, hw5⟩ : ∃ w5, w5 = w4.alloc (Obj.cells #[.int .i64 nb, .slice pa pn pc, .slice ca cn cc, .int .i64 na] 41) := ⟨_, rfl⟩
    have HW5 := hidH hw5
    obtain ⟨N1, hN1⟩ : ∃ N1, N1 = w4.heap.size := ⟨_, rfl⟩
    have HN1 := hidH hN1
    have hb5 : w5.heap[N1]? = some (.cells #[.int .i64 nb, .slice pa pn pc, .slice ca cn cc, .int .i64 na] 41 (0, 0)) := by rw [hw5, hN1]; exact alloc_at rfl
    have HK5 := hidH hb5
    have hbe : Below w3.heap.size w3 w5 := below_trans hB4 (by rw [hw5]; exact below_alloc _ _)
    have HBe : Hid (Below w3.heap.size w3 w5) := hbe
    have HR5 : Hid (RdK q a0 w3 w5 g nb na (.slice pa pn pc) (.slice ca cn cc)) := hk4.below (by rw [hw5]; exact below_alloc _ _)
    clear hrd1 hB4 hk4 hw5 hN1 hb5 hbe
    go_upto_region 12 with fail
    rw [← HW5.out, ← HN1.out]
    go_wp2_with fail
    refine (rread18_walk (HBb.out.below HBe.out) HQ4.out).mono ?_
    rintro e w6 hrd1
    obtain ⟨g', nb', na', pa', pn', pc', ca', cn', cc', rfl, hB6, hk6⟩ := rd_form hrd1
    obtain ⟨w7, hw7⟩ : ∃ w7, w7 = w6.alloc (Obj.cells #[.int .i64 nb', .slice pa' pn' pc', .slice ca' cn' cc', .int .i64 na'] 41) := ⟨_, rfl⟩
    have HW7 := hidH hw7
    obtain ⟨N2, hN2⟩ : ∃ N2, N2 = w6.heap.size := ⟨_, rfl⟩
    have HN2 := hidH hN2
    have hb7 : w7.heap[N2]? = some (.cells #[.int .i64 nb', .slice pa' pn' pc', .slice ca' cn' cc', .int .i64 na'] 41 (0, 0)) := by rw [hw7, hN2]; exact alloc_at rfl
    have hbe : Below w5.heap.size w5 w7 := below_trans hB6 (by rw [hw7]; exact below_alloc _ _)
    have HR7 : Hid (RdK q a1 w5 w7 g' nb' na' (.slice pa' pn' pc') (.slice ca' cn' cc')) := hk6.below (by rw [hw7]; exact below_alloc _ _)
    have HR5b : Hid (RdK q a0 w3 w7 g nb na (.slice pa pn pc) (.slice ca cn cc)) := HR5.out.below hbe
    have hb5 := blk_below HK5.out hbe
    have HBf : Hid (Below w3.heap.size w3 w7) := below_trans HBe.out hbe
    have HD7 : Hid (Dsk DR D w7 (.pointer (some ⟨sb, 0, none⟩)) (readS (readS S 0) 1)) := HDb.out.below HBf.out
    have HC7 : Hid (Ch D w w7) := HCb.out.trans (Ch.of_below (D := D) HBf.out) (fun x hx => .inl hx)
    have HZ : Hid (w.heap.size ≤ w3.heap.size ∧ w3.heap.size ≤ w5.heap.size ∧ w5.heap.size ≤ w7.heap.size) := ⟨HCb.out.size, HBe.out.size, hbe.size⟩
    have HAP : Hid (∀ x, D x → x < w3.heap.size) := fun x hx => HDb.out.lt hx
    have n0 : w7.cell? ⟨N1, 0, none⟩ = some (.int .i64 nb) := by rw [blk_cell hb5]; rfl
    have n1 : w7.cell? ⟨N1, 1, none⟩ = some (.slice pa pn pc) := by rw [blk_cell hb5]; rfl
    have n2 : w7.cell? ⟨N1, 2, none⟩ = some (.slice ca cn cc) := by rw [blk_cell hb5]; rfl
    have n3 : w7.cell? ⟨N1, 3, none⟩ = some (.int .i64 na) := by rw [blk_cell hb5]; rfl
    have m0 : w7.cell? ⟨N2, 0, none⟩ = some (.int .i64 nb') := by rw [blk_cell hb7]; rfl
    have m1 : w7.cell? ⟨N2, 1, none⟩ = some (.slice pa' pn' pc') := by rw [blk_cell hb7]; rfl
    have m2 : w7.cell? ⟨N2, 2, none⟩ = some (.slice ca' cn' cc') := by rw [blk_cell hb7]; rfl
    have m3 : w7.cell? ⟨N2, 3, none⟩ = some (.int .i64 na') := by rw [blk_cell hb7]; rfl
    clear hrd1 hB6 hk6 hw7 hN2 hb7 hb5 hbe
    by_cases h00 : g = 0 ∧ g' = 0
    · have HK : Hid (opK q S 2 = none) := by show _ = _; rw [opK_two, ← HA0.out, ← HL1.out, HR5b.out.none h00.1, HR7.out.none h00.2]
      have HA : Hid (RoGot D (.pointer (some ⟨sb, 0, none⟩)) S q w (.returned (.tuple #[.pointer none, .int .i64 180])) w7) := ro_no HC7.out HD7.out HSb.out (by rw [HIF.out, if_pos HK.out]) (by decide)
      have e1 : ((g : Int) == 0) = true := by rw [h00.1]; rfl
      have e2 : ((g' : Int) == 0) = true := by rw [h00.2]; rfl
      clear h00
      go_upto_region 13 with fail
      rw [← HW7.out, ← HN2.out]
      go_wp2_with fail
      go_ret2
      exact HA.out
    · by_cases hgg : g < g'
      · have hgi : (g : Int) < (g' : Int) := by omega
        obtain ⟨n, t1, t2, t3, t4, t5⟩ := HR7.out.some (by omega)
        have HT : Hid (takE q a1 = some (g', n)) := t1
        have HK : Hid (opK q S 2 = some (1, g', n)) := by
          show _ = _
          rw [opK_two, ← HA0.out, ← HL1.out, t1]
          by_cases h0 : g = 0
          · rw [HR5b.out.none h0]
          · obtain ⟨n', t1', _⟩ := HR5b.out.some h0
            rw [t1']
            simp only
            rw [if_pos hgg]
        obtain ⟨K, hK1, hK2⟩ := ro_found (h := 1) (w := w) HD7.out HC7.out.size (wa := w5) (by have := HZ.out; omega) (fun x hx => by have h1 := HAP.out x hx; have h2 := HZ.out; omega) t4 t5 t2 t3 t1 HQ4.out (by omega)
        have HA : Hid (RoGot D (.pointer (some ⟨sb, 0, none⟩)) S q w (.returned (.tuple #[.pointer (some ⟨w7.heap.size, 0, none⟩), .int .i64 0])) (w7.alloc (Obj.cells #[.pointer (some ⟨sb, 0, none⟩), .int .i64 q, .int .i64 nb', .slice pa' pn' pc', .slice ca' cn' cc', .int .i64 na', .int .i64 g', .int .i64 1, .bool false] 75))) := by
          have hI : opnI S q = 0 := by rw [HIF.out, HK.out, if_neg (by simp)]
          exact ⟨_, _, by rw [hI], HC7.out.trans (Ch.of_below (D := D) (below_alloc _ _)) (fun x hx => .inl hx), HD7.out.below (below_alloc _ _), HSb.out, fun h => absurd hI h, fun _ => ⟨1, g', n, K, HK.out, hK1, hK2⟩⟩
        have e1 : ((g' : Int) == 0) = false := by rw [beq_eq_false_iff_ne]; omega
        clear h00 hgg t1 t2 t3 t4 t5 hK1 hK2
        go_upto_region 13 with fail
        rw [← HW7.out, ← HN2.out]
        go_wp2_with fail
        all_goals go_ret2
        all_goals exact HA.out
      · have hgi : ¬ (g : Int) < (g' : Int) := by omega
        obtain ⟨n, t1, t2, t3, t4, t5⟩ := HR5b.out.some (by omega)
        have HK : Hid (opK q S 2 = some (0, g, n)) := by
          show _ = _
          rw [opK_two, ← HA0.out, ← HL1.out, t1]
          by_cases h0 : g' = 0
          · rw [HR7.out.none h0]
          · obtain ⟨n', t1', _⟩ := HR7.out.some h0
            rw [t1']
            simp only
            rw [if_neg hgg]
        obtain ⟨K, hK1, hK2⟩ := ro_found (h := 0) (w := w) HD7.out HC7.out.size (wa := w3) (by have := HZ.out; omega) (fun x hx => HAP.out x hx) t4 t5 t2 t3 t1 HQ4.out (by omega)
        have HA : Hid (RoGot D (.pointer (some ⟨sb, 0, none⟩)) S q w (.returned (.tuple #[.pointer (some ⟨w7.heap.size, 0, none⟩), .int .i64 0])) (w7.alloc (Obj.cells #[.pointer (some ⟨sb, 0, none⟩), .int .i64 q, .int .i64 nb, .slice pa pn pc, .slice ca cn cc, .int .i64 na, .int .i64 g, .int .i64 0, .bool false] 75))) := by
          have hI : opnI S q = 0 := by rw [HIF.out, HK.out, if_neg (by simp)]
          exact ⟨_, _, by rw [hI], HC7.out.trans (Ch.of_below (D := D) (below_alloc _ _)) (fun x hx => .inl hx), HD7.out.below (below_alloc _ _), HSb.out, fun h => absurd hI h, fun _ => ⟨0, g, n, K, HK.out, hK1, hK2⟩⟩
        have e1 : ((g : Int) == 0) = false := by rw [beq_eq_false_iff_ne]; omega
        clear h00 hgg t1 t2 t3 t4 t5 hK1 hK2
        go_upto_region 13 with fail
        rw [← HW7.out, ← HN2.out]
        go_wp2_with fail
        all_goals go_ret2
        all_goals exact HA.out
  · have hbli : ¬ (1 : Int) < (S.bl.length : Int) := by omega
    obtain ⟨a1, ha1⟩ : ∃ a1 : List Nat, a1 = [] := ⟨_, rfl⟩
    have HL1 : Hid (a1 = readL S 1) := by
      show _ = _
      rw [ha1]
      unfold readL
      rw [if_neg]
      intro h0
      obtain ⟨_, j, hj, hjl⟩ := ref_ok h0
      omega
    have HBb : Hid (Bv w2 (.slice (some ⟨B1, 0, none⟩) 0 0) a1) := by show Bv _ _ _; rw [ha1]; exact bv_any0 _ _
    have HBa : Hid (Bv w2 (.slice ba a0.length bc) a0) := HBV.out
    have HDb : Hid (Dsk DR D w2 (.pointer (some ⟨sb, 0, none⟩)) (readS S 0)) := HD2.out
    have HCb : Hid (Ch D w w2) := HC2.out
    have HSb : Hid (SmD S (readS S 0)) := HS1.out
    clear hbl ha1
    go_wp2_with fail
    refine (rblocks_walk HD2.out).mono ?_
    rintro e w9 ⟨rfl, h9⟩
    replace h9 := h9.symm
    subst h9
    rw [HBL.out]
    clear HD2 HC2 HBV
    go_wp2_with fail
    refine (rread18_walk HBa.out HQ4.out).mono ?_
    rintro e w4 hrd1
    obtain ⟨g, nb, na, pa, pn, pc, ca, cn, cc, rfl, hB4, hk4⟩ := rd_form hrd1
    obtain ⟨w5, hw5⟩ : ∃ w5, w5 = w4.alloc (Obj.cells #[.int .i64 nb, .slice pa pn pc, .slice ca cn cc, .int .i64 na] 41) := ⟨_, rfl⟩
    have HW5 := hidH hw5
    obtain ⟨N1, hN1⟩ : ∃ N1, N1 = w4.heap.size := ⟨_, rfl⟩
    have HN1 := hidH hN1
    have hb5 : w5.heap[N1]? = some (.cells #[.int .i64 nb, .slice pa pn pc, .slice ca cn cc, .int .i64 na] 41 (0, 0)) := by rw [hw5, hN1]; exact alloc_at rfl
    have HK5 := hidH hb5
    have hbe : Below w2.heap.size w2 w5 := below_trans hB4 (by rw [hw5]; exact below_alloc _ _)
    have HBe : Hid (Below w2.heap.size w2 w5) := hbe
    have HR5 : Hid (RdK q a0 w2 w5 g nb na (.slice pa pn pc) (.slice ca cn cc)) := hk4.below (by rw [hw5]; exact below_alloc _ _)
    clear hrd1 hB4 hk4 hw5 hN1 hb5 hbe
    go_upto_region 12 with fail
    rw [← HW5.out, ← HN1.out]
    go_wp2_with fail
    refine (rread18_walk (HBb.out.below HBe.out) HQ4.out).mono ?_
    rintro e w6 hrd1
    obtain ⟨g', nb', na', pa', pn', pc', ca', cn', cc', rfl, hB6, hk6⟩ := rd_form hrd1
    obtain ⟨w7, hw7⟩ : ∃ w7, w7 = w6.alloc (Obj.cells #[.int .i64 nb', .slice pa' pn' pc', .slice ca' cn' cc', .int .i64 na'] 41) := ⟨_, rfl⟩
    have HW7 := hidH hw7
    obtain ⟨N2, hN2⟩ : ∃ N2, N2 = w6.heap.size := ⟨_, rfl⟩
    have HN2 := hidH hN2
    have hb7 : w7.heap[N2]? = some (.cells #[.int .i64 nb', .slice pa' pn' pc', .slice ca' cn' cc', .int .i64 na'] 41 (0, 0)) := by rw [hw7, hN2]; exact alloc_at rfl
    have hbe : Below w5.heap.size w5 w7 := below_trans hB6 (by rw [hw7]; exact below_alloc _ _)
    have HR7 : Hid (RdK q a1 w5 w7 g' nb' na' (.slice pa' pn' pc') (.slice ca' cn' cc')) := hk6.below (by rw [hw7]; exact below_alloc _ _)
    have HR5b : Hid (RdK q a0 w2 w7 g nb na (.slice pa pn pc) (.slice ca cn cc)) := HR5.out.below hbe
    have hb5 := blk_below HK5.out hbe
    have HBf : Hid (Below w2.heap.size w2 w7) := below_trans HBe.out hbe
    have HD7 : Hid (Dsk DR D w7 (.pointer (some ⟨sb, 0, none⟩)) (readS S 0)) := HDb.out.below HBf.out
    have HC7 : Hid (Ch D w w7) := HCb.out.trans (Ch.of_below (D := D) HBf.out) (fun x hx => .inl hx)
    have HZ : Hid (w.heap.size ≤ w2.heap.size ∧ w2.heap.size ≤ w5.heap.size ∧ w5.heap.size ≤ w7.heap.size) := ⟨HCb.out.size, HBe.out.size, hbe.size⟩
    have HAP : Hid (∀ x, D x → x < w2.heap.size) := fun x hx => HDb.out.lt hx
    have n0 : w7.cell? ⟨N1, 0, none⟩ = some (.int .i64 nb) := by rw [blk_cell hb5]; rfl
    have n1 : w7.cell? ⟨N1, 1, none⟩ = some (.slice pa pn pc) := by rw [blk_cell hb5]; rfl
    have n2 : w7.cell? ⟨N1, 2, none⟩ = some (.slice ca cn cc) := by rw [blk_cell hb5]; rfl
    have n3 : w7.cell? ⟨N1, 3, none⟩ = some (.int .i64 na) := by rw [blk_cell hb5]; rfl
    have m0 : w7.cell? ⟨N2, 0, none⟩ = some (.int .i64 nb') := by rw [blk_cell hb7]; rfl
    have m1 : w7.cell? ⟨N2, 1, none⟩ = some (.slice pa' pn' pc') := by rw [blk_cell hb7]; rfl
    have m2 : w7.cell? ⟨N2, 2, none⟩ = some (.slice ca' cn' cc') := by rw [blk_cell hb7]; rfl
    have m3 : w7.cell? ⟨N2, 3, none⟩ = some (.int .i64 na') := by rw [blk_cell hb7]; rfl
    clear hrd1 hB6 hk6 hw7 hN2 hb7 hb5 hbe
    by_cases h00 : g = 0 ∧ g' = 0
    · have HK : Hid (opK q S 2 = none) := by show _ = _; rw [opK_two, ← HA0.out, ← HL1.out, HR5b.out.none h00.1, HR7.out.none h00.2]
      have HA : Hid (RoGot D (.pointer (some ⟨sb, 0, none⟩)) S q w (.returned (.tuple #[.pointer none, .int .i64 180])) w7) := ro_no HC7.out HD7.out HSb.out (by rw [HIF.out, if_pos HK.out]) (by decide)
      have e1 : ((g : Int) == 0) = true := by rw [h00.1]; rfl
      have e2 : ((g' : Int) == 0) = true := by rw [h00.2]; rfl
      clear h00
      go_upto_region 13 with fail
      rw [← HW7.out, ← HN2.out]
      go_wp2_with fail
      go_ret2
      exact HA.out
    · by_cases hgg : g < g'
      · have hgi : (g : Int) < (g' : Int) := by omega
        obtain ⟨n, t1, t2, t3, t4, t5⟩ := HR7.out.some (by omega)
        have HT : Hid (takE q a1 = some (g', n)) := t1
        have HK : Hid (opK q S 2 = some (1, g', n)) := by
          show _ = _
          rw [opK_two, ← HA0.out, ← HL1.out, t1]
          by_cases h0 : g = 0
          · rw [HR5b.out.none h0]
          · obtain ⟨n', t1', _⟩ := HR5b.out.some h0
            rw [t1']
            simp only
            rw [if_pos hgg]
        obtain ⟨K, hK1, hK2⟩ := ro_found (h := 1) (w := w) HD7.out HC7.out.size (wa := w5) (by have := HZ.out; omega) (fun x hx => by have h1 := HAP.out x hx; have h2 := HZ.out; omega) t4 t5 t2 t3 t1 HQ4.out (by omega)
        have HA : Hid (RoGot D (.pointer (some ⟨sb, 0, none⟩)) S q w (.returned (.tuple #[.pointer (some ⟨w7.heap.size, 0, none⟩), .int .i64 0])) (w7.alloc (Obj.cells #[.pointer (some ⟨sb, 0, none⟩), .int .i64 q, .int .i64 nb', .slice pa' pn' pc', .slice ca' cn' cc', .int .i64 na', .int .i64 g', .int .i64 1, .bool false] 75))) := by
          have hI : opnI S q = 0 := by rw [HIF.out, HK.out, if_neg (by simp)]
          exact ⟨_, _, by rw [hI], HC7.out.trans (Ch.of_below (D := D) (below_alloc _ _)) (fun x hx => .inl hx), HD7.out.below (below_alloc _ _), HSb.out, fun h => absurd hI h, fun _ => ⟨1, g', n, K, HK.out, hK1, hK2⟩⟩
        have e1 : ((g' : Int) == 0) = false := by rw [beq_eq_false_iff_ne]; omega
        clear h00 hgg t1 t2 t3 t4 t5 hK1 hK2
        go_upto_region 13 with fail
        rw [← HW7.out, ← HN2.out]
        go_wp2_with fail
        all_goals go_ret2
        all_goals exact HA.out
      · have hgi : ¬ (g : Int) < (g' : Int) := by omega
        obtain ⟨n, t1, t2, t3, t4, t5⟩ := HR5b.out.some (by omega)
        have HK : Hid (opK q S 2 = some (0, g, n)) := by
          show _ = _
          rw [opK_two, ← HA0.out, ← HL1.out, t1]
          by_cases h0 : g' = 0
          · rw [HR7.out.none h0]
          · obtain ⟨n', t1', _⟩ := HR7.out.some h0
            rw [t1']
            simp only
            rw [if_neg hgg]
        obtain ⟨K, hK1, hK2⟩ := ro_found (h := 0) (w := w) HD7.out HC7.out.size (wa := w2) (by have := HZ.out; omega) (fun x hx => HAP.out x hx) t4 t5 t2 t3 t1 HQ4.out (by omega)
        have HA : Hid (RoGot D (.pointer (some ⟨sb, 0, none⟩)) S q w (.returned (.tuple #[.pointer (some ⟨w7.heap.size, 0, none⟩), .int .i64 0])) (w7.alloc (Obj.cells #[.pointer (some ⟨sb, 0, none⟩), .int .i64 q, .int .i64 nb, .slice pa pn pc, .slice ca cn cc, .int .i64 na, .int .i64 g, .int .i64 0, .bool false] 75))) := by
          have hI : opnI S q = 0 := by rw [HIF.out, HK.out, if_neg (by simp)]
          exact ⟨_, _, by rw [hI], HC7.out.trans (Ch.of_below (D := D) (below_alloc _ _)) (fun x hx => .inl hx), HD7.out.below (below_alloc _ _), HSb.out, fun h => absurd hI h, fun _ => ⟨0, g, n, K, HK.out, hK1, hK2⟩⟩
        have e1 : ((g : Int) == 0) = false := by rw [beq_eq_false_iff_ne]; omega
        clear h00 hgg t1 t2 t3 t4 t5 hK1 hK2
        go_upto_region 13 with fail
        rw [← HW7.out, ← HN2.out]
        go_wp2_with fail
        all_goals go_ret2
        all_goals exact HA.out
end

end Go.Proofs.Ytnnammlipfappaa


