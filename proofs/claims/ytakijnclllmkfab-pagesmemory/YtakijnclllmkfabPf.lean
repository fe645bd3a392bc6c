/- Get; what is wrong with a list of writes. -/
import Derived.Test.YtakijnclllmkfabPe

namespace Go.Proofs.Ytakijnclllmkfab

open Go.RowKit



def getI (P : Bo) (S : Dk) (p : Int) : Int := if shutB P S = true then 80 else if hasB P.tab.length p = false then 91 else if tn P.tab p.toNat = 0 then 0 else refI S (tn P.tab p.toNat)
def getL (P : Bo) (S : Dk) (p : Int) : List Nat := if shutB P S = true then [] else if hasB P.tab.length p = false then [] else if tn P.tab p.toNat = 0 then [] else readL S (tn P.tab p.toNat)
def getS (P : Bo) (S : Dk) (p : Int) : Dk := if shutB P S = true then S else if hasB P.tab.length p = false then S else if tn P.tab p.toNat = 0 then S else readS S (tn P.tab p.toNat)
def getB (P : Bo) (S : Dk) : Bo := if shutB P S = true then endB P else P
theorem has_of {n : Nat} {p : Int} (h : hasB n p = true) : 0 ≤ p ∧ p < (n : Int) := of_decide_eq_true h
theorem read_len {S : Dk} {i : Int} : (readS S i).bl.length = S.bl.length := by unfold readS; split <;> rfl
theorem read_bl {S : Dk} {i : Int} : (readS S i).bl = S.bl := by unfold readS; split <;> rfl


section

variable {F : Value → Value → Bo → Array Value} {TB TD : TypeId} {A D : Nat → Prop} {w w' : World} {v dv tv : Value} {P P' : Bo} {S S' : Dk} {pb : Nat}

/-- What Get answers. -/
def Gt (F : Value → Value → Bo → Array Value) (TB TD : TypeId) (A : Nat → Prop) (w : World) (v dv : Value) (P : Bo) (S : Dk) (p : Int) (e : Ending) (w' : World) : Prop :=
  ∃ r, e = .returned (.tuple #[r, .int .i64 (getI P S p)]) ∧ w'.ownsRow w.heap.size 5 1 r (getL P S p).length (cb (getL P S p)) ∧ Bk F TB TD A w' v dv (getB P S) (getS P S p) ∧ Ch A w w'
theorem gt_shut {p : Int} (hs : shutB P S = true) (h : BM F TB TD A D w' pb tv dv (endB P) S) (hc : Ch A w w') : Gt F TB TD A w (.pointer (some ⟨pb, 0, none⟩)) dv P S p (.returned (.tuple #[.slice none 0 0, .int .i64 80])) w' := by
  refine ⟨_, by unfold getI; rw [if_pos hs], ?_, ?_, hc⟩
  · unfold getL; rw [if_pos hs]; exact World.ownsRow_nil _ _ _ _
  · unfold getS getB; rw [if_pos hs, if_pos hs]; exact ⟨D, pb, tv, rfl, h⟩
theorem gt_page {p : Int} (hs : shutB P S = false) (hp : hasB P.tab.length p = false) (h : BM F TB TD A D w' pb tv dv P S) (hc : Ch A w w') : Gt F TB TD A w (.pointer (some ⟨pb, 0, none⟩)) dv P S p (.returned (.tuple #[.slice none 0 0, .int .i64 91])) w' := by
  have hs' : ¬ shutB P S = true := by rw [hs]; simp
  refine ⟨_, by unfold getI; rw [if_neg hs', if_pos hp], ?_, ?_, hc⟩
  · unfold getL; rw [if_neg hs', if_pos hp]; exact World.ownsRow_nil _ _ _ _
  · unfold getS getB; rw [if_neg hs', if_neg hs', if_pos hp]; exact ⟨D, pb, tv, rfl, h⟩
theorem gt_none {p : Int} (hs : shutB P S = false) (hp : hasB P.tab.length p = true) (h0 : tn P.tab p.toNat = 0) (h : BM F TB TD A D w' pb tv dv P S) (hc : Ch A w w') : Gt F TB TD A w (.pointer (some ⟨pb, 0, none⟩)) dv P S p (.returned (.tuple #[.slice none 0 0, .int .i64 0])) w' := by
  have hs' : ¬ shutB P S = true := by rw [hs]; simp
  have hp' : ¬ hasB P.tab.length p = false := by rw [hp]; simp
  refine ⟨_, by unfold getI; rw [if_neg hs', if_neg hp', if_pos h0], ?_, ?_, hc⟩
  · unfold getL; rw [if_neg hs', if_neg hp', if_pos h0]; exact World.ownsRow_nil _ _ _ _
  · unfold getS getB; rw [if_neg hs', if_neg hs', if_neg hp', if_pos h0]; exact ⟨D, pb, tv, rfl, h⟩
theorem BM.reread (h : BM F TB TD A D w pb tv dv P S) (hd : Dsk TD D w' dv S') (hc : Ch D w w') (hb : S'.bl.length = S.bl.length) : BM F TB TD A D w' pb tv dv P S' :=
  (h.redisk hd (fun _ hx => .inl hx) hc hb).mono (A' := A) (fun x hx => by rcases hx with q | q; exact q; exact h.sub x q) (fun x hx => Nat.lt_of_lt_of_le (h.al x hx) hc.size)
theorem gt_read {p : Int} {k : Nat} {w1 : World} {r : Value} (hs : shutB P S = false) (hp : hasB P.tab.length p = true) (hk : k = tn P.tab p.toNat) (h0 : k ≠ 0) (h : BM F TB TD A D w1 pb tv dv P S) (hB : Below w.heap.size w w1)
    (ho : w'.ownsRow w1.heap.size 5 1 r (readL S k).length (cb (readL S k))) (hd : Dsk TD D w' dv (readS S k)) (hc : Ch D w1 w') : Gt F TB TD A w (.pointer (some ⟨pb, 0, none⟩)) dv P S p (.returned (.tuple #[r, .int .i64 (refI S k)])) w' := by
  have hs' : ¬ shutB P S = true := by rw [hs]; simp
  have hp' : ¬ hasB P.tab.length p = false := by rw [hp]; simp
  subst hk
  refine ⟨_, by unfold getI; rw [if_neg hs', if_neg hp', if_neg h0], ?_, ?_, ?_⟩
  · unfold getL; rw [if_neg hs', if_neg hp', if_neg h0]; exact own_base ho hB.size
  · unfold getS getB; rw [if_neg hs', if_neg hs', if_neg hp', if_neg h0]; exact ⟨D, pb, tv, rfl, h.reread hd hc read_len⟩
  · exact (Ch.of_below (D := A) hB).trans (h.chA hc) (fun _ hx => .inl hx)
end



section

variable {A D : Nat → Prop} {w w' : World} {v dv tv : Value} {P P' : Bo} {S S' : Dk} {pb : Nat}

theorem get_nil (p : Int) : Calls Try.prog 9 #[.pointer none, .int .i64 p] w fun e w' => e = .returned (.tuple #[.slice none 0 0, .int .i64 2]) ∧ w' = w := by
  go_enter Try.func9, Try.ntmps9
  go_wp2_with fail
  refine (prefuses_nil).mono ?_
  rintro e w9 ⟨rfl, h9⟩
  have h9 := h9.symm
  subst h9
  go_wp2_with fail
  go_ret2
  exact ⟨rfl, rfl⟩


set_option maxRecDepth 100000 in
set_option maxHeartbeats 1000000 in
theorem get_walk (h : BP A w v dv P S) (p : Int) (hrd : S.rd < 9223372036854775807) : Calls Try.prog 9 #[v, .int .i64 p] w fun e w' => Gt hdP 56 62 A w v dv P S p e w' := by
  obtain ⟨D, pb, tv, rfl, h⟩ := h
  have HM : Hid (MP A D w pb tv dv P S) := h
  have HRD : Hid (S.rd < 9223372036854775807) := hrd
  cases hs : shutB P S
  · have HS : Hid (shutB P S = false) := hs
    have c0 := mp0 h
    have c1 := mp1 h
    have HT : Hid (Tw w tv P.tab) := h.tab
    cases hp : hasB P.tab.length p
    · have HP : Hid (hasB P.tab.length p = false) := hp
      clear h hs hp hrd
      go_enter Try.func9, Try.ntmps9
      go_wp2_with fail
      refine (prefuses_ok HM.out HS.out).mono ?_
      rintro e w9 ⟨rfl, h9⟩
      have h9 := h9.symm
      subst h9
      go_wp2_with fail
      refine (has_walk P.gen HT.out p).mono ?_
      rw [HP.out]
      rintro e w1 ⟨rfl, hB1⟩
      have HB1 : Hid (Below w.heap.size w w1) := hB1
      clear hB1
      go_wp2_with fail
      go_ret2
      exact gt_page HS.out HP.out (HM.out.below HB1.out) (Ch.of_below HB1.out)
    · have HP : Hid (hasB P.tab.length p = true) := hp
      obtain ⟨hp0, hp1⟩ := has_of hp
      obtain ⟨n, rfl⟩ : ∃ n : Nat, p = n := ⟨p.toNat, by omega⟩
      obtain ⟨ao, cap, rfl, hc1, hc2⟩ := h.tab.form
      obtain ⟨b, off, rfl, hc⟩ := h.tab.at (i := n) (by omega)
      obtain ⟨t, ht⟩ : ∃ t, t = P.tab := ⟨_, rfl⟩
      rw [← ht] at c1 hc hp1 HP
      rw [← ht] at HT
      have HTP : Hid (t = P.tab) := ht
      obtain ⟨y, hy⟩ : ∃ y, y = tn t n := ⟨_, rfl⟩
      rw [← hy] at hc
      have HY : Hid (y = tn t n) := hy
      have hni : (n : Int) < (t.length : Int) := by omega
      have hbD : ¬ D b := (h.at' b (by simp [Value.ownBlock])).2.1
      have hpD := h.nb
      have hbl := cell_lt hc
      have hpl := h.al pb h.ab
      have c2 := mp2 h
      have HD : Hid (Dsk 62 D w dv S) := h.dsk
      have HSZ : Hid (pb < w.heap.size ∧ b < w.heap.size) := ⟨hpl, hbl⟩
      have HND : Hid (¬ D pb ∧ ¬ D b) := ⟨hpD, hbD⟩
      have h8 : t.length ≤ 8 := by rw [ht]; exact h.ok.n8
      have hti : (t.length : Int) ≤ 8 := by omega
      clear h hs hp hp0 hc1 hc2 ht hy hbD hpD hbl hpl hrd h8
      by_cases hy0 : y = 0
      · have HY0 : Hid (y = 0) := hy0
        have hyb : ((y : Int) == 0) = true := by simp [hy0]
        clear hy0
        go_enter Try.func9, Try.ntmps9
        go_wp2_with fail
        refine (prefuses_ok HM.out HS.out).mono ?_
        rintro e w9 ⟨rfl, h9⟩
        have h9 := h9.symm
        subst h9
        go_wp2_with fail
        refine (has_walk P.gen HT.out n).mono ?_
        rw [HP.out]
        rintro e w1 ⟨rfl, hB1⟩
        have HB1 : Hid (Below w.heap.size w w1) := hB1
        have d1 : w1.cell? ⟨pb, 1, none⟩ = some (.slice (some ⟨b, off, none⟩) t.length cap) := by rw [hB1.cell (p := ⟨pb, 1, none⟩) HSZ.out.1]; exact c1
        have d2 : w1.cell? ⟨b, off + n, none⟩ = some (.int .i64 y) := by rw [hB1.cell (p := ⟨b, off + n, none⟩) HSZ.out.2]; exact hc
        clear hB1
        go_wp2_with fail
        go_ret2
        exact gt_none HS.out (by rw [← HTP.out]; exact HP.out) (by rw [← HTP.out, Int.toNat_natCast, ← HY.out]; exact HY0.out) (HM.out.below HB1.out) (Ch.of_below HB1.out)
      · have HY0 : Hid (y ≠ 0) := hy0
        have hyb : ((y : Int) == 0) = false := by simp; omega
        clear hy0
        go_enter Try.func9, Try.ntmps9
        go_wp2_with fail
        refine (prefuses_ok HM.out HS.out).mono ?_
        rintro e w9 ⟨rfl, h9⟩
        have h9 := h9.symm
        subst h9
        go_wp2_with fail
        refine (has_walk P.gen HT.out n).mono ?_
        rw [HP.out]
        rintro e w1 ⟨rfl, hB1⟩
        have HB1 : Hid (Below w.heap.size w w1) := hB1
        have d1 : w1.cell? ⟨pb, 1, none⟩ = some (.slice (some ⟨b, off, none⟩) t.length cap) := by rw [hB1.cell (p := ⟨pb, 1, none⟩) HSZ.out.1]; exact c1
        have d2 : w1.cell? ⟨b, off + n, none⟩ = some (.int .i64 y) := by rw [hB1.cell (p := ⟨b, off + n, none⟩) HSZ.out.2]; exact hc
        have j1 : ∀ wx, Ch D w1 wx → wx.cell? ⟨pb, 1, none⟩ = some (.slice (some ⟨b, off, none⟩) t.length cap) := fun wx hx => by rw [World.cell?_of_block (w := w1) (a := ⟨pb, 1, none⟩) (hx.block pb (cell_lt d1) HND.out.1)]; exact d1
        have j2 : ∀ wx, Ch D w1 wx → wx.cell? ⟨b, off + n, none⟩ = some (.int .i64 y) := fun wx hx => by rw [World.cell?_of_block (w := w1) (a := ⟨b, off + n, none⟩) (hx.block b (cell_lt d2) HND.out.2)]; exact d2
        have j3 : ∀ wx, Ch D w1 wx → wx.cell? ⟨pb, 2, none⟩ = some dv := fun wx hx => by rw [World.cell?_of_block (w := w1) (a := ⟨pb, 2, none⟩) (hx.block pb (cell_lt d1) HND.out.1), hB1.cell (p := ⟨pb, 2, none⟩) HSZ.out.1]; exact c2
        have HD1 : Hid (Dsk 62 D w1 dv S) := HD.out.below hB1
        have hSd : Ch D w1 w1.drew := Ch.of_below (below_drewN _ _)
        clear hB1
        go_wp2_with fail
        go_region_held3 (fun wx => Ch D w1 wx) (first | assumption)
          (first
            | (go_at_call 25; refine (read_walk (HD1.out.below (below_drewN _ _)) y HRD.out).mono ?_; rintro e w3 ⟨r, rfl, ho, hD3, hC3⟩; have hS3 : Ch D w1 w3 := Ch.self (by assumption) hC3))
        all_goals go_wp2_with fail
        all_goals go_ret2
        all_goals exact gt_read HS.out (by rw [← HTP.out]; exact HP.out) (by rw [← HTP.out, Int.toNat_natCast]; exact HY.out) HY0.out (HM.out.below HB1.out) HB1.out ho hD3 hS3
  · have HS : Hid (shutB P S = true) := hs
    clear h hs hrd
    go_enter Try.func9, Try.ntmps9
    go_wp2_with fail
    refine (prefuses_shut HM.out HS.out).mono ?_
    rintro e w1 ⟨rfl, hM1, hC1⟩
    go_wp2_with fail
    go_ret2
    exact gt_shut HS.out hM1 hC1
end

end Go.Proofs.Ytakijnclllmkfab


