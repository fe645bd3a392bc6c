/- Tick, Take, Note. -/
import Derived.Test.YtpndafieknddcaaCm
namespace Go.Proofs.Ytpndafieknddcaa

open Ieee Go.RowKit

def cutO (G : Int) (L : List Yt) : List Yt := if idxY (overD G) L 0 < 0 then L else L.take (idxY (overD G) L 0).toNat
def tik1 (c : Cs) : Cs := { c with o := false, L := cutO c.p.G (c.L.map ageY) }
def tikC (c : Cs) : Cs := if c.endB = true then { c with o := true } else if mayB (tik1 c) = true then begC (tik1 c) else tik1 c
def tikM (c : Cs) : Option Ms := if c.endB = true then none else if mayB (tik1 c) = true then begM (tik1 c) else none
def tikE (c : Cs) : Int := if c.endB = true then 80 else if mayB (tik1 c) = true then begE (tik1 c) else 0
def ta0 (c : Cs) : Cs := { c with o := false }
def taC (c : Cs) (m : Ms) : Cs := if c.endB = true then { c with o := true } else if sndM m = false then ta0 c else if m.T ≠ 0 then ta0 c else if m.K = 2 then { ta0 c with L := rdyL (ta0 c) m } else if m.K = 8 then cmtC (ta0 c) m else ta0 c
def taM (c : Cs) (m : Ms) : Option Ms := if c.endB = true then none else if sndM m = false then none else if m.T ≠ 0 then none else if m.K = 2 then rdyM (ta0 c) m else if m.K = 8 then cmtM (ta0 c) m else none
def taE (c : Cs) (m : Ms) : Int := if c.endB = true then 80 else if sndM m = false then 150 else if m.T ≠ 0 then 170 else if m.K = 2 then 0 else if m.K = 8 then cmtR (ta0 c) m else 0
section

variable {wz w w' w2 : World} {A E C : Nat → Prop} {sb cb jb : Nat} {c : Cs} {p : Pn} {q : Int} {J : Jn} {S : Dk} {F dv jv tv : Value} {f : Yt → Bool} {V : List Ye} {o : Bool} {m : Ms} {ev qv pv : Value} {l : List Int}

theorem inPhase2_walk (hl : Nv w pv l) : Calls Try.prog 24 #[pv] w fun e w' => e = .returned (.func (.func 43) #[] #[.pointer (some ⟨w.heap.size, 0, none⟩)]) ∧ w' = w.alloc (.cells #[pv] 25) := by
  have hmf : ∀ (fn : Fn) (first cap : Array Value) (w : World), (Instr.makeFunc fn first cap).run Try.prog w = .ok (.func fn first cap) w := fun _ _ _ _ => rfl
  obtain ⟨pa, pc, rfl, _⟩ := hl.form
  clear hl
  go_enter Try.func24, Try.ntmps24
  go_wp2_with fail
  go_ret
  exact ⟨rfl, rfl⟩
theorem may_lt (hok : c.ok) (h : mayB c = true) : c.L.length < 4 := by
  obtain ⟨_, _, _, _, _, ⟨_, hN⟩, _⟩ := Pn.is_num hok.pl
  unfold mayB at h
  rw [Bool.and_eq_true] at h
  have := of_decide_eq_true h.1
  omega
theorem nv2 (w : World) (x y : Int) (h0 : 0 ≤ x) (h1 : x ≤ 256) (h2 : 0 ≤ y) (h3 : y ≤ 256) : Nv (w.alloc (.cells #[.int .i64 x, .int .i64 y] 3)) (.slice (some ⟨w.heap.size, 0, none⟩) 2 2) [x, y] := own_nv (lit2 w x y) (fun v hv => by simp at hv; omega)
theorem ctick_nil : Calls Try.prog 7 #[.pointer none] w fun e w' => e = .returned (.tuple #[.slice none 0 0, .int .i64 2]) ∧ w' = w := by
  go_enter Try.func7, Try.ntmps7
  go_wp2_with (go_at_call 22; refine cref_nil.mono ?_; rintro e w9 ⟨rfl, h9⟩; replace h9 := h9.symm; subst h9)
  go_ret2
  exact ⟨rfl, rfl⟩
theorem cwm_more {c' : Cs} {mo : Option Ms} {er : Int} {e : Ending} (hc : ChA wz A w w2) (h : CwM wz A sb cb c' mo er w2 e w') : CwM wz A sb cb c' mo er w e w' := by
  obtain ⟨v, B, h1, h2, h3, h4, h5⟩ := h
  exact ⟨v, B, h1, h2, fun x hx => Nat.le_trans hc.size (h3 x hx), h4, hc.self h5⟩
theorem CwM.form {c' : Cs} {mo : Option Ms} {er : Int} {e : Ending} (h : CwM wz A sb cb c' mo er w e w') : ∃ a n k, e = .returned (.tuple #[.slice a n k, .int .i64 er]) := by
  obtain ⟨v, B, h1, h2, _⟩ := h
  obtain ⟨a, n, k, rfl⟩ := h2.nil_or
  exact ⟨a, n, k, h1⟩
set_option maxRecDepth 100000 in
set_option maxHeartbeats 2000000 in
theorem tick_walk (h : CW wz A sb cb c w) (ht : ∀ y ∈ c.L, y.t < 4294967295) (hwr : c.S.wr < 9223372036854775800) : Calls Try.prog 7 #[Pt cb] w (CwM wz A sb cb (tikC c) (tikM c) (tikE c) w) := by
  have HC : Hid (CW wz A sb cb c w) := h
  have HT : Hid (∀ y ∈ c.L, y.t < 4294967295) := ht
  have HWR : Hid (c.S.wr < 9223372036854775800) := hwr
  clear h ht hwr
  cases he : c.endB
  rotate_left
  · have HL : Hid (tikC c = { c with o := true } ∧ tikM c = none ∧ tikE c = 80) := ⟨if_pos he, if_pos he, if_pos he⟩
    have HRF : Hid (refC c = 80) := if_pos he
    have HEB : Hid (c.endB = true) := he
    rw [HL.out.1, HL.out.2.1, HL.out.2.2]
    clear he
    go_enter Try.func7, Try.ntmps7
    go_wp2_with fail
    refine (cref_walk HC.out).mono ?_
    rw [HRF.out, HEB.out]
    rintro e w1 ⟨rfl, hcw, hch⟩
    have HCW : Hid (CW wz A sb cb { c with o := true } w1) := hcw
    have HCH : Hid (ChA wz A w w1) := hch
    clear hcw hch
    go_wp2_with fail
    go_ret2
    exact cwm_none HCW.out HCH.out
  · have HEB : Hid (c.endB = false) := he
    have HRF : Hid (refC c = 0) := if_neg (by rw [he]; simp)
    obtain ⟨c1, hc1⟩ : ∃ c1, c1 = tik1 c := ⟨_, rfl⟩
    have HL : Hid (tikC c = (if mayB c1 = true then begC c1 else c1) ∧ tikM c = (if mayB c1 = true then begM c1 else none) ∧ tikE c = (if mayB c1 = true then begE c1 else 0)) := by
      rw [hc1]; exact ⟨if_neg (by rw [he]; simp), if_neg (by rw [he]; simp), if_neg (by rw [he]; simp)⟩
    have HC1D : Hid (c1 = { c with o := false, L := cutO c.p.G (c.L.map ageY) }) := hc1
    clear he hc1
    obtain ⟨oc, hoc⟩ : ∃ oc, oc = tikC c := ⟨_, rfl⟩
    obtain ⟨om, hom⟩ : ∃ om, om = tikM c := ⟨_, rfl⟩
    obtain ⟨oe, hoe⟩ : ∃ oe, oe = tikE c := ⟨_, rfl⟩
    rw [← hoc, ← hom, ← hoe] at HL ⊢
    clear hoc hom hoe
    go_enter Try.func7, Try.ntmps7
    go_wp2_with fail
    refine (cref_walk HC.out).mono ?_
    rw [HRF.out, HEB.out]
    rintro e w1 ⟨rfl, hcw, hch⟩
    have HCW1 : Hid (CW wz A sb cb { c with o := false } w1) := hcw
    have HCH1 : Hid (ChA wz A w w1) := hch
    obtain ⟨w2, hw2⟩ : ∃ w2, w2 = w1.alloc (.cells #[.int .i64 1, .int .i64 3] 3) := ⟨_, rfl⟩
    have HW2 : Hid (w2 = w1.alloc (.cells #[.int .i64 1, .int .i64 3] 3)) := hw2
    have HNV : Hid (Nv w2 (.slice (some ⟨w1.heap.size, 0, none⟩) 2 2) [1, 3]) := by show Nv _ _ _; rw [hw2]; exact nv2 w1 1 3 (by omega) (by omega) (by omega) (by omega)
    have HOV : Hid (OwN 0 w2 (.slice (some ⟨w1.heap.size, 0, none⟩) 2 2) [1, 3]) := by show OwN _ _ _ _; rw [hw2]; exact own_base (lit2 w1 1 3) (Nat.zero_le _)
    have HB12 : Hid (Below w1.heap.size w1 w2) := by show Below _ _ _; rw [hw2]; exact below_alloc _ _
    have HSZ2 : Hid (w1.heap.size < w2.heap.size) := by show _ < _; rw [hw2]; simp
    clear hcw hch hw2
    go_wp2_with fail
    rw [← HW2.out]
    refine (inPhase2_walk HNV.out).mono ?_
    rintro e w3 ⟨rfl, hw3⟩
    have HB13 : Hid (Below w1.heap.size w1 w3) := by show Below _ _ _; rw [hw3]; exact below_trans HB12.out (below_alloc _ _)
    have HBX : Hid (w3.heap[w2.heap.size]? = some (.cells #[.slice (some ⟨w1.heap.size, 0, none⟩) 2 2] 25 (0, 0))) := by show _ = _; rw [hw3]; exact alloc_at rfl
    have HOV3 : Hid (OwN 0 w3 (.slice (some ⟨w1.heap.size, 0, none⟩) 2 2) [1, 3]) := by show OwN _ _ _ _; rw [hw3]; exact own_below HOV.out (below_alloc _ _)
    clear hw3
    go_wp2_with fail
    refine (age_walk (HCW1.out.more HB13.out) HBX.out HOV3.out (.inr ⟨Nat.le_of_lt HSZ2.out, blk_lt HBX.out⟩) (fun x hx => .inr ⟨by cases hx; exact Nat.le_refl _, (HOV3.out.lt x hx).2⟩) HT.out).mono ?_
    rintro e w4 ⟨rfl, hcw, hch⟩
    have HCW4 : Hid (CW wz A sb cb { c with o := false, L := c.L.map ageY } w4) := hcw.less (fun x hx => .inl hx)
    have HCH4 : Hid (ChA wz A w w4) := (HCH1.out.self (Ch.of_below HB13.out)).self (ch_le hch (fun x hx => ⟨hx.1, fun h => hx.2 (.inl h)⟩))
    obtain ⟨C, jb, tv, V, _, _, h3, _⟩ := HCW4.out.ex
    have d7 : w4.cell? ⟨cb, 7, none⟩ = some (.int .i64 c.p.G) := h3.cell 7
    clear hcw hch h3
    go_wp2_with fail
    refine (overdue_walk (g := c.p.G)).mono ?_
    rintro e w5 ⟨F5, rfl, hP5, hB5⟩
    have HP5 : Hid (Pk w5 F5 (overD c.p.G)) := hP5
    have HCW5 : Hid (CW wz A sb cb { c with o := false, L := c.L.map ageY } w5) := HCW4.out.below hB5
    have HCH5 : Hid (ChA wz A w w5) := HCH4.out.self (Ch.of_below hB5)
    obtain ⟨n5, k5, rfl, _, _⟩ := hP5
    clear hB5 d7
    go_wp2_with fail
    refine (find_walk HCW5.out HP5.out).mono ?_
    obtain ⟨ix, hix⟩ : ∃ ix, ix = idxY (overD c.p.G) (c.L.map ageY) 0 := ⟨_, rfl⟩
    rw [show ({ c with o := false, L := c.L.map ageY } : Cs).L = c.L.map ageY from rfl, ← hix]
    rintro e w6 ⟨rfl, hB6⟩
    have HCW6 : Hid (CW wz A sb cb { c with o := false, L := c.L.map ageY } w6) := HCW5.out.below hB6
    have HCH6 : Hid (ChA wz A w w6) := HCH5.out.self (Ch.of_below hB6)
    clear hB6
    rcases idxY_cases (overD c.p.G) (c.L.map ageY) 0 with ⟨hn, _⟩ | ⟨i, hi, hi2, hq1, hq2⟩
    · have hneg : ix = -1 := by rw [hix]; exact hn
      have HCC : Hid (({ c with o := false, L := c.L.map ageY } : Cs) = c1) := by
        show _ = _
        rw [HC1D.out]; unfold cutO; rw [if_pos (by rw [hn]; decide)]
      have HCWX : Hid (CW wz A sb cb c1 w6) := by rw [← HCC.out]; exact HCW6.out
      subst hneg
      clear hn hix
      go_wp2_with fail
      refine (may_walk HCWX.out).mono ?_
      rintro e w8 ⟨rfl, h8⟩
      replace h8 := h8.symm
      subst h8
      cases hmb : mayB c1
      · have HL2 : Hid (oc = c1 ∧ om = none ∧ oe = 0) := by
          have h9 : ¬ mayB c1 = true := by rw [hmb]; simp
          exact ⟨HL.out.1.trans (if_neg h9), HL.out.2.1.trans (if_neg h9), HL.out.2.2.trans (if_neg h9)⟩
        clear hmb
        go_wp2_with fail
        go_ret2
        rw [HL2.out.1, HL2.out.2.1, HL2.out.2.2]
        exact cwm_none HCWX.out HCH6.out
      · have HL2 : Hid (oc = begC c1 ∧ om = begM c1 ∧ oe = begE c1) := ⟨HL.out.1.trans (if_pos hmb), HL.out.2.1.trans (if_pos hmb), HL.out.2.2.trans (if_pos hmb)⟩
        have HMB : Hid (mayB c1 = true) := hmb
        clear hmb
        go_wp2_with fail
        refine (begin_walk HCWX.out (may_lt HCWX.out.ok HMB.out) (by rw [HC1D.out]; exact HWR.out)).mono ?_
        intro e w9 hM9
        have HM9 : Hid (CwM wz A sb cb (begC c1) (begM c1) (begE c1) w e w9) := cwm_more HCH6.out hM9
        obtain ⟨a9, n9, k9, rfl⟩ := hM9.form
        clear hM9
        go_wp2_with fail
        go_ret2
        rw [HL2.out.1, HL2.out.2.1, HL2.out.2.2]
        exact HM9.out
    · have hir : ix = (i : Int) := by rw [hix, hi2, Nat.zero_add]
      have HI : Hid (i < (c.L.map ageY).length) := hi
      have HCC : Hid (({ c with o := false, L := (c.L.map ageY).take i } : Cs) = c1) := by
        show _ = _
        rw [HC1D.out]; unfold cutO; rw [hi2, if_neg (by omega), Nat.zero_add, Int.toNat_natCast]
      clear hq1 hq2
      subst hir
      clear hix hi2 hi
      go_wp2_with fail
      refine (giveup_walk HCW6.out HI.out).mono ?_
      rintro e w7 ⟨rfl, hcw, hch⟩
      have HCWX : Hid (CW wz A sb cb c1 w7) := by rw [← HCC.out]; exact hcw
      have HCH7 : Hid (ChA wz A w w7) := HCH6.out.self hch
      clear hcw hch
      go_wp2_with fail
      refine (may_walk HCWX.out).mono ?_
      rintro e w8 ⟨rfl, h8⟩
      replace h8 := h8.symm
      subst h8
      cases hmb : mayB c1
      · have HL2 : Hid (oc = c1 ∧ om = none ∧ oe = 0) := by
          have h9 : ¬ mayB c1 = true := by rw [hmb]; simp
          exact ⟨HL.out.1.trans (if_neg h9), HL.out.2.1.trans (if_neg h9), HL.out.2.2.trans (if_neg h9)⟩
        clear hmb
        go_wp2_with fail
        go_ret2
        rw [HL2.out.1, HL2.out.2.1, HL2.out.2.2]
        exact cwm_none HCWX.out HCH7.out
      · have HL2 : Hid (oc = begC c1 ∧ om = begM c1 ∧ oe = begE c1) := ⟨HL.out.1.trans (if_pos hmb), HL.out.2.1.trans (if_pos hmb), HL.out.2.2.trans (if_pos hmb)⟩
        have HMB : Hid (mayB c1 = true) := hmb
        clear hmb
        go_wp2_with fail
        refine (begin_walk HCWX.out (may_lt HCWX.out.ok HMB.out) (by rw [HC1D.out]; exact HWR.out)).mono ?_
        intro e w9 hM9
        have HM9 : Hid (CwM wz A sb cb (begC c1) (begM c1) (begE c1) w e w9) := cwm_more HCH7.out hM9
        obtain ⟨a9, n9, k9, rfl⟩ := hM9.form
        clear hM9
        go_wp2_with fail
        go_ret2
        rw [HL2.out.1, HL2.out.2.1, HL2.out.2.2]
        exact HM9.out
theorem MX.same {w w' : World} {P : Nat} (h : MX w P m ev qv pv) (e : w'.heap[P]? = w.heap[P]?) : MX w' P m ev qv pv := by
  have k : ∀ j u, w.cell? ⟨P, j, none⟩ = some u → w'.cell? ⟨P, j, none⟩ = some u := fun j u hu => by rw [← hu]; simp only [World.cell?, e]
  exact ⟨k _ _ h.c0, k _ _ h.c1, k _ _ h.c2, k _ _ h.c3, k _ _ h.c4, k _ _ h.c5, k _ _ h.c6, k _ _ h.c7, k _ _ h.c8, fun j => by have := h.z j; unfold World.frozen? at this ⊢; rw [e]; exact this⟩
theorem snd_E (h : sndM m = true) (hk : m.K = 2 ∨ m.K = 8) : (∀ v ∈ m.E, 0 ≤ v ∧ v ≤ 256) ∧ m.E.length ≤ 4 := by
  unfold sndM at h
  simp only [Bool.and_eq_true] at h
  have h1 := h.2.2.2.2.2
  have hf : fld m.K = 1 := by unfold fld; rw [if_pos (by rcases hk with e | e <;> simp [e])]
  unfold askB at h1
  rw [hf, if_pos rfl] at h1
  unfold endB at h1
  simp only [Bool.and_eq_true, decide_eq_true_eq, List.all_eq_true] at h1
  exact ⟨fun v hv => h1.2 v hv, h1.1.2⟩
set_option maxRecDepth 100000 in
set_option maxHeartbeats 2000000 in
theorem take_walk19 (h : CW wz A sb cb c w) (hmk : ∀ w', ChA wz A w w' → ML w' m ev qv pv) (hwr : c.S.wr < 9223372036854775800) : Calls Try.prog 11 #[Pt cb, .agg #[.int .i64 m.K, .int .i64 m.F, .int .i64 m.T, .int .i64 m.B, .int .i64 m.A, .int .i64 m.C, ev, qv, pv]] w (CwM wz A sb cb (taC c m) (taM c m) (taE c m) w) := by
  have HWR : Hid (c.S.wr < 9223372036854775800) := hwr
  obtain ⟨w0, hw0⟩ : ∃ w0, w0 = w.alloc (Obj.cells #[.int .i64 m.K, .int .i64 m.F, .int .i64 m.T, .int .i64 m.B, .int .i64 m.A, .int .i64 m.C, ev, qv, pv] 41) := ⟨_, rfl⟩
  have hb0 : Below w.heap.size w w0 := by rw [hw0]; exact below_alloc _ _
  have HB0 : Hid (Below w.heap.size w w0) := hb0
  have hmx0 : MX w0 w.heap.size m ev qv pv := by rw [hw0]; exact mx_new _ _ _ _ _
  have hlt0 : w.heap.size < w0.heap.size := by rw [hw0]; simp
  have HCA : Hid (CW wz (fun x => A x ∨ (w.heap.size ≤ x ∧ x < w0.heap.size)) sb cb c w0) := h.more hb0
  have hm := hmk w (Ch.refl _ _)
  have HMK : Hid (∀ w', ChA wz A w w' → ML w' m ev qv pv) := hmk
  obtain ⟨ea, ec, rfl, _⟩ := hm.e
  obtain ⟨qa, qc, rfl, _⟩ := hm.q
  obtain ⟨⟨pa, pc, rfl, _⟩, _⟩ := hm.p
  generalize hqn : (ib m.Q).length = qn at *
  generalize hpn : m.P.length = pn at *
  have HW0 : Hid (w0 = w.alloc (Obj.cells #[.int .i64 m.K, .int .i64 m.F, .int .i64 m.T, .int .i64 m.B, .int .i64 m.A, .int .i64 m.C, .slice ea m.E.length ec, .slice qa qn qc, .slice pa pn pc] 41)) := hw0
  have HMX : Hid (MX w0 w.heap.size m (.slice ea m.E.length ec) (.slice qa qn qc) (.slice pa pn pc)) := hmx0
  have HLT : Hid (w.heap.size < w0.heap.size) := hlt0
  obtain ⟨oc, hoc⟩ : ∃ oc, oc = taC c m := ⟨_, rfl⟩
  obtain ⟨om, hom⟩ : ∃ om, om = taM c m := ⟨_, rfl⟩
  obtain ⟨oe, hoe⟩ : ∃ oe, oe = taE c m := ⟨_, rfl⟩
  have HOC : Hid (oc = taC c m) := hoc
  have HOM : Hid (om = taM c m) := hom
  have HOE : Hid (oe = taE c m) := hoe
  rw [← hoc, ← hom, ← hoe]
  clear h hm hmk hwr hw0 hb0 hmx0 hlt0 hqn hpn hoc hom hoe
  cases he : c.endB
  rotate_left
  · have HL : Hid (oc = { c with o := true } ∧ om = none ∧ oe = 80) := ⟨HOC.out.trans (if_pos he), HOM.out.trans (if_pos he), HOE.out.trans (if_pos he)⟩
    have HRF : Hid (refC c = 80) := if_pos he
    have HEB : Hid (c.endB = true) := he
    clear he
    go_enter Try.func11, Try.ntmps11
    go_wp2_with fail
    rw [← HW0.out]
    refine (cref_walk HCA.out).mono ?_
    rw [HRF.out, HEB.out]
    rintro e w1 ⟨rfl, hcw, hch⟩
    have HCW : Hid (CW wz A sb cb { c with o := true } w1) := hcw.less (fun x hx => .inl hx)
    have HCH : Hid (ChA wz A w w1) := (Ch.of_below HB0.out).self (ch_le hch (fun x hx => ⟨hx.1, fun h => hx.2 (.inl h)⟩))
    clear hcw hch
    go_wp2_with fail
    go_ret2
    rw [HL.out.1, HL.out.2.1, HL.out.2.2]
    exact cwm_none HCW.out HCH.out
  · have hne : ¬ c.endB = true := by rw [he]; simp
    have HOC2 := hidH (HOC.out.trans (if_neg hne))
    have HOM2 := hidH (HOM.out.trans (if_neg hne))
    have HOE2 := hidH (HOE.out.trans (if_neg hne))
    have HEB : Hid (c.endB = false) := he
    have HRF : Hid (refC c = 0) := if_neg (by rw [he]; simp)
    clear he hne
    go_enter Try.func11, Try.ntmps11
    go_wp2_with fail
    rw [← HW0.out]
    refine (cref_walk HCA.out).mono ?_
    rw [HRF.out, HEB.out]
    rintro e w1 ⟨rfl, hcw, hch⟩
    have HCW : Hid (CW wz A sb cb (ta0 c) w1) := hcw.less (fun x hx => .inl hx)
    have HCH : Hid (ChA wz A w w1) := (Ch.of_below HB0.out).self (ch_le hch (fun x hx => ⟨hx.1, fun h => hx.2 (.inl h)⟩))
    have hmxk : w1.heap[w.heap.size]? = w0.heap[w.heap.size]? := hch.block _ HLT.out (fun h => h.2 (.inr ⟨Nat.le_refl _, HLT.out⟩))
    have hm1 : MX w1 w.heap.size m (.slice ea m.E.length ec) (.slice qa qn qc) (.slice pa pn pc) := HMX.out.same hmxk
    have HM1 : Hid (MX w1 w.heap.size m (.slice ea m.E.length ec) (.slice qa qn qc) (.slice pa pn pc)) := hm1
    have HML1 : Hid (ML w1 m (.slice ea m.E.length ec) (.slice qa qn qc) (.slice pa pn pc)) := HMK.out w1 HCH.out
    have HLT1 : Hid (w.heap.size < w1.heap.size) := Nat.lt_of_lt_of_le HLT.out hch.size
    obtain ⟨e0, e1, e2, e3, e4, e5, e6, e7, e8, _⟩ := hm1
    clear hcw hch hmxk
    go_wp2_with fail
    refine (sound_walkE HML1.out).mono ?_
    rintro e w2 ⟨rfl, hB2⟩
    have HCW2 : Hid (CW wz A sb cb (ta0 c) w2) := HCW.out.below hB2
    have HCH2 : Hid (ChA wz A w w2) := HCH.out.self (Ch.of_below hB2)
    have HML2 : Hid (ML w2 m (.slice ea m.E.length ec) (.slice qa qn qc) (.slice pa pn pc)) := HML1.out.below hB2
    obtain ⟨f0, f1, f2, f3, f4, f5, f6, f7, f8, _⟩ := HM1.out.belowB hB2 HLT1.out
    clear hB2 e0 e1 e2 e3 e4 e5 e6 e7 e8
    cases hs : sndM m
    · have HL : Hid (oc = ta0 c ∧ om = none ∧ oe = 150) := ⟨HOC2.out.trans (if_pos hs), HOM2.out.trans (if_pos hs), HOE2.out.trans (if_pos hs)⟩
      clear hs
      go_wp2_with fail
      go_ret2
      rw [HL.out.1, HL.out.2.1, HL.out.2.2]
      exact cwm_none HCW2.out HCH2.out
    · have hsn : ¬ sndM m = false := by rw [hs]; simp
      have HSN : Hid (sndM m = true) := hs
      have HOC3 := hidH (HOC2.out.trans (if_neg hsn))
      have HOM3 := hidH (HOM2.out.trans (if_neg hsn))
      have HOE3 := hidH (HOE2.out.trans (if_neg hsn))
      clear hs hsn
      by_cases hT : m.T = 0
      rotate_left
      · have qT : (m.T != 0) = true := by simp [hT]
        have HL : Hid (oc = ta0 c ∧ om = none ∧ oe = 170) := ⟨HOC3.out.trans (if_pos hT), HOM3.out.trans (if_pos hT), HOE3.out.trans (if_pos hT)⟩
        clear hT
        go_wp2_with fail
        go_ret2
        rw [HL.out.1, HL.out.2.1, HL.out.2.2]
        exact cwm_none HCW2.out HCH2.out
      · have qT : (m.T != 0) = false := by simp [hT]
        have hTn : ¬ m.T ≠ 0 := fun h => h hT
        have HOC4 := hidH (HOC3.out.trans (if_neg hTn))
        have HOM4 := hidH (HOM3.out.trans (if_neg hTn))
        have HOE4 := hidH (HOE3.out.trans (if_neg hTn))
        clear hT hTn
        by_cases hK2 : m.K = 2
        · have q2 : (m.K == 2) = true := by simp [hK2]
          have HL : Hid (oc = { ta0 c with L := rdyL (ta0 c) m } ∧ om = rdyM (ta0 c) m ∧ oe = 0) := ⟨HOC4.out.trans (if_pos hK2), HOM4.out.trans (if_pos hK2), HOE4.out.trans (if_pos hK2)⟩
          have HEB := hidH (snd_E HSN.out (.inl hK2))
          clear hK2
          go_wp2_with fail
          refine (ready_walk HCW2.out HML2.out HEB.out.1 HEB.out.2).mono ?_
          rintro e w3 ⟨v3, B3, rfl, hmg, hBb, hcw, hch⟩
          have HR := hidH (show CwM wz A sb cb { ta0 c with L := rdyL (ta0 c) m } (rdyM (ta0 c) m) 0 w (.returned (.tuple #[v3, .int .i64 0])) w3 from ⟨v3, B3, rfl, hmg, fun x hx => Nat.le_trans HCH2.out.size (hBb x hx), hcw, HCH2.out.self hch⟩)
          obtain ⟨a3, n3, k3, rfl⟩ := hmg.nil_or
          clear hmg hBb hcw hch
          go_wp2_with fail
          go_ret2
          rw [HL.out.1, HL.out.2.1, HL.out.2.2]
          exact HR.out
        · have q2 : (m.K == 2) = false := by simp [hK2]
          have HOC5 := hidH (HOC4.out.trans (if_neg hK2))
          have HOM5 := hidH (HOM4.out.trans (if_neg hK2))
          have HOE5 := hidH (HOE4.out.trans (if_neg hK2))
          by_cases hK8 : m.K = 8
          · have q8 : (m.K == 8) = true := by simp [hK8]
            have HL : Hid (oc = cmtC (ta0 c) m ∧ om = cmtM (ta0 c) m ∧ oe = cmtR (ta0 c) m) := ⟨HOC5.out.trans (if_pos hK8), HOM5.out.trans (if_pos hK8), HOE5.out.trans (if_pos hK8)⟩
            have HEB := hidH (snd_E HSN.out (.inr hK8))
            clear hK8 hK2
            go_wp2_with fail
            refine (commit_walk HCW2.out HML2.out HEB.out.1 HWR.out).mono ?_
            intro e w3 hM3
            have HM3 := hidH (cwm_more HCH2.out hM3)
            obtain ⟨a3, n3, k3, rfl⟩ := hM3.form
            clear hM3
            go_wp2_with fail
            go_ret2
            rw [HL.out.1, HL.out.2.1, HL.out.2.2]
            exact HM3.out
          · have q8 : (m.K == 8) = false := by simp [hK8]
            have HL : Hid (oc = ta0 c ∧ om = none ∧ oe = 0) := ⟨HOC5.out.trans (if_neg hK8), HOM5.out.trans (if_neg hK8), HOE5.out.trans (if_neg hK8)⟩
            clear hK8 hK2
            go_wp2_with fail
            go_ret2
            rw [HL.out.1, HL.out.2.1, HL.out.2.2]
            exact cwm_none HCW2.out HCH2.out
set_option maxRecDepth 100000 in
set_option maxHeartbeats 2000000 in
theorem cnote_walk (h : CW wz A sb cb c w) : Calls Try.prog 13 #[Pt cb] w (CpGot w c.J.n) := by
  obtain ⟨w0, hw0⟩ : ∃ w0, w0 = w.alloc (Obj.cells #[.int .i64 0, .slice none 0 0, .slice none 0 0, .int .i64 0] 53) := ⟨_, rfl⟩
  have HW0 : Hid (w0 = w.alloc (Obj.cells #[.int .i64 0, .slice none 0 0, .slice none 0 0, .int .i64 0] 53)) := hw0
  have hB0 : Below w.heap.size w w0 := by rw [hw0]; exact below_alloc _ _
  have hz : w0.heap[w.heap.size]? = some (.cells #[.int .i64 0, .slice none 0 0, .slice none 0 0, .int .i64 0] 53 (0, 0)) := by rw [hw0]; exact alloc_at rfl
  have HZ : Hid (w0.heap[w.heap.size]? = some (.cells #[.int .i64 0, .slice none 0 0, .slice none 0 0, .int .i64 0] 53 (0, 0))) := hz
  obtain ⟨C, jb, tv, V, h1, h2, h3, h4⟩ := h.ex
  have HL : Hid (Lw wz (fun x => A x ∨ C x) sb jb c.p.P c.J c.S w0) := h2.below hB0
  have c9 : w.cell? ⟨cb, 9, none⟩ = some (.pointer (some ⟨jb, 0, none⟩)) := h3.cell 9
  have hlt : cb < w.heap.size := h3.lt
  have hne : ¬ cb = w.heap.size := by omega
  clear h h1 h2 h3 h4 hw0 hB0 hz
  go_enter Try.func13, Try.ntmps13
  go_wp2_with fail
  rw [← HW0.out]
  refine (lw_note HL.out).mono ?_
  rintro e w2 ⟨pa, pc2, ca, cc2, rfl, ho1, ho2, hB2⟩
  have HO1 : Hid (OwN w0.heap.size w2 (.slice pa c.J.n.p.length pc2) c.J.n.p) := ho1
  have HO2 : Hid (OwN w0.heap.size w2 (.slice ca c.J.n.c.length cc2) c.J.n.c) := ho2
  have HB2 : Hid (Below w0.heap.size w0 w2) := hB2
  have hz := blk_below HZ.out hB2
  have r0 : w2.cell? ⟨w.heap.size, 0, none⟩ = some (.int .i64 0) := by rw [blk_cell hz]; rfl
  have r1 : w2.cell? ⟨w.heap.size, 1, none⟩ = some (.slice none 0 0) := by rw [blk_cell hz]; rfl
  have r2 : w2.cell? ⟨w.heap.size, 2, none⟩ = some (.slice none 0 0) := by rw [blk_cell hz]; rfl
  have r3 : w2.cell? ⟨w.heap.size, 3, none⟩ = some (.int .i64 0) := by rw [blk_cell hz]; rfl
  have f0 : w2.frozen? ⟨w.heap.size, 0, none⟩ = false := blk_soft hz 0
  have f1 : w2.frozen? ⟨w.heap.size, 1, none⟩ = false := blk_soft hz 1
  have f2 : w2.frozen? ⟨w.heap.size, 2, none⟩ = false := blk_soft hz 2
  have f3 : w2.frozen? ⟨w.heap.size, 3, none⟩ = false := blk_soft hz 3
  clear hz ho1 ho2 hB2
  go_wp2_with fail
  (try simp only [Exit.inBlock, Exit.then])
  refine bodyPost_ret (v := .agg #[.int .i64 c.J.n.b, .slice pa c.J.n.p.length pc2, .slice ca c.J.n.c.length cc2, .int .i64 c.J.n.a]) (by rw [results_cell1 rfl]; go_simp) rfl ?_
  exact note_end (by rw [← HW0.out]; exact HO1.out) (by rw [← HW0.out]; exact HO2.out) (by rw [← HW0.out]; exact HB2.out) (grown_set4 _ _ _ _ _ _)
end

end Go.Proofs.Ytpndafieknddcaa
