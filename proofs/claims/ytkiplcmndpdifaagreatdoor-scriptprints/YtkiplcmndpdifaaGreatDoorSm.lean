/- The reader: a line. Printed by gen_sm21.py. -/
import Derived.Test.YtkiplcmndpdifaaGreatDoorSl

namespace Go.Proofs.YtkiplcmndpdifaaGreatDoor

open Go.RowKit



section

variable {B R M : Nat} {r : Rd} {ov sv : Value} {w : World}



set_option maxHeartbeats 2000000 in
theorem takeStep_no (h : RM B R r ov sv M w) {v : Bs} (hf : formW v = none) :
    Calls Tryz.prog 50 #[.pointer (some ⟨R, 0, none⟩), S v] w (Bad B R r.ln 210 w) := by
  have HR : Hid (RM B R r ov sv M w) := h
  have HFW := formNamed_walk v w h.tb
  have hfw : formL.find? (fun f => f.w == v) = none := hf
  rw [hfw] at HFW
  simp only [FmA, FmV, FmZ, Option.getD_none, Option.isSome_none, S] at HFW ⊢
  obtain ⟨t, ht⟩ : ∃ t : ByteArray, t = ⟨v.toArray⟩ := ⟨_, rfl⟩
  rw [← ht] at HFW ⊢
  have HFN : Hid (Calls Tryz.prog 62 #[.string t] w fun e w' => e = .returned (.tuple #[.agg #[.int .i64 0, .string ⟨#[]⟩, .int .i64 0], .bool false]) ∧ Below w.heap.size w w') := HFW
  clear h HFW hf hfw ht
  go_enter Tryz.func50, Tryz.ntmps50
  go_wp2_with fail
  refine HFN.out.mono ?_
  rintro e9 w0 ⟨rfl, hB0⟩
  have HR0 : Hid (RM B R r ov sv M (w0.alloc (.cells #[.int .i64 0, .string ⟨#[]⟩, .int .i64 0] 80))) := (HR.out.go hB0).go (below_alloc _ _)
  have HB0 : Hid (Below w.heap.size w (w0.alloc (.cells #[.int .i64 0, .string ⟨#[]⟩, .int .i64 0] 80))) := below_trans hB0 (below_alloc _ _)
  clear hB0 HFN
  go_wp2_with fail
  refine (refuse_yes HR0.out 210).mono ?_
  rintro e9 w4 ⟨⟨u, pv, rfl⟩, h1⟩
  go_wp2_with fail
  exact ⟨rfl, Bad.from ⟨⟨_, _, rfl⟩, h1⟩ (Ch.of_below HB0.out)⟩


/-- What taking a step's line comes to. -/
def StepR (s : Rs) (v : Bs) (ws : List Bs) : Except Int (Rs × List Bs) := match formW v with
  | none => .error 210
  | some f => match stA f ws with
    | none => .error 211
    | some (t, vs) => .ok ({ s with sts := s.sts ++ [t] }, vs)


/-- A call that takes a part of a line, or finds a fault. -/
def PartGot (B R : Nat) (r : Rd) (A : Except Int (Rs × List Bs)) (w : World) (e : Ending) (w' : World) : Prop :=
  match A with
  | .error f => Bad B R r.ln f w e w'
  | .ok (s, vs) => e = .returned (.tuple #[]) ∧ (∃ ov sv M, RM B R { r with ws := vs, s := s } ov sv M w') ∧ Ch (fun x => x = R ∨ B ≤ x) w w'


theorem takeStep_walk (h : RM B R r ov sv M w) (hon : r.s.sts.length ≤ 4096) (v : Bs) :
    Calls Tryz.prog 50 #[.pointer (some ⟨R, 0, none⟩), S v] w (PartGot B R r (StepR r.s v r.ws) w) := by
  cases hf : formW v with
  | none =>
    have e : StepR r.s v r.ws = .error 210 := by unfold StepR; rw [hf]
    rw [e]
    exact takeStep_no h hf
  | some f =>
    have key : Calls Tryz.prog 50 #[.pointer (some ⟨R, 0, none⟩), S v] w (LineGot B R r ((stA f r.ws).map fun x => ({ r.s with sts := r.s.sts ++ [x.1] }, x.2)) w) := by
      rcases form_g hf with hg | hg | hg | hg | hg | hg
      · exact takeStep_13 h hon hf hg
      · exact takeStep_3 h hon hf hg
      · exact takeStep_0 h hon hf hg
      · exact takeStep_2 h hon hf hg
      · exact takeStep_1 h hon hf hg
      · exact takeStep_4 h hon hf hg
    refine key.mono ?_
    intro e w' hL
    unfold StepR
    rw [hf]
    simp only
    cases hs : stA f r.ws with
    | none => rw [hs] at hL; exact hL
    | some x => rw [hs] at hL; exact hL


theorem takeOp_part (h : RM B R r ov sv M w) (hs0 : r.s.sts = []) (hon : r.s.ops.length ≤ 300000) :
    Calls Tryz.prog 49 #[.pointer (some ⟨R, 0, none⟩)] w (PartGot B R r (match opA r.ws with | none => .error 211 | some (o, vs) => .ok ({ r.s with ops := r.s.ops ++ [o] }, vs)) w) := by
  refine (takeOp_walk h hs0 hon).mono ?_
  intro e w' hL
  cases hs : opA r.ws with
  | none => rw [hs] at hL; exact hL
  | some x => rw [hs] at hL; exact hL


theorem takePlan_part (h : RM B R r ov sv M w) :
    Calls Tryz.prog 48 #[.pointer (some ⟨R, 0, none⟩)] w (PartGot B R r (match nms 7 r.ws with | none => .error 211 | some (l, vs) => .ok ({ r.s with pd := true, p := plOf l }, vs)) w) := by
  refine (takePlan_walk h).mono ?_
  intro e w' hL
  cases hs : nms 7 r.ws with
  | none => rw [hs] at hL; exact hL
  | some x => rw [hs] at hL; exact ⟨hL.1, ⟨_, _, _, hL.2.1⟩, hL.2.2.le fun x hx => .inl hx⟩


/-- What a line comes to. -/
def TakeGot (B R : Nat) (r : Rd) (A : Except Int Rs) (w : World) (e : Ending) (w' : World) : Prop :=
  match A with
  | .error f => Bad B R r.ln f w e w'
  | .ok s => e = .returned (.tuple #[]) ∧ (∃ ov sv M, RM B R { r with ws := [], s := s } ov sv M w') ∧ Ch (fun x => x = R ∨ B ≤ x) w w'


/-- Which part of a line is to be taken. -/
def partR (s : Rs) (v : Bs) (ws : List Bs) : Except Int (Rs × List Bs) :=
  if s.pd = false then
    if v ≠ planW then .error 210 else match nms 7 ws with | none => .error 211 | some (l, vs) => .ok ({ s with pd := true, p := plOf l }, vs)
  else if v = opW ∧ s.sts = [] then match opA ws with | none => .error 211 | some (o, vs) => .ok ({ s with ops := s.ops ++ [o] }, vs)
  else if s.sts.length = 4096 then .error 212
  else StepR s v ws


theorem lineR_part (s : Rs) (v : Bs) (ws : List Bs) : lineR s v ws = match partR s v ws with
    | .error e => .error e
    | .ok (s', vs) => if vs ≠ [] then .error 211 else .ok s' := by
  unfold lineR partR
  split
  · split
    · rfl
    · cases nms 7 ws <;> rfl
  · split
    · cases opA ws <;> rfl
    · split
      · rfl
      · unfold StepR
        cases formW v with
        | none => rfl
        | some f =>
          dsimp only
          cases stA f ws <;> rfl


theorem str_eq_lit {t : ByteArray} {v l : Bs} (ht : t = ⟨v.toArray⟩) (h : v = l) : (t.toList == l) = true := by
  subst h; subst ht; rw [ByteArray.toList_eq]; simp
theorem str_ne_lit {t : ByteArray} {v l : Bs} (ht : t = ⟨v.toArray⟩) (h : v ≠ l) : (t.toList == l) = false := by
  subst ht; rw [ByteArray.toList_eq, beq_eq_false_iff_ne]; simpa using h


set_option maxRecDepth 100000 in
set_option maxHeartbeats 8000000 in
theorem take_walk21 (h : RM B R r ov sv M w) (hst : r.s.sts.length ≤ 4096) (hop : r.s.ops.length ≤ 300000) (v : Bs) (vs : List Bs) (hv : ∀ x ∈ v :: vs, (32 : UInt8) ∉ x) (hl : (v ++ joinB 32 vs).length ≤ 262144) :
    Calls Tryz.prog 29 #[.pointer (some ⟨R, 0, none⟩), S (v ++ joinB 32 vs)] w (TakeGot B R r (lineR r.s v vs) w) := by
  have HBG := begin_walk h v vs hv hl
  have HST : Hid (r.s.sts.length ≤ 4096 ∧ r.s.ops.length ≤ 300000) := ⟨hst, hop⟩
  obtain ⟨A, hA⟩ : ∃ A, A = lineR r.s v vs := ⟨_, rfl⟩
  rw [← hA]
  have HAA : Hid (A = lineR r.s v vs) := hA
  obtain ⟨t, ht⟩ : ∃ t : ByteArray, t = ⟨v.toArray⟩ := ⟨_, rfl⟩
  have HT : Hid (t = ⟨v.toArray⟩) := ht
  obtain ⟨tl, htl⟩ : ∃ t : ByteArray, t = ⟨(v ++ joinB 32 vs).toArray⟩ := ⟨_, rfl⟩
  simp only [S] at HBG ⊢
  rw [← htl] at HBG ⊢
  rw [← ht] at HBG
  have HB : Hid (Calls Tryz.prog 47 #[.pointer (some ⟨R, 0, none⟩), .string tl] w (Good B R M r ov sv (.string t) vs w)) := HBG
  clear h hst hop hv hl HBG hA ht htl
  go_enter Tryz.func29, Tryz.ntmps29
  go_wp2_with fail
  refine HB.out.mono ?_
  rintro e9 w1 ⟨rfl, hr1, hc1⟩
  have HR1 : Hid (RM B R (Rd.mk r.ln vs r.fa r.s) ov sv M w1) := hr1
  have HC1 : Hid (Ch (fun x => x = R) w w1) := hc1
  have c3 : w1.cell? ⟨R, 3, none⟩ = some (.bool r.s.pd) := by rw [blk_cell hr1.blk]; rfl
  obtain ⟨oa, oc, hov, _, _⟩ := own_form21 hr1.sts
  have c12 : w1.cell? ⟨R, 12, none⟩ = some (.slice oa r.s.sts.length oc) := by rw [← hov, blk_cell hr1.blk]; rfl
  clear hr1 hc1 HB hov
  cases hpd : r.s.pd with
  | false =>
    rw [hpd] at c3
    by_cases hpl : v = planW
    · have hq : (t.toList == ([112, 108, 97, 110] : Bs)) = true := str_eq_lit HT.out hpl
      have HPX : Hid (partR r.s v vs = (match nms 7 vs with | none => (.error 211 : Except Int (Rs × List Bs)) | some (l, ws') => .ok ({ r.s with pd := true, p := plOf l }, ws'))) := by
        show _ = _
        unfold partR
        rw [if_pos hpd, if_neg (fun e => e hpl)]
      clear hpl hpd
      go_wp2_with fail
      refine (refuse_no 210 w1).mono ?_
      rintro e9 w9 ⟨rfl, hw9⟩
      replace hw9 := hw9.symm
      subst hw9
      go_wp2_with fail
      refine (takePlan_part HR1.out).mono ?_
      rintro e9 w2 hT
      cases hx : (match nms 7 vs with | none => (.error 211 : Except Int (Rs × List Bs)) | some (l, ws') => .ok ({ r.s with pd := true, p := plOf l }, ws')) with
      | error f =>
        rw [hx] at hT
        have hT' : Bad B R r.ln f w1 e9 w2 := hT
        have HAN : Hid (A = .error f) := by
          show _ = _
          rw [HAA.out, lineR_part, HPX.out, hx]
        have HBD : Hid (Bad B R r.ln f w e9 w2) := Bad.from hT' (HC1.out.le fun x hx => .inl hx)
        obtain ⟨⟨u, pv, rfl⟩, _⟩ := hT'
        clear hT hx
        go_wp2_with fail
        refine ⟨rfl, ?_⟩
        rw [HAN.out]
        exact HBD.out
      | ok y =>
        obtain ⟨s2, ws2⟩ := y
        rw [hx] at hT
        obtain ⟨rfl, ⟨ov2, sv2, M2, hr2⟩, hc2⟩ := (show e9 = .returned (.tuple #[]) ∧ (∃ ov sv M, RM B R (Rd.mk r.ln ws2 r.fa s2) ov sv M w2) ∧ Ch (fun x => x = R ∨ B ≤ x) w1 w2 from hT)
        have HR2 : Hid (RM B R (Rd.mk r.ln ws2 r.fa s2) ov2 sv2 M2 w2) := hr2
        have HC2 : Hid (Ch (fun x => x = R ∨ B ≤ x) w w2) := (HC1.out.le fun x hx => .inl hx).self hc2
        have HX : Hid ((match nms 7 vs with | none => (.error 211 : Except Int (Rs × List Bs)) | some (l, ws') => .ok ({ r.s with pd := true, p := plOf l }, ws')) = .ok (s2, ws2)) := hx
        obtain ⟨t2, ht2⟩ : ∃ t2 : ByteArray, t2 = ⟨(joinB 32 ws2).toArray⟩ := ⟨_, rfl⟩
        have c1 : w2.cell? ⟨R, 1, none⟩ = some (.string t2) := by rw [blk_cell hr2.blk, ht2]; rfl
        cases ws2 with
        | nil =>
          have he : t2.toList.isEmpty = true := by rw [ht2]; exact emp_nil
          have HAN : Hid (A = .ok s2) := by
            show _ = _
            rw [HAA.out, lineR_part, HPX.out, HX.out]
            rfl
          clear hT hx hr2 hc2 ht2
          go_wp2_with fail
          refine (refuse_no 211 w2).mono ?_
          rintro e9 w9 ⟨rfl, hw9⟩
          replace hw9 := hw9.symm
          subst hw9
          go_wp2_with fail
          refine bodyPost_end (results_none rfl _ _ _) rfl ?_
          rw [HAN.out]
          exact ⟨rfl, ⟨_, _, _, HR2.out⟩, HC2.out⟩
        | cons a ax =>
          have he : t2.toList.isEmpty = false := by rw [ht2]; exact emp_cons _ _
          have HAN : Hid (A = .error 211) := by
            show _ = _
            rw [HAA.out, lineR_part, HPX.out, HX.out]
            rfl
          clear hT hx hr2 hc2 ht2
          go_wp2_with fail
          refine (refuse_yes HR2.out 211).mono ?_
          rintro e9 w4 ⟨⟨u, pv, rfl⟩, h1⟩
          go_wp2_with fail
          refine ⟨rfl, ?_⟩
          rw [HAN.out]
          exact Bad.from (ln := r.ln) ⟨⟨_, _, rfl⟩, h1⟩ HC2.out
    · have hq : (t.toList == ([112, 108, 97, 110] : Bs)) = false := str_ne_lit HT.out hpl
      have HAN : Hid (A = .error 210) := by
        show _ = _
        rw [HAA.out]
        unfold lineR
        rw [if_pos hpd, if_pos hpl]
      clear hpl hpd
      go_wp2_with fail
      refine (refuse_yes HR1.out 210).mono ?_
      rintro e9 w4 ⟨⟨u, pv, rfl⟩, h1⟩
      go_wp2_with fail
      refine ⟨rfl, ?_⟩
      rw [HAN.out]
      exact Bad.from (ln := r.ln) ⟨⟨_, _, rfl⟩, h1⟩ (HC1.out.le fun x hx => .inl hx)
  | true =>
    rw [hpd] at c3
    by_cases hc : v = opW ∧ r.s.sts = []
    · obtain ⟨ho, hs0⟩ := hc
      have hq : (t.toList == ([111, 112] : Bs)) = true := str_eq_lit HT.out ho
      have HS0 : Hid (r.s.sts = []) := hs0
      have hn0 : r.s.sts.length = 0 := by rw [hs0]; rfl
      rw [hn0] at c12
      have HPX : Hid (partR r.s v vs = (match opA vs with | none => (.error 211 : Except Int (Rs × List Bs)) | some (o, ws') => .ok ({ r.s with ops := r.s.ops ++ [o] }, ws'))) := by
        show _ = _
        unfold partR
        rw [if_neg (by rw [hpd]; simp), if_pos ⟨ho, hs0⟩]
      clear ho hs0 hpd hn0
      go_wp2_with fail
      refine (takeOp_part HR1.out HS0.out HST.out.2).mono ?_
      rintro e9 w2 hT
      cases hx : (match opA vs with | none => (.error 211 : Except Int (Rs × List Bs)) | some (o, ws') => .ok ({ r.s with ops := r.s.ops ++ [o] }, ws')) with
      | error f =>
        rw [hx] at hT
        have hT' : Bad B R r.ln f w1 e9 w2 := hT
        have HAN : Hid (A = .error f) := by
          show _ = _
          rw [HAA.out, lineR_part, HPX.out, hx]
        have HBD : Hid (Bad B R r.ln f w e9 w2) := Bad.from hT' (HC1.out.le fun x hx => .inl hx)
        obtain ⟨⟨u, pv, rfl⟩, _⟩ := hT'
        clear hT hx
        go_wp2_with fail
        refine ⟨rfl, ?_⟩
        rw [HAN.out]
        exact HBD.out
      | ok y =>
        obtain ⟨s2, ws2⟩ := y
        rw [hx] at hT
        obtain ⟨rfl, ⟨ov2, sv2, M2, hr2⟩, hc2⟩ := (show e9 = .returned (.tuple #[]) ∧ (∃ ov sv M, RM B R (Rd.mk r.ln ws2 r.fa s2) ov sv M w2) ∧ Ch (fun x => x = R ∨ B ≤ x) w1 w2 from hT)
        have HR2 : Hid (RM B R (Rd.mk r.ln ws2 r.fa s2) ov2 sv2 M2 w2) := hr2
        have HC2 : Hid (Ch (fun x => x = R ∨ B ≤ x) w w2) := (HC1.out.le fun x hx => .inl hx).self hc2
        have HX : Hid ((match opA vs with | none => (.error 211 : Except Int (Rs × List Bs)) | some (o, ws') => .ok ({ r.s with ops := r.s.ops ++ [o] }, ws')) = .ok (s2, ws2)) := hx
        obtain ⟨t2, ht2⟩ : ∃ t2 : ByteArray, t2 = ⟨(joinB 32 ws2).toArray⟩ := ⟨_, rfl⟩
        have c1 : w2.cell? ⟨R, 1, none⟩ = some (.string t2) := by rw [blk_cell hr2.blk, ht2]; rfl
        cases ws2 with
        | nil =>
          have he : t2.toList.isEmpty = true := by rw [ht2]; exact emp_nil
          have HAN : Hid (A = .ok s2) := by
            show _ = _
            rw [HAA.out, lineR_part, HPX.out, HX.out]
            rfl
          clear hT hx hr2 hc2 ht2
          go_wp2_with fail
          refine (refuse_no 211 w2).mono ?_
          rintro e9 w9 ⟨rfl, hw9⟩
          replace hw9 := hw9.symm
          subst hw9
          go_wp2_with fail
          refine bodyPost_end (results_none rfl _ _ _) rfl ?_
          rw [HAN.out]
          exact ⟨rfl, ⟨_, _, _, HR2.out⟩, HC2.out⟩
        | cons a ax =>
          have he : t2.toList.isEmpty = false := by rw [ht2]; exact emp_cons _ _
          have HAN : Hid (A = .error 211) := by
            show _ = _
            rw [HAA.out, lineR_part, HPX.out, HX.out]
            rfl
          clear hT hx hr2 hc2 ht2
          go_wp2_with fail
          refine (refuse_yes HR2.out 211).mono ?_
          rintro e9 w4 ⟨⟨u, pv, rfl⟩, h1⟩
          go_wp2_with fail
          refine ⟨rfl, ?_⟩
          rw [HAN.out]
          exact Bad.from (ln := r.ln) ⟨⟨_, _, rfl⟩, h1⟩ HC2.out
    · have HCN : Hid (¬ (v = opW ∧ r.s.sts = [])) := hc
      have HPD : Hid (r.s.pd = true) := hpd
      clear hpd
      by_cases ho : v = opW
      · have hq : (t.toList == ([111, 112] : Bs)) = true := str_eq_lit HT.out ho
        have hn0 : ((r.s.sts.length : Int) == 0) = false := by
          rw [beq_eq_false_iff_ne]
          intro e
          exact hc ⟨ho, List.eq_nil_of_length_eq_zero (by omega)⟩
        clear hc ho
        by_cases h4 : r.s.sts.length = 4096
        · have hq4 : ((r.s.sts.length : Int) == 4096) = true := by rw [h4]; rfl
          have HAN : Hid (A = .error 212) := by
            show _ = _
            rw [HAA.out]
            unfold lineR
            rw [if_neg (by rw [HPD.out]; simp), if_neg HCN.out, if_pos h4]
          clear h4
          go_wp2_with fail
          refine (refuse_yes HR1.out 212).mono ?_
          rintro e9 w4 ⟨⟨u, pv, rfl⟩, h1⟩
          go_wp2_with fail
          refine ⟨rfl, ?_⟩
          rw [HAN.out]
          exact Bad.from (ln := r.ln) ⟨⟨_, _, rfl⟩, h1⟩ (HC1.out.le fun x hx => .inl hx)
        · have hq4 : ((r.s.sts.length : Int) == 4096) = false := by rw [beq_eq_false_iff_ne]; omega
          have HPX : Hid (partR r.s v vs = StepR r.s v vs) := by
            show _ = _
            unfold partR
            rw [if_neg (by rw [HPD.out]; simp), if_neg HCN.out, if_neg h4]
          have HTS := takeStep_walk HR1.out HST.out.1 v
          simp only [S] at HTS
          rw [← HT.out] at HTS
          have HTT : Hid (Calls Tryz.prog 50 #[.pointer (some ⟨R, 0, none⟩), .string t] w1 (PartGot B R (Rd.mk r.ln vs r.fa r.s) (StepR r.s v vs) w1)) := HTS
          clear h4 HTS
          go_wp2_with fail
          refine (refuse_no 212 w1).mono ?_
          rintro e9 w9 ⟨rfl, hw9⟩
          replace hw9 := hw9.symm
          subst hw9
          go_wp2_with fail
          refine HTT.out.mono ?_
          rintro e9 w2 hT
          cases hx : StepR r.s v vs with
          | error f =>
            rw [hx] at hT
            have hT' : Bad B R r.ln f w1 e9 w2 := hT
            have HAN : Hid (A = .error f) := by
              show _ = _
              rw [HAA.out, lineR_part, HPX.out, hx]
            have HBD : Hid (Bad B R r.ln f w e9 w2) := Bad.from hT' (HC1.out.le fun x hx => .inl hx)
            obtain ⟨⟨u, pv, rfl⟩, _⟩ := hT'
            clear hT hx
            go_wp2_with fail
            refine ⟨rfl, ?_⟩
            rw [HAN.out]
            exact HBD.out
          | ok y =>
            obtain ⟨s2, ws2⟩ := y
            rw [hx] at hT
            obtain ⟨rfl, ⟨ov2, sv2, M2, hr2⟩, hc2⟩ := (show e9 = .returned (.tuple #[]) ∧ (∃ ov sv M, RM B R (Rd.mk r.ln ws2 r.fa s2) ov sv M w2) ∧ Ch (fun x => x = R ∨ B ≤ x) w1 w2 from hT)
            have HR2 : Hid (RM B R (Rd.mk r.ln ws2 r.fa s2) ov2 sv2 M2 w2) := hr2
            have HC2 : Hid (Ch (fun x => x = R ∨ B ≤ x) w w2) := (HC1.out.le fun x hx => .inl hx).self hc2
            have HX : Hid (StepR r.s v vs = .ok (s2, ws2)) := hx
            obtain ⟨t2, ht2⟩ : ∃ t2 : ByteArray, t2 = ⟨(joinB 32 ws2).toArray⟩ := ⟨_, rfl⟩
            have c1 : w2.cell? ⟨R, 1, none⟩ = some (.string t2) := by rw [blk_cell hr2.blk, ht2]; rfl
            cases ws2 with
            | nil =>
              have he : t2.toList.isEmpty = true := by rw [ht2]; exact emp_nil
              have HAN : Hid (A = .ok s2) := by
                show _ = _
                rw [HAA.out, lineR_part, HPX.out, HX.out]
                rfl
              clear hT hx hr2 hc2 ht2
              go_wp2_with fail
              refine (refuse_no 211 w2).mono ?_
              rintro e9 w9 ⟨rfl, hw9⟩
              replace hw9 := hw9.symm
              subst hw9
              go_wp2_with fail
              refine bodyPost_end (results_none rfl _ _ _) rfl ?_
              rw [HAN.out]
              exact ⟨rfl, ⟨_, _, _, HR2.out⟩, HC2.out⟩
            | cons a ax =>
              have he : t2.toList.isEmpty = false := by rw [ht2]; exact emp_cons _ _
              have HAN : Hid (A = .error 211) := by
                show _ = _
                rw [HAA.out, lineR_part, HPX.out, HX.out]
                rfl
              clear hT hx hr2 hc2 ht2
              go_wp2_with fail
              refine (refuse_yes HR2.out 211).mono ?_
              rintro e9 w4 ⟨⟨u, pv, rfl⟩, h1⟩
              go_wp2_with fail
              refine ⟨rfl, ?_⟩
              rw [HAN.out]
              exact Bad.from (ln := r.ln) ⟨⟨_, _, rfl⟩, h1⟩ HC2.out
      · have hq : (t.toList == ([111, 112] : Bs)) = false := str_ne_lit HT.out ho
        clear hc ho
        by_cases h4 : r.s.sts.length = 4096
        · have hq4 : ((r.s.sts.length : Int) == 4096) = true := by rw [h4]; rfl
          have HAN : Hid (A = .error 212) := by
            show _ = _
            rw [HAA.out]
            unfold lineR
            rw [if_neg (by rw [HPD.out]; simp), if_neg HCN.out, if_pos h4]
          clear h4
          go_wp2_with fail
          refine (refuse_yes HR1.out 212).mono ?_
          rintro e9 w4 ⟨⟨u, pv, rfl⟩, h1⟩
          go_wp2_with fail
          refine ⟨rfl, ?_⟩
          rw [HAN.out]
          exact Bad.from (ln := r.ln) ⟨⟨_, _, rfl⟩, h1⟩ (HC1.out.le fun x hx => .inl hx)
        · have hq4 : ((r.s.sts.length : Int) == 4096) = false := by rw [beq_eq_false_iff_ne]; omega
          have HPX : Hid (partR r.s v vs = StepR r.s v vs) := by
            show _ = _
            unfold partR
            rw [if_neg (by rw [HPD.out]; simp), if_neg HCN.out, if_neg h4]
          have HTS := takeStep_walk HR1.out HST.out.1 v
          simp only [S] at HTS
          rw [← HT.out] at HTS
          have HTT : Hid (Calls Tryz.prog 50 #[.pointer (some ⟨R, 0, none⟩), .string t] w1 (PartGot B R (Rd.mk r.ln vs r.fa r.s) (StepR r.s v vs) w1)) := HTS
          clear h4 HTS
          go_wp2_with fail
          refine (refuse_no 212 w1).mono ?_
          rintro e9 w9 ⟨rfl, hw9⟩
          replace hw9 := hw9.symm
          subst hw9
          go_wp2_with fail
          refine HTT.out.mono ?_
          rintro e9 w2 hT
          cases hx : StepR r.s v vs with
          | error f =>
            rw [hx] at hT
            have hT' : Bad B R r.ln f w1 e9 w2 := hT
            have HAN : Hid (A = .error f) := by
              show _ = _
              rw [HAA.out, lineR_part, HPX.out, hx]
            have HBD : Hid (Bad B R r.ln f w e9 w2) := Bad.from hT' (HC1.out.le fun x hx => .inl hx)
            obtain ⟨⟨u, pv, rfl⟩, _⟩ := hT'
            clear hT hx
            go_wp2_with fail
            refine ⟨rfl, ?_⟩
            rw [HAN.out]
            exact HBD.out
          | ok y =>
            obtain ⟨s2, ws2⟩ := y
            rw [hx] at hT
            obtain ⟨rfl, ⟨ov2, sv2, M2, hr2⟩, hc2⟩ := (show e9 = .returned (.tuple #[]) ∧ (∃ ov sv M, RM B R (Rd.mk r.ln ws2 r.fa s2) ov sv M w2) ∧ Ch (fun x => x = R ∨ B ≤ x) w1 w2 from hT)
            have HR2 : Hid (RM B R (Rd.mk r.ln ws2 r.fa s2) ov2 sv2 M2 w2) := hr2
            have HC2 : Hid (Ch (fun x => x = R ∨ B ≤ x) w w2) := (HC1.out.le fun x hx => .inl hx).self hc2
            have HX : Hid (StepR r.s v vs = .ok (s2, ws2)) := hx
            obtain ⟨t2, ht2⟩ : ∃ t2 : ByteArray, t2 = ⟨(joinB 32 ws2).toArray⟩ := ⟨_, rfl⟩
            have c1 : w2.cell? ⟨R, 1, none⟩ = some (.string t2) := by rw [blk_cell hr2.blk, ht2]; rfl
            cases ws2 with
            | nil =>
              have he : t2.toList.isEmpty = true := by rw [ht2]; exact emp_nil
              have HAN : Hid (A = .ok s2) := by
                show _ = _
                rw [HAA.out, lineR_part, HPX.out, HX.out]
                rfl
              clear hT hx hr2 hc2 ht2
              go_wp2_with fail
              refine (refuse_no 211 w2).mono ?_
              rintro e9 w9 ⟨rfl, hw9⟩
              replace hw9 := hw9.symm
              subst hw9
              go_wp2_with fail
              refine bodyPost_end (results_none rfl _ _ _) rfl ?_
              rw [HAN.out]
              exact ⟨rfl, ⟨_, _, _, HR2.out⟩, HC2.out⟩
            | cons a ax =>
              have he : t2.toList.isEmpty = false := by rw [ht2]; exact emp_cons _ _
              have HAN : Hid (A = .error 211) := by
                show _ = _
                rw [HAA.out, lineR_part, HPX.out, HX.out]
                rfl
              clear hT hx hr2 hc2 ht2
              go_wp2_with fail
              refine (refuse_yes HR2.out 211).mono ?_
              rintro e9 w4 ⟨⟨u, pv, rfl⟩, h1⟩
              go_wp2_with fail
              refine ⟨rfl, ?_⟩
              rw [HAN.out]
              exact Bad.from (ln := r.ln) ⟨⟨_, _, rfl⟩, h1⟩ HC2.out
end

end Go.Proofs.YtkiplcmndpdifaaGreatDoor


