/- The reader: a plan's line. -/
import Derived.Test.YtkiplcmndpdifaaGreatDoorSi

namespace Go.Proofs.YtkiplcmndpdifaaGreatDoor

open Go.RowKit



/-- Where a plan's numbers stand in it. -/
def of7 : Nat → Nat
  | 0 => 0 | 1 => 1 | 2 => 2 | 3 => 4 | 4 => 5 | 5 => 6 | _ => 7


def ptr7 (R o : Nat) : Array Value := #[.pointer (some ⟨R, o, none⟩), .pointer (some ⟨R, o + 1, none⟩), .pointer (some ⟨R, o + 2, none⟩), .pointer (some ⟨R, o + 4, none⟩), .pointer (some ⟨R, o + 5, none⟩), .pointer (some ⟨R, o + 6, none⟩), .pointer (some ⟨R, o + 7, none⟩)]


theorem ptr7_at (R o i : Nat) (h : i < 7) : (ptr7 R o)[i]? = some (.pointer (some ⟨R, o + of7 i, none⟩)) := by
  have hcs : i = 0 ∨ i = 1 ∨ i = 2 ∨ i = 3 ∨ i = 4 ∨ i = 5 ∨ i = 6 := by omega
  rcases hcs with rfl | rfl | rfl | rfl | rfl | rfl | rfl <;> rfl


set_option maxRecDepth 100000 in
set_option maxHeartbeats 2000000 in
theorem fields_walk (R o : Nat) (w : World) : Calls Tryz.prog 37 #[.pointer (some ⟨R, o, none⟩)] w fun e w' =>
    ∃ g, e = .returned (.slice (some ⟨g, 0, none⟩) 7 7) ∧ w.heap.size ≤ g ∧ w'.heap[g]? = some (.cells (ptr7 R o) 87 (0, 0)) ∧ Below w.heap.size w w' := by
  go_enter Tryz.func37, Tryz.ntmps37
  go_wp2_with fail
  go_region_with (fail)
  go_wp2_with fail
  go_simp
  go_ret
  exact ⟨_, rfl, Nat.le_refl _, alloc_at rfl, below_trans (below_alloc _ _) (below_drewN _ 1)⟩


def plSet (p : Pl) (i : Nat) (x : Int) : Pl :=
  match i with
  | 0 => { p with P := x } | 1 => { p with S := x } | 2 => { p with W := x } | 3 => { p with A := x } | 4 => { p with B := x } | 5 => { p with N := x } | _ => { p with G := x }


def plPut (p : Pl) : Nat → List Int → Pl
  | _, [] => p
  | i, x :: l => plPut (plSet p i x) (i + 1) l


theorem plPut_snoc : ∀ (l : List Int) (p : Pl) (i : Nat) (x : Int), plPut p i (l ++ [x]) = plSet (plPut p i l) (i + l.length) x := by
  intro l
  induction l with
  | nil => intro p i x; simp [plPut]
  | cons y l ih => intro p i x; simp only [List.cons_append, plPut, ih, List.length_cons]; congr 1; omega


theorem plPut_all {l : List Int} (h : l.length = 7) (p : Pl) : plPut p 0 l = plOf l := by
  rcases l with _ | ⟨a, _ | ⟨b, _ | ⟨c, _ | ⟨d, _ | ⟨e, _ | ⟨f, _ | ⟨g, _ | ⟨x, l⟩⟩⟩⟩⟩⟩⟩⟩ <;> simp at h
  rfl


theorem nms_len : ∀ (n : Nat) (ws : List Bs) (l : List Int) (r : List Bs), nms n ws = some (l, r) → l.length = n := by
  intro n
  induction n with
  | zero => intro ws l r h; simp only [nms, Option.some.injEq, Prod.mk.injEq] at h; rw [← h.1]; rfl
  | succ n ih =>
    intro ws l r h
    simp only [nms] at h
    cases h1 : nm ws with
    | none => rw [h1] at h; simp at h
    | some x =>
      obtain ⟨x, ws'⟩ := x
      rw [h1] at h
      simp only at h
      cases h2 : nms n ws' with
      | none => rw [h2] at h; simp at h
      | some y =>
        obtain ⟨l', r'⟩ := y
        rw [h2] at h
        simp only [Option.some.injEq, Prod.mk.injEq] at h
        rw [← h.1]
        simp [ih ws' l' r' h2]


section

variable {B R M : Nat} {r : Rd} {ov sv : Value} {w : World}



/-- What the plan's reader holds behind i numbers. -/
def Rd.put (r : Rd) (l : List Int) (ws : List Bs) : Rd := { r with ws := ws, s := { r.s with p := plPut r.s.p 0 l } }


theorem rm_put {l : List Int} {ws : List Bs} (h : RM B R (r.put l ws) ov sv M w) (hi : l.length < 7) (x : Int) :
    RM B R (r.put (l ++ [x]) ws) ov sv M (w.setCell ⟨R, 4 + of7 l.length, none⟩ (.int .i64 x)) := by
  refine h.set _ _ (r.put (l ++ [x]) ws) ⟨rfl, rfl⟩ ?_ h.nb h.len
  simp only [Rd.put, RC, plPut_snoc, Nat.zero_add]
  generalize plPut r.s.p 0 l = q
  generalize l.length = i at hi ⊢
  have hcs : i = 0 ∨ i = 1 ∨ i = 2 ∨ i = 3 ∨ i = 4 ∨ i = 5 ∨ i = 6 := by omega
  rcases hcs with rfl | rfl | rfl | rfl | rfl | rfl | rfl <;> rfl


theorem rm_cell7 {l : List Int} {ws : List Bs} (h : RM B R (r.put l ws) ov sv M w) (i : Nat) (hi : i < 7) : ∃ x, w.cell? ⟨R, 4 + of7 i, none⟩ = some (.int .i64 x) := by
  have hcs : i = 0 ∨ i = 1 ∨ i = 2 ∨ i = 3 ∨ i = 4 ∨ i = 5 ∨ i = 6 := by omega
  rcases hcs with rfl | rfl | rfl | rfl | rfl | rfl | rfl <;> exact ⟨_, by rw [blk_cell h.blk]; rfl⟩


/-- The rest of the numbers. -/
def restN (l : List Int) (ws : List Bs) (n : Nat) : Option (List Int × List Bs) :=
  match nms n ws with
  | none => none
  | some (l', r') => some (l ++ l', r')


theorem rest_bad {l : List Int} {ws : List Bs} {n : Nat} (h : nm ws = none) : restN l ws (n + 1) = none := by simp [restN, nms, h]
theorem rest_step {l : List Int} {ws ws' : List Bs} {n : Nat} {x : Int} (h : nm ws = some (x, ws')) : restN l ws (n + 1) = restN (l ++ [x]) ws' n := by
  simp only [restN, nms, h]
  cases nms n ws' with
  | none => rfl
  | some y => simp


/-- What taking a plan's line comes to. -/
def PlanGot (B R M : Nat) (r : Rd) (ov sv : Value) (A : Option (List Int × List Bs)) (w : World) (e : Ending) (w' : World) : Prop :=
  match A with
  | none => Bad B R r.ln 211 w e w'
  | some (l, vs) => e = .returned (.tuple #[]) ∧ RM B R { r with ws := vs, s := { r.s with pd := true, p := plOf l } } ov sv M w' ∧ Ch (fun x => x = R) w w'


set_option maxRecDepth 100000 in
set_option maxHeartbeats 4000000 in
theorem takePlan_walk (h : RM B R r ov sv M w) :
    Calls Tryz.prog 48 #[.pointer (some ⟨R, 0, none⟩)] w (PlanGot B R M r ov sv (nms 7 r.ws) w) := by
  have HR : Hid (RM B R r ov sv M w) := h
  obtain ⟨A, hA⟩ : ∃ A, A = nms 7 r.ws := ⟨_, rfl⟩
  rw [← hA]
  have HA : Hid (A = nms 7 r.ws) := hA
  clear h hA
  go_enter Tryz.func48, Tryz.ntmps48
  go_wp2_with fail
  refine (fields_walk R 4 w).mono ?_
  rintro e9 w1 ⟨g, rfl, hg, hgb, hB1⟩
  have HG : Hid (w1.heap[g]? = some (.cells (ptr7 R 4) 87 (0, 0)) ∧ w.heap.size ≤ g) := ⟨hgb, hg⟩
  have HR1 : Hid (RM B R (r.put [] r.ws) ov sv M w1) := HR.out.go hB1
  have HB1 : Hid (Below w.heap.size w w1) := hB1
  have hRg : Hid (R ≠ g) := by show _ ≠ _; have := blk_lt HR.out.blk; omega
  clear hg hgb hB1
  go_wp2_with fail
  go_loopw [9] (fun vi wr => ∃ (i : Nat) (l : List Int) (ws : List Bs), vi = .int .i64 i ∧ i = l.length ∧ i ≤ 7 ∧ A = restN l ws (7 - i) ∧ RM B R (r.put l ws) ov sv M wr ∧ Ch (fun x => x = R) w wr ∧ wr.heap[g]? = some (.cells (ptr7 R 4) 87 (0, 0))) (fun vi _ => 7 - (intOf vi).toNat)
  case atStart =>
    refine ⟨0, [], r.ws, rfl, rfl, by omega, ?_, HR1.out, Ch.of_below HB1.out, HG.out.1⟩
    rw [HA.out]
    simp only [restN, Nat.sub_zero]
    cases nms 7 r.ws with
    | none => rfl
    | some y => simp
  case round =>
    obtain ⟨i, l, ws, rfl, hil, hi7, hrest, hr, hc, hgb⟩ := hrel
    have HRR : Hid (RM B R (r.put l ws) ov sv M wr) := hr
    have HCC : Hid (Ch (fun x => x = R) w wr) := hc
    have HGB : Hid (wr.heap[g]? = some (.cells (ptr7 R 4) 87 (0, 0))) := hgb
    have HI : Hid (i = l.length ∧ i ≤ 7 ∧ A = restN l ws (7 - i)) := ⟨hil, hi7, hrest⟩
    clear hr hc hrest hil HR1 HB1
    by_cases hin : i < 7
    · obtain ⟨k, hk⟩ : ∃ k, 4 + of7 i = k := ⟨_, rfl⟩
      have cg : wr.cell? ⟨g, i, none⟩ = some (.pointer (some ⟨R, k, none⟩)) := by rw [blk_cell hgb, ptr7_at R 4 i hin, hk]
      have HK : Hid (4 + of7 i = k) := hk
      clear hgb hk hi7
      go_wp2_with fail
      refine (number_walk HRR.out).mono ?_
      rintro e9 w2 hT
      cases hn : nm ws with
      | none =>
        have hT' : Bad B R (r.put l ws).ln 211 wr e9 w2 := by
          have : (r.put l ws).ws = ws := rfl
          rw [this, hn] at hT
          exact hT
        have HAN : Hid (A = none) := by
          show _ = _
          rw [HI.out.2.2, show 7 - i = (6 - i) + 1 by omega]
          exact rest_bad hn
        have HBD : Hid (Bad B R r.ln 211 w e9 w2) := Bad.from hT' (HCC.out.le fun x hx => .inl hx)
        obtain ⟨⟨u, pv, rfl⟩, _⟩ := hT'
        clear hT hn
        go_wp2_with fail
        refine ⟨rfl, ?_⟩
        rw [HAN.out]
        exact HBD.out
      | some y =>
        obtain ⟨x, ws'⟩ := y
        have hT' : Good B R M (r.put l ws) ov sv (.int .i64 x) ws' wr e9 w2 := by
          have : (r.put l ws).ws = ws := rfl
          rw [this, hn] at hT
          exact hT
        obtain ⟨rfl, hr2, hc2⟩ := hT'
        have HR2 : Hid (RM B R (r.put l ws') ov sv M w2) := hr2
        have HC2 : Hid (Ch (fun x => x = R) wr w2) := hc2
        have HAS : Hid (A = restN (l ++ [x]) ws' (7 - (i + 1))) := by
          show _ = _
          rw [HI.out.2.2, show 7 - i = (6 - i) + 1 by omega, rest_step hn, show 7 - (i + 1) = 6 - i by omega]
        obtain ⟨x0, hx0⟩ := rm_cell7 HR2.out i hin
        rw [HK.out] at hx0
        have z0 : w2.frozen? ⟨R, k, none⟩ = false := blk_soft hr2.blk k
        clear hT hr2 hc2 hn
        go_wp2_with fail
        go_roundw
        case rel =>
          have e := HI.out.1
          subst e
          refine ⟨l.length + 1, l ++ [x], ws', rfl, by simp, by omega, HAS.out, ?_, ?_, ?_⟩
          · rw [← HK.out]
            exact rm_put HR2.out hin x
          · exact (HCC.out.self HC2.out).self (ch_set _ _ _ _)
          · rw [set_other _ (fun e => hRg.out e.symm)]
            exact blk_ch HGB.out HC2.out (fun e => hRg.out e.symm)
        case measure => simp [intOf]; omega
    · obtain rfl : i = 7 := by omega
      have c3 : wr.cell? ⟨R, 3, none⟩ = some (.bool r.s.pd) := by rw [blk_cell HRR.out.blk]; rfl
      have z3 : wr.frozen? ⟨R, 3, none⟩ = false := blk_soft HRR.out.blk 3
      clear hgb hin hi7
      go_wp2_with fail
      refine bodyPost_end (results_none rfl _ _ _) rfl ?_
      have hl : l.length = 7 := HI.out.1.symm
      have hA2 : A = some (l, ws) := by rw [HI.out.2.2]; simp [restN, nms]
      rw [hA2]
      refine ⟨rfl, ?_, HCC.out.self (ch_set _ _ _ _)⟩
      have := HRR.out.set 3 (.bool true) { r with ws := ws, s := { r.s with pd := true, p := plOf l } } ⟨rfl, rfl⟩ (by rw [← plPut_all hl r.s.p]; rfl) HRR.out.nb HRR.out.len
      exact this
end

end Go.Proofs.YtkiplcmndpdifaaGreatDoor


