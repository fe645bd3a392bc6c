/- Print. -/
import Derived.Test.YtkiplcmndpdifaaGreatDoorSw

import Derived.Deep.DeepCutAuto

namespace Go.Proofs.YtkiplcmndpdifaaGreatDoor

open Go.RowKit

attribute [local go_sem] run_store_float


/-- The cells behind ao hold the list l, n cells an element. -/
def Gl {α : Type} (w : World) (ao : Option Addr) (n : Nat) (f : α → List Value) (l : List α) : Prop :=
  ∀ i, (h : i < l.length) → ∃ b off, ao = some ⟨b, off, none⟩ ∧ ∀ j, j < n → w.cell? ⟨b, off + (i * n + j), none⟩ = (f l[i])[j]?


/-- The value v is a slice that holds the list l. -/
def Gv {α : Type} (w : World) (v : Value) (n : Nat) (f : α → List Value) (l : List α) : Prop :=
  ∃ ao cap, v = .slice ao l.length cap ∧ l.length ≤ cap ∧ cap ≤ maxLen ∧ (ao = none → cap = 0) ∧ Gl w ao n f l


theorem Gl.below {α : Type} {w w' : World} {ao : Option Addr} {n : Nat} {f : α → List Value} {l : List α} (hf : ∀ a, (f a).length = n) (h : Gl w ao n f l) (hb : Below w.heap.size w w') : Gl w' ao n f l := by
  intro i hi
  obtain ⟨b, off, e, hc⟩ := h i hi
  refine ⟨b, off, e, fun j hj => ?_⟩
  have h1 := hc j hj
  have h2 : (f l[i])[j]? = some ((f l[i])[j]'(by rw [hf]; exact hj)) := List.getElem?_eq_getElem _
  rw [h2] at h1 ⊢
  rw [hb.cell (p := ⟨b, off + (i * n + j), none⟩) (cell_lt h1)]
  exact h1


theorem Gv.below {α : Type} {w w' : World} {v : Value} {n : Nat} {f : α → List Value} {l : List α} (hf : ∀ a, (f a).length = n) (h : Gv w v n f l) (hb : Below w.heap.size w w') : Gv w' v n f l := by
  obtain ⟨ao, cap, e, h1, h2, h3, h4⟩ := h
  exact ⟨ao, cap, e, h1, h2, h3, h4.below hf hb⟩


abbrev OVw (w : World) (v : Value) (l : List Og) : Prop := Gv w v 3 opF l
abbrev SVw (w : World) (v : Value) (l : List Sp) : Prop := Gv w v 5 stF l


theorem tx_str {base : Nat} {w : World} {v : Value} {t : Bs} (h : TX base w v t) : (convert 60 9 v).run Tryz.prog w = .ok (S t) w := by
  obtain ⟨h1, h2⟩ := h
  rcases h2 with ⟨rfl, h0⟩ | ⟨g, cap, cur, rfl, hb, hg, hnc, hcm, hcs, htake⟩
  · have : t = [] := List.eq_nil_of_length_eq_zero h0
    subst this
    rw [run_convert_bytes_nil w 60 5 Tryz.underlying60 Tryz.underlying5 _ _ 9 Tryz.underlying9]
    rfl
  · refine run_convert_bytes_back w 60 9 5 ⟨g, 0, none⟩ cap t Tryz.underlying60 Tryz.underlying5 Tryz.underlying9 (fun j hj => ?_)
    rw [WideShapes.add_plain, Nat.zero_add, blk_cell hg]
    have hh : (cur.toList.take (t.length * 1))[j]? = (bc t)[j]? := by rw [htake]
    rw [List.getElem?_take, if_pos (by omega)] at hh
    rw [← Array.getElem?_toList, hh]
    simp [bc, List.getElem?_eq_getElem hj]


theorem stEs_snoc : ∀ (l : List Sp) (s : Sp), stEs l = 0 → stEs (l ++ [s]) = stE s := by
  intro l
  induction l with
  | nil => intro s _; by_cases h : stE s = 0 <;> simp [stEs, h]
  | cons a l ih =>
    intro s h
    by_cases ha : stE a = 0
    · simp [stEs, ha] at h ⊢
      exact ih s h
    · simp [stEs, ha] at h


theorem stEs_take {l : List Sp} {i : Nat} {s : Sp} (h0 : stEs (l.take i) = 0) (hs : l[i]? = some s) : (stE s = 0 → stEs (l.take (i + 1)) = 0) ∧ (stE s ≠ 0 → stEs l = stE s) := by
  have e1 : l.take (i + 1) = l.take i ++ [s] := by rw [List.take_add_one, hs]; rfl
  refine ⟨fun h => by rw [e1, stEs_snoc _ _ h0, h], fun h => ?_⟩
  have key : ∀ (a b : List Sp), stEs a ≠ 0 → stEs (a ++ b) = stEs a := by
    intro a
    induction a with
    | nil => intro b h; simp [stEs] at h
    | cons x a ih =>
      intro b h
      by_cases hx : stE x = 0
      · simp [stEs, hx] at h ⊢; exact ih b h
      · simp [stEs, hx]
  have e2 : l = l.take (i + 1) ++ l.drop (i + 1) := (List.take_append_drop _ _).symm
  rw [e2, key _ _ (by rw [e1, stEs_snoc _ _ h0]; exact h), e1, stEs_snoc _ _ h0]


theorem stT_len {s : Sp} (h : s.ok) : (stT s).length ≤ 120 := by
  have h1 := stA_len h (formD s.K).g
  have h2 : (formD s.K).w.length ≤ 10 := by
    unfold formD
    cases hf : formK s.K with
    | none => simp
    | some f => exact (form_gK hf).2
  simp [stT, lineT]
  omega


/-- What Print answers. -/
def PrintGot (p : Pl) (ops : List Og) (sts : List Sp) (w : World) (e : Ending) (w' : World) : Prop :=
  e = .returned (.tuple #[S (printT p ops sts), .int .i64 (printE p ops sts)]) ∧ Below w.heap.size w w'


theorem appendStep_walk {base : Nat} {w : World} {tv : Value} {l : Bs} {s : Sp} (ht : TX base w tv l) (hb : base ≤ w.heap.size) (ho : s.ok) (htb : Tb w) (hl : l.length ≤ 1099511000000) (he : stE s = 0) :
    Calls Tryz.prog 24 #[tv, .agg #[.int .i64 s.K, .int .i64 s.D, .int .i64 s.N, .int .u64 s.k, .float .f64 s.x]] w (TxGot base (l ++ stT s) w) := by
  cases hf : formK s.K with
  | none => unfold stE at he; rw [hf] at he; simp at he
  | some f =>
    rcases (form_gK hf).1 with hg | hg | hg | hg | hg | hg
    · exact appendStep_13 ht hb ho htb hl hf hg
    · exact appendStep_3 ht hb ho htb hl hf hg
    · exact appendStep_0 ht hb ho htb hl hf hg
    · exact appendStep_2 ht hb ho htb hl hf hg
    · exact appendStep_1 ht hb ho htb hl hf hg
    · exact appendStep_4 ht hb ho htb hl hf hg


theorem gv_cells5 {w : World} {sa : Option Addr} {sts : List Sp} (h : Gl w sa 5 stF sts) {i : Nat} {s : Sp} (hs : sts[i]? = some s) : ∃ b off, sa = some ⟨b, off, none⟩ ∧ w.cell? ⟨b, off + i * 5, none⟩ = some (.int .i64 s.K) ∧ w.cell? ⟨b, off + i * 5 + 1, none⟩ = some (.int .i64 s.D) ∧ w.cell? ⟨b, off + i * 5 + 2, none⟩ = some (.int .i64 s.N) ∧ w.cell? ⟨b, off + i * 5 + 3, none⟩ = some (.int .u64 s.k) ∧ w.cell? ⟨b, off + i * 5 + 4, none⟩ = some (.float .f64 s.x) := by
  obtain ⟨hi, he⟩ := List.getElem?_eq_some_iff.1 hs
  obtain ⟨b, off, e, hc⟩ := h i hi
  rw [he] at hc
  exact ⟨b, off, e, hc 0 (by omega), hc 1 (by omega), hc 2 (by omega), hc 3 (by omega), hc 4 (by omega)⟩


theorem gv_cells3 {w : World} {sa : Option Addr} {ops : List Og} (h : Gl w sa 3 opF ops) {i : Nat} {s : Og} (hs : ops[i]? = some s) : ∃ b off, sa = some ⟨b, off, none⟩ ∧ w.cell? ⟨b, off + i * 3, none⟩ = some (.int .i64 s.K) ∧ w.cell? ⟨b, off + i * 3 + 1, none⟩ = some (.int .i64 s.N) ∧ w.cell? ⟨b, off + i * 3 + 2, none⟩ = some (.float .f64 s.X) := by
  obtain ⟨hi, he⟩ := List.getElem?_eq_some_iff.1 hs
  obtain ⟨b, off, e, hc⟩ := h i hi
  rw [he] at hc
  exact ⟨b, off, e, hc 0 (by omega), hc 1 (by omega), hc 2 (by omega)⟩


theorem stEs_mem : ∀ {l : List Sp}, stEs l = 0 → ∀ {s : Sp}, s ∈ l → stE s = 0 := by
  intro l
  induction l with
  | nil => intro _ s hs; simp at hs
  | cons a l ih =>
    intro h s hs
    by_cases ha : stE a = 0
    · simp [stEs, ha] at h
      rcases List.mem_cons.1 hs with rfl | hs
      · exact ha
      · exact ih h hs
    · simp [stEs, ha] at h


theorem print_end {p : Pl} {ops : List Og} {sts : List Sp} {k : Nat} (h4 : sts.length ≤ 4096) (hE : stEs sts = 0) (hk : k = ops.length ∨ 262144 < (planT p ++ (ops.take k).flatMap opT).length) :
    (262144 < (planT p ++ (ops.take k).flatMap opT ++ sts.flatMap stT).length → printE p ops sts = 6) ∧ (¬ 262144 < (planT p ++ (ops.take k).flatMap opT ++ sts.flatMap stT).length → printE p ops sts = 0 ∧ printT p ops sts = planT p ++ (ops.take k).flatMap opT ++ sts.flatMap stT) := by
  have h0 : ¬ 4096 < sts.length := by omega
  by_cases hke : k = ops.length
  · subst hke
    rw [List.take_length]
    have eB : planT p ++ ops.flatMap opT ++ sts.flatMap stT = bodyT p ops sts := rfl
    rw [eB]
    refine ⟨fun h => ?_, fun h => ?_⟩
    · unfold printE; rw [if_neg h0, if_neg (by simp [hE]), if_pos h]
    · have e : printE p ops sts = 0 := by unfold printE; rw [if_neg h0, if_neg (by simp [hE]), if_neg h]
      refine ⟨e, ?_⟩
      unfold printT
      rw [if_pos e]
  · have hl := hk.resolve_left hke
    have hB : 262144 < (bodyT p ops sts).length := by
      have e1 : (ops.flatMap opT).length = ((ops.take k).flatMap opT).length + ((ops.drop k).flatMap opT).length := by
        rw [← List.length_append, ← List.flatMap_append, List.take_append_drop]
      unfold bodyT
      simp only [List.length_append] at hl ⊢
      omega
    refine ⟨fun _ => ?_, fun h => ?_⟩
    · unfold printE; rw [if_neg h0, if_neg (by simp [hE]), if_pos hB]
    · exfalso; apply h; simp only [List.length_append] at hl ⊢; omega


theorem fm_take {α : Type} (f : α → Bs) {l : List α} {i : Nat} {x : α} (h : l[i]? = some x) : (l.take (i + 1)).flatMap f = (l.take i).flatMap f ++ f x := by
  rw [List.take_add_one, h, List.flatMap_append]
  simp


set_option maxRecDepth 100000 in
set_option maxHeartbeats 8000000 in
theorem print_walk {p : Pl} {ops : List Og} {sts : List Sp} {ov sv : Value} {w : World} (hov : OVw w ov ops) (hsv : SVw w sv sts) (hp : p.ok) (ho : ∀ x ∈ ops, x.ok) (hs : ∀ x ∈ sts, x.ok) (htb : Tb w) :
    Calls Tryz.prog 10 #[PlV p ov, sv] w (PrintGot p ops sts w) := by
  obtain ⟨oa, oc, rfl, hol, hom, hon, hog⟩ := hov
  obtain ⟨sa, sc, rfl, hsl, hsm, hsn, hsg⟩ := hsv
  obtain ⟨w1, hw1⟩ : ∃ w1, w1 = w.alloc (.cells #[.int .i64 p.P, .int .i64 p.S, .int .i64 p.W, .slice oa ops.length oc, .int .i64 p.A, .int .i64 p.B, .int .i64 p.N, .int .i64 p.G] 25) := ⟨_, rfl⟩
  have HW1 : Hid (w1 = w.alloc (.cells #[.int .i64 p.P, .int .i64 p.S, .int .i64 p.W, .slice oa ops.length oc, .int .i64 p.A, .int .i64 p.B, .int .i64 p.N, .int .i64 p.G] 25)) := hw1
  have HP1 : Hid (w1.heap[w.heap.size]? = some (.cells (PlC p (.slice oa ops.length oc)) 25 (0, 0)) ∧ Below w.heap.size w w1) := by rw [hw1]; exact ⟨alloc_at rfl, below_alloc _ _⟩
  have HM : Hid (Gl w oa 3 opF ops ∧ Gl w sa 5 stF sts ∧ p.ok ∧ (∀ x ∈ ops, x.ok) ∧ (∀ x ∈ sts, x.ok) ∧ Tb w) := ⟨hog, hsg, hp, ho, hs, htb⟩
  have HLM : Hid (sts.length ≤ maxLen ∧ ops.length ≤ maxLen) := ⟨Nat.le_trans hsl hsm, Nat.le_trans hol hom⟩
  unfold maxLen at hsm hom
  have hsi : (sts.length : Int) < 9223372036854775808 := by omega
  have hoi : (ops.length : Int) < 9223372036854775808 := by omega
  unfold PlV
  clear hog hsg hp ho hs htb hw1 hol hom hon hsl hsm hsn
  by_cases h4 : 4096 < sts.length
  · have h4i : (4096 : Int) < (sts.length : Int) := by omega
    have HE : Hid (PrintGot p ops sts w (.returned (.tuple #[.string ⟨#[]⟩, .int .i64 212])) w1) := by
      have e : printE p ops sts = 212 := by unfold printE; rw [if_pos h4]
      refine ⟨?_, HP1.out.2⟩
      unfold printT
      rw [e]
      rfl
    clear h4
    go_enter Tryz.func10, Tryz.ntmps10
    go_wp2_with fail
    rw [← HW1.out]
    go_ret2
    exact HE.out
  · have h4i : ¬ (4096 : Int) < (sts.length : Int) := by omega
    have H4 : Hid (sts.length ≤ 4096) := by show _ ≤ _; omega
    clear h4
    go_enter Tryz.func10, Tryz.ntmps10
    go_wp2_with fail
    rw [← HW1.out]
    go_loopw [19] (fun vi wr => ∃ i : Nat, vi = .int .i64 i ∧ i ≤ sts.length ∧ stEs (sts.take i) = 0 ∧ Below w1.heap.size w1 wr) (fun vi _ => sts.length - (intOf vi).toNat)
    case atStart => exact ⟨0, rfl, by omega, rfl, Below.refl _ _⟩
    case round =>
      obtain ⟨i, rfl, hi, hse, hbel⟩ := hrel
      have HB : Hid (Below w1.heap.size w1 wr) := hbel
      have HBW : Hid (Below w.heap.size w wr) := below_trans HP1.out.2 hbel
      by_cases hin : i < sts.length
      · obtain ⟨s, hs⟩ : ∃ s, sts[i]? = some s := ⟨_, List.getElem?_eq_getElem hin⟩
        obtain ⟨b, off, rfl, k0, k1, k2, k3, k4⟩ := gv_cells5 (HM.out.2.1.below (fun _ => rfl) HBW.out) hs
        have HSE := stEs_take hse hs
        have HS : Hid ((stE s = 0 → stEs (sts.take (i + 1)) = 0) ∧ (stE s ≠ 0 → stEs sts = stE s)) := HSE
        have hbl : b < wr.heap.size := cell_lt k0
        have hbn : ¬ b = wr.heap.size := by omega
        clear hse hs hbel HSE hi
        go_wp2_with fail
        refine (refuses_walk s _ (HM.out.2.2.2.2.2.below (below_trans HBW.out (below_alloc _ _)))).mono ?_
        rintro e9 w3 ⟨rfl, hB3⟩
        have HB3 : Hid (Below w1.heap.size w1 w3) := below_trans (below_trans HB.out (below_alloc _ _)) hB3
        by_cases he : stE s = 0
        · have HN : Hid (stEs (sts.take (i + 1)) = 0) := HS.out.1 he
          rw [he]
          clear he hB3 hbl hbn k0 k1 k2 k3 k4
          go_wp2_with fail
          exact ⟨⟨i + 1, by (congr 1), by omega, HN.out, HB3.out⟩, by simp [intOf]; omega⟩
        · have hne : (stE s != 0) = true := by rw [bne_iff_ne]; exact he
          have HE : Hid (PrintGot p ops sts w (.returned (.tuple #[.string ⟨#[]⟩, .int .i64 (stE s)])) w3) := by
            have e1 := HS.out.2 he
            have e : printE p ops sts = stE s := by unfold printE; rw [if_neg (by have := H4.out; omega), e1, if_pos he]
            refine ⟨?_, below_trans HP1.out.2 HB3.out⟩
            unfold printT
            rw [e, if_neg he]
          obtain ⟨es, hes⟩ : ∃ es, es = stE s := ⟨_, rfl⟩
          rw [← hes] at hne HE ⊢
          clear he hB3 hbl hbn k0 k1 k2 k3 k4 hes
          go_wp2_with fail
          go_ret2
          exact HE.out
      · obtain ⟨wq, rfl⟩ : ∃ x, x = wr := ⟨_, rfl⟩
        have hE : stEs sts = 0 := by
          have e : i = sts.length := by omega
          rw [e, List.take_length] at hse; exact hse
        have HGP : Hid (stEs sts = 0 ∧ wq.heap[w.heap.size]? = some (.cells (PlC p (.slice oa ops.length oc)) 25 (0, 0))) := ⟨hE, blk_below HP1.out.1 hbel⟩
        have c : ∀ j, wq.cell? ⟨w.heap.size, j, none⟩ = (PlC p (.slice oa ops.length oc))[j]? := fun j => blk_cell HGP.out.2 j
        have c0 : wq.cell? ⟨w.heap.size, 0, none⟩ = some (.int .i64 p.P) := c 0
        have c1 : wq.cell? ⟨w.heap.size, 1, none⟩ = some (.int .i64 p.S) := c 1
        have c2 : wq.cell? ⟨w.heap.size, 2, none⟩ = some (.int .i64 p.W) := c 2
        have c3 : wq.cell? ⟨w.heap.size, 3, none⟩ = some (.slice oa ops.length oc) := c 3
        have c4 : wq.cell? ⟨w.heap.size, 4, none⟩ = some (.int .i64 p.A) := c 4
        have c5 : wq.cell? ⟨w.heap.size, 5, none⟩ = some (.int .i64 p.B) := c 5
        have c6 : wq.cell? ⟨w.heap.size, 6, none⟩ = some (.int .i64 p.N) := c 6
        have c7 : wq.cell? ⟨w.heap.size, 7, none⟩ = some (.int .i64 p.G) := c 7
        have hiin : ¬ (i : Int) < (sts.length : Int) := by omega
        clear c hse hbel hE hi hin
        go_wp2_with fail
        clear c0 c1 c2 c3 c4 c5 c6 c7 hiin
        have HAP := appendPlan_walk (base := wq.heap.size) (w := wq) (ov := .slice oa ops.length oc) (l := []) (World.ownsRow_nil _ _ _ _) (Nat.le_refl _) HM.out.2.2.1 (HM.out.2.2.2.2.2.below HBW.out) (by simp)
        unfold PlV at HAP
        rw [List.nil_append] at HAP
        refine HAP.mono ?_
        clear HAP
        rintro e9 wA ⟨tA, rfl, hTA, hBA, hsA, -⟩
        obtain ⟨base, hbase⟩ : ∃ base, base = wq.heap.size := ⟨_, rfl⟩
        rw [← hbase] at hTA hBA hsA
        have HBS : Hid (base = wq.heap.size) := hbase
        have HTA : Hid (TX base wA tA (planT p) ∧ Below base wq wA ∧ base ≤ wA.heap.size) := ⟨hTA, hBA, hsA⟩
        have d3 : ∀ wx, Below base wq wx → wx.cell? ⟨w.heap.size, 3, none⟩ = some (.slice oa ops.length oc) := by
          intro wx hb
          rw [hbase] at hb
          exact blk_cell (blk_below HGP.out.2 hb) 3
        have HKW : Hid (∀ wx, Below base wq wx → Below w.heap.size w wx) := by
          intro wx hb
          rw [hbase] at hb
          exact below_trans HBW.out hb
        have c3 := d3 _ hBA
        clear d3 hTA hBA hsA hbase
        go_wp2_with fail
        clear c3
        go_loopw [9, 34] (fun tv vi wx => ∃ (t : Bs) (k : Nat), vi = .int .i64 k ∧ k ≤ ops.length ∧ TX base wx tv t ∧ t = planT p ++ (ops.take k).flatMap opT ∧ t.length ≤ 262244 ∧ Below base wq wx ∧ base ≤ wx.heap.size) (fun _ vi _ => ops.length - (intOf vi).toNat)
        case atStart => exact ⟨planT p, 0, rfl, by omega, HTA.out.1, by simp, by have := planT_len HM.out.2.2.1; omega, HTA.out.2.1, HTA.out.2.2⟩
        case round =>
          obtain ⟨wx, rfl⟩ : ∃ x, x = wr := ⟨_, rfl⟩
          obtain ⟨t, k, rfl, hk, hTX, ht, htl, hbx, hsz⟩ := hrel
          have HI4 : Hid (t = planT p ++ (ops.take k).flatMap opT) := ht
          obtain ⟨ta, tc, rfl, _, _⟩ := own_form21 hTX
          have HX : Hid (TX base wx (.slice ta t.length tc) t ∧ t.length ≤ 262244 ∧ Below base wq wx ∧ base ≤ wx.heap.size) := ⟨hTX, htl, hbx, hsz⟩
          have hti : (t.length : Int) < 9223372036854775808 := by omega
          by_cases hin : k < ops.length
          · obtain ⟨o, ho⟩ : ∃ o, ops[k]? = some o := ⟨_, List.getElem?_eq_getElem hin⟩
            obtain ⟨b, off, rfl, k0, k1, k2⟩ := gv_cells3 (HM.out.1.below (fun _ => rfl) (HKW.out _ hbx)) ho
            have HSS : Hid (ops[k]? = some o) := ho
            have hbl : b < wx.heap.size := cell_lt k0
            have hbn : ¬ b = wx.heap.size := by omega
            have hkin : (k : Int) < (ops.length : Int) := by omega
            obtain ⟨wy, hwy⟩ : ∃ wy, wy = wx.alloc (.cells #[.int .i64 o.K, .int .i64 o.N, .float .f64 o.X] 53) := ⟨_, rfl⟩
            have HWY : Hid (wy = wx.alloc (.cells #[.int .i64 o.K, .int .i64 o.N, .float .f64 o.X] 53)) := hwy
            have HY : Hid (TX base wy (.slice ta t.length tc) t ∧ Below base wq wy ∧ base ≤ wy.heap.size) := by
              rw [hwy]
              have hb1 := below_alloc wx (.cells #[.int .i64 o.K, .int .i64 o.N, .float .f64 o.X] 53)
              exact ⟨tx_keep hTX hb1, hbx.trans (hb1.mono hsz), Nat.le_trans hsz hb1.size⟩
            by_cases hbig : 262144 < t.length
            · have hbi : (262144 : Int) < (t.length : Int) := by omega
              have HK : Hid (k = ops.length ∨ 262144 < (planT p ++ (ops.take k).flatMap opT).length) := .inr (by rw [← ht]; exact hbig)
              have HN1 : Hid (TX base wy (.slice ta t.length tc) (planT p ++ (ops.take k).flatMap opT) ∧ (planT p ++ (ops.take k).flatMap opT).length ≤ 262344 + 120 * 0 ∧ Below base wq wy ∧ base ≤ wy.heap.size) := by
                refine ⟨?_, ?_, HY.out.2.1, HY.out.2.2⟩
                · rw [← ht]; exact HY.out.1
                · rw [← ht]; omega
              clear ht hTX htl hbx hsz ho hwy hk hbig
              go_wp2_with fail
              rw [← HWY.out]
              clear k0 k1 k2 hbl hbn hkin hbi hti
              go_wp2_with fail
              go_loopw [9, 47] (fun tv vi wx => ∃ (i : Nat), vi = .int .i64 i ∧ i ≤ sts.length ∧ TX base wx tv (planT p ++ (ops.take k).flatMap opT ++ (sts.take i).flatMap stT) ∧ (planT p ++ (ops.take k).flatMap opT ++ (sts.take i).flatMap stT).length ≤ 262344 + 120 * i ∧ Below base wq wx ∧ base ≤ wx.heap.size) (fun _ vi _ => sts.length - (intOf vi).toNat)
              case atStart =>
                have e : planT p ++ (ops.take k).flatMap opT ++ (sts.take 0).flatMap stT = planT p ++ (ops.take k).flatMap opT := by simp
                refine ⟨0, rfl, by omega, ?_, ?_, HN1.out.2.2.1, HN1.out.2.2.2⟩
                · rw [e]; exact HN1.out.1
                · rw [e]; exact HN1.out.2.1
              case round =>
                obtain ⟨wy, rfl⟩ : ∃ x, x = wr := ⟨_, rfl⟩
                obtain ⟨i, rfl, hi, hTX, htl, hbx, hsz⟩ := hrel
                obtain ⟨T, hT⟩ : ∃ T, T = planT p ++ (ops.take k).flatMap opT ++ (sts.take i).flatMap stT := ⟨_, rfl⟩
                rw [← hT] at hTX htl
                have HT2 : Hid (T = planT p ++ (ops.take k).flatMap opT ++ (sts.take i).flatMap stT) := hT
                obtain ⟨ta, tc, rfl, _, _⟩ := own_form21 hTX
                have HX : Hid (TX base wy (.slice ta T.length tc) T ∧ T.length ≤ 262344 + 120 * i ∧ Below base wq wy ∧ base ≤ wy.heap.size) := ⟨hTX, htl, hbx, hsz⟩
                by_cases hin : i < sts.length
                · obtain ⟨s, hs⟩ : ∃ s, sts[i]? = some s := ⟨_, List.getElem?_eq_getElem hin⟩
                  obtain ⟨b, off, rfl, k0, k1, k2, k3, k4⟩ := gv_cells5 (HM.out.2.1.below (fun _ => rfl) (HKW.out _ hbx)) hs
                  have HSS : Hid (sts[i]? = some s) := hs
                  have hbl : b < wy.heap.size := cell_lt k0
                  have hbn : ¬ b = wy.heap.size := by omega
                  clear hT hTX htl hbx hsz hs hi
                  go_wp2_with fail
                  clear k0 k1 k2 k3 k4 hbl hbn
                  have hmem := List.mem_of_getElem? HSS.out
                  refine (appendStep_walk (base := base) (s := s) (tx_keep HX.out.1 (below_alloc _ _)) (by have h1 := HX.out.2.2.2; have h2 := (below_alloc wy (.cells #[.int .i64 s.K, .int .i64 s.D, .int .i64 s.N, .int .u64 s.k, .float .f64 s.x] 41)).size; exact Nat.le_trans h1 h2) (HM.out.2.2.2.2.1 _ hmem) (HM.out.2.2.2.2.2.below (below_trans (HKW.out _ HX.out.2.2.1) (below_alloc _ _))) (by have h1 := HX.out.2.1; have h2 := H4.out; omega) (stEs_mem HGP.out.1 hmem)).mono ?_
                  rintro e9 w5 ⟨t5, rfl, hT5, hB5, hs5, -⟩
                  have HT5 : Hid (TX base w5 t5 (T ++ stT s) ∧ Below base wq w5 ∧ base ≤ w5.heap.size) := ⟨hT5, (HX.out.2.2.1.trans ((below_alloc _ _).mono HX.out.2.2.2)).trans hB5, hs5⟩
                  clear hT5 hB5 hs5 hmem
                  go_wp2_with fail
                  have e : planT p ++ (ops.take k).flatMap opT ++ (sts.take (i + 1)).flatMap stT = T ++ stT s := by rw [HT2.out, fm_take stT HSS.out]; simp only [List.append_assoc]
                  refine ⟨⟨i + 1, by (congr 1), by omega, ?_, ?_, HT5.out.2.1, HT5.out.2.2⟩, by simp [intOf]; omega⟩
                  · rw [e]; exact HT5.out.1
                  · rw [e]
                    have h1 := stT_len (HM.out.2.2.2.2.1 _ (List.mem_of_getElem? HSS.out))
                    have h2 := HX.out.2.1
                    simp only [List.length_append]
                    omega
                · have hiin : ¬ (i : Int) < (sts.length : Int) := by omega
                  have hTi : (T.length : Int) < 9223372036854775808 := by have h1 := HX.out.2.1; have h2 := H4.out; omega
                  have HPE := print_end (p := p) (ops := ops) (sts := sts) (k := k) H4.out HGP.out.1 HK.out
                  have hie : i = sts.length := by omega
                  rw [hie, List.take_length] at hT
                  rw [← hT] at HPE
                  have HPQ : Hid ((262144 < T.length → printE p ops sts = 6) ∧ (¬ 262144 < T.length → printE p ops sts = 0 ∧ printT p ops sts = T)) := HPE
                  clear hT HPE hie hTX htl hbx hsz hi hin
                  by_cases hbig : 262144 < T.length
                  · have HE : Hid (PrintGot p ops sts w (.returned (.tuple #[.string ⟨#[]⟩, .int .i64 6])) wy) := by
                      have e := HPQ.out.1 hbig
                      refine ⟨?_, HKW.out _ HX.out.2.2.1⟩
                      unfold printT
                      rw [e]
                      rfl
                    have hbi : (262144 : Int) < (T.length : Int) := by omega
                    clear hbig
                    go_wp2_with fail
                    go_ret2
                    exact HE.out
                  · have HE : Hid (PrintGot p ops sts w (.returned (.tuple #[S T, .int .i64 0])) wy) := by
                      have e := HPQ.out.2 hbig
                      refine ⟨?_, HKW.out _ HX.out.2.2.1⟩
                      rw [e.1, e.2]
                    have hbi : ¬ (262144 : Int) < (T.length : Int) := by omega
                    have hcv := tx_str HX.out.1
                    clear hbig
                    go_wp2_with fail
                    go_ret2
                    exact HE.out
            · have hbi : ¬ (262144 : Int) < (t.length : Int) := by omega
              have HTL : Hid (t.length ≤ 262144) := by show _ ≤ _; omega
              clear ht hTX htl hbx hsz ho hwy hk hbig
              go_wp2_with fail
              rw [← HWY.out]
              clear k0 k1 k2 hbl hbn hbi hti
              have hmem := List.mem_of_getElem? HSS.out
              refine (appendOp_walk (base := base) (o := o) HY.out.1 HY.out.2.2 (HM.out.2.2.2.1 _ hmem) (HM.out.2.2.2.2.2.below (HKW.out _ HY.out.2.1)) (by have := HTL.out; omega)).mono ?_
              rintro e9 w5 ⟨t5, rfl, hT5, hB5, hs5, -⟩
              have HT5 : Hid (TX base w5 t5 (t ++ opT o) ∧ Below base wq w5 ∧ base ≤ w5.heap.size) := ⟨hT5, HY.out.2.1.trans hB5, hs5⟩
              clear hT5 hB5 hs5 hmem
              go_wp2_with fail
              have e : planT p ++ (ops.take (k + 1)).flatMap opT = t ++ opT o := by rw [HI4.out, fm_take opT HSS.out, List.append_assoc]
              refine ⟨⟨t ++ opT o, k + 1, by (congr 1), by omega, HT5.out.1, e.symm, ?_, HT5.out.2.1, HT5.out.2.2⟩, by simp [intOf]; omega⟩
              have h1 := opT_len (HM.out.2.2.2.1 _ (List.mem_of_getElem? HSS.out))
              have h2 := HTL.out
              simp only [List.length_append]
              omega
          · have hkin : ¬ (k : Int) < (ops.length : Int) := by omega
            have HK : Hid (k = ops.length ∨ 262144 < (planT p ++ (ops.take k).flatMap opT).length) := .inl (by omega)
            have HN1 : Hid (TX base wx (.slice ta t.length tc) (planT p ++ (ops.take k).flatMap opT) ∧ (planT p ++ (ops.take k).flatMap opT).length ≤ 262344 + 120 * 0 ∧ Below base wq wx ∧ base ≤ wx.heap.size) := by
              refine ⟨?_, ?_, hbx, hsz⟩
              · rw [← ht]; exact hTX
              · rw [← ht]; omega
            clear ht hTX htl hbx hsz hk hin hti
            go_wp2_with fail
            go_loopw [9, 47] (fun tv vi wx => ∃ (i : Nat), vi = .int .i64 i ∧ i ≤ sts.length ∧ TX base wx tv (planT p ++ (ops.take k).flatMap opT ++ (sts.take i).flatMap stT) ∧ (planT p ++ (ops.take k).flatMap opT ++ (sts.take i).flatMap stT).length ≤ 262344 + 120 * i ∧ Below base wq wx ∧ base ≤ wx.heap.size) (fun _ vi _ => sts.length - (intOf vi).toNat)
            case atStart =>
              have e : planT p ++ (ops.take k).flatMap opT ++ (sts.take 0).flatMap stT = planT p ++ (ops.take k).flatMap opT := by simp
              refine ⟨0, rfl, by omega, ?_, ?_, HN1.out.2.2.1, HN1.out.2.2.2⟩
              · rw [e]; exact HN1.out.1
              · rw [e]; exact HN1.out.2.1
            case round =>
              obtain ⟨wy, rfl⟩ : ∃ x, x = wr := ⟨_, rfl⟩
              obtain ⟨i, rfl, hi, hTX, htl, hbx, hsz⟩ := hrel
              obtain ⟨T, hT⟩ : ∃ T, T = planT p ++ (ops.take k).flatMap opT ++ (sts.take i).flatMap stT := ⟨_, rfl⟩
              rw [← hT] at hTX htl
              have HT2 : Hid (T = planT p ++ (ops.take k).flatMap opT ++ (sts.take i).flatMap stT) := hT
              obtain ⟨ta, tc, rfl, _, _⟩ := own_form21 hTX
              have HX : Hid (TX base wy (.slice ta T.length tc) T ∧ T.length ≤ 262344 + 120 * i ∧ Below base wq wy ∧ base ≤ wy.heap.size) := ⟨hTX, htl, hbx, hsz⟩
              by_cases hin : i < sts.length
              · obtain ⟨s, hs⟩ : ∃ s, sts[i]? = some s := ⟨_, List.getElem?_eq_getElem hin⟩
                obtain ⟨b, off, rfl, k0, k1, k2, k3, k4⟩ := gv_cells5 (HM.out.2.1.below (fun _ => rfl) (HKW.out _ hbx)) hs
                have HSS : Hid (sts[i]? = some s) := hs
                have hbl : b < wy.heap.size := cell_lt k0
                have hbn : ¬ b = wy.heap.size := by omega
                clear hT hTX htl hbx hsz hs hi
                go_wp2_with fail
                clear k0 k1 k2 k3 k4 hbl hbn
                have hmem := List.mem_of_getElem? HSS.out
                refine (appendStep_walk (base := base) (s := s) (tx_keep HX.out.1 (below_alloc _ _)) (by have h1 := HX.out.2.2.2; have h2 := (below_alloc wy (.cells #[.int .i64 s.K, .int .i64 s.D, .int .i64 s.N, .int .u64 s.k, .float .f64 s.x] 41)).size; exact Nat.le_trans h1 h2) (HM.out.2.2.2.2.1 _ hmem) (HM.out.2.2.2.2.2.below (below_trans (HKW.out _ HX.out.2.2.1) (below_alloc _ _))) (by have h1 := HX.out.2.1; have h2 := H4.out; omega) (stEs_mem HGP.out.1 hmem)).mono ?_
                rintro e9 w5 ⟨t5, rfl, hT5, hB5, hs5, -⟩
                have HT5 : Hid (TX base w5 t5 (T ++ stT s) ∧ Below base wq w5 ∧ base ≤ w5.heap.size) := ⟨hT5, (HX.out.2.2.1.trans ((below_alloc _ _).mono HX.out.2.2.2)).trans hB5, hs5⟩
                clear hT5 hB5 hs5 hmem
                go_wp2_with fail
                have e : planT p ++ (ops.take k).flatMap opT ++ (sts.take (i + 1)).flatMap stT = T ++ stT s := by rw [HT2.out, fm_take stT HSS.out]; simp only [List.append_assoc]
                refine ⟨⟨i + 1, by (congr 1), by omega, ?_, ?_, HT5.out.2.1, HT5.out.2.2⟩, by simp [intOf]; omega⟩
                · rw [e]; exact HT5.out.1
                · rw [e]
                  have h1 := stT_len (HM.out.2.2.2.2.1 _ (List.mem_of_getElem? HSS.out))
                  have h2 := HX.out.2.1
                  simp only [List.length_append]
                  omega
              · have hiin : ¬ (i : Int) < (sts.length : Int) := by omega
                have hTi : (T.length : Int) < 9223372036854775808 := by have h1 := HX.out.2.1; have h2 := H4.out; omega
                have HPE := print_end (p := p) (ops := ops) (sts := sts) (k := k) H4.out HGP.out.1 HK.out
                have hie : i = sts.length := by omega
                rw [hie, List.take_length] at hT
                rw [← hT] at HPE
                have HPQ : Hid ((262144 < T.length → printE p ops sts = 6) ∧ (¬ 262144 < T.length → printE p ops sts = 0 ∧ printT p ops sts = T)) := HPE
                clear hT HPE hie hTX htl hbx hsz hi hin
                by_cases hbig : 262144 < T.length
                · have HE : Hid (PrintGot p ops sts w (.returned (.tuple #[.string ⟨#[]⟩, .int .i64 6])) wy) := by
                    have e := HPQ.out.1 hbig
                    refine ⟨?_, HKW.out _ HX.out.2.2.1⟩
                    unfold printT
                    rw [e]
                    rfl
                  have hbi : (262144 : Int) < (T.length : Int) := by omega
                  clear hbig
                  go_wp2_with fail
                  go_ret2
                  exact HE.out
                · have HE : Hid (PrintGot p ops sts w (.returned (.tuple #[S T, .int .i64 0])) wy) := by
                    have e := HPQ.out.2 hbig
                    refine ⟨?_, HKW.out _ HX.out.2.2.1⟩
                    rw [e.1, e.2]
                  have hbi : ¬ (262144 : Int) < (T.length : Int) := by omega
                  have hcv := tx_str HX.out.1
                  clear hbig
                  go_wp2_with fail
                  go_ret2
                  exact HE.out
end Go.Proofs.YtkiplcmndpdifaaGreatDoor


