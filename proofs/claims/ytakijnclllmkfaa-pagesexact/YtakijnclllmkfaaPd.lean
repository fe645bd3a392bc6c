/- takeRoot; write, that gives up by panic. -/
import Derived.Test.YtakijnclllmkfaaPc
namespace Go.Proofs.Ytakijnclllmkfaa
open Go.RowKit

/-- What takeRoot answers. -/
def Tk (w : World) (b : List Nat) (B : Nat) (e : Ending) (w' : World) : Prop :=
  (rootOf b B = none → e = .returned (.tuple #[.agg #[.int .u64 0, .slice none 0 0], .bool false])) ∧
  (∀ g t, rootOf b B = some (g, t) → ∃ ao cap, e = .returned (.tuple #[.agg #[.int .u64 g, .slice ao t.length cap], .bool true]) ∧ Tw w' (.slice ao t.length cap) t ∧ ∀ x, (Value.slice ao t.length cap).ownBlock = some x → w.heap.size ≤ x) ∧
  Below w.heap.size w w'
theorem tk_no {w w' : World} {b : List Nat} {B : Nat} (h : rootOf b B = none) (hB : Below w.heap.size w w') : Tk w b B (.returned (.tuple #[.agg #[.int .u64 0, .slice none 0 0], .bool false])) w' :=
  ⟨fun _ => rfl, fun g t e => (by rw [h] at e; cases e), hB⟩
theorem tk_yes {w w' : World} {b t : List Nat} {B g : Nat} {ao : Option Addr} {cap : Nat} (h : rootOf b B = some (g, t)) (hT : Tw w' (.slice ao t.length cap) t) (hn : ∀ x, (Value.slice ao t.length cap).ownBlock = some x → w.heap.size ≤ x) (hB : Below w.heap.size w w') :
    Tk w b B (.returned (.tuple #[.agg #[.int .u64 g, .slice ao t.length cap], .bool true])) w' :=
  ⟨fun e => (by rw [h] at e; cases e), fun g' t' e => (by rw [h] at e; simp only [Option.some.injEq, Prod.mk.injEq] at e; obtain ⟨rfl, rfl⟩ := e; exact ⟨ao, cap, rfl, hT, hn⟩), hB⟩

/-- The answer's own cell. -/
structure Rc (w : World) (wx : World) : Prop where
  below : Below w.heap.size w wx
  z : ∀ j, j < 2 → (∃ u, wx.cell? ⟨w.heap.size, j, none⟩ = some u) ∧ wx.frozen? ⟨w.heap.size, j, none⟩ = false
  lt : w.heap.size < wx.heap.size
theorem Rc.go {w wx w' : World} (h : Rc w wx) (hb : Below wx.heap.size wx w') : Rc w w' := by
  refine ⟨below_trans h.below hb, fun j hj => ?_, Nat.lt_of_lt_of_le h.lt hb.size⟩
  obtain ⟨⟨u, h1⟩, h2⟩ := h.z j hj
  exact ⟨⟨u, by rw [hb.cell (p := ⟨w.heap.size, j, none⟩) (cell_lt h1)]; exact h1⟩, by rw [hb.frozen (p := ⟨w.heap.size, j, none⟩) (cell_lt h1)]; exact h2⟩
theorem Rc.two {w wx : World} (h : Rc w wx) (a b : Value) : Below w.heap.size w ((wx.setCell ⟨w.heap.size, 0, none⟩ a).setCell ⟨w.heap.size, 1, none⟩ b) :=
  (h.below.setCell (p := ⟨w.heap.size, 0, none⟩) (by simp) _).setCell (p := ⟨w.heap.size, 1, none⟩) (by simp) _
theorem Tw.ch {w w' : World} {ao : Option Addr} {n cap : Nat} {t : List Nat} (h : Tw w (.slice ao n cap) t) (hk : ∀ x, (Value.slice ao n cap).ownBlock = some x → w'.heap[x]? = w.heap[x]?) : Tw w' (.slice ao n cap) t := by
  obtain ⟨ao', cap', e, h1, h2, h3, h4⟩ := h
  simp only [Value.slice.injEq] at e
  obtain ⟨e1, e2, e3⟩ := e
  subst e1 e3
  refine ⟨ao, cap, by rw [e2], h1, h2, h3, fun i hi => ?_⟩
  obtain ⟨b, off, rfl, c⟩ := h4 i hi
  exact ⟨b, off, rfl, by rw [World.cell?_of_block (w := w) (a := ⟨b, off + i, none⟩) (hk b rfl)]; exact c⟩

set_option maxRecDepth 100000 in
set_option maxHeartbeats 2000000 in
theorem troot_walk {w : World} {v : Value} {b : List Nat} (h : Bv w v b) (hl : b.length ≤ 1024) {B : Nat} (hB : B ≤ 64) :
    Calls Try.prog 53 #[v, .int .i64 B] w fun e w' => Tk w b B e w' := by
  obtain ⟨w0, hw0⟩ : ∃ w0, w0 = w.alloc (Obj.cells #[.int .u64 0, .slice none 0 0] 73) := ⟨_, rfl⟩
  have HW0 : Hid (w0 = w.alloc (Obj.cells #[.int .u64 0, .slice none 0 0] 73)) := hw0
  have HR0 : Hid (Rc w w0) := by
    refine ⟨by rw [hw0]; exact below_alloc _ _, fun j hj => ?_, by rw [hw0]; simp⟩
    have hj2 : j = 0 ∨ j = 1 := by omega
    rcases hj2 with rfl | rfl <;> (rw [hw0]; constructor <;> simp [go_sem])
  have HV : Hid (Bv w0 v b) := h.below HR0.out.below
  have HL : Hid (b.length ≤ 1024) := hl
  have HBB : Hid (B ≤ 64) := hB
  obtain ⟨bo, bc, rfl, hb1, hb2⟩ := bv_form h
  have hbl : (b.length : Int) ≤ 1024 := by omega
  have hbc : (b.length : Int) ≤ (bc : Int) := by omega
  have HBC : Hid (b.length ≤ bc) := hb1
  obtain ⟨⟨u0, z0⟩, f0⟩ := HR0.out.z 0 (by omega)
  obtain ⟨⟨u1, z1⟩, f1⟩ := HR0.out.z 1 (by omega)
  rcases Wm.take_form b h.2 with ⟨er, her, h34⟩ | ⟨g, p, htx, hx, hn1, hn2, henc⟩
  · have HER : Hid (Wm.take b = (0, 0, er)) := her
    have HNO : Hid (rootOf b B = none) := root_take her h34
    clear h hw0 hl hB hb1 hb2 her
    rcases h34 with rfl | rfl
    all_goals
      go_enter Try.func53, Try.ntmps53
      go_wp2_with fail
      rw [← HW0.out]
      refine (take_walk HV.out).mono ?_
      rintro e w1 ⟨he, h9⟩
      have h9 := h9.symm
      subst h9
      rw [t3_lit HER.out] at he
      subst he
      go_wp2_with fail
      (try simp only [Exit.inBlock, Exit.then])
      refine bodyPost_ret (v := .tuple #[.agg #[.int .u64 0, .slice none 0 0], .bool false]) (by rw [results_cell_tmp rfl]; go_simp) rfl ?_
      exact tk_no HNO.out (HR0.out.two _ _)
  · have HT : Hid (Wm.take b = (g, p, 0)) := htx
    have HP : Hid (p ≤ b.length) := hn2
    have hpi : (p : Int) ≤ (b.length : Int) := by omega
    have HBY : Hid (∀ c ∈ b, c < 256) := h.2
    clear h hw0 hl hB hb1 hb2 htx henc hx hn1 hn2
    by_cases hg1 : (g : Int) < 1
    · have HNO : Hid (rootOf b B = none) := root_gen HT.out (.inl (by omega))
      go_enter Try.func53, Try.ntmps53
      go_wp2_with fail
      rw [← HW0.out]
      refine (take_walk HV.out).mono ?_
      rintro e w1 ⟨he, h9⟩
      have h9 := h9.symm
      subst h9
      rw [t3_lit HT.out] at he
      subst he
      go_wp2_with fail
      (try simp only [Exit.inBlock, Exit.then])
      refine bodyPost_ret (v := .tuple #[.agg #[.int .u64 0, .slice none 0 0], .bool false]) (by rw [results_cell_tmp rfl]; go_simp) rfl ?_
      exact tk_no HNO.out (HR0.out.two _ _)
    · have hg1i : 1 ≤ (g : Int) := by omega
      have hgd1 : decide ((g : Int) < 1) = false := decide_eq_false hg1
      clear hg1
      by_cases hg2 : (1099511627776 : Int) < (g : Int)
      · have HNO : Hid (rootOf b B = none) := root_gen HT.out (.inr (by omega))
        go_enter Try.func53, Try.ntmps53
        go_wp2_with fail
        rw [← HW0.out]
        refine (take_walk HV.out).mono ?_
        rintro e w1 ⟨he, h9⟩
        have h9 := h9.symm
        subst h9
        rw [t3_lit HT.out] at he
        subst he
        go_wp2_with fail
        (try simp only [Exit.inBlock, Exit.then])
        refine bodyPost_ret (v := .tuple #[.agg #[.int .u64 0, .slice none 0 0], .bool false]) (by rw [results_cell_tmp rfl]; go_simp) rfl ?_
        exact tk_no HNO.out (HR0.out.two _ _)
      · have HG : Hid (1 ≤ g ∧ g ≤ 1099511627776) := ⟨by omega, by omega⟩
        have hgd2 : decide ((1099511627776 : Int) < (g : Int)) = false := decide_eq_false hg2
        clear hg2
        obtain ⟨t, n, er, hnn⟩ : ∃ t n er, Wm.takeNums (b.drop p) 8 = (t, n, er) := ⟨_, _, _, rfl⟩
        have HN : Hid (Wm.takeNums (b.drop p) 8 = (t, n, er)) := hnn
        have HDL : Hid ((b.drop p).length * 8 ≤ 140737488355328) := by show _ ≤ _; rw [List.length_drop]; have := HL.out; omega
        clear hnn z0 z1 f0 f1
        by_cases hcp : bc = p
        · have HLP : Hid (b.length ≤ p) := by show _ ≤ _; have := HBC.out; omega
          have HCP : Hid (bc = p) := hcp
          have h3 : er = 3 := by
            have hh := HN.out
            rw [List.drop_eq_nil_of_le HLP.out] at hh
            have : Wm.takeNums [] 8 = ([], 0, 3) := rfl
            rw [this] at hh
            simp only [Prod.mk.injEq] at hh
            exact hh.2.2.symm
          subst h3
          have HNO : Hid (rootOf b B = none) := root_nums HT.out HN.out (by omega)
          clear hcp
          go_enter Try.func53, Try.ntmps53
          go_wp2_with fail
          rw [← HW0.out]
          refine (take_walk HV.out).mono ?_
          rintro e w1 ⟨he, h9⟩
          have h9 := h9.symm
          subst h9
          rw [t3_lit HT.out] at he
          subst he
          have hcp := HCP.out
          have hbp : b.length = p := by have := HLP.out; omega
          clear HCP
          subst hcp
          go_wp2_with fail
          refine (takenums_walk 8 (Bv.cutEnd (ao := bo) HLP.out) HDL.out (by omega)).mono ?_
          rw [HN.out]
          rintro e w2 ⟨ao, cap, rfl, hS, hB2, hnw⟩
          simp only at hS hnw ⊢
          have HR2 : Hid (Rc w w2) := HR0.out.go hB2
          obtain ⟨⟨u0, z0⟩, f0⟩ := HR2.out.z 0 (by omega)
          obtain ⟨⟨u1, z1⟩, f1⟩ := HR2.out.z 1 (by omega)
          clear hS hnw hB2
          go_wp2_with fail
          (try simp only [Exit.inBlock, Exit.then])
          refine bodyPost_ret (v := .tuple #[.agg #[.int .u64 0, .slice none 0 0], .bool false]) (by rw [results_cell_tmp rfl]; go_simp) rfl ?_
          exact tk_no HNO.out (HR2.out.two _ _)
        · by_cases he0 : er = 0
          · subst he0
            have HNF : Hid (n ≤ (b.drop p).length ∧ t.length ≤ 8) := nums_fit (fun c hc => HBY.out c (List.mem_of_mem_drop hc)) HN.out
            have hpn : (p : Int) + (n : Int) ≤ (b.length : Int) := by have h1 := HNF.out.1; rw [List.length_drop] at h1; omega
            by_cases hln : p + n = b.length
            · have hlb : ((p : Int) + (n : Int) != (b.length : Int)) = false := by simp; omega
              have HLN : Hid (p + n = b.length) := hln
              clear hln
              cases htb : tabB t B
              · have HTB : Hid (tabB t B = false) := htb
                have HNO : Hid (rootOf b B = none) := root_tab HT.out HN.out htb
                clear htb
                go_enter Try.func53, Try.ntmps53
                go_wp2_with fail
                rw [← HW0.out]
                refine (take_walk HV.out).mono ?_
                rintro e w1 ⟨he, h9⟩
                have h9 := h9.symm
                subst h9
                rw [t3_lit HT.out] at he
                subst he
                go_wp2_with fail
                refine (takenums_walk 8 (HV.out.cutFrom p HP.out hcp) HDL.out (by omega)).mono ?_
                rw [HN.out]
                rintro e w2 ⟨ao, cap, rfl, hS, hB2, hnw⟩
                simp only [ib_len] at hS hnw ⊢
                have HS : Hid (Tw w2 (.slice ao t.length cap) t) := hS
                have HR2 : Hid (Rc w w2) := HR0.out.go hB2
                obtain ⟨⟨u0, z0⟩, f0⟩ := HR2.out.z 0 (by omega)
                obtain ⟨⟨u1, z1⟩, f1⟩ := HR2.out.z 1 (by omega)
                clear hS hnw hB2
                go_wp2_with fail
                refine (are_walk HS.out (by have := HNF.out.2; omega) HBB.out).mono ?_
                rw [HTB.out]
                rintro e w3 ⟨rfl, h9⟩
                have h9 := h9.symm
                subst h9
                go_wp2_with fail
                (try simp only [Exit.inBlock, Exit.then])
                refine bodyPost_ret (v := .tuple #[.agg #[.int .u64 0, .slice none 0 0], .bool false]) (by rw [results_cell_tmp rfl]; go_simp) rfl ?_
                exact tk_no HNO.out (HR2.out.two _ _)
              · have HTB : Hid (tabB t B = true) := htb
                have HYE : Hid (rootOf b B = some (g, t)) := root_some HT.out HG.out.1 HG.out.2 HN.out HLN.out htb
                clear htb
                go_enter Try.func53, Try.ntmps53
                go_wp2_with fail
                rw [← HW0.out]
                refine (take_walk HV.out).mono ?_
                rintro e w1 ⟨he, h9⟩
                have h9 := h9.symm
                subst h9
                rw [t3_lit HT.out] at he
                subst he
                go_wp2_with fail
                refine (takenums_walk 8 (HV.out.cutFrom p HP.out hcp) HDL.out (by omega)).mono ?_
                rw [HN.out]
                rintro e w2 ⟨ao, cap, rfl, hS, hB2, hnw⟩
                simp only [ib_len] at hS hnw ⊢
                have HS : Hid (Tw w2 (.slice ao t.length cap) t) := hS
                have HNW : Hid (∀ x, (Value.slice ao t.length cap).ownBlock = some x → w.heap.size < x) := fun x hx => Nat.lt_of_lt_of_le HR0.out.lt (hnw x hx)
                have HR2 : Hid (Rc w w2) := HR0.out.go hB2
                obtain ⟨⟨u0, z0⟩, f0⟩ := HR2.out.z 0 (by omega)
                obtain ⟨⟨u1, z1⟩, f1⟩ := HR2.out.z 1 (by omega)
                clear hS hnw hB2
                go_wp2_with fail
                refine (are_walk HS.out (by have := HNF.out.2; omega) HBB.out).mono ?_
                rw [HTB.out]
                rintro e w3 ⟨rfl, h9⟩
                have h9 := h9.symm
                subst h9
                go_wp2_with fail
                (try simp only [Exit.inBlock, Exit.then])
                refine bodyPost_ret (v := .tuple #[.agg #[.int .u64 g, .slice ao t.length cap], .bool true]) (by rw [results_cell_tmp rfl]; go_simp) rfl ?_
                refine tk_yes HYE.out (HS.out.ch (fun x hx => ?_)) (fun x hx => Nat.le_of_lt (HNW.out x hx)) (HR2.out.two _ _)
                have hne : x ≠ w.heap.size := by have := HNW.out x hx; omega
                rw [set_other 1 _ hne, set_other 0 _ hne]
            · have hlb : ((p : Int) + (n : Int) != (b.length : Int)) = true := by simp; omega
              have HNO : Hid (rootOf b B = none) := root_len HT.out HN.out hln
              clear hln
              go_enter Try.func53, Try.ntmps53
              go_wp2_with fail
              rw [← HW0.out]
              refine (take_walk HV.out).mono ?_
              rintro e w1 ⟨he, h9⟩
              have h9 := h9.symm
              subst h9
              rw [t3_lit HT.out] at he
              subst he
              go_wp2_with fail
              refine (takenums_walk 8 (HV.out.cutFrom p HP.out hcp) HDL.out (by omega)).mono ?_
              rw [HN.out]
              rintro e w2 ⟨ao, cap, rfl, hS, hB2, hnw⟩
              simp only [ib_len] at hS hnw ⊢
              have HR2 : Hid (Rc w w2) := HR0.out.go hB2
              obtain ⟨⟨u0, z0⟩, f0⟩ := HR2.out.z 0 (by omega)
              obtain ⟨⟨u1, z1⟩, f1⟩ := HR2.out.z 1 (by omega)
              clear hS hnw hB2
              go_wp2_with fail
              (try simp only [Exit.inBlock, Exit.then])
              refine bodyPost_ret (v := .tuple #[.agg #[.int .u64 0, .slice none 0 0], .bool false]) (by rw [results_cell_tmp rfl]; go_simp) rfl ?_
              exact tk_no HNO.out (HR2.out.two _ _)
          · have heb : ((er : Int) != 0) = true := by simp; omega
            have hei : ¬ (er : Int) = 0 := by omega
            have HNO : Hid (rootOf b B = none) := root_nums HT.out HN.out he0
            clear he0
            go_enter Try.func53, Try.ntmps53
            go_wp2_with fail
            rw [← HW0.out]
            refine (take_walk HV.out).mono ?_
            rintro e w1 ⟨he, h9⟩
            have h9 := h9.symm
            subst h9
            rw [t3_lit HT.out] at he
            subst he
            go_wp2_with fail
            refine (takenums_walk 8 (HV.out.cutFrom p HP.out hcp) HDL.out (by omega)).mono ?_
            rw [HN.out]
            rintro e w2 ⟨ao, cap, rfl, hS, hB2, hnw⟩
            simp only [ib_len] at hS hnw ⊢
            have HR2 : Hid (Rc w w2) := HR0.out.go hB2
            obtain ⟨⟨u0, z0⟩, f0⟩ := HR2.out.z 0 (by omega)
            obtain ⟨⟨u1, z1⟩, f1⟩ := HR2.out.z 1 (by omega)
            clear hS hnw hB2
            go_wp2_with fail
            (try simp only [Exit.inBlock, Exit.then])
            refine bodyPost_ret (v := .tuple #[.agg #[.int .u64 0, .slice none 0 0], .bool false]) (by rw [results_cell_tmp rfl]; go_simp) rfl ?_
            exact tk_no HNO.out (HR2.out.two _ _)

section
variable {T : TypeId} {D : Nat → Prop} {w : World} {v bv : Value} {S : Dk} {b : List Nat}
/-- What a write leaves on the disk. -/
def Wl (T : TypeId) (D : Nat → Prop) (w : World) (v : Value) (S : Dk) (w' : World) : Prop := (∃ D' : Nat → Prop, Dsk T D' w' v S ∧ ∀ x, D' x → D x ∨ w.heap.size ≤ x) ∧ Ch D w w'
theorem wr_ok (h : Dsk 81 D w v S) (i : Int) (hb : Bv w bv b) (hwr : S.wr < 9223372036854775807) (hI : writeI S i b = 0) :
    Calls Try.prog 50 #[v, .int .i64 i, bv] w fun e w' => e = .returned (.tuple #[]) ∧ Wl 81 D w v (writeS S i b) w' := by
  have HD : Hid (Dsk 81 D w v S) := h
  have HB : Hid (Bv w bv b) := hb
  have HW : Hid (S.wr < 9223372036854775807) := hwr
  have HI : Hid (writeI S i b = 0) := hI
  clear h hb hwr hI
  go_enter Try.func50, Try.ntmps50
  go_wp2_with fail
  refine (write_walk HD.out i HB.out HW.out).mono ?_
  rintro e w1 ⟨rfl, hD, hC⟩
  rw [HI.out]
  go_wp2_with fail
  refine bodyPost_end (results_none rfl _ _ _) rfl ?_
  exact ⟨rfl, hD, hC⟩
theorem wr_bad (h : Dsk 81 D w v S) (i : Int) (hb : Bv w bv b) (hwr : S.wr < 9223372036854775807) (hI : writeI S i b ≠ 0) :
    Calls Try.prog 50 #[v, .int .i64 i, bv] w fun e w' => (∃ u pv, e = .panicked [{ v := .iface u pv, recovered := false }]) ∧ Wl 81 D w v (writeS S i b) w' := by
  have HD : Hid (Dsk 81 D w v S) := h
  have HB : Hid (Bv w bv b) := hb
  have HW : Hid (S.wr < 9223372036854775807) := hwr
  obtain ⟨q, hq⟩ : ∃ q, q = writeI S i b := ⟨_, rfl⟩
  have HI : Hid (q = writeI S i b) := hq
  rw [← hq] at hI
  have hqb : (q != 0) = true := by simpa using hI
  clear h hb hwr hq
  go_enter Try.func50, Try.ntmps50
  go_wp2_with fail
  refine (write_walk HD.out i HB.out HW.out).mono ?_
  rintro e w1 ⟨rfl, hD, hC⟩
  rw [← HI.out]
  go_wp2_with fail
  exact ⟨rfl, ⟨_, _, rfl⟩, hD, hC⟩
end
end Go.Proofs.Ytakijnclllmkfaa
