/- The reference's Add. -/
import Derived.Test.YtfcpooihihklaaaKo
namespace Go.Proofs.Ytfcpooihihklaaa
open Ieee Go.RowKit

theorem below_drw (w : World) : Below w.heap.size w w.drew := (Below.refl _ _).drew

theorem mrg_end {kind : Int} {a b : List Pr} {i j : Nat} (hi : i < a.length) (hj : b.length ≤ j) : mrg kind (a.drop i) (b.drop j) = ⟨a[i].k, fitV kind a[i].v⟩ :: mrg kind (a.drop (i + 1)) (b.drop j) := by
  rw [List.drop_eq_nil_of_le hj, mrg_nil, mrg_nil, List.drop_eq_getElem_cons hi]; rfl
theorem end_mrg {kind : Int} {a b : List Pr} {i j : Nat} (hj : j < b.length) (hi : a.length ≤ i) : mrg kind (a.drop i) (b.drop j) = ⟨b[j].k, fitV kind b[j].v⟩ :: mrg kind (a.drop i) (b.drop (j + 1)) := by
  rw [List.drop_eq_nil_of_le hi, nil_mrg, nil_mrg, List.drop_eq_getElem_cons hj]; rfl
theorem drop_lt {kind : Int} {a b : List Pr} {i j : Nat} (hi : i < a.length) (hj : j < b.length) (h : a[i].k < b[j].k) : mrg kind (a.drop i) (b.drop j) = ⟨a[i].k, fitV kind a[i].v⟩ :: mrg kind (a.drop (i + 1)) (b.drop j) := by
  rw [List.drop_eq_getElem_cons hi, List.drop_eq_getElem_cons hj, mrg_lt h]
theorem drop_gt {kind : Int} {a b : List Pr} {i j : Nat} (hi : i < a.length) (hj : j < b.length) (h : b[j].k < a[i].k) : mrg kind (a.drop i) (b.drop j) = ⟨b[j].k, fitV kind b[j].v⟩ :: mrg kind (a.drop i) (b.drop (j + 1)) := by
  rw [List.drop_eq_getElem_cons hi, List.drop_eq_getElem_cons hj, mrg_gt h]
theorem drop_eq {kind : Int} {a b : List Pr} {i j : Nat} (hi : i < a.length) (hj : j < b.length) (h : a[i].k = b[j].k) : mrg kind (a.drop i) (b.drop j) = ⟨a[i].k, mergeV kind a[i].v b[j].v⟩ :: mrg kind (a.drop (i + 1)) (b.drop (j + 1)) := by
  rw [List.drop_eq_getElem_cons hi, List.drop_eq_getElem_cons hj, mrg_eq h]

theorem own3_below {w w' : World} {B e n : Nat} {v : Value} {xs : List Value} (h : w.ownsRow B e 3 v n xs) (hb : Below w.heap.size w w') : w'.ownsRow B e 3 v n xs := by
  refine h.kept (grown_of_below hb) ?_
  cases hv : v.ownBlock
  · exact Or.inl rfl
  · exact Or.inr (by simp)
theorem cell_own {w w' : World} {row : Option Nat} {p : Addr} {u : Value} (h : w.cell? p = some u) (hg : w.grownBy w' row) (hne : ∀ m, row = some m → p.block ≠ m) : w'.cell? p = some u := by
  rw [World.cell?_of_block (w := w) (hg.block p.block (cell_lt h) (fun e => hne _ e.symm rfl))]; exact h
theorem pair_cells {w : World} {g k b : Nat} {c : Bool} (h0 : w.cell? ⟨g, 0, none⟩ = some (.int .u64 k)) (h1 : w.cell? ⟨g, 1, none⟩ = some (.bool c)) (h2 : w.cell? ⟨g, 2, none⟩ = some (.int .u64 b)) :
    ∀ (j : Nat) (u : Value), ([.int .u64 k, .bool c, .int .u64 b] : List Value)[j]? = some u → w.cell? ((⟨g, 0, none⟩ : Addr).add j) = some u := by
  intro j u hj
  have : j = 0 ∨ j = 1 ∨ j = 2 ∨ 3 ≤ j := by omega
  rcases this with rfl | rfl | rfl | h
  · simp at hj; subst hj; simpa [WideShapes.add_plain] using h0
  · simp at hj; subst hj; simpa [WideShapes.add_plain] using h1
  · simp at hj; subst hj; simpa [WideShapes.add_plain] using h2
  · rw [List.getElem?_eq_none (by simpa using h)] at hj; cases hj

/-- Where the loop of the reference's Add stands. -/
def Ra (w : World) (B : Nat) (kind : Int) (a b : List Pr) (tv iv jv : Value) (wr : World) : Prop :=
  ∃ (i j : Nat) (t : List Pr), i ≤ a.length ∧ j ≤ b.length ∧ iv = .int .i64 i ∧ jv = .int .i64 j ∧ wr.ownsRow B 38 3 tv t.length (flatQ t) ∧ t ++ mrg kind (a.drop i) (b.drop j) = mrg kind a b ∧ t.length ≤ i + j ∧ Below w.heap.size w wr ∧ B ≤ wr.heap.size

theorem ra_step {w wr w5 w6 : World} {B i j i' j' : Nat} {kind : Int} {a b t : List Pr} {X : Pr} {tv v' iv jv : Value} {ob : Obj} (hmr : mrg kind (a.drop i) (b.drop j) = X :: mrg kind (a.drop i') (b.drop j')) (hi : i' ≤ a.length) (hj : j' ≤ b.length)
    (eiv : iv = .int .i64 i') (ejv : jv = .int .i64 j') (hs : i + j + 1 ≤ i' + j') (ho : wr.ownsRow B 38 3 tv t.length (flatQ t)) (h5 : Below wr.heap.size wr w5) (hg : (w5.alloc ob).grownBy w6 tv.ownBlock)
    (h6 : w6.ownsRow B 38 3 v' (t.length + 1) (flatQ (t ++ [X]))) (hinv : t ++ mrg kind (a.drop i) (b.drop j) = mrg kind a b) (htl : t.length ≤ i + j) (hB : Below w.heap.size w wr) (hw : w.heap.size ≤ B) (hBs : B ≤ wr.heap.size) :
    Ra w B kind a b v' iv jv w6 := by
  have h5a : Below wr.heap.size wr (w5.alloc ob) := below_trans h5 (below_alloc _ _)
  have hB6 : Below w.heap.size w w6 := (below_trans hB h5a).grown hg (below_trans hB h5a).size (fun k h => Nat.le_trans hw (ho.lt k h).1)
  refine ⟨i', j', t ++ [X], hi, hj, eiv, ejv, by simpa using h6, ?_, by simp; omega, hB6, Nat.le_trans (Nat.le_trans hBs h5a.size) hg.size⟩
  rw [List.append_assoc, ← hinv, hmr]; rfl

theorem if_wanted {o : Oper} {y : Nat → Option Bool} {p q : Prop} (hg : o.guard = none) (h : p) : if Region.wanted o y = true then p else q := by
  have : Region.wanted o y = true := by simp [Region.wanted, hg]
  rw [if_pos this]; exact h

theorem ra_app {wr w5 : World} {B : Nat} {t : List Pr} {u8 : Value} {i0 : TypeInfo} {k : Nat} {V : Vl} (hi0 : Try.prog.info? 38 = some i0) (hz0 : i0.zero = some (.agg #[.int .u64 0, .bool false, .int .u64 0])) (hz1 : i0.size = 3) (hz2 : i0.bytes = 24)
    (ho : wr.ownsRow B 38 3 u8 t.length (flatQ t)) (h5 : Below wr.heap.size wr w5) (hn : (t.length + 1) * 24 ≤ 140737488355328) (hBs : B ≤ wr.heap.size) :
    ∃ v' w6, (Builtin.append_ #[22, 22] 22 #[u8, .slice (some ⟨w5.heap.size, 0, none⟩) 1 1]).run Try.prog (w5.alloc (Obj.cells #[.int .u64 k, .bool V.h, .int .u64 V.b] 38)) = .ok v' w6 ∧
      w6.ownsRow B 38 3 v' (t.length + 1) (flatQ (t ++ [⟨k, V⟩])) ∧ (w5.alloc (Obj.cells #[.int .u64 k, .bool V.h, .int .u64 V.b] 38)).grownBy w6 u8.ownBlock := by
  obtain ⟨v', w6, hrun, hown6, hgrow6, _⟩ := run_append_own (P := Try.prog) (w5.alloc (Obj.cells #[.int .u64 k, .bool V.h, .int .u64 V.b] 38)) B 22 22 38 i0 (.agg #[.int .u64 0, .bool false, .int .u64 0]) 3 24 Try.underlying22 hi0 hz0 hz1 hz2 rfl (by decide) u8 t.length (flatQ t) ((own3_below ho h5).alloc _) ⟨w5.heap.size, 0, none⟩ 1 1 [.int .u64 k, .bool V.h, .int .u64 V.b] rfl (pair_cells (by simp [go_sem]) (by simp [go_sem]) (by simp [go_sem])) (by intro u hu; simp at hu; rcases hu with rfl | rfl | rfl <;> rfl) (by simp only [maxLen]; omega) hn (by have := h5.size; simp; omega)
  exact ⟨v', w6, hrun, by rw [flatQ_append]; exact hown6, hgrow6⟩

theorem tl_bound {t i j a b : Nat} (h1 : (a + b + 1) * 24 ≤ 140737488355328) (h2 : t ≤ i + j) (h3 : i ≤ a) (h4 : j ≤ b) : (t + 1) * 24 ≤ 140737488355328 := Nat.le_trans (Nat.mul_le_mul_right 24 (show t + 1 ≤ a + b + 1 by omega)) h1

theorem radd_unknown {av bv : Value} {kind : Int} {w : World} (hk : knownB kind = false) :
    Calls Try.prog 12 #[.int .i64 kind, av, bv] w fun e w' => e = .returned (.tuple #[.slice none 0 0, .int .i64 1]) ∧ Below w.heap.size w w' := by
  go_enter Try.func12, Try.ntmps12
  go_wp2_with (go_at_call 28; refine (rknown_walk _ _).mono ?_; rw [hk]; rintro e w9 ⟨rfl, h9⟩; have h9 := h9.symm; subst h9)
  go_ret2
  exact ⟨rfl, below_same _⟩

theorem radd_order {av bv : Value} {kind : Int} {a b : List Pr} {w : World} (ha : Qv w av a) (hb : Qv w bv b) (hk : knownB kind = true) (hs : (tabB a && tabB b) = false) :
    Calls Try.prog 12 #[.int .i64 kind, av, bv] w fun e w' => e = .returned (.tuple #[.slice none 0 0, .int .i64 7]) ∧ Below w.heap.size w w' := by
  have HLA : Hid (a.length ≤ maxLen) := ha.len
  have HLB : Hid (b.length ≤ maxLen) := hb.len
  obtain ⟨⟨ao, ca, rfl, _, _, _, a4⟩, _⟩ := ha
  obtain ⟨⟨bo, cb, rfl, _, _, _, b4⟩, _⟩ := hb
  have HA : Hid (Ql w ao a) := a4
  have HB : Hid (Ql w bo b) := b4
  clear a4 b4
  cases hta : tabB a
  · go_enter Try.func12, Try.ntmps12
    go_wp2_with (go_at_call 28; refine (rknown_walk _ _).mono ?_; rw [hk]; rintro e w9 ⟨rfl, h9⟩; have h9 := h9.symm; subst h9)
    refine (rsound_walk HLA.out HA.out).mono ?_
    rw [hta]
    rintro e w2 ⟨rfl, hB2⟩
    go_wp2_with fail
    go_ret2
    exact ⟨rfl, hB2⟩
  · have htb : tabB b = false := by rw [hta] at hs; simpa using hs
    clear hs
    go_enter Try.func12, Try.ntmps12
    go_wp2_with (go_at_call 28; refine (rknown_walk _ _).mono ?_; rw [hk]; rintro e w9 ⟨rfl, h9⟩; have h9 := h9.symm; subst h9)
    refine (rsound_walk HLA.out HA.out).mono ?_
    rw [hta]
    rintro e w2 ⟨rfl, hB2⟩
    go_wp2_with fail
    refine (rsound_walk HLB.out (HB.out.below hB2)).mono ?_
    rw [htb]
    rintro e w3 ⟨rfl, hB3⟩
    go_wp2_with fail
    go_ret2
    exact ⟨rfl, below_trans hB2 hB3⟩

set_option maxRecDepth 100000 in
set_option maxHeartbeats 16000000 in
theorem radd_good {av bv : Value} {kind : Int} {a b : List Pr} {w : World} (ha : Qv w av a) (hb : Qv w bv b) (hk : knownB kind = true) (hta : tabB a = true) (htb : tabB b = true) (hsz : (a.length + b.length + 1) * 24 ≤ 140737488355328) :
    Calls Try.prog 12 #[.int .i64 kind, av, bv] w fun e w' => ∃ v, e = .returned (.tuple #[v, .int .i64 0]) ∧ w'.ownsRow w.heap.size 38 3 v (mrg kind a b).length (flatQ (mrg kind a b)) ∧ Below w.heap.size w w' := by
  have HLA : Hid (a.length ≤ maxLen) := ha.len
  have HLB : Hid (b.length ≤ maxLen) := hb.len
  obtain ⟨⟨ao, ca, rfl, _, _, _, a4⟩, a5⟩ := ha
  obtain ⟨⟨bo, cb, rfl, _, _, _, b4⟩, b5⟩ := hb
  have HA : Hid (Ql w ao a) := a4
  have HBB : Hid (Ql w bo b) := b4
  have HOA : Hid (okT a) := a5
  have HOB : Hid (okT b) := b5
  have HSZ : Hid ((a.length + b.length + 1) * 24 ≤ 140737488355328) := hsz
  have hai : (a.length : Int) ≤ 5864062014806 := by omega
  have hbi : (b.length : Int) ≤ 5864062014806 := by omega
  obtain ⟨i0, hi0, hz0, hz1, hz2⟩ := info_partsQ info_pair
  have HI0 : Hid (Try.prog.info? 38 = some i0) := hi0
  have HI1 : Hid (i0.zero = some (.agg #[.int .u64 0, .bool false, .int .u64 0])) := hz0
  have HI2 : Hid (i0.size = 3) := hz1
  have HI3 : Hid (i0.bytes = 24) := hz2
  clear a4 b4 a5 b5 hsz hi0 hz0 hz1 hz2
  go_enter Try.func12, Try.ntmps12
  go_wp2_with (go_at_call 28; refine (rknown_walk _ _).mono ?_; rw [hk]; rintro e w9 ⟨rfl, h9⟩; have h9 := h9.symm; subst h9)
  refine (rsound_walk HLA.out HA.out).mono ?_
  rw [hta]
  rintro e w2 ⟨rfl, hB2⟩
  have HB2 : Hid (Below w.heap.size w w2) := hB2
  clear hB2 hta
  go_wp2_with fail
  refine (rsound_walk HLB.out (HBB.out.below HB2.out)).mono ?_
  rw [htb]
  rintro e w3 ⟨rfl, hB3⟩
  have HB3 : Hid (Below w.heap.size w w3) := below_trans HB2.out hB3
  have HW3 : Hid (w.heap.size ≤ w3.heap.size) := HB3.out.size
  clear hB3 htb HB2
  go_wp2_with fail
  have R0 : Ra w w3.heap.size kind a b (.slice (some ⟨w3.heap.size, 0, none⟩) 0 0) (.int .i64 0) (.int .i64 0) (w3.alloc (Obj.cells #[] 38)) :=
    ⟨0, 0, [], Nat.zero_le _, Nat.zero_le _, rfl, rfl, by simpa [flatQ] using World.ownsRow_lit (base := w3.heap.size) (e := 38) (size := 3) w3 #[] 0 (Nat.le_refl _) (by simp [maxLen]) (by simp), by simp, by simp, below_trans HB3.out (below_alloc _ _), by simp⟩
  go_loopw [8, 9, 10] (fun tv iv jv wr => Ra w w3.heap.size kind a b tv iv jv wr) (fun _ iv jv _ => a.length + b.length - ((intOf iv).toNat + (intOf jv).toNat))
  case atStart => exact R0
  case round =>
    clear R0
    obtain ⟨i, j, t, hi, hj, rfl, rfl, hown, hinv, htl, hB, hBs⟩ := hrel
    have HOW : Hid (wr.ownsRow w3.heap.size 38 3 u8 t.length (flatQ t)) := hown
    have HINV : Hid (t ++ mrg kind (a.drop i) (b.drop j) = mrg kind a b) := hinv
    have HTL : Hid (t.length ≤ i + j) := htl
    have HTB : Hid ((t.length + 1) * 24 ≤ 140737488355328) := tl_bound HSZ.out htl hi hj
    have HB : Hid (Below w.heap.size w wr) := hB
    have HBS : Hid (w3.heap.size ≤ wr.heap.size) := hBs
    clear hown hinv htl hB hBs
    by_cases hdone : i = a.length ∧ j = b.length
    · have hcl : ¬ ((i : Int) < (a.length : Int)) := by omega
      have hcj : ¬ ((j : Int) < (b.length : Int)) := by omega
      have HE : Hid (t = mrg kind a b) := by
        have := HINV.out
        rw [List.drop_eq_nil_of_le (by omega), List.drop_eq_nil_of_le (by omega), mrg_nil] at this
        show t = _
        simpa using this
      go_wp2_with fail
      go_ret2
      refine ⟨_, rfl, ?_, HB.out⟩
      have := HOW.out
      rw [HE.out] at this
      exact ⟨this.1, by
        rcases this.2 with h | ⟨g, cap, cur, h1, h2, h3⟩
        · exact .inl h
        · exact .inr ⟨g, cap, cur, h1, Nat.le_trans HW3.out h2, h3⟩⟩
    · by_cases hjb' : j = b.length
      · have hia : i < a.length := by omega
        obtain ⟨ab, aoff, rfl, a0, a1, a2⟩ := HA.out.below HB.out i hia
        obtain ⟨p, hpe⟩ : ∃ p, p = a[i] := ⟨_, rfl⟩
        rw [← hpe] at a0 a1 a2
        have HP : Hid (p = a[i]) := hpe
        have HPO : Hid p.ok := by show p.ok; rw [hpe]; exact HOA.out _ (List.getElem_mem hia)
        have HPC : Hid (wr.cell? ⟨ab, aoff + i * 3, none⟩ = some (.int .u64 p.k) ∧ wr.cell? ⟨ab, aoff + i * 3 + 1, none⟩ = some (.bool p.v.h) ∧ wr.cell? ⟨ab, aoff + i * 3 + 2, none⟩ = some (.int .u64 p.v.b)) := ⟨a0, a1, a2⟩
        have HAL : Hid (ab < w.heap.size) := by
          obtain ⟨b3, off3, e3, q3, _⟩ := HA.out i hia
          cases e3
          exact cell_lt q3
        clear hpe
        have HMR : Hid (mrg kind (a.drop i) (b.drop j) = ⟨p.k, fitV kind p.v⟩ :: mrg kind (a.drop (i + 1)) (b.drop j)) := by show _ = _; rw [HP.out]; exact mrg_end hia (by omega)
        have hjb : j ≤ b.length := hj
        have hcl : (i : Int) < (a.length : Int) := by omega
        have hce : ((j : Int) == (b.length : Int)) = true := by simp; omega
        clear a0 a1 a2 hjb'
        go_wp2_with fail
        go_quiet (fail)
        go_wp2_with fail
        clear hcl hce
        generalize hgz : wr.drewN _ = wz
        have HZ : Hid (Below wr.heap.size wr wz) := by show Below _ _ _; rw [← hgz]; exact below_drewN _ _
        clear hgz
        obtain ⟨V, hV⟩ : ∃ V, V = fitV kind p.v := ⟨_, rfl⟩
        have HV : Hid (fitV kind p.v = V) := hV.symm
        rw [← hV] at HMR
        clear hV
        have HSF : Hid (∀ wx, Below wr.heap.size wr wx → wx.cell? ⟨ab, aoff + i * 3, none⟩ = some (.int .u64 p.k) ∧ wx.cell? ⟨ab, aoff + i * 3 + 1, none⟩ = some (.bool p.v.h) ∧ wx.cell? ⟨ab, aoff + i * 3 + 2, none⟩ = some (.int .u64 p.v.b)) := fun wx h => ⟨by rw [h.cell (p := ⟨ab, aoff + i * 3, none⟩) (cell_lt HPC.out.1)]; exact HPC.out.1, by rw [h.cell (p := ⟨ab, aoff + i * 3 + 1, none⟩) (cell_lt HPC.out.2.1)]; exact HPC.out.2.1, by rw [h.cell (p := ⟨ab, aoff + i * 3 + 2, none⟩) (cell_lt HPC.out.2.2)]; exact HPC.out.2.2⟩
        have HSG : Hid (∀ w5 w6, Below wr.heap.size wr w5 → (w5.alloc (Obj.cells #[.int .u64 p.k, .bool V.h, .int .u64 V.b] 38)).grownBy w6 u8.ownBlock → w6.cell? ⟨ab, aoff + i * 3, none⟩ = some (.int .u64 p.k) ∧ w6.cell? ⟨ab, aoff + i * 3 + 1, none⟩ = some (.bool p.v.h) ∧ w6.cell? ⟨ab, aoff + i * 3 + 2, none⟩ = some (.int .u64 p.v.b)) := fun w5 w6 h hg => by
          obtain ⟨s0, s1, s2⟩ := HSF.out _ (below_trans h (below_alloc _ _))
          have hne : ∀ m, u8.ownBlock = some m → ab ≠ m := fun m hm => by have := (HOW.out.lt m hm).1; have := HAL.out; have := HW3.out; omega
          exact ⟨cell_own s0 hg hne, cell_own s1 hg hne, cell_own s2 hg hne⟩
        refine wp_region_noPanic ?_
        have hSd : Below wr.heap.size wr wz.drew := below_trans HZ.out (below_drw _)
        refine wp_region_held_drew (S := fun wx => wx.cell? ⟨ab, aoff + i * 3, none⟩ = some (.int .u64 p.k) ∧ wx.cell? ⟨ab, aoff + i * 3 + 1, none⟩ = some (.bool p.v.h) ∧ wx.cell? ⟨ab, aoff + i * 3 + 2, none⟩ = some (.int .u64 p.v.b)) (by kernel_rfl) ?_ (fun hHeld => ?_)
        · exact HSF.out _ hSd
        refine wpAnyH_take (i := 0) (oi := ⟨some 82, _, _, _, _, _⟩) (v := ?_) rfl (by kernel_rfl) (by kernel_rfl) (by kernel_rfl) (fun _ _ _ h => h) (Or.inl ⟨by rfl, ?_⟩) (by assumption) ?_
        rotate_left
        · intro w hSw; (try dsimp only at hSw); obtain ⟨s0, s1, s2⟩ := hSw; go_simp; all_goals (with_reducible rfl)
        try simp only [Act.put, List.setIfInBounds_toArray, List.set_cons_zero, List.set_cons_succ]
        refine wpAnyH_take (i := 1) (oi := ⟨some 83, _, _, _, _, _⟩) (v := ?_) rfl (by kernel_rfl) (by kernel_rfl) (by kernel_rfl) (fun _ _ _ h => h) (Or.inl ⟨by rfl, ?_⟩) (by assumption) ?_
        rotate_left
        · intro w hSw; (try dsimp only at hSw); obtain ⟨s0, s1, s2⟩ := hSw; go_simp; all_goals (with_reducible rfl)
        try simp only [Act.put, List.setIfInBounds_toArray, List.set_cons_zero, List.set_cons_succ]
        refine wpAnyH_take (i := 2) (oi := ⟨some 84, _, _, _, _, _⟩) (v := ?_) rfl (by kernel_rfl) (by kernel_rfl) (by kernel_rfl) (fun _ _ _ h => h) (Or.inl ⟨by rfl, ?_⟩) (by assumption) ?_
        rotate_left
        · intro w hSw; (try dsimp only at hSw); obtain ⟨s0, s1, s2⟩ := hSw; go_simp; all_goals (with_reducible rfl)
        try simp only [Act.put, List.setIfInBounds_toArray, List.set_cons_zero, List.set_cons_succ]
        refine wpAnyH_take (i := 3) (oi := ⟨some 85, _, _, _, _, _⟩) (v := ?_) rfl (by kernel_rfl) (by kernel_rfl) (by kernel_rfl) (fun _ _ _ h => h) (Or.inl ⟨by rfl, ?_⟩) (by assumption) ?_
        rotate_left
        · intro w hSw; (try dsimp only at hSw); obtain ⟨s0, s1, s2⟩ := hSw; go_simp; all_goals (with_reducible rfl)
        try simp only [Act.put, List.setIfInBounds_toArray, List.set_cons_zero, List.set_cons_succ]
        refine wpAnyH_take (i := 4) (oi := ⟨some 86, _, _, _, _, _⟩) (v := ?_) rfl (by kernel_rfl) (by kernel_rfl) (by kernel_rfl) (fun _ _ _ h => h) (Or.inl ⟨by rfl, ?_⟩) (by assumption) ?_
        rotate_left
        · intro w hSw; (try dsimp only at hSw); obtain ⟨s0, s1, s2⟩ := hSw; go_simp; all_goals (with_reducible rfl)
        try simp only [Act.put, List.setIfInBounds_toArray, List.set_cons_zero, List.set_cons_succ]
        refine wpAnyH_take (i := 5) (oi := ⟨some 87, _, _, _, _, _⟩) (v := ?_) rfl (by kernel_rfl) (by kernel_rfl) (by kernel_rfl) (fun _ _ _ h => h) (Or.inl ⟨by rfl, ?_⟩) (by assumption) ?_
        rotate_left
        · intro w hSw; (try dsimp only at hSw); obtain ⟨s0, s1, s2⟩ := hSw; go_simp; all_goals (with_reducible rfl)
        try simp only [Act.put, List.setIfInBounds_toArray, List.set_cons_zero, List.set_cons_succ]
        refine wpAnyH_take (i := 6) (oi := ⟨some 88, _, _, _, _, _⟩) (v := ?_) rfl (by kernel_rfl) (by kernel_rfl) (by kernel_rfl) (fun _ _ _ h => h) (Or.inl ⟨by rfl, ?_⟩) (by assumption) ?_
        rotate_left
        · intro w hSw; (try dsimp only at hSw); obtain ⟨s0, s1, s2⟩ := hSw; go_simp; all_goals (with_reducible rfl)
        try simp only [Act.put, List.setIfInBounds_toArray, List.set_cons_zero, List.set_cons_succ]
        refine wpAnyH_take (i := 7) (oi := ⟨some 89, _, _, _, _, _⟩) (v := ?_) rfl (by kernel_rfl) (by kernel_rfl) (by kernel_rfl) (fun _ _ _ h => h) (Or.inl ⟨by rfl, ?_⟩) (by assumption) ?_
        rotate_left
        · intro w hSw; (try dsimp only at hSw); obtain ⟨s0, s1, s2⟩ := hSw; go_simp; all_goals (with_reducible rfl)
        try simp only [Act.put, List.setIfInBounds_toArray, List.set_cons_zero, List.set_cons_succ]
        refine wpAnyH_take (i := 8) (oi := ⟨some 90, _, _, _, _, _⟩) (v := ?_) rfl (by kernel_rfl) (by kernel_rfl) (by kernel_rfl) (fun _ _ _ h => h) (Or.inl ⟨by rfl, ?_⟩) (by assumption) ?_
        rotate_left
        · intro w hSw; (try dsimp only at hSw); obtain ⟨s0, s1, s2⟩ := hSw; go_simp; all_goals (with_reducible rfl)
        try simp only [Act.put, List.setIfInBounds_toArray, List.set_cons_zero, List.set_cons_succ]
        refine wpAnyH_take (i := 9) (oi := ⟨some 91, _, _, _, _, _⟩) (v := ?_) rfl (by kernel_rfl) (by kernel_rfl) (by kernel_rfl) (fun _ _ _ h => h) (Or.inl ⟨by rfl, ?_⟩) (by assumption) ?_
        rotate_left
        · intro w hSw; (try dsimp only at hSw); obtain ⟨s0, s1, s2⟩ := hSw; go_simp; all_goals (with_reducible rfl)
        try simp only [Act.put, List.setIfInBounds_toArray, List.set_cons_zero, List.set_cons_succ]
        refine wpAnyH_take (i := 10) (oi := ⟨some 92, _, _, _, _, _⟩) (v := ?_) rfl (by kernel_rfl) (by kernel_rfl) (by kernel_rfl) (fun _ _ _ h => h) (Or.inl ⟨by rfl, ?_⟩) (by assumption) ?_
        rotate_left
        · intro w hSw; (try dsimp only at hSw); obtain ⟨s0, s1, s2⟩ := hSw; go_simp; all_goals (with_reducible rfl)
        try simp only [Act.put, List.setIfInBounds_toArray, List.set_cons_zero, List.set_cons_succ]
        refine wpAnyH_take (i := 11) (oi := ⟨some 93, _, _, _, _, _⟩) (v := ?_) rfl (by kernel_rfl) (by kernel_rfl) (by kernel_rfl) (fun _ _ _ h => h) (Or.inl ⟨by rfl, ?_⟩) (by assumption) ?_
        rotate_left
        · intro w hSw; (try dsimp only at hSw); obtain ⟨s0, s1, s2⟩ := hSw; go_simp; all_goals (with_reducible rfl)
        try simp only [Act.put, List.setIfInBounds_toArray, List.set_cons_zero, List.set_cons_succ]
        refine wpAnyH_ready (rs := [12]) (by kernel_rfl) (by simp) ?_
        refine AllReadyH.cons (o := ⟨some 94, _, _, _, _, _⟩) rfl (fun K hK => ?_) AllReadyH.nil
        go_simp
        refine (rfit_walk kind HPO.out.2 _).mono ?_
        rw [HV.out]
        rintro e w5 ⟨rfl, hB5⟩
        have hS5 : Below wr.heap.size wr w5 := below_trans hSd hB5
        clear hB5
        go_simp
        refine hK.out _ _ ?_ (fun hHeld => ?_)
        · exact HSF.out _ hS5
        clear hK K
        try simp only [Act.put, List.setIfInBounds_toArray, List.set_cons_zero, List.set_cons_succ]
        refine wpAnyH_take (i := 13) (oi := ⟨some 95, _, _, _, _, _⟩) (v := ?_) rfl (by kernel_rfl) (by kernel_rfl) (by kernel_rfl) (fun _ _ _ h => h) (Or.inl ⟨by rfl, ?_⟩) (by assumption) ?_
        rotate_left
        · intro w hSw; (try dsimp only at hSw); obtain ⟨s0, s1, s2⟩ := hSw; go_simp; all_goals (with_reducible rfl)
        try simp only [Act.put, List.setIfInBounds_toArray, List.set_cons_zero, List.set_cons_succ]
        refine wpAnyH_ready (rs := [14]) (by kernel_rfl) (by simp) ?_
        refine AllReadyH.cons (o := ⟨some 96, _, _, _, _, _⟩) rfl (fun K hK => ?_) AllReadyH.nil
        go_simp
        refine hK.out _ _ ?_ (fun hHeld => ?_)
        · exact HSF.out _ (below_trans hS5 (below_alloc _ _))
        clear hK K
        try simp only [Act.put, List.setIfInBounds_toArray, List.set_cons_zero, List.set_cons_succ]
        refine wpAnyH_ready (rs := [15]) (by kernel_rfl) (by simp) ?_
        refine AllReadyH.cons (o := ⟨some 97, _, _, _, _, _⟩) rfl (fun K hK => ?_) AllReadyH.nil
        refine if_wanted rfl ?_
        obtain ⟨v', w6, hrun, hown6, hgrow6⟩ := ra_app (k := p.k) (V := V) HI0.out HI1.out HI2.out HI3.out HOW.out hS5 HTB.out HBS.out
        refine wp_app_run (.tmp 82) (.tmp 96) 22 rfl _ _ rfl rfl hrun ?_
        have R' := ra_step (iv := .int .i64 ((i : Int) + 1)) (jv := .int .i64 (j : Int)) HMR.out hia hjb (by simp) (by simp) (by omega) HOW.out hS5 hgrow6 hown6 HINV.out HTL.out HB.out HW3.out HBS.out
        have hS6 := HSG.out _ _ hS5 hgrow6
        clear hrun hown6 hgrow6
        refine hK.out _ _ ?_ (fun hHeld => ?_)
        · exact hS6
        clear hK K
        try simp only [Act.put, List.setIfInBounds_toArray, List.set_cons_zero, List.set_cons_succ]
        refine wpAnyH_take (i := 16) (oi := ⟨some 8, _, _, _, _, _⟩) (v := ?_) rfl (by kernel_rfl) (by kernel_rfl) (by kernel_rfl) (fun _ _ _ h => h) (Or.inl ⟨by rfl, ?_⟩) (by assumption) ?_
        rotate_left
        · intro w hSw; (try dsimp only at hSw); obtain ⟨s0, s1, s2⟩ := hSw; go_simp; all_goals (with_reducible rfl)
        try simp only [Act.put, List.setIfInBounds_toArray, List.set_cons_zero, List.set_cons_succ]
        refine wpAnyH_done (by kernel_rfl) ?_ _
        refine NoPanic.normal ?_
        go_wp2_with fail
        go_roundw
        case rel => exact R'
        case measure => simp [intOf]; omega
      · have hjl : j < b.length := by omega
        obtain ⟨bb, boff, rfl, b0, b1, b2⟩ := HBB.out.below HB.out j hjl
        obtain ⟨q, hqe⟩ : ∃ q, q = b[j] := ⟨_, rfl⟩
        rw [← hqe] at b0 b1 b2
        have HQ : Hid (q = b[j]) := hqe
        have HQO : Hid q.ok := by show q.ok; rw [hqe]; exact HOB.out _ (List.getElem_mem hjl)
        have HQC : Hid (wr.cell? ⟨bb, boff + j * 3, none⟩ = some (.int .u64 q.k) ∧ wr.cell? ⟨bb, boff + j * 3 + 1, none⟩ = some (.bool q.v.h) ∧ wr.cell? ⟨bb, boff + j * 3 + 2, none⟩ = some (.int .u64 q.v.b)) := ⟨b0, b1, b2⟩
        have HBL : Hid (bb < w.heap.size) := by
          obtain ⟨b3, off3, e3, q3, _⟩ := HBB.out j hjl
          cases e3
          exact cell_lt q3
        clear hqe
        have hce : ((j : Int) == (b.length : Int)) = false := by simp; omega
        have hcj : (j : Int) < (b.length : Int) := by omega
        by_cases hia' : i = a.length
        · have HMR : Hid (mrg kind (a.drop i) (b.drop j) = ⟨q.k, fitV kind q.v⟩ :: mrg kind (a.drop i) (b.drop (j + 1))) := by show _ = _; rw [HQ.out]; exact end_mrg hjl (by omega)
          have hcl : ¬ ((i : Int) < (a.length : Int)) := by omega
          have hcn : ¬ (i < a.length) := by omega
          have hcf : ((i : Int) == (a.length : Int)) = true := by simp; omega
          clear b0 b1 b2 hia'
          go_wp2_with fail
          go_quiet (fail)
          go_wp2_with fail
          go_quiet (fail)
          go_wp2_with fail
          clear hcl hcn hcf hce hcj
          generalize hgz : (wr.drewN _).drewN _ = wz
          have HZ : Hid (Below wr.heap.size wr wz) := by show Below _ _ _; rw [← hgz]; exact below_trans (below_drewN _ _) (below_drewN _ _)
          clear hgz
          obtain ⟨V, hV⟩ : ∃ V, V = fitV kind q.v := ⟨_, rfl⟩
          have HV : Hid (fitV kind q.v = V) := hV.symm
          rw [← hV] at HMR
          clear hV
          have HSF : Hid (∀ wx, Below wr.heap.size wr wx → wx.cell? ⟨bb, boff + j * 3, none⟩ = some (.int .u64 q.k) ∧ wx.cell? ⟨bb, boff + j * 3 + 1, none⟩ = some (.bool q.v.h) ∧ wx.cell? ⟨bb, boff + j * 3 + 2, none⟩ = some (.int .u64 q.v.b)) := fun wx h => ⟨by rw [h.cell (p := ⟨bb, boff + j * 3, none⟩) (cell_lt HQC.out.1)]; exact HQC.out.1, by rw [h.cell (p := ⟨bb, boff + j * 3 + 1, none⟩) (cell_lt HQC.out.2.1)]; exact HQC.out.2.1, by rw [h.cell (p := ⟨bb, boff + j * 3 + 2, none⟩) (cell_lt HQC.out.2.2)]; exact HQC.out.2.2⟩
          have HSG : Hid (∀ w5 w6, Below wr.heap.size wr w5 → (w5.alloc (Obj.cells #[.int .u64 q.k, .bool V.h, .int .u64 V.b] 38)).grownBy w6 u8.ownBlock → w6.cell? ⟨bb, boff + j * 3, none⟩ = some (.int .u64 q.k) ∧ w6.cell? ⟨bb, boff + j * 3 + 1, none⟩ = some (.bool q.v.h) ∧ w6.cell? ⟨bb, boff + j * 3 + 2, none⟩ = some (.int .u64 q.v.b)) := fun w5 w6 h hg => by
            obtain ⟨s0, s1, s2⟩ := HSF.out _ (below_trans h (below_alloc _ _))
            have hnf : ∀ m, u8.ownBlock = some m → bb ≠ m := fun m hm => by have := (HOW.out.lt m hm).1; have := HBL.out; have := HW3.out; omega
            exact ⟨cell_own s0 hg hnf, cell_own s1 hg hnf, cell_own s2 hg hnf⟩
          refine wp_region_noPanic ?_
          have hSd : Below wr.heap.size wr wz.drew := below_trans HZ.out (below_drw _)
          refine wp_region_held_drew (S := fun wx => wx.cell? ⟨bb, boff + j * 3, none⟩ = some (.int .u64 q.k) ∧ wx.cell? ⟨bb, boff + j * 3 + 1, none⟩ = some (.bool q.v.h) ∧ wx.cell? ⟨bb, boff + j * 3 + 2, none⟩ = some (.int .u64 q.v.b)) (by kernel_rfl) ?_ (fun hHeld => ?_)
          · exact HSF.out _ hSd
          refine wpAnyH_take (i := 0) (oi := ⟨some 118, _, _, _, _, _⟩) (v := ?_) rfl (by kernel_rfl) (by kernel_rfl) (by kernel_rfl) (fun _ _ _ h => h) (Or.inl ⟨by rfl, ?_⟩) (by assumption) ?_
          rotate_left
          · intro w hSw; (try dsimp only at hSw); obtain ⟨s0, s1, s2⟩ := hSw; go_simp; all_goals (with_reducible rfl)
          try simp only [Act.put, List.setIfInBounds_toArray, List.set_cons_zero, List.set_cons_succ]
          refine wpAnyH_take (i := 1) (oi := ⟨some 119, _, _, _, _, _⟩) (v := ?_) rfl (by kernel_rfl) (by kernel_rfl) (by kernel_rfl) (fun _ _ _ h => h) (Or.inl ⟨by rfl, ?_⟩) (by assumption) ?_
          rotate_left
          · intro w hSw; (try dsimp only at hSw); obtain ⟨s0, s1, s2⟩ := hSw; go_simp; all_goals (with_reducible rfl)
          try simp only [Act.put, List.setIfInBounds_toArray, List.set_cons_zero, List.set_cons_succ]
          refine wpAnyH_take (i := 2) (oi := ⟨some 120, _, _, _, _, _⟩) (v := ?_) rfl (by kernel_rfl) (by kernel_rfl) (by kernel_rfl) (fun _ _ _ h => h) (Or.inl ⟨by rfl, ?_⟩) (by assumption) ?_
          rotate_left
          · intro w hSw; (try dsimp only at hSw); obtain ⟨s0, s1, s2⟩ := hSw; go_simp; all_goals (with_reducible rfl)
          try simp only [Act.put, List.setIfInBounds_toArray, List.set_cons_zero, List.set_cons_succ]
          refine wpAnyH_take (i := 3) (oi := ⟨some 121, _, _, _, _, _⟩) (v := ?_) rfl (by kernel_rfl) (by kernel_rfl) (by kernel_rfl) (fun _ _ _ h => h) (Or.inl ⟨by rfl, ?_⟩) (by assumption) ?_
          rotate_left
          · intro w hSw; (try dsimp only at hSw); obtain ⟨s0, s1, s2⟩ := hSw; go_simp; all_goals (with_reducible rfl)
          try simp only [Act.put, List.setIfInBounds_toArray, List.set_cons_zero, List.set_cons_succ]
          refine wpAnyH_take (i := 4) (oi := ⟨some 122, _, _, _, _, _⟩) (v := ?_) rfl (by kernel_rfl) (by kernel_rfl) (by kernel_rfl) (fun _ _ _ h => h) (Or.inl ⟨by rfl, ?_⟩) (by assumption) ?_
          rotate_left
          · intro w hSw; (try dsimp only at hSw); obtain ⟨s0, s1, s2⟩ := hSw; go_simp; all_goals (with_reducible rfl)
          try simp only [Act.put, List.setIfInBounds_toArray, List.set_cons_zero, List.set_cons_succ]
          refine wpAnyH_take (i := 5) (oi := ⟨some 123, _, _, _, _, _⟩) (v := ?_) rfl (by kernel_rfl) (by kernel_rfl) (by kernel_rfl) (fun _ _ _ h => h) (Or.inl ⟨by rfl, ?_⟩) (by assumption) ?_
          rotate_left
          · intro w hSw; (try dsimp only at hSw); obtain ⟨s0, s1, s2⟩ := hSw; go_simp; all_goals (with_reducible rfl)
          try simp only [Act.put, List.setIfInBounds_toArray, List.set_cons_zero, List.set_cons_succ]
          refine wpAnyH_take (i := 6) (oi := ⟨some 124, _, _, _, _, _⟩) (v := ?_) rfl (by kernel_rfl) (by kernel_rfl) (by kernel_rfl) (fun _ _ _ h => h) (Or.inl ⟨by rfl, ?_⟩) (by assumption) ?_
          rotate_left
          · intro w hSw; (try dsimp only at hSw); obtain ⟨s0, s1, s2⟩ := hSw; go_simp; all_goals (with_reducible rfl)
          try simp only [Act.put, List.setIfInBounds_toArray, List.set_cons_zero, List.set_cons_succ]
          refine wpAnyH_take (i := 7) (oi := ⟨some 125, _, _, _, _, _⟩) (v := ?_) rfl (by kernel_rfl) (by kernel_rfl) (by kernel_rfl) (fun _ _ _ h => h) (Or.inl ⟨by rfl, ?_⟩) (by assumption) ?_
          rotate_left
          · intro w hSw; (try dsimp only at hSw); obtain ⟨s0, s1, s2⟩ := hSw; go_simp; all_goals (with_reducible rfl)
          try simp only [Act.put, List.setIfInBounds_toArray, List.set_cons_zero, List.set_cons_succ]
          refine wpAnyH_take (i := 8) (oi := ⟨some 126, _, _, _, _, _⟩) (v := ?_) rfl (by kernel_rfl) (by kernel_rfl) (by kernel_rfl) (fun _ _ _ h => h) (Or.inl ⟨by rfl, ?_⟩) (by assumption) ?_
          rotate_left
          · intro w hSw; (try dsimp only at hSw); obtain ⟨s0, s1, s2⟩ := hSw; go_simp; all_goals (with_reducible rfl)
          try simp only [Act.put, List.setIfInBounds_toArray, List.set_cons_zero, List.set_cons_succ]
          refine wpAnyH_take (i := 9) (oi := ⟨some 127, _, _, _, _, _⟩) (v := ?_) rfl (by kernel_rfl) (by kernel_rfl) (by kernel_rfl) (fun _ _ _ h => h) (Or.inl ⟨by rfl, ?_⟩) (by assumption) ?_
          rotate_left
          · intro w hSw; (try dsimp only at hSw); obtain ⟨s0, s1, s2⟩ := hSw; go_simp; all_goals (with_reducible rfl)
          try simp only [Act.put, List.setIfInBounds_toArray, List.set_cons_zero, List.set_cons_succ]
          refine wpAnyH_take (i := 10) (oi := ⟨some 128, _, _, _, _, _⟩) (v := ?_) rfl (by kernel_rfl) (by kernel_rfl) (by kernel_rfl) (fun _ _ _ h => h) (Or.inl ⟨by rfl, ?_⟩) (by assumption) ?_
          rotate_left
          · intro w hSw; (try dsimp only at hSw); obtain ⟨s0, s1, s2⟩ := hSw; go_simp; all_goals (with_reducible rfl)
          try simp only [Act.put, List.setIfInBounds_toArray, List.set_cons_zero, List.set_cons_succ]
          refine wpAnyH_take (i := 11) (oi := ⟨some 129, _, _, _, _, _⟩) (v := ?_) rfl (by kernel_rfl) (by kernel_rfl) (by kernel_rfl) (fun _ _ _ h => h) (Or.inl ⟨by rfl, ?_⟩) (by assumption) ?_
          rotate_left
          · intro w hSw; (try dsimp only at hSw); obtain ⟨s0, s1, s2⟩ := hSw; go_simp; all_goals (with_reducible rfl)
          try simp only [Act.put, List.setIfInBounds_toArray, List.set_cons_zero, List.set_cons_succ]
          refine wpAnyH_ready (rs := [12]) (by kernel_rfl) (by simp) ?_
          refine AllReadyH.cons (o := ⟨some 130, _, _, _, _, _⟩) rfl (fun K hK => ?_) AllReadyH.nil
          go_simp
          refine (rfit_walk kind HQO.out.2 _).mono ?_
          rw [HV.out]
          rintro e w5 ⟨rfl, hB5⟩
          have hS5 : Below wr.heap.size wr w5 := below_trans hSd hB5
          clear hB5
          go_simp
          refine hK.out _ _ ?_ (fun hHeld => ?_)
          · exact HSF.out _ hS5
          clear hK K
          try simp only [Act.put, List.setIfInBounds_toArray, List.set_cons_zero, List.set_cons_succ]
          refine wpAnyH_take (i := 13) (oi := ⟨some 131, _, _, _, _, _⟩) (v := ?_) rfl (by kernel_rfl) (by kernel_rfl) (by kernel_rfl) (fun _ _ _ h => h) (Or.inl ⟨by rfl, ?_⟩) (by assumption) ?_
          rotate_left
          · intro w hSw; (try dsimp only at hSw); obtain ⟨s0, s1, s2⟩ := hSw; go_simp; all_goals (with_reducible rfl)
          try simp only [Act.put, List.setIfInBounds_toArray, List.set_cons_zero, List.set_cons_succ]
          refine wpAnyH_ready (rs := [14]) (by kernel_rfl) (by simp) ?_
          refine AllReadyH.cons (o := ⟨some 132, _, _, _, _, _⟩) rfl (fun K hK => ?_) AllReadyH.nil
          go_simp
          refine hK.out _ _ ?_ (fun hHeld => ?_)
          · exact HSF.out _ (below_trans hS5 (below_alloc _ _))
          clear hK K
          try simp only [Act.put, List.setIfInBounds_toArray, List.set_cons_zero, List.set_cons_succ]
          refine wpAnyH_ready (rs := [15]) (by kernel_rfl) (by simp) ?_
          refine AllReadyH.cons (o := ⟨some 133, _, _, _, _, _⟩) rfl (fun K hK => ?_) AllReadyH.nil
          refine if_wanted rfl ?_
          obtain ⟨v', w6, hrun, hown6, hgrow6⟩ := ra_app (k := q.k) (V := V) HI0.out HI1.out HI2.out HI3.out HOW.out hS5 HTB.out HBS.out
          refine wp_app_run (.tmp 118) (.tmp 132) 22 rfl _ _ rfl rfl hrun ?_
          have R' := ra_step (iv := .int .i64 (i : Int)) (jv := .int .i64 ((j : Int) + 1)) HMR.out hi hjl (by simp) (by simp) (by omega) HOW.out hS5 hgrow6 hown6 HINV.out HTL.out HB.out HW3.out HBS.out
          have hS6 := HSG.out _ _ hS5 hgrow6
          clear hrun hown6 hgrow6
          refine hK.out _ _ ?_ (fun hHeld => ?_)
          · exact hS6
          clear hK K
          try simp only [Act.put, List.setIfInBounds_toArray, List.set_cons_zero, List.set_cons_succ]
          refine wpAnyH_take (i := 16) (oi := ⟨some 8, _, _, _, _, _⟩) (v := ?_) rfl (by kernel_rfl) (by kernel_rfl) (by kernel_rfl) (fun _ _ _ h => h) (Or.inl ⟨by rfl, ?_⟩) (by assumption) ?_
          rotate_left
          · intro w hSw; (try dsimp only at hSw); obtain ⟨s0, s1, s2⟩ := hSw; go_simp; all_goals (with_reducible rfl)
          try simp only [Act.put, List.setIfInBounds_toArray, List.set_cons_zero, List.set_cons_succ]
          refine wpAnyH_done (by kernel_rfl) ?_ _
          refine NoPanic.normal ?_
          go_wp2_with fail
          go_roundw
          case rel => exact R'
          case measure => simp [intOf]; omega
        · have hia : i < a.length := by omega
          obtain ⟨ab, aoff, rfl, a0, a1, a2⟩ := HA.out.below HB.out i hia
          obtain ⟨p, hpe⟩ : ∃ p, p = a[i] := ⟨_, rfl⟩
          rw [← hpe] at a0 a1 a2
          have HP : Hid (p = a[i]) := hpe
          have HPO : Hid p.ok := by show p.ok; rw [hpe]; exact HOA.out _ (List.getElem_mem hia)
          have HPC : Hid (wr.cell? ⟨ab, aoff + i * 3, none⟩ = some (.int .u64 p.k) ∧ wr.cell? ⟨ab, aoff + i * 3 + 1, none⟩ = some (.bool p.v.h) ∧ wr.cell? ⟨ab, aoff + i * 3 + 2, none⟩ = some (.int .u64 p.v.b)) := ⟨a0, a1, a2⟩
          have HAL : Hid (ab < w.heap.size) := by
            obtain ⟨b3, off3, e3, q3, _⟩ := HA.out i hia
            cases e3
            exact cell_lt q3
          clear hpe
          have hcl : (i : Int) < (a.length : Int) := by omega
          have hcf : ((i : Int) == (a.length : Int)) = false := by simp; omega
          clear hia'
          rcases Nat.lt_trichotomy p.k q.k with hlt | heq | hgt
          · have HMR : Hid (mrg kind (a.drop i) (b.drop j) = ⟨p.k, fitV kind p.v⟩ :: mrg kind (a.drop (i + 1)) (b.drop j)) := by show _ = _; rw [HP.out]; exact drop_lt hia hjl (by rw [← HP.out, ← HQ.out]; exact hlt)
            have hjb : j ≤ b.length := hj
            have hkl : (p.k : Int) < (q.k : Int) := by omega
            clear hlt
            go_wp2_with fail
            go_quiet (fail)
            go_wp2_with fail
            clear a0 a1 a2 b0 b1 b2 hcl hcf hce hcj hkl
            generalize hgz : wr.drewN _ = wz
            have HZ : Hid (Below wr.heap.size wr wz) := by show Below _ _ _; rw [← hgz]; exact below_drewN _ _
            clear hgz
            obtain ⟨V, hV⟩ : ∃ V, V = fitV kind p.v := ⟨_, rfl⟩
            have HV : Hid (fitV kind p.v = V) := hV.symm
            rw [← hV] at HMR
            clear hV
            have HSF : Hid (∀ wx, Below wr.heap.size wr wx → wx.cell? ⟨ab, aoff + i * 3, none⟩ = some (.int .u64 p.k) ∧ wx.cell? ⟨ab, aoff + i * 3 + 1, none⟩ = some (.bool p.v.h) ∧ wx.cell? ⟨ab, aoff + i * 3 + 2, none⟩ = some (.int .u64 p.v.b)) := fun wx h => ⟨by rw [h.cell (p := ⟨ab, aoff + i * 3, none⟩) (cell_lt HPC.out.1)]; exact HPC.out.1, by rw [h.cell (p := ⟨ab, aoff + i * 3 + 1, none⟩) (cell_lt HPC.out.2.1)]; exact HPC.out.2.1, by rw [h.cell (p := ⟨ab, aoff + i * 3 + 2, none⟩) (cell_lt HPC.out.2.2)]; exact HPC.out.2.2⟩
            have HSG : Hid (∀ w5 w6, Below wr.heap.size wr w5 → (w5.alloc (Obj.cells #[.int .u64 p.k, .bool V.h, .int .u64 V.b] 38)).grownBy w6 u8.ownBlock → w6.cell? ⟨ab, aoff + i * 3, none⟩ = some (.int .u64 p.k) ∧ w6.cell? ⟨ab, aoff + i * 3 + 1, none⟩ = some (.bool p.v.h) ∧ w6.cell? ⟨ab, aoff + i * 3 + 2, none⟩ = some (.int .u64 p.v.b)) := fun w5 w6 h hg => by
              obtain ⟨s0, s1, s2⟩ := HSF.out _ (below_trans h (below_alloc _ _))
              have hne : ∀ m, u8.ownBlock = some m → ab ≠ m := fun m hm => by have := (HOW.out.lt m hm).1; have := HAL.out; have := HW3.out; omega
              exact ⟨cell_own s0 hg hne, cell_own s1 hg hne, cell_own s2 hg hne⟩
            refine wp_region_noPanic ?_
            have hSd : Below wr.heap.size wr wz.drew := below_trans HZ.out (below_drw _)
            refine wp_region_held_drew (S := fun wx => wx.cell? ⟨ab, aoff + i * 3, none⟩ = some (.int .u64 p.k) ∧ wx.cell? ⟨ab, aoff + i * 3 + 1, none⟩ = some (.bool p.v.h) ∧ wx.cell? ⟨ab, aoff + i * 3 + 2, none⟩ = some (.int .u64 p.v.b)) (by kernel_rfl) ?_ (fun hHeld => ?_)
            · exact HSF.out _ hSd
            refine wpAnyH_take (i := 0) (oi := ⟨some 82, _, _, _, _, _⟩) (v := ?_) rfl (by kernel_rfl) (by kernel_rfl) (by kernel_rfl) (fun _ _ _ h => h) (Or.inl ⟨by rfl, ?_⟩) (by assumption) ?_
            rotate_left
            · intro w hSw; (try dsimp only at hSw); obtain ⟨s0, s1, s2⟩ := hSw; go_simp; all_goals (with_reducible rfl)
            try simp only [Act.put, List.setIfInBounds_toArray, List.set_cons_zero, List.set_cons_succ]
            refine wpAnyH_take (i := 1) (oi := ⟨some 83, _, _, _, _, _⟩) (v := ?_) rfl (by kernel_rfl) (by kernel_rfl) (by kernel_rfl) (fun _ _ _ h => h) (Or.inl ⟨by rfl, ?_⟩) (by assumption) ?_
            rotate_left
            · intro w hSw; (try dsimp only at hSw); obtain ⟨s0, s1, s2⟩ := hSw; go_simp; all_goals (with_reducible rfl)
            try simp only [Act.put, List.setIfInBounds_toArray, List.set_cons_zero, List.set_cons_succ]
            refine wpAnyH_take (i := 2) (oi := ⟨some 84, _, _, _, _, _⟩) (v := ?_) rfl (by kernel_rfl) (by kernel_rfl) (by kernel_rfl) (fun _ _ _ h => h) (Or.inl ⟨by rfl, ?_⟩) (by assumption) ?_
            rotate_left
            · intro w hSw; (try dsimp only at hSw); obtain ⟨s0, s1, s2⟩ := hSw; go_simp; all_goals (with_reducible rfl)
            try simp only [Act.put, List.setIfInBounds_toArray, List.set_cons_zero, List.set_cons_succ]
            refine wpAnyH_take (i := 3) (oi := ⟨some 85, _, _, _, _, _⟩) (v := ?_) rfl (by kernel_rfl) (by kernel_rfl) (by kernel_rfl) (fun _ _ _ h => h) (Or.inl ⟨by rfl, ?_⟩) (by assumption) ?_
            rotate_left
            · intro w hSw; (try dsimp only at hSw); obtain ⟨s0, s1, s2⟩ := hSw; go_simp; all_goals (with_reducible rfl)
            try simp only [Act.put, List.setIfInBounds_toArray, List.set_cons_zero, List.set_cons_succ]
            refine wpAnyH_take (i := 4) (oi := ⟨some 86, _, _, _, _, _⟩) (v := ?_) rfl (by kernel_rfl) (by kernel_rfl) (by kernel_rfl) (fun _ _ _ h => h) (Or.inl ⟨by rfl, ?_⟩) (by assumption) ?_
            rotate_left
            · intro w hSw; (try dsimp only at hSw); obtain ⟨s0, s1, s2⟩ := hSw; go_simp; all_goals (with_reducible rfl)
            try simp only [Act.put, List.setIfInBounds_toArray, List.set_cons_zero, List.set_cons_succ]
            refine wpAnyH_take (i := 5) (oi := ⟨some 87, _, _, _, _, _⟩) (v := ?_) rfl (by kernel_rfl) (by kernel_rfl) (by kernel_rfl) (fun _ _ _ h => h) (Or.inl ⟨by rfl, ?_⟩) (by assumption) ?_
            rotate_left
            · intro w hSw; (try dsimp only at hSw); obtain ⟨s0, s1, s2⟩ := hSw; go_simp; all_goals (with_reducible rfl)
            try simp only [Act.put, List.setIfInBounds_toArray, List.set_cons_zero, List.set_cons_succ]
            refine wpAnyH_take (i := 6) (oi := ⟨some 88, _, _, _, _, _⟩) (v := ?_) rfl (by kernel_rfl) (by kernel_rfl) (by kernel_rfl) (fun _ _ _ h => h) (Or.inl ⟨by rfl, ?_⟩) (by assumption) ?_
            rotate_left
            · intro w hSw; (try dsimp only at hSw); obtain ⟨s0, s1, s2⟩ := hSw; go_simp; all_goals (with_reducible rfl)
            try simp only [Act.put, List.setIfInBounds_toArray, List.set_cons_zero, List.set_cons_succ]
            refine wpAnyH_take (i := 7) (oi := ⟨some 89, _, _, _, _, _⟩) (v := ?_) rfl (by kernel_rfl) (by kernel_rfl) (by kernel_rfl) (fun _ _ _ h => h) (Or.inl ⟨by rfl, ?_⟩) (by assumption) ?_
            rotate_left
            · intro w hSw; (try dsimp only at hSw); obtain ⟨s0, s1, s2⟩ := hSw; go_simp; all_goals (with_reducible rfl)
            try simp only [Act.put, List.setIfInBounds_toArray, List.set_cons_zero, List.set_cons_succ]
            refine wpAnyH_take (i := 8) (oi := ⟨some 90, _, _, _, _, _⟩) (v := ?_) rfl (by kernel_rfl) (by kernel_rfl) (by kernel_rfl) (fun _ _ _ h => h) (Or.inl ⟨by rfl, ?_⟩) (by assumption) ?_
            rotate_left
            · intro w hSw; (try dsimp only at hSw); obtain ⟨s0, s1, s2⟩ := hSw; go_simp; all_goals (with_reducible rfl)
            try simp only [Act.put, List.setIfInBounds_toArray, List.set_cons_zero, List.set_cons_succ]
            refine wpAnyH_take (i := 9) (oi := ⟨some 91, _, _, _, _, _⟩) (v := ?_) rfl (by kernel_rfl) (by kernel_rfl) (by kernel_rfl) (fun _ _ _ h => h) (Or.inl ⟨by rfl, ?_⟩) (by assumption) ?_
            rotate_left
            · intro w hSw; (try dsimp only at hSw); obtain ⟨s0, s1, s2⟩ := hSw; go_simp; all_goals (with_reducible rfl)
            try simp only [Act.put, List.setIfInBounds_toArray, List.set_cons_zero, List.set_cons_succ]
            refine wpAnyH_take (i := 10) (oi := ⟨some 92, _, _, _, _, _⟩) (v := ?_) rfl (by kernel_rfl) (by kernel_rfl) (by kernel_rfl) (fun _ _ _ h => h) (Or.inl ⟨by rfl, ?_⟩) (by assumption) ?_
            rotate_left
            · intro w hSw; (try dsimp only at hSw); obtain ⟨s0, s1, s2⟩ := hSw; go_simp; all_goals (with_reducible rfl)
            try simp only [Act.put, List.setIfInBounds_toArray, List.set_cons_zero, List.set_cons_succ]
            refine wpAnyH_take (i := 11) (oi := ⟨some 93, _, _, _, _, _⟩) (v := ?_) rfl (by kernel_rfl) (by kernel_rfl) (by kernel_rfl) (fun _ _ _ h => h) (Or.inl ⟨by rfl, ?_⟩) (by assumption) ?_
            rotate_left
            · intro w hSw; (try dsimp only at hSw); obtain ⟨s0, s1, s2⟩ := hSw; go_simp; all_goals (with_reducible rfl)
            try simp only [Act.put, List.setIfInBounds_toArray, List.set_cons_zero, List.set_cons_succ]
            refine wpAnyH_ready (rs := [12]) (by kernel_rfl) (by simp) ?_
            refine AllReadyH.cons (o := ⟨some 94, _, _, _, _, _⟩) rfl (fun K hK => ?_) AllReadyH.nil
            go_simp
            refine (rfit_walk kind HPO.out.2 _).mono ?_
            rw [HV.out]
            rintro e w5 ⟨rfl, hB5⟩
            have hS5 : Below wr.heap.size wr w5 := below_trans hSd hB5
            clear hB5
            go_simp
            refine hK.out _ _ ?_ (fun hHeld => ?_)
            · exact HSF.out _ hS5
            clear hK K
            try simp only [Act.put, List.setIfInBounds_toArray, List.set_cons_zero, List.set_cons_succ]
            refine wpAnyH_take (i := 13) (oi := ⟨some 95, _, _, _, _, _⟩) (v := ?_) rfl (by kernel_rfl) (by kernel_rfl) (by kernel_rfl) (fun _ _ _ h => h) (Or.inl ⟨by rfl, ?_⟩) (by assumption) ?_
            rotate_left
            · intro w hSw; (try dsimp only at hSw); obtain ⟨s0, s1, s2⟩ := hSw; go_simp; all_goals (with_reducible rfl)
            try simp only [Act.put, List.setIfInBounds_toArray, List.set_cons_zero, List.set_cons_succ]
            refine wpAnyH_ready (rs := [14]) (by kernel_rfl) (by simp) ?_
            refine AllReadyH.cons (o := ⟨some 96, _, _, _, _, _⟩) rfl (fun K hK => ?_) AllReadyH.nil
            go_simp
            refine hK.out _ _ ?_ (fun hHeld => ?_)
            · exact HSF.out _ (below_trans hS5 (below_alloc _ _))
            clear hK K
            try simp only [Act.put, List.setIfInBounds_toArray, List.set_cons_zero, List.set_cons_succ]
            refine wpAnyH_ready (rs := [15]) (by kernel_rfl) (by simp) ?_
            refine AllReadyH.cons (o := ⟨some 97, _, _, _, _, _⟩) rfl (fun K hK => ?_) AllReadyH.nil
            refine if_wanted rfl ?_
            obtain ⟨v', w6, hrun, hown6, hgrow6⟩ := ra_app (k := p.k) (V := V) HI0.out HI1.out HI2.out HI3.out HOW.out hS5 HTB.out HBS.out
            refine wp_app_run (.tmp 82) (.tmp 96) 22 rfl _ _ rfl rfl hrun ?_
            have R' := ra_step (iv := .int .i64 ((i : Int) + 1)) (jv := .int .i64 (j : Int)) HMR.out hia hjb (by simp) (by simp) (by omega) HOW.out hS5 hgrow6 hown6 HINV.out HTL.out HB.out HW3.out HBS.out
            have hS6 := HSG.out _ _ hS5 hgrow6
            clear hrun hown6 hgrow6
            refine hK.out _ _ ?_ (fun hHeld => ?_)
            · exact hS6
            clear hK K
            try simp only [Act.put, List.setIfInBounds_toArray, List.set_cons_zero, List.set_cons_succ]
            refine wpAnyH_take (i := 16) (oi := ⟨some 8, _, _, _, _, _⟩) (v := ?_) rfl (by kernel_rfl) (by kernel_rfl) (by kernel_rfl) (fun _ _ _ h => h) (Or.inl ⟨by rfl, ?_⟩) (by assumption) ?_
            rotate_left
            · intro w hSw; (try dsimp only at hSw); obtain ⟨s0, s1, s2⟩ := hSw; go_simp; all_goals (with_reducible rfl)
            try simp only [Act.put, List.setIfInBounds_toArray, List.set_cons_zero, List.set_cons_succ]
            refine wpAnyH_done (by kernel_rfl) ?_ _
            refine NoPanic.normal ?_
            go_wp2_with fail
            go_roundw
            case rel => exact R'
            case measure => simp [intOf]; omega
          · have HMR : Hid (mrg kind (a.drop i) (b.drop j) = ⟨p.k, mergeV kind p.v q.v⟩ :: mrg kind (a.drop (i + 1)) (b.drop (j + 1))) := by show _ = _; rw [HP.out, HQ.out]; exact drop_eq hia hjl (by rw [← HP.out, ← HQ.out]; exact heq)
            have hkl : ¬ ((p.k : Int) < (q.k : Int)) := by omega
            have hkg : ¬ ((q.k : Int) < (p.k : Int)) := by omega
            clear heq
            go_wp2_with fail
            go_quiet (fail)
            go_wp2_with fail
            go_quiet (fail)
            go_wp2_with fail
            clear a0 a1 a2 b0 b1 b2 hcl hcf hce hcj hkl hkg
            generalize hgz : (wr.drewN _).drewN _ = wz
            have HZ : Hid (Below wr.heap.size wr wz) := by show Below _ _ _; rw [← hgz]; exact below_trans (below_drewN _ _) (below_drewN _ _)
            clear hgz
            obtain ⟨V, hV⟩ : ∃ V, V = mergeV kind p.v q.v := ⟨_, rfl⟩
            have HV : Hid (mergeV kind p.v q.v = V) := hV.symm
            rw [← hV] at HMR
            clear hV
            have HSF : Hid (∀ wx, Below wr.heap.size wr wx → (wx.cell? ⟨ab, aoff + i * 3, none⟩ = some (.int .u64 p.k) ∧ wx.cell? ⟨ab, aoff + i * 3 + 1, none⟩ = some (.bool p.v.h) ∧ wx.cell? ⟨ab, aoff + i * 3 + 2, none⟩ = some (.int .u64 p.v.b)) ∧ (wx.cell? ⟨bb, boff + j * 3, none⟩ = some (.int .u64 q.k) ∧ wx.cell? ⟨bb, boff + j * 3 + 1, none⟩ = some (.bool q.v.h) ∧ wx.cell? ⟨bb, boff + j * 3 + 2, none⟩ = some (.int .u64 q.v.b))) := fun wx h => ⟨⟨by rw [h.cell (p := ⟨ab, aoff + i * 3, none⟩) (cell_lt HPC.out.1)]; exact HPC.out.1, by rw [h.cell (p := ⟨ab, aoff + i * 3 + 1, none⟩) (cell_lt HPC.out.2.1)]; exact HPC.out.2.1, by rw [h.cell (p := ⟨ab, aoff + i * 3 + 2, none⟩) (cell_lt HPC.out.2.2)]; exact HPC.out.2.2⟩, ⟨by rw [h.cell (p := ⟨bb, boff + j * 3, none⟩) (cell_lt HQC.out.1)]; exact HQC.out.1, by rw [h.cell (p := ⟨bb, boff + j * 3 + 1, none⟩) (cell_lt HQC.out.2.1)]; exact HQC.out.2.1, by rw [h.cell (p := ⟨bb, boff + j * 3 + 2, none⟩) (cell_lt HQC.out.2.2)]; exact HQC.out.2.2⟩⟩
            have HSG : Hid (∀ w5 w6, Below wr.heap.size wr w5 → (w5.alloc (Obj.cells #[.int .u64 p.k, .bool V.h, .int .u64 V.b] 38)).grownBy w6 u8.ownBlock → (w6.cell? ⟨ab, aoff + i * 3, none⟩ = some (.int .u64 p.k) ∧ w6.cell? ⟨ab, aoff + i * 3 + 1, none⟩ = some (.bool p.v.h) ∧ w6.cell? ⟨ab, aoff + i * 3 + 2, none⟩ = some (.int .u64 p.v.b)) ∧ (w6.cell? ⟨bb, boff + j * 3, none⟩ = some (.int .u64 q.k) ∧ w6.cell? ⟨bb, boff + j * 3 + 1, none⟩ = some (.bool q.v.h) ∧ w6.cell? ⟨bb, boff + j * 3 + 2, none⟩ = some (.int .u64 q.v.b))) := fun w5 w6 h hg => by
              obtain ⟨⟨s0, s1, s2⟩, t0, t1, t2⟩ := HSF.out _ (below_trans h (below_alloc _ _))
              have hne : ∀ m, u8.ownBlock = some m → ab ≠ m := fun m hm => by have := (HOW.out.lt m hm).1; have := HAL.out; have := HW3.out; omega
              have hnf : ∀ m, u8.ownBlock = some m → bb ≠ m := fun m hm => by have := (HOW.out.lt m hm).1; have := HBL.out; have := HW3.out; omega
              exact ⟨⟨cell_own s0 hg hne, cell_own s1 hg hne, cell_own s2 hg hne⟩, cell_own t0 hg hnf, cell_own t1 hg hnf, cell_own t2 hg hnf⟩
            refine wp_region_noPanic ?_
            have hSd : Below wr.heap.size wr wz.drew := below_trans HZ.out (below_drw _)
            refine wp_region_held_drew (S := fun wx => (wx.cell? ⟨ab, aoff + i * 3, none⟩ = some (.int .u64 p.k) ∧ wx.cell? ⟨ab, aoff + i * 3 + 1, none⟩ = some (.bool p.v.h) ∧ wx.cell? ⟨ab, aoff + i * 3 + 2, none⟩ = some (.int .u64 p.v.b)) ∧ (wx.cell? ⟨bb, boff + j * 3, none⟩ = some (.int .u64 q.k) ∧ wx.cell? ⟨bb, boff + j * 3 + 1, none⟩ = some (.bool q.v.h) ∧ wx.cell? ⟨bb, boff + j * 3 + 2, none⟩ = some (.int .u64 q.v.b))) (by kernel_rfl) ?_ (fun hHeld => ?_)
            · exact HSF.out _ hSd
            refine wpAnyH_take (i := 0) (oi := ⟨some 33, _, _, _, _, _⟩) (v := ?_) rfl (by kernel_rfl) (by kernel_rfl) (by kernel_rfl) (fun _ _ _ h => h) (Or.inl ⟨by rfl, ?_⟩) (by assumption) ?_
            rotate_left
            · intro w hSw; (try dsimp only at hSw); obtain ⟨⟨s0, s1, s2⟩, t0, t1, t2⟩ := hSw; go_simp; all_goals (with_reducible rfl)
            try simp only [Act.put, List.setIfInBounds_toArray, List.set_cons_zero, List.set_cons_succ]
            refine wpAnyH_take (i := 1) (oi := ⟨some 34, _, _, _, _, _⟩) (v := ?_) rfl (by kernel_rfl) (by kernel_rfl) (by kernel_rfl) (fun _ _ _ h => h) (Or.inl ⟨by rfl, ?_⟩) (by assumption) ?_
            rotate_left
            · intro w hSw; (try dsimp only at hSw); obtain ⟨⟨s0, s1, s2⟩, t0, t1, t2⟩ := hSw; go_simp; all_goals (with_reducible rfl)
            try simp only [Act.put, List.setIfInBounds_toArray, List.set_cons_zero, List.set_cons_succ]
            refine wpAnyH_take (i := 2) (oi := ⟨some 35, _, _, _, _, _⟩) (v := ?_) rfl (by kernel_rfl) (by kernel_rfl) (by kernel_rfl) (fun _ _ _ h => h) (Or.inl ⟨by rfl, ?_⟩) (by assumption) ?_
            rotate_left
            · intro w hSw; (try dsimp only at hSw); obtain ⟨⟨s0, s1, s2⟩, t0, t1, t2⟩ := hSw; go_simp; all_goals (with_reducible rfl)
            try simp only [Act.put, List.setIfInBounds_toArray, List.set_cons_zero, List.set_cons_succ]
            refine wpAnyH_take (i := 3) (oi := ⟨some 36, _, _, _, _, _⟩) (v := ?_) rfl (by kernel_rfl) (by kernel_rfl) (by kernel_rfl) (fun _ _ _ h => h) (Or.inl ⟨by rfl, ?_⟩) (by assumption) ?_
            rotate_left
            · intro w hSw; (try dsimp only at hSw); obtain ⟨⟨s0, s1, s2⟩, t0, t1, t2⟩ := hSw; go_simp; all_goals (with_reducible rfl)
            try simp only [Act.put, List.setIfInBounds_toArray, List.set_cons_zero, List.set_cons_succ]
            refine wpAnyH_take (i := 4) (oi := ⟨some 37, _, _, _, _, _⟩) (v := ?_) rfl (by kernel_rfl) (by kernel_rfl) (by kernel_rfl) (fun _ _ _ h => h) (Or.inl ⟨by rfl, ?_⟩) (by assumption) ?_
            rotate_left
            · intro w hSw; (try dsimp only at hSw); obtain ⟨⟨s0, s1, s2⟩, t0, t1, t2⟩ := hSw; go_simp; all_goals (with_reducible rfl)
            try simp only [Act.put, List.setIfInBounds_toArray, List.set_cons_zero, List.set_cons_succ]
            refine wpAnyH_take (i := 5) (oi := ⟨some 38, _, _, _, _, _⟩) (v := ?_) rfl (by kernel_rfl) (by kernel_rfl) (by kernel_rfl) (fun _ _ _ h => h) (Or.inl ⟨by rfl, ?_⟩) (by assumption) ?_
            rotate_left
            · intro w hSw; (try dsimp only at hSw); obtain ⟨⟨s0, s1, s2⟩, t0, t1, t2⟩ := hSw; go_simp; all_goals (with_reducible rfl)
            try simp only [Act.put, List.setIfInBounds_toArray, List.set_cons_zero, List.set_cons_succ]
            refine wpAnyH_take (i := 6) (oi := ⟨some 39, _, _, _, _, _⟩) (v := ?_) rfl (by kernel_rfl) (by kernel_rfl) (by kernel_rfl) (fun _ _ _ h => h) (Or.inl ⟨by rfl, ?_⟩) (by assumption) ?_
            rotate_left
            · intro w hSw; (try dsimp only at hSw); obtain ⟨⟨s0, s1, s2⟩, t0, t1, t2⟩ := hSw; go_simp; all_goals (with_reducible rfl)
            try simp only [Act.put, List.setIfInBounds_toArray, List.set_cons_zero, List.set_cons_succ]
            refine wpAnyH_take (i := 7) (oi := ⟨some 40, _, _, _, _, _⟩) (v := ?_) rfl (by kernel_rfl) (by kernel_rfl) (by kernel_rfl) (fun _ _ _ h => h) (Or.inl ⟨by rfl, ?_⟩) (by assumption) ?_
            rotate_left
            · intro w hSw; (try dsimp only at hSw); obtain ⟨⟨s0, s1, s2⟩, t0, t1, t2⟩ := hSw; go_simp; all_goals (with_reducible rfl)
            try simp only [Act.put, List.setIfInBounds_toArray, List.set_cons_zero, List.set_cons_succ]
            refine wpAnyH_take (i := 8) (oi := ⟨some 41, _, _, _, _, _⟩) (v := ?_) rfl (by kernel_rfl) (by kernel_rfl) (by kernel_rfl) (fun _ _ _ h => h) (Or.inl ⟨by rfl, ?_⟩) (by assumption) ?_
            rotate_left
            · intro w hSw; (try dsimp only at hSw); obtain ⟨⟨s0, s1, s2⟩, t0, t1, t2⟩ := hSw; go_simp; all_goals (with_reducible rfl)
            try simp only [Act.put, List.setIfInBounds_toArray, List.set_cons_zero, List.set_cons_succ]
            refine wpAnyH_take (i := 9) (oi := ⟨some 42, _, _, _, _, _⟩) (v := ?_) rfl (by kernel_rfl) (by kernel_rfl) (by kernel_rfl) (fun _ _ _ h => h) (Or.inl ⟨by rfl, ?_⟩) (by assumption) ?_
            rotate_left
            · intro w hSw; (try dsimp only at hSw); obtain ⟨⟨s0, s1, s2⟩, t0, t1, t2⟩ := hSw; go_simp; all_goals (with_reducible rfl)
            try simp only [Act.put, List.setIfInBounds_toArray, List.set_cons_zero, List.set_cons_succ]
            refine wpAnyH_take (i := 10) (oi := ⟨some 43, _, _, _, _, _⟩) (v := ?_) rfl (by kernel_rfl) (by kernel_rfl) (by kernel_rfl) (fun _ _ _ h => h) (Or.inl ⟨by rfl, ?_⟩) (by assumption) ?_
            rotate_left
            · intro w hSw; (try dsimp only at hSw); obtain ⟨⟨s0, s1, s2⟩, t0, t1, t2⟩ := hSw; go_simp; all_goals (with_reducible rfl)
            try simp only [Act.put, List.setIfInBounds_toArray, List.set_cons_zero, List.set_cons_succ]
            refine wpAnyH_take (i := 11) (oi := ⟨some 44, _, _, _, _, _⟩) (v := ?_) rfl (by kernel_rfl) (by kernel_rfl) (by kernel_rfl) (fun _ _ _ h => h) (Or.inl ⟨by rfl, ?_⟩) (by assumption) ?_
            rotate_left
            · intro w hSw; (try dsimp only at hSw); obtain ⟨⟨s0, s1, s2⟩, t0, t1, t2⟩ := hSw; go_simp; all_goals (with_reducible rfl)
            try simp only [Act.put, List.setIfInBounds_toArray, List.set_cons_zero, List.set_cons_succ]
            refine wpAnyH_take (i := 12) (oi := ⟨some 45, _, _, _, _, _⟩) (v := ?_) rfl (by kernel_rfl) (by kernel_rfl) (by kernel_rfl) (fun _ _ _ h => h) (Or.inl ⟨by rfl, ?_⟩) (by assumption) ?_
            rotate_left
            · intro w hSw; (try dsimp only at hSw); obtain ⟨⟨s0, s1, s2⟩, t0, t1, t2⟩ := hSw; go_simp; all_goals (with_reducible rfl)
            try simp only [Act.put, List.setIfInBounds_toArray, List.set_cons_zero, List.set_cons_succ]
            refine wpAnyH_take (i := 13) (oi := ⟨some 46, _, _, _, _, _⟩) (v := ?_) rfl (by kernel_rfl) (by kernel_rfl) (by kernel_rfl) (fun _ _ _ h => h) (Or.inl ⟨by rfl, ?_⟩) (by assumption) ?_
            rotate_left
            · intro w hSw; (try dsimp only at hSw); obtain ⟨⟨s0, s1, s2⟩, t0, t1, t2⟩ := hSw; go_simp; all_goals (with_reducible rfl)
            try simp only [Act.put, List.setIfInBounds_toArray, List.set_cons_zero, List.set_cons_succ]
            refine wpAnyH_take (i := 14) (oi := ⟨some 47, _, _, _, _, _⟩) (v := ?_) rfl (by kernel_rfl) (by kernel_rfl) (by kernel_rfl) (fun _ _ _ h => h) (Or.inl ⟨by rfl, ?_⟩) (by assumption) ?_
            rotate_left
            · intro w hSw; (try dsimp only at hSw); obtain ⟨⟨s0, s1, s2⟩, t0, t1, t2⟩ := hSw; go_simp; all_goals (with_reducible rfl)
            try simp only [Act.put, List.setIfInBounds_toArray, List.set_cons_zero, List.set_cons_succ]
            refine wpAnyH_take (i := 15) (oi := ⟨some 48, _, _, _, _, _⟩) (v := ?_) rfl (by kernel_rfl) (by kernel_rfl) (by kernel_rfl) (fun _ _ _ h => h) (Or.inl ⟨by rfl, ?_⟩) (by assumption) ?_
            rotate_left
            · intro w hSw; (try dsimp only at hSw); obtain ⟨⟨s0, s1, s2⟩, t0, t1, t2⟩ := hSw; go_simp; all_goals (with_reducible rfl)
            try simp only [Act.put, List.setIfInBounds_toArray, List.set_cons_zero, List.set_cons_succ]
            refine wpAnyH_take (i := 16) (oi := ⟨some 49, _, _, _, _, _⟩) (v := ?_) rfl (by kernel_rfl) (by kernel_rfl) (by kernel_rfl) (fun _ _ _ h => h) (Or.inl ⟨by rfl, ?_⟩) (by assumption) ?_
            rotate_left
            · intro w hSw; (try dsimp only at hSw); obtain ⟨⟨s0, s1, s2⟩, t0, t1, t2⟩ := hSw; go_simp; all_goals (with_reducible rfl)
            try simp only [Act.put, List.setIfInBounds_toArray, List.set_cons_zero, List.set_cons_succ]
            refine wpAnyH_ready (rs := [17]) (by kernel_rfl) (by simp) ?_
            refine AllReadyH.cons (o := ⟨some 50, _, _, _, _, _⟩) rfl (fun K hK => ?_) AllReadyH.nil
            go_simp
            refine (rmerge_walk kind HPO.out.2 HQO.out.2 _).mono ?_
            rw [HV.out]
            rintro e w5 ⟨rfl, hB5⟩
            have hS5 : Below wr.heap.size wr w5 := below_trans hSd hB5
            clear hB5
            go_simp
            refine hK.out _ _ ?_ (fun hHeld => ?_)
            · exact HSF.out _ hS5
            clear hK K
            try simp only [Act.put, List.setIfInBounds_toArray, List.set_cons_zero, List.set_cons_succ]
            refine wpAnyH_take (i := 18) (oi := ⟨some 51, _, _, _, _, _⟩) (v := ?_) rfl (by kernel_rfl) (by kernel_rfl) (by kernel_rfl) (fun _ _ _ h => h) (Or.inl ⟨by rfl, ?_⟩) (by assumption) ?_
            rotate_left
            · intro w hSw; (try dsimp only at hSw); obtain ⟨⟨s0, s1, s2⟩, t0, t1, t2⟩ := hSw; go_simp; all_goals (with_reducible rfl)
            try simp only [Act.put, List.setIfInBounds_toArray, List.set_cons_zero, List.set_cons_succ]
            refine wpAnyH_ready (rs := [19]) (by kernel_rfl) (by simp) ?_
            refine AllReadyH.cons (o := ⟨some 52, _, _, _, _, _⟩) rfl (fun K hK => ?_) AllReadyH.nil
            go_simp
            refine hK.out _ _ ?_ (fun hHeld => ?_)
            · exact HSF.out _ (below_trans hS5 (below_alloc _ _))
            clear hK K
            try simp only [Act.put, List.setIfInBounds_toArray, List.set_cons_zero, List.set_cons_succ]
            refine wpAnyH_ready (rs := [20]) (by kernel_rfl) (by simp) ?_
            refine AllReadyH.cons (o := ⟨some 53, _, _, _, _, _⟩) rfl (fun K hK => ?_) AllReadyH.nil
            refine if_wanted rfl ?_
            obtain ⟨v', w6, hrun, hown6, hgrow6⟩ := ra_app (k := p.k) (V := V) HI0.out HI1.out HI2.out HI3.out HOW.out hS5 HTB.out HBS.out
            refine wp_app_run (.tmp 33) (.tmp 52) 22 rfl _ _ rfl rfl hrun ?_
            have R' := ra_step (iv := .int .i64 ((i : Int) + 1)) (jv := .int .i64 ((j : Int) + 1)) HMR.out hia hjl (by simp) (by simp) (by omega) HOW.out hS5 hgrow6 hown6 HINV.out HTL.out HB.out HW3.out HBS.out
            have hS6 := HSG.out _ _ hS5 hgrow6
            clear hrun hown6 hgrow6
            refine hK.out _ _ ?_ (fun hHeld => ?_)
            · exact hS6
            clear hK K
            try simp only [Act.put, List.setIfInBounds_toArray, List.set_cons_zero, List.set_cons_succ]
            refine wpAnyH_take (i := 21) (oi := ⟨some 8, _, _, _, _, _⟩) (v := ?_) rfl (by kernel_rfl) (by kernel_rfl) (by kernel_rfl) (fun _ _ _ h => h) (Or.inl ⟨by rfl, ?_⟩) (by assumption) ?_
            rotate_left
            · intro w hSw; (try dsimp only at hSw); obtain ⟨⟨s0, s1, s2⟩, t0, t1, t2⟩ := hSw; go_simp; all_goals (with_reducible rfl)
            try simp only [Act.put, List.setIfInBounds_toArray, List.set_cons_zero, List.set_cons_succ]
            refine wpAnyH_done (by kernel_rfl) ?_ _
            refine NoPanic.normal ?_
            go_wp2_with fail
            go_roundw
            case rel => exact R'
            case measure => simp [intOf]; omega
          · have HMR : Hid (mrg kind (a.drop i) (b.drop j) = ⟨q.k, fitV kind q.v⟩ :: mrg kind (a.drop i) (b.drop (j + 1))) := by show _ = _; rw [HQ.out]; exact drop_gt hia hjl (by rw [← HP.out, ← HQ.out]; exact hgt)
            have hkl : ¬ ((p.k : Int) < (q.k : Int)) := by omega
            have hkg : (q.k : Int) < (p.k : Int) := by omega
            clear hgt
            go_wp2_with fail
            go_quiet (fail)
            go_wp2_with fail
            go_quiet (fail)
            go_wp2_with fail
            clear a0 a1 a2 b0 b1 b2 hcl hcf hce hcj hkl hkg
            generalize hgz : (wr.drewN _).drewN _ = wz
            have HZ : Hid (Below wr.heap.size wr wz) := by show Below _ _ _; rw [← hgz]; exact below_trans (below_drewN _ _) (below_drewN _ _)
            clear hgz
            obtain ⟨V, hV⟩ : ∃ V, V = fitV kind q.v := ⟨_, rfl⟩
            have HV : Hid (fitV kind q.v = V) := hV.symm
            rw [← hV] at HMR
            clear hV
            have HSF : Hid (∀ wx, Below wr.heap.size wr wx → wx.cell? ⟨bb, boff + j * 3, none⟩ = some (.int .u64 q.k) ∧ wx.cell? ⟨bb, boff + j * 3 + 1, none⟩ = some (.bool q.v.h) ∧ wx.cell? ⟨bb, boff + j * 3 + 2, none⟩ = some (.int .u64 q.v.b)) := fun wx h => ⟨by rw [h.cell (p := ⟨bb, boff + j * 3, none⟩) (cell_lt HQC.out.1)]; exact HQC.out.1, by rw [h.cell (p := ⟨bb, boff + j * 3 + 1, none⟩) (cell_lt HQC.out.2.1)]; exact HQC.out.2.1, by rw [h.cell (p := ⟨bb, boff + j * 3 + 2, none⟩) (cell_lt HQC.out.2.2)]; exact HQC.out.2.2⟩
            have HSG : Hid (∀ w5 w6, Below wr.heap.size wr w5 → (w5.alloc (Obj.cells #[.int .u64 q.k, .bool V.h, .int .u64 V.b] 38)).grownBy w6 u8.ownBlock → w6.cell? ⟨bb, boff + j * 3, none⟩ = some (.int .u64 q.k) ∧ w6.cell? ⟨bb, boff + j * 3 + 1, none⟩ = some (.bool q.v.h) ∧ w6.cell? ⟨bb, boff + j * 3 + 2, none⟩ = some (.int .u64 q.v.b)) := fun w5 w6 h hg => by
              obtain ⟨s0, s1, s2⟩ := HSF.out _ (below_trans h (below_alloc _ _))
              have hnf : ∀ m, u8.ownBlock = some m → bb ≠ m := fun m hm => by have := (HOW.out.lt m hm).1; have := HBL.out; have := HW3.out; omega
              exact ⟨cell_own s0 hg hnf, cell_own s1 hg hnf, cell_own s2 hg hnf⟩
            refine wp_region_noPanic ?_
            have hSd : Below wr.heap.size wr wz.drew := below_trans HZ.out (below_drw _)
            refine wp_region_held_drew (S := fun wx => wx.cell? ⟨bb, boff + j * 3, none⟩ = some (.int .u64 q.k) ∧ wx.cell? ⟨bb, boff + j * 3 + 1, none⟩ = some (.bool q.v.h) ∧ wx.cell? ⟨bb, boff + j * 3 + 2, none⟩ = some (.int .u64 q.v.b)) (by kernel_rfl) ?_ (fun hHeld => ?_)
            · exact HSF.out _ hSd
            refine wpAnyH_take (i := 0) (oi := ⟨some 118, _, _, _, _, _⟩) (v := ?_) rfl (by kernel_rfl) (by kernel_rfl) (by kernel_rfl) (fun _ _ _ h => h) (Or.inl ⟨by rfl, ?_⟩) (by assumption) ?_
            rotate_left
            · intro w hSw; (try dsimp only at hSw); obtain ⟨s0, s1, s2⟩ := hSw; go_simp; all_goals (with_reducible rfl)
            try simp only [Act.put, List.setIfInBounds_toArray, List.set_cons_zero, List.set_cons_succ]
            refine wpAnyH_take (i := 1) (oi := ⟨some 119, _, _, _, _, _⟩) (v := ?_) rfl (by kernel_rfl) (by kernel_rfl) (by kernel_rfl) (fun _ _ _ h => h) (Or.inl ⟨by rfl, ?_⟩) (by assumption) ?_
            rotate_left
            · intro w hSw; (try dsimp only at hSw); obtain ⟨s0, s1, s2⟩ := hSw; go_simp; all_goals (with_reducible rfl)
            try simp only [Act.put, List.setIfInBounds_toArray, List.set_cons_zero, List.set_cons_succ]
            refine wpAnyH_take (i := 2) (oi := ⟨some 120, _, _, _, _, _⟩) (v := ?_) rfl (by kernel_rfl) (by kernel_rfl) (by kernel_rfl) (fun _ _ _ h => h) (Or.inl ⟨by rfl, ?_⟩) (by assumption) ?_
            rotate_left
            · intro w hSw; (try dsimp only at hSw); obtain ⟨s0, s1, s2⟩ := hSw; go_simp; all_goals (with_reducible rfl)
            try simp only [Act.put, List.setIfInBounds_toArray, List.set_cons_zero, List.set_cons_succ]
            refine wpAnyH_take (i := 3) (oi := ⟨some 121, _, _, _, _, _⟩) (v := ?_) rfl (by kernel_rfl) (by kernel_rfl) (by kernel_rfl) (fun _ _ _ h => h) (Or.inl ⟨by rfl, ?_⟩) (by assumption) ?_
            rotate_left
            · intro w hSw; (try dsimp only at hSw); obtain ⟨s0, s1, s2⟩ := hSw; go_simp; all_goals (with_reducible rfl)
            try simp only [Act.put, List.setIfInBounds_toArray, List.set_cons_zero, List.set_cons_succ]
            refine wpAnyH_take (i := 4) (oi := ⟨some 122, _, _, _, _, _⟩) (v := ?_) rfl (by kernel_rfl) (by kernel_rfl) (by kernel_rfl) (fun _ _ _ h => h) (Or.inl ⟨by rfl, ?_⟩) (by assumption) ?_
            rotate_left
            · intro w hSw; (try dsimp only at hSw); obtain ⟨s0, s1, s2⟩ := hSw; go_simp; all_goals (with_reducible rfl)
            try simp only [Act.put, List.setIfInBounds_toArray, List.set_cons_zero, List.set_cons_succ]
            refine wpAnyH_take (i := 5) (oi := ⟨some 123, _, _, _, _, _⟩) (v := ?_) rfl (by kernel_rfl) (by kernel_rfl) (by kernel_rfl) (fun _ _ _ h => h) (Or.inl ⟨by rfl, ?_⟩) (by assumption) ?_
            rotate_left
            · intro w hSw; (try dsimp only at hSw); obtain ⟨s0, s1, s2⟩ := hSw; go_simp; all_goals (with_reducible rfl)
            try simp only [Act.put, List.setIfInBounds_toArray, List.set_cons_zero, List.set_cons_succ]
            refine wpAnyH_take (i := 6) (oi := ⟨some 124, _, _, _, _, _⟩) (v := ?_) rfl (by kernel_rfl) (by kernel_rfl) (by kernel_rfl) (fun _ _ _ h => h) (Or.inl ⟨by rfl, ?_⟩) (by assumption) ?_
            rotate_left
            · intro w hSw; (try dsimp only at hSw); obtain ⟨s0, s1, s2⟩ := hSw; go_simp; all_goals (with_reducible rfl)
            try simp only [Act.put, List.setIfInBounds_toArray, List.set_cons_zero, List.set_cons_succ]
            refine wpAnyH_take (i := 7) (oi := ⟨some 125, _, _, _, _, _⟩) (v := ?_) rfl (by kernel_rfl) (by kernel_rfl) (by kernel_rfl) (fun _ _ _ h => h) (Or.inl ⟨by rfl, ?_⟩) (by assumption) ?_
            rotate_left
            · intro w hSw; (try dsimp only at hSw); obtain ⟨s0, s1, s2⟩ := hSw; go_simp; all_goals (with_reducible rfl)
            try simp only [Act.put, List.setIfInBounds_toArray, List.set_cons_zero, List.set_cons_succ]
            refine wpAnyH_take (i := 8) (oi := ⟨some 126, _, _, _, _, _⟩) (v := ?_) rfl (by kernel_rfl) (by kernel_rfl) (by kernel_rfl) (fun _ _ _ h => h) (Or.inl ⟨by rfl, ?_⟩) (by assumption) ?_
            rotate_left
            · intro w hSw; (try dsimp only at hSw); obtain ⟨s0, s1, s2⟩ := hSw; go_simp; all_goals (with_reducible rfl)
            try simp only [Act.put, List.setIfInBounds_toArray, List.set_cons_zero, List.set_cons_succ]
            refine wpAnyH_take (i := 9) (oi := ⟨some 127, _, _, _, _, _⟩) (v := ?_) rfl (by kernel_rfl) (by kernel_rfl) (by kernel_rfl) (fun _ _ _ h => h) (Or.inl ⟨by rfl, ?_⟩) (by assumption) ?_
            rotate_left
            · intro w hSw; (try dsimp only at hSw); obtain ⟨s0, s1, s2⟩ := hSw; go_simp; all_goals (with_reducible rfl)
            try simp only [Act.put, List.setIfInBounds_toArray, List.set_cons_zero, List.set_cons_succ]
            refine wpAnyH_take (i := 10) (oi := ⟨some 128, _, _, _, _, _⟩) (v := ?_) rfl (by kernel_rfl) (by kernel_rfl) (by kernel_rfl) (fun _ _ _ h => h) (Or.inl ⟨by rfl, ?_⟩) (by assumption) ?_
            rotate_left
            · intro w hSw; (try dsimp only at hSw); obtain ⟨s0, s1, s2⟩ := hSw; go_simp; all_goals (with_reducible rfl)
            try simp only [Act.put, List.setIfInBounds_toArray, List.set_cons_zero, List.set_cons_succ]
            refine wpAnyH_take (i := 11) (oi := ⟨some 129, _, _, _, _, _⟩) (v := ?_) rfl (by kernel_rfl) (by kernel_rfl) (by kernel_rfl) (fun _ _ _ h => h) (Or.inl ⟨by rfl, ?_⟩) (by assumption) ?_
            rotate_left
            · intro w hSw; (try dsimp only at hSw); obtain ⟨s0, s1, s2⟩ := hSw; go_simp; all_goals (with_reducible rfl)
            try simp only [Act.put, List.setIfInBounds_toArray, List.set_cons_zero, List.set_cons_succ]
            refine wpAnyH_ready (rs := [12]) (by kernel_rfl) (by simp) ?_
            refine AllReadyH.cons (o := ⟨some 130, _, _, _, _, _⟩) rfl (fun K hK => ?_) AllReadyH.nil
            go_simp
            refine (rfit_walk kind HQO.out.2 _).mono ?_
            rw [HV.out]
            rintro e w5 ⟨rfl, hB5⟩
            have hS5 : Below wr.heap.size wr w5 := below_trans hSd hB5
            clear hB5
            go_simp
            refine hK.out _ _ ?_ (fun hHeld => ?_)
            · exact HSF.out _ hS5
            clear hK K
            try simp only [Act.put, List.setIfInBounds_toArray, List.set_cons_zero, List.set_cons_succ]
            refine wpAnyH_take (i := 13) (oi := ⟨some 131, _, _, _, _, _⟩) (v := ?_) rfl (by kernel_rfl) (by kernel_rfl) (by kernel_rfl) (fun _ _ _ h => h) (Or.inl ⟨by rfl, ?_⟩) (by assumption) ?_
            rotate_left
            · intro w hSw; (try dsimp only at hSw); obtain ⟨s0, s1, s2⟩ := hSw; go_simp; all_goals (with_reducible rfl)
            try simp only [Act.put, List.setIfInBounds_toArray, List.set_cons_zero, List.set_cons_succ]
            refine wpAnyH_ready (rs := [14]) (by kernel_rfl) (by simp) ?_
            refine AllReadyH.cons (o := ⟨some 132, _, _, _, _, _⟩) rfl (fun K hK => ?_) AllReadyH.nil
            go_simp
            refine hK.out _ _ ?_ (fun hHeld => ?_)
            · exact HSF.out _ (below_trans hS5 (below_alloc _ _))
            clear hK K
            try simp only [Act.put, List.setIfInBounds_toArray, List.set_cons_zero, List.set_cons_succ]
            refine wpAnyH_ready (rs := [15]) (by kernel_rfl) (by simp) ?_
            refine AllReadyH.cons (o := ⟨some 133, _, _, _, _, _⟩) rfl (fun K hK => ?_) AllReadyH.nil
            refine if_wanted rfl ?_
            obtain ⟨v', w6, hrun, hown6, hgrow6⟩ := ra_app (k := q.k) (V := V) HI0.out HI1.out HI2.out HI3.out HOW.out hS5 HTB.out HBS.out
            refine wp_app_run (.tmp 118) (.tmp 132) 22 rfl _ _ rfl rfl hrun ?_
            have R' := ra_step (iv := .int .i64 (i : Int)) (jv := .int .i64 ((j : Int) + 1)) HMR.out hi hjl (by simp) (by simp) (by omega) HOW.out hS5 hgrow6 hown6 HINV.out HTL.out HB.out HW3.out HBS.out
            have hS6 := HSG.out _ _ hS5 hgrow6
            clear hrun hown6 hgrow6
            refine hK.out _ _ ?_ (fun hHeld => ?_)
            · exact hS6
            clear hK K
            try simp only [Act.put, List.setIfInBounds_toArray, List.set_cons_zero, List.set_cons_succ]
            refine wpAnyH_take (i := 16) (oi := ⟨some 8, _, _, _, _, _⟩) (v := ?_) rfl (by kernel_rfl) (by kernel_rfl) (by kernel_rfl) (fun _ _ _ h => h) (Or.inl ⟨by rfl, ?_⟩) (by assumption) ?_
            rotate_left
            · intro w hSw; (try dsimp only at hSw); obtain ⟨s0, s1, s2⟩ := hSw; go_simp; all_goals (with_reducible rfl)
            try simp only [Act.put, List.setIfInBounds_toArray, List.set_cons_zero, List.set_cons_succ]
            refine wpAnyH_done (by kernel_rfl) ?_ _
            refine NoPanic.normal ?_
            go_wp2_with fail
            go_roundw
            case rel => exact R'
            case measure => simp [intOf]; omega
end Go.Proofs.Ytfcpooihihklaaa
