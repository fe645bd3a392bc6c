/- Rows of blocks that grow; the reference's copies; laid. -/
import Derived.Test.YtnnammlipfappaaDb

namespace Go.Proofs.Ytnnammlipfappaa

open Go.RowKit



/-- The value v is a row of the call's own (behind base) of slices of bytes ls, each a row of its own behind base. -/
def Rr (base : Nat) (w : World) (v : Value) (ls : List (List Nat)) : Prop :=
  ∃ us : List Value, w.ownsRow base 57 1 v ls.length us ∧ ∀ i u, us[i]? = some u → Oc w u (bk ls i) ∧ ∀ x, u.ownBlock = some x → base ≤ x


section

variable {base : Nat} {w w' : World} {v v' u : Value} {ls : List (List Nat)} {b : List Nat}

theorem Rr.nil (base : Nat) (w : World) : Rr base w (.slice none 0 0) [] := ⟨[], World.ownsRow_nil _ _ _ _, fun i u h => by simp at h⟩
theorem Rr.block (h : Rr base w v ls) {g : Nat} (hg : v.ownBlock = some g) : ∃ cur, w.heap[g]? = some (.cells cur 57 (0, 0)) := by
  obtain ⟨us, h1, _⟩ := h
  rcases h1.2 with ⟨rfl, _⟩ | ⟨g', cap, cur, rfl, hb, hh, r⟩
  · cases hg
  · simp [Value.ownBlock] at hg; subst hg; exact ⟨cur, hh⟩
theorem Rr.apart (h : Rr base w v ls) (hu : Oc w u b) {x : Nat} (hx : u.ownBlock = some x) : v.ownBlock ≠ some x := by
  intro hv
  obtain ⟨c1, e1⟩ := h.block hv
  obtain ⟨c2, e2⟩ := hu.block hx
  rw [e1] at e2; simp at e2
theorem Rr.below (h : Rr base w v ls) (hb : Below w.heap.size w w') : Rr base w' v ls := by
  obtain ⟨us, h1, h2⟩ := h
  exact ⟨us, own_below h1 hb, fun i u hu => ⟨(h2 i u hu).1.below hb, (h2 i u hu).2⟩⟩
theorem Rr.lt (h : Rr base w v ls) {g : Nat} (hg : v.ownBlock = some g) : base ≤ g ∧ g < w.heap.size := by
  obtain ⟨us, h1, _⟩ := h
  exact h1.lt g hg
theorem Rr.form (h : Rr base w v ls) : ∃ ao cap, v = .slice ao ls.length cap := by
  obtain ⟨us, h1, _⟩ := h
  obtain ⟨ao, cap, e, _⟩ := row_form h1
  exact ⟨ao, cap, e⟩
theorem bk_snoc {i : Nat} (b : List Nat) (hi : i < ls.length) : bk (ls ++ [b]) i = bk ls i := by
  rw [bk_at (by simp; omega), bk_at hi, List.getElem_append_left hi]
theorem bk_last (ls : List (List Nat)) (b : List Nat) : bk (ls ++ [b]) ls.length = b := by rw [bk_at (by simp)]; simp
/-- One more block. -/
theorem Rr.snoc {us : List Value} (hs : ∀ i u, us[i]? = some u → Oc w u (bk ls i) ∧ ∀ x, u.ownBlock = some x → base ≤ x) (hown : w.ownsRow base 57 1 v ls.length us) (hown' : w'.ownsRow base 57 1 v' (ls.length + 1) (us ++ [u])) (hg : w.grownBy w' v.ownBlock)
    (hu : Oc w u b) (hub : ∀ x, u.ownBlock = some x → base ≤ x) : Rr base w' v' (ls ++ [b]) := by
  have hl : us.length = ls.length := by have := hown.1; simpa using this
  have ap := fun {u : Value} {b : List Nat} (hu : Oc w u b) (x : Nat) (hx : u.ownBlock = some x) => Rr.apart (base := base) (ls := ls) ⟨us, hown, hs⟩ hu hx
  have kp : ∀ {u : Value} {b : List Nat}, Oc w u b → Oc w' u b := fun hu => hu.keep (fun x hx => hg.block x (hu.lt x hx).2 (fun e => ap hu x hx e.symm))
  refine ⟨us ++ [u], by rw [List.length_append]; exact hown', fun i y hy => ?_⟩
  by_cases hi : i < us.length
  · rw [List.getElem?_append_left hi] at hy
    obtain ⟨a, c⟩ := hs i y hy
    rw [bk_snoc b (by omega)]
    exact ⟨kp a, c⟩
  · have hi2 : i = us.length := by
      have : i < (us ++ [u]).length := by
        rcases Nat.lt_or_ge i (us ++ [u]).length with h | h
        · exact h
        · rw [List.getElem?_eq_none h] at hy; cases hy
      simp at this; omega
    subst hi2
    rw [List.getElem?_append_right (Nat.le_refl _)] at hy
    simp at hy
    subst hy
    rw [hl, bk_last]
    exact ⟨kp hu, hub⟩
theorem Rr.gr (h : Rr base w v ls) (h1 : 1 ≤ ls.length) : ∃ g cap, v = .slice (some ⟨g, 0, none⟩) ls.length cap ∧ base ≤ g ∧ Gr (fun x => base ≤ x) w g cap ls := by
  obtain ⟨us, ho, hs⟩ := h
  have hl : us.length = ls.length := by have := ho.1; simpa using this
  rcases ho.2 with ⟨rfl, h0⟩ | ⟨g, cap, cur, rfl, hb, hg, hnc, hcm, hcs, htake⟩
  · omega
  · refine ⟨g, cap, rfl, hb, ⟨cur, hg, by omega, fun i hi => ?_⟩, hnc, hcm⟩
    obtain ⟨u, hu⟩ : ∃ u, us[i]? = some u := ⟨_, List.getElem?_eq_getElem (by omega)⟩
    obtain ⟨a, c⟩ := hs i u hu
    refine ⟨u, ?_, a, c⟩
    have e := congrArg (fun l => l[i]?) htake
    simp only [List.getElem?_take, Nat.mul_one, if_pos hi] at e
    rw [← Array.getElem?_toList, e]; exact hu
theorem Rr.pv (h : Rr base w v ls) (hb : ∀ b ∈ ls, ∀ c ∈ b, c < 256) : PvD w v ls := by
  by_cases h1 : 1 ≤ ls.length
  · obtain ⟨g, cap, rfl, _, hg⟩ := h.gr h1
    exact hg.pv hb
  · have h0 : ls = [] := List.eq_nil_of_length_eq_zero (by omega)
    subst h0
    obtain ⟨us, ho, hs⟩ := h
    rcases ho.2 with ⟨rfl, _⟩ | ⟨g, cap, cur, rfl, _, hg, hnc, hcm, hcs, _⟩
    · exact ⟨none, 0, rfl, Nat.le_refl _, by simp [maxLen], fun _ => rfl, fun i hi => by simp at hi⟩
    · exact ⟨_, cap, rfl, hnc, hcm, by simp, fun i hi => by simp at hi⟩
end



/-- APPEND of one block's slice onto a row of the call's own. -/
theorem wpList_append_row {P : Program} {w : World} {ops : Array Oper} {rest : List Oper} {o : Oper} {a : Act} {Q : Exit → Act → World → Prop} (hgd : o.guard = none) (s x : Operand) (t : TypeId)
    (ho : o.op = .call { callee := .builtin .append, args := #[s, x], argTypes := #[t, t] })
    (base : Nat) (ht : P.underlying t = some (.slice 57)) (hinf : (P.info? 57).map (fun i => (i.zero, i.size, i.bytes)) = some (some (.slice none 0 0), 1, 24))
    (v : Value) (ls : List (List Nat)) (hs : a.eval s = v) (hown : Rr base w v ls)
    (g : Nat) (u : Value) (b : List Nat) (hx : a.eval x = .slice (some ⟨g, 0, none⟩) 1 1) (hc : w.cell? ⟨g, 0, none⟩ = some u) (hu : Oc w u b) (hub : ∀ x, u.ownBlock = some x → base ≤ x) (h63 : (ls.length + 1) * 24 ≤ 140737488355328) (hbase : base ≤ w.heap.size)
    (h : ∀ v' w', Rr base w' v' (ls ++ [b]) → w.grownBy w' v.ownBlock → wpList P ops Q rest (a.put o.dst v') w') : wpList P ops Q (o :: rest) a w := by
  obtain ⟨i0, hi, hz0, hz1, hz2⟩ := info_partsV hinf
  obtain ⟨us, hro, hse⟩ := hown
  obtain ⟨ao, cap, hform, _⟩ := row_form hu
  refine wpList_append_own w hgd s x t ho base 57 i0 (.slice none 0 0) 1 24 ht hi hz0 hz1 hz2 rfl (by decide) v ls.length us hs hro ⟨g, 0, none⟩ 1 1 [u] hx (by simp) ?_ ?_ (by simp only [maxLen]; omega) h63 hbase (fun v' w' h1 h2 _ => h v' w' (Rr.snoc hse hro h1 h2 hu hub) h2)
  · intro j y hj
    cases j with
    | zero => simp at hj; subst hj; simpa [WideShapes.add_plain] using hc
    | succ j => simp at hj
  · intro y hy
    simp at hy
    subst hy
    rw [hform]; rfl


/-- Where the reference's copies stands. -/
def RcRel (ls : List (List Nat)) (w : World) (v iv : Value) (wr : World) : Prop :=
  ∃ k : Nat, k ≤ ls.length ∧ iv = .int .i64 k ∧ Rr w.heap.size wr v (ls.take k) ∧ Below w.heap.size w wr
theorem rcrel_start (ls : List (List Nat)) (w : World) : RcRel ls w (.slice (some ⟨w.heap.size, 0, none⟩) 0 0) (.int .i64 0) (w.alloc (.cells #[] 57)) :=
  ⟨0, Nat.zero_le _, rfl, ⟨[], by rw [List.take_zero]; exact World.ownsRow_made w #[] 0 (Nat.le_refl _) (by simp [maxLen]) rfl, fun i u h => by simp at h⟩, below_alloc w _⟩
theorem take_snoc {ls : List (List Nat)} {k : Nat} (h : k < ls.length) : ls.take k ++ [bk ls k] = ls.take (k + 1) := by rw [bk_at h, List.take_succ_eq_append_getElem h]
theorem Rr.grownB {base B : Nat} {w w' : World} {v : Value} {ls : List (List Nat)} (h : Rr base w v ls) (hg : w.grownBy w' v.ownBlock) (hB : B ≤ w.heap.size) (hb : B ≤ base) : Below B w w' :=
  (Below.refl B w).grown hg hB (fun _ hk => Nat.le_trans hb (h.lt hk).1)


set_option maxRecDepth 100000 in
set_option maxHeartbeats 1000000 in
theorem rcopies_walk {w : World} {v : Value} {ls : List (List Nat)} (h : PvD w v ls) (h1 : 1 ≤ ls.length) (h64 : ls.length ≤ 64) (hb : ∀ b ∈ ls, b.length ≤ 1024) :
    Calls Try.prog 54 #[v] w fun e w' => ∃ g cap, e = .returned (.slice (some ⟨g, 0, none⟩) ls.length cap) ∧ Gr (fun x => w.heap.size ≤ x) w' g cap ls ∧ w.heap.size ≤ g ∧ Below w.heap.size w w' := by
  obtain ⟨ao, cap, rfl, q1, q2, q3, q4⟩ := h
  obtain ⟨b, off, u, rfl, _, _⟩ := q4 0 (by omega)
  have HC : Hid (∀ i, i < ls.length → ∃ u, w.cell? ⟨b, off + i, none⟩ = some u ∧ Bv w u (bk ls i)) := fun i hi => by
    obtain ⟨b', off', u', e1, e2, e3⟩ := q4 i hi
    cases e1
    exact ⟨u', e2, e3⟩
  have HBL : Hid (∀ b ∈ ls, b.length ≤ 1024) := hb
  have HST : Hid (RcRel ls w (.slice (some ⟨w.heap.size, 0, none⟩) 0 0) (.int .i64 0) (w.alloc (.cells #[] 57))) := rcrel_start ls w
  have H1 : Hid (1 ≤ ls.length) := h1
  clear q1 q2 q3 q4 hb h1
  go_enter Try.func54, Try.ntmps54
  go_wp2_with fail
  go_loopw [3, 4] (fun v iv wr => RcRel ls w v iv wr) (fun _ iv _ => ls.length - (intOf iv).toNat)
  case atStart => exact HST.out
  case round =>
    obtain ⟨k, hk, rfl, hrr, hbel⟩ := hrel
    by_cases hlt : k < ls.length
    · obtain ⟨u, hu, hbu⟩ := HC.out k hlt
      obtain ⟨p, hp⟩ : ∃ p, bk ls k = p := ⟨_, rfl⟩
      have hpl : p.length ≤ 1024 := by rw [← hp]; exact HBL.out _ (bk_mem hlt)
      rw [hp] at hbu
      have HP : Hid (bk ls k = p) := hp
      have HB : Hid (Bv wr u p) := hbu.below hbel
      have HPL : Hid (p.length ≤ 1024) := hpl
      have HRR : Hid (Rr w.heap.size wr u3 (ls.take k)) := hrr
      have HBE : Hid (Below w.heap.size w wr) := hbel
      obtain ⟨⟨a, c, rfl, _⟩, _⟩ := hbu
      rw [ib_len] at HB hu
      have hcell : wr.cell? ⟨b, off + k, none⟩ = some (.slice a p.length c) := by rw [hbel.cell (p := ⟨b, off + k, none⟩) (cell_lt hu)]; exact hu
      clear hp hu hpl hrr hbel
      go_wp2_with fail
      refine (rclone_walk HB.out (Nat.le_trans HPL.out (by omega))).mono ?_
      rintro e wC ⟨v', rfl, ho, hC⟩
      have HO : Hid (Oc (wC.alloc (.cells #[v'] 57)) v' p) := Oc.below (own_base ho (Nat.zero_le _)) (below_alloc _ _)
      have HOB : Hid (∀ x, v'.ownBlock = some x → w.heap.size ≤ x) := fun x hx => Nat.le_trans HBE.out.size (ho.lt x hx).1
      have HR2 : Hid (Rr w.heap.size (wC.alloc (.cells #[v'] 57)) u3 (ls.take k)) := (HRR.out.below hC).below (below_alloc _ _)
      have HB2 : Hid (Below w.heap.size w (wC.alloc (.cells #[v'] 57))) := below_trans (below_trans HBE.out hC) (below_alloc _ _)
      obtain ⟨ao', cap', hv', _⟩ := row_form ho
      subst hv'
      have HCL : Hid ((wC.alloc (.cells #[.slice ao' p.length cap'] 57)).cell? ⟨wC.heap.size, 0, none⟩ = some (.slice ao' p.length cap')) := by show _ = _; simp [go_sem]
      have HLN : Hid (((ls.take k).length + 1) * 24 ≤ 140737488355328) := by show _ ≤ _; simp; omega
      clear ho hC
      go_wp2_with (at_builtin; refine wpList_append_row (by rfl) _ _ 50 (by rfl) w.heap.size Try.underlying50 info_row _ (ls.take k) (by rfl) HR2.out _ _ p (by rfl) HCL.out HO.out HOB.out HLN.out HB2.out.size ?_; intro v9 w9 hr9 hg9; go_frame)
      have HR : Hid (RcRel ls w v9 (.int .i64 ((k : Int) + 1)) w9) := by
        refine ⟨k + 1, hlt, rfl, ?_, HB2.out.trans (HR2.out.grownB hg9 HB2.out.size (Nat.le_refl _))⟩
        rw [← take_snoc hlt, HP.out]; exact hr9
      clear hr9 hg9
      go_wp2_with fail
      go_roundw
      case rel => exact HR.out
      case measure => simp [intOf]; omega
    · obtain rfl : k = ls.length := by omega
      have HRR : Hid (Rr w.heap.size wr u3 ls) := by rw [List.take_length] at hrr; exact hrr
      obtain ⟨g, cap2, hform, hge, hgr⟩ := HRR.out.gr H1.out
      subst hform
      have HGE : Hid (w.heap.size ≤ g) := hge
      clear hrr hge
      go_wp2_with fail
      go_ret
      exact ⟨_, _, rfl, hgr, HGE.out, hbel⟩


end Go.Proofs.Ytnnammlipfappaa


