/- Two tables gone through side by side; the reference's Sound. -/
import Derived.Test.YtfcpooihihklaaaKm
import Derived.Test.YtfcpooihihklaaaGe
namespace Go.Proofs.Ytfcpooihihklaaa
open Ieee Go.RowKit

/-- The first table's head p beside the second table; f: the first table's rest beside one. -/
def mrgIn (kind : Int) (p : Pr) (all : List Pr) (f : List Pr → List Pr) : List Pr → List Pr
  | [] => all.map fun p => ⟨p.k, fitV kind p.v⟩
  | q :: b => if p.k < q.k then ⟨p.k, fitV kind p.v⟩ :: f (q :: b) else if q.k < p.k then ⟨q.k, fitV kind q.v⟩ :: mrgIn kind p all f b else ⟨p.k, mergeV kind p.v q.v⟩ :: f b
/-- Two tables put together as the reference does it. -/
def mrg (kind : Int) : List Pr → List Pr → List Pr
  | [] => fun b => b.map fun p => ⟨p.k, fitV kind p.v⟩
  | p :: a => mrgIn kind p (p :: a) (mrg kind a)

theorem mrg_nil (kind : Int) (a : List Pr) : mrg kind a [] = a.map fun p => ⟨p.k, fitV kind p.v⟩ := by cases a <;> rfl
theorem nil_mrg (kind : Int) (b : List Pr) : mrg kind [] b = b.map fun p => ⟨p.k, fitV kind p.v⟩ := rfl
theorem mrg_cons (kind : Int) (p q : Pr) (a b : List Pr) : mrg kind (p :: a) (q :: b) = if p.k < q.k then ⟨p.k, fitV kind p.v⟩ :: mrg kind a (q :: b) else if q.k < p.k then ⟨q.k, fitV kind q.v⟩ :: mrg kind (p :: a) b else ⟨p.k, mergeV kind p.v q.v⟩ :: mrg kind a b := rfl
theorem mrg_lt {kind : Int} {p q : Pr} {a b : List Pr} (h : p.k < q.k) : mrg kind (p :: a) (q :: b) = ⟨p.k, fitV kind p.v⟩ :: mrg kind a (q :: b) := by rw [mrg_cons, if_pos h]
theorem mrg_gt {kind : Int} {p q : Pr} {a b : List Pr} (h : q.k < p.k) : mrg kind (p :: a) (q :: b) = ⟨q.k, fitV kind q.v⟩ :: mrg kind (p :: a) b := by rw [mrg_cons, if_neg (by omega), if_pos h]
theorem mrg_eq {kind : Int} {p q : Pr} {a b : List Pr} (h : p.k = q.k) : mrg kind (p :: a) (q :: b) = ⟨p.k, mergeV kind p.v q.v⟩ :: mrg kind a b := by rw [mrg_cons, if_neg (by omega), if_neg (by omega)]

theorem get_fits (kind : Int) (k : Nat) (a : List Pr) : getT k (a.map fun p => (⟨p.k, fitV kind p.v⟩ : Pr)) = fitV kind (getT k a) := by
  induction a with
  | nil => show noV = fitV kind noV; rw [fitV_no]
  | cons p a ih =>
    show (if p.k = k then fitV kind p.v else getT k (a.map _)) = fitV kind (if p.k = k then p.v else getT k a)
    split
    · rfl
    · exact ih

theorem mrg_keys (kind : Int) (n : Nat) : ∀ (a b : List Pr), a.length + b.length ≤ n → ∀ x ∈ mrg kind a b, (∃ p ∈ a, p.k = x.k) ∨ ∃ q ∈ b, q.k = x.k := by
  induction n with
  | zero =>
    intro a b h x hx
    have ha : a = [] := List.eq_nil_of_length_eq_zero (by omega)
    have hb : b = [] := List.eq_nil_of_length_eq_zero (by omega)
    subst ha; subst hb
    simp [mrg_nil] at hx
  | succ n ih =>
    intro a b h x hx
    cases b with
    | nil =>
      rw [mrg_nil] at hx
      obtain ⟨p, hp, rfl⟩ := List.mem_map.1 hx
      exact Or.inl ⟨p, hp, rfl⟩
    | cons q b =>
      cases a with
      | nil =>
        rw [nil_mrg] at hx
        obtain ⟨p, hp, rfl⟩ := List.mem_map.1 hx
        exact Or.inr ⟨p, hp, rfl⟩
      | cons p a =>
        simp only [List.length_cons] at h
        rcases Nat.lt_trichotomy p.k q.k with hl | he | hl
        · rw [mrg_lt hl] at hx
          rcases List.mem_cons.1 hx with rfl | hx
          · exact Or.inl ⟨p, by simp, rfl⟩
          · rcases ih a (q :: b) (by simp only [List.length_cons]; omega) x hx with ⟨y, hy, e⟩ | h
            · exact Or.inl ⟨y, List.mem_cons_of_mem _ hy, e⟩
            · exact Or.inr h
        · rw [mrg_eq he] at hx
          rcases List.mem_cons.1 hx with rfl | hx
          · exact Or.inl ⟨p, by simp, rfl⟩
          · rcases ih a b (by omega) x hx with ⟨y, hy, e⟩ | ⟨y, hy, e⟩
            · exact Or.inl ⟨y, List.mem_cons_of_mem _ hy, e⟩
            · exact Or.inr ⟨y, List.mem_cons_of_mem _ hy, e⟩
        · rw [mrg_gt hl] at hx
          rcases List.mem_cons.1 hx with rfl | hx
          · exact Or.inr ⟨q, by simp, rfl⟩
          · rcases ih (p :: a) b (by simp only [List.length_cons]; omega) x hx with h | ⟨y, hy, e⟩
            · exact Or.inl h
            · exact Or.inr ⟨y, List.mem_cons_of_mem _ hy, e⟩

theorem rise_fits {kind : Int} {a : List Pr} (h : Rise a) : Rise (a.map fun p => (⟨p.k, fitV kind p.v⟩ : Pr)) := by
  unfold Rise
  rw [List.pairwise_map]
  exact h
theorem has_fits {kind : Int} (hk : knownB kind = true) {a : List Pr} (h : hasT a) : hasT (a.map fun p => (⟨p.k, fitV kind p.v⟩ : Pr)) := by
  intro x hx
  obtain ⟨p, hp, rfl⟩ := List.mem_map.1 hx
  show (fitV kind p.v).h = true
  rw [fit_has hk]; exact h p hp

theorem mrg_all {kind : Int} (hk : knownB kind = true) (n : Nat) : ∀ (a b : List Pr), a.length + b.length ≤ n → Rise a → Rise b → hasT a → hasT b → Rise (mrg kind a b) ∧ hasT (mrg kind a b) ∧ ∀ k, getT k (mrg kind a b) = mergeV kind (getT k a) (getT k b) := by
  induction n with
  | zero =>
    intro a b h _ _ _ _
    have ha : a = [] := List.eq_nil_of_length_eq_zero (by omega)
    have hb : b = [] := List.eq_nil_of_length_eq_zero (by omega)
    subst ha; subst hb
    rw [mrg_nil]
    refine ⟨rise_nil, has_nil, fun k => ?_⟩
    show noV = mergeV kind noV noV
    rw [no_merge, fitV_no]
  | succ n ih =>
    intro a b h ra rb ha hb
    cases b with
    | nil =>
      rw [mrg_nil]
      exact ⟨rise_fits ra, has_fits hk ha, fun k => by rw [get_fits, show getT k [] = noV from rfl, merge_no]⟩
    | cons q b =>
      cases a with
      | nil =>
        rw [nil_mrg]
        exact ⟨rise_fits rb, has_fits hk hb, fun k => by rw [get_fits, show getT k [] = noV from rfl, no_merge]⟩
      | cons p a =>
        simp only [List.length_cons] at h
        obtain ⟨ra1, ra2⟩ := List.pairwise_cons.1 ra
        obtain ⟨rb1, rb2⟩ := List.pairwise_cons.1 rb
        have ha2 : hasT a := fun x hx => ha x (List.mem_cons_of_mem _ hx)
        have hb2 : hasT b := fun x hx => hb x (List.mem_cons_of_mem _ hx)
        rcases Nat.lt_trichotomy p.k q.k with hl | he | hl
        · obtain ⟨i1, i2, i3⟩ := ih a (q :: b) (by simp only [List.length_cons]; omega) ra2 rb ha2 hb
          rw [mrg_lt hl]
          refine ⟨List.pairwise_cons.2 ⟨fun x hx => ?_, i1⟩, fun x hx => ?_, fun k => ?_⟩
          · show p.k < x.k
            rcases mrg_keys kind _ a (q :: b) (Nat.le_refl _) x hx with ⟨y, hy, e⟩ | ⟨y, hy, e⟩
            · rw [← e]; exact ra1 y hy
            · rw [← e]
              rcases List.mem_cons.1 hy with rfl | hy
              · exact hl
              · have := rb1 y hy; omega
          · rcases List.mem_cons.1 hx with rfl | hx
            · show (fitV kind p.v).h = true; rw [fit_has hk]; exact ha p (by simp)
            · exact i2 x hx
          · show (if p.k = k then fitV kind p.v else getT k (mrg kind a (q :: b))) = mergeV kind (if p.k = k then p.v else getT k a) (getT k (q :: b))
            split
            · rename_i e
              have : getT k (q :: b) = noV := get_none fun y hy => by
                rcases List.mem_cons.1 hy with rfl | hy
                · omega
                · have := rb1 y hy; omega
              rw [this, merge_no]
            · exact i3 k
        · obtain ⟨i1, i2, i3⟩ := ih a b (by omega) ra2 rb2 ha2 hb2
          rw [mrg_eq he]
          refine ⟨List.pairwise_cons.2 ⟨fun x hx => ?_, i1⟩, fun x hx => ?_, fun k => ?_⟩
          · show p.k < x.k
            rcases mrg_keys kind _ a b (Nat.le_refl _) x hx with ⟨y, hy, e⟩ | ⟨y, hy, e⟩
            · rw [← e]; exact ra1 y hy
            · rw [← e, he]; exact rb1 y hy
          · rcases List.mem_cons.1 hx with rfl | hx
            · show (mergeV kind p.v q.v).h = true; rw [merge_has hk, ha p (by simp)]; rfl
            · exact i2 x hx
          · show (if p.k = k then mergeV kind p.v q.v else getT k (mrg kind a b)) = mergeV kind (if p.k = k then p.v else getT k a) (if q.k = k then q.v else getT k b)
            split
            · rename_i e
              rw [if_pos (by omega)]
            · rename_i e
              rw [if_neg (by omega)]; exact i3 k
        · obtain ⟨i1, i2, i3⟩ := ih (p :: a) b (by simp only [List.length_cons]; omega) ra rb2 ha hb2
          rw [mrg_gt hl]
          refine ⟨List.pairwise_cons.2 ⟨fun x hx => ?_, i1⟩, fun x hx => ?_, fun k => ?_⟩
          · show q.k < x.k
            rcases mrg_keys kind _ (p :: a) b (Nat.le_refl _) x hx with ⟨y, hy, e⟩ | ⟨y, hy, e⟩
            · rw [← e]
              rcases List.mem_cons.1 hy with rfl | hy
              · exact hl
              · have := ra1 y hy; omega
            · rw [← e]; exact rb1 y hy
          · rcases List.mem_cons.1 hx with rfl | hx
            · show (fitV kind q.v).h = true; rw [fit_has hk]; exact hb q (by simp)
            · exact i2 x hx
          · show (if q.k = k then fitV kind q.v else getT k (mrg kind (p :: a) b)) = mergeV kind (getT k (p :: a)) (if q.k = k then q.v else getT k b)
            split
            · rename_i e
              have : getT k (p :: a) = noV := get_none fun y hy => by
                rcases List.mem_cons.1 hy with rfl | hy
                · omega
                · have := ra1 y hy; omega
              rw [this, no_merge]
            · exact i3 k

theorem mrg_add {kind : Int} (hk : knownB kind = true) {a b : List Pr} (ra : Rise a) (rb : Rise b) (ha : hasT a) (hb : hasT b) (oa : okT a) (ob : okT b) : mrg kind a b = addT kind a b := by
  obtain ⟨h1, h2, h3⟩ := mrg_all hk _ a b (Nat.le_refl _) ra rb ha hb
  refine ext_T h1 (rise_adds rise_nil _) h2 (has_adds hk has_nil ?_) fun k => ?_
  · intro p hp
    rcases List.mem_append.1 hp with h | h
    · exact ha p h
    · exact hb p h
  · rw [h3, get_add ra rb oa ob]

set_option maxRecDepth 100000 in
set_option maxHeartbeats 2000000 in
theorem rsound_walk {ao : Option Addr} {ca : Nat} {l : List Pr} {w : World} (hl : l.length ≤ maxLen) (ha : Ql w ao l) :
    Calls Try.prog 10 #[.slice ao l.length ca] w fun e w' => e = .returned (.bool (tabB l)) ∧ Below w.heap.size w w' := by
  have hli : (l.length : Int) ≤ 9223372036854775807 := by simp only [maxLen] at hl; omega
  have HA : Hid (Ql w ao l) := ha
  clear ha hl
  go_enter Try.func10, Try.ntmps10
  go_wp2_with fail
  go_loopw [3] (fun iv wr => Sd w l iv wr) (fun iv _ => l.length - (intOf iv).toNat)
  case atStart => exact ⟨0, Nat.zero_le _, rfl, fun j hj => by omega, below_same _⟩
  case round =>
    obtain ⟨i, hi, rfl, hgood, hB⟩ := hrel
    have HG : Hid (∀ j, j < i → goodAt l j) := hgood
    have HB : Hid (Below w.heap.size w wr) := hB
    clear hgood hB
    by_cases hlt : i < l.length
    · obtain ⟨b, off, rfl, c0, c1, c2⟩ := HA.out.below HB.out i hlt
      obtain ⟨o, hoe⟩ : ∃ o, o = l[i] := ⟨_, rfl⟩
      rw [← hoe] at c0 c1 c2
      have HE : Hid (o = l[i]) := hoe
      clear hoe
      have hil : (i : Int) < (l.length : Int) := by omega
      cases hh : o.v.h
      · have HT : Hid (tabB l = false) := tab_none hlt (by rw [← HE.out]; exact hh)
        rw [hh] at c1
        clear hh
        go_wp2_with fail
        go_quiet (fail)
        go_wp2_with fail
        go_ret
        exact ⟨ret_bool HT.out.symm, below_trans HB.out (below_drewN _ _)⟩
      · have HH : Hid (o.v.h = true) := hh
        rw [hh] at c1
        clear hh
        by_cases h0 : i = 0
        · subst h0
          simp only [Nat.zero_mul, Nat.add_zero] at c0 c1 c2
          have R' : ∀ n, Sd w l (.int .i64 (((0 : Nat) : Int) + 1)) (wr.drewN n) := fun n => sd_step hlt HG.out (good_zero hlt HE.out HH.out) HB.out (below_drewN _ _)
          go_wp2_with fail
          go_quiet (fail)
          go_wp2_with fail
          go_roundw
          case rel => exact R' _
          case measure => simp [intOf]; omega
        · obtain ⟨b2, off2, e2, g0, g1, g2⟩ := HA.out.below HB.out (i - 1) (by omega)
          cases e2
          obtain ⟨q, hqe⟩ : ∃ q, q = l[i - 1] := ⟨_, rfl⟩
          rw [← hqe] at g0 g1 g2
          have HQ : Hid (q = l[i - 1]) := hqe
          clear hqe g1 g2
          have hi0 : (0 : Int) < (i : Int) := by omega
          obtain ⟨j, hj⟩ : ∃ j, i = j + 1 := ⟨i - 1, by omega⟩
          subst hj
          simp only [Nat.add_sub_cancel] at g0
          have hwj : IntKind.i64.wrap (j : Int) = j := wrap_small (by omega) (by omega)
          have hjl : j < l.length := by omega
          by_cases hk : q.k < o.k
          · have R' : ∀ n, Sd w l (.int .i64 (((j + 1 : Nat) : Int) + 1)) (wr.drewN n) := fun n => sd_step hlt HG.out (good_more hlt HE.out HQ.out HH.out hk) HB.out (below_drewN _ _)
            have hkb : ¬ ((o.k : Int) ≤ (q.k : Int)) := by omega
            clear hk
            go_wp2_with fail
            go_quiet (fail)
            go_wp2_with fail
            go_roundw
            case rel => exact R' _
            case measure => simp [intOf]; omega
          · have HT : Hid (tabB l = false) := tab_falls hlt (by omega) (by rw [← HE.out, ← HQ.out]; exact hk)
            have hkb : (o.k : Int) ≤ (q.k : Int) := by omega
            clear hk
            go_wp2_with fail
            go_quiet (fail)
            go_wp2_with fail
            go_ret
            exact ⟨ret_bool HT.out.symm, below_trans HB.out (below_drewN _ _)⟩
    · have HT : Hid (tabB l = true) := tab_good fun j hj => HG.out j (by omega)
      have hil : ¬ ((i : Int) < (l.length : Int)) := by omega
      go_wp2_with fail
      go_ret
      exact ⟨ret_bool HT.out.symm, HB.out⟩

theorem wp_app_run {P : Program} {o : Oper} {a : Act} {w w' : World} {K : Act → World → Prop} {Q : Exit → Act → World → Prop} (s x : Operand) (t : TypeId) (ho : o.op = .call { callee := .builtin .append, args := #[s, x], argTypes := #[t, t] })
    (v1 v2 : Value) {v' : Value} (hs : a.eval s = v1) (hx : a.eval x = v2) (hr : (Builtin.append_ #[t, t] o.type #[v1, v2]).run P w = .ok v' w') (h : K (a.put o.dst v') w') : o.wp P a w K Q := by
  unfold Oper.wp execOp
  simp only [ho, resolve, invoke, builtin, Sem.run_bind, Sem.run_pure, Result.andThen_ok, List.map_toArray, List.map_cons, List.map_nil, hs, hx, hr]
  exact h
end Go.Proofs.Ytfcpooihihklaaa
