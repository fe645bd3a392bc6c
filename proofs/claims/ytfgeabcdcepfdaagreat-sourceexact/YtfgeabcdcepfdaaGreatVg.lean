/- Keys: the map gone through, sorted. -/
import Derived.Test.YtfgeabcdcepfdaaGreatVf
namespace Go.Proofs.YtfgeabcdcepfdaaGreat
open Ieee Go.RowKit

theorem left_stepK {t : List Nat} (h : RiseK t) {p : Nat} (hp : p ∈ t) (left : Lit → Bool) (hl : left (kK p) = true) {m : List Nat} (hm : m.Perm (t.filter fun q => !left (kK q))) :
    (m ++ [p]).Perm (t.filter fun q => !(left (kK q) && !(kK q).sameKey (kK p))) := by
  refine (List.perm_append_comm.trans ((hm.cons p))).trans ?_
  clear hm
  induction t with
  | nil => simp at hp
  | cons a t ih =>
    obtain ⟨h1, h2⟩ := List.pairwise_cons.1 h
    rcases List.mem_cons.1 hp with rfl | hp
    · have e1 : t.filter (fun q => !(left (kK q) && !(kK q).sameKey (kK p))) = t.filter (fun q => !left (kK q)) := by
        refine List.filter_congr fun q hq => ?_
        have := h1 q hq
        rw [kK_same, decide_eq_false (by omega)]; simp
      rw [List.filter_cons_of_neg (by simp [hl]), List.filter_cons_of_pos (by rw [kK_same]; simp), e1]
    · have hne : (kK a).sameKey (kK p) = false := by have := h1 p hp; rw [kK_same, decide_eq_false (by omega)]
      cases hla : left (kK a)
      · rw [List.filter_cons_of_pos (by simp [hla]), List.filter_cons_of_pos (by simp [hla])]
        exact (List.Perm.swap _ _ _).trans ((ih h2 hp).cons a)
      · rw [List.filter_cons_of_neg (by simp [hla]), List.filter_cons_of_neg (by simp [hla, hne])]
        exact ih h2 hp
theorem sorted_isK {t m : List Nat} (h : RiseK t) (hp : m.Perm t) (hs : m.Pairwise (fun p q => ¬ q < p)) : m = t := by
  induction m generalizing t with
  | nil => rw [List.nil_perm.1 hp]
  | cons a m ih =>
    obtain ⟨s1, s2⟩ := List.pairwise_cons.1 hs
    cases t with
    | nil => exact absurd hp.length_eq (by simp)
    | cons b t =>
      obtain ⟨h1, h2⟩ := List.pairwise_cons.1 h
      have hab : a = b := by
        have ha : a ∈ b :: t := hp.mem_iff.1 (by simp)
        have hb : b ∈ a :: m := hp.mem_iff.2 (by simp)
        rcases List.mem_cons.1 ha with e | ha
        · exact e
        · rcases List.mem_cons.1 hb with e | hb
          · exact e.symm
          · have k1 := h1 a ha
            have k2 := s1 b hb
            omega
      subst hab
      rw [ih h2 ((List.perm_cons a).1 hp) s2]
theorem perm_endK {t m : List Nat} {left : Lit → Bool} (h : m.Perm (t.filter fun q => !left (kK q))) (hl : ∀ kl, left kl = false) : m.Perm t := by
  have : t.filter (fun q => !left (kK q)) = t := List.filter_eq_self.2 fun q _ => by simp [hl]
  rw [this] at h; exact h
theorem perm_startK (t : List Nat) : ([] : List Nat).Perm (t.filter fun q => !Maps.has (dK t) (kK q)) := by
  have : t.filter (fun q => !Maps.has (dK t) (kK q)) = [] := List.filter_eq_nil_iff.2 fun q hq => by rw [has_K]; simp [hq]
  rw [this]

/-- One step of a loop over a set. -/
theorem wpList_next_K {w : World} {ops : Array Oper} {rest : List Oper} {o : Oper} {a : Act} {Q : Exit → Act → World → Prop} (hg : o.guard = none) (it : Operand) (hop : o.op = Op.next it false)
    (b r n : Nat) (t : List Nat) (left : Lit → Bool) (cnt : Nat) (hit : a.eval it = .pointer (some ⟨r, 0, none⟩)) (h : w.ranges Tryz.prog 35 unitElem b r n (dK t) left cnt)
    (hDone : (∀ kl, left kl = false) → wpList Tryz.prog ops Q rest (a.put o.dst (.tuple #[.bool false])) w)
    (hMore : ∀ (k : Nat) (w' : World) (cnt' : Nat), k ∈ t → left (kK k) = true → w'.ranges Tryz.prog 35 unitElem b r n (dK t) (fun z => left z && !z.sameKey (kK k)) cnt' → cnt' < cnt → w.grownBy w' (some r) → w'.heap.size = w.heap.size →
      (Instr.entry (.pointer (some ⟨r, 0, none⟩))).run Tryz.prog w' = .ok (.tuple #[.int .u64 k, .agg #[]]) w' →
      wpList Tryz.prog ops Q rest (a.put o.dst (.tuple #[.bool true, .int .u64 k, .agg #[]])) w') :
    wpList Tryz.prog ops Q (o :: rest) a w := by
  refine wpList_next_ranges w hg it hop 35 law_k unitElem (fun x : Int => Value.int .u64 x) (fun _ : Unit => Value.agg #[]) (fun key kl hkey => ?_) (fun v y hv => ?_) b r n (dK t) left cnt hit h (fun _ hl => hDone hl) (fun x c kl y w' cnt' hkey hlk hv hat hrg hlt hgr hsz hen => ?_)
  · obtain ⟨x, rfl, _⟩ := Maps.keyOf_int_inv Tryz.underlying35 hkey; exact ⟨x, rfl⟩
  · obtain ⟨rfl, _⟩ := unitElem_inv hv; exact ⟨(), rfl⟩
  · obtain ⟨x', ex, rfl, hwx⟩ := Maps.keyOf_int_inv Tryz.underlying35 hkey
    cases ex
    have h0 : 0 ≤ x := by
      have : 0 ≤ x ∧ x ≤ 18446744073709551615 := by simpa [Lit.wf, IntKind.min, IntKind.max, IntKind.signed, IntKind.bits] using hwx
      omega
    obtain ⟨k, rfl⟩ : ∃ k : Nat, x = k := ⟨x.toNat, by omega⟩
    have hm : k ∈ t := by
      have := Maps.has_true_of_atKey hat
      rw [show Lit.int .u64 (k : Int) = kK k from rfl, has_K] at this
      simpa using this
    exact hMore k w' cnt' hm hlk hrg hlt hgr hsz hen

theorem own_un {w : World} {base g n cap : Nat} {m : List Nat} (h : w.ownsRow base 35 1 (.slice (some ⟨g, 0, none⟩) n cap) n (m.map fun k => .int .u64 (k : Nat))) : Un w g 0 cap m.toArray := by
  obtain ⟨h1, h2⟩ := h
  have hn : n = m.length := by simp at h1; omega
  subst hn
  rcases h2 with ⟨h, _⟩ | ⟨g', cap', cur, e1, hb, hg, hnc, hcm, hcs, htake⟩
  · cases h
  · simp only [Value.slice.injEq, Option.some.injEq, Addr.mk.injEq] at e1
    obtain ⟨⟨rfl, _⟩, _, rfl⟩ := e1
    refine ⟨cur, hg, by simpa using hcs, by simpa using hnc, fun j hj => ?_⟩
    have hj' : j < m.length := by simpa using hj
    have e := congrArg (fun l => l[j]?) htake
    simp only [List.getElem?_take, Nat.mul_one, if_pos hj', List.getElem?_map, List.getElem?_eq_getElem hj'] at e
    rw [Nat.zero_add, ← Array.getElem?_toList, e]
    simp [hj']
theorem un_own {w : World} {base g cap : Nat} {d : Array Nat} {l : List Nat} (h : Un w g 0 cap d) (hd : d.toList = l) (hb : base ≤ g) (hc : cap ≤ maxLen) : w.ownsRow base 35 1 (.slice (some ⟨g, 0, none⟩) l.length cap) l.length (l.map fun k => .int .u64 (k : Nat)) := by
  obtain ⟨cur, h1, h2, h3, h4⟩ := h
  have hl : l.length = d.size := by rw [← hd]; simp
  refine ⟨by simp, .inr ⟨g, cap, cur, rfl, hb, h1, by omega, hc, by omega, ?_⟩⟩
  apply List.ext_getElem?
  intro j
  by_cases hj : j < l.length
  · rw [List.getElem?_take, if_pos (by omega), Array.getElem?_toList]
    have := h4 j (by omega)
    rw [Nat.zero_add] at this
    rw [this]
    have hj2 : j < d.size := by omega
    have e : d[j]! = l[j] := by rw [getElem!_pos d j hj2]; simp [← hd]
    rw [e, List.getElem?_map, List.getElem?_eq_getElem hj]; rfl
  · rw [List.getElem?_take, if_neg (by omega), List.getElem?_eq_none (by simp; omega)]
theorem sorted_list {n : Nat} {d d' : Array Nat} {l : List Nat} (hn : d.size = n) (hn' : d'.size = n) (hp : Sort.PermIn 0 n d d') (hs : Sort.SortedIn ltN 0 n d') (hd : d.toList.Perm l) (hl : RiseK l) : d'.toList = l := by
  have h1 : d'.toList.Perm d.toList := by
    have := hp.2.2
    have e1 : (d'.extract 0 n) = d' := by rw [← hn']; simp
    have e2 : (d.extract 0 n) = d := by rw [← hn]; simp
    rw [e1, e2] at this; exact this
  refine sorted_isK hl (h1.trans hd) ?_
  rw [List.pairwise_iff_getElem]
  intro i j hi hj hij
  have := hs i j (Nat.zero_le _) hij (by simp at hj; omega)
  simp at hi hj
  rw [getElem!_pos d' j hj, getElem!_pos d' i hi] at this
  simpa [ltN] using this

theorem one_k (w : World) (k : Nat) : ∀ (j : Nat) (u : Value), ([.int .u64 (k : Nat)] : List Value)[j]? = some u → (w.alloc (Obj.cells #[.int .u64 (k : Nat)] 35)).cell? ((⟨w.heap.size, 0, none⟩ : Addr).add j) = some u := by
  intro j u hj
  cases j with
  | zero => simp at hj; subst hj; simp [go_sem]
  | succ j => simp at hj

/-- Where the loop over the keys stands. -/
def Ky6 (w : World) (g r b n : Nat) (t : List Nat) (mv : Value) (wr : World) : Prop :=
  ∃ (left : Lit → Bool) (cnt : Nat) (m : List Nat), wr.ranges Tryz.prog 35 unitElem b r n (dK t) left cnt ∧ m.Perm (t.filter fun q => !left (kK q)) ∧ m.length + cnt ≤ t.length ∧
    mv = .slice (some ⟨g, 0, none⟩) m.length t.length ∧ wr.ownsRow g 35 1 (.slice (some ⟨g, 0, none⟩) m.length t.length) m.length (m.map fun k => .int .u64 (k : Nat)) ∧ Below w.heap.size w wr

theorem info_u64K : (Tryz.prog.info? 35).map (fun i => (i.zero, i.size, i.bytes)) = some (some (.int .u64 0), 1, 8) := by kernel_rfl

theorem keys_nil (w : World) : Calls Tryz.prog 9 #[.pointer none] w fun e w' => e = .returned (.slice none 0 0) ∧ w' = w := by
  go_enter Tryz.func9, Tryz.ntmps9
  go_wp2_with fail
  go_ret
  exact ⟨rfl, rfl⟩

set_option maxRecDepth 100000 in
set_option maxHeartbeats 4000000 in
theorem keys_walk {D : Nat → Prop} {w : World} {v : Value} {S : Sc} (h : Src D w v S) :
    Calls Tryz.prog 9 #[v] w fun e w' => ∃ r, e = .returned r ∧ w'.ownsRow w.heap.size 35 1 r S.keys.length (S.keys.map fun k => .int .u64 (k : Nat)) ∧ Below w.heap.size w w' := by
  obtain ⟨sb, gp, gm, lv, rv, rfl, h, hok⟩ := h
  have c2 := h.c2
  obtain ⟨t, ht⟩ : ∃ t, t = S.keys := ⟨_, rfl⟩
  rw [← ht]
  have HSM : Hid (SM D w sb gp gm lv rv S) := h
  have HM : Hid (Ks w gm t) := by show Ks _ _ _; rw [ht]; exact h.keys
  have HR : Hid (RiseK t) := by show RiseK _; rw [ht]; exact hok.kr
  have HL : Hid (t.length ≤ 64) := by show _ ≤ _; rw [ht]; exact hok.kl
  have HBL : Hid (gm < w.heap.size) := h.keys.lt
  have hln := ks_len HM.out 3
  have hl64 : t.length ≤ 64 := HL.out
  obtain ⟨i0, hi0, hz0, hz1, hz2⟩ := info_partsV info_u64K
  have HI0 : Hid (Tryz.prog.info? 35 = some i0) := hi0
  have HI1 : Hid (i0.zero = some (.int .u64 0)) := hz0
  have HI2 : Hid (i0.size = 1) := hz1
  have HI3 : Hid (i0.bytes = 8) := hz2
  have HC2 : Hid (∀ wx, Below w.heap.size w wx → wx.cell? ⟨sb, 2, none⟩ = some (.map (some gm))) := fun wx hb => (HSM.out.below hb).c2
  clear h hok ht hi0 hz0 hz1 hz2
  go_enter Tryz.func9, Tryz.ntmps9
  go_wp2_with (first
    | (at_make; refine wpList_make_own _ (by rfl) _ _ 43 (by rfl) w.heap.size 35 i0 (.int .u64 0) 1 Tryz.underlying43 HI0.out HI1.out HI2.out .i64 .i64 _ t.length (by rfl) (by rfl) (by rfl) (by rw [HI3.out]; omega) (by simp only [maxLen]; omega) (Nat.le_refl _) ?_; intro w2 hown hgrow; have c2' := HC2.out w2 ((Below.refl _ _).grown hgrow (Nat.le_refl _) (by simp)))
    | (at_range; refine wpList_range_own _ rfl _ 60 rfl 35 80 law_k Tryz.underlying60 unitElem gm t.length (dK t) rfl (World.ownsMap.kept HM.out hgrow (by simp)) ?_; intro w3 hrg0 hg3 hs3))
  go_frame
  have R0 : Ky6 w w.heap.size w2.heap.size gm t.length t (.slice (some ⟨w.heap.size, 0, none⟩) 0 t.length) w3 :=
    ⟨_, _, [], hrg0, perm_startK t, by rw [size_K]; simp, rfl, hown.kept hg3 (Or.inr (by simp [Value.ownBlock])), ((Below.refl _ _).grown hgrow (Nat.le_refl _) (by simp)).grown hg3 (Nat.le_of_lt (hown.lt w.heap.size rfl).2) (by simp)⟩
  have HGR : Hid (w.heap.size < w2.heap.size) := (hown.lt w.heap.size rfl).2
  clear hown hgrow hrg0 hg3 hs3 hln c2 c2'
  go_loopw [3] (fun mv wr => Ky6 w w.heap.size w2.heap.size gm t.length t mv wr) (fun _ wr => wr.rangeLeft gm w2.heap.size)
  case atStart => exact R0
  case round =>
    clear R0
    obtain ⟨left, cnt, m, hrg, hpm, hmc, rfl, hown, hB⟩ := hrel
    have HRG : Hid (wr.ranges Tryz.prog 35 unitElem gm w2.heap.size t.length (dK t) left cnt) := hrg
    have HPM : Hid (m.Perm (t.filter fun q => !left (kK q))) := hpm
    have HMC : Hid (m.length + cnt ≤ t.length) := hmc
    have HOW : Hid (wr.ownsRow w.heap.size 35 1 (.slice (some ⟨w.heap.size, 0, none⟩) m.length t.length) m.length (m.map fun k => .int .u64 (k : Nat))) := hown
    have HB : Hid (Below w.heap.size w wr) := hB
    clear hrg hpm hmc hown hB
    go_wp2_with (at_next; refine wpList_next_K (by rfl) _ rfl gm w2.heap.size t.length t left cnt rfl HRG.out ?_ ?_)
    · intro hleft
      have HP : Hid (m.Perm t) := perm_endK HPM.out hleft
      have HML : Hid (m.length = t.length) := HP.out.length_eq
      clear hleft
      go_wp2_with fail
      refine (usort_walk (own_un HOW.out) (by simp) (by have := HML.out; omega)).mono ?_
      rintro e w5 ⟨rfl, d', hU, hPm, hSo⟩
      have HE : Hid (d'.toList = t) := sorted_list (d := m.toArray) (by simp) hU.size hPm hSo (by simpa using HP.out) HR.out
      have HO5 : Hid (w5.ownsRow w.heap.size 35 1 (.slice (some ⟨w.heap.size, 0, none⟩) t.length t.length) t.length (t.map fun k => .int .u64 (k : Nat))) := un_own hU.row HE.out (Nat.le_refl _) (by simp only [maxLen]; omega)
      have HB5 : Hid (Below w.heap.size w w5) := HB.out.grown hU.grown HB.out.size (by simp)
      clear hU hPm hSo
      rw [HML.out]
      go_wp2_with fail
      go_ret
      exact ⟨_, rfl, HO5.out, HB5.out⟩
    · intro k w4 cnt1 hp hlx hrg1 hlt hg1 hs1 hen
      have HP : Hid (k ∈ t) := hp
      have HLX : Hid (left (kK k) = true) := hlx
      have HRG1 : Hid (w4.ranges Tryz.prog 35 unitElem gm w2.heap.size t.length (dK t) (fun z => left z && !z.sameKey (kK k)) cnt1) := hrg1
      have HG1 : Hid (wr.grownBy w4 (some w2.heap.size)) := hg1
      have HLT : Hid (cnt1 < cnt) := hlt
      clear hp hlx hrg1 hlt hg1 hs1
      have HOW1 : Hid (w4.ownsRow w.heap.size 35 1 (.slice (some ⟨w.heap.size, 0, none⟩) m.length t.length) m.length (m.map fun k => .int .u64 (k : Nat))) := HOW.out.kept HG1.out (Or.inr (by have := HGR.out; simp [Value.ownBlock]; omega))
      have hfit : m.length + 1 ≤ t.length := by have := HMC.out; have := HLT.out; omega
      go_wp2_with (at_builtin; refine wpList_append_fits _ (by rfl) _ _ 43 (by rfl) w.heap.size 35 i0 1 Tryz.underlying43 HI0.out HI2.out w.heap.size m.length t.length (m.map fun k => .int .u64 (k : Nat)) (by rfl) (HOW1.out.alloc _) ⟨w4.heap.size, 0, none⟩ 1 1 [.int .u64 k] (by rfl) rfl (one_k w4 k) (by simp [Value.oneCell']) hfit ?_; intro w6 hown6 hgrow6)
      have hg6 : w4.grownBy w6 (some w.heap.size) := ((World.grownBy_alloc w4 _ none).but _).andThen hgrow6 (fun j hj => Or.inr hj)
      have hrg6 := HRG1.out.kept hg6 (by have := HBL.out; simp; omega) (by have := HGR.out; simp; omega)
      have R' : Ky6 w w.heap.size w2.heap.size gm t.length t (.slice (some ⟨w.heap.size, 0, none⟩) (m.length + 1) t.length) w6 :=
        ⟨_, cnt1, m ++ [k], hrg6, left_stepK HR.out HP.out left HLX.out HPM.out, by have := HMC.out; have := HLT.out; simp; omega, by simp, by simpa using hown6,
          (HB.out.grown HG1.out HB.out.size (by have := HGR.out; simp; omega)).grown hg6 (Nat.le_trans HB.out.size HG1.out.size) (by simp)⟩
      have hms : w6.rangeLeft gm w2.heap.size < wr.rangeLeft gm w2.heap.size := by rw [hrg6.left_eq, HRG.out.left_eq]; exact HLT.out
      clear hown6 hgrow6 hg6 hrg6
      go_wp2_with fail
      go_roundw
      case rel => exact R'
      case measure => exact hms
end Go.Proofs.YtfgeabcdcepfdaaGreat
