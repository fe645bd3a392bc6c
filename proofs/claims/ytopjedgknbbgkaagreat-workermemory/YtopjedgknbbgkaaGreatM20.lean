/- Contracts of the reference's Fit, of both Merge. -/
import Derived.Test.YtopjedgknbbgkaaGreatAd
import Derived.Test.YtopjedgknbbgkaaGreatM17
import Derived.Shelf.SlSortCmp.WholeK
import Derived.Test.YtopjedgknbbgkaaGreatGb
import Derived.Deep.DeepCutAuto
import Derived.Deep.RegionHeld3
namespace Go.Proofs.YtopjedgknbbgkaaGreat

open Go.RowKit



set_option maxRecDepth 100000 in
set_option maxHeartbeats 4000000 in
theorem count_walk {w : World} {p : Pn} {a : At} (h : Ao w p a) (hp : p.n ≤ 4) : Calls Tryz.prog 59 #[.pointer (some ⟨a.x, 0, none⟩)] w fun e w' => e = .returned (.int .i64 (a.h.A.countP id : Nat)) ∧ Below w.heap.size w w' := by
  have a3 := h.cells.2.2.2.1
  have HP : Hid (w.ownsRow a.lo 4 1 a.av a.h.A.length (a.h.A.map Value.bool)) := h.app
  obtain ⟨A, hA⟩ : ∃ A, A = a.h.A := ⟨_, rfl⟩
  rw [← hA] at HP ⊢
  have HL : Hid (A.length ≤ 4) := by show _ ≤ _; rw [hA, h.al]; exact hp
  obtain ⟨va, vc, hv⟩ := own_formN HP.out
  rw [hv] at a3 HP
  have hl : (A.length : Int) ≤ 4 := by have := HL.out; omega
  clear hA hv h hp
  go_enter Tryz.func59, Tryz.ntmps59
  go_wp2_with fail
  go_loopw [3, 11] (fun cv iv wr => ∃ i : Nat, iv = .int .i64 i ∧ i ≤ A.length ∧ cv = .int .i64 ((A.take i).countP id : Nat) ∧ wr = w) (fun _ iv _ => A.length - (intOf iv).toNat)
  case atStart => exact ⟨0, rfl, Nat.zero_le _, rfl, rfl⟩
  case round =>
    obtain ⟨i, rfl, hil, rfl, rfl⟩ := hrel
    by_cases hlt : i < A.length
    · have hlti : (i : Int) < (A.length : Int) := by omega
      have hltd : decide (i < A.length) = true := decide_eq_true hlt
      obtain ⟨g, cap, hg, _⟩ := row_formN HP.out (by omega)
      cases hg
      have c0 := (own_cellN HP.out (j := i) (u := .bool A[i]) (by rw [List.getElem?_map, List.getElem?_eq_getElem hlt]; rfl)).1
      have HT : Hid ((A.take (i + 1)).countP id = (A.take i).countP id + (if A[i] then 1 else 0)) := by
        show _ = _
        rw [List.take_add_one, List.getElem?_eq_getElem hlt, List.countP_append]
        cases A[i] <;> rfl
      have hcn : ((A.take i).countP id : Int) ≤ 4 := by have h1 := List.countP_le_length (p := id) (l := A.take i); have h2 := List.length_take_le i A; have h3 := HL.out; omega
      obtain ⟨y, hy⟩ : ∃ y, y = A[i] := ⟨_, rfl⟩
      rw [← hy] at c0 HT
      clear hy
      cases y with
      | false =>
        go_wp2_with fail
        go_roundw
        case rel => exact ⟨i + 1, by go_num, hlt, by rw [HT.out]; rfl, trivial⟩
        case measure => simp [intOf]; omega
      | true =>
        go_wp2_with fail
        go_roundw
        case rel => exact ⟨i + 1, by go_num, hlt, by rw [HT.out]; go_num, trivial⟩
        case measure => simp [intOf]; omega
    · have hlti : ¬ (i : Int) < (A.length : Int) := by omega
      obtain rfl : i = A.length := by omega
      go_wp2_with fail
      go_ret
      exact ⟨rfl, Below.refl _ _⟩


set_option maxRecDepth 100000 in
theorem cloneQ_walk {v : Value} {l : List Pr} {w : World} (ho : Qv w v l) (hl : l.length ≤ 1048576) :
    Calls Tryz.prog 96 #[v] w fun e w' => ∃ v', e = .returned v' ∧ w'.ownsRow w.heap.size 65 3 v' l.length (flatQ l) ∧ Below w.heap.size w w' := by
  have HO : Hid (Qv w v l) := ho
  obtain ⟨⟨ao, cap, rfl, h1, h2, h3, _⟩, _⟩ := ho
  have HL : Hid (l.length ≤ 1048576) := hl
  have H3 : Hid (ao = none → cap = 0) := h3
  have H1 : Hid (l.length ≤ cap) := h1
  obtain ⟨i0, hi0, hz0, hz1, hz2⟩ := info_partsQ info_pair
  have q : ∀ (w : World) (a : Option Addr) (n c : Nat), (binOp .eql 42 (.slice a n c) (.slice none 0 0)).run Tryz.prog w = .ok (.bool a.isNone) w := fun w a n c => Lib.run_eql_slice_nil w 42 65 a n c 0 0 Tryz.underlying42
  clear hl h1 h2 h3
  cases ao with
  | none =>
    have hc := H3.out rfl
    subst hc
    have hl0 : l.length = 0 := by have := H1.out; omega
    have hl : l = [] := List.eq_nil_of_length_eq_zero hl0
    subst hl
    rw [List.length_nil]
    go_enter Tryz.func96, Tryz.ntmps96
    go_wp2_with fail
    go_ret
    exact ⟨_, rfl, World.ownsRow_nil _ _ _ _, below_same _⟩
  | some p =>
    go_enter Tryz.func96, Tryz.ntmps96
    go_wp2_with (at_builtin; refine wpList_append_qs (by rfl) _ _ 42 (by rfl) w.heap.size 65 i0 Tryz.underlying42 hi0 hz0 hz1 hz2 _ 0 [] (by rfl) (World.ownsRow_made w #[] 0 (Nat.le_refl _) (by simp [maxLen]) (by simp)) _ l (by rfl) (HO.out.below (below_alloc _ _)) (by have := HL.out; simp [maxLen]; omega) (by have := HL.out; omega) (by simp) ?_; intro v' w2 hown hgrow; go_frame)
    go_ret
    refine ⟨_, rfl, by simpa using hown, ?_⟩
    exact (below_alloc w (Obj.cells #[] 65)).grown hgrow (by simp) (by simp [Value.ownBlock])


/-- What slices.Equal leaves: whether the lists are one. -/
def EqGot {α : Type} (l m : List α) (w : World) (e : Ending) (w' : World) : Prop := (∃ t, e = .returned (.bool t) ∧ (t = true ↔ l = m)) ∧ Below w.heap.size w w'
theorem eqgot_no {α : Type} {l m : List α} {w w' : World} (h : l ≠ m) (hb : Below w.heap.size w w') : EqGot l m w (.returned (.bool false)) w' := ⟨⟨false, rfl, by simp; exact h⟩, hb⟩
theorem eqgot_yes {α : Type} {l m : List α} {w w' : World} (h : l = m) (hb : Below w.heap.size w w') : EqGot l m w (.returned (.bool true)) w' := ⟨⟨true, rfl, by simp; exact h⟩, hb⟩


theorem nv_form2 {w : World} {v : Value} {l : List Int} (h : Nv w v l) : ∃ ao cap, v = .slice ao l.length cap ∧ l.length ≤ cap ∧ cap ≤ maxLen := by
  obtain ⟨⟨ao, cap, e, h1, h2, _⟩, _⟩ := h
  exact ⟨ao, cap, e, h1, h2⟩
theorem nv_cases {w : World} {v : Value} {l : List Int} (h : Nv w v l) : (l = [] ∧ True) ∨ ∃ b o c, v = .slice (some ⟨b, o, none⟩) l.length c ∧ True ∧ True ∧ True ∧ ∀ i, (hi : i < l.length) → w.cell? ⟨b, o + i, none⟩ = some (.int .i64 l[i]) := by
  obtain ⟨⟨ao, cap, rfl, h1, h2, h3, h4⟩, _⟩ := h
  cases l with
  | nil => exact .inl ⟨rfl, trivial⟩
  | cons a t =>
    obtain ⟨b, o, rfl, c0⟩ := h4 0 (by simp)
    refine .inr ⟨b, o, cap, rfl, trivial, trivial, trivial, fun i hi => ?_⟩
    obtain ⟨b', o', e, c⟩ := h4 i hi
    cases e
    rw [nth_at hi] at c
    exact c


set_option maxRecDepth 100000 in
set_option maxHeartbeats 2000000 in
theorem nequal_walk {w : World} {u v : Value} {l m : List Int} (hu : Nv w u l) (hv : Nv w v m) :
    Calls Tryz.prog 93 #[u, v] w (EqGot l m w) := by
  have HU : Hid (Nv w u l) := hu
  have HV : Hid (Nv w v m) := hv
  obtain ⟨ua, uc, rfl, hlm1, hlm2⟩ := nv_form2 hu
  obtain ⟨va, vc, rfl, _, _⟩ := nv_form2 hv
  have hlm : l.length ≤ maxLen := Nat.le_trans hlm1 hlm2
  clear hlm1 hlm2
  unfold maxLen at hlm
  clear hu hv
  by_cases hln : l.length = m.length
  rotate_left
  · have hb : ((l.length : Int) != (m.length : Int)) = true := by rw [bne_iff_ne]; omega
    have HNE : Hid (l ≠ m) := fun e => hln (by rw [e])
    clear hln hlm
    generalize l.length = n at hb
    generalize m.length = q at hb
    go_enter Tryz.func93, Tryz.ntmps93
    go_wp2_with fail
    go_ret
    exact eqgot_no HNE.out (Below.refl _ _)
  · rw [← hln] at HV ⊢
    obtain ⟨n, hn⟩ : ∃ n, n = l.length := ⟨_, rfl⟩
    rw [← hn] at HU HV ⊢
    have HN : Hid (n = l.length) := hn
    have HM : Hid (n = m.length) := hn.trans hln
    have hni : (n : Int) ≤ 9223372036854775807 := by omega
    have hb : ((n : Int) != (n : Int)) = false := by simp
    clear hn hln hlm
    go_enter Tryz.func93, Tryz.ntmps93
    go_wp2_with fail
    go_loopw [13] (fun iv wr => ∃ i : Nat, iv = .int .i64 i ∧ i ≤ n ∧ (∀ j, (h1 : j < l.length) → (h2 : j < m.length) → j < i → l[j] = m[j]) ∧ Below w.heap.size w wr) (fun iv _ => n - (intOf iv).toNat)
    case atStart => exact ⟨0, rfl, by omega, fun j _ _ h => by omega, Below.refl _ _⟩
    case round =>
      obtain ⟨i, rfl, hi, hall, hB⟩ := hrel
      have HA : Hid (∀ j, (h1 : j < l.length) → (h2 : j < m.length) → j < i → l[j] = m[j]) := hall
      have HB : Hid (Below w.heap.size w wr) := hB
      clear hall hB
      by_cases hlt : i < n
      · have hlti : (i : Int) < (n : Int) := by omega
        have hltd : decide (i < n) = true := decide_eq_true hlt
        have h1 : i < l.length := by have := HN.out; omega
        have h2 : i < m.length := by have := HM.out; omega
        rcases nv_cases (HU.out.below HB.out) with ⟨h0, _⟩ | ⟨b1, o1, c1, e1, _, _, _, k1⟩
        · rw [h0] at h1; simp at h1
        rcases nv_cases (HV.out.below HB.out) with ⟨h0, _⟩ | ⟨b2, o2, c2, e2, _, _, _, k2⟩
        · rw [h0] at h2; simp at h2
        simp only [Value.slice.injEq] at e1 e2
        have e11 := e1.1
        have e21 := e2.1
        clear e1 e2
        subst e11 e21
        have x0 := k1 i h1
        have y0 := k2 i h2
        obtain ⟨c, hc⟩ : ∃ c, c = l[i] := ⟨_, rfl⟩
        obtain ⟨d, hd⟩ : ∃ d, d = m[i] := ⟨_, rfl⟩
        rw [← hc] at x0
        rw [← hd] at y0
        have X0 : ∀ q, (wr.drewN q).cell? ⟨b1, o1 + i, none⟩ = some (.int .i64 c) := fun _ => x0
        have Y0 : ∀ q, (wr.drewN q).cell? ⟨b2, o2 + i, none⟩ = some (.int .i64 d) := fun _ => y0
        have HCD : Hid (c = l[i] ∧ d = m[i]) := ⟨hc, hd⟩
        clear k1 k2 x0 y0 hc hd
        by_cases hcd : c = d
        · have HNX : Hid (∀ j, (h1 : j < l.length) → (h2 : j < m.length) → j < i + 1 → l[j] = m[j]) := fun j k1 k2 hj => by
            rcases Nat.lt_or_ge j i with q | q
            · exact HA.out j k1 k2 q
            · obtain rfl : j = i := by omega
              rw [← HCD.out.1, ← HCD.out.2]; exact hcd
          subst hcd
          have hq : (c != c) = false := by simp
          go_wp2_with fail
          go_quiet (fail)
          have HB9 : Hid (Below w.heap.size w (wr.drewN nq)) := below_trans HB.out (below_drewN _ _)
          go_wp2_with fail
          go_roundw
          case rel => exact ⟨i + 1, by go_num, hlt, HNX.out, HB9.out⟩
          case measure => simp [intOf]; omega
        · have hq : (c != d) = true := by rw [bne_iff_ne]; omega
          have HNE : Hid (l ≠ m) := fun e => by
            subst e
            exact hcd (HCD.out.1.trans HCD.out.2.symm)
          clear hcd
          go_wp2_with fail
          go_quiet (fail)
          have HB9 : Hid (Below w.heap.size w (wr.drewN nq)) := below_trans HB.out (below_drewN _ _)
          go_wp2_with fail
          go_ret
          exact eqgot_no HNE.out HB9.out
      · have hlti : ¬ (i : Int) < (n : Int) := by omega
        have HE : Hid (l = m) := List.ext_getElem (by rw [← HN.out, ← HM.out]) (fun j k1 k2 => HA.out j k1 k2 (by have := HN.out; omega))
        go_wp2_with fail
        go_ret
        exact eqgot_yes HE.out HB.out
end Go.Proofs.YtopjedgknbbgkaaGreat

namespace Go.Proofs.YtopjedgknbbgkaaGreat

open Ieee Go.RowKit



def encP (p : Pr) : List Value := [.int .u64 p.k, .bool p.v.h, .int .u64 p.v.b]
def cmpN (a b : Nat) : Int := if a < b then -1 else if b < a then 1 else 0
def cfP (a b : Pr) : Int := cmpN a.k b.k


theorem ltP (a b : Pr) : ltOf cfP a b = decide (a.k < b.k) := by
  unfold ltOf cfP cmpN
  by_cases h1 : a.k < b.k
  · simp [h1]
  · by_cases h2 : b.k < a.k <;> simp [h1, h2]


theorem swoP : Sort.SWO (ltOf cfP) where
  irrefl x := by rw [ltP]; simp
  trans x y z h1 h2 := by rw [ltP] at *; simp at *; omega
  ntrans x y z h1 h2 := by rw [ltP] at *; simp at *; omega


theorem holds_of_mq [Inhabited Pr] {w : World} {g : Nat} {m : List Pr} (h : Mq w g m) : Sort.HoldsK encP 3 w g 0 m.toArray := by
  intro j hj
  rw [Sort.size_flatK] at hj
  have hjl : j < m.length * 3 := by simpa using hj
  rw [Sort.get_flatK _ _ _ _ hj]
  obtain ⟨⟨a, b, c⟩, d, e, f⟩ := h (j / 3) (by omega)
  have e0 : m.toArray[j / 3]! = m[j / 3] := by
    have h3 : j / 3 < m.length := by omega
    rw [getElem!_pos m.toArray (j / 3) (by simpa using h3)]; simp
  rw [e0]
  have hmod : j % 3 = 0 ∨ j % 3 = 1 ∨ j % 3 = 2 := by omega
  rcases hmod with hm | hm | hm
  · have e2 : j / 3 * 3 = j := by omega
    rw [e2] at a d
    rw [hm, Nat.zero_add]; exact ⟨a, d⟩
  · have e2 : j / 3 * 3 + 1 = j := by omega
    rw [e2] at b e
    rw [hm, Nat.zero_add]; exact ⟨b, e⟩
  · have e2 : j / 3 * 3 + 2 = j := by omega
    rw [e2] at c f
    rw [hm, Nat.zero_add]; exact ⟨c, f⟩


theorem mq_of_holds [Inhabited Pr] {w : World} {g : Nat} {d : Array Pr} (h : Sort.HoldsK encP 3 w g 0 d) : Mq w g d.toList := by
  intro i hi
  have hi' : i < d.size := by simpa using hi
  have e0 : d[i]! = d.toList[i] := by rw [getElem!_pos d i hi']; simp
  obtain ⟨a, x⟩ := h.cell hi' (show 0 < 3 by omega)
  obtain ⟨b, y⟩ := h.cell hi' (show 1 < 3 by omega)
  obtain ⟨c, z⟩ := h.cell hi' (show 2 < 3 by omega)
  rw [e0] at a b c
  simp only [Nat.zero_add, Nat.add_zero] at a b c x y z
  exact ⟨⟨a, b, c⟩, x, y, z⟩


theorem grown_sortK [Inhabited Pr] {w : World} {g n : Nat} {os : Array Obj} (d : Array Pr) : w.grownBy (sortWorldK encP 3 w g 0 n d os) (some g) := by
  refine ⟨rfl, rfl, rfl, by simp [sortWorldK, Sort.putRowK], fun k hk hne => ?_⟩
  unfold sortWorldK
  rw [Sort.heap_grow_old _ _ (by simpa [Sort.putRowK] using hk)]
  have : g ≠ k := fun e => hne (by rw [e])
  simp [Sort.putRowK, Sort.putRow, Sort.mapBlock, Sort.ahead, Array.getElem?_modify, this]


theorem sorted_end [Inhabited Pr] {t m : List Pr} (rt : Rise t) (hp : m.Perm t) {d' : Array Pr} (h1 : Sort.PermIn 0 m.toArray.size m.toArray d') (h2 : Sort.SortedIn (ltOf cfP) 0 m.toArray.size d') : d'.toList = t := by
  obtain ⟨hs, _, hperm⟩ := h1
  have hsz : d'.size = m.length := by simpa using hs
  have hp' : d'.toList.Perm m := by
    have e1 : (d'.extract 0 m.toArray.size).toList = d'.toList := by
      rw [← hs]; simp
    have e2 : (m.toArray.extract 0 m.toArray.size).toList = m := by simp
    rw [e1, e2] at hperm; exact hperm
  refine sorted_is rt (hp'.trans hp) ?_
  rw [List.pairwise_iff_getElem]
  intro i j hi hj hij
  have hi' : i < d'.size := by simpa using hi
  have hj' : j < d'.size := by simpa using hj
  have h := h2 i j (Nat.zero_le _) hij (by rw [← hs]; exact hj')
  rw [ltP, getElem!_pos d' i hi', getElem!_pos d' j hj'] at h
  simpa using h


theorem mq_sorted [Inhabited Pr] {w : World} {g n : Nat} {os : Array Obj} {m t : List Pr} {d' : Array Pr} (hM : Mq w g m) (hg : g < w.heap.size) (hs : d'.size = m.length) (ht : d'.toList = t) : Mq (sortWorldK encP 3 w g 0 n d' os) g t := by
  rw [← ht]
  refine mq_of_holds ?_
  exact holdsK_sortWorldK_c encP 3 w g 0 m.toArray d' n os (holds_of_mq hM) hg (by simpa using hs)
end Go.Proofs.YtopjedgknbbgkaaGreat

namespace Go.Proofs.YtopjedgknbbgkaaGreat

open Ieee Go.RowKit



attribute [local go_sem] run_bits run_frombits


end Go.Proofs.YtopjedgknbbgkaaGreat
