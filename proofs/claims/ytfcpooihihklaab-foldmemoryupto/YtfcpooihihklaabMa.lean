/- Add, whose answer is a row of its own, whole; appends of slices of pairs. -/
import Derived.Test.YtfcpooihihklaabKq
namespace Go.Proofs.Ytfcpooihihklaab
open Ieee Go.RowKit

theorem heap_sortK [Inhabited Pr] {w : World} {g n : Nat} {os : Array Obj} {cur : Array Value} {e : TypeId} {fr : Nat × Nat} (d : Array Pr) (hb : w.heap[g]? = some (.cells cur e fr)) :
    ∃ cur', (sortWorldK encP 3 w g 0 n d os).heap[g]? = some (.cells cur' e fr) ∧ cur'.size = cur.size := by
  have hg : g < w.heap.size := (Array.getElem?_eq_some_iff.1 hb).1
  unfold sortWorldK
  rw [Sort.heap_grow_old _ _ (by simpa [Sort.putRowK] using hg)]
  refine ⟨Sort.putCells id 0 (Sort.flatK encP 3 d) cur, ?_, by simp [Sort.putCells]⟩
  simp [Sort.putRowK, Sort.putRow, Sort.mapBlock, Sort.ahead, Array.getElem?_modify, hb, Sort.onCells]

theorem sortFunc_own {g cap sc : Nat} {m : List Pr} {w : World} (hO : Ow w g cap m) (hl : m.length < 4611686018427387904) {t : List Pr} (rt : Rise t) (hp : m.Perm t) :
    Calls Try.prog 41 #[.slice (some ⟨g, 0, none⟩) m.length sc, .func (.func 42) #[] #[]] w fun e w' => e = .returned (.tuple #[]) ∧ Ow w' g cap t ∧ w.grownBy w' (some g) := by
  obtain ⟨⟨cur, hgc, hcs⟩, hlc, hcm, hM⟩ := hO
  have hg : g < w.heap.size := (Array.getElem?_eq_some_iff.1 hgc).1
  have eg : ∀ args w, (callFunc 42 args).run Try.prog w = .ok (.enter 42 args) w := enters_of Try.func42 (by kernel_rfl) rfl
  haveI : Inhabited Pr := ⟨⟨0, noV⟩⟩
  have hcon := AnyQ.slices_SortFunc lays6 3 Try.isAgg40 Try.sizeOf40 encP (fun _ => rfl) (fun x v hv => by simp [encP] at hv; rcases hv with rfl | rfl | rfl <;> rfl) cfP swoP 42 #[] g 0 sc m.toArray w eg (cmpLays g 0 _ w) (holds_of_mq hM) hg (by simpa using hl)
  refine hcon.mono ?_
  rintro e w' ⟨rfl, d', n, os, h1, h2, rfl⟩
  obtain ⟨cur', hc1, hc2⟩ := heap_sortK (n := n) (os := os) d' hgc
  exact ⟨rfl, ⟨⟨cur', hc1, hc2.trans hcs⟩, by rw [← hp.length_eq]; exact hlc, hcm, mq_sorted hM hg (by simpa using h1.1) (sorted_end rt hp h1 h2)⟩, grown_sortK d'⟩

set_option maxRecDepth 100000 in
set_option maxHeartbeats 2000000 in
theorem sorted_own {b n : Nat} {t : List Pr} (w : World) (hM : Mp w b n t) (rt : Rise t) (ho : okT t) (hl : t.length * 24 ≤ 281474976710656) :
    Calls Try.prog 31 #[.map (some b)] w fun e w' => e = .returned (.slice (some ⟨w.heap.size, 0, none⟩) t.length t.length) ∧ Ow w' w.heap.size t.length t ∧ Below w.heap.size w w' := by
  have HM : Hid (Mp w b n t) := hM
  have HBL : Hid (b < w.heap.size) := World.ownsMap.lt hM
  have HR : Hid (Rise t) := rt
  have HO : Hid (okT t) := ho
  have HL : Hid (t.length * 24 ≤ 281474976710656) := hl
  have HMX : Hid (t.length ≤ maxLen) := by show _ ≤ _; simp only [maxLen]; omega
  obtain ⟨i0, hi0, hz0, hz1, hz2⟩ := info_partsQ info_pair
  have HI0 : Hid (Try.prog.info? 40 = some i0) := hi0
  have HI1 : Hid (i0.zero = some (.agg #[.int .u64 0, .bool false, .int .u64 0])) := hz0
  have HI2 : Hid (i0.size = 3) := hz1
  have HI3 : Hid (i0.bytes = 24) := hz2
  have hln := World.ownsMap.len (w := w) hM Try.underlying68 3
  rw [size_T] at hln
  clear hM rt ho hl hi0 hz0 hz1 hz2
  go_enter Try.func31, Try.ntmps31
  go_wp2_with (first
    | (at_make; refine wpList_make_own _ (by rfl) _ _ 28 (by rfl) w.heap.size 40 i0 (.agg #[.int .u64 0, .bool false, .int .u64 0]) 3 Try.underlying28 HI0.out HI1.out HI2.out .i64 .i64 _ t.length (by rfl) (by rfl) (by rfl) (by rw [HI3.out]; have := HL.out; omega) HMX.out (Nat.le_refl _) ?_; intro w2 hown hgrow)
    | (at_range; refine wpList_range_own _ rfl _ 68 rfl 31 33 law_u Try.underlying68 valElem b n (dT t) rfl (World.ownsMap.kept HM.out hgrow (by simp)) ?_; intro w3 hrg0 hg3 hs3))
  go_frame
  have R0 : Srt w w.heap.size w2.heap.size b n t (.slice (some ⟨w.heap.size, 0, none⟩) 0 t.length) w3 :=
    ⟨_, _, [], hrg0, perm_start t, by rw [size_T]; simp, rfl, hown.kept hg3 (Or.inr (by simp [Value.ownBlock])), ((Below.refl _ _).grown hgrow (Nat.le_refl _) (by simp)).grown hg3 (Nat.le_of_lt (hown.lt w.heap.size rfl).2) (by simp)⟩
  have HGR : Hid (w.heap.size < w2.heap.size) := (hown.lt w.heap.size rfl).2
  clear hown hgrow hrg0 hg3 hs3 hln
  go_loopw [3] (fun mv wr => Srt w w.heap.size w2.heap.size b n t mv wr) (fun _ wr => wr.rangeLeft b w2.heap.size)
  case atStart => exact R0
  case round =>
    clear R0
    obtain ⟨left, cnt, m, hrg, hpm, hmc, rfl, hown, hB⟩ := hrel
    have HRG : Hid (wr.ranges Try.prog 31 valElem b w2.heap.size n (dT t) left cnt) := hrg
    have HPM : Hid (m.Perm (t.filter fun q => !left (kL q.k))) := hpm
    have HMC : Hid (m.length + cnt ≤ t.length) := hmc
    have HOW : Hid (wr.ownsRow w.heap.size 40 3 (.slice (some ⟨w.heap.size, 0, none⟩) m.length t.length) m.length (flatQ m)) := hown
    have HB : Hid (Below w.heap.size w wr) := hB
    clear hrg hpm hmc hown hB
    go_wp2_with (at_next; refine wpList_next_T (by rfl) _ rfl b w2.heap.size n t left cnt rfl HRG.out HR.out ?_ ?_)
    · intro hleft
      have HP : Hid (m.Perm t) := perm_end HPM.out hleft
      have HML : Hid (m.length = t.length) := HP.out.length_eq
      clear hleft
      go_wp2_with fail
      refine (sortFunc_own (ow_of_own HOW.out).1 (by have := HL.out; have := HML.out; omega) HR.out HP.out).mono ?_
      rintro e w5 ⟨rfl, hM5, hg5⟩
      go_wp2_with fail
      go_ret
      exact ⟨by rw [HML.out]; rfl, hM5, HB.out.grown hg5 HB.out.size (by simp)⟩
    · intro p w4 cnt1 hp hlx hrg1 hlt hg1 hs1 hen
      have HP : Hid (p ∈ t) := hp
      have HLX : Hid (left (kL p.k) = true) := hlx
      have HRG1 : Hid (w4.ranges Try.prog 31 valElem b w2.heap.size n (dT t) (fun z => left z && !z.sameKey (kL p.k)) cnt1) := hrg1
      have HG1 : Hid (wr.grownBy w4 (some w2.heap.size)) := hg1
      have HLT : Hid (cnt1 < cnt) := hlt
      clear hp hlx hrg1 hlt hg1 hs1
      have HOW1 : Hid (w4.ownsRow w.heap.size 40 3 (.slice (some ⟨w.heap.size, 0, none⟩) m.length t.length) m.length (flatQ m)) := HOW.out.kept HG1.out (Or.inr (by have := HGR.out; simp [Value.ownBlock]; omega))
      have hfit : m.length + 1 ≤ t.length := by have := HMC.out; have := HLT.out; omega
      go_wp2_with (at_builtin; refine wpList_append_qv (by rfl) _ _ 28 (by rfl) w.heap.size 40 i0 Try.underlying28 HI0.out HI2.out w.heap.size m.length t.length m (by rfl) ((HOW1.out.alloc _).alloc _) _ [p] (by rfl) (qv_at _ p (HO.out p HP.out) _ _ (by simp)) (by simpa using hfit) ?_; intro w6 hown6 hgrow6)
      have hg6 : w4.grownBy w6 (some w.heap.size) := (((World.grownBy_alloc w4 _ none).andThen (World.grownBy_alloc _ _ none) (by simp)).but _).andThen hgrow6 (fun j hj => Or.inr hj)
      have hrg6 := HRG1.out.kept hg6 (by have := HBL.out; simp; omega) (by have := HGR.out; simp; omega)
      have R' : Srt w w.heap.size w2.heap.size b n t (.slice (some ⟨w.heap.size, 0, none⟩) (m.length + 1) t.length) w6 :=
        ⟨_, cnt1, m ++ [p], hrg6, left_step HR.out HP.out left HLX.out HPM.out, by have := HMC.out; have := HLT.out; simp; omega, by simp, by simpa using hown6,
          (HB.out.grown HG1.out HB.out.size (by have := HGR.out; simp; omega)).grown hg6 (Nat.le_trans HB.out.size HG1.out.size) (by simp)⟩
      have hms : w6.rangeLeft b w2.heap.size < wr.rangeLeft b w2.heap.size := by rw [hrg6.left_eq, HRG.out.left_eq]; exact HLT.out
      clear hown6 hgrow6 hg6 hrg6
      go_wp2_with fail
      go_roundw
      case rel => exact R'
      case measure => exact hms

set_option maxRecDepth 100000 in
set_option maxHeartbeats 4000000 in
theorem add_own {av bv : Value} {kind : Int} {a b : List Pr} {w : World} (ha : Qv w av a) (hb : Qv w bv b) (hk : knownB kind = true) (hta : tabB a = true) (htb : tabB b = true) (hsz : (a.length + b.length) * 24 ≤ 281474976710656) :
    Calls Try.prog 13 #[.int .i64 kind, av, bv] w fun e w' => ∃ g, e = .returned (.tuple #[.slice (some ⟨g, 0, none⟩) (addT kind a b).length (addT kind a b).length, .int .i64 0]) ∧
      Ow w' g (addT kind a b).length (addT kind a b) ∧ w.heap.size ≤ g ∧ Below w.heap.size w w' := by
  have HLA : Hid (a.length ≤ maxLen) := ha.len
  have HLB : Hid (b.length ≤ maxLen) := hb.len
  obtain ⟨⟨ao, ca, rfl, _, _, _, a4⟩, a5⟩ := ha
  obtain ⟨⟨bo, cb, rfl, _, _, _, b4⟩, b5⟩ := hb
  have HA : Hid (Ql w ao a) := a4
  have HB : Hid (Ql w bo b) := b4
  have HOA : Hid (okT a) := a5
  have HOB : Hid (okT b) := b5
  have HSZ : Hid ((a.length + b.length) * 24 ≤ 281474976710656) := hsz
  clear a4 b4 a5 b5 hsz
  have hmm := @run_makeMap Try.prog
  go_enter Try.func13, Try.ntmps13
  go_wp2_with (go_at_call 20; refine (known_walk _ _).mono ?_; rw [hk]; rintro e w9 ⟨rfl, h9⟩; have h9 := h9.symm; subst h9)
  refine (sound_walk HLA.out HA.out).mono ?_
  rw [hta]
  rintro e w2 ⟨rfl, hB2⟩
  have HB2 : Hid (Below w.heap.size w w2) := hB2
  clear hB2 hta
  go_wp2_with fail
  refine (sound_walk HLB.out (HB.out.below HB2.out)).mono ?_
  rw [htb]
  rintro e w3 ⟨rfl, hB3⟩
  have HB3 : Hid (Below w.heap.size w w3) := below_trans HB2.out hB3
  clear hB3 htb HB2
  go_wp2_with fail
  generalize hg4 : (w3.alloc (.map #[] 0)).alloc (Obj.cells #[.slice ao a.length ca, .slice bo b.length cb] 28) = w4
  have R0 : Ad w w3.heap.size (w3.heap.size + 1) (.slice ao a.length ca) (.slice bo b.length cb) kind a b (.int .i64 0) w4 := by
    rw [← hg4]
    refine ⟨0, by omega, rfl, (World.ownsMap_made w3 _ _ _).alloc _, ⟨?_, ?_⟩, below_trans (below_trans HB3.out (below_alloc _ _)) (below_alloc _ _)⟩ <;> simp [go_sem]
  have HMB : Hid (w.heap.size ≤ w3.heap.size) := HB3.out.size
  clear hmm hg4
  go_loopw [29] (fun iv wr => Ad w w3.heap.size (w3.heap.size + 1) (.slice ao a.length ca) (.slice bo b.length cb) kind a b iv wr) (fun iv _ => 2 - (intOf iv).toNat)
  case atStart => exact R0
  case round =>
    clear R0
    obtain ⟨j, hj, rfl, hM, hS, hBr⟩ := hrel
    have HM : Hid (Mp wr w3.heap.size (totL a b j).length (addsT kind [] (totL a b j))) := hM
    have HS : Hid (SB wr (w3.heap.size + 1) (.slice ao a.length ca) (.slice bo b.length cb)) := hS
    have HBR : Hid (Below w.heap.size w wr) := hBr
    clear hM hS hBr
    by_cases hlt : j < 2
    · obtain ⟨xo, cx, pl, hpe, hcell, hql, hpo, hpm⟩ : ∃ (xo : Option Addr) (cx : Nat) (pl : List Pr), totL a b (j + 1) = totL a b j ++ pl ∧ wr.cell? ⟨w3.heap.size + 1, j, none⟩ = some (.slice xo pl.length cx) ∧ Ql w xo pl ∧ okT pl ∧ pl.length ≤ 11728124029610 := by
        have hjj : j = 0 ∨ j = 1 := by omega
        have h24 := HSZ.out
        rcases hjj with rfl | rfl
        · exact ⟨ao, ca, a, tot_step a b hlt, HS.out.c0, HA.out, HOA.out, by omega⟩
        · exact ⟨bo, cb, b, tot_step a b hlt, HS.out.c1, HB.out, HOB.out, by omega⟩
      have hj2 : (j : Int) < 2 := by omega
      have HPE : Hid (totL a b (j + 1) = totL a b j ++ pl) := hpe
      have HQL : Hid (Ql w xo pl) := hql
      have HPO : Hid (okT pl) := hpo
      have hpi : (pl.length : Int) ≤ 11728124029610 := by omega
      have HTJ : Hid ((totL a b j).length ≤ 11728124029610) := by have := tot_le a b hj; have := HSZ.out; show _ ≤ _; omega
      have HTO : Hid (okT (totL a b j)) := tot_ok HOA.out HOB.out j
      clear hpe hql hpo hpm
      go_wp2_with fail
      have R1 : Ai w w3.heap.size (w3.heap.size + 1) (.slice ao a.length ca) (.slice bo b.length cb) kind (totL a b j) pl (.int .i64 0) wr :=
        ⟨0, Nat.zero_le _, rfl, by simpa using HM.out, HS.out, HBR.out⟩
      clear hcell
      go_loopw [35] (fun iv wq => Ai w w3.heap.size (w3.heap.size + 1) (.slice ao a.length ca) (.slice bo b.length cb) kind (totL a b j) pl iv wq) (fun iv _ => pl.length - (intOf iv).toNat)
      case atStart => exact R1
      case round =>
        clear R1
        obtain ⟨i, hi, rfl, hM, hS, hBq⟩ := hrel
        have HM1 : Hid (Mp wr w3.heap.size ((totL a b j).length + i) (addsT kind [] (totL a b j ++ pl.take i))) := hM
        have HS1 : Hid (SB wr (w3.heap.size + 1) (.slice ao a.length ca) (.slice bo b.length cb)) := hS
        have HBQ : Hid (Below w.heap.size w wr) := hBq
        clear hM hS hBq
        by_cases hil : i < pl.length
        · obtain ⟨pb, off, rfl, c0, c1, c2⟩ := HQL.out.below HBQ.out i hil
          obtain ⟨p, hpe⟩ : ∃ p, p = pl[i] := ⟨_, rfl⟩
          rw [← hpe] at c0 c1 c2
          have HE : Hid (p = pl[i]) := hpe
          have HPK : Hid p.ok := by show p.ok; rw [hpe]; exact HPO.out _ (List.getElem_mem hil)
          clear hpe
          have HNM : Hid ((totL a b j).length + i < maxLen) := by have := HTJ.out; show _ < _; simp only [maxLen]; omega
          go_wp2_with fail
          refine (put_walk kind _ (World.ownsMap.alloc HM1.out _) (rise_adds rise_nil _) (ok_adds ok_nil (ok_append HTO.out (ok_take HPO.out i))) HNM.out HPK.out.1 HPK.out.2).mono ?_
          rintro e w5 ⟨rfl, hM5, hg5⟩
          have R' := ai_step hil HE.out HMB.out (by omega) HBQ.out (below_alloc _ _) hg5 HS1.out hM5
          clear hM5 hg5
          go_wp2_with fail
          go_roundw
          case rel => exact R'
          case measure => simp [intOf]; omega
        · have HME : Hid (Mp wr w3.heap.size (totL a b (j + 1)).length (addsT kind [] (totL a b (j + 1)))) := by
            have := HM1.out
            rw [List.take_of_length_le (by omega)] at this
            show Mp _ _ _ _
            rw [HPE.out]
            have el : i = pl.length := by omega
            rw [List.length_append, ← el]
            exact this
          have R2 : Ad w w3.heap.size (w3.heap.size + 1) (.slice ao a.length ca) (.slice bo b.length cb) kind a b (.int .i64 ((j : Int) + 1)) wr :=
            ⟨j + 1, by omega, by simp, HME.out, HS1.out, HBQ.out⟩
          go_wp2_with fail
          go_roundw
          case rel => exact R2
          case measure => simp [intOf]; omega
    · have ej : j = 2 := by omega
      subst ej
      have HME : Hid (Mp wr w3.heap.size (a.length + b.length) (addT kind a b)) := by
        have := HM.out
        show Mp _ _ _ _
        unfold addT
        simpa [totL] using this
      go_wp2_with fail
      refine (sorted_own _ HME.out (rise_adds rise_nil _) (ok_adds ok_nil (ok_append HOA.out HOB.out)) (by have := adds_len kind [] (a ++ b); have := HSZ.out; unfold addT; simp at *; omega)).mono ?_
      rintro e w5 ⟨rfl, hM5, hB5⟩
      go_wp2_with fail
      go_ret2
      exact ⟨_, rfl, hM5, HBR.out.size, below_trans HBR.out hB5⟩

/-- What Add answers, whatever it is handed. -/
def resT (kind : Int) (a b : List Pr) : List Pr := if knownB kind = true ∧ tabB a = true ∧ tabB b = true then addT kind a b else []
def errI (kind : Int) (a b : List Pr) : Int := if knownB kind = false then 1 else if (tabB a && tabB b) = false then 7 else 0

theorem nil_owns (w : World) (B e : Nat) : w.ownsRow B e 3 (.slice none 0 0) 0 (flatQ []) := ⟨by simp [flatQ], .inl ⟨rfl, rfl⟩⟩

theorem add_any {av bv : Value} {kind : Int} {a b : List Pr} {w : World} (ha : Qv w av a) (hb : Qv w bv b) (hsz : (a.length + b.length) * 24 ≤ 281474976710656) :
    Calls Try.prog 13 #[.int .i64 kind, av, bv] w fun e w' => ∃ ao cap, e = .returned (.tuple #[.slice ao (resT kind a b).length cap, .int .i64 (errI kind a b)]) ∧ w'.ownsRow w.heap.size 40 3 (.slice ao (resT kind a b).length cap) (resT kind a b).length (flatQ (resT kind a b)) ∧ Below w.heap.size w w' := by
  cases hk : knownB kind
  · have e1 : resT kind a b = [] := if_neg (by rw [hk]; simp)
    have e2 : errI kind a b = 1 := if_pos hk
    rw [e1, e2]
    refine (add_unknown hk).mono ?_
    rintro e w' ⟨rfl, hB⟩
    exact ⟨none, 0, rfl, nil_owns _ _ _, hB⟩
  · cases hs : tabB a && tabB b
    · have e1 : resT kind a b = [] := if_neg (by rintro ⟨_, h1, h2⟩; rw [h1, h2] at hs; cases hs)
      have e2 : errI kind a b = 7 := by unfold errI; rw [if_neg (by rw [hk]; simp), if_pos hs]
      rw [e1, e2]
      refine (add_order ha hb hk hs).mono ?_
      rintro e w' ⟨rfl, hB⟩
      exact ⟨none, 0, rfl, nil_owns _ _ _, hB⟩
    · have hs' := hs
      rw [Bool.and_eq_true] at hs'
      have e1 : resT kind a b = addT kind a b := if_pos ⟨hk, hs'.1, hs'.2⟩
      have e2 : errI kind a b = 0 := by unfold errI; rw [if_neg (by rw [hk]; simp), if_neg (by rw [hs]; simp)]
      rw [e1, e2]
      refine (add_own ha hb hk hs'.1 hs'.2 hsz).mono ?_
      rintro e w' ⟨g, rfl, hO, hg, hB⟩
      exact ⟨_, _, rfl, own_of_ow hO hg, hB⟩

theorem res_len (kind : Int) (a b : List Pr) : (resT kind a b).length ≤ a.length + b.length := by
  unfold resT
  split
  · have := adds_len kind [] (a ++ b)
    unfold addT; simpa using this
  · simp
theorem res_ok {kind : Int} {a b : List Pr} (ha : okT a) (hb : okT b) : okT (resT kind a b) := by
  unfold resT
  split
  · exact ok_adds ok_nil (ok_append ha hb)
  · exact ok_nil

theorem own3_below {w w' : World} {B e n : Nat} {v : Value} {xs : List Value} (h : w.ownsRow B e 3 v n xs) (hb : Below w.heap.size w w') : w'.ownsRow B e 3 v n xs := by
  refine h.kept (grown_of_below hb) ?_
  cases hv : v.ownBlock
  · exact Or.inl rfl
  · exact Or.inr (by simp)
theorem own1_below {w w' : World} {B e n : Nat} {v : Value} {xs : List Value} (h : w.ownsRow B e 1 v n xs) (hb : Below w.heap.size w w') : w'.ownsRow B e 1 v n xs := by
  refine h.kept (grown_of_below hb) ?_
  cases hv : v.ownBlock
  · exact Or.inl rfl
  · exact Or.inr (by simp)

/-- A slice of pairs onto a row that may have to grow. -/
theorem wpList_append_qs {P : Program} {w : World} {ops : Array Oper} {rest : List Oper} {o : Oper} {a : Act} {Q : Exit → Act → World → Prop} (hgd : o.guard = none) (s x : Operand) (t : TypeId)
    (ho : o.op = .call { callee := .builtin .append, args := #[s, x], argTypes := #[t, t] })
    (base : Nat) (e : TypeId) (i0 : TypeInfo) (ht : P.underlying t = some (.slice e)) (hi : P.info? e = some i0) (hz0 : i0.zero = some (.agg #[.int .u64 0, .bool false, .int .u64 0])) (hz1 : i0.size = 3) (hz2 : i0.bytes = 24)
    (v : Value) (n : Nat) (m : List Pr) (hs : a.eval s = v) (hown : w.ownsRow base e 3 v n (flatQ m))
    (y : Value) (l : List Pr) (hx : a.eval x = y) (hy : Qv w y l) (h63 : n + l.length ≤ maxLen) (hb : (n + l.length) * 24 ≤ 140737488355328) (hbase : base ≤ w.heap.size)
    (h : ∀ v' w', w'.ownsRow base e 3 v' (n + l.length) (flatQ (m ++ l)) → w.grownBy w' v.ownBlock → wpList P ops Q rest (a.put o.dst v') w') : wpList P ops Q (o :: rest) a w := by
  obtain ⟨⟨ao, c, rfl, hc1, hc2, hnone, hcells⟩, _⟩ := hy
  cases ao with
  | none =>
    obtain rfl := hnone rfl
    have hl0 : l.length = 0 := by omega
    have hl : l = [] := List.eq_nil_of_length_eq_zero hl0
    subst hl
    refine wpList_append_own_none hgd s x t ho base e i0 3 ht hi _ n (flatQ m) hs hown hx ?_
    exact h v w (by simpa using hown) ⟨rfl, rfl, rfl, Nat.le_refl _, fun _ _ _ => rfl⟩
  | some p =>
    refine wpList_append_own w hgd s x t ho base e i0 (.agg #[.int .u64 0, .bool false, .int .u64 0]) 3 24 ht hi hz0 hz1 hz2 rfl (by decide) v n (flatQ m) hs hown p l.length c (flatQ l) hx (flatQ_len l) ?_ (fun u hu => flatQ_mem hu) h63 hb hbase (fun v' w' h1 h2 _ => h v' w' (by rw [flatQ_append]; exact h1) h2)
    intro j u hj
    have hjl : j < l.length * 3 := by
      rcases Nat.lt_or_ge j (l.length * 3) with h | h
      · exact h
      · rw [List.getElem?_eq_none (by rw [flatQ_len]; exact h)] at hj; cases hj
    obtain ⟨b, off, e1, g0, g1, g2⟩ := hcells (j / 3) (by omega)
    cases e1
    obtain ⟨f0, f1, f2⟩ := flatQ_get l (j / 3) (by omega)
    rw [WideShapes.add_plain]
    have hmod : j % 3 = 0 ∨ j % 3 = 1 ∨ j % 3 = 2 := by omega
    rcases hmod with hm | hm | hm
    · have e2 : j / 3 * 3 = j := by omega
      rw [e2] at f0 g0
      rw [f0] at hj; rw [g0, hj]
    · have e2 : j / 3 * 3 + 1 = j := by omega
      rw [Nat.add_assoc, e2] at g1
      rw [e2] at f1
      rw [f1] at hj; rw [g1, hj]
    · have e2 : j / 3 * 3 + 2 = j := by omega
      rw [Nat.add_assoc, e2] at g2
      rw [e2] at f2
      rw [f2] at hj; rw [g2, hj]
end Go.Proofs.Ytfcpooihihklaab
