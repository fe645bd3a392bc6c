/- The walk of BucketBook. -/
import Derived.Test.YtjcmmhonidamoaaHb
import Derived.Deep.CutBlock
namespace Go.Proofs.Ytjcmmhonidamoaa
open Go.RowKit

/-- Where BucketBook stands. -/
structure Bb (B : Nat) (cv kv lv : Value) (cs ls : List Cl) (wr : World) : Prop where
  bok : Bok cs ls
  oc : wr.ownsRow B 37 6 cv cs.length (flatC cs)
  ok : wr.ownsRow B 33 1 kv ls.length ((ik ls).map (Value.int .u64))
  ol : wr.ownsRow B 37 6 lv ls.length (flatC ls)
  ap : ∀ x, cv.ownBlock = some x → lv.ownBlock ≠ some x
theorem Bb.keep {B : Nat} {cv kv lv : Value} {cs ls : List Cl} {w w' : World} (h : Bb B cv kv lv cs ls w) (hb : Below w.heap.size w w') : Bb B cv kv lv cs ls w' :=
  ⟨h.bok, own_belowC h.oc hb, own_belowC h.ok hb, own_belowC h.ol hb, h.ap⟩
theorem Bb.new {w : World} {B : Nat} : Bb B (.slice none 0 0) (.slice none 0 0) (.slice none 0 0) [] [] w :=
  ⟨Bok.nil, ⟨rfl, .inl ⟨rfl, rfl⟩⟩, ⟨rfl, .inl ⟨rfl, rfl⟩⟩, ⟨rfl, .inl ⟨rfl, rfl⟩⟩, fun x hx => by simp [Value.ownBlock] at hx⟩
def BbRel (l : List Ac) (w : World) (cv kv lv iv : Value) (wr : World) : Prop :=
  ∃ (i : Nat) (cs ls : List Cl), iv = .int .i64 i ∧ i ≤ l.length ∧ Bb w.heap.size cv kv lv cs ls wr ∧ Below w.heap.size w wr

set_option maxRecDepth 100000 in
set_option maxHeartbeats 8000000 in
theorem bucketbook_walk {w : World} {av : Value} {l : List Ac} (ha : Gv w av 7 acF l) (hlm : l.length ≤ maxLen) :
    Calls Try.prog 7 #[av] w fun e w' => e = .returned (.bool true) ∧ Below w.heap.size w w' := by
  have HA : Hid (Gv w av 7 acF l) := ha
  obtain ⟨ao, acap, hav⟩ : ∃ ao cap, av = .slice ao l.length cap := by obtain ⟨ao, cap, e, _⟩ := ha; exact ⟨ao, cap, e⟩
  subst hav
  unfold maxLen at hlm
  have hli : (l.length : Int) ≤ 9223372036854775807 := by omega
  clear ha hlm
  go_enter Try.func7, Try.ntmps7
  go_wp2_with fail
  refine (awake_walk _).mono ?_
  rintro e w1 ⟨rfl, hB1⟩
  have HST : Hid (BbRel l w (.slice none 0 0) (.slice none 0 0) (.slice none 0 0) (.int .i64 0) w1) := ⟨0, [], [], rfl, by omega, Bb.new, hB1⟩
  clear hB1
  go_wp2_with fail
  go_loopw [3, 4, 5, 6] (fun cv kv lv iv wr => BbRel l w cv kv lv iv wr) (fun _ _ _ iv _ => l.length - (intOf iv).toNat)
  case atStart => exact HST.out
  case round =>
    clear HST
    obtain ⟨i, cs, ls, rfl, hil, hbb, hbel⟩ := hrel
    have HBB : Hid (Bb w.heap.size u3 u4 u5 cs ls wr) := hbb
    have HB : Hid (Below w.heap.size w wr) := hbel
    clear hbb hbel
    by_cases hlt : i < l.length
    rotate_left
    · have hlti : ¬ (i : Int) < (l.length : Int) := by omega
      go_wp2_with fail
      go_ret
      exact ⟨rfl, HB.out⟩
    have hlti : (i : Int) < (l.length : Int) := by omega
    by_cases h4k : (i : Int) < 4096
    rotate_left
    · go_wp2_with fail
      go_ret
      exact ⟨rfl, HB.out⟩
    obtain ⟨ab, aoff, acp, hae, hA0⟩ := act_at HA.out i hlt
    simp only [Value.slice.injEq] at hae
    obtain ⟨hae, _, rfl⟩ := hae
    subst hae
    have hA := hA0.keep HB.out
    obtain ⟨a, had⟩ : ∃ a, l[i] = a := ⟨_, rfl⟩
    rw [had] at hA
    clear had hA0
    obtain ⟨c0, c1, c2, c3, c4, c5, c6⟩ := hA
    go_upto_region 10 with fail
    clear c0 c1 c2 c3 c4 c5 c6
    have HAB : Hid (AA (wr.alloc (Obj.cells #[.bool a.d, .int .u64 a.c.k, .bool a.c.p.h, .int .u64 a.c.p.b, .bool a.c.c.h, .int .u64 a.c.c.b, .int .i64 a.c.n] 47)) wr.heap.size 0 a) := aa_new wr a
    have HBB2 : Hid (Bb w.heap.size u3 u4 u5 cs ls (wr.alloc (Obj.cells #[.bool a.d, .int .u64 a.c.k, .bool a.c.p.h, .int .u64 a.c.p.b, .bool a.c.c.h, .int .u64 a.c.c.b, .int .i64 a.c.n] 47))) := HBB.out.keep (below_alloc _ _)
    have HB2 : Hid (Below w.heap.size w (wr.alloc (Obj.cells #[.bool a.d, .int .u64 a.c.k, .bool a.c.p.h, .int .u64 a.c.p.b, .bool a.c.c.h, .int .u64 a.c.c.b, .int .i64 a.c.n] 47))) := below_trans HB.out (below_alloc _ _)
    have HP4 : Hid (∀ x, u4.ownBlock = some x → x < wr.heap.size) := fun x hx => (HBB.out.ok.lt x hx).2
    have HP5 : Hid (∀ x, u5.ownBlock = some x → x < wr.heap.size) := fun x hx => (HBB.out.ol.lt x hx).2
    have HPW : Hid (wr.heap.size < (wr.alloc (Obj.cells #[.bool a.d, .int .u64 a.c.k, .bool a.c.p.h, .int .u64 a.c.p.b, .bool a.c.c.h, .int .u64 a.c.c.b, .int .i64 a.c.n] 47)).heap.size) := by show _ < _; rw [size_allocC]; omega
    generalize wr.alloc (Obj.cells #[.bool a.d, .int .u64 a.c.k, .bool a.c.p.h, .int .u64 a.c.p.b, .bool a.c.c.h, .int .u64 a.c.c.b, .int .i64 a.c.n] 47) = w2 at HAB HBB2 HB2 HPW ⊢
    obtain ⟨P, hP⟩ : ∃ P, P = wr.heap.size := ⟨_, rfl⟩
    rw [← hP] at HAB HP4 HP5 HPW ⊢
    clear hP HBB HB
    go_upto_block 2 with fail
    go_cut [8] (fun kv wx => ∃ k : Nat, kv = .int .i64 k ∧ k ≤ ls.length ∧ ((k = ls.length ∧ ∀ c ∈ ls, c.k ≠ a.c.k) ∨ (∃ h : k < ls.length, ls[k].k = a.c.k)) ∧ Below w2.heap.size w2 wx)
    case first =>
      as_aux_lemma =>
        go_wp2_with fail
        go_loopw [8] (fun kv wx => ∃ k : Nat, kv = .int .i64 k ∧ k ≤ ls.length ∧ (∀ j, (hj : j < ls.length) → j < k → ls[j].k ≠ a.c.k) ∧ Below w2.heap.size w2 wx) (fun kv _ => ls.length - (intOf kv).toNat)
        case atStart => exact ⟨0, rfl, by omega, fun j hj h => by omega, Below.refl _ _⟩
        case round =>
          obtain ⟨wo, hwo⟩ : ∃ wo, wo = wr := ⟨_, rfl⟩
          obtain ⟨k, rfl, hk, hno, hbx⟩ := hrel
          rw [← hwo] at hbx ⊢
          clear hwo
          have HNO : Hid (∀ j, (hj : j < ls.length) → j < k → ls[j].k ≠ a.c.k) := hno
          have HBX : Hid (Below w2.heap.size w2 wo) := hbx
          clear hno hbx
          by_cases hkl : k < ls.length
          · obtain ⟨g4, q4, hv4, hq4, hm4, _, _⟩ := own_block HBB2.out.ok (by omega)
            have m0 := own_key (by rw [← hv4]; exact own_belowC HBB2.out.ok HBX.out) k hkl
            have m1 := (HAB.out.keep HBX.out).c1
            obtain ⟨y, hy⟩ : ∃ y, y = ls[k].k := ⟨_, rfl⟩
            rw [← hy] at m0
            have HY : Hid (y = ls[k].k) := hy
            obtain ⟨n4, hn4⟩ : ∃ n, n = ls.length := ⟨_, rfl⟩
            rw [← hn4] at hv4
            have HV4 : Hid (u4 = .slice (some ⟨g4, 0, none⟩) n4 q4) := hv4
            have hkn : (k : Int) < (n4 : Int) := by omega
            have hkd : decide (k < n4) = true := decide_eq_true (by omega)
            have hn16 : (n4 : Int) ≤ 16 := by have := HBB2.out.bok.le; omega
            have HN4 : Hid (n4 = ls.length) := hn4
            have m0' : ∀ n, (wo.drewN n).cell? ⟨g4, k, none⟩ = some (.int .u64 y) := fun _ => m0
            have m1' : ∀ n, (wo.drewN n).cell? ⟨P, 1, none⟩ = some (.int .u64 a.c.k) := fun _ => by simpa using m1
            subst hv4
            clear hy hn4 hq4 hm4 m0 m1
            by_cases he : y = a.c.k
            · have hne : ((y : Int) != (a.c.k : Int)) = false := by simp [he]
              go_wp2_with fail
              go_quiet (fail)
              go_wp2_with fail
              go_meet
              exact ⟨k, rfl, hk, .inr ⟨hkl, by rw [← HY.out]; exact he⟩, below_trans HBX.out (below_drewN _ _)⟩
            · have hne : ((y : Int) != (a.c.k : Int)) = true := by rw [bne_iff_ne]; omega
              go_wp2_with fail
              go_quiet (fail)
              have HB9 : Hid (Below w2.heap.size w2 (wo.drewN nq)) := below_trans HBX.out (below_drewN _ _)
              go_wp2_with fail
              go_roundw
              case rel => exact ⟨k + 1, by go_num, hkl, fun j hj hjk => by
                rcases Nat.lt_or_ge j k with q | q
                · exact HNO.out j hj q
                · obtain rfl : j = k := by omega
                  rw [← HY.out]; exact he, HB9.out⟩
              case measure => simp [intOf]; omega
          · obtain ⟨a4, q4, hv4, hm4⟩ := own_form HBB2.out.ok
            obtain ⟨n4, hn4⟩ : ∃ n, n = ls.length := ⟨_, rfl⟩
            rw [← hn4] at hv4
            have hkn : ¬ (k : Int) < (n4 : Int) := by omega
            have hkd : decide (k < n4) = false := decide_eq_false (by omega)
            subst hv4
            clear hn4 hm4
            go_wp2_with fail
            go_quiet (fail)
            go_wp2_with fail
            go_meet
            exact ⟨k, rfl, hk, .inl ⟨by omega, fun c hc => by obtain ⟨j, hj, rfl⟩ := List.mem_iff_getElem.1 hc; exact HNO.out j hj (by omega)⟩, below_trans HBX.out (below_drewN _ _)⟩
    case rest =>
      obtain ⟨k, rfl, hk, hdis, hbx⟩ := hcut
      have HDIS : Hid ((k = ls.length ∧ ∀ c ∈ ls, c.k ≠ a.c.k) ∨ (∃ h : k < ls.length, ls[k].k = a.c.k)) := hdis
      have HBB3 : Hid (Bb w.heap.size u3 u4 u5 cs ls wc) := HBB2.out.keep hbx
      have HB3 : Hid (Below w.heap.size w wc) := below_trans HB2.out hbx
      have HAB3 : Hid (AA wc P 0 a) := HAB.out.keep hbx
      have HPW3 : Hid (P < wc.heap.size) := by have h1 := HPW.out; have h2 := hbx.size; show _ < _; omega
      clear hdis hbx HBB2 HB2 HAB HPW
      obtain ⟨w3, hw3⟩ : ∃ w3, w3 = wc := ⟨_, rfl⟩
      rw [← hw3] at HBB3 HB3 HAB3 HPW3 ⊢
      clear hw3
      have s0 := HAB3.out.c0
      go_upto_if 49 with fail
      go_cut [3, 4, 5, 9, 10, 11, 12] (fun cv kv lv _ _ _ _ wx => ∃ cs' ls', Bb w.heap.size cv kv lv cs' ls' wx ∧ Below w.heap.size w wx)
      case first =>
        cases hd : a.d
        · obtain ⟨k0, h0⟩ : ∃ k0, k0 = k := ⟨_, rfl⟩
          clear h0 k0
          rw [hd] at s0
          obtain ⟨t0, t1, t2, t3, t4, t5, t6⟩ := HAB3.out
          have HCV : Hid (Cv w3 u3 cs) := (own_cv HBB3.out.oc).1
          have HSZ : Hid ((cs.length + 1) * 48 ≤ 140737488355328) := by have := HBB3.out.bok.len; show _ ≤ _; omega
          have hdis := HDIS.out
          rcases hdis with ⟨hkn, hno⟩ | ⟨hkl, hke⟩
          · by_cases h16 : ls.length = 16
            · have HPR : Hid (putR cs a.c = ([], 92)) := HBB3.out.bok.putFull hno h16
              obtain ⟨a4, q4, hv4, hm4⟩ := own_form HBB3.out.ok
              obtain ⟨n4, hn4⟩ : ∃ n, n = ls.length := ⟨_, rfl⟩
              rw [← hn4] at hv4
              have hkb : ((k : Int) == (n4 : Int)) = true := by rw [beq_iff_eq]; omega
              have hkc : ((k : Int) == 16) = true := by rw [beq_iff_eq]; omega
              subst hv4
              clear hn4 hm4 hkn hno h16 t0
              go_wp2_with fail
              refine (put_walk11 HCV.out a.c HSZ.out).mono ?_
              rw [HPR.out]
              rintro e w5 ⟨v5, rfl, ho5, hB5⟩
              have HB5 : Hid (Below w3.heap.size w3 w5) := hB5
              clear ho5 hB5 s0 t1 t2 t3 t4 t5 t6
              go_wp2_with fail
              go_meet
              exact ⟨cs, ls, HBB3.out.keep HB5.out, below_trans HB3.out HB5.out⟩
            · have hpt := HBB3.out.bok.putNew hno (by have := HBB3.out.bok.le; omega)
              obtain ⟨R, hR⟩ : ∃ R, R = (putR cs a.c).1 := ⟨_, rfl⟩
              rw [← hR] at hpt
              have HPR : Hid (putR cs a.c = (R, 0)) := hpt.1
              have HBN : Hid (Bok R (ls ++ [a.c])) := hpt.2
              obtain ⟨a4, q4, hv4, hm4⟩ := own_form HBB3.out.ok
              obtain ⟨n4, hn4⟩ : ∃ n, n = ls.length := ⟨_, rfl⟩
              have HN4 : Hid (n4 = ls.length) := hn4
              have HKN : Hid (k = ls.length) := hkn
              have H16 : Hid (n4 ≤ 15) := by have := HBB3.out.bok.le; show _ ≤ _; omega
              have HBK : Hid (Bok cs ls) := HBB3.out.bok
              have HOK : Hid (w3.ownsRow w.heap.size 33 1 (.slice a4 n4 q4) n4 ((ik ls).map (Value.int .u64))) := by have := HBB3.out.ok; show World.ownsRow _ _ _ _ _ _ _; rw [hv4, ← hn4] at this; exact this
              have HOL : Hid (w3.ownsRow w.heap.size 37 6 u5 n4 (flatC ls)) := by have := HBB3.out.ol; show World.ownsRow _ _ _ _ _ _ _; rw [← hn4] at this; exact this
              rw [← hn4] at hv4
              have hkb : ((k : Int) == (n4 : Int)) = true := by rw [beq_iff_eq]; omega
              have hkc : ((k : Int) == 16) = false := by rw [beq_eq_false_iff_ne]; have := H16.out; omega
              have hki : (k : Int) < (n4 : Int) + 1 := by omega
              clear HBB3
              subst hv4
              clear hn4 hm4 hkn hno h16 t0 hpt hR
              go_wp2_with fail
              refine (put_walk11 HCV.out a.c HSZ.out).mono ?_
              rw [HPR.out]
              rintro e w5 ⟨v5, rfl, ho5, hB5⟩
              have HB5 : Hid (Below w.heap.size w w5) := below_trans HB3.out hB5
              have HO5 : Hid (w5.ownsRow w3.heap.size 37 6 v5 R.length (flatC R)) := ho5
              have HK5 : Hid (w5.ownsRow w.heap.size 33 1 (.slice a4 n4 q4) n4 ((ik ls).map (Value.int .u64))) := own_belowC HOK.out hB5
              have HL5 : Hid (w5.ownsRow w.heap.size 37 6 u5 n4 (flatC ls)) := own_belowC HOL.out hB5
              have HL5w : Hid (∀ x, u5.ownBlock = some x → x < w3.heap.size) := fun x hx => (HOL.out.lt x hx).2
              have HA5 : Hid (AA w5 P 0 a) := HAB3.out.keep hB5
              have HP5w : Hid (P < w5.heap.size) := by have h1 := HPW3.out; have h2 := hB5.size; show _ < _; omega
              clear ho5 hB5 s0 t1 t2 t3 t4 t5 t6 HOK HOL
              obtain ⟨t0, t1, t2, t3, t4, t5, t6⟩ := HA5.out
              go_upto_region 30 with (at_builtin; refine wpList_append_sv (by rfl) (.tmp 125) (.tmp 129) 45 (by rfl) w.heap.size 33 .u64 8 Try.underlying45 info_u64 _ _ _ (by rfl) (HK5.out.alloc _) _ [_] (by rfl) (sv_one .u64 _ _ _) (by have := H16.out; simp only [maxLen, List.length_singleton]; omega) (by have := H16.out; simp only [List.length_singleton]; omega) (by rw [size_allocC]; have := HB5.out.size; omega) ?_; intro v6 w6 hown hgrow)
              obtain ⟨wa, hwa⟩ : ∃ wa, wa = w5.alloc (Obj.cells #[.int .u64 a.c.k] 33) := ⟨_, rfl⟩
              rw [← hwa] at hgrow
              have hba : Below w5.heap.size w5 wa := by rw [hwa]; exact below_alloc _ _
              have HKa := own_belowC HK5.out hba
              have HLa := own_belowC HL5.out hba
              have HOa := own_belowC HO5.out hba
              have HK6 : Hid (w6.ownsRow w.heap.size 33 1 v6 (n4 + 1) ((ik (ls ++ [a.c])).map (Value.int .u64))) := by
                show World.ownsRow _ _ _ _ _ _ _
                rw [ik_append, List.map_append]; exact hown
              have HL6 : Hid (w6.ownsRow w.heap.size 37 6 u5 n4 (flatC ls)) := own_grown HLa hgrow (own_ne HLa HKa (by decide))
              have HO6 : Hid (w6.ownsRow w3.heap.size 37 6 v5 R.length (flatC R)) := own_grown HOa hgrow (own_ne HOa HKa (by decide))
              have HB6 : Hid (Below w.heap.size w w6) := (below_trans HB5.out hba).trans (grown_belowC HKa hgrow (by have h1 := HB5.out.size; have h2 := hba.size; omega))
              have HA6 : Hid (AA w6 P 0 a) := (HA5.out.keep hba).heap (hgrow.block P (by have h1 := HP5w.out; have h2 := hba.size; omega) (fun e => by have := HP4.out P e.symm; omega))
              have HS6 : Hid (w5.heap.size ≤ w6.heap.size) := by have h1 := hgrow.size; have h2 := hba.size; show _ ≤ _; omega
              have HOw : Hid (∀ x, v5.ownBlock = some x → w3.heap.size ≤ x ∧ x < w5.heap.size) := fun x hx => HO5.out.lt x hx
              clear hown hgrow hwa hba HKa HLa HOa HK5 HL5 HO5 HA5 t0 t1 t2 t3 t4 t5 t6 HB5 HP5w
              obtain ⟨t0, t1, t2, t3, t4, t5, t6⟩ := HA6.out
              have HN1 : Hid (n4 ≤ 1000000) := by have := H16.out; show _ ≤ _; omega
              have HCN : Hid (CA (w6.alloc (Obj.cells #[.int .u64 a.c.k, .bool a.c.p.h, .int .u64 a.c.p.b, .bool a.c.c.h, .int .u64 a.c.c.b, .int .i64 a.c.n] 37)) w6.heap.size 0 a.c) := by
                obtain ⟨r0, r1, r2, r3, r4, r5, _⟩ := cb_new w6 a.c
                exact ⟨r0, r1, r2, r3, r4, r5⟩
              go_upto_region 31 with (at_builtin; refine wpList_append_at (by rfl) (.tmp 131) (.tmp 134) (by rfl) w.heap.size _ _ _ (by rfl) (HL6.out.alloc _) w6.heap.size a.c (by rfl) HCN.out HN1.out (by rw [size_allocC]; have := HB6.out.size; omega) ?_; intro v7 w7 hown hgrow hat)
              obtain ⟨wa, hwa⟩ : ∃ wa, wa = w6.alloc (Obj.cells #[.int .u64 a.c.k, .bool a.c.p.h, .int .u64 a.c.p.b, .bool a.c.c.h, .int .u64 a.c.c.b, .int .i64 a.c.n] 37) := ⟨_, rfl⟩
              rw [← hwa] at hgrow hat
              have hsa : wa.heap.size = w6.heap.size + 1 := by rw [hwa, size_allocC]
              have hba : Below w6.heap.size w6 wa := by rw [hwa]; exact below_alloc _ _
              have HKa := own_belowC HK6.out hba
              have HLa := own_belowC HL6.out hba
              have HOa := own_belowC HO6.out hba
              have HL7 : Hid (w7.ownsRow w.heap.size 37 6 v7 (n4 + 1) (flatC (ls ++ [a.c]))) := by
                show World.ownsRow _ _ _ _ _ _ _
                rw [flatC_append]; exact hown
              have HK7 : Hid (w7.ownsRow w.heap.size 33 1 v6 (n4 + 1) ((ik (ls ++ [a.c])).map (Value.int .u64))) := own_grown HKa hgrow (own_ne HKa HLa (by decide))
              have HO7 : Hid (w7.ownsRow w3.heap.size 37 6 v5 R.length (flatC R)) := own_grown HOa hgrow (fun x hx hy => by have h1 := (HOw.out x hx).1; have h2 := HL5w.out x hy; omega)
              have HB7 : Hid (Below w.heap.size w w7) := (below_trans HB6.out hba).trans (grown_belowC HLa hgrow (by have h1 := HB6.out.size; have h2 := hba.size; omega))
              have HA7 : Hid (AA w7 P 0 a) := (HA6.out.keep hba).heap (hgrow.block P (by have h1 := cell_lt HA6.out.c0; simp only at h1; omega) (fun e => by have := HP5.out P e.symm; omega))
              have HAP7 : Hid (∀ x, v5.ownBlock = some x → v7.ownBlock ≠ some x) := fun x hx hy => by
                have h1 := HOw.out x hx
                rcases hat with h | h
                · rw [h] at hy; have := HL5w.out x hy; omega
                · rw [h] at hy; have h3 := HS6.out; have : wa.heap.size = x := by simpa using hy
                  omega
              clear hown hgrow hat hwa hba hsa HKa HLa HOa HK6 HL6 HO6 HA6 HCN t0 t1 t2 t3 t4 t5 t6 HB6
              obtain ⟨g7, q7, hv7, hq7, hm7, hg7, hl7⟩ := own_block HL7.out (by omega)
              have h67 : ∀ x, v6.ownBlock = some x → v7.ownBlock ≠ some x := own_ne HK7.out HL7.out (by decide)
              obtain ⟨a6, q6, hv6, hm6⟩ := own_form HK7.out
              have HG7 : Hid (w.heap.size ≤ g7) := hg7
              have HAPG : Hid (∀ x, v5.ownBlock = some x → x ≠ g7) := fun x hx e => HAP7.out x hx (by rw [hv7, e]; rfl)
              have HKPG : Hid (∀ x, v6.ownBlock = some x → x ≠ g7) := fun x hx e => h67 x hx (by rw [hv7, e]; rfl)
              have HL8 : Hid (w7.ownsRow w.heap.size 37 6 (.slice (some ⟨g7, 0, none⟩) (n4 + 1) q7) (n4 + 1) (flatC (ls ++ [a.c]))) := by show World.ownsRow _ _ _ _ _ _ _; rw [← hv7]; exact HL7.out
              have HSET : Hid ((ls ++ [a.c]).set k a.c = ls ++ [a.c]) := by show _ = _; rw [HKN.out, List.set_append_right _ _ (Nat.le_refl _)]; simp
              have HKL : Hid (k < (ls ++ [a.c]).length) := by show _ < _; rw [HKN.out]; simp
              clear h67 HAP7 HL7
              subst hv7
              clear hq7 hm7 hg7 hl7 hv6 hm6
              obtain ⟨t0, t1, t2, t3, t4, t5, t6⟩ := HA7.out
              obtain ⟨x0', x1', x2', x3', x4', x5'⟩ := own_ca HL8.out k HKL.out
              have f0 := HL8.out.frozenAt (k * 6)
              have f1 := HL8.out.frozenAt (k * 6 + 1)
              have f2 := HL8.out.frozenAt (k * 6 + 2)
              have f3 := HL8.out.frozenAt (k * 6 + 3)
              have f4 := HL8.out.frozenAt (k * 6 + 4)
              have f5 := HL8.out.frozenAt (k * 6 + 5)
              generalize hN : n4 + 1 = N at *
              have HN : Hid (n4 + 1 = N) := hN
              have hkN : (k : Int) < (N : Int) := by omega
              clear hN
              go_wp2_with fail
              rw [six_eq]
              go_meet
              exact ⟨R, ls ++ [a.c], ⟨HBN.out, own_baseC (own_keep HO7.out (fun x hx => heap_six _ _ _ _ x (HAPG.out x hx))) HB3.out.size, by rw [show (ls ++ [a.c]).length = N by simp; have := HN.out; have := HN4.out; omega]; exact own_keep HK7.out (fun x hx => heap_six _ _ _ _ x (HKPG.out x hx)), by rw [show (ls ++ [a.c]).length = N by simp; have := HN.out; have := HN4.out; omega]; have := own_six HL8.out HKL.out a.c; rw [HSET.out] at this; exact this, fun x hx hy => HAPG.out x hx (by
                have : g7 = x := by simpa [Value.ownBlock] using hy
                omega)⟩, below_sixW HB7.out HG7.out⟩
          · have hpt := HBB3.out.bok.put hkl hke
            obtain ⟨R, hR⟩ : ∃ R, R = (putR cs a.c).1 := ⟨_, rfl⟩
            rw [← hR] at hpt
            have HPR : Hid (putR cs a.c = (R, 0)) := hpt.1
            have HBN : Hid (Bok R (ls.set k a.c)) := hpt.2
            have HIK : Hid (ik (ls.set k a.c) = ik ls) := ik_same hkl hke
            have HKL : Hid (k < ls.length) := hkl
            obtain ⟨a4, q4, hv4, hm4⟩ := own_form HBB3.out.ok
            obtain ⟨g5, q5, hv5, hq5, hm5, hg5, hl5⟩ := own_block HBB3.out.ol (by omega)
            obtain ⟨n4, hn4⟩ : ∃ n, n = ls.length := ⟨_, rfl⟩
            have HN4 : Hid (n4 = ls.length) := hn4
            have HG5 : Hid (w.heap.size ≤ g5 ∧ g5 < w3.heap.size) := ⟨hg5, hl5⟩
            have HOK : Hid (w3.ownsRow w.heap.size 33 1 (.slice a4 n4 q4) n4 ((ik ls).map (Value.int .u64))) := by have := HBB3.out.ok; show World.ownsRow _ _ _ _ _ _ _; rw [hv4, ← hn4] at this; exact this
            have HOL : Hid (w3.ownsRow w.heap.size 37 6 (.slice (some ⟨g5, 0, none⟩) n4 q5) n4 (flatC ls)) := by have := HBB3.out.ol; show World.ownsRow _ _ _ _ _ _ _; rw [hv5, ← hn4] at this; exact this
            rw [← hn4] at hv4 hv5
            have h16 := HBB3.out.bok.le
            have hkb : ((k : Int) == (n4 : Int)) = false := by rw [beq_eq_false_iff_ne]; omega
            have hki : (k : Int) < (n4 : Int) := by omega
            have HP54 : Hid (P ≠ g5) := by have := HP5.out g5 (by rw [hv5]; rfl); show _ ≠ _; omega
            clear HBB3
            clear HP4 HP5
            subst hv4 hv5
            clear hn4 hm4 hkl hke h16 t0 hpt hR hq5 hm5 hg5 hl5
            go_wp2_with fail
            refine (put_walk11 HCV.out a.c HSZ.out).mono ?_
            rw [HPR.out]
            rintro e w5 ⟨v5, rfl, ho5, hB5⟩
            have HB5 : Hid (Below w.heap.size w w5) := below_trans HB3.out hB5
            have HO5 : Hid (w5.ownsRow w3.heap.size 37 6 v5 R.length (flatC R)) := ho5
            have HK5 : Hid (w5.ownsRow w.heap.size 33 1 (.slice a4 n4 q4) n4 ((ik ls).map (Value.int .u64))) := own_belowC HOK.out hB5
            have HL5 : Hid (w5.ownsRow w.heap.size 37 6 (.slice (some ⟨g5, 0, none⟩) n4 q5) n4 (flatC ls)) := own_belowC HOL.out hB5
            have HA5 : Hid (AA w5 P 0 a) := HAB3.out.keep hB5
            clear ho5 hB5 s0 t1 t2 t3 t4 t5 t6 HOK HOL
            obtain ⟨t0, t1, t2, t3, t4, t5, t6⟩ := HA5.out
            obtain ⟨x0', x1', x2', x3', x4', x5'⟩ := own_ca HL5.out k HKL.out
            have f0 := HL5.out.frozenAt (k * 6)
            have f1 := HL5.out.frozenAt (k * 6 + 1)
            have f2 := HL5.out.frozenAt (k * 6 + 2)
            have f3 := HL5.out.frozenAt (k * 6 + 3)
            have f4 := HL5.out.frozenAt (k * 6 + 4)
            have f5 := HL5.out.frozenAt (k * 6 + 5)
            have h45 : ∀ x, (Value.slice a4 n4 q4).ownBlock = some x → x ≠ g5 := fun x hx e => own_ne HK5.out HL5.out (by decide) x hx (by rw [e]; rfl)
            have H45 : Hid (∀ x, (Value.slice a4 n4 q4).ownBlock = some x → x ≠ g5) := h45
            clear h45
            go_wp2_with fail
            rw [six_eq]
            go_meet
            exact ⟨R, ls.set k a.c, ⟨HBN.out, own_baseC (own_keep HO5.out (fun x hx => heap_six _ _ _ _ x (fun e => by have h1 := (HO5.out.lt x hx).1; have h2 := HG5.out.2; omega))) HB3.out.size, by rw [List.length_set, HIK.out, ← HN4.out]; exact own_keep HK5.out (fun x hx => heap_six _ _ _ _ x (H45.out x hx)), by rw [List.length_set, ← HN4.out]; exact own_six HL5.out HKL.out a.c, fun x hx hy => by
              have h1 := (HO5.out.lt x hx).1
              have h2 := HG5.out.2
              have : g5 = x := by simpa [Value.ownBlock] using hy
              omega⟩, below_sixW HB5.out HG5.out.1⟩
        · rw [hd] at s0
          have s1 := HAB3.out.c1
          have HCV : Hid (Cv w3 u3 cs) := (own_cv HBB3.out.oc).1
          have hdis := HDIS.out
          obtain ⟨key, hkey⟩ : ∃ key, key = a.c.k := ⟨_, rfl⟩
          have HKEY : Hid (key = a.c.k) := hkey
          rw [← hkey] at s1 hdis
          clear hkey
          rcases hdis with ⟨hkn, hno⟩ | ⟨hkl, hke⟩
          · have HDR : Hid (dropR cs key = (cs, 0)) := HBB3.out.bok.dropNo hno
            clear hno
            have HSZ : Hid (cs.length * 48 ≤ 140737488355328) := by have := HBB3.out.bok.len; show _ ≤ _; omega
            obtain ⟨a4, q4, hv4, hm4⟩ := own_form HBB3.out.ok
            obtain ⟨n4, hn4⟩ : ∃ n, n = ls.length := ⟨_, rfl⟩
            rw [← hn4] at hv4
            have hknn : ¬ (k : Int) < (n4 : Int) := by omega
            subst hv4
            clear hn4 hm4 hkn
            go_wp2_with fail
            refine (drop_walk HCV.out key HSZ.out).mono ?_
            rw [HDR.out]
            rintro e w5 ⟨v5, rfl, ho5, hB5⟩
            have HB5 : Hid (Below w3.heap.size w3 w5) := hB5
            have HO5 : Hid (w5.ownsRow w3.heap.size 37 6 v5 cs.length (flatC cs)) := ho5
            clear ho5 hB5 s0 s1
            go_wp2_with fail
            go_meet
            exact ⟨cs, ls, ⟨HBB3.out.bok, own_baseC HO5.out HB3.out.size, own_belowC HBB3.out.ok HB5.out, own_belowC HBB3.out.ol HB5.out, fun x hx hy => by have h1 := (HO5.out.lt x hx).1; have h2 := (HBB3.out.ol.lt x hy).2; omega⟩, below_trans HB3.out HB5.out⟩
          · have hdp := HBB3.out.bok.drop hkl
            rw [hke] at hdp
            obtain ⟨z, hz⟩ : ∃ z, z = ls[ls.length - 1]'(by omega) := ⟨_, rfl⟩
            rw [← hz] at hdp
            obtain ⟨R, hR⟩ : ∃ R, R = (dropR cs key).1 := ⟨_, rfl⟩
            rw [← hR] at hdp
            have HDR : Hid (dropR cs key = (R, 0)) := hdp.1
            have HBN : Hid (Bok R ((ls.set k z).take (ls.length - 1))) := hdp.2
            have HKL : Hid (k < ls.length) := hkl
            have HSZ : Hid (cs.length * 48 ≤ 140737488355328) := by have := HBB3.out.bok.len; show _ ≤ _; omega
            obtain ⟨g4, q4, hv4, hq4, hm4, hg4, hl4⟩ := own_block HBB3.out.ok (by omega)
            obtain ⟨g5, q5, hv5, hq5, hm5, hg5, hl5⟩ := own_block HBB3.out.ol (by omega)
            obtain ⟨n4, hn4⟩ : ∃ n, n = ls.length := ⟨_, rfl⟩
            obtain ⟨m, hm⟩ : ∃ m, n4 = m + 1 := ⟨n4 - 1, by omega⟩
            have HZ : Hid (∀ h : m < ls.length, ls[m] = z) := fun h => by rw [hz]; congr 1; omega
            have HMM : Hid (ls.length - 1 = m) := by show _ = _; omega
            have HN4 : Hid (n4 = ls.length) := hn4
            have HM : Hid (n4 = m + 1) := hm
            have h16 := HBB3.out.bok.le
            rw [← hn4] at hv4 hv5
            have hknn : (k : Int) < (n4 : Int) := by omega
            have hmn : (m : Int) < (n4 : Int) := by omega
            have hn1 : (n4 : Int) - 1 = (m : Int) := by omega
            have hmq4 : (m : Int) ≤ (q4 : Int) := by omega
            have hmq5 : (m : Int) ≤ (q5 : Int) := by omega
            have hmn' : (m : Int) ≤ (n4 : Int) := by omega
            have hq4i : (q4 : Int) ≤ 9223372036854775807 := by unfold maxLen at hm4; omega
            have hq5i : (q5 : Int) ≤ 9223372036854775807 := by unfold maxLen at hm5; omega
            have HG4 : Hid (w.heap.size ≤ g4 ∧ g4 < w3.heap.size) := ⟨hg4, hl4⟩
            have HG5 : Hid (w.heap.size ≤ g5 ∧ g5 < w3.heap.size) := ⟨hg5, hl5⟩
            have HV4 : Hid (u4 = .slice (some ⟨g4, 0, none⟩) n4 q4) := hv4
            have HV5 : Hid (u5 = .slice (some ⟨g5, 0, none⟩) n4 q5) := hv5
            have h45 : g4 ≠ g5 := fun e => own_ne HBB3.out.ok HBB3.out.ol (by decide) g4 (by rw [hv4]; rfl) (by rw [hv5, e]; rfl)
            have H45 : Hid (g4 ≠ g5) := h45
            have HOK : Hid (w3.ownsRow w.heap.size 33 1 (.slice (some ⟨g4, 0, none⟩) n4 q4) n4 ((ik ls).map (Value.int .u64))) := by have := HBB3.out.ok; show World.ownsRow _ _ _ _ _ _ _; rw [hv4, ← hn4] at this; exact this
            have HOL : Hid (w3.ownsRow w.heap.size 37 6 (.slice (some ⟨g5, 0, none⟩) n4 q5) n4 (flatC ls)) := by have := HBB3.out.ol; show World.ownsRow _ _ _ _ _ _ _; rw [hv5, ← hn4] at this; exact this
            clear HBB3 HV4 HV5
            subst hv4 hv5
            clear hdp hz hR hkl hke hn4 hm hq4 hm4 hg4 hl4 hq5 hm5 hg5 hl5 h16 h45
            go_wp2_with fail
            refine (drop_walk HCV.out key HSZ.out).mono ?_
            rw [HDR.out]
            rintro e w5 ⟨v5, rfl, ho5, hB5⟩
            have HB5 : Hid (Below w3.heap.size w3 w5) := hB5
            have HO5 : Hid (w5.ownsRow w3.heap.size 37 6 v5 R.length (flatC R)) := ho5
            have HK5 : Hid (w5.ownsRow w.heap.size 33 1 (.slice (some ⟨g4, 0, none⟩) n4 q4) n4 ((ik ls).map (Value.int .u64))) := own_belowC HOK.out hB5
            have HL5 : Hid (w5.ownsRow w.heap.size 37 6 (.slice (some ⟨g5, 0, none⟩) n4 q5) n4 (flatC ls)) := own_belowC HOL.out hB5
            have y0 : w5.cell? ⟨g4, m, none⟩ = some (.int .u64 z.k) := by
              have := own_key HK5.out m (by have := HN4.out; have := HM.out; omega)
              rw [this, HZ.out]
            have y1 := HK5.out.frozenAt k
            obtain ⟨q, y2⟩ : ∃ q, w5.cell? ⟨g4, k, none⟩ = some q := ⟨_, own_key HK5.out k HKL.out⟩
            clear ho5 hB5 s0 s1 HOK HOL
            go_upto_region 20 with fail
            clear y0 y1 y2
            have HK6 : Hid ((w5.setCell ⟨g4, k, none⟩ (.int .u64 z.k)).ownsRow w.heap.size 33 1 (.slice (some ⟨g4, 0, none⟩) n4 q4) n4 ((ik (ls.set k z)).map (Value.int .u64))) := by
              show World.ownsRow _ _ _ _ _ _ _
              rw [← ik_set]; exact (HK5.out.stored k _).1
            have HL6 : Hid ((w5.setCell ⟨g4, k, none⟩ (.int .u64 z.k)).ownsRow w.heap.size 37 6 (.slice (some ⟨g5, 0, none⟩) n4 q5) n4 (flatC ls)) := own_keep HL5.out (fun x hx => heap_set1 _ _ _ _ x (fun e => H45.out (by
              have : g5 = x := by simpa [Value.ownBlock] using hx
              omega)))
            have HO6 : Hid ((w5.setCell ⟨g4, k, none⟩ (.int .u64 z.k)).ownsRow w3.heap.size 37 6 v5 R.length (flatC R)) := own_keep HO5.out (fun x hx => heap_set1 _ _ _ _ x (fun e => by have h1 := (HO5.out.lt x hx).1; have h2 := HG4.out.2; omega))
            have HB6 : Hid (Below w.heap.size w (w5.setCell ⟨g4, k, none⟩ (.int .u64 z.k))) := (below_trans HB3.out HB5.out).setCell HG4.out.1 _
            generalize w5.setCell ⟨g4, k, none⟩ (.int .u64 z.k) = w6 at HK6 HL6 HO6 HB6 ⊢
            clear HK5 HL5 HO5 HB5
            have hz6 : CA w6 g5 (m * 6) z := by
              have := own_ca HL6.out m (by have := HN4.out; have := HM.out; omega)
              rw [HZ.out] at this; exact this
            obtain ⟨x0, x1, x2, x3, x4, x5⟩ := hz6
            obtain ⟨x0', x1', x2', x3', x4', x5'⟩ := own_ca HL6.out k HKL.out
            have f0 := HL6.out.frozenAt (k * 6)
            have f1 := HL6.out.frozenAt (k * 6 + 1)
            have f2 := HL6.out.frozenAt (k * 6 + 2)
            have f3 := HL6.out.frozenAt (k * 6 + 3)
            have f4 := HL6.out.frozenAt (k * 6 + 4)
            have f5 := HL6.out.frozenAt (k * 6 + 5)
            go_upto_region 21 with fail
            rw [show ((((((w6.setCell ⟨g5, k * 6, none⟩ (.int .u64 z.k)).setCell ⟨g5, k * 6 + 1, none⟩ (.bool z.p.h)).setCell ⟨g5, k * 6 + 2, none⟩ (.int .u64 z.p.b)).setCell ⟨g5, k * 6 + 3, none⟩ (.bool z.c.h)).setCell ⟨g5, k * 6 + 4, none⟩ (.int .u64 z.c.b)).setCell ⟨g5, k * 6 + 5, none⟩ (.int .i64 z.n)) = sixW w6 g5 k z from rfl]
            clear x0 x1 x2 x3 x4 x5 x0' x1' x2' x3' x4' x5' f0 f1 f2 f3 f4 f5
            have HL7 : Hid ((sixW w6 g5 k z).ownsRow w.heap.size 37 6 (.slice (some ⟨g5, 0, none⟩) n4 q5) n4 (flatC (ls.set k z))) := own_six HL6.out HKL.out z
            have HK7 : Hid ((sixW w6 g5 k z).ownsRow w.heap.size 33 1 (.slice (some ⟨g4, 0, none⟩) n4 q4) n4 ((ik (ls.set k z)).map (Value.int .u64))) := own_keep HK6.out (fun x hx => heap_six _ _ _ _ x (fun e => H45.out (by
              have : g4 = x := by simpa [Value.ownBlock] using hx
              omega)))
            have HO7 : Hid ((sixW w6 g5 k z).ownsRow w3.heap.size 37 6 v5 R.length (flatC R)) := own_keep HO6.out (fun x hx => heap_six _ _ _ _ x (fun e => by have h1 := (HO6.out.lt x hx).1; have h2 := HG5.out.2; omega))
            have HB7 : Hid (Below w.heap.size w (sixW w6 g5 k z)) := below_sixW HB6.out HG5.out.1
            have HBM : Hid (Bok R ((ls.set k z).take m)) := by show Bok _ _; rw [← HMM.out]; exact HBN.out
            have HML : Hid (m ≤ n4) := by show _ ≤ _; have := HM.out; omega
            generalize sixW w6 g5 k z = w7 at HL7 HK7 HO7 HB7 ⊢
            clear HL6 HK6 HO6 HB6 HBN
            go_wp2_with fail
            go_meet
            exact ⟨R, (ls.set k z).take m, ⟨HBM.out, own_baseC HO7.out HB3.out.size, cut_keys HK7.out HML.out, cut_cells HL7.out HML.out, fun x hx hy => by
              have h1 := (HO7.out.lt x hx).1
              have h2 := HG5.out.2
              have : g5 = x := by simpa [Value.ownBlock] using hy
              omega⟩, HB7.out⟩
      case rest =>
        obtain ⟨cs', ls', hbb, hbel⟩ := hcut
        have HBC : Hid (Bb w.heap.size u3 u4 u5 cs' ls' wc) := hbb
        have HBL : Hid (Below w.heap.size w wc) := hbel
        clear hbb hbel HDIS HBB3 HB3 HAB3 HPW3 s0 HP4 HP5 hk
        obtain ⟨wd, hwd⟩ : ∃ wd, wd = wc := ⟨_, rfl⟩
        rw [← hwd] at HBC HBL ⊢
        clear hwd
        obtain ⟨a3, q3, hv3, hm3⟩ := own_form HBC.out.oc
        obtain ⟨a4, q4, hv4, hm4⟩ := own_form HBC.out.ok
        obtain ⟨a5, q5, hv5, hm5⟩ := own_form HBC.out.ol
        obtain ⟨n, hn⟩ : ∃ n, n = ls'.length := ⟨_, rfl⟩
        have hcn := HBC.out.bok.size
        rw [← hcn, ← hn] at hv3
        rw [← hn] at hv4 hv5
        have h16 := HBC.out.bok.le
        have hn16 : (n : Int) ≤ 16 := by omega
        have HN : Hid (n = ls'.length) := hn
        have HCN : Hid (cs'.length = n) := by show _ = _; omega
        subst hv3 hv4 hv5
        clear hm3 hm4 hm5 hn hcn h16
        go_wp2_with fail
        go_loopw [13] (fun jv wx => ∃ j : Nat, jv = .int .i64 j ∧ j ≤ n ∧ Below wd.heap.size wd wx) (fun jv _ => n - (intOf jv).toNat)
        case atStart => exact ⟨0, rfl, by omega, Below.refl _ _⟩
        case round =>
          obtain ⟨j, rfl, hjn, hbx⟩ := hrel
          obtain ⟨wo, hwo⟩ : ∃ wo, wo = wr := ⟨_, rfl⟩
          rw [← hwo] at hbx ⊢
          clear hwo
          have HBX : Hid (Below wd.heap.size wd wo) := hbx
          clear hbx
          by_cases hjl : j < n
          · have hji : (j : Int) < (n : Int) := by omega
            obtain ⟨F, hF, hfi, hfb, hcf, hprev⟩ := HBC.out.bok.find (j := j) (by have := HN.out; omega)
            obtain ⟨g3, q3', e3, _, _, _, _⟩ := own_block HBC.out.oc (by have := HCN.out; omega)
            obtain ⟨g4, q4', e4, _, _, _, _⟩ := own_block HBC.out.ok (by have := HN.out; omega)
            obtain ⟨g5, q5', e5, _, _, _, _⟩ := own_block HBC.out.ol (by have := HN.out; omega)
            simp only [Value.slice.injEq] at e3 e4 e5
            obtain ⟨rfl, ha1, ha2⟩ := e3
            clear ha1 ha2
            obtain ⟨rfl, ha1, ha2⟩ := e4
            clear ha1 ha2
            obtain ⟨rfl, ha1, ha2⟩ := e5
            clear ha1 ha2
            have HOC : Hid (wd.ownsRow w.heap.size 37 6 (.slice (some ⟨g3, 0, none⟩) n q3) n (flatC cs')) := by have := HBC.out.oc; show World.ownsRow _ _ _ _ _ _ _; rw [HCN.out] at this; exact this
            have HOK : Hid (wd.ownsRow w.heap.size 33 1 (.slice (some ⟨g4, 0, none⟩) n q4) n ((ik ls').map (Value.int .u64))) := by have := HBC.out.ok; show World.ownsRow _ _ _ _ _ _ _; rw [← HN.out] at this; exact this
            have HOL : Hid (wd.ownsRow w.heap.size 37 6 (.slice (some ⟨g5, 0, none⟩) n q5) n (flatC ls')) := by have := HBC.out.ol; show World.ownsRow _ _ _ _ _ _ _; rw [← HN.out] at this; exact this
            have m0 := own_key (own_belowC HOK.out HBX.out) j (by have := HN.out; omega)
            have HCV : Hid (Cv wo (.slice (some ⟨g3, 0, none⟩) n q3) cs') := (own_cv (own_belowC HOC.out HBX.out)).1
            obtain ⟨c, hcd⟩ : ∃ c, c = ls'[j]'(by have := HN.out; omega) := ⟨_, rfl⟩
            rw [← hcd] at m0 hfi hfb hcf hprev
            have HFI : Hid (findI cs' c.k = F) := hfi
            have HFB : Hid (findB cs' c.k = true) := hfb
            have HFL : Hid (F < n) := by have := HCN.out; show _ < _; omega
            have HX3 : Hid (CA wd g3 (F * 6) c) := by have := own_ca HOC.out F hF; show CA _ _ _ _; rw [hcf] at this; exact this
            have HX5 : Hid (CA wd g5 (j * 6) c) := by have := own_ca HOL.out j (by have := HN.out; omega); show CA _ _ _ _; rw [← hcd] at this; exact this
            have HPV : Hid (∀ i, F = i + 1 → ∃ p : Cl, CA wd g3 (i * 6) p ∧ p.k < c.k) := fun i hi => ⟨cs'[i]'(by omega), own_ca HOC.out i (by omega), hprev i hi⟩
            clear hcd hfi hfb hcf hprev hF
            go_wp2_with fail
            refine (find_walk HCV.out c.k).mono ?_
            rw [HFI.out, HFB.out]
            rintro e w6 ⟨rfl, hB6⟩
            have HB6 : Hid (Below wd.heap.size wd w6) := below_trans HBX.out hB6
            clear hB6 m0
            have x0 : ∀ wx, Below w6.heap.size w6 wx → wx.cell? ⟨g3, F * 6, none⟩ = some (.int .u64 c.k) := fun wx h => ((HX3.out.keep HB6.out).keep h).c0
            have z0 : ∀ wx, Below w6.heap.size w6 wx → wx.cell? ⟨g5, j * 6, none⟩ = some (.int .u64 c.k) := fun wx h => ((HX5.out.keep HB6.out).keep h).c0
            have x1 : ∀ wx, Below w6.heap.size w6 wx → wx.cell? ⟨g3, F * 6 + 1, none⟩ = some (.bool c.p.h) := fun wx h => ((HX3.out.keep HB6.out).keep h).c1
            have z1 : ∀ wx, Below w6.heap.size w6 wx → wx.cell? ⟨g5, j * 6 + 1, none⟩ = some (.bool c.p.h) := fun wx h => ((HX5.out.keep HB6.out).keep h).c1
            have x2 : ∀ wx, Below w6.heap.size w6 wx → wx.cell? ⟨g3, F * 6 + 2, none⟩ = some (.int .u64 c.p.b) := fun wx h => ((HX3.out.keep HB6.out).keep h).c2
            have z2 : ∀ wx, Below w6.heap.size w6 wx → wx.cell? ⟨g5, j * 6 + 2, none⟩ = some (.int .u64 c.p.b) := fun wx h => ((HX5.out.keep HB6.out).keep h).c2
            have x3 : ∀ wx, Below w6.heap.size w6 wx → wx.cell? ⟨g3, F * 6 + 3, none⟩ = some (.bool c.c.h) := fun wx h => ((HX3.out.keep HB6.out).keep h).c3
            have z3 : ∀ wx, Below w6.heap.size w6 wx → wx.cell? ⟨g5, j * 6 + 3, none⟩ = some (.bool c.c.h) := fun wx h => ((HX5.out.keep HB6.out).keep h).c3
            have x4 : ∀ wx, Below w6.heap.size w6 wx → wx.cell? ⟨g3, F * 6 + 4, none⟩ = some (.int .u64 c.c.b) := fun wx h => ((HX3.out.keep HB6.out).keep h).c4
            have z4 : ∀ wx, Below w6.heap.size w6 wx → wx.cell? ⟨g5, j * 6 + 4, none⟩ = some (.int .u64 c.c.b) := fun wx h => ((HX5.out.keep HB6.out).keep h).c4
            have x5 : ∀ wx, Below w6.heap.size w6 wx → wx.cell? ⟨g3, F * 6 + 5, none⟩ = some (.int .i64 c.n) := fun wx h => ((HX3.out.keep HB6.out).keep h).c5
            have z5 : ∀ wx, Below w6.heap.size w6 wx → wx.cell? ⟨g5, j * 6 + 5, none⟩ = some (.int .i64 c.n) := fun wx h => ((HX5.out.keep HB6.out).keep h).c5
            have hq := neq_cell c
            have hg := guard_cell
            have hFn : (F : Int) < (n : Int) := by have := HFL.out; omega
            have hFd : decide (n ≤ F) = false := decide_eq_false (by have := HFL.out; omega)
            have hFge : ¬ (n : Int) ≤ (F : Int) := by omega
            have hF0 : ¬ (F : Int) < 0 := by omega
            by_cases hf0 : F = 0
            · as_aux_lemma =>
                have hp0 : ¬ (0 : Int) < (F : Int) := by omega
                have hp0d : decide (0 < F) = false := decide_eq_false (by omega)
                clear hf0
                go_upto_region 38 with fail
                refine wp_region_noPanic ?_
                refine wp_region_held_drew (S := fun wx => Below w6.heap.size w6 wx) (by kernel_rfl) ?_ (fun hHeld => ?_)
                · exact (Below.refl _ _).drew
                refine wpAnyH_take (i := 0) (oi := ⟨some 161, _, _, _, _, _⟩) (v := ?_) rfl (by kernel_rfl) (by kernel_rfl) (by kernel_rfl) (fun _ _ _ h => h) (Or.inl ⟨by rfl, ?_⟩) hHeld ?_
                rotate_left
                · intro w hSw; (try dsimp only at hSw); go_simp; all_goals (with_reducible rfl)
                try simp only [Act.put, List.setIfInBounds_toArray, List.set_cons_zero, List.set_cons_succ]
                refine wpAnyH_take (i := 1) (oi := ⟨some 162, _, _, _, _, _⟩) (v := ?_) rfl (by kernel_rfl) (by kernel_rfl) (by kernel_rfl) (fun _ _ _ h => h) (Or.inl ⟨by rfl, ?_⟩) hHeld ?_
                rotate_left
                · intro w hSw; (try dsimp only at hSw); go_simp; all_goals (with_reducible rfl)
                try simp only [Act.put, List.setIfInBounds_toArray, List.set_cons_zero, List.set_cons_succ]
                refine wpAnyH_take (i := 2) (oi := ⟨some 163, _, _, _, _, _⟩) (v := ?_) rfl (by kernel_rfl) (by kernel_rfl) (by kernel_rfl) (fun _ _ _ h => h) (Or.inl ⟨by rfl, ?_⟩) hHeld ?_
                rotate_left
                · intro w hSw; (try dsimp only at hSw); go_simp; all_goals (with_reducible rfl)
                try simp only [Act.put, List.setIfInBounds_toArray, List.set_cons_zero, List.set_cons_succ]
                refine wpAnyH_take (i := 3) (oi := ⟨some 164, _, _, _, _, _⟩) (v := ?_) rfl (by kernel_rfl) (by kernel_rfl) (by kernel_rfl) (fun _ _ _ h => h) (Or.inl ⟨by rfl, ?_⟩) hHeld ?_
                rotate_left
                · intro w hSw; (try dsimp only at hSw); go_simp; all_goals (with_reducible rfl)
                try simp only [Act.put, List.setIfInBounds_toArray, List.set_cons_zero, List.set_cons_succ]
                refine wpAnyH_take (i := 4) (oi := ⟨some 165, _, _, _, _, _⟩) (v := ?_) rfl (by kernel_rfl) (by kernel_rfl) (by kernel_rfl) (fun _ _ _ h => h) (Or.inl ⟨by rfl, ?_⟩) hHeld ?_
                rotate_left
                · intro w hSw; (try dsimp only at hSw); go_simp; all_goals (with_reducible rfl)
                try simp only [Act.put, List.setIfInBounds_toArray, List.set_cons_zero, List.set_cons_succ]
                refine wpAnyH_take (i := 5) (oi := ⟨some 166, _, _, _, _, _⟩) (v := ?_) rfl (by kernel_rfl) (by kernel_rfl) (by kernel_rfl) (fun _ _ _ h => h) (Or.inl ⟨by rfl, ?_⟩) hHeld ?_
                rotate_left
                · intro w hSw; (try dsimp only at hSw); go_simp; all_goals (with_reducible rfl)
                try simp only [Act.put, List.setIfInBounds_toArray, List.set_cons_zero, List.set_cons_succ]
                refine wpAnyH_take (i := 6) (oi := ⟨some 167, _, _, _, _, _⟩) (v := ?_) rfl (by kernel_rfl) (by kernel_rfl) (by kernel_rfl) (fun _ _ _ h => h) (Or.inl ⟨by rfl, ?_⟩) hHeld ?_
                rotate_left
                · intro w hSw; (try dsimp only at hSw); go_simp; all_goals (with_reducible rfl)
                try simp only [Act.put, List.setIfInBounds_toArray, List.set_cons_zero, List.set_cons_succ]
                refine wpAnyH_take (i := 7) (oi := ⟨some 168, _, _, _, _, _⟩) (v := ?_) rfl (by kernel_rfl) (by kernel_rfl) (by kernel_rfl) (fun _ _ _ h => h) (Or.inl ⟨by rfl, ?_⟩) hHeld ?_
                rotate_left
                · intro w hSw; (try dsimp only at hSw); go_simp; all_goals (with_reducible rfl)
                try simp only [Act.put, List.setIfInBounds_toArray, List.set_cons_zero, List.set_cons_succ]
                refine wpAnyH_take (i := 8) (oi := ⟨some 169, _, _, _, _, _⟩) (v := ?_) rfl (by kernel_rfl) (by kernel_rfl) (by kernel_rfl) (fun _ _ _ h => h) (Or.inl ⟨by rfl, ?_⟩) hHeld ?_
                rotate_left
                · intro w hSw; (try dsimp only at hSw); go_simp; all_goals (with_reducible rfl)
                try simp only [Act.put, List.setIfInBounds_toArray, List.set_cons_zero, List.set_cons_succ]
                refine wpAnyH_take (i := 9) (oi := ⟨some 170, _, _, _, _, _⟩) (v := ?_) rfl (by kernel_rfl) (by kernel_rfl) (by kernel_rfl) (fun _ _ _ h => h) (Or.inl ⟨by rfl, ?_⟩) hHeld ?_
                rotate_left
                · intro w hSw; (try dsimp only at hSw); go_simp; all_goals (with_reducible rfl)
                try simp only [Act.put, List.setIfInBounds_toArray, List.set_cons_zero, List.set_cons_succ]
                refine wpAnyH_take (i := 10) (oi := ⟨some 171, _, _, _, _, _⟩) (v := ?_) rfl (by kernel_rfl) (by kernel_rfl) (by kernel_rfl) (fun _ _ _ h => h) (Or.inl ⟨by rfl, ?_⟩) hHeld ?_
                rotate_left
                · intro w hSw; (try dsimp only at hSw); go_simp; all_goals (with_reducible rfl)
                try simp only [Act.put, List.setIfInBounds_toArray, List.set_cons_zero, List.set_cons_succ]
                refine wpAnyH_take (i := 11) (oi := ⟨some 172, _, _, _, _, _⟩) (v := ?_) rfl (by kernel_rfl) (by kernel_rfl) (by kernel_rfl) (fun _ _ _ h => h) (Or.inl ⟨by rfl, ?_⟩) hHeld ?_
                rotate_left
                · intro w hSw; (try dsimp only at hSw); go_simp; all_goals (with_reducible rfl)
                try simp only [Act.put, List.setIfInBounds_toArray, List.set_cons_zero, List.set_cons_succ]
                refine wpAnyH_take (i := 12) (oi := ⟨some 173, _, _, _, _, _⟩) (v := ?_) rfl (by kernel_rfl) (by kernel_rfl) (by kernel_rfl) (fun _ _ _ h => h) (Or.inl ⟨by rfl, ?_⟩) hHeld ?_
                rotate_left
                · intro w hSw; (try dsimp only at hSw); go_simp; all_goals (with_reducible rfl)
                try simp only [Act.put, List.setIfInBounds_toArray, List.set_cons_zero, List.set_cons_succ]
                refine wpAnyH_take (i := 13) (oi := ⟨some 174, _, _, _, _, _⟩) (v := ?_) rfl (by kernel_rfl) (by kernel_rfl) (by kernel_rfl) (fun _ _ _ h => h) (Or.inl ⟨by rfl, ?_⟩) hHeld ?_
                rotate_left
                · intro w hSw; (try dsimp only at hSw); go_simp; all_goals (with_reducible rfl)
                try simp only [Act.put, List.setIfInBounds_toArray, List.set_cons_zero, List.set_cons_succ]
                refine wpAnyH_take (i := 14) (oi := ⟨some 175, _, _, _, _, _⟩) (v := ?_) rfl (by kernel_rfl) (by kernel_rfl) (by kernel_rfl) (fun _ _ _ h => h) (Or.inl ⟨by rfl, ?_⟩) hHeld ?_
                rotate_left
                · intro w hSw; (try dsimp only at hSw); go_simp; all_goals (with_reducible rfl)
                try simp only [Act.put, List.setIfInBounds_toArray, List.set_cons_zero, List.set_cons_succ]
                refine wpAnyH_take (i := 15) (oi := ⟨some 176, _, _, _, _, _⟩) (v := ?_) rfl (by kernel_rfl) (by kernel_rfl) (by kernel_rfl) (fun _ _ _ h => h) (Or.inl ⟨by rfl, ?_⟩) hHeld ?_
                rotate_left
                · intro w hSw; (try dsimp only at hSw); go_simp; all_goals (with_reducible rfl)
                try simp only [Act.put, List.setIfInBounds_toArray, List.set_cons_zero, List.set_cons_succ]
                refine wpAnyH_take (i := 16) (oi := ⟨some 177, _, _, _, _, _⟩) (v := ?_) rfl (by kernel_rfl) (by kernel_rfl) (by kernel_rfl) (fun _ _ _ h => h) (Or.inl ⟨by rfl, ?_⟩) hHeld ?_
                rotate_left
                · intro w hSw; (try dsimp only at hSw); go_simp; all_goals (with_reducible rfl)
                try simp only [Act.put, List.setIfInBounds_toArray, List.set_cons_zero, List.set_cons_succ]
                refine wpAnyH_take (i := 17) (oi := ⟨some 178, _, _, _, _, _⟩) (v := ?_) rfl (by kernel_rfl) (by kernel_rfl) (by kernel_rfl) (fun _ _ _ h => h) (Or.inl ⟨by rfl, ?_⟩) hHeld ?_
                rotate_left
                · intro w hSw; (try dsimp only at hSw); go_simp; all_goals (with_reducible rfl)
                try simp only [Act.put, List.setIfInBounds_toArray, List.set_cons_zero, List.set_cons_succ]
                refine wpAnyH_take (i := 18) (oi := ⟨some 179, _, _, _, _, _⟩) (v := ?_) rfl (by kernel_rfl) (by kernel_rfl) (by kernel_rfl) (fun _ _ _ h => h) (Or.inl ⟨by rfl, ?_⟩) hHeld ?_
                rotate_left
                · intro w hSw; (try dsimp only at hSw); go_simp; all_goals (with_reducible rfl)
                try simp only [Act.put, List.setIfInBounds_toArray, List.set_cons_zero, List.set_cons_succ]
                refine wpAnyH_take (i := 19) (oi := ⟨some 180, _, _, _, _, _⟩) (v := ?_) rfl (by kernel_rfl) (by kernel_rfl) (by kernel_rfl) (fun _ _ _ h => h) (Or.inl ⟨by rfl, ?_⟩) hHeld ?_
                rotate_left
                · intro w hSw; (try dsimp only at hSw); go_simp; all_goals (with_reducible rfl)
                try simp only [Act.put, List.setIfInBounds_toArray, List.set_cons_zero, List.set_cons_succ]
                refine wpAnyH_take (i := 20) (oi := ⟨some 181, _, _, _, _, _⟩) (v := ?_) rfl (by kernel_rfl) (by kernel_rfl) (by kernel_rfl) (fun _ _ _ h => h) (Or.inl ⟨by rfl, ?_⟩) hHeld ?_
                rotate_left
                · intro w hSw; (try dsimp only at hSw); go_simp; all_goals (with_reducible rfl)
                try simp only [Act.put, List.setIfInBounds_toArray, List.set_cons_zero, List.set_cons_succ]
                refine wpAnyH_take (i := 21) (oi := ⟨some 182, _, _, _, _, _⟩) (v := ?_) rfl (by kernel_rfl) (by kernel_rfl) (by kernel_rfl) (fun _ _ _ h => h) (Or.inl ⟨by rfl, ?_⟩) hHeld ?_
                rotate_left
                · intro w hSw; (try dsimp only at hSw); go_simp; all_goals (with_reducible rfl)
                try simp only [Act.put, List.setIfInBounds_toArray, List.set_cons_zero, List.set_cons_succ]
                refine wpAnyH_take (i := 22) (oi := ⟨some 183, _, _, _, _, _⟩) (v := ?_) rfl (by kernel_rfl) (by kernel_rfl) (by kernel_rfl) (fun _ _ _ h => h) (Or.inl ⟨by rfl, ?_⟩) hHeld ?_
                rotate_left
                · intro w hSw; (try dsimp only at hSw); go_simp; all_goals (with_reducible rfl)
                try simp only [Act.put, List.setIfInBounds_toArray, List.set_cons_zero, List.set_cons_succ]
                refine wpAnyH_take (i := 23) (oi := ⟨some 184, _, _, _, _, _⟩) (v := ?_) rfl (by kernel_rfl) (by kernel_rfl) (by kernel_rfl) (fun _ _ _ h => h) (Or.inl ⟨by rfl, ?_⟩) hHeld ?_
                rotate_left
                · intro w hSw; (try dsimp only at hSw); go_simp; all_goals (with_reducible rfl)
                try simp only [Act.put, List.setIfInBounds_toArray, List.set_cons_zero, List.set_cons_succ]
                refine wpAnyH_take (i := 24) (oi := ⟨some 185, _, _, _, _, _⟩) (v := ?_) rfl (by kernel_rfl) (by kernel_rfl) (by kernel_rfl) (fun _ _ _ h => h) (Or.inl ⟨by rfl, ?_⟩) hHeld ?_
                rotate_left
                · intro w hSw; (try dsimp only at hSw); go_simp; all_goals (with_reducible rfl)
                try simp only [Act.put, List.setIfInBounds_toArray, List.set_cons_zero, List.set_cons_succ]
                refine wpAnyH_take (i := 25) (oi := ⟨some 186, _, _, _, _, _⟩) (v := ?_) rfl (by kernel_rfl) (by kernel_rfl) (by kernel_rfl) (fun _ _ _ h => h) (Or.inl ⟨by rfl, ?_⟩) hHeld ?_
                rotate_left
                · intro w hSw; (try dsimp only at hSw); go_simp; all_goals (with_reducible rfl)
                try simp only [Act.put, List.setIfInBounds_toArray, List.set_cons_zero, List.set_cons_succ]
                refine wpAnyH_take (i := 26) (oi := ⟨some 187, _, _, _, _, _⟩) (v := ?_) rfl (by kernel_rfl) (by kernel_rfl) (by kernel_rfl) (fun _ _ _ h => h) (Or.inl ⟨by rfl, ?_⟩) hHeld ?_
                rotate_left
                · intro w hSw; (try dsimp only at hSw); go_simp; all_goals (with_reducible rfl)
                try simp only [Act.put, List.setIfInBounds_toArray, List.set_cons_zero, List.set_cons_succ]
                refine wpAnyH_take (i := 27) (oi := ⟨some 188, _, _, _, _, _⟩) (v := undef) rfl (by kernel_rfl) (by kernel_rfl) (by kernel_rfl) (fun _ _ _ h => h) (Or.inr ⟨by rfl, rfl⟩) hHeld ?_
                try simp only [Act.put, List.setIfInBounds_toArray, List.set_cons_zero, List.set_cons_succ]
                refine wpAnyH_take (i := 28) (oi := ⟨some 189, _, _, _, _, _⟩) (v := undef) rfl (by kernel_rfl) (by kernel_rfl) (by kernel_rfl) (fun _ _ _ h => h) (Or.inr ⟨by rfl, rfl⟩) hHeld ?_
                try simp only [Act.put, List.setIfInBounds_toArray, List.set_cons_zero, List.set_cons_succ]
                refine wpAnyH_take (i := 29) (oi := ⟨some 190, _, _, _, _, _⟩) (v := undef) rfl (by kernel_rfl) (by kernel_rfl) (by kernel_rfl) (fun _ _ _ h => h) (Or.inr ⟨by rfl, rfl⟩) hHeld ?_
                try simp only [Act.put, List.setIfInBounds_toArray, List.set_cons_zero, List.set_cons_succ]
                refine wpAnyH_take (i := 30) (oi := ⟨some 191, _, _, _, _, _⟩) (v := undef) rfl (by kernel_rfl) (by kernel_rfl) (by kernel_rfl) (fun _ _ _ h => h) (Or.inr ⟨by rfl, rfl⟩) hHeld ?_
                try simp only [Act.put, List.setIfInBounds_toArray, List.set_cons_zero, List.set_cons_succ]
                refine wpAnyH_take (i := 31) (oi := ⟨some 192, _, _, _, _, _⟩) (v := undef) rfl (by kernel_rfl) (by kernel_rfl) (by kernel_rfl) (fun _ _ _ h => h) (Or.inr ⟨by rfl, rfl⟩) hHeld ?_
                try simp only [Act.put, List.setIfInBounds_toArray, List.set_cons_zero, List.set_cons_succ]
                refine wpAnyH_take (i := 32) (oi := ⟨some 193, _, _, _, _, _⟩) (v := undef) rfl (by kernel_rfl) (by kernel_rfl) (by kernel_rfl) (fun _ _ _ h => h) (Or.inr ⟨by rfl, rfl⟩) hHeld ?_
                try simp only [Act.put, List.setIfInBounds_toArray, List.set_cons_zero, List.set_cons_succ]
                refine wpAnyH_take (i := 33) (oi := ⟨some 194, _, _, _, _, _⟩) (v := undef) rfl (by kernel_rfl) (by kernel_rfl) (by kernel_rfl) (fun _ _ _ h => h) (Or.inr ⟨by rfl, rfl⟩) hHeld ?_
                try simp only [Act.put, List.setIfInBounds_toArray, List.set_cons_zero, List.set_cons_succ]
                refine wpAnyH_take (i := 34) (oi := ⟨some 195, _, _, _, _, _⟩) (v := undef) rfl (by kernel_rfl) (by kernel_rfl) (by kernel_rfl) (fun _ _ _ h => h) (Or.inr ⟨by rfl, rfl⟩) hHeld ?_
                try simp only [Act.put, List.setIfInBounds_toArray, List.set_cons_zero, List.set_cons_succ]
                refine wpAnyH_take (i := 35) (oi := ⟨some 196, _, _, _, _, _⟩) (v := undef) rfl (by kernel_rfl) (by kernel_rfl) (by kernel_rfl) (fun _ _ _ h => h) (Or.inr ⟨by rfl, rfl⟩) hHeld ?_
                try simp only [Act.put, List.setIfInBounds_toArray, List.set_cons_zero, List.set_cons_succ]
                refine wpAnyH_take (i := 36) (oi := ⟨some 197, _, _, _, _, _⟩) (v := undef) rfl (by kernel_rfl) (by kernel_rfl) (by kernel_rfl) (fun _ _ _ h => h) (Or.inr ⟨by rfl, rfl⟩) hHeld ?_
                try simp only [Act.put, List.setIfInBounds_toArray, List.set_cons_zero, List.set_cons_succ]
                refine wpAnyH_take (i := 37) (oi := ⟨some 198, _, _, _, _, _⟩) (v := undef) rfl (by kernel_rfl) (by kernel_rfl) (by kernel_rfl) (fun _ _ _ h => h) (Or.inr ⟨by rfl, rfl⟩) hHeld ?_
                try simp only [Act.put, List.setIfInBounds_toArray, List.set_cons_zero, List.set_cons_succ]
                refine wpAnyH_take (i := 38) (oi := ⟨some 199, _, _, _, _, _⟩) (v := undef) rfl (by kernel_rfl) (by kernel_rfl) (by kernel_rfl) (fun _ _ _ h => h) (Or.inr ⟨by rfl, rfl⟩) hHeld ?_
                try simp only [Act.put, List.setIfInBounds_toArray, List.set_cons_zero, List.set_cons_succ]
                refine wpAnyH_take (i := 39) (oi := ⟨some 200, _, _, _, _, _⟩) (v := ?_) rfl (by kernel_rfl) (by kernel_rfl) (by kernel_rfl) (fun _ _ _ h => h) (Or.inl ⟨by rfl, ?_⟩) hHeld ?_
                rotate_left
                · intro w hSw; (try dsimp only at hSw); go_simp; all_goals (with_reducible rfl)
                try simp only [Act.put, List.setIfInBounds_toArray, List.set_cons_zero, List.set_cons_succ]
                refine wpAnyH_take (i := 40) (oi := ⟨some 201, _, _, _, _, _⟩) (v := ?_) rfl (by kernel_rfl) (by kernel_rfl) (by kernel_rfl) (fun _ _ _ h => h) (Or.inl ⟨by rfl, ?_⟩) hHeld ?_
                rotate_left
                · intro w hSw; (try dsimp only at hSw); go_simp; all_goals (with_reducible rfl)
                try simp only [Act.put, List.setIfInBounds_toArray, List.set_cons_zero, List.set_cons_succ]
                refine wpAnyH_done (by kernel_rfl) ?_ _
                refine NoPanic.normal ?_
                have HB9 : Hid (Below wd.heap.size wd w6.drew) := below_trans HB6.out (below_drew _)
                go_wp2_with fail
                go_roundw
                case rel => exact ⟨j + 1, by go_num, hjl, HB9.out⟩
                case measure => simp [intOf]; omega
            · as_aux_lemma =>
                obtain ⟨i2, hi2⟩ : ∃ i2, F = i2 + 1 := ⟨F - 1, by omega⟩
                obtain ⟨p, hpa, hpk⟩ := HPV.out i2 hi2
                have y0 : ∀ wx, Below w6.heap.size w6 wx → wx.cell? ⟨g3, i2 * 6, none⟩ = some (.int .u64 p.k) := fun wx h => ((hpa.keep HB6.out).keep h).c0
                have hp0 : (0 : Int) < (F : Int) := by omega
                have hp0d : decide (0 < F) = true := decide_eq_true (by omega)
                have hFi : (F : Int) - 1 = (i2 : Int) := by omega
                have hi2n : (i2 : Int) < (n : Int) := by omega
                have hwi : IntKind.i64.wrap (i2 : Int) = (i2 : Int) := by rw [IntKind.wrap_i64]; omega
                have hge : ¬ (c.k : Int) ≤ (p.k : Int) := by omega
                have hged : decide (c.k ≤ p.k) = false := decide_eq_false (by omega)
                clear hf0 hi2 hpa hpk
                go_upto_region 38 with fail
                refine wp_region_noPanic ?_
                refine wp_region_held_drew (S := fun wx => Below w6.heap.size w6 wx) (by kernel_rfl) ?_ (fun hHeld => ?_)
                · exact (Below.refl _ _).drew
                refine wpAnyH_take (i := 0) (oi := ⟨some 161, _, _, _, _, _⟩) (v := ?_) rfl (by kernel_rfl) (by kernel_rfl) (by kernel_rfl) (fun _ _ _ h => h) (Or.inl ⟨by rfl, ?_⟩) hHeld ?_
                rotate_left
                · intro w hSw; (try dsimp only at hSw); go_simp; all_goals (with_reducible rfl)
                try simp only [Act.put, List.setIfInBounds_toArray, List.set_cons_zero, List.set_cons_succ]
                refine wpAnyH_take (i := 1) (oi := ⟨some 162, _, _, _, _, _⟩) (v := ?_) rfl (by kernel_rfl) (by kernel_rfl) (by kernel_rfl) (fun _ _ _ h => h) (Or.inl ⟨by rfl, ?_⟩) hHeld ?_
                rotate_left
                · intro w hSw; (try dsimp only at hSw); go_simp; all_goals (with_reducible rfl)
                try simp only [Act.put, List.setIfInBounds_toArray, List.set_cons_zero, List.set_cons_succ]
                refine wpAnyH_take (i := 2) (oi := ⟨some 163, _, _, _, _, _⟩) (v := ?_) rfl (by kernel_rfl) (by kernel_rfl) (by kernel_rfl) (fun _ _ _ h => h) (Or.inl ⟨by rfl, ?_⟩) hHeld ?_
                rotate_left
                · intro w hSw; (try dsimp only at hSw); go_simp; all_goals (with_reducible rfl)
                try simp only [Act.put, List.setIfInBounds_toArray, List.set_cons_zero, List.set_cons_succ]
                refine wpAnyH_take (i := 3) (oi := ⟨some 164, _, _, _, _, _⟩) (v := ?_) rfl (by kernel_rfl) (by kernel_rfl) (by kernel_rfl) (fun _ _ _ h => h) (Or.inl ⟨by rfl, ?_⟩) hHeld ?_
                rotate_left
                · intro w hSw; (try dsimp only at hSw); go_simp; all_goals (with_reducible rfl)
                try simp only [Act.put, List.setIfInBounds_toArray, List.set_cons_zero, List.set_cons_succ]
                refine wpAnyH_take (i := 4) (oi := ⟨some 165, _, _, _, _, _⟩) (v := ?_) rfl (by kernel_rfl) (by kernel_rfl) (by kernel_rfl) (fun _ _ _ h => h) (Or.inl ⟨by rfl, ?_⟩) hHeld ?_
                rotate_left
                · intro w hSw; (try dsimp only at hSw); go_simp; all_goals (with_reducible rfl)
                try simp only [Act.put, List.setIfInBounds_toArray, List.set_cons_zero, List.set_cons_succ]
                refine wpAnyH_take (i := 5) (oi := ⟨some 166, _, _, _, _, _⟩) (v := ?_) rfl (by kernel_rfl) (by kernel_rfl) (by kernel_rfl) (fun _ _ _ h => h) (Or.inl ⟨by rfl, ?_⟩) hHeld ?_
                rotate_left
                · intro w hSw; (try dsimp only at hSw); go_simp; all_goals (with_reducible rfl)
                try simp only [Act.put, List.setIfInBounds_toArray, List.set_cons_zero, List.set_cons_succ]
                refine wpAnyH_take (i := 6) (oi := ⟨some 167, _, _, _, _, _⟩) (v := ?_) rfl (by kernel_rfl) (by kernel_rfl) (by kernel_rfl) (fun _ _ _ h => h) (Or.inl ⟨by rfl, ?_⟩) hHeld ?_
                rotate_left
                · intro w hSw; (try dsimp only at hSw); go_simp; all_goals (with_reducible rfl)
                try simp only [Act.put, List.setIfInBounds_toArray, List.set_cons_zero, List.set_cons_succ]
                refine wpAnyH_take (i := 7) (oi := ⟨some 168, _, _, _, _, _⟩) (v := ?_) rfl (by kernel_rfl) (by kernel_rfl) (by kernel_rfl) (fun _ _ _ h => h) (Or.inl ⟨by rfl, ?_⟩) hHeld ?_
                rotate_left
                · intro w hSw; (try dsimp only at hSw); go_simp; all_goals (with_reducible rfl)
                try simp only [Act.put, List.setIfInBounds_toArray, List.set_cons_zero, List.set_cons_succ]
                refine wpAnyH_take (i := 8) (oi := ⟨some 169, _, _, _, _, _⟩) (v := ?_) rfl (by kernel_rfl) (by kernel_rfl) (by kernel_rfl) (fun _ _ _ h => h) (Or.inl ⟨by rfl, ?_⟩) hHeld ?_
                rotate_left
                · intro w hSw; (try dsimp only at hSw); go_simp; all_goals (with_reducible rfl)
                try simp only [Act.put, List.setIfInBounds_toArray, List.set_cons_zero, List.set_cons_succ]
                refine wpAnyH_take (i := 9) (oi := ⟨some 170, _, _, _, _, _⟩) (v := ?_) rfl (by kernel_rfl) (by kernel_rfl) (by kernel_rfl) (fun _ _ _ h => h) (Or.inl ⟨by rfl, ?_⟩) hHeld ?_
                rotate_left
                · intro w hSw; (try dsimp only at hSw); go_simp; all_goals (with_reducible rfl)
                try simp only [Act.put, List.setIfInBounds_toArray, List.set_cons_zero, List.set_cons_succ]
                refine wpAnyH_take (i := 10) (oi := ⟨some 171, _, _, _, _, _⟩) (v := ?_) rfl (by kernel_rfl) (by kernel_rfl) (by kernel_rfl) (fun _ _ _ h => h) (Or.inl ⟨by rfl, ?_⟩) hHeld ?_
                rotate_left
                · intro w hSw; (try dsimp only at hSw); go_simp; all_goals (with_reducible rfl)
                try simp only [Act.put, List.setIfInBounds_toArray, List.set_cons_zero, List.set_cons_succ]
                refine wpAnyH_take (i := 11) (oi := ⟨some 172, _, _, _, _, _⟩) (v := ?_) rfl (by kernel_rfl) (by kernel_rfl) (by kernel_rfl) (fun _ _ _ h => h) (Or.inl ⟨by rfl, ?_⟩) hHeld ?_
                rotate_left
                · intro w hSw; (try dsimp only at hSw); go_simp; all_goals (with_reducible rfl)
                try simp only [Act.put, List.setIfInBounds_toArray, List.set_cons_zero, List.set_cons_succ]
                refine wpAnyH_take (i := 12) (oi := ⟨some 173, _, _, _, _, _⟩) (v := ?_) rfl (by kernel_rfl) (by kernel_rfl) (by kernel_rfl) (fun _ _ _ h => h) (Or.inl ⟨by rfl, ?_⟩) hHeld ?_
                rotate_left
                · intro w hSw; (try dsimp only at hSw); go_simp; all_goals (with_reducible rfl)
                try simp only [Act.put, List.setIfInBounds_toArray, List.set_cons_zero, List.set_cons_succ]
                refine wpAnyH_take (i := 13) (oi := ⟨some 174, _, _, _, _, _⟩) (v := ?_) rfl (by kernel_rfl) (by kernel_rfl) (by kernel_rfl) (fun _ _ _ h => h) (Or.inl ⟨by rfl, ?_⟩) hHeld ?_
                rotate_left
                · intro w hSw; (try dsimp only at hSw); go_simp; all_goals (with_reducible rfl)
                try simp only [Act.put, List.setIfInBounds_toArray, List.set_cons_zero, List.set_cons_succ]
                refine wpAnyH_take (i := 14) (oi := ⟨some 175, _, _, _, _, _⟩) (v := ?_) rfl (by kernel_rfl) (by kernel_rfl) (by kernel_rfl) (fun _ _ _ h => h) (Or.inl ⟨by rfl, ?_⟩) hHeld ?_
                rotate_left
                · intro w hSw; (try dsimp only at hSw); go_simp; all_goals (with_reducible rfl)
                try simp only [Act.put, List.setIfInBounds_toArray, List.set_cons_zero, List.set_cons_succ]
                refine wpAnyH_take (i := 15) (oi := ⟨some 176, _, _, _, _, _⟩) (v := ?_) rfl (by kernel_rfl) (by kernel_rfl) (by kernel_rfl) (fun _ _ _ h => h) (Or.inl ⟨by rfl, ?_⟩) hHeld ?_
                rotate_left
                · intro w hSw; (try dsimp only at hSw); go_simp; all_goals (with_reducible rfl)
                try simp only [Act.put, List.setIfInBounds_toArray, List.set_cons_zero, List.set_cons_succ]
                refine wpAnyH_take (i := 16) (oi := ⟨some 177, _, _, _, _, _⟩) (v := ?_) rfl (by kernel_rfl) (by kernel_rfl) (by kernel_rfl) (fun _ _ _ h => h) (Or.inl ⟨by rfl, ?_⟩) hHeld ?_
                rotate_left
                · intro w hSw; (try dsimp only at hSw); go_simp; all_goals (with_reducible rfl)
                try simp only [Act.put, List.setIfInBounds_toArray, List.set_cons_zero, List.set_cons_succ]
                refine wpAnyH_take (i := 17) (oi := ⟨some 178, _, _, _, _, _⟩) (v := ?_) rfl (by kernel_rfl) (by kernel_rfl) (by kernel_rfl) (fun _ _ _ h => h) (Or.inl ⟨by rfl, ?_⟩) hHeld ?_
                rotate_left
                · intro w hSw; (try dsimp only at hSw); go_simp; all_goals (with_reducible rfl)
                try simp only [Act.put, List.setIfInBounds_toArray, List.set_cons_zero, List.set_cons_succ]
                refine wpAnyH_take (i := 18) (oi := ⟨some 179, _, _, _, _, _⟩) (v := ?_) rfl (by kernel_rfl) (by kernel_rfl) (by kernel_rfl) (fun _ _ _ h => h) (Or.inl ⟨by rfl, ?_⟩) hHeld ?_
                rotate_left
                · intro w hSw; (try dsimp only at hSw); go_simp; all_goals (with_reducible rfl)
                try simp only [Act.put, List.setIfInBounds_toArray, List.set_cons_zero, List.set_cons_succ]
                refine wpAnyH_take (i := 19) (oi := ⟨some 180, _, _, _, _, _⟩) (v := ?_) rfl (by kernel_rfl) (by kernel_rfl) (by kernel_rfl) (fun _ _ _ h => h) (Or.inl ⟨by rfl, ?_⟩) hHeld ?_
                rotate_left
                · intro w hSw; (try dsimp only at hSw); go_simp; all_goals (with_reducible rfl)
                try simp only [Act.put, List.setIfInBounds_toArray, List.set_cons_zero, List.set_cons_succ]
                refine wpAnyH_take (i := 20) (oi := ⟨some 181, _, _, _, _, _⟩) (v := ?_) rfl (by kernel_rfl) (by kernel_rfl) (by kernel_rfl) (fun _ _ _ h => h) (Or.inl ⟨by rfl, ?_⟩) hHeld ?_
                rotate_left
                · intro w hSw; (try dsimp only at hSw); go_simp; all_goals (with_reducible rfl)
                try simp only [Act.put, List.setIfInBounds_toArray, List.set_cons_zero, List.set_cons_succ]
                refine wpAnyH_take (i := 21) (oi := ⟨some 182, _, _, _, _, _⟩) (v := ?_) rfl (by kernel_rfl) (by kernel_rfl) (by kernel_rfl) (fun _ _ _ h => h) (Or.inl ⟨by rfl, ?_⟩) hHeld ?_
                rotate_left
                · intro w hSw; (try dsimp only at hSw); go_simp; all_goals (with_reducible rfl)
                try simp only [Act.put, List.setIfInBounds_toArray, List.set_cons_zero, List.set_cons_succ]
                refine wpAnyH_take (i := 22) (oi := ⟨some 183, _, _, _, _, _⟩) (v := ?_) rfl (by kernel_rfl) (by kernel_rfl) (by kernel_rfl) (fun _ _ _ h => h) (Or.inl ⟨by rfl, ?_⟩) hHeld ?_
                rotate_left
                · intro w hSw; (try dsimp only at hSw); go_simp; all_goals (with_reducible rfl)
                try simp only [Act.put, List.setIfInBounds_toArray, List.set_cons_zero, List.set_cons_succ]
                refine wpAnyH_take (i := 23) (oi := ⟨some 184, _, _, _, _, _⟩) (v := ?_) rfl (by kernel_rfl) (by kernel_rfl) (by kernel_rfl) (fun _ _ _ h => h) (Or.inl ⟨by rfl, ?_⟩) hHeld ?_
                rotate_left
                · intro w hSw; (try dsimp only at hSw); go_simp; all_goals (with_reducible rfl)
                try simp only [Act.put, List.setIfInBounds_toArray, List.set_cons_zero, List.set_cons_succ]
                refine wpAnyH_take (i := 24) (oi := ⟨some 185, _, _, _, _, _⟩) (v := ?_) rfl (by kernel_rfl) (by kernel_rfl) (by kernel_rfl) (fun _ _ _ h => h) (Or.inl ⟨by rfl, ?_⟩) hHeld ?_
                rotate_left
                · intro w hSw; (try dsimp only at hSw); go_simp; all_goals (with_reducible rfl)
                try simp only [Act.put, List.setIfInBounds_toArray, List.set_cons_zero, List.set_cons_succ]
                refine wpAnyH_take (i := 25) (oi := ⟨some 186, _, _, _, _, _⟩) (v := ?_) rfl (by kernel_rfl) (by kernel_rfl) (by kernel_rfl) (fun _ _ _ h => h) (Or.inl ⟨by rfl, ?_⟩) hHeld ?_
                rotate_left
                · intro w hSw; (try dsimp only at hSw); go_simp; all_goals (with_reducible rfl)
                try simp only [Act.put, List.setIfInBounds_toArray, List.set_cons_zero, List.set_cons_succ]
                refine wpAnyH_take (i := 26) (oi := ⟨some 187, _, _, _, _, _⟩) (v := ?_) rfl (by kernel_rfl) (by kernel_rfl) (by kernel_rfl) (fun _ _ _ h => h) (Or.inl ⟨by rfl, ?_⟩) hHeld ?_
                rotate_left
                · intro w hSw; (try dsimp only at hSw); go_simp; all_goals (with_reducible rfl)
                try simp only [Act.put, List.setIfInBounds_toArray, List.set_cons_zero, List.set_cons_succ]
                refine wpAnyH_take (i := 27) (oi := ⟨some 188, _, _, _, _, _⟩) (v := ?_) rfl (by kernel_rfl) (by kernel_rfl) (by kernel_rfl) (fun _ _ _ h => h) (Or.inl ⟨by rfl, ?_⟩) hHeld ?_
                rotate_left
                · intro w hSw; (try dsimp only at hSw); go_simp; all_goals (with_reducible rfl)
                try simp only [Act.put, List.setIfInBounds_toArray, List.set_cons_zero, List.set_cons_succ]
                refine wpAnyH_take (i := 28) (oi := ⟨some 189, _, _, _, _, _⟩) (v := ?_) rfl (by kernel_rfl) (by kernel_rfl) (by kernel_rfl) (fun _ _ _ h => h) (Or.inl ⟨by rfl, ?_⟩) hHeld ?_
                rotate_left
                · intro w hSw; (try dsimp only at hSw); go_simp; all_goals (with_reducible rfl)
                try simp only [Act.put, List.setIfInBounds_toArray, List.set_cons_zero, List.set_cons_succ]
                refine wpAnyH_take (i := 29) (oi := ⟨some 190, _, _, _, _, _⟩) (v := ?_) rfl (by kernel_rfl) (by kernel_rfl) (by kernel_rfl) (fun _ _ _ h => h) (Or.inl ⟨by rfl, ?_⟩) hHeld ?_
                rotate_left
                · intro w hSw; (try dsimp only at hSw); go_simp; all_goals (with_reducible rfl)
                try simp only [Act.put, List.setIfInBounds_toArray, List.set_cons_zero, List.set_cons_succ]
                refine wpAnyH_take (i := 30) (oi := ⟨some 191, _, _, _, _, _⟩) (v := ?_) rfl (by kernel_rfl) (by kernel_rfl) (by kernel_rfl) (fun _ _ _ h => h) (Or.inl ⟨by rfl, ?_⟩) hHeld ?_
                rotate_left
                · intro w hSw; (try dsimp only at hSw); go_simp; all_goals (with_reducible rfl)
                try simp only [Act.put, List.setIfInBounds_toArray, List.set_cons_zero, List.set_cons_succ]
                refine wpAnyH_take (i := 31) (oi := ⟨some 192, _, _, _, _, _⟩) (v := ?_) rfl (by kernel_rfl) (by kernel_rfl) (by kernel_rfl) (fun _ _ _ h => h) (Or.inl ⟨by rfl, ?_⟩) hHeld ?_
                rotate_left
                · intro w hSw; (try dsimp only at hSw); go_simp; all_goals (with_reducible rfl)
                try simp only [Act.put, List.setIfInBounds_toArray, List.set_cons_zero, List.set_cons_succ]
                refine wpAnyH_take (i := 32) (oi := ⟨some 193, _, _, _, _, _⟩) (v := ?_) rfl (by kernel_rfl) (by kernel_rfl) (by kernel_rfl) (fun _ _ _ h => h) (Or.inl ⟨by rfl, ?_⟩) hHeld ?_
                rotate_left
                · intro w hSw; (try dsimp only at hSw); go_simp; all_goals (with_reducible rfl)
                try simp only [Act.put, List.setIfInBounds_toArray, List.set_cons_zero, List.set_cons_succ]
                refine wpAnyH_take (i := 33) (oi := ⟨some 194, _, _, _, _, _⟩) (v := ?_) rfl (by kernel_rfl) (by kernel_rfl) (by kernel_rfl) (fun _ _ _ h => h) (Or.inl ⟨by rfl, ?_⟩) hHeld ?_
                rotate_left
                · intro w hSw; (try dsimp only at hSw); go_simp; all_goals (with_reducible rfl)
                try simp only [Act.put, List.setIfInBounds_toArray, List.set_cons_zero, List.set_cons_succ]
                refine wpAnyH_take (i := 34) (oi := ⟨some 195, _, _, _, _, _⟩) (v := ?_) rfl (by kernel_rfl) (by kernel_rfl) (by kernel_rfl) (fun _ _ _ h => h) (Or.inl ⟨by rfl, ?_⟩) hHeld ?_
                rotate_left
                · intro w hSw; (try dsimp only at hSw); go_simp; all_goals (with_reducible rfl)
                try simp only [Act.put, List.setIfInBounds_toArray, List.set_cons_zero, List.set_cons_succ]
                refine wpAnyH_take (i := 35) (oi := ⟨some 196, _, _, _, _, _⟩) (v := ?_) rfl (by kernel_rfl) (by kernel_rfl) (by kernel_rfl) (fun _ _ _ h => h) (Or.inl ⟨by rfl, ?_⟩) hHeld ?_
                rotate_left
                · intro w hSw; (try dsimp only at hSw); go_simp; all_goals (with_reducible rfl)
                try simp only [Act.put, List.setIfInBounds_toArray, List.set_cons_zero, List.set_cons_succ]
                refine wpAnyH_take (i := 36) (oi := ⟨some 197, _, _, _, _, _⟩) (v := ?_) rfl (by kernel_rfl) (by kernel_rfl) (by kernel_rfl) (fun _ _ _ h => h) (Or.inl ⟨by rfl, ?_⟩) hHeld ?_
                rotate_left
                · intro w hSw; (try dsimp only at hSw); go_simp; all_goals (with_reducible rfl)
                try simp only [Act.put, List.setIfInBounds_toArray, List.set_cons_zero, List.set_cons_succ]
                refine wpAnyH_take (i := 37) (oi := ⟨some 198, _, _, _, _, _⟩) (v := ?_) rfl (by kernel_rfl) (by kernel_rfl) (by kernel_rfl) (fun _ _ _ h => h) (Or.inl ⟨by rfl, ?_⟩) hHeld ?_
                rotate_left
                · intro w hSw; (try dsimp only at hSw); go_simp; all_goals (with_reducible rfl)
                try simp only [Act.put, List.setIfInBounds_toArray, List.set_cons_zero, List.set_cons_succ]
                refine wpAnyH_take (i := 38) (oi := ⟨some 199, _, _, _, _, _⟩) (v := ?_) rfl (by kernel_rfl) (by kernel_rfl) (by kernel_rfl) (fun _ _ _ h => h) (Or.inl ⟨by rfl, ?_⟩) hHeld ?_
                rotate_left
                · intro w hSw; (try dsimp only at hSw); go_simp; all_goals (with_reducible rfl)
                try simp only [Act.put, List.setIfInBounds_toArray, List.set_cons_zero, List.set_cons_succ]
                refine wpAnyH_take (i := 39) (oi := ⟨some 200, _, _, _, _, _⟩) (v := ?_) rfl (by kernel_rfl) (by kernel_rfl) (by kernel_rfl) (fun _ _ _ h => h) (Or.inl ⟨by rfl, ?_⟩) hHeld ?_
                rotate_left
                · intro w hSw; (try dsimp only at hSw); go_simp; all_goals (with_reducible rfl)
                try simp only [Act.put, List.setIfInBounds_toArray, List.set_cons_zero, List.set_cons_succ]
                refine wpAnyH_take (i := 40) (oi := ⟨some 201, _, _, _, _, _⟩) (v := ?_) rfl (by kernel_rfl) (by kernel_rfl) (by kernel_rfl) (fun _ _ _ h => h) (Or.inl ⟨by rfl, ?_⟩) hHeld ?_
                rotate_left
                · intro w hSw; (try dsimp only at hSw); go_simp; all_goals (with_reducible rfl)
                try simp only [Act.put, List.setIfInBounds_toArray, List.set_cons_zero, List.set_cons_succ]
                refine wpAnyH_done (by kernel_rfl) ?_ _
                refine NoPanic.normal ?_
                have HB9 : Hid (Below wd.heap.size wd w6.drew) := below_trans HB6.out (below_drew _)
                go_wp2_with fail
                go_roundw
                case rel => exact ⟨j + 1, by go_num, hjl, HB9.out⟩
                case measure => simp [intOf]; omega
          · have hji : ¬ (j : Int) < (n : Int) := by omega
            have HREL : Hid (BbRel l w (.slice a3 n q3) (.slice a4 n q4) (.slice a5 n q5) (.int .i64 ((i : Int) + 1)) wo) := ⟨i + 1, cs', ls', rfl, hlt, HBC.out.keep HBX.out, below_trans HBL.out HBX.out⟩
            go_wp2_with fail
            go_roundw
            case rel => exact HREL.out
            case measure => simp [intOf]; omega
end Go.Proofs.Ytjcmmhonidamoaa
