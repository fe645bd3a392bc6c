/- Contracts of the reference's raw, Encode over cells. -/
import Derived.Test.YtjcmmhonidamoaaCc
import Derived.Test.YtjcmmhonidamoaaBf
namespace Go.Proofs.Ytjcmmhonidamoaa
open Go.RowKit

theorem sv_any {k : IntKind} {w : World} {v : Value} {l : List Int} (h : Sv k w v l) : ∃ a n q, v = .slice a n q := by
  obtain ⟨a, q, e, _⟩ := h; exact ⟨a, _, q, e⟩
/-- A cell's block is no row of bytes. -/
theorem cb_ne_row {w : World} {b B n : Nat} {c : Cl} {v : Value} {L : List Int} (h : CB w b c) (ho : w.ownsRow B 5 1 v n (L.map (Value.int .u8))) (hp : 1 ≤ n) : ¬ (v.ownBlock = some b) := by
  intro e
  rcases ho with ⟨h1, ⟨_, h0⟩ | ⟨g, cap, cur, rfl, hb, hg, hnc, hcm, hcs, htk⟩⟩
  · omega
  · have : g = b := by simpa [Value.ownBlock] using e
    subst this
    have hc := h.c0
    rw [cell_of_row w g 0 cur _ (0, 0) hg] at hc
    have h2 : (cur.toList.take (n * 1))[0]? = cur[0]? := by rw [List.getElem?_take, if_pos (by omega), Array.getElem?_toList]
    rw [htk, hc] at h2
    cases L with
    | nil => simp at h2
    | cons x L => simp at h2

theorem raw_walk (v : Vl) (w : World) :
    Calls Try.prog 27 #[.agg #[.bool v.h, .int .u64 v.b]] w fun e w' => e = .returned (.bool (!plainB v)) ∧ Below w.heap.size w w' := by
  obtain ⟨h, b⟩ := v
  cases h
  · by_cases hb : b = 0
    · subst hb
      go_enter Try.func27, Try.ntmps27
      go_wp2_with fail
      go_ret
      exact ⟨rfl, below_alloc _ _⟩
    · have e : plainB ⟨false, b⟩ = false := by simp [plainB, hb]
      have h1 : ((b : Int) != 0) = true := by rw [bne_iff_ne]; omega
      rw [e]
      go_enter Try.func27, Try.ntmps27
      go_wp2_with fail
      go_ret
      exact ⟨rfl, below_alloc _ _⟩
  · go_enter Try.func27, Try.ntmps27
    go_wp2_with fail
    go_ret
    exact ⟨rfl, below_alloc _ _⟩

set_option maxRecDepth 100000 in
set_option maxHeartbeats 4000000 in
theorem rencode_some (l : List Cl) (b off cap : Nat) (w : World) (hp : 0 < l.length) (h16 : l.length ≤ 16) (hok : ∀ c ∈ l, c.ok) (hc : ∀ i, (hi : i < l.length) → CA w b (off + i * 6) l[i]) :
    Calls Try.prog 11 #[.slice (some ⟨b, off, none⟩) l.length cap] w (EncGot l w) := by
  have hli : (l.length : Int) ≤ 16 := by omega
  have hl0 : ((l.length : Int) == 0) = false := by rw [beq_eq_false_iff_ne]; omega
  have hl16 : ¬ (16 : Int) < (l.length : Int) := by omega
  have H16 : Hid (l.length ≤ 16) := h16
  have HP : Hid (0 < l.length) := hp
  have HOK : Hid (∀ c ∈ l, c.ok) := hok
  have HA : Hid (∀ i, (hi : i < l.length) → CA w b (off + i * 6) l[i]) := hc
  have hw64 : IntKind.u64.wrap (l.length : Int) = (l.length : Int) := wrap_u64_id (by omega) (by omega)
  clear hc hok h16 hp
  go_enter Try.func11, Try.ntmps11
  go_wp2_with fail
  refine (rput_walk l.length (by have := H16.out; omega) _).mono ?_
  rintro e w1 ⟨v1, rfl, hown1, hB1⟩
  have HST : Hid (EncRel l w v1 (.int .i64 0) w1) := ⟨0, rfl, by omega, by rw [pre_zero]; exact hown1, rfl, hB1⟩
  clear hown1 hB1 hw64
  go_wp2_with fail
  go_loopw [4, 5] (fun v iv wr => EncRel l w v iv wr) (fun _ iv _ => l.length - (intOf iv).toNat)
  case atStart => exact HST.out
  case round =>
    obtain ⟨i, rfl, hil, hown, hord, hbel⟩ := hrel
    have HO : Hid (encE (lastK (l.take i)) (l.drop i) = encE none l) := hord
    have HB : Hid (Below w.heap.size w wr) := hbel
    have HOWN : Hid (wr.ownsRow w.heap.size 5 1 u4 (preB l i).length ((ib (preB l i)).map (Value.int .u8))) := hown
    have HL : Hid (1 ≤ (preB l i).length ∧ (preB l i).length ≤ 612) := by
      have h1 := pre_len i H16.out
      have h2 := Wm.enc_len l.length
      show _ ∧ _
      refine ⟨?_, by omega⟩
      simp only [preB, List.length_append]; omega
    clear hord hbel hown HST
    by_cases hlt : i < l.length
    · have hA := (HA.out i hlt).keep HB.out
      have HPV : Hid (∀ j, i = j + 1 → ∃ p : Nat, CA wr b (off + j * 6) (l.getD j zeroC) ∧ (l.getD j zeroC).k = p ∧ lastK (l.take i) = some p) := fun j hj => by
        have hj2 : j < l.length := by omega
        have e : l.getD j zeroC = l[j] := by simp [List.getD, hj2]
        rw [e]
        exact ⟨l[j].k, (HA.out j hj2).keep HB.out, rfl, by rw [hj]; exact lastK_take hj2⟩
      obtain ⟨c, hcd⟩ : ∃ c, l[i] = c := ⟨_, rfl⟩
      rw [hcd] at hA
      have HCD : Hid (l[i] = c) := hcd
      have HCO : Hid c.ok := by show c.ok; rw [← hcd]; exact HOK.out _ (List.getElem_mem _)
      clear hcd
      obtain ⟨c0, c1, c2, c3, c4, c5⟩ := hA
      have hlti : (i : Int) < (l.length : Int) := by omega
      go_upto_region 10 with fail
      clear c0 c1 c2 c3 c4 c5
      have HCB : Hid (CB (wr.alloc (Obj.cells #[.int .u64 c.k, .bool c.p.h, .int .u64 c.p.b, .bool c.c.h, .int .u64 c.c.b, .int .i64 c.n] 37)) wr.heap.size c) := cb_new wr c
      have HO2 : Hid ((wr.alloc (Obj.cells #[.int .u64 c.k, .bool c.p.h, .int .u64 c.p.b, .bool c.c.h, .int .u64 c.c.b, .int .i64 c.n] 37)).ownsRow w.heap.size 5 1 u4 (preB l i).length ((ib (preB l i)).map (Value.int .u8))) := HOWN.out.alloc _
      have HBA : Hid (Below wr.heap.size wr (wr.alloc (Obj.cells #[.int .u64 c.k, .bool c.p.h, .int .u64 c.p.b, .bool c.c.h, .int .u64 c.c.b, .int .i64 c.n] 37))) := below_alloc _ _
      generalize wr.alloc (Obj.cells #[.int .u64 c.k, .bool c.p.h, .int .u64 c.p.b, .bool c.c.h, .int .u64 c.c.b, .int .i64 c.n] 37) = w2 at HCB HBA HO2 ⊢
      have HB1 : Hid (Below w.heap.size w w2) := below_trans HB.out HBA.out
      have k0 : ∀ n, (w2.drewN n).cell? ⟨wr.heap.size, 0, none⟩ = some (.int .u64 c.k) := fun _ => HCB.out.c0
      cases hf : folB (lastK (l.take i)) c.k
      · have HR : Hid (encode l = ([], 7)) := encode_fault H16.out HP.out (enc_stop7 hlt HO.out (by rw [HCD.out]; exact hf)) (by omega)
        obtain ⟨j, hj⟩ : ∃ j, i = j + 1 := by
          rcases i with _ | j
          · simp [lastK, folB] at hf
          · exact ⟨j, rfl⟩
        obtain ⟨p, hA, hpk, hlk⟩ := HPV.out j hj
        have hq := (hA.keep HBA.out).c0
        rw [hpk] at hq
        rw [hlk] at hf
        have hle : (c.k : Int) ≤ (p : Int) := by simp [folB] at hf; omega
        have hq2 : ∀ n, (w2.drewN n).cell? ⟨b, off + j * 6, none⟩ = some (.int .u64 p) := fun _ => hq
        have hi0 : (0 : Int) < (i : Int) := by omega
        have hd0 : decide (0 < i) = true := decide_eq_true (by omega)
        have hij : (i : Int) - 1 = (j : Int) := by omega
        have hjl : (j : Int) < (l.length : Int) := by omega
        clear hj hf hlk hpk
        go_quiet (fail)
        go_wp2_with fail
        go_ret2
        exact encgot_bad HR.out rfl (below_trans HB1.out (below_drewN _ _))
      · have HF : Hid (folB (lastK (l.take i)) l[i].k = true) := by show _ = _; rw [HCD.out]; exact hf
        go_cut [40] (fun t wx => t = .bool false ∧ ∃ n, wx = w2.drewN n)
        case first =>
          by_cases hi0 : i = 0
          · have h0 : ¬ (0 : Int) < (i : Int) := by omega
            have h0d : decide (0 < i) = false := decide_eq_false (by omega)
            clear hi0
            go_quiet (fail)
            go_wp2_with fail
            go_meet
            exact ⟨rfl, _, rfl⟩
          · obtain ⟨j, hj⟩ : ∃ j, i = j + 1 := ⟨i - 1, by omega⟩
            obtain ⟨p, hA, hpk, hlk⟩ := HPV.out j hj
            have hq := (hA.keep HBA.out).c0
            rw [hpk] at hq
            rw [hlk] at hf
            have hle : ¬ (c.k : Int) ≤ (p : Int) := by simp [folB] at hf; omega
            have hq2 : ∀ n, (w2.drewN n).cell? ⟨b, off + j * 6, none⟩ = some (.int .u64 p) := fun _ => hq
            have hip : (0 : Int) < (i : Int) := by omega
            have hd0 : decide (0 < i) = true := decide_eq_true (by omega)
            have hij : (i : Int) - 1 = (j : Int) := by omega
            have hjl : (j : Int) < (l.length : Int) := by omega
            clear hj hf hlk hpk hi0
            go_quiet (fail)
            go_wp2_with fail
            go_meet
            exact ⟨rfl, _, rfl⟩
        case rest =>
          obtain ⟨rfl, n, hwc⟩ := hcut
          have HC3 : Hid (CB wc wr.heap.size c) := by show CB _ _ _; rw [hwc]; exact HCB.out.keep (below_drewN _ _)
          have HO3 : Hid (wc.ownsRow w.heap.size 5 1 u4 (preB l i).length ((ib (preB l i)).map (Value.int .u8))) := by show World.ownsRow _ _ _ _ _ _ _; rw [hwc]; exact own_belowC HO2.out (below_drewN _ _)
          have HB3 : Hid (Below w.heap.size w wc) := by show Below _ _ _; rw [hwc]; exact below_trans HB1.out (below_drewN _ _)
          clear hwc HO2 HCB HB1 k0 hf HPV HBA
          obtain ⟨c0, c1, c2, c3, c4, c5, zz⟩ := HC3.out
          have HRB : Hid (writB c = false → encode l = ([], 1)) := fun hwr => encode_fault H16.out HP.out (enc_stop1 hlt HO.out HF.out (by rw [HCD.out]; exact hwr)) (by omega)
          by_cases h1 : c.n < 0
          · have HR : Hid (encode l = ([], 1)) := HRB.out (by simp [writB]; omega)
            go_wp2_with fail
            go_ret2
            exact encgot_bad HR.out rfl HB3.out
          by_cases h2 : 1099511627776 < c.n
          · have HR : Hid (encode l = ([], 1)) := HRB.out (by simp [writB]; omega)
            go_wp2_with fail
            go_ret2
            exact encgot_bad HR.out rfl HB3.out
          cases h3 : plainB c.p
          · have HR : Hid (encode l = ([], 1)) := HRB.out (by simp [writB, h3])
            go_wp2_with fail
            refine (raw_walk c.p _).mono ?_
            rw [h3]
            rintro e w4 ⟨rfl, hB4⟩
            clear c0 c1 c2 c3 c4 c5 zz
            go_wp2_with fail
            go_ret2
            exact encgot_bad HR.out rfl (below_trans HB3.out hB4)
          cases h4 : plainB c.c
          · have HR : Hid (encode l = ([], 1)) := HRB.out (by simp [writB, h4])
            go_wp2_with fail
            refine (raw_walk c.p _).mono ?_
            rw [h3]
            rintro e w4 ⟨rfl, hB4⟩
            clear c0 c1 c2 c3 c4 c5 zz
            obtain ⟨c0, c1, c2, c3, c4, c5, zz⟩ := HC3.out.keep hB4
            go_wp2_with fail
            refine (raw_walk c.c _).mono ?_
            rw [h4]
            rintro e w5 ⟨rfl, hB5⟩
            clear c0 c1 c2 c3 c4 c5 zz
            go_wp2_with fail
            go_ret2
            exact encgot_bad HR.out rfl (below_trans HB3.out (below_trans hB4 hB5))
          have HW : Hid (writB c = true) := by show _ = _; simp [writB, h3, h4]; omega
          have HR : Hid (encE (lastK (l.take (i + 1))) (l.drop (i + 1)) = encE none l) := enc_step hlt HO.out HF.out (by rw [HCD.out]; exact HW.out)
          obtain ⟨m, hm⟩ : ∃ m : Nat, c.n.toNat = m := ⟨_, rfl⟩
          have hmn : IntKind.u64.wrap c.n = (m : Int) := by rw [wrap_u64_id (by omega) (by omega)]; omega
          have HM : Hid (m < 18446744073709551616) := by show _ < _; omega
          have HN : Hid (c.n.toNat = m) := hm
          clear hm
          go_wp2_with fail
          refine (raw_walk c.p _).mono ?_
          rw [h3]
          rintro e w9 ⟨rfl, hB9⟩
          clear c0 c1 c2 c3 c4 c5 zz
          obtain ⟨c0, c1, c2, c3, c4, c5, zz⟩ := HC3.out.keep hB9
          go_wp2_with fail
          refine (raw_walk c.c _).mono ?_
          rw [h4]
          rintro e w4 ⟨rfl, hB4⟩
          have HB4 : Hid (Below w.heap.size w w4) := below_trans HB3.out (below_trans hB9 hB4)
          have HC4 : Hid (CB w4 wr.heap.size c) := (HC3.out.keep hB9).keep hB4
          have HO4 : Hid (w4.ownsRow w.heap.size 5 1 u4 (preB l i).length ((ib (preB l i)).map (Value.int .u8))) := own_belowC (own_belowC HO3.out hB9) hB4
          clear c0 c1 c2 c3 c4 c5 zz hB9 hB4 HC3 HO3 HB3 h3 h4 h1 h2
          cases hph : c.p.h <;> cases hch : c.c.h
          all_goals (have HPH : Hid (c.p.h = _) := hph; have HCH : Hid (c.c.h = _) := hch)
          · obtain ⟨c0, c1, c2, c3, c4, c5, zz⟩ := HC4.out
            go_wp2_with fail
            refine (rput_walk c.k HCO.out.1 _).mono ?_
            rintro e w5 ⟨y5, rfl, hy5, hB5⟩
            have HY5 : Hid (Sv .u8 w5 y5 (ib (Wm.enc c.k))) := own_sv hy5
            have HO5 : Hid (w5.ownsRow w.heap.size 5 1 u4 (preB l i).length ((ib (preB l i)).map (Value.int .u8))) := own_belowC HO4.out hB5
            have HB5 : Hid (Below w.heap.size w w5) := below_trans HB4.out hB5
            have HC5 : Hid (CB w5 wr.heap.size c) := HC4.out.keep hB5
            obtain ⟨ya5, yn5, yq5, rfl⟩ := sv_any HY5.out
            clear hy5 hB5 c0 c1 c2 c3 c4 c5 zz HO4 HB4 HC4
            have HLE : Hid ((preB l i).length + (ib (Wm.enc c.k)).length ≤ 622) := by
              show _ ≤ _
              have h1 := HL.out
              have h2 := Wm.enc_len c.k
              have h3 := Wm.enc_len m
              simp only [ib_len]
              omega
            go_upto_region 15 with (at_builtin; refine wpList_append_sv (by rfl) (.tmp 59) (.tmp 62) 24 (by rfl) w.heap.size 5 .u8 1 Try.underlying24 info_u8 _ _ _ (by rfl) HO5.out _ (ib (Wm.enc c.k)) (by rfl) HY5.out (by have := HLE.out; simp only [maxLen]; omega) (by have := HLE.out; omega) HB5.out.size ?_; intro v6 w6 hown hgrow)
            obtain ⟨L6, hL6⟩ : ∃ L, L = (preB l i) ++ (Wm.enc c.k) := ⟨_, rfl⟩
            have HO6 : Hid (w6.ownsRow w.heap.size 5 1 v6 L6.length ((ib L6).map (Value.int .u8))) := by
              show World.ownsRow _ _ _ _ _ _ _
              rw [hL6, List.length_append, ib_append, List.map_append, ← ib_len (Wm.enc c.k)]; exact hown
            have HB6 : Hid (Below w.heap.size w w6) := HB5.out.trans (grown_belowC HO5.out hgrow HB5.out.size)
            have HC6 : Hid (CB w6 wr.heap.size c) := HC5.out.ch (Ch.of_grown hgrow (fun x hx => hx)) (cb_ne_row HC5.out HO5.out (by have := HL.out; omega))
            have HLL6 : Hid (1 ≤ L6.length ∧ L6.length ≤ 622) := by have h1 := HLE.out; have h2 := HL.out; show _ ∧ _; rw [hL6, List.length_append]; rw [ib_len] at h1; omega
            have HQL6 : Hid (L6 = (preB l i) ++ (Wm.enc c.k)) := hL6
            clear hown hgrow hL6 HLE
            obtain ⟨c0, c1, c2, c3, c4, c5, zz⟩ := HC6.out
            have HLE : Hid (L6.length + [0].length ≤ 623) := by
              show _ ≤ _
              have h1 := HLL6.out
              have h2 := Wm.enc_len c.k
              have h3 := Wm.enc_len m
              simp only [List.length_cons, List.length_nil]
              omega
            go_upto_region 21 with (at_builtin; refine wpList_append_sv (by rfl) (.tmp 74) (.tmp 76) 24 (by rfl) w.heap.size 5 .u8 1 Try.underlying24 info_u8 _ _ _ (by rfl) (HO6.out.alloc _) _ [_] (by rfl) (sv_one .u8 _ _ _) (by have := HLE.out; simp only [maxLen]; omega) (by have := HLE.out; omega) (by rw [size_allocC]; have := HB6.out.size; omega) ?_; intro v7 w7 hown hgrow)
            obtain ⟨L7, hL7⟩ : ∃ L, L = L6 ++ [0] := ⟨_, rfl⟩
            have HO7 : Hid (w7.ownsRow w.heap.size 5 1 v7 L7.length ((ib L7).map (Value.int .u8))) := by
              show World.ownsRow _ _ _ _ _ _ _
              rw [hL7, List.length_append, ib_append, List.map_append]; exact hown
            have HB7 : Hid (Below w.heap.size w w7) := HB6.out.trans (((below_alloc w6 _).mono HB6.out.size).trans (grown_belowC (HO6.out.alloc _) hgrow (by rw [size_allocC]; have := HB6.out.size; omega)))
            have HC7 : Hid (CB w7 wr.heap.size c) := (HC6.out.keep (below_alloc w6 (Obj.cells #[.int .u8 0] 5))).ch (Ch.of_grown hgrow (fun x hx => hx)) (cb_ne_row (HC6.out.keep (below_alloc w6 (Obj.cells #[.int .u8 0] 5))) (HO6.out.alloc (Obj.cells #[.int .u8 0] 5)) (by have := HLL6.out; omega))
            have HLL7 : Hid (1 ≤ L7.length ∧ L7.length ≤ 623) := by have h1 := HLE.out; have h2 := HLL6.out; show _ ∧ _; rw [hL7, List.length_append]; simp only [List.length_cons, List.length_nil] at h1 ⊢; omega
            have HQL7 : Hid (L7 = L6 ++ [0]) := hL7
            clear hown hgrow hL7 HLE
            obtain ⟨c0, c1, c2, c3, c4, c5, zz⟩ := HC7.out
            go_wp2_with fail
            refine (rput_walk m HM.out _).mono ?_
            rintro e w8 ⟨y8, rfl, hy8, hB8⟩
            have HY8 : Hid (Sv .u8 w8 y8 (ib (Wm.enc m))) := own_sv hy8
            have HO8 : Hid (w8.ownsRow w.heap.size 5 1 v7 L7.length ((ib L7).map (Value.int .u8))) := own_belowC HO7.out hB8
            have HB8 : Hid (Below w.heap.size w w8) := below_trans HB7.out hB8
            have HC8 : Hid (CB w8 wr.heap.size c) := HC7.out.keep hB8
            obtain ⟨ya8, yn8, yq8, rfl⟩ := sv_any HY8.out
            clear hy8 hB8 c0 c1 c2 c3 c4 c5 zz HO7 HB7 HC7
            have HLE : Hid (L7.length + (ib (Wm.enc m)).length ≤ 633) := by
              show _ ≤ _
              have h1 := HLL7.out
              have h2 := Wm.enc_len c.k
              have h3 := Wm.enc_len m
              simp only [ib_len]
              omega
            go_upto_region 8 with (at_builtin; refine wpList_append_sv (by rfl) (.tmp 96) (.tmp 100) 24 (by rfl) w.heap.size 5 .u8 1 Try.underlying24 info_u8 _ _ _ (by rfl) HO8.out _ (ib (Wm.enc m)) (by rfl) HY8.out (by have := HLE.out; simp only [maxLen]; omega) (by have := HLE.out; omega) HB8.out.size ?_; intro v9 w9 hown hgrow)
            obtain ⟨L9, hL9⟩ : ∃ L, L = L7 ++ (Wm.enc m) := ⟨_, rfl⟩
            have HO9 : Hid (w9.ownsRow w.heap.size 5 1 v9 L9.length ((ib L9).map (Value.int .u8))) := by
              show World.ownsRow _ _ _ _ _ _ _
              rw [hL9, List.length_append, ib_append, List.map_append, ← ib_len (Wm.enc m)]; exact hown
            have HB9 : Hid (Below w.heap.size w w9) := HB8.out.trans (grown_belowC HO8.out hgrow HB8.out.size)
            have HC9 : Hid (CB w9 wr.heap.size c) := HC8.out.ch (Ch.of_grown hgrow (fun x hx => hx)) (cb_ne_row HC8.out HO8.out (by have := HLL7.out; omega))
            have HLL9 : Hid (1 ≤ L9.length ∧ L9.length ≤ 633) := by have h1 := HLE.out; have h2 := HLL7.out; show _ ∧ _; rw [hL9, List.length_append]; rw [ib_len] at h1; omega
            have HQL9 : Hid (L9 = L7 ++ (Wm.enc m)) := hL9
            clear hown hgrow hL9 HLE
            have HPRE : Hid (preB l (i + 1) = L9) := by
              show _ = _
              rw [pre_succ hlt, HCD.out, HQL9.out, HQL7.out, HQL6.out]
              simp [cellB, flagN, valB, HPH.out, HCH.out, HN.out]
            go_wp2_with fail
            go_roundw
            case rel => exact ⟨i + 1, by go_num, hlt, by rw [HPRE.out]; exact HO9.out, HR.out, HB9.out⟩
            case measure => simp [intOf]; have := hlt; omega
          · obtain ⟨c0, c1, c2, c3, c4, c5, zz⟩ := HC4.out
            go_wp2_with fail
            refine (rput_walk c.k HCO.out.1 _).mono ?_
            rintro e w5 ⟨y5, rfl, hy5, hB5⟩
            have HY5 : Hid (Sv .u8 w5 y5 (ib (Wm.enc c.k))) := own_sv hy5
            have HO5 : Hid (w5.ownsRow w.heap.size 5 1 u4 (preB l i).length ((ib (preB l i)).map (Value.int .u8))) := own_belowC HO4.out hB5
            have HB5 : Hid (Below w.heap.size w w5) := below_trans HB4.out hB5
            have HC5 : Hid (CB w5 wr.heap.size c) := HC4.out.keep hB5
            obtain ⟨ya5, yn5, yq5, rfl⟩ := sv_any HY5.out
            clear hy5 hB5 c0 c1 c2 c3 c4 c5 zz HO4 HB4 HC4
            have HLE : Hid ((preB l i).length + (ib (Wm.enc c.k)).length ≤ 622) := by
              show _ ≤ _
              have h1 := HL.out
              have h2 := Wm.enc_len c.k
              have h3 := Wm.enc_len m
              simp only [ib_len]
              omega
            go_upto_region 15 with (at_builtin; refine wpList_append_sv (by rfl) (.tmp 59) (.tmp 62) 24 (by rfl) w.heap.size 5 .u8 1 Try.underlying24 info_u8 _ _ _ (by rfl) HO5.out _ (ib (Wm.enc c.k)) (by rfl) HY5.out (by have := HLE.out; simp only [maxLen]; omega) (by have := HLE.out; omega) HB5.out.size ?_; intro v6 w6 hown hgrow)
            obtain ⟨L6, hL6⟩ : ∃ L, L = (preB l i) ++ (Wm.enc c.k) := ⟨_, rfl⟩
            have HO6 : Hid (w6.ownsRow w.heap.size 5 1 v6 L6.length ((ib L6).map (Value.int .u8))) := by
              show World.ownsRow _ _ _ _ _ _ _
              rw [hL6, List.length_append, ib_append, List.map_append, ← ib_len (Wm.enc c.k)]; exact hown
            have HB6 : Hid (Below w.heap.size w w6) := HB5.out.trans (grown_belowC HO5.out hgrow HB5.out.size)
            have HC6 : Hid (CB w6 wr.heap.size c) := HC5.out.ch (Ch.of_grown hgrow (fun x hx => hx)) (cb_ne_row HC5.out HO5.out (by have := HL.out; omega))
            have HLL6 : Hid (1 ≤ L6.length ∧ L6.length ≤ 622) := by have h1 := HLE.out; have h2 := HL.out; show _ ∧ _; rw [hL6, List.length_append]; rw [ib_len] at h1; omega
            have HQL6 : Hid (L6 = (preB l i) ++ (Wm.enc c.k)) := hL6
            clear hown hgrow hL6 HLE
            obtain ⟨c0, c1, c2, c3, c4, c5, zz⟩ := HC6.out
            have HLE : Hid (L6.length + [2].length ≤ 623) := by
              show _ ≤ _
              have h1 := HLL6.out
              have h2 := Wm.enc_len c.k
              have h3 := Wm.enc_len m
              simp only [List.length_cons, List.length_nil]
              omega
            go_upto_region 21 with (at_builtin; refine wpList_append_sv (by rfl) (.tmp 74) (.tmp 76) 24 (by rfl) w.heap.size 5 .u8 1 Try.underlying24 info_u8 _ _ _ (by rfl) (HO6.out.alloc _) _ [_] (by rfl) (sv_one .u8 _ _ _) (by have := HLE.out; simp only [maxLen]; omega) (by have := HLE.out; omega) (by rw [size_allocC]; have := HB6.out.size; omega) ?_; intro v7 w7 hown hgrow)
            obtain ⟨L7, hL7⟩ : ∃ L, L = L6 ++ [2] := ⟨_, rfl⟩
            have HO7 : Hid (w7.ownsRow w.heap.size 5 1 v7 L7.length ((ib L7).map (Value.int .u8))) := by
              show World.ownsRow _ _ _ _ _ _ _
              rw [hL7, List.length_append, ib_append, List.map_append]; exact hown
            have HB7 : Hid (Below w.heap.size w w7) := HB6.out.trans (((below_alloc w6 _).mono HB6.out.size).trans (grown_belowC (HO6.out.alloc _) hgrow (by rw [size_allocC]; have := HB6.out.size; omega)))
            have HC7 : Hid (CB w7 wr.heap.size c) := (HC6.out.keep (below_alloc w6 (Obj.cells #[.int .u8 2] 5))).ch (Ch.of_grown hgrow (fun x hx => hx)) (cb_ne_row (HC6.out.keep (below_alloc w6 (Obj.cells #[.int .u8 2] 5))) (HO6.out.alloc (Obj.cells #[.int .u8 2] 5)) (by have := HLL6.out; omega))
            have HLL7 : Hid (1 ≤ L7.length ∧ L7.length ≤ 623) := by have h1 := HLE.out; have h2 := HLL6.out; show _ ∧ _; rw [hL7, List.length_append]; simp only [List.length_cons, List.length_nil] at h1 ⊢; omega
            have HQL7 : Hid (L7 = L6 ++ [2]) := hL7
            clear hown hgrow hL7 HLE
            obtain ⟨c0, c1, c2, c3, c4, c5, zz⟩ := HC7.out
            go_wp2_with fail
            refine (rword_walk c.c.b HCO.out.2.2.1 _).mono ?_
            rintro e w8 ⟨y8, rfl, hy8, hB8⟩
            have HY8 : Hid (Sv .u8 w8 y8 (ib (Wm.wd c.c.b))) := own_sv hy8
            have HO8 : Hid (w8.ownsRow w.heap.size 5 1 v7 L7.length ((ib L7).map (Value.int .u8))) := own_belowC HO7.out hB8
            have HB8 : Hid (Below w.heap.size w w8) := below_trans HB7.out hB8
            have HC8 : Hid (CB w8 wr.heap.size c) := HC7.out.keep hB8
            obtain ⟨ya8, yn8, yq8, rfl⟩ := sv_any HY8.out
            clear hy8 hB8 c0 c1 c2 c3 c4 c5 zz HO7 HB7 HC7
            have HLE : Hid (L7.length + (ib (Wm.wd c.c.b)).length ≤ 631) := by
              show _ ≤ _
              have h1 := HLL7.out
              have h2 := Wm.enc_len c.k
              have h3 := Wm.enc_len m
              simp only [ib_len, Wm.wd_len]
              omega
            go_upto_region 25 with (at_builtin; refine wpList_append_sv (by rfl) (.tmp 90) (.tmp 94) 24 (by rfl) w.heap.size 5 .u8 1 Try.underlying24 info_u8 _ _ _ (by rfl) HO8.out _ (ib (Wm.wd c.c.b)) (by rfl) HY8.out (by have := HLE.out; simp only [maxLen]; omega) (by have := HLE.out; omega) HB8.out.size ?_; intro v9 w9 hown hgrow)
            obtain ⟨L9, hL9⟩ : ∃ L, L = L7 ++ (Wm.wd c.c.b) := ⟨_, rfl⟩
            have HO9 : Hid (w9.ownsRow w.heap.size 5 1 v9 L9.length ((ib L9).map (Value.int .u8))) := by
              show World.ownsRow _ _ _ _ _ _ _
              rw [hL9, List.length_append, ib_append, List.map_append, ← ib_len (Wm.wd c.c.b)]; exact hown
            have HB9 : Hid (Below w.heap.size w w9) := HB8.out.trans (grown_belowC HO8.out hgrow HB8.out.size)
            have HC9 : Hid (CB w9 wr.heap.size c) := HC8.out.ch (Ch.of_grown hgrow (fun x hx => hx)) (cb_ne_row HC8.out HO8.out (by have := HLL7.out; omega))
            have HLL9 : Hid (1 ≤ L9.length ∧ L9.length ≤ 631) := by have h1 := HLE.out; have h2 := HLL7.out; show _ ∧ _; rw [hL9, List.length_append]; rw [ib_len] at h1; omega
            have HQL9 : Hid (L9 = L7 ++ (Wm.wd c.c.b)) := hL9
            clear hown hgrow hL9 HLE
            obtain ⟨c0, c1, c2, c3, c4, c5, zz⟩ := HC9.out
            go_wp2_with fail
            refine (rput_walk m HM.out _).mono ?_
            rintro e w10 ⟨y10, rfl, hy10, hB10⟩
            have HY10 : Hid (Sv .u8 w10 y10 (ib (Wm.enc m))) := own_sv hy10
            have HO10 : Hid (w10.ownsRow w.heap.size 5 1 v9 L9.length ((ib L9).map (Value.int .u8))) := own_belowC HO9.out hB10
            have HB10 : Hid (Below w.heap.size w w10) := below_trans HB9.out hB10
            have HC10 : Hid (CB w10 wr.heap.size c) := HC9.out.keep hB10
            obtain ⟨ya10, yn10, yq10, rfl⟩ := sv_any HY10.out
            clear hy10 hB10 c0 c1 c2 c3 c4 c5 zz HO9 HB9 HC9
            have HLE : Hid (L9.length + (ib (Wm.enc m)).length ≤ 641) := by
              show _ ≤ _
              have h1 := HLL9.out
              have h2 := Wm.enc_len c.k
              have h3 := Wm.enc_len m
              simp only [ib_len]
              omega
            go_upto_region 8 with (at_builtin; refine wpList_append_sv (by rfl) (.tmp 96) (.tmp 100) 24 (by rfl) w.heap.size 5 .u8 1 Try.underlying24 info_u8 _ _ _ (by rfl) HO10.out _ (ib (Wm.enc m)) (by rfl) HY10.out (by have := HLE.out; simp only [maxLen]; omega) (by have := HLE.out; omega) HB10.out.size ?_; intro v11 w11 hown hgrow)
            obtain ⟨L11, hL11⟩ : ∃ L, L = L9 ++ (Wm.enc m) := ⟨_, rfl⟩
            have HO11 : Hid (w11.ownsRow w.heap.size 5 1 v11 L11.length ((ib L11).map (Value.int .u8))) := by
              show World.ownsRow _ _ _ _ _ _ _
              rw [hL11, List.length_append, ib_append, List.map_append, ← ib_len (Wm.enc m)]; exact hown
            have HB11 : Hid (Below w.heap.size w w11) := HB10.out.trans (grown_belowC HO10.out hgrow HB10.out.size)
            have HC11 : Hid (CB w11 wr.heap.size c) := HC10.out.ch (Ch.of_grown hgrow (fun x hx => hx)) (cb_ne_row HC10.out HO10.out (by have := HLL9.out; omega))
            have HLL11 : Hid (1 ≤ L11.length ∧ L11.length ≤ 641) := by have h1 := HLE.out; have h2 := HLL9.out; show _ ∧ _; rw [hL11, List.length_append]; rw [ib_len] at h1; omega
            have HQL11 : Hid (L11 = L9 ++ (Wm.enc m)) := hL11
            clear hown hgrow hL11 HLE
            have HPRE : Hid (preB l (i + 1) = L11) := by
              show _ = _
              rw [pre_succ hlt, HCD.out, HQL11.out, HQL9.out, HQL7.out, HQL6.out]
              simp [cellB, flagN, valB, HPH.out, HCH.out, HN.out]
            go_wp2_with fail
            go_roundw
            case rel => exact ⟨i + 1, by go_num, hlt, by rw [HPRE.out]; exact HO11.out, HR.out, HB11.out⟩
            case measure => simp [intOf]; have := hlt; omega
          · obtain ⟨c0, c1, c2, c3, c4, c5, zz⟩ := HC4.out
            go_wp2_with fail
            refine (rput_walk c.k HCO.out.1 _).mono ?_
            rintro e w5 ⟨y5, rfl, hy5, hB5⟩
            have HY5 : Hid (Sv .u8 w5 y5 (ib (Wm.enc c.k))) := own_sv hy5
            have HO5 : Hid (w5.ownsRow w.heap.size 5 1 u4 (preB l i).length ((ib (preB l i)).map (Value.int .u8))) := own_belowC HO4.out hB5
            have HB5 : Hid (Below w.heap.size w w5) := below_trans HB4.out hB5
            have HC5 : Hid (CB w5 wr.heap.size c) := HC4.out.keep hB5
            obtain ⟨ya5, yn5, yq5, rfl⟩ := sv_any HY5.out
            clear hy5 hB5 c0 c1 c2 c3 c4 c5 zz HO4 HB4 HC4
            have HLE : Hid ((preB l i).length + (ib (Wm.enc c.k)).length ≤ 622) := by
              show _ ≤ _
              have h1 := HL.out
              have h2 := Wm.enc_len c.k
              have h3 := Wm.enc_len m
              simp only [ib_len]
              omega
            go_upto_region 15 with (at_builtin; refine wpList_append_sv (by rfl) (.tmp 59) (.tmp 62) 24 (by rfl) w.heap.size 5 .u8 1 Try.underlying24 info_u8 _ _ _ (by rfl) HO5.out _ (ib (Wm.enc c.k)) (by rfl) HY5.out (by have := HLE.out; simp only [maxLen]; omega) (by have := HLE.out; omega) HB5.out.size ?_; intro v6 w6 hown hgrow)
            obtain ⟨L6, hL6⟩ : ∃ L, L = (preB l i) ++ (Wm.enc c.k) := ⟨_, rfl⟩
            have HO6 : Hid (w6.ownsRow w.heap.size 5 1 v6 L6.length ((ib L6).map (Value.int .u8))) := by
              show World.ownsRow _ _ _ _ _ _ _
              rw [hL6, List.length_append, ib_append, List.map_append, ← ib_len (Wm.enc c.k)]; exact hown
            have HB6 : Hid (Below w.heap.size w w6) := HB5.out.trans (grown_belowC HO5.out hgrow HB5.out.size)
            have HC6 : Hid (CB w6 wr.heap.size c) := HC5.out.ch (Ch.of_grown hgrow (fun x hx => hx)) (cb_ne_row HC5.out HO5.out (by have := HL.out; omega))
            have HLL6 : Hid (1 ≤ L6.length ∧ L6.length ≤ 622) := by have h1 := HLE.out; have h2 := HL.out; show _ ∧ _; rw [hL6, List.length_append]; rw [ib_len] at h1; omega
            have HQL6 : Hid (L6 = (preB l i) ++ (Wm.enc c.k)) := hL6
            clear hown hgrow hL6 HLE
            obtain ⟨c0, c1, c2, c3, c4, c5, zz⟩ := HC6.out
            have HLE : Hid (L6.length + [1].length ≤ 623) := by
              show _ ≤ _
              have h1 := HLL6.out
              have h2 := Wm.enc_len c.k
              have h3 := Wm.enc_len m
              simp only [List.length_cons, List.length_nil]
              omega
            go_upto_region 21 with (at_builtin; refine wpList_append_sv (by rfl) (.tmp 74) (.tmp 76) 24 (by rfl) w.heap.size 5 .u8 1 Try.underlying24 info_u8 _ _ _ (by rfl) (HO6.out.alloc _) _ [_] (by rfl) (sv_one .u8 _ _ _) (by have := HLE.out; simp only [maxLen]; omega) (by have := HLE.out; omega) (by rw [size_allocC]; have := HB6.out.size; omega) ?_; intro v7 w7 hown hgrow)
            obtain ⟨L7, hL7⟩ : ∃ L, L = L6 ++ [1] := ⟨_, rfl⟩
            have HO7 : Hid (w7.ownsRow w.heap.size 5 1 v7 L7.length ((ib L7).map (Value.int .u8))) := by
              show World.ownsRow _ _ _ _ _ _ _
              rw [hL7, List.length_append, ib_append, List.map_append]; exact hown
            have HB7 : Hid (Below w.heap.size w w7) := HB6.out.trans (((below_alloc w6 _).mono HB6.out.size).trans (grown_belowC (HO6.out.alloc _) hgrow (by rw [size_allocC]; have := HB6.out.size; omega)))
            have HC7 : Hid (CB w7 wr.heap.size c) := (HC6.out.keep (below_alloc w6 (Obj.cells #[.int .u8 1] 5))).ch (Ch.of_grown hgrow (fun x hx => hx)) (cb_ne_row (HC6.out.keep (below_alloc w6 (Obj.cells #[.int .u8 1] 5))) (HO6.out.alloc (Obj.cells #[.int .u8 1] 5)) (by have := HLL6.out; omega))
            have HLL7 : Hid (1 ≤ L7.length ∧ L7.length ≤ 623) := by have h1 := HLE.out; have h2 := HLL6.out; show _ ∧ _; rw [hL7, List.length_append]; simp only [List.length_cons, List.length_nil] at h1 ⊢; omega
            have HQL7 : Hid (L7 = L6 ++ [1]) := hL7
            clear hown hgrow hL7 HLE
            obtain ⟨c0, c1, c2, c3, c4, c5, zz⟩ := HC7.out
            go_wp2_with fail
            refine (rword_walk c.p.b HCO.out.2.1 _).mono ?_
            rintro e w8 ⟨y8, rfl, hy8, hB8⟩
            have HY8 : Hid (Sv .u8 w8 y8 (ib (Wm.wd c.p.b))) := own_sv hy8
            have HO8 : Hid (w8.ownsRow w.heap.size 5 1 v7 L7.length ((ib L7).map (Value.int .u8))) := own_belowC HO7.out hB8
            have HB8 : Hid (Below w.heap.size w w8) := below_trans HB7.out hB8
            have HC8 : Hid (CB w8 wr.heap.size c) := HC7.out.keep hB8
            obtain ⟨ya8, yn8, yq8, rfl⟩ := sv_any HY8.out
            clear hy8 hB8 c0 c1 c2 c3 c4 c5 zz HO7 HB7 HC7
            have HLE : Hid (L7.length + (ib (Wm.wd c.p.b)).length ≤ 631) := by
              show _ ≤ _
              have h1 := HLL7.out
              have h2 := Wm.enc_len c.k
              have h3 := Wm.enc_len m
              simp only [ib_len, Wm.wd_len]
              omega
            go_upto_region 23 with (at_builtin; refine wpList_append_sv (by rfl) (.tmp 81) (.tmp 85) 24 (by rfl) w.heap.size 5 .u8 1 Try.underlying24 info_u8 _ _ _ (by rfl) HO8.out _ (ib (Wm.wd c.p.b)) (by rfl) HY8.out (by have := HLE.out; simp only [maxLen]; omega) (by have := HLE.out; omega) HB8.out.size ?_; intro v9 w9 hown hgrow)
            obtain ⟨L9, hL9⟩ : ∃ L, L = L7 ++ (Wm.wd c.p.b) := ⟨_, rfl⟩
            have HO9 : Hid (w9.ownsRow w.heap.size 5 1 v9 L9.length ((ib L9).map (Value.int .u8))) := by
              show World.ownsRow _ _ _ _ _ _ _
              rw [hL9, List.length_append, ib_append, List.map_append, ← ib_len (Wm.wd c.p.b)]; exact hown
            have HB9 : Hid (Below w.heap.size w w9) := HB8.out.trans (grown_belowC HO8.out hgrow HB8.out.size)
            have HC9 : Hid (CB w9 wr.heap.size c) := HC8.out.ch (Ch.of_grown hgrow (fun x hx => hx)) (cb_ne_row HC8.out HO8.out (by have := HLL7.out; omega))
            have HLL9 : Hid (1 ≤ L9.length ∧ L9.length ≤ 631) := by have h1 := HLE.out; have h2 := HLL7.out; show _ ∧ _; rw [hL9, List.length_append]; rw [ib_len] at h1; omega
            have HQL9 : Hid (L9 = L7 ++ (Wm.wd c.p.b)) := hL9
            clear hown hgrow hL9 HLE
            obtain ⟨c0, c1, c2, c3, c4, c5, zz⟩ := HC9.out
            go_wp2_with fail
            refine (rput_walk m HM.out _).mono ?_
            rintro e w10 ⟨y10, rfl, hy10, hB10⟩
            have HY10 : Hid (Sv .u8 w10 y10 (ib (Wm.enc m))) := own_sv hy10
            have HO10 : Hid (w10.ownsRow w.heap.size 5 1 v9 L9.length ((ib L9).map (Value.int .u8))) := own_belowC HO9.out hB10
            have HB10 : Hid (Below w.heap.size w w10) := below_trans HB9.out hB10
            have HC10 : Hid (CB w10 wr.heap.size c) := HC9.out.keep hB10
            obtain ⟨ya10, yn10, yq10, rfl⟩ := sv_any HY10.out
            clear hy10 hB10 c0 c1 c2 c3 c4 c5 zz HO9 HB9 HC9
            have HLE : Hid (L9.length + (ib (Wm.enc m)).length ≤ 641) := by
              show _ ≤ _
              have h1 := HLL9.out
              have h2 := Wm.enc_len c.k
              have h3 := Wm.enc_len m
              simp only [ib_len]
              omega
            go_upto_region 8 with (at_builtin; refine wpList_append_sv (by rfl) (.tmp 96) (.tmp 100) 24 (by rfl) w.heap.size 5 .u8 1 Try.underlying24 info_u8 _ _ _ (by rfl) HO10.out _ (ib (Wm.enc m)) (by rfl) HY10.out (by have := HLE.out; simp only [maxLen]; omega) (by have := HLE.out; omega) HB10.out.size ?_; intro v11 w11 hown hgrow)
            obtain ⟨L11, hL11⟩ : ∃ L, L = L9 ++ (Wm.enc m) := ⟨_, rfl⟩
            have HO11 : Hid (w11.ownsRow w.heap.size 5 1 v11 L11.length ((ib L11).map (Value.int .u8))) := by
              show World.ownsRow _ _ _ _ _ _ _
              rw [hL11, List.length_append, ib_append, List.map_append, ← ib_len (Wm.enc m)]; exact hown
            have HB11 : Hid (Below w.heap.size w w11) := HB10.out.trans (grown_belowC HO10.out hgrow HB10.out.size)
            have HC11 : Hid (CB w11 wr.heap.size c) := HC10.out.ch (Ch.of_grown hgrow (fun x hx => hx)) (cb_ne_row HC10.out HO10.out (by have := HLL9.out; omega))
            have HLL11 : Hid (1 ≤ L11.length ∧ L11.length ≤ 641) := by have h1 := HLE.out; have h2 := HLL9.out; show _ ∧ _; rw [hL11, List.length_append]; rw [ib_len] at h1; omega
            have HQL11 : Hid (L11 = L9 ++ (Wm.enc m)) := hL11
            clear hown hgrow hL11 HLE
            have HPRE : Hid (preB l (i + 1) = L11) := by
              show _ = _
              rw [pre_succ hlt, HCD.out, HQL11.out, HQL9.out, HQL7.out, HQL6.out]
              simp [cellB, flagN, valB, HPH.out, HCH.out, HN.out]
            go_wp2_with fail
            go_roundw
            case rel => exact ⟨i + 1, by go_num, hlt, by rw [HPRE.out]; exact HO11.out, HR.out, HB11.out⟩
            case measure => simp [intOf]; have := hlt; omega
          · obtain ⟨c0, c1, c2, c3, c4, c5, zz⟩ := HC4.out
            go_wp2_with fail
            refine (rput_walk c.k HCO.out.1 _).mono ?_
            rintro e w5 ⟨y5, rfl, hy5, hB5⟩
            have HY5 : Hid (Sv .u8 w5 y5 (ib (Wm.enc c.k))) := own_sv hy5
            have HO5 : Hid (w5.ownsRow w.heap.size 5 1 u4 (preB l i).length ((ib (preB l i)).map (Value.int .u8))) := own_belowC HO4.out hB5
            have HB5 : Hid (Below w.heap.size w w5) := below_trans HB4.out hB5
            have HC5 : Hid (CB w5 wr.heap.size c) := HC4.out.keep hB5
            obtain ⟨ya5, yn5, yq5, rfl⟩ := sv_any HY5.out
            clear hy5 hB5 c0 c1 c2 c3 c4 c5 zz HO4 HB4 HC4
            have HLE : Hid ((preB l i).length + (ib (Wm.enc c.k)).length ≤ 622) := by
              show _ ≤ _
              have h1 := HL.out
              have h2 := Wm.enc_len c.k
              have h3 := Wm.enc_len m
              simp only [ib_len]
              omega
            go_upto_region 15 with (at_builtin; refine wpList_append_sv (by rfl) (.tmp 59) (.tmp 62) 24 (by rfl) w.heap.size 5 .u8 1 Try.underlying24 info_u8 _ _ _ (by rfl) HO5.out _ (ib (Wm.enc c.k)) (by rfl) HY5.out (by have := HLE.out; simp only [maxLen]; omega) (by have := HLE.out; omega) HB5.out.size ?_; intro v6 w6 hown hgrow)
            obtain ⟨L6, hL6⟩ : ∃ L, L = (preB l i) ++ (Wm.enc c.k) := ⟨_, rfl⟩
            have HO6 : Hid (w6.ownsRow w.heap.size 5 1 v6 L6.length ((ib L6).map (Value.int .u8))) := by
              show World.ownsRow _ _ _ _ _ _ _
              rw [hL6, List.length_append, ib_append, List.map_append, ← ib_len (Wm.enc c.k)]; exact hown
            have HB6 : Hid (Below w.heap.size w w6) := HB5.out.trans (grown_belowC HO5.out hgrow HB5.out.size)
            have HC6 : Hid (CB w6 wr.heap.size c) := HC5.out.ch (Ch.of_grown hgrow (fun x hx => hx)) (cb_ne_row HC5.out HO5.out (by have := HL.out; omega))
            have HLL6 : Hid (1 ≤ L6.length ∧ L6.length ≤ 622) := by have h1 := HLE.out; have h2 := HL.out; show _ ∧ _; rw [hL6, List.length_append]; rw [ib_len] at h1; omega
            have HQL6 : Hid (L6 = (preB l i) ++ (Wm.enc c.k)) := hL6
            clear hown hgrow hL6 HLE
            obtain ⟨c0, c1, c2, c3, c4, c5, zz⟩ := HC6.out
            have HLE : Hid (L6.length + [3].length ≤ 623) := by
              show _ ≤ _
              have h1 := HLL6.out
              have h2 := Wm.enc_len c.k
              have h3 := Wm.enc_len m
              simp only [List.length_cons, List.length_nil]
              omega
            go_upto_region 21 with (at_builtin; refine wpList_append_sv (by rfl) (.tmp 74) (.tmp 76) 24 (by rfl) w.heap.size 5 .u8 1 Try.underlying24 info_u8 _ _ _ (by rfl) (HO6.out.alloc _) _ [_] (by rfl) (sv_one .u8 _ _ _) (by have := HLE.out; simp only [maxLen]; omega) (by have := HLE.out; omega) (by rw [size_allocC]; have := HB6.out.size; omega) ?_; intro v7 w7 hown hgrow)
            obtain ⟨L7, hL7⟩ : ∃ L, L = L6 ++ [3] := ⟨_, rfl⟩
            have HO7 : Hid (w7.ownsRow w.heap.size 5 1 v7 L7.length ((ib L7).map (Value.int .u8))) := by
              show World.ownsRow _ _ _ _ _ _ _
              rw [hL7, List.length_append, ib_append, List.map_append]; exact hown
            have HB7 : Hid (Below w.heap.size w w7) := HB6.out.trans (((below_alloc w6 _).mono HB6.out.size).trans (grown_belowC (HO6.out.alloc _) hgrow (by rw [size_allocC]; have := HB6.out.size; omega)))
            have HC7 : Hid (CB w7 wr.heap.size c) := (HC6.out.keep (below_alloc w6 (Obj.cells #[.int .u8 3] 5))).ch (Ch.of_grown hgrow (fun x hx => hx)) (cb_ne_row (HC6.out.keep (below_alloc w6 (Obj.cells #[.int .u8 3] 5))) (HO6.out.alloc (Obj.cells #[.int .u8 3] 5)) (by have := HLL6.out; omega))
            have HLL7 : Hid (1 ≤ L7.length ∧ L7.length ≤ 623) := by have h1 := HLE.out; have h2 := HLL6.out; show _ ∧ _; rw [hL7, List.length_append]; simp only [List.length_cons, List.length_nil] at h1 ⊢; omega
            have HQL7 : Hid (L7 = L6 ++ [3]) := hL7
            clear hown hgrow hL7 HLE
            obtain ⟨c0, c1, c2, c3, c4, c5, zz⟩ := HC7.out
            go_wp2_with fail
            refine (rword_walk c.p.b HCO.out.2.1 _).mono ?_
            rintro e w8 ⟨y8, rfl, hy8, hB8⟩
            have HY8 : Hid (Sv .u8 w8 y8 (ib (Wm.wd c.p.b))) := own_sv hy8
            have HO8 : Hid (w8.ownsRow w.heap.size 5 1 v7 L7.length ((ib L7).map (Value.int .u8))) := own_belowC HO7.out hB8
            have HB8 : Hid (Below w.heap.size w w8) := below_trans HB7.out hB8
            have HC8 : Hid (CB w8 wr.heap.size c) := HC7.out.keep hB8
            obtain ⟨ya8, yn8, yq8, rfl⟩ := sv_any HY8.out
            clear hy8 hB8 c0 c1 c2 c3 c4 c5 zz HO7 HB7 HC7
            have HLE : Hid (L7.length + (ib (Wm.wd c.p.b)).length ≤ 631) := by
              show _ ≤ _
              have h1 := HLL7.out
              have h2 := Wm.enc_len c.k
              have h3 := Wm.enc_len m
              simp only [ib_len, Wm.wd_len]
              omega
            go_upto_region 23 with (at_builtin; refine wpList_append_sv (by rfl) (.tmp 81) (.tmp 85) 24 (by rfl) w.heap.size 5 .u8 1 Try.underlying24 info_u8 _ _ _ (by rfl) HO8.out _ (ib (Wm.wd c.p.b)) (by rfl) HY8.out (by have := HLE.out; simp only [maxLen]; omega) (by have := HLE.out; omega) HB8.out.size ?_; intro v9 w9 hown hgrow)
            obtain ⟨L9, hL9⟩ : ∃ L, L = L7 ++ (Wm.wd c.p.b) := ⟨_, rfl⟩
            have HO9 : Hid (w9.ownsRow w.heap.size 5 1 v9 L9.length ((ib L9).map (Value.int .u8))) := by
              show World.ownsRow _ _ _ _ _ _ _
              rw [hL9, List.length_append, ib_append, List.map_append, ← ib_len (Wm.wd c.p.b)]; exact hown
            have HB9 : Hid (Below w.heap.size w w9) := HB8.out.trans (grown_belowC HO8.out hgrow HB8.out.size)
            have HC9 : Hid (CB w9 wr.heap.size c) := HC8.out.ch (Ch.of_grown hgrow (fun x hx => hx)) (cb_ne_row HC8.out HO8.out (by have := HLL7.out; omega))
            have HLL9 : Hid (1 ≤ L9.length ∧ L9.length ≤ 631) := by have h1 := HLE.out; have h2 := HLL7.out; show _ ∧ _; rw [hL9, List.length_append]; rw [ib_len] at h1; omega
            have HQL9 : Hid (L9 = L7 ++ (Wm.wd c.p.b)) := hL9
            clear hown hgrow hL9 HLE
            obtain ⟨c0, c1, c2, c3, c4, c5, zz⟩ := HC9.out
            go_wp2_with fail
            refine (rword_walk c.c.b HCO.out.2.2.1 _).mono ?_
            rintro e w10 ⟨y10, rfl, hy10, hB10⟩
            have HY10 : Hid (Sv .u8 w10 y10 (ib (Wm.wd c.c.b))) := own_sv hy10
            have HO10 : Hid (w10.ownsRow w.heap.size 5 1 v9 L9.length ((ib L9).map (Value.int .u8))) := own_belowC HO9.out hB10
            have HB10 : Hid (Below w.heap.size w w10) := below_trans HB9.out hB10
            have HC10 : Hid (CB w10 wr.heap.size c) := HC9.out.keep hB10
            obtain ⟨ya10, yn10, yq10, rfl⟩ := sv_any HY10.out
            clear hy10 hB10 c0 c1 c2 c3 c4 c5 zz HO9 HB9 HC9
            have HLE : Hid (L9.length + (ib (Wm.wd c.c.b)).length ≤ 639) := by
              show _ ≤ _
              have h1 := HLL9.out
              have h2 := Wm.enc_len c.k
              have h3 := Wm.enc_len m
              simp only [ib_len, Wm.wd_len]
              omega
            go_upto_region 25 with (at_builtin; refine wpList_append_sv (by rfl) (.tmp 90) (.tmp 94) 24 (by rfl) w.heap.size 5 .u8 1 Try.underlying24 info_u8 _ _ _ (by rfl) HO10.out _ (ib (Wm.wd c.c.b)) (by rfl) HY10.out (by have := HLE.out; simp only [maxLen]; omega) (by have := HLE.out; omega) HB10.out.size ?_; intro v11 w11 hown hgrow)
            obtain ⟨L11, hL11⟩ : ∃ L, L = L9 ++ (Wm.wd c.c.b) := ⟨_, rfl⟩
            have HO11 : Hid (w11.ownsRow w.heap.size 5 1 v11 L11.length ((ib L11).map (Value.int .u8))) := by
              show World.ownsRow _ _ _ _ _ _ _
              rw [hL11, List.length_append, ib_append, List.map_append, ← ib_len (Wm.wd c.c.b)]; exact hown
            have HB11 : Hid (Below w.heap.size w w11) := HB10.out.trans (grown_belowC HO10.out hgrow HB10.out.size)
            have HC11 : Hid (CB w11 wr.heap.size c) := HC10.out.ch (Ch.of_grown hgrow (fun x hx => hx)) (cb_ne_row HC10.out HO10.out (by have := HLL9.out; omega))
            have HLL11 : Hid (1 ≤ L11.length ∧ L11.length ≤ 639) := by have h1 := HLE.out; have h2 := HLL9.out; show _ ∧ _; rw [hL11, List.length_append]; rw [ib_len] at h1; omega
            have HQL11 : Hid (L11 = L9 ++ (Wm.wd c.c.b)) := hL11
            clear hown hgrow hL11 HLE
            obtain ⟨c0, c1, c2, c3, c4, c5, zz⟩ := HC11.out
            go_wp2_with fail
            refine (rput_walk m HM.out _).mono ?_
            rintro e w12 ⟨y12, rfl, hy12, hB12⟩
            have HY12 : Hid (Sv .u8 w12 y12 (ib (Wm.enc m))) := own_sv hy12
            have HO12 : Hid (w12.ownsRow w.heap.size 5 1 v11 L11.length ((ib L11).map (Value.int .u8))) := own_belowC HO11.out hB12
            have HB12 : Hid (Below w.heap.size w w12) := below_trans HB11.out hB12
            have HC12 : Hid (CB w12 wr.heap.size c) := HC11.out.keep hB12
            obtain ⟨ya12, yn12, yq12, rfl⟩ := sv_any HY12.out
            clear hy12 hB12 c0 c1 c2 c3 c4 c5 zz HO11 HB11 HC11
            have HLE : Hid (L11.length + (ib (Wm.enc m)).length ≤ 649) := by
              show _ ≤ _
              have h1 := HLL11.out
              have h2 := Wm.enc_len c.k
              have h3 := Wm.enc_len m
              simp only [ib_len]
              omega
            go_upto_region 8 with (at_builtin; refine wpList_append_sv (by rfl) (.tmp 96) (.tmp 100) 24 (by rfl) w.heap.size 5 .u8 1 Try.underlying24 info_u8 _ _ _ (by rfl) HO12.out _ (ib (Wm.enc m)) (by rfl) HY12.out (by have := HLE.out; simp only [maxLen]; omega) (by have := HLE.out; omega) HB12.out.size ?_; intro v13 w13 hown hgrow)
            obtain ⟨L13, hL13⟩ : ∃ L, L = L11 ++ (Wm.enc m) := ⟨_, rfl⟩
            have HO13 : Hid (w13.ownsRow w.heap.size 5 1 v13 L13.length ((ib L13).map (Value.int .u8))) := by
              show World.ownsRow _ _ _ _ _ _ _
              rw [hL13, List.length_append, ib_append, List.map_append, ← ib_len (Wm.enc m)]; exact hown
            have HB13 : Hid (Below w.heap.size w w13) := HB12.out.trans (grown_belowC HO12.out hgrow HB12.out.size)
            have HC13 : Hid (CB w13 wr.heap.size c) := HC12.out.ch (Ch.of_grown hgrow (fun x hx => hx)) (cb_ne_row HC12.out HO12.out (by have := HLL11.out; omega))
            have HLL13 : Hid (1 ≤ L13.length ∧ L13.length ≤ 649) := by have h1 := HLE.out; have h2 := HLL11.out; show _ ∧ _; rw [hL13, List.length_append]; rw [ib_len] at h1; omega
            have HQL13 : Hid (L13 = L11 ++ (Wm.enc m)) := hL13
            clear hown hgrow hL13 HLE
            have HPRE : Hid (preB l (i + 1) = L13) := by
              show _ = _
              rw [pre_succ hlt, HCD.out, HQL13.out, HQL11.out, HQL9.out, HQL7.out, HQL6.out]
              simp [cellB, flagN, valB, HPH.out, HCH.out, HN.out]
            go_wp2_with fail
            go_roundw
            case rel => exact ⟨i + 1, by go_num, hlt, by rw [HPRE.out]; exact HO13.out, HR.out, HB13.out⟩
            case measure => simp [intOf]; have := hlt; omega
    · have hlti : ¬ (i : Int) < (l.length : Int) := by omega
      obtain rfl : i = l.length := by omega
      have HR : Hid (encode l = (preB l l.length, 0)) := encode_ok H16.out HP.out (enc_end (Nat.le_refl _) HO.out)
      go_wp2_with fail
      go_ret2
      exact ⟨_, by rw [HR.out]; rfl, by rw [HR.out]; exact HOWN.out, HB.out⟩

theorem rencode_void (ao : Option Addr) (cap : Nat) (w : World) : Calls Try.prog 11 #[.slice ao 0 cap] w (EncGot [] w) := by
  go_enter Try.func11, Try.ntmps11
  go_wp2_with fail
  go_ret2
  exact encgot_bad (e := 0) rfl rfl (Below.refl _ _)
theorem rencode_far (l : List Cl) (ao : Option Addr) (cap : Nat) (w : World) (h : 16 < l.length) : Calls Try.prog 11 #[.slice ao l.length cap] w (EncGot l w) := by
  have hi : (16 : Int) < (l.length : Int) := by omega
  have HR : Hid (encode l = ([], 6)) := encode_long h
  clear h
  go_enter Try.func11, Try.ntmps11
  go_wp2_with fail
  go_ret2
  exact encgot_bad HR.out rfl (Below.refl _ _)
theorem rencode_walk {w : World} {v : Value} {l : List Cl} (h : Cv w v l) (hok : ∀ c ∈ l, c.ok) : Calls Try.prog 11 #[v] w (EncGot l w) := by
  rcases cv_cases h with ⟨rfl, ao, cap, rfl⟩ | ⟨b, off, cap, rfl, hp, _, _, h3⟩
  · exact rencode_void ao cap w
  · by_cases h16 : l.length ≤ 16
    · exact rencode_some l b off cap w hp h16 hok h3
    · exact rencode_far l _ cap w (by omega)
end Go.Proofs.Ytjcmmhonidamoaa
