/- Contract of the reference's Decode over cells. -/
import Derived.Test.YtjcmmhonidamoaaCf
namespace Go.Proofs.Ytjcmmhonidamoaa
open Go.RowKit

/-- Where the reference's Decode stands: D is what all of it comes to. -/
def RAt (D : Nat × List Cl × List Nat) (n : Nat) (acc : List Cl) (l : List Nat) : Prop :=
  D.1 = (decS (n - acc.length) (lastK acc) l).1 ∧ (D.1 = 0 → D.2.1 = acc ++ (decS (n - acc.length) (lastK acc) l).2.1 ∧ D.2.2 = (decS (n - acc.length) (lastK acc) l).2.2)
theorem rat_start (n : Nat) (l : List Nat) : RAt (decS n none l) n [] l := ⟨rfl, fun _ => ⟨rfl, rfl⟩⟩
theorem rat_bad {D : Nat × List Cl × List Nat} {n e : Nat} {acc : List Cl} {l r : List Nat} {c : Cl} (h : RAt D n acc l) (hi : acc.length < n) (ho : oneC (lastK acc) l = (e, c, r)) (he : e ≠ 0) : D.1 = e := by
  obtain ⟨h1, _⟩ := h
  rw [h1, show n - acc.length = (n - (acc.length + 1)) + 1 by omega]
  simp only [decS, ho]
  rw [if_pos he]
theorem rat_ok {D : Nat × List Cl × List Nat} {n : Nat} {acc : List Cl} {l r : List Nat} {c : Cl} (h : RAt D n acc l) (hi : acc.length < n) (ho : oneC (lastK acc) l = (0, c, r)) : RAt D n (acc ++ [c]) r := by
  obtain ⟨h1, h2⟩ := h
  rw [show n - acc.length = (n - (acc.length + 1)) + 1 by omega] at h1 h2
  simp only [decS, ho] at h1 h2
  rw [if_neg (by simp)] at h1 h2
  unfold RAt
  rw [List.length_append, List.length_singleton, lastK_snoc]
  by_cases q : (decS (n - (acc.length + 1)) (some c.k) r).1 = 0
  · rw [if_neg (by simpa using q)] at h1 h2
    refine ⟨by rw [h1, q], fun hD => ?_⟩
    obtain ⟨a, b⟩ := h2 hD
    exact ⟨by rw [a]; simp, b⟩
  · rw [if_pos q] at h1 h2
    exact ⟨h1, fun hD => absurd (h1.symm.trans hD) q⟩
/-- The relation of the reference's loop. -/
def RDc (n : Nat) (l0 : List Nat) (w : World) (bv cv lv iv : Value) (wr : World) : Prop :=
  ∃ (i L : Nat) (acc : List Cl) (l : List Nat), iv = .int .i64 i ∧ lv = .int .u64 L ∧ i ≤ n ∧ acc.length = i ∧ (lastK acc = if decide (i = 0) = true then none else some L) ∧ RAt (decS n none l0) n acc l ∧ Bv wr bv l ∧ (∀ y, bv.ownBlock = some y → y < w.heap.size) ∧ wr.ownsRow w.heap.size 37 6 cv acc.length (flatC acc) ∧ Below w.heap.size w wr

theorem rdecode_void (ao : Option Addr) (cap : Nat) (w : World) : Calls Try.prog 13 #[.slice ao 0 cap] w (DecGot [] w) := by
  go_enter Try.func13, Try.ntmps13
  go_wp2_with fail
  go_ret2
  exact decgot_bad (e := 0) rfl rfl (Below.refl _ _)

theorem bv_belowB {w w' : World} {v : Value} {l : List Nat} {B : Nat} (h : Bv w v l) (hm : ∀ x, v.ownBlock = some x → x < B) (hb : Below B w w') : Bv w' v l := by
  obtain ⟨⟨ao, cap, e, h1, h2, h3, h4⟩, h5⟩ := h
  refine ⟨⟨ao, cap, e, h1, h2, h3, fun i hi => ?_⟩, h5⟩
  obtain ⟨b, off, e1, e2⟩ := h4 i hi
  exact ⟨b, off, e1, by rw [hb.cell (p := ⟨b, off + i, none⟩) (hm b (by rw [e, e1]; rfl))]; exact e2⟩

set_option maxRecDepth 100000 in
set_option maxHeartbeats 4000000 in
theorem rdecode_some (l : List Nat) (b off cap : Nat) (w : World) (hp : 0 < l.length) (hv : Bv w (.slice (some ⟨b, off, none⟩) l.length cap) l) (hb : b < w.heap.size) :
    Calls Try.prog 13 #[.slice (some ⟨b, off, none⟩) l.length cap] w (DecGot l w) := by
  have hl0 : ((l.length : Int) == 0) = false := by rw [beq_eq_false_iff_ne]; omega
  have HL0 : Hid (l.length ≠ 0) := by show _ ≠ _; omega
  have HV : Hid (Bv w (.slice (some ⟨b, off, none⟩) l.length cap) l) := hv
  have HLB : Hid (b < w.heap.size) := hb
  have hT := Wm.take_form l hv.2
  obtain ⟨_, hlc, hmx⟩ := bv_le hv
  unfold maxLen at hmx
  have hci : (cap : Int) ≤ 9223372036854775807 := by omega
  have hli : (l.length : Int) ≤ (cap : Int) := by omega
  clear hp hv hb hlc hmx
  go_enter Try.func13, Try.ntmps13
  go_wp2_with fail
  refine (rtake_walk HV.out).mono ?_
  rcases hT with ⟨e, ht, h34⟩ | ⟨x, n, ht, hx, hn1, hn2, hn3⟩
  · have he : e ≠ 0 := by omega
    have HQ : Hid (decode l = ([], e)) := decode_err ht HL0.out he
    rw [t3_litB ht]
    rintro e9 w2 ⟨rfl, hw2⟩
    have hei : ((e : Int) != 0) = true := by rw [bne_iff_ne]; omega
    replace hw2 := hw2.symm
    subst hw2
    clear he h34 ht
    go_wp2_with fail
    go_ret2
    exact decgot_bad HQ.out rfl (Below.refl _ _)
  · rw [t3_litB ht]
    rintro e9 w2 ⟨rfl, hw2⟩
    replace hw2 := hw2.symm
    subst hw2
    by_cases h0 : x = 0
    · subst h0
      have HQ : Hid (decode l = ([], 4)) := decode_none ht HL0.out
      clear hn1 hn2 hn3 ht hx
      go_wp2_with fail
      go_ret2
      exact decgot_bad HQ.out rfl (Below.refl _ _)
    · have hx0 : ((x : Int) == 0) = false := by rw [beq_eq_false_iff_ne]; omega
      by_cases h16 : 16 < x
      · have HQ : Hid (decode l = ([], 6)) := decode_far ht HL0.out h16
        have h16i : (16 : Int) < (x : Int) := by omega
        clear hn1 hn2 hn3 ht hx h0 h16
        go_wp2_with fail
        go_ret2
        exact decgot_bad HQ.out rfl (Below.refl _ _)
      · have h16i : ¬ (16 : Int) < (x : Int) := by omega
        have HD : Hid (decode l = decT x (l.drop n)) := decode_go ht HL0.out h0 (by omega)
        have hwx : IntKind.i64.wrap (x : Int) = (x : Int) := by rw [IntKind.wrap_i64]; omega
        have H16 : Hid (x ≤ 16) := by show _ ≤ _; omega
        have HN : Hid (n ≤ l.length) := hn2
        have hnl : (n : Int) ≤ (l.length : Int) := by omega
        have hnc : (n : Int) ≤ (cap : Int) := by omega
        clear hn1 hn2 hn3 ht hx h0 h16
        go_upto_region 10 with fail
        go_cut [0] (fun u wx => Bv w u (l.drop n) ∧ Sb u (.slice (some ⟨b, off, none⟩) l.length cap) ∧ wx = w)
        case first =>
          obtain ⟨k1, k2⟩ := bv_cut HV.out n HN.out
          by_cases hc : cap = n
          · have K := k1 hc
            clear k1 k2
            subst hc
            go_wp2_with fail
            go_meet
            exact ⟨K, sb_cut0, rfl⟩
          · have K := k2 hc
            clear k1 k2
            go_wp2_with fail
            go_meet
            exact ⟨by simpa [WideShapes.add_plain] using K, fun y hy => by simpa [Value.ownBlock] using hy, rfl⟩
        case rest =>
          obtain ⟨hV3, hsb, h2⟩ := hcut
          replace h2 := h2.symm
          subst h2
          obtain ⟨l0, hl00⟩ : ∃ l0, l0 = l.drop n := ⟨_, rfl⟩
          rw [← hl00] at hV3 HD
          have HST : Hid (RDc x l0 w u0 (.slice (some ⟨w.heap.size, 0, none⟩) 0 0) (.int .u64 0) (.int .i64 0) (w.alloc (.cells #[] 37))) :=
            ⟨0, 0, [], l0, rfl, rfl, by omega, rfl, rfl, rat_start x l0, hV3.below (below_alloc _ _), fun y hy => by have := hsb y hy; cases this; exact HLB.out, World.ownsRow_made w #[] 0 (Nat.le_refl _) (by simp [maxLen]) rfl, below_alloc _ _⟩
          clear hl00 hV3 hsb HV hnl hnc hli
          go_wp2_with fail
          go_loopw [0, 7, 8, 9] (fun bv cv lv iv wr => RDc x l0 w bv cv lv iv wr) (fun _ _ _ iv _ => x - (intOf iv).toNat)
          case atStart => exact HST.out
          case round =>
            clear HST
            obtain ⟨i, L, acc, l', rfl, rfl, hix, hacc, hlast, hat, hbv, hbm, hown, hbel⟩ := hrel
            have HBV : Hid (Bv wr u0 l') := hbv
            have HBM : Hid (∀ y, u0.ownBlock = some y → y < w.heap.size) := hbm
            have HAT : Hid (RAt (decS x none l0) x acc l') := hat
            have HAC : Hid (acc.length = i) := hacc
            have HLA : Hid (lastK acc = if decide (i = 0) = true then none else some L) := hlast
            have HO : Hid (wr.ownsRow w.heap.size 37 6 u7 acc.length (flatC acc)) := hown
            have HB : Hid (Below w.heap.size w wr) := hbel
            clear hbv hbm hat hacc hlast hown hbel
            by_cases hlt : i < x
            · have hlti : (i : Int) < (x : Int) := by omega
              obtain ⟨fb, hfb⟩ : ∃ fb, fb = decide (i = 0) := ⟨_, rfl⟩
              have hfi : ((i : Int) == 0) = fb := by rw [hfb]; by_cases q : i = 0 <;> simp [q]
              have HFB : Hid (fb = decide (i = 0)) := hfb
              clear hfb
              obtain ⟨e, c, r, hOne⟩ : ∃ a b c, oneC (lastK acc) l' = (a, b, c) := ⟨_, _, _, rfl⟩
              have HONE : Hid (oneC (lastK acc) l' = (e, c, r)) := hOne
              clear hOne
              go_wp2_with fail
              refine (rone_walk HBV.out L fb (o := lastK acc) (by rw [HLA.out, HFB.out])).mono ?_
              rw [HONE.out]
              rintro e9 w3 ⟨u3, rfl, hb3, hs3, hB3⟩
              have HB3 : Hid (Bv w3 u3 r) := hb3
              have HM3 : Hid (∀ y, u3.ownBlock = some y → y < w.heap.size) := fun y hy => HBM.out y (hs3 y hy)
              have HO3 : Hid (w3.ownsRow w.heap.size 37 6 u7 acc.length (flatC acc)) := own_belowC HO.out hB3
              have HL3 : Hid (Below w.heap.size w w3) := below_trans HB.out hB3
              clear hb3 hs3 hB3 HO HB HBV hfi
              by_cases he : e = 0
              rotate_left
              · have HQ : Hid (decode l = ([], e)) := by show _ = _; rw [HD.out, decT_fault (rat_bad HAT.out (by have := HAC.out; omega) HONE.out he) he]
                have hei : ((e : Int) != 0) = true := by rw [bne_iff_ne]; omega
                clear he
                go_wp2_with fail
                go_ret2
                exact decgot_bad HQ.out rfl (below_trans HL3.out (below_alloc _ _))
              · subst he
                have HNX : Hid (RAt (decS x none l0) x (acc ++ [c]) r) := rat_ok HAT.out (by have := HAC.out; omega) HONE.out
                have HPN : Hid (∀ k, u7.ownBlock = some k → k < w3.heap.size) := fun k hk => (HO3.out.lt k hk).2
                go_upto_region 19 with fail
                have HC4 : Hid (CB (w3.alloc (Obj.cells #[.int .u64 c.k, .bool c.p.h, .int .u64 c.p.b, .bool c.c.h, .int .u64 c.c.b, .int .i64 c.n] 37)) w3.heap.size c) := cb_new w3 c
                have HO4 : Hid ((w3.alloc (Obj.cells #[.int .u64 c.k, .bool c.p.h, .int .u64 c.p.b, .bool c.c.h, .int .u64 c.c.b, .int .i64 c.n] 37)).ownsRow w.heap.size 37 6 u7 acc.length (flatC acc)) := HO3.out.alloc _
                have HL4 : Hid (Below w.heap.size w (w3.alloc (Obj.cells #[.int .u64 c.k, .bool c.p.h, .int .u64 c.p.b, .bool c.c.h, .int .u64 c.c.b, .int .i64 c.n] 37))) := below_trans HL3.out (below_alloc _ _)
                have HV4 : Hid (Bv (w3.alloc (Obj.cells #[.int .u64 c.k, .bool c.p.h, .int .u64 c.p.b, .bool c.c.h, .int .u64 c.c.b, .int .i64 c.n] 37)) u3 r) := HB3.out.below (below_alloc _ _)
                generalize w3.alloc (Obj.cells #[.int .u64 c.k, .bool c.p.h, .int .u64 c.p.b, .bool c.c.h, .int .u64 c.c.b, .int .i64 c.n] 37) = w4 at HC4 HO4 HL4 HV4 ⊢
                obtain ⟨P, hP⟩ : ∃ P, P = w3.heap.size := ⟨_, rfl⟩
                rw [← hP] at HC4 HPN ⊢
                clear hP HO3 HL3 HB3
                obtain ⟨c0, c1, c2, c3, c4, c5, zz⟩ := HC4.out
                have HLE : Hid (acc.length + 1 ≤ 17) := by show _ ≤ _; have := HAC.out; have := H16.out; omega
                go_upto_region 20 with (at_builtin; refine wpList_append_cv (by rfl) (.tmp 51) (.tmp 53) (by rfl) w.heap.size _ _ _ (by rfl) (HO4.out.alloc _) _ [c] (by rfl) (cv_one w4 c) (by have := HLE.out; simp only [maxLen, List.length_singleton]; omega) (by have := HLE.out; simp only [List.length_singleton]; omega) (by rw [size_allocC]; have := HL4.out.size; omega) ?_; intro v5 w5 hown hgrow)
                have HG5 : Hid (Below w.heap.size w4 w5) := ((below_alloc w4 _).mono HL4.out.size).trans (grown_belowC (HO4.out.alloc _) hgrow (by rw [size_allocC]; have := HL4.out.size; omega))
                have HL5 : Hid (Below w.heap.size w w5) := HL4.out.trans HG5.out
                have HV5 : Hid (Bv w5 u3 r) := bv_belowB HV4.out HM3.out HG5.out
                have HO5 : Hid (w5.ownsRow w.heap.size 37 6 v5 (acc ++ [c]).length (flatC (acc ++ [c]))) := by show World.ownsRow _ _ _ _ _ _ _; rw [List.length_append, flatC_append]; exact hown
                have HCK : Hid (w5.cell? ⟨P, 0, none⟩ = some (.int .u64 c.k)) := (Ch.of_grown (D := fun x => u7.ownBlock = some x) hgrow (fun x hx => hx)).cell (p := ⟨P, 0, none⟩) ((HC4.out.keep (below_alloc _ _)).c0) (fun hx => by have := HPN.out P hx; omega)
                clear hown hgrow c0 c1 c2 c3 c4 c5 zz HO4 HV4 HC4 HG5 HL4
                have k0 := HCK.out
                have HREL : Hid (RDc x l0 w u3 v5 (.int .u64 c.k) (.int .i64 ((i : Int) + 1)) w5) := ⟨i + 1, c.k, acc ++ [c], r, rfl, rfl, hlt, by have := HAC.out; simp; omega, by rw [lastK_snoc]; simp, HNX.out, HV5.out, HM3.out, HO5.out, HL5.out⟩
                go_wp2_with fail
                go_roundw
                case rel => exact HREL.out
                case measure => simp [intOf]; omega
            · have hlti : ¬ (i : Int) < (x : Int) := by omega
              obtain rfl : i = x := by omega
              have HFIN : Hid ((decS i none l0).1 = 0 ∧ (decS i none l0).2.1 = acc ∧ (decS i none l0).2.2 = l') := by
                obtain ⟨h1, h2⟩ := HAT.out
                rw [HAC.out, Nat.sub_self] at h1 h2
                simp only [decS] at h1 h2
                obtain ⟨a, b⟩ := h2 h1
                exact ⟨h1, by rw [a]; simp, b⟩
              obtain ⟨va, vn, vc, hvv⟩ := bv_any HBV.out
              subst hvv
              obtain ⟨hln, _, _⟩ := bv_le HBV.out
              have HLN : Hid (vn = l'.length) := hln
              clear hln
              by_cases hll : vn = 0
              · have HDE : Hid (decode l = (acc, 0)) := by
                  show _ = _
                  rw [HD.out, decT_ok HFIN.out.1 (by rw [HFIN.out.2.2, ← HLN.out]; exact hll), HFIN.out.2.1]
                subst hll
                go_wp2_with fail
                go_ret2
                exact decgot_ok HDE.out HO.out HB.out
              · have HDE : Hid (decode l = ([], 5)) := by
                  show _ = _
                  rw [HD.out, decT_tail HFIN.out.1 (by rw [HFIN.out.2.2, ← HLN.out]; exact hll)]
                have hpos : (0 : Int) < (vn : Int) := by omega
                go_wp2_with fail
                go_ret2
                exact decgot_bad HDE.out rfl HB.out

theorem rdecode_walk {w : World} {v : Value} {l : List Nat} (h : Bv w v l) : Calls Try.prog 13 #[v] w (DecGot l w) := by
  rcases bv_cases h with ⟨rfl, ao, cap, rfl⟩ | ⟨b, off, cap, rfl, hp, h1, h2, h3⟩
  · exact rdecode_void ao cap w
  · exact rdecode_some l b off cap w hp h (cell_lt (h3 0 hp))
end Go.Proofs.Ytjcmmhonidamoaa
