/- The walk of FoldOne. -/
import Derived.Test.YtfcpooihihklaabKm
import Derived.Deep.DeepCutAuto
import Derived.Deep.RegionHeld3
namespace Go.Proofs.Ytfcpooihihklaab
open Ieee Go.RowKit
attribute [local go_sem] run_store_float

theorem jb_new (w : World) (lv rv : Value) (kind n : Int) (t : TypeId) : JB (w.alloc (Obj.cells #[lv, .int .i64 kind, rv, .int .i64 n] t)) w.heap.size lv kind rv n := by
  constructor <;> simp [go_sem]
theorem below_drew (w : World) : Below w.heap.size w w.drew := (Below.refl _ _).drew
theorem new_rec {w w3 : World} {t : TypeId} {k x : Nat} (h : Below ((w.alloc (Obj.cells #[.int .u64 k, .float .f64 x] t)).drew).heap.size (w.alloc (Obj.cells #[.int .u64 k, .float .f64 x] t)).drew w3) : RB w3 w.heap.size k x := by
  have h0 : RB (w.alloc (Obj.cells #[.int .u64 k, .float .f64 x] t)).drew w.heap.size k x := by
    refine ⟨?_, ?_, ?_, ?_⟩ <;> simp [go_sem]
  exact h0.below h (cell_lt h0.c0)
theorem cut_new {wr w3 : World} {t : TypeId} (h : Below wr.heap.size wr w3) (R : Int × Rcd) :
    ∃ b', Value.pointer (some ⟨w3.heap.size, 0, none⟩) = Value.pointer (some ⟨b', 0, none⟩) ∧ Value.int .i64 R.1 = .int .i64 R.1 ∧ RB (w3.alloc (Obj.cells #[.int .u64 R.2.k, .float .f64 R.2.x] t)) b' R.2.k R.2.x ∧ wr.heap.size ≤ b' ∧ Below wr.heap.size wr (w3.alloc (Obj.cells #[.int .u64 R.2.k, .float .f64 R.2.x] t)) := by
  refine ⟨w3.heap.size, rfl, rfl, ⟨?_, ?_, ?_, ?_⟩, h.size, h.alloc h.size _⟩
  all_goals simp [go_sem]
theorem cut_old {wr w3 : World} (h : Below wr.heap.size wr w3) (h0 : RB w3 wr.heap.size 0 0) (R : Int × Rcd) :
    ∃ b', Value.pointer (some ⟨wr.heap.size, 0, none⟩) = Value.pointer (some ⟨b', 0, none⟩) ∧ Value.int .i64 R.1 = .int .i64 R.1 ∧ RB ((w3.setCell ⟨wr.heap.size, 0, none⟩ (.int .u64 R.2.k)).setCell ⟨wr.heap.size, 1, none⟩ (.float .f64 R.2.x)) b' R.2.k R.2.x ∧ wr.heap.size ≤ b' ∧
      Below wr.heap.size wr ((w3.setCell ⟨wr.heap.size, 0, none⟩ (.int .u64 R.2.k)).setCell ⟨wr.heap.size, 1, none⟩ (.float .f64 R.2.x)) :=
  ⟨_, rfl, rfl, h0.set _ _, Nat.le_refl _, keep_store h _ (Nat.le_refl _) _ _⟩

/-- A key's value out of the first k records. -/
def valAt (l : List Stp) (kind : Int) (key : Nat) (recs : List Rcd) : Vl := foldV kind noV (atT key (keptT l kind recs))
theorem valAt_all (l : List Stp) (kind : Int) (key : Nat) (recs : List Rcd) : valAt l kind key recs = getT key (batchT l kind recs) := by
  unfold valAt batchT
  rw [get_adds]; rfl
theorem valAt_keep {l : List Stp} {kind : Int} {key : Nat} {recs : List Rcd} {k : Nat} (hk : k < recs.length) (hf : (runS l recs[k]).1 = 1) (hy : (runS l recs[k]).2.k = key) :
    valAt l kind key (recs.take (k + 1)) = mergeV kind (valAt l kind key (recs.take k)) (ofV kind (runS l recs[k]).2.x) := by
  unfold valAt
  rw [kept_snoc l kind recs hk, kept_one hf, at_append]
  have : atT key [(⟨(runS l recs[k]).2.k, ofV kind (runS l recs[k]).2.x⟩ : Pr)] = [ofV kind (runS l recs[k]).2.x] := by simp [atT, hy]
  rw [this]
  unfold foldV
  rw [List.foldl_append]; rfl
theorem valAt_skip {l : List Stp} {kind : Int} {key : Nat} {recs : List Rcd} {k : Nat} (hk : k < recs.length) (h : (runS l recs[k]).1 ≠ 1 ∨ (runS l recs[k]).2.k ≠ key) :
    valAt l kind key (recs.take (k + 1)) = valAt l kind key (recs.take k) := by
  unfold valAt
  rw [kept_snoc l kind recs hk, at_append]
  by_cases hf : (runS l recs[k]).1 = 1
  · have hy : (runS l recs[k]).2.k ≠ key := by
      rcases h with h | h
      · exact absurd hf h
      · exact h
    rw [kept_one hf]
    have : atT key [(⟨(runS l recs[k]).2.k, ofV kind (runS l recs[k]).2.x⟩ : Pr)] = [] := by simp [atT, hy]
    rw [this, List.append_nil]
  · rw [kept_none hf]
    have : atT key [] = [] := rfl
    rw [this, List.append_nil]
theorem valAt_ok {l : List Stp} {kind : Int} {key : Nat} {recs : List Rcd} (h : ∀ r ∈ recs, r.ok) : (valAt l kind key recs).ok := foldV_ok kind noV_ok (at_ok (kept_ok h) key)

/-- Where the inner loop of FoldOne stands. -/
def On (w0 : World) (vb : Nat) (l : List Stp) (kind : Int) (key : Nat) (recs : List Rcd) (kv : Value) (wr : World) : Prop :=
  ∃ k : Nat, k ≤ recs.length ∧ kv = .int .i64 k ∧ VB wr vb (valAt l kind key (recs.take k)) ∧ Below w0.heap.size w0 wr

theorem on_skip {w0 wq w1 : World} {vb : Nat} {l : List Stp} {kind : Int} {key k : Nat} {recs : List Rcd} {r : Rcd} (hk : k < recs.length) (hr : r = recs[k]) (h : (runS l r).1 ≠ 1 ∨ (runS l r).2.k ≠ key)
    (hV : VB wq vb (valAt l kind key (recs.take k))) (hB : Below w0.heap.size w0 wq) (h1 : Below wq.heap.size wq w1) : On w0 vb l kind key recs (.int .i64 ((k : Int) + 1)) w1 :=
  ⟨k + 1, hk, by simp, by rw [valAt_skip hk (by rw [← hr]; exact h)]; exact hV.below h1 (cell_lt hV.c0), below_trans hB h1⟩

theorem on_keep {w0 wq wz w1 : World} {vb : Nat} {l : List Stp} {kind : Int} {key k : Nat} {recs : List Rcd} {r : Rcd} {R : Int × Rcd} {V O M : Vl} (hk : k < recs.length) (hr : r = recs[k]) (hf : (runS l r).1 = 1) (hy : (runS l r).2.k = key)
    (hVe : V = valAt l kind key (recs.take k)) (hO : O = ofV kind R.2.x) (hM : M = mergeV kind V O) (hR : R = runS l r) (hB : Below w0.heap.size w0 wq) (hz : Below wq.heap.size wq wz) (h1 : Below wz.heap.size wz w1) (hV : VB wz vb V ∧ w0.heap.size ≤ vb) :
    On w0 vb l kind key recs (.int .i64 ((k : Int) + 1)) ((w1.setCell ⟨vb, 0, none⟩ (.bool M.h)).setCell ⟨vb, 1, none⟩ (.int .u64 M.b)) := by
  refine ⟨k + 1, hk, by simp, ?_, keep_store (below_trans hB (below_trans hz h1)) _ hV.2 _ _⟩
  rw [valAt_keep hk (by rw [← hr]; exact hf) (by rw [← hr]; exact hy), ← hr, ← hR, ← hO, ← hVe, ← hM]
  exact (hV.1.below h1 (cell_lt hV.1.c0)).set _ _

set_option maxRecDepth 100000 in
set_option maxHeartbeats 4000000 in
theorem one_bad {lv rv : Value} {l : List Stp} {kind n : Int} {w : World} (ho : Ov w lv l) (hb : (checkB l && knownB kind) = false) :
    Calls Try.prog 3 #[.agg #[lv, .int .i64 kind, rv, .int .i64 n]] w fun e w' => e = .returned (.bool true) ∧ Below w.heap.size w w' := by
  have HO : Hid (Ov w lv l) := ho
  have HBD : Hid ((checkB l && knownB kind) = false) := hb
  clear ho hb
  have J0 := jb_new w lv rv kind n 25
  go_enter Try.func3, Try.ntmps3
  go_wp2_with fail
  refine (awake_walk _).mono ?_
  rintro e w1 ⟨rfl, hB1⟩
  have HB1 : Hid (Below w.heap.size w w1) := below_trans (below_alloc _ _) hB1
  have HJ1 : Hid (JB w1 w.heap.size lv kind rv n) := J0.below hB1
  clear hB1 J0
  obtain ⟨c0, c1, c2, c3⟩ := HJ1.out
  go_wp2_with fail
  refine (right_walk (HO.out.below HB1.out)).mono ?_
  rw [HBD.out]
  rintro e w2 ⟨rfl, hB2⟩
  go_wp2_with fail
  go_ret
  exact ⟨rfl, below_trans HB1.out hB2⟩

set_option maxRecDepth 100000 in
set_option maxHeartbeats 8000000 in
theorem one_good {lv rv : Value} {l : List Stp} {recs : List Rcd} {kind n : Int} {w : World} (ho : Ov w lv l) (hr : Rv w rv recs) (hc : checkB l = true) (hk : knownB kind = true) (hsz : recs.length * 16 ≤ 140737488351232) :
    Calls Try.prog 3 #[.agg #[lv, .int .i64 kind, rv, .int .i64 n]] w fun e w' => e = .returned (.bool true) ∧ Below w.heap.size w w' := by
  have HO : Hid (Ov w lv l) := ho
  have HR : Hid (Rv w rv recs) := hr
  have HSZ : Hid (recs.length * 24 ≤ 281474976710656) := by show _ ≤ _; omega
  have HRO : Hid (∀ r ∈ recs, r.ok) := hr.2
  have hrl : (recs.length : Int) ≤ 8796093021952 := by omega
  obtain ⟨ao, cap, hrv, hrc, hcm, hcn, hrl4⟩ := hr.parts
  subst hrv
  have HRL : Hid (Rl w ao recs) := hrl4
  have HLT : Hid ((batchT l kind recs).length ≤ recs.length) := batch_len l kind recs
  have HLM : Hid ((batchT l kind recs).length ≤ maxLen) := by have := batch_len l kind recs; show _ ≤ _; simp only [maxLen]; omega
  have hlt9 : ((batchT l kind recs).length : Int) ≤ 8796093021952 := by have := batch_len l kind recs; omega
  have hgv := guard_val
  clear ho hr hsz hrc hcm hcn hrl4
  have J0 := jb_new w lv (.slice ao recs.length cap) kind n 25
  go_enter Try.func3, Try.ntmps3
  go_wp2_with fail
  refine (awake_walk _).mono ?_
  rintro e w1 ⟨rfl, hB1⟩
  have HB1 : Hid (Below w.heap.size w w1) := below_trans (below_alloc _ _) hB1
  have HJ1 : Hid (JB w1 w.heap.size lv kind (.slice ao recs.length cap) n) := J0.below hB1
  clear hB1 J0
  obtain ⟨c0, c1, c2, c3⟩ := HJ1.out
  go_wp2_with fail
  refine (right_walk (HO.out.below HB1.out)).mono ?_
  rw [hc, hk]
  rintro e w2 ⟨rfl, hB2⟩
  have HB2 : Hid (Below w.heap.size w w2) := below_trans HB1.out hB2
  have HJ2 : Hid (JB w2 w.heap.size lv kind (.slice ao recs.length cap) n) := HJ1.out.below hB2
  clear hB2 c0 c1 c2 c3
  obtain ⟨c0, c1, c2, c3⟩ := HJ2.out
  go_wp2_with fail
  refine (table_walk (HO.out.below HB2.out) (HR.out.below HB2.out) hc hk HSZ.out).mono ?_
  rintro e w3 ⟨g, rfl, hM3, _, hg3, hB3⟩
  have HB3 : Hid (Below w.heap.size w w3) := below_trans HB2.out hB3
  have HJ3 : Hid (JB w3 w.heap.size lv kind (.slice ao recs.length cap) n) := HJ2.out.below hB3
  have HM3 : Hid (Mq w3 g (batchT l kind recs)) := hM3
  have HG3 : Hid (g < w3.heap.size) := hg3
  clear hB3 hM3 hg3 c0 c1 c2 c3
  go_wp2_with fail
  go_loopw [6] (fun iv wr => ∃ i : Nat, i ≤ (batchT l kind recs).length ∧ iv = .int .i64 i ∧ Below w3.heap.size w3 wr) (fun iv _ => (batchT l kind recs).length - (intOf iv).toNat)
  case atStart => exact ⟨0, Nat.zero_le _, rfl, below_same _⟩
  case round =>
    obtain ⟨i, hi, rfl, hB⟩ := hrel
    obtain ⟨w0, hw0⟩ : ∃ w0, w0 = wr := ⟨_, rfl⟩
    subst hw0
    have HB : Hid (Below w3.heap.size w3 w0) := hB
    clear hB
    by_cases hlt : i < (batchT l kind recs).length
    · by_cases h8 : (i : Int) < 8
      · have hil : (i : Int) < ((batchT l kind recs).length : Int) := by omega
        obtain ⟨p, hpe⟩ : ∃ p, p = (batchT l kind recs)[i] := ⟨_, rfl⟩
        have HP : Hid (p = (batchT l kind recs)[i]) := hpe
        have HPV : Hid (getT p.k (batchT l kind recs) = p.v) := by show _ = _; rw [hpe]; exact get_mem (rise_batch _ _ _) (List.getElem_mem hlt)
        have HJ0 : Hid (JB w0 w.heap.size lv kind (.slice ao recs.length cap) n) := HJ3.out.below HB.out
        have HQ0 : Hid (Ql w0 (some ⟨g, 0, none⟩) (batchT l kind recs)) := mq_ql (HM3.out.below HB.out HG3.out)
        have HB0 : Hid (Below w.heap.size w w0) := below_trans HB3.out HB.out
        clear hpe
        go_wp2_with fail
        generalize hgw : w0.alloc (Obj.cells #[Value.bool false, Value.int IntKind.u64 0] 33) = wa
        have R1 : On w0 w0.heap.size l kind p.k recs (.int .i64 0) wa := by
          rw [← hgw]
          refine ⟨0, Nat.zero_le _, rfl, ?_, below_alloc _ _⟩
          show VB _ _ noV
          constructor <;> simp [go_sem, noV]
        clear hgw
        go_loopw [8] (fun kv wr => On w0 w0.heap.size l kind p.k recs kv wr) (fun kv _ => recs.length - (intOf kv).toNat)
        case atStart => exact R1
        case round =>
          clear R1
          obtain ⟨k, hk8', rfl, hV, hBq⟩ := hrel
          obtain ⟨wq, hwq⟩ : ∃ wq, wq = wr := ⟨_, rfl⟩
          subst hwq
          have HVQ : Hid (VB wq w0.heap.size (valAt l kind p.k (recs.take k))) := hV
          have HWQ : Hid (Below w0.heap.size w0 wq) := hBq
          have HJQ : Hid (JB wq w.heap.size lv kind (.slice ao recs.length cap) n) := HJ0.out.below hBq
          have HBQ : Hid (Below w.heap.size w wq) := below_trans HB0.out hBq
          clear hV hBq
          by_cases hk8 : k < recs.length
          · obtain ⟨b, off, rfl, m0, m1⟩ := HRL.out.below HBQ.out k hk8
            obtain ⟨r, hre⟩ : ∃ r, r = recs[k] := ⟨_, rfl⟩
            rw [← hre] at m0 m1
            have HE : Hid (r = recs[k]) := hre
            have HROK : Hid r.ok := by rw [hre]; exact HRO.out _ (List.getElem_mem hk8)
            clear hre
            obtain ⟨R, hR⟩ : ∃ R, R = runS l r := ⟨_, rfl⟩
            have HRV : Hid (R = runS l r) := hR
            have HKO : Hid R.2.ok := by show R.2.ok; rw [hR]; exact runS_ok l HROK.out
            clear hR
            have HM0 : Hid (wq.cell? ⟨b, off + k * 2, none⟩ = some (.int .u64 r.k)) := m0
            have HM1 : Hid (wq.cell? ⟨b, off + k * 2 + 1, none⟩ = some (.float .f64 r.x)) := m1
            clear m0 m1
            obtain ⟨c0, c1, c2, c3⟩ := HJQ.out
            go_wp2_with fail
            clear c0 c1 c2 c3
            have k0 : ∀ wx, Below wq.heap.size wq wx → wx.cell? ⟨w.heap.size, 0, none⟩ = some lv := fun wx h => (HJQ.out.below h).c0
            have k2 : ∀ wx, Below wq.heap.size wq wx → wx.cell? ⟨w.heap.size, 2, none⟩ = some (.slice (some ⟨b, off, none⟩) recs.length cap) := fun wx h => (HJQ.out.below h).c2
            have k3 : ∀ wx, Below wq.heap.size wq wx → wx.cell? ⟨b, off + k * 2, none⟩ = some (.int .u64 r.k) := fun wx h => by rw [h.cell (p := ⟨b, off + k * 2, none⟩) (cell_lt HM0.out)]; exact HM0.out
            have k4 : ∀ wx, Below wq.heap.size wq wx → wx.cell? ⟨b, off + k * 2 + 1, none⟩ = some (.float .f64 r.x) := fun wx h => by rw [h.cell (p := ⟨b, off + k * 2 + 1, none⟩) (cell_lt HM1.out)]; exact HM1.out
            go_cut [9, 10] (fun q f wx => ∃ b', q = .pointer (some ⟨b', 0, none⟩) ∧ f = .int .i64 R.1 ∧ RB wx b' R.2.k R.2.x ∧ wq.heap.size ≤ b' ∧ Below wq.heap.size wq wx)
            case first =>
              go_region_held3 (fun wx => Below wq.heap.size wq wx) (first | assumption | exact (Below.refl _ _).drew | exact Below.drew ((Below.refl _ _).alloc (Nat.le_refl _) _) | exact Below.alloc (by assumption) (Below.size (by assumption)) _ | exact keep_store (by assumption) _ (Nat.le_refl _) _ _)
                (first | (go_at_call 8; refine (run_walk r HROK.out (HO.out.below (below_trans HBQ.out (by assumption)))).mono ?_; rw [← HRV.out]; rintro e w5 ⟨rfl, hB3⟩; have hS3 : Below wq.heap.size wq w5 := below_trans (by assumption) hB3; try (have q0 := (new_rec hB3).c0; have q1 := (new_rec hB3).c1; have q2 := (new_rec hB3).z0; have q3 := (new_rec hB3).z1)))
              all_goals go_wp2_with fail
              all_goals go_meet
              · exact cut_new hS3 R
              · exact cut_old hS3 ⟨q0, q1, q2, q3⟩ R
            case rest =>
              obtain ⟨rb, rfl, rfl, hRB, hrb, hBc⟩ := hcut
              obtain ⟨wz, hwz⟩ : ∃ wz, wz = wc := ⟨_, rfl⟩
              subst hwz
              have HZ : Hid (Below wq.heap.size wq wz) := hBc
              have HRB : Hid (RB wz rb R.2.k R.2.x) := hRB
              have HJZ : Hid (JB wz w.heap.size lv kind (.slice (some ⟨b, off, none⟩) recs.length cap) n) := HJQ.out.below hBc
              have HVZ0 : Hid (VB wz w0.heap.size (valAt l kind p.k (recs.take k))) := HVQ.out.below hBc (cell_lt HVQ.out.c0)
              clear k0 k2 k3 k4 hBc hRB
              obtain ⟨gb, goff, ge, g0, g1, g2⟩ := HQ0.out.below (below_trans HWQ.out HZ.out) i hlt
              cases ge
              rw [Nat.zero_add, ← HP.out] at g0
              clear g1 g2
              by_cases hf1 : R.1 = 1
              · have HFF : Hid ((runS l r).1 = 1) := by show _ = _; rw [← HRV.out]; exact hf1
                rw [hf1]
                clear hf1
                obtain ⟨q0, q1, _, _⟩ := HRB.out
                by_cases hky : R.2.k = p.k
                · have HKEY : Hid ((runS l r).2.k = p.k) := by show _ = _; rw [← HRV.out]; exact hky
                  have hkb : ((R.2.k : Int) == (p.k : Int)) = true := by simp; omega
                  clear hky
                  go_wp2_with fail
                  go_quiet (fail)
                  go_wp2_with fail
                  clear q0 q1 g0 hkb
                  generalize hgz : wz.drewN _ = wy
                  have hzy : Below wz.heap.size wz wy := by rw [← hgz]; exact below_drewN _ _
                  clear hgz
                  have HZY : Hid (Below wq.heap.size wq wy) := below_trans HZ.out hzy
                  have HRBY : Hid (RB wy rb R.2.k R.2.x) := HRB.out.below hzy (cell_lt HRB.out.c0)
                  have HJY : Hid (JB wy w.heap.size lv kind (.slice (some ⟨b, off, none⟩) recs.length cap) n) := HJZ.out.below hzy
                  have HVY : Hid (VB wy w0.heap.size (valAt l kind p.k (recs.take k))) := HVZ0.out.below hzy (cell_lt HVZ0.out.c0)
                  clear hzy HZ HRB HJZ HVZ0
                  obtain ⟨wz, hwz⟩ : ∃ wz, wz = wy := ⟨_, rfl⟩
                  subst hwz
                  have HZ : Hid (Below wq.heap.size wq wz) := HZY.out
                  obtain ⟨V, hV⟩ : ∃ V, V = valAt l kind p.k (recs.take k) := ⟨_, rfl⟩
                  have HVE : Hid (V = valAt l kind p.k (recs.take k)) := hV
                  have HVZ : Hid (VB wz w0.heap.size V) := by show VB _ _ _; rw [hV]; exact HVY.out
                  have HVO : Hid V.ok := by show V.ok; rw [hV]; exact valAt_ok (take_ok HRO.out k)
                  obtain ⟨O, hO⟩ : ∃ O, O = ofV kind R.2.x := ⟨_, rfl⟩
                  have HOE : Hid (O = ofV kind R.2.x) := hO
                  have HOO : Hid O.ok := by show O.ok; rw [hO]; exact ofV_ok kind HKO.out.2
                  obtain ⟨M, hM⟩ : ∃ M, M = mergeV kind V O := ⟨_, rfl⟩
                  have HME : Hid (M = mergeV kind V O) := hM
                  have HNE : Hid (VB wz w0.heap.size V ∧ w0.heap.size ≤ w0.heap.size) := ⟨HVZ.out, Nat.le_refl _⟩
                  have HSF : Hid (∀ wx, Below wz.heap.size wz wx → wx.cell? ⟨w.heap.size, 1, none⟩ = some (.int .i64 kind) ∧ wx.cell? ⟨rb, 1, none⟩ = some (.float .f64 R.2.x)) := fun wx h => ⟨(HJY.out.below h).c1, (HRBY.out.below h (cell_lt HRBY.out.c0)).c1⟩
                  have HSS : Hid (∀ wx, Below wz.heap.size wz wx → ((wx.setCell ⟨w0.heap.size, 0, none⟩ (.bool M.h)).setCell ⟨w0.heap.size, 1, none⟩ (.int .u64 M.b)).cell? ⟨w.heap.size, 1, none⟩ = some (.int .i64 kind) ∧ ((wx.setCell ⟨w0.heap.size, 0, none⟩ (.bool M.h)).setCell ⟨w0.heap.size, 1, none⟩ (.int .u64 M.b)).cell? ⟨rb, 1, none⟩ = some (.float .f64 R.2.x)) := fun wx h => by
                    obtain ⟨s0, s1⟩ := HSF.out wx h
                    have n1 : w.heap.size ≠ w0.heap.size := by have := cell_lt HJ0.out.c0; simp only at this; omega
                    have n2 : rb ≠ w0.heap.size := by have := cell_lt HVQ.out.c0; simp only at this; omega
                    have e0 : ∀ (p : Addr) (u : Value) (wy : World), p.block ≠ w0.heap.size → ∀ o, (wy.setCell ⟨w0.heap.size, o, none⟩ u).cell? p = wy.cell? p := fun p u wy hp o => World.cell?_of_block (w := wy) (Below.heap_setCell wy ⟨w0.heap.size, o, none⟩ u p.block hp)
                    exact ⟨by rw [e0 _ _ _ n1, e0 _ _ _ n1]; exact s0, by rw [e0 _ _ _ n2, e0 _ _ _ n2]; exact s1⟩
                  clear hV hO hM
                  refine wp_region_noPanic ?_
                  refine wp_region_held_drew (S := fun wx => wx.cell? ⟨w.heap.size, 1, none⟩ = some (.int .i64 kind) ∧ wx.cell? ⟨rb, 1, none⟩ = some (.float .f64 R.2.x)) (by kernel_rfl) ?_ (fun hHeld => ?_)
                  · exact HSF.out _ (below_drew _)
                  have hSd : Below wz.heap.size wz wz.drew := below_drew _
                  refine wpAnyH_take (i := 0) (oi := ⟨some 67, _, _, _, _, _⟩) (v := ?_) rfl (by kernel_rfl) (by kernel_rfl) (by kernel_rfl) (fun _ _ _ h => h) (Or.inl ⟨by rfl, ?_⟩) (by assumption) ?_
                  rotate_left
                  · intro w hSw; (try dsimp only at hSw); obtain ⟨s0, s1⟩ := hSw; go_simp; all_goals (with_reducible rfl)
                  try simp only [Act.put, List.setIfInBounds_toArray, List.set_cons_zero, List.set_cons_succ]
                  refine wpAnyH_take (i := 1) (oi := ⟨some 68, _, _, _, _, _⟩) (v := ?_) rfl (by kernel_rfl) (by kernel_rfl) (by kernel_rfl) (fun _ _ _ h => h) (Or.inl ⟨by rfl, ?_⟩) (by assumption) ?_
                  rotate_left
                  · intro w hSw; (try dsimp only at hSw); obtain ⟨s0, s1⟩ := hSw; go_simp; all_goals (with_reducible rfl)
                  try simp only [Act.put, List.setIfInBounds_toArray, List.set_cons_zero, List.set_cons_succ]
                  refine wpAnyH_take (i := 3) (oi := ⟨some 70, _, _, _, _, _⟩) (v := ?_) rfl (by kernel_rfl) (by kernel_rfl) (by kernel_rfl) (fun _ _ _ h => h) (Or.inl ⟨by rfl, ?_⟩) (by assumption) ?_
                  rotate_left
                  · intro w hSw; (try dsimp only at hSw); obtain ⟨s0, s1⟩ := hSw; go_simp; all_goals (with_reducible rfl)
                  try simp only [Act.put, List.setIfInBounds_toArray, List.set_cons_zero, List.set_cons_succ]
                  refine wpAnyH_take (i := 4) (oi := ⟨some 71, _, _, _, _, _⟩) (v := ?_) rfl (by kernel_rfl) (by kernel_rfl) (by kernel_rfl) (fun _ _ _ h => h) (Or.inl ⟨by rfl, ?_⟩) (by assumption) ?_
                  rotate_left
                  · intro w hSw; (try dsimp only at hSw); obtain ⟨s0, s1⟩ := hSw; go_simp; all_goals (with_reducible rfl)
                  try simp only [Act.put, List.setIfInBounds_toArray, List.set_cons_zero, List.set_cons_succ]
                  refine wpAnyH_take (i := 5) (oi := ⟨some 72, _, _, _, _, _⟩) (v := ?_) rfl (by kernel_rfl) (by kernel_rfl) (by kernel_rfl) (fun _ _ _ h => h) (Or.inl ⟨by rfl, ?_⟩) (by assumption) ?_
                  rotate_left
                  · intro w hSw; (try dsimp only at hSw); obtain ⟨s0, s1⟩ := hSw; go_simp; all_goals (with_reducible rfl)
                  try simp only [Act.put, List.setIfInBounds_toArray, List.set_cons_zero, List.set_cons_succ]
                  refine wpAnyH_take (i := 6) (oi := ⟨some 73, _, _, _, _, _⟩) (v := ?_) rfl (by kernel_rfl) (by kernel_rfl) (by kernel_rfl) (fun _ _ _ h => h) (Or.inl ⟨by rfl, ?_⟩) (by assumption) ?_
                  rotate_left
                  · intro w hSw; (try dsimp only at hSw); obtain ⟨s0, s1⟩ := hSw; go_simp; all_goals (with_reducible rfl)
                  try simp only [Act.put, List.setIfInBounds_toArray, List.set_cons_zero, List.set_cons_succ]
                  refine wpAnyH_ready (rs := [2, 7]) (by kernel_rfl) (by simp) ?_
                  refine AllReadyH.cons (o := ⟨some 69, _, _, _, _, _⟩) rfl (fun K hK => ?_) (AllReadyH.cons (o := ⟨some 74, _, _, _, _, _⟩) rfl (fun K hK => ?_) AllReadyH.nil)
                  · obtain ⟨v0, v1, _, _⟩ := HVZ.out.below hSd (cell_lt HVZ.out.c0)
                    go_simp
                    refine hK.out _ _ ?_ (fun hHeld => ?_)
                    · exact HSF.out _ hSd
                    clear hK K v0 v1
                    try simp only [Act.put, List.setIfInBounds_toArray, List.set_cons_zero, List.set_cons_succ]
                    refine wpAnyH_ready (rs := [7]) (by kernel_rfl) (by simp) ?_
                    refine AllReadyH.cons (o := ⟨some 74, _, _, _, _, _⟩) rfl (fun K hK => ?_) AllReadyH.nil
                    go_simp
                    refine (aof_walk kind HKO.out.2 _).mono ?_
                    rw [← HOE.out]
                    rintro e w101 ⟨rfl, hB101⟩
                    have hS101 : Below wz.heap.size wz w101 := below_trans hSd hB101
                    clear hB101
                    go_simp
                    refine hK.out _ _ ?_ (fun hHeld => ?_)
                    · exact HSF.out _ hS101
                    clear hK K
                    try simp only [Act.put, List.setIfInBounds_toArray, List.set_cons_zero, List.set_cons_succ]
                    refine wpAnyH_ready (rs := [8]) (by kernel_rfl) (by simp) ?_
                    refine AllReadyH.cons (o := ⟨some 75, _, _, _, _, _⟩) rfl (fun K hK => ?_) AllReadyH.nil
                    go_simp
                    refine (merge_walk kind HVO.out HOO.out _).mono ?_
                    rw [← HME.out]
                    rintro e w102 ⟨rfl, hB102⟩
                    have hS102 : Below wz.heap.size wz w102 := below_trans hS101 hB102
                    clear hB102
                    go_simp
                    refine hK.out _ _ ?_ (fun hHeld => ?_)
                    · exact HSF.out _ hS102
                    clear hK K
                    try simp only [Act.put, List.setIfInBounds_toArray, List.set_cons_zero, List.set_cons_succ]
                    refine wpAnyH_ready (rs := [9]) (by kernel_rfl) (by simp) ?_
                    refine AllReadyH.cons (o := ⟨none, _, _, _, _, _⟩) rfl (fun K hK => ?_) AllReadyH.nil
                    obtain ⟨v0, v1, z0, z1⟩ := HVZ.out.below hS102 (cell_lt HVZ.out.c0)
                    go_simp
                    refine hK.out _ _ ?_ (fun hHeld => ?_)
                    · exact HSS.out _ hS102
                    clear hK K v0 v1 z0 z1
                    try simp only [Act.put, List.setIfInBounds_toArray, List.set_cons_zero, List.set_cons_succ]
                    refine wpAnyH_done (by kernel_rfl) ?_ _
                    refine NoPanic.normal ?_
                    have R' := on_keep hk8 HE.out HFF.out HKEY.out HVE.out HOE.out HME.out HRV.out HWQ.out HZ.out hS102 HNE.out
                    go_wp2_with fail
                    go_roundw
                    case rel => exact R'
                    case measure => simp [intOf]; omega
                  · go_simp
                    refine (aof_walk kind HKO.out.2 _).mono ?_
                    rw [← HOE.out]
                    rintro e w103 ⟨rfl, hB103⟩
                    have hS103 : Below wz.heap.size wz w103 := below_trans hSd hB103
                    clear hB103
                    go_simp
                    refine hK.out _ _ ?_ (fun hHeld => ?_)
                    · exact HSF.out _ hS103
                    clear hK K
                    try simp only [Act.put, List.setIfInBounds_toArray, List.set_cons_zero, List.set_cons_succ]
                    refine wpAnyH_ready (rs := [2]) (by kernel_rfl) (by simp) ?_
                    refine AllReadyH.cons (o := ⟨some 69, _, _, _, _, _⟩) rfl (fun K hK => ?_) AllReadyH.nil
                    obtain ⟨v0, v1, _, _⟩ := HVZ.out.below hS103 (cell_lt HVZ.out.c0)
                    go_simp
                    refine hK.out _ _ ?_ (fun hHeld => ?_)
                    · exact HSF.out _ hS103
                    clear hK K v0 v1
                    try simp only [Act.put, List.setIfInBounds_toArray, List.set_cons_zero, List.set_cons_succ]
                    refine wpAnyH_ready (rs := [8]) (by kernel_rfl) (by simp) ?_
                    refine AllReadyH.cons (o := ⟨some 75, _, _, _, _, _⟩) rfl (fun K hK => ?_) AllReadyH.nil
                    go_simp
                    refine (merge_walk kind HVO.out HOO.out _).mono ?_
                    rw [← HME.out]
                    rintro e w104 ⟨rfl, hB104⟩
                    have hS104 : Below wz.heap.size wz w104 := below_trans hS103 hB104
                    clear hB104
                    go_simp
                    refine hK.out _ _ ?_ (fun hHeld => ?_)
                    · exact HSF.out _ hS104
                    clear hK K
                    try simp only [Act.put, List.setIfInBounds_toArray, List.set_cons_zero, List.set_cons_succ]
                    refine wpAnyH_ready (rs := [9]) (by kernel_rfl) (by simp) ?_
                    refine AllReadyH.cons (o := ⟨none, _, _, _, _, _⟩) rfl (fun K hK => ?_) AllReadyH.nil
                    obtain ⟨v0, v1, z0, z1⟩ := HVZ.out.below hS104 (cell_lt HVZ.out.c0)
                    go_simp
                    refine hK.out _ _ ?_ (fun hHeld => ?_)
                    · exact HSS.out _ hS104
                    clear hK K v0 v1 z0 z1
                    try simp only [Act.put, List.setIfInBounds_toArray, List.set_cons_zero, List.set_cons_succ]
                    refine wpAnyH_done (by kernel_rfl) ?_ _
                    refine NoPanic.normal ?_
                    have R' := on_keep hk8 HE.out HFF.out HKEY.out HVE.out HOE.out HME.out HRV.out HWQ.out HZ.out hS104 HNE.out
                    go_wp2_with fail
                    go_roundw
                    case rel => exact R'
                    case measure => simp [intOf]; omega
                · have hkb : ((R.2.k : Int) == (p.k : Int)) = false := by simp; omega
                  have R' : ∀ m, On w0 w0.heap.size l kind p.k recs (.int .i64 ((k : Int) + 1)) (wz.drewN m) := fun m => on_skip hk8 HE.out (Or.inr (by rw [← HRV.out]; exact hky)) HVQ.out HWQ.out (below_trans HZ.out (below_drewN _ _))
                  clear hky
                  go_wp2_with fail
                  go_quiet (fail)
                  go_wp2_with fail
                  go_roundw
                  case rel => exact R' _
                  case measure => simp [intOf]; omega
              · have hf1b : (R.1 == 1) = false := by simpa using hf1
                have R' : ∀ m, On w0 w0.heap.size l kind p.k recs (.int .i64 ((k : Int) + 1)) (wz.drewN m) := fun m => on_skip hk8 HE.out (Or.inl (by rw [← HRV.out]; exact hf1)) HVQ.out HWQ.out (below_trans HZ.out (below_drewN _ _))
                clear hf1
                go_wp2_with fail
                go_quiet (fail)
                go_wp2_with fail
                go_roundw
                case rel => exact R' _
                case measure => simp [intOf]; omega
          · have ek : k = recs.length := by omega
            have HVE : Hid (VB wq w0.heap.size p.v) := by
              have := HVQ.out
              rw [ek, List.take_length, valAt_all, HPV.out] at this
              exact this
            clear ek
            have HQQ : Hid (Ql wq (some ⟨g, 0, none⟩) (batchT l kind recs)) := HQ0.out.below HWQ.out
            obtain ⟨gb, goff, ge, g0, g1, g2⟩ := HQQ.out i hlt
            cases ge
            rw [Nat.zero_add, ← HP.out] at g0 g1 g2
            have HG0 : Hid (wq.cell? ⟨g, i * 3, none⟩ = some (.int .u64 p.k)) := g0
            have HG1 : Hid (wq.cell? ⟨g, i * 3 + 1, none⟩ = some (.bool p.v.h)) := g1
            have HG2 : Hid (wq.cell? ⟨g, i * 3 + 2, none⟩ = some (.int .u64 p.v.b)) := g2
            clear g0 g1 g2
            have k0 : ∀ wx, Below wq.heap.size wq wx → wx.cell? ⟨w0.heap.size, 0, none⟩ = some (.bool p.v.h) := fun wx h => (HVE.out.below h (cell_lt HVE.out.c0)).c0
            have k1 : ∀ wx, Below wq.heap.size wq wx → wx.cell? ⟨w0.heap.size, 1, none⟩ = some (.int .u64 p.v.b) := fun wx h => (HVE.out.below h (cell_lt HVE.out.c0)).c1
            have k2 : ∀ wx, Below wq.heap.size wq wx → wx.cell? ⟨g, i * 3, none⟩ = some (.int .u64 p.k) := fun wx h => by rw [h.cell (p := ⟨g, i * 3, none⟩) (cell_lt HG0.out)]; exact HG0.out
            have k3 : ∀ wx, Below wq.heap.size wq wx → wx.cell? ⟨g, i * 3 + 1, none⟩ = some (.bool p.v.h) := fun wx h => by rw [h.cell (p := ⟨g, i * 3 + 1, none⟩) (cell_lt HG1.out)]; exact HG1.out
            have k4 : ∀ wx, Below wq.heap.size wq wx → wx.cell? ⟨g, i * 3 + 2, none⟩ = some (.int .u64 p.v.b) := fun wx h => by rw [h.cell (p := ⟨g, i * 3 + 2, none⟩) (cell_lt HG2.out)]; exact HG2.out
            have hn1 := neq_val p.v
            obtain ⟨c0, c1, c2, c3⟩ := HJQ.out
            go_wp2_with fail
            clear c0 c1 c2 c3
            go_cut [93] (fun f wx => f = .bool false ∧ Below wq.heap.size wq wx)
            case first =>
              go_region_held3 (fun wx => Below wq.heap.size wq wx) (first | assumption | exact (Below.refl _ _).drew)
                ((go_at_call 11; refine (find_walk HLM.out (HQQ.out.below (by assumption)) p.k).mono ?_; rw [HPV.out]; rintro e w9 ⟨rfl, hB9⟩; have hS9 : Below wq.heap.size wq w9 := below_trans (by assumption) hB9))
              all_goals go_wp2_with fail
              all_goals go_meet
              all_goals exact ⟨rfl, by assumption⟩
            case rest =>
              obtain ⟨rfl, hBc⟩ := hcut
              have R2 : ∃ i' : Nat, i' ≤ (batchT l kind recs).length ∧ Value.int .i64 ((i : Int) + 1) = .int .i64 i' ∧ Below w3.heap.size w3 wc := ⟨i + 1, by omega, by simp, below_trans HB.out (below_trans HWQ.out hBc)⟩
              clear hBc k0 k1 k2 k3 k4 hn1
              go_wp2_with fail
              go_roundw
              case rel => exact R2
              case measure => simp [intOf]; omega
      · have hil : (i : Int) < ((batchT l kind recs).length : Int) := by omega
        go_wp2_with fail
        go_ret
        exact ⟨rfl, below_trans HB3.out HB.out⟩
    · have hil : ¬ ((i : Int) < ((batchT l kind recs).length : Int)) := by omega
      go_wp2_with fail
      go_ret
      exact ⟨rfl, below_trans HB3.out HB.out⟩

theorem foldone_walk {lv rv : Value} {l : List Stp} {recs : List Rcd} {kind n : Int} {w : World} (ho : Ov w lv l) (hr : Rv w rv recs) (hsz : recs.length * 16 ≤ 140737488351232) :
    Calls Try.prog 3 #[.agg #[lv, .int .i64 kind, rv, .int .i64 n]] w fun e w' => e = .returned (.bool true) ∧ Below w.heap.size w w' := by
  cases hb : checkB l && knownB kind
  · exact one_bad ho hb
  · rw [Bool.and_eq_true] at hb
    exact one_good ho hr hb.1 hb.2 hsz
end Go.Proofs.Ytfcpooihihklaab
