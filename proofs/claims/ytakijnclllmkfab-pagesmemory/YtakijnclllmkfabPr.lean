/- with: eight pages behind a list of writes. -/
import Derived.Test.YtakijnclllmkfabPq

namespace Go.Proofs.Ytakijnclllmkfab

open Go.RowKit



theorem Tx.fresh {A : Nat → Prop} {w : World} {v : Value} {ps : List (Int × List Nat)} (h : Tx A w v ps) : Tx (fun x => w.heap.size ≤ x) w v ps := by
  obtain ⟨⟨ao, cap, e, h1, h2, h3, h4⟩, h5⟩ := h
  refine ⟨⟨ao, cap, e, h1, h2, h3, fun i hi => ?_⟩, h5⟩
  obtain ⟨b, off, u, e1, hn, c0, c1, hv⟩ := h4 i hi
  exact ⟨b, off, u, e1, by have := cell_lt c0; simp only at this; omega, c0, c1, hv.1.bx⟩
theorem with_snoc {W : List (List Nat)} {ps : List (Int × List Nat)} {k : Nat} (hk : k < ps.length) : withL W (ps.take (k + 1)) = (withL W (ps.take k)).set ps[k].1.toNat ps[k].2 := by
  unfold withL
  rw [List.take_succ_eq_append_getElem hk, List.foldl_append]; rfl


/-- Where with's loop stands. -/
def WiRel (w : World) (W : List (List Nat)) (ps : List (Int × List Nat)) (iv : Value) (wr : World) : Prop :=
  ∃ k : Nat, k ≤ ps.length ∧ iv = .int .i64 k ∧ Wb8 wr w.heap.size (withL W (ps.take k)) ∧ wr.heap[w.heap.size + 1]? = some (.cells #[.string ⟨#[]⟩, .string ⟨#[]⟩, .string ⟨#[]⟩, .string ⟨#[]⟩, .string ⟨#[]⟩, .string ⟨#[]⟩, .string ⟨#[]⟩, .string ⟨#[]⟩] 29 (0, 0)) ∧ Below w.heap.size w wr


set_option maxRecDepth 100000 in
set_option maxHeartbeats 2000000 in
theorem with_walk {A : Nat → Prop} {w : World} {lv : Value} {W : List (List Nat)} {ps : List (Int × List Nat)} (hl : Tx A w lv ps) (hW : W.length = 8) (hp : ∀ q ∈ ps, 0 ≤ q.1 ∧ q.1 < 8) :
    Calls Try.prog 7 #[.agg (wa W), lv] w fun e w' => e = .returned (.agg (wa (withL W ps))) ∧ Below w.heap.size w w' := by
  have HL : Hid (Tx (fun x => w.heap.size ≤ x) w lv ps) := hl.fresh
  have HP : Hid (∀ q ∈ ps, 0 ≤ q.1 ∧ q.1 < 8) := hp
  obtain ⟨lo, lc, rfl, hl1, hl2⟩ := hl.form
  have hli : (ps.length : Int) ≤ 9223372036854775807 := by simp only [maxLen] at hl2; omega
  obtain ⟨Z, hZ⟩ : ∃ Z, Z = Obj.cells #[.string ⟨#[]⟩, .string ⟨#[]⟩, .string ⟨#[]⟩, .string ⟨#[]⟩, .string ⟨#[]⟩, .string ⟨#[]⟩, .string ⟨#[]⟩, .string ⟨#[]⟩] 29 := ⟨_, rfl⟩
  obtain ⟨w0, hw0⟩ : ∃ w0, w0 = (w.alloc (Obj.cells (wa W) 29)).alloc Z := ⟨_, rfl⟩
  have HW0 : Hid (w0 = (w.alloc (Obj.cells (wa W) 29)).alloc Z) := hw0
  have HST : Hid (WiRel w W ps (.int .i64 0) w0) := by
    refine ⟨0, Nat.zero_le _, rfl, ⟨?_, hW⟩, ?_, by rw [hw0]; exact below_trans (below_alloc _ _) (below_alloc _ _)⟩
    · rw [hw0, (below_alloc (w.alloc _) Z).block w.heap.size (by simp)]; exact heap_alloc_new w _
    · have e : w.heap.size + 1 = (w.alloc (Obj.cells (wa W) 29)).heap.size := by simp
      rw [hw0, e, heap_alloc_new, hZ]
  obtain ⟨a0, a1, a2, a3, a4, a5, a6, a7, hW8⟩ := eight hW
  have hwa : wa W = #[.string (str a0), .string (str a1), .string (str a2), .string (str a3), .string (str a4), .string (str a5), .string (str a6), .string (str a7)] := by rw [hW8]; rfl
  rw [hwa, hZ] at HW0
  rw [hwa]
  have HWL : Hid (∀ k, (withL W (ps.take k)).length = 8) := fun k => by rw [with_len]; exact hW
  clear hl hp hl1 hl2 hw0 hZ hW8 hwa hW
  go_enter Try.func7, Try.ntmps7
  go_wp2_with fail
  rw [← HW0.out]
  go_loopw [5] (fun iv wr => WiRel w W ps iv wr) (fun iv _ => ps.length - (intOf iv).toNat)
  case atStart => exact HST.out
  case round =>
    obtain ⟨k, hk, rfl, hWb, hrz, hB⟩ := hrel
    have HWB : Hid (Wb8 wr w.heap.size (withL W (ps.take k))) := hWb
    have HRZ : Hid (wr.heap[w.heap.size + 1]? = some (.cells #[.string ⟨#[]⟩, .string ⟨#[]⟩, .string ⟨#[]⟩, .string ⟨#[]⟩, .string ⟨#[]⟩, .string ⟨#[]⟩, .string ⟨#[]⟩, .string ⟨#[]⟩] 29 (0, 0))) := hrz
    have HB : Hid (Below w.heap.size w wr) := hB
    clear hWb hrz hB HST
    by_cases hlt : k < ps.length
    · have hTr : Tx (fun x => w.heap.size ≤ x) wr (.slice lo ps.length lc) ps := HL.out.ch (⟨HB.out.os, HB.out.tape, HB.out.output, HB.out.size, fun x hx hn => HB.out.block x (by omega)⟩) (fun x hx => .inl hx)
      obtain ⟨lb, off, u, rfl, hlb, l0, l1, hbx⟩ := hTr.at hlt
      obtain ⟨pz, hpz⟩ : ∃ pz, pz = ps[k].1 := ⟨_, rfl⟩
      obtain ⟨d, hd⟩ : ∃ d, d = ps[k].2 := ⟨_, rfl⟩
      have hpg := HP.out _ (List.getElem_mem hlt)
      have HSN : Hid (withL W (ps.take (k + 1)) = (withL W (ps.take k)).set pz.toNat d) := by rw [hpz, hd]; exact with_snoc hlt
      rw [← hpz] at l0 hpg
      rw [← hd] at hbx
      obtain ⟨q, rfl⟩ : ∃ q : Nat, pz = q := ⟨pz.toNat, by omega⟩
      have hq8 : q < 8 := by omega
      have hqi : (q : Int) < 8 := by omega
      rw [Int.toNat_natCast] at HSN
      obtain ⟨uo, uc, rfl, _, _⟩ := bv_form hbx.1
      have hlti : (k : Int) < (ps.length : Int) := by omega
      have hlb' : lb ≠ w.heap.size := by omega
      have j0 : ∀ wx, Ch (fun x => x = w.heap.size) wr wx → wx.cell? ⟨lb, off + k * 2, none⟩ = some (.int .i64 q) := fun wx hx => by rw [World.cell?_of_block (w := wr) (a := ⟨lb, off + k * 2, none⟩) (hx.block _ (cell_lt l0) hlb')]; exact l0
      have j1 : ∀ wx, Ch (fun x => x = w.heap.size) wr wx → wx.cell? ⟨lb, off + k * 2 + 1, none⟩ = some (.slice uo d.length uc) := fun wx hx => by rw [World.cell?_of_block (w := wr) (a := ⟨lb, off + k * 2 + 1, none⟩) (hx.block _ (cell_lt l1) hlb')]; exact l1
      have s1 : ∀ wx, Ch (fun x => x = w.heap.size) wr wx → (convert 31 9 (.slice uo d.length uc)).run Try.prog wx = .ok (.string (str d)) wx := fun wx hx => str_of ((hbx.mono (D' := fun x => x = w.heap.size) (fun x hx => by subst hx; exact Nat.le_refl _)).ch hx (D' := fun _ => False) (fun x hx => hx.elim)).1
      have hSd : Ch (fun x => x = w.heap.size) wr wr.drew := Ch.of_below (below_drewN _ _)
      have c1 := HWB.out.cell hq8
      obtain ⟨y, hy⟩ : ∃ y, y = str (bk (withL W (ps.take k)) q) := ⟨_, rfl⟩
      rw [← hy] at c1
      have f1 := HWB.out.soft q
      clear hpz hd hpg hbx hTr l0 l1 hlb hlb' hy
      go_wp2_with fail
      go_region_held3 (fun wx => Ch (fun x => x = w.heap.size) wr wx) (first | assumption | exact Ch.self (by assumption) (Ch.of_grown (grown_set _ _ _ _) (fun x hx => by cases hx; rfl))) (fail)
      all_goals go_wp2_with fail
      all_goals go_roundw
      case rel =>
        refine ⟨k + 1, hlt, by simp, by rw [HSN.out]; exact (HWB.out.set q d).below (below_drewN _ _), ?_, ?_⟩
        · show (wr.setCell ⟨w.heap.size, q, none⟩ (.string (str d))).drew.heap[w.heap.size + 1]? = _
          have : (wr.setCell ⟨w.heap.size, q, none⟩ (.string (str d))).drew.heap[w.heap.size + 1]? = (wr.setCell ⟨w.heap.size, q, none⟩ (.string (str d))).heap[w.heap.size + 1]? := rfl
          rw [this, set_other q _ (by omega)]; exact HRZ.out
        · exact below_trans (HB.out.setCell (p := ⟨w.heap.size, q, none⟩) (by simp) _) (below_drewN _ _)
      case measure => simp [intOf]; omega
    · have hlti : ¬ (k : Int) < (ps.length : Int) := by omega
      have HWE : Hid (withL W (ps.take k) = withL W ps) := by show _ = _; rw [List.take_of_length_le (by omega)]
      have hWb := HWB.out
      rw [HWE.out] at hWb
      obtain ⟨b0, b1, b2, b3, b4, b5, b6, b7, hV⟩ := eight (W := withL W ps) hWb.2
      have hwv : wa (withL W ps) = #[.string (str b0), .string (str b1), .string (str b2), .string (str b3), .string (str b4), .string (str b5), .string (str b6), .string (str b7)] := by rw [hV]; rfl
      have HWV : Hid (wa (withL W ps) = #[.string (str b0), .string (str b1), .string (str b2), .string (str b3), .string (str b4), .string (str b5), .string (str b6), .string (str b7)]) := hwv
      have hh := hWb.1
      rw [hwv] at hh
      have c0 : wr.cell? ⟨w.heap.size, 0, none⟩ = some (.string (str b0)) := by rw [cell_of_row wr _ 0 _ _ (0, 0) hh]; rfl
      have c1 : wr.cell? ⟨w.heap.size, 1, none⟩ = some (.string (str b1)) := by rw [cell_of_row wr _ 1 _ _ (0, 0) hh]; rfl
      have c2 : wr.cell? ⟨w.heap.size, 2, none⟩ = some (.string (str b2)) := by rw [cell_of_row wr _ 2 _ _ (0, 0) hh]; rfl
      have c3 : wr.cell? ⟨w.heap.size, 3, none⟩ = some (.string (str b3)) := by rw [cell_of_row wr _ 3 _ _ (0, 0) hh]; rfl
      have c4 : wr.cell? ⟨w.heap.size, 4, none⟩ = some (.string (str b4)) := by rw [cell_of_row wr _ 4 _ _ (0, 0) hh]; rfl
      have c5 : wr.cell? ⟨w.heap.size, 5, none⟩ = some (.string (str b5)) := by rw [cell_of_row wr _ 5 _ _ (0, 0) hh]; rfl
      have c6 : wr.cell? ⟨w.heap.size, 6, none⟩ = some (.string (str b6)) := by rw [cell_of_row wr _ 6 _ _ (0, 0) hh]; rfl
      have c7 : wr.cell? ⟨w.heap.size, 7, none⟩ = some (.string (str b7)) := by rw [cell_of_row wr _ 7 _ _ (0, 0) hh]; rfl
      have z : ∀ i u, (#[Value.string ⟨#[]⟩, .string ⟨#[]⟩, .string ⟨#[]⟩, .string ⟨#[]⟩, .string ⟨#[]⟩, .string ⟨#[]⟩, .string ⟨#[]⟩, .string ⟨#[]⟩] : Array Value)[i]? = some u → wr.cell? ⟨w.heap.size + 1, i, none⟩ = some u := fun i u hu => by rw [cell_of_row wr _ i _ _ (0, 0) HRZ.out]; exact hu
      have z0 := z 0 _ rfl
      have z1 := z 1 _ rfl
      have z2 := z 2 _ rfl
      have z3 := z 3 _ rfl
      have z4 := z 4 _ rfl
      have z5 := z 5 _ rfl
      have z6 := z 6 _ rfl
      have z7 := z 7 _ rfl
      have f : ∀ i, wr.frozen? ⟨w.heap.size + 1, i, none⟩ = false := fun i => by simp [World.frozen?, HRZ.out]
      have f0 := f 0
      have f1 := f 1
      have f2 := f 2
      have f3 := f 3
      have f4 := f 4
      have f5 := f 5
      have f6 := f 6
      have f7 := f 7
      clear hWb hV hwv hh z f
      go_wp2_with fail
      refine bodyPost_ret (v := .agg #[.string (str b0), .string (str b1), .string (str b2), .string (str b3), .string (str b4), .string (str b5), .string (str b6), .string (str b7)]) (by simp [results, Try.results7, go_sem, z0, z1, z2, z3, z4, z5, z6, z7]) rfl ?_
      refine ⟨by rw [HWV.out], ?_⟩
      have hs : ∀ (wx : World) (i : Nat) (u : Value), Below w.heap.size w wx → Below w.heap.size w (wx.setCell ⟨w.heap.size + 1, i, none⟩ u) := fun wx i u hx => hx.setCell (p := ⟨w.heap.size + 1, i, none⟩) (by simp) u
      exact hs _ _ _ (hs _ _ _ (hs _ _ _ (hs _ _ _ (hs _ _ _ (hs _ _ _ (hs _ _ _ (hs _ _ _ HB.out)))))))
end Go.Proofs.Ytakijnclllmkfab


