/- fit: a list in which each page stands once, and fits. -/
import Derived.Test.YtakijnclllmkfabPr

namespace Go.Proofs.Ytakijnclllmkfab

open Go.RowKit



def fitF : List (Int × List Nat) → List (Int × List Nat) → List (Int × List Nat)
  | done, [] => done
  | done, (p, d) :: l => if ((modN p 8 : Nat) : Int) ∈ done.map (·.1) then fitF done l else fitF (done ++ [(((modN p 8 : Nat) : Int), d.take 1024)]) l
def fitL (ps : List (Int × List Nat)) : List (Int × List Nat) := fitF [] (ps.take 64)
theorem fit_lok : ∀ (l done : List (Int × List Nat)), Lok 8 done → Lok 8 (fitF done l) := by
  intro l
  induction l with
  | nil => intro done h; exact h
  | cons a l ih =>
    obtain ⟨p, d⟩ := a
    intro done h
    unfold fitF
    split
    · exact ih done h
    · rename_i hn
      refine ih _ ⟨fun q hq => ?_, ?_, fun q hq => ?_⟩
      · rcases List.mem_append.1 hq with q1 | q1
        · exact h.pg q q1
        · simp at q1; subst q1
          have := mod_lt p (n := 8) (by omega)
          exact ⟨by show (0 : Int) ≤ (modN p 8 : Nat); omega, by show ((modN p 8 : Nat) : Int) < _; omega⟩
      · rw [List.map_append, List.nodup_append]
        exact ⟨h.nd, by simp, fun a ha b hb e => by simp at hb; subst hb; subst e; exact hn ha⟩
      · rcases List.mem_append.1 hq with q1 | q1
        · exact h.ln q q1
        · simp at q1; subst q1; show (d.take 1024).length ≤ 1024; rw [List.length_take]; omega
theorem fit_ok (ps : List (Int × List Nat)) : Lok 8 (fitL ps) := fit_lok _ [] ⟨fun q hq => by simp at hq, by simp, fun q hq => by simp at hq⟩
section

variable {ps done : List (Int × List Nat)} {k : Nat}

theorem fit_skip (hk : k < ps.length) (h : ((modN ps[k].1 8 : Nat) : Int) ∈ done.map (·.1)) : fitF done (ps.drop k) = fitF done (ps.drop (k + 1)) := by
  rw [List.drop_eq_getElem_cons hk]; conv => lhs; unfold fitF
  rw [if_pos h]
theorem fit_take (hk : k < ps.length) (h : ¬ ((modN ps[k].1 8 : Nat) : Int) ∈ done.map (·.1)) : fitF done (ps.drop k) = fitF (done ++ [(((modN ps[k].1 8 : Nat) : Int), ps[k].2.take 1024)]) (ps.drop (k + 1)) := by
  rw [List.drop_eq_getElem_cons hk]; conv => lhs; unfold fitF
  rw [if_neg h]
theorem fit_end (hk : ps.length ≤ k) : fitF done (ps.drop k) = done := by rw [List.drop_of_length_le hk]; rfl
end



theorem info_pw : (Try.prog.info? 33).map (fun i => (i.zero, i.size, i.bytes)) = some (some (.agg #[.int .i64 0, .slice none 0 0]), 2, 32) := by kernel_rfl
/-- Writes in a row, each with the value of its bytes. -/
abbrev Qw := Int × Value × List Nat
def flatQ (qs : List Qw) : List Value := qs.flatMap (fun q => [.int .i64 q.1, q.2.1])
def lsQ (qs : List Qw) : List (Int × List Nat) := qs.map (fun q => (q.1, q.2.2))
theorem flat_len (qs : List Qw) : (flatQ qs).length = qs.length * 2 := by
  induction qs with
  | nil => rfl
  | cons q l ih => show ([Value.int .i64 q.1, q.2.1] ++ flatQ l).length = _; rw [List.length_append, ih]; simp; omega
theorem flat_at (qs : List Qw) : ∀ (i : Nat) (h : i < qs.length), (flatQ qs)[i * 2]? = some (.int .i64 qs[i].1) ∧ (flatQ qs)[i * 2 + 1]? = some qs[i].2.1 := by
  induction qs with
  | nil => intro i h; simp at h
  | cons q l ih =>
    intro i h
    cases i with
    | zero => exact ⟨rfl, rfl⟩
    | succ i =>
      have := ih i (by simpa using h)
      rw [show (i + 1) * 2 = i * 2 + 1 + 1 by omega]
      exact ⟨this.1, this.2⟩
/-- The value v is a row of the call's own, from base on, of the writes qs, whose bytes lie below H. -/
def Ro (H base : Nat) (w : World) (v : Value) (qs : List Qw) : Prop := w.ownsRow base 33 2 v qs.length (flatQ qs) ∧ ∀ q ∈ qs, Bx (fun x => H ≤ x) w q.2.1 q.2.2 ∧ ∃ ao c, q.2.1 = .slice ao q.2.2.length c
theorem Ro.tx {H base : Nat} {w : World} {v : Value} {qs : List Qw} (h : Ro H base w v qs) (hr : ∀ q ∈ qs, -9223372036854775808 ≤ q.1 ∧ q.1 < 9223372036854775808) : Tx (fun x => H ≤ x ∧ x < base) w v (lsQ qs) := by
  obtain ⟨⟨h1, h2⟩, h3⟩ := h
  have hl : (lsQ qs).length = qs.length := by simp [lsQ]
  refine ⟨?_, fun p hp => by obtain ⟨q, hq, rfl⟩ := List.mem_map.1 hp; exact hr q hq⟩
  rcases h2 with ⟨rfl, h0⟩ | ⟨g, cap, cur, rfl, hb, hg, hnc, hcm, hcs, htake⟩
  · exact ⟨none, 0, by rw [hl, h0], by rw [hl, h0]; exact Nat.le_refl _, by simp [maxLen], fun _ => rfl, fun i hi => by rw [hl] at hi; omega⟩
  · refine ⟨_, cap, by rw [hl], by rw [hl]; exact hnc, hcm, by simp, fun i hi => ?_⟩
    rw [hl] at hi
    have hq : (lsQ qs)[i]'(by rw [hl]; exact hi) = (qs[i].1, qs[i].2.2) := by simp [lsQ]
    obtain ⟨f0, f1⟩ := flat_at qs i hi
    have hc : ∀ j u, j < qs.length * 2 → (flatQ qs)[j]? = some u → w.cell? ⟨g, 0 + j, none⟩ = some u := fun j u hj hu => by
      rw [Nat.zero_add, cell_of_row w g j cur _ (0, 0) hg, ← Array.getElem?_toList]
      have hh : (cur.toList.take (qs.length * 2))[j]? = (flatQ qs)[j]? := by rw [htake]
      rw [List.getElem?_take, if_pos hj] at hh
      rw [hh]; exact hu
    refine ⟨g, 0, qs[i].2.1, rfl, fun e => by have := e.2; omega, ?_, ?_, ?_⟩
    · rw [hq]; exact hc (i * 2) _ (by omega) f0
    · exact hc (i * 2 + 1) _ (by omega) f1
    · rw [hq]; exact (h3 qs[i] (List.getElem_mem hi)).1.mono (fun x hx => hx.1)
/-- The row of flags. -/
def Fg (w : World) (sb : Nat) (done : List (Int × List Nat)) : Prop := ∃ cur, w.heap[sb]? = some (.cells cur 48 (0, 0)) ∧ cur.size = 8 ∧ ∀ p : Nat, p < 8 → cur[p]? = some (.bool (decide ((p : Int) ∈ done.map (·.1))))
section

variable {w w' : World} {sb : Nat} {done : List (Int × List Nat)}

theorem Fg.lt (h : Fg w sb done) : sb < w.heap.size := by obtain ⟨cur, h1, _⟩ := h; exact (Array.getElem?_eq_some_iff.1 h1).1
theorem Fg.keep (h : Fg w sb done) (hk : w'.heap[sb]? = w.heap[sb]?) : Fg w' sb done := by
  obtain ⟨cur, h1, h2⟩ := h; exact ⟨cur, by rw [hk]; exact h1, h2⟩
theorem Fg.cell (h : Fg w sb done) {p : Nat} (hp : p < 8) : w.cell? ⟨sb, p, none⟩ = some (.bool (decide ((p : Int) ∈ done.map (·.1)))) := by
  obtain ⟨cur, h1, h2, h3⟩ := h
  rw [cell_of_row w sb p cur _ (0, 0) h1]; exact h3 p hp
theorem Fg.soft (h : Fg w sb done) (i : Nat) : w.frozen? ⟨sb, i, none⟩ = false := by obtain ⟨cur, h1, _⟩ := h; simp [World.frozen?, h1]
theorem Fg.set (h : Fg w sb done) {p : Nat} (hp : p < 8) (d : List Nat) : Fg (w.setCell ⟨sb, p, none⟩ (.bool true)) sb (done ++ [((p : Int), d)]) := by
  obtain ⟨cur, h1, h2, h3⟩ := h
  refine ⟨_, set_row h1 p _, by simpa using h2, fun q hq => ?_⟩
  rw [List.map_append, Array.getElem?_setIfInBounds]
  by_cases e : p = q
  · subst e
    rw [if_pos rfl, if_pos (by omega), decide_eq_true (by simp)]
  · rw [if_neg e, h3 q hq]
    congr 2
    simp only [List.mem_append, List.map_cons, List.map_nil, List.mem_singleton]
    exact decide_eq_decide.2 ⟨fun h => .inl h, fun h => by rcases h with h | h; exact h; omega⟩
end

/-- Where fit's loop stands. -/
def FiRel (H : Nat) (w : World) (ps : List (Int × List Nat)) (v iv : Value) (wr : World) : Prop :=
  ∃ (k : Nat) (qs : List Qw), k ≤ ps.length ∧ k ≤ 64 ∧ qs.length ≤ 8 ∧ iv = .int .i64 k ∧ Ro H w.heap.size wr v qs ∧ Fg wr w.heap.size (lsQ qs) ∧ (∀ x, v.ownBlock = some x → x ≠ w.heap.size) ∧ fitL ps = fitF (lsQ qs) ((ps.take 64).drop k) ∧ (∀ q ∈ qs, 0 ≤ q.1 ∧ q.1 < 8) ∧ (qs.map (·.1)).Nodup ∧ Below w.heap.size w wr
theorem qs_len {qs : List Qw} (h : ∀ q ∈ qs, 0 ≤ q.1 ∧ q.1 < 8) (hn : (qs.map (·.1)).Nodup) : qs.length ≤ 8 := by
  have := lok_len (n := 8) (ps := qs.map (fun q => (q.1, []))) ⟨fun p hp => by obtain ⟨q, hq, rfl⟩ := List.mem_map.1 hp; exact h q hq, by rw [List.map_map]; exact hn, fun p hp => by obtain ⟨q, hq, rfl⟩ := List.mem_map.1 hp; simp⟩
  simpa using this


theorem Ro.below {H base : Nat} {w w' : World} {v : Value} {qs : List Qw} (h : Ro H base w v qs) (hb : Below w.heap.size w w') : Ro H base w' v qs := ⟨own_below h.1 hb, fun q hq => ⟨(h.2 q hq).1.below hb, (h.2 q hq).2⟩⟩


theorem pw_new {w : World} {a b : Value} {t : TypeId} {j : Nat} {u : Value} (h : [a, b][j]? = some u) : (w.alloc (.cells #[a, b] t)).cell? ((⟨w.heap.size, 0, none⟩ : Addr).add j) = some u := by
  rw [WideShapes.add_plain, Nat.zero_add, cell_of_row _ w.heap.size j _ _ (0, 0) (heap_alloc_new w _)]
  simpa using h
theorem pw_one {p : Int} {ao : Option Addr} {n c : Nat} {u : Value} (h : u ∈ [Value.int .i64 p, .slice ao n c]) : u.oneCell' = true := by
  simp at h; rcases h with rfl | rfl <;> rfl
theorem flat_snoc (qs : List Qw) (q : Qw) : flatQ (qs ++ [q]) = flatQ qs ++ [.int .i64 q.1, q.2.1] := by unfold flatQ; rw [List.flatMap_append]; rfl
/-- A write more. -/
theorem fi_new {H : Nat} {w wb w1 : World} {ps : List (Int × List Nat)} {qs : List Qw} {k m uc : Nat} {d dd : List Nat} {uo : Option Addr} {v v' : Value} {o : Obj}
    (hf : fitL ps = fitF (lsQ qs ++ [((m : Int), dd.take 1024)]) ((ps.take 64).drop (k + 1))) (hFg : Fg wb w.heap.size (lsQ qs ++ [((m : Int), dd.take 1024)])) (hown : w1.ownsRow w.heap.size 33 2 v' (qs.length + 1) (flatQ qs ++ [.int .i64 m, .slice uo d.length uc])) (hg : (wb.alloc o).grownBy w1 v.ownBlock)
    (how : wb.ownsRow w.heap.size 33 2 v qs.length (flatQ qs)) (hD : ∀ q ∈ qs, Bx (fun x => H ≤ x) wb q.2.1 q.2.2 ∧ ∃ ao c, q.2.1 = .slice ao q.2.2.length c) (hN : Bx (fun x => H ≤ x) wb (.slice uo d.length uc) d) (hdd : dd.take 1024 = d) (hB : Below w.heap.size w wb) (hs : w.heap.size < wb.heap.size)
    (hv : ∀ x, v.ownBlock = some x → x ≠ w.heap.size) (hqr : ∀ q ∈ qs, 0 ≤ q.1 ∧ q.1 < 8) (hqn : (qs.map (·.1)).Nodup) (hns : (m : Int) ∉ qs.map (·.1)) (hm : m < 8) (hk : k < ps.length) (h64 : k < 64) (hH : H ≤ w.heap.size) :
    FiRel H w ps v' (.int .i64 ((k : Int) + 1)) w1 := by
  rw [hdd] at hf hFg
  have hls : lsQ (qs ++ [((m : Int), .slice uo d.length uc, d)]) = lsQ qs ++ [((m : Int), d)] := by unfold lsQ; rw [List.map_append]; rfl
  have hqr' : ∀ q ∈ qs ++ [((m : Int), (Value.slice uo d.length uc), d)], 0 ≤ q.1 ∧ q.1 < 8 := fun q hq => by
    rcases List.mem_append.1 hq with q1 | q1
    · exact hqr q q1
    · simp at q1; subst q1; exact ⟨by show (0 : Int) ≤ m; omega, by show (m : Int) < 8; omega⟩
  have hqn' : ((qs ++ [((m : Int), (Value.slice uo d.length uc), d)]).map (·.1)).Nodup := by
    rw [List.map_append, List.nodup_append]
    exact ⟨hqn, by simp, fun a ha b hb e => by simp at hb; subst hb; subst e; exact hns ha⟩
  have hkp : ∀ x, x < wb.heap.size → v.ownBlock ≠ some x → w1.heap[x]? = wb.heap[x]? := fun x hx hn => by
    rw [hg.block x (by simp; omega) (fun e => hn e.symm), (below_alloc wb o).block x hx]
  have hbx : ∀ u b, Bx (fun x => H ≤ x) wb u b → Bx (fun x => H ≤ x) w1 u b := fun u b hu => by
    by_cases hb : b = []
    · subst hb; exact ⟨hu.1.any, .inl rfl⟩
    · have hq := hu.2.resolve_left hb
      refine ⟨hu.1.keep (fun x hx => hkp x (hu.1.lt hb hx) (fun e => hq x hx ?_)), .inr hq⟩
      have := (how.lt x e).1
      omega
  refine ⟨k + 1, qs ++ [((m : Int), .slice uo d.length uc, d)], hk, by omega, qs_len hqr' hqn', by simp, ⟨?_, fun q hq => ?_⟩, ?_, fun x hx e => ?_, by rw [hls]; exact hf, hqr', hqn', ?_⟩
  · rw [flat_snoc, List.length_append]; exact hown
  · rcases List.mem_append.1 hq with q1 | q1
    · exact ⟨hbx _ _ (hD q q1).1, (hD q q1).2⟩
    · simp at q1; subst q1; exact ⟨hbx _ _ hN, uo, uc, rfl⟩
  · rw [hls]; exact hFg.keep (hkp _ hs (fun e => hv _ e rfl))
  · subst e
    have h1 : w1.heap[w.heap.size]? = wb.heap[w.heap.size]? := hkp _ hs (fun e => hv _ e rfl)
    obtain ⟨cur, c1, _⟩ := hFg
    rcases hown.2 with ⟨h2, _⟩ | ⟨g, cap, cur2, h2, hb2, hg2, _⟩
    · rw [h2] at hx; cases hx
    · rw [h2] at hx
      simp [Value.ownBlock] at hx
      subst hx
      rw [h1, c1] at hg2
      simp at hg2
  · exact (below_trans hB (below_alloc wb o)).grown hg (by simp; omega) (fun x hx => (how.lt x hx).1)


set_option maxRecDepth 100000 in
set_option maxHeartbeats 2000000 in
theorem fit_walk {H : Nat} {w : World} {lv : Value} {ps : List (Int × List Nat)} (hl : Tx (fun x => H ≤ x) w lv ps) (hH : H ≤ w.heap.size) :
    Calls Try.prog 6 #[lv] w fun e w' => ∃ ao cap, e = .returned (.slice ao (fitL ps).length cap) ∧ Tx (fun x => H ≤ x ∧ x < w.heap.size) w' (.slice ao (fitL ps).length cap) (fitL ps) ∧ Below w.heap.size w w' := by
  have HL : Hid (Tx (fun x => H ≤ x) w lv ps) := hl
  have HH : Hid (H ≤ w.heap.size) := hH
  obtain ⟨lo, lc, rfl, hl1, hl2⟩ := hl.form
  have hli : (ps.length : Int) ≤ 9223372036854775807 := by simp only [maxLen] at hl2; omega
  have HST : Hid (FiRel H w ps (.slice none 0 0) (.int .i64 0) (w.alloc (Obj.cells #[.bool false, .bool false, .bool false, .bool false, .bool false, .bool false, .bool false, .bool false] 48))) := by
    refine ⟨0, [], Nat.zero_le _, Nat.zero_le _, Nat.zero_le _, rfl, ⟨World.ownsRow_nil _ _ _ _, fun q hq => by simp at hq⟩, ⟨_, heap_alloc_new w _, rfl, fun p hp => ?_⟩, fun x hx => (by cases hx), rfl, fun q hq => by simp at hq, by simp, below_alloc _ _⟩
    have : p = 0 ∨ p = 1 ∨ p = 2 ∨ p = 3 ∨ p = 4 ∨ p = 5 ∨ p = 6 ∨ p = 7 := by omega
    rcases this with rfl | rfl | rfl | rfl | rfl | rfl | rfl | rfl <;> rfl
  obtain ⟨i0, hi0, hz0, hz1, hz2⟩ := info_partsV info_pw
  have HI0 : Hid (Try.prog.info? 33 = some i0 ∧ i0.zero = some (.agg #[.int .i64 0, .slice none 0 0]) ∧ i0.size = 2 ∧ i0.bytes = 32) := ⟨hi0, hz0, hz1, hz2⟩
  clear hl hH hl1 hl2 hi0 hz0 hz1 hz2
  go_enter Try.func6, Try.ntmps6
  go_wp2_with fail
  go_loopw [3, 5] (fun v iv wr => FiRel H w ps v iv wr) (fun _ iv _ => ps.length - (intOf iv).toNat)
  case atStart => exact HST.out
  case round =>
    obtain ⟨k, qs, hk, hk64, hq8, rfl, hRo, hFg, hvn, hfit, hqr, hqn, hB⟩ := hrel
    have HRO : Hid (Ro H w.heap.size wr u3 qs) := hRo
    have HFG : Hid (Fg wr w.heap.size (lsQ qs)) := hFg
    have HVN : Hid (∀ x, u3.ownBlock = some x → x ≠ w.heap.size) := hvn
    have HFIT : Hid (fitL ps = fitF (lsQ qs) ((ps.take 64).drop k)) := hfit
    have HQR : Hid (∀ q ∈ qs, 0 ≤ q.1 ∧ q.1 < 8) := hqr
    have HQN : Hid ((qs.map (·.1)).Nodup) := hqn
    have HB : Hid (Below w.heap.size w wr) := hB
    have HQ8 : Hid (qs.length ≤ 8) := hq8
    clear hRo hFg hvn hfit hqr hqn hB HST hq8
    by_cases hgo : k < ps.length ∧ k < 64
    · obtain ⟨hlt, h64⟩ := hgo
      have hltt : k < (ps.take 64).length := by rw [List.length_take]; omega
      have hgt : (ps.take 64)[k] = ps[k] := by simp
      have hTr : Tx (fun x => H ≤ x) wr (.slice lo ps.length lc) ps := HL.out.ch (⟨HB.out.os, HB.out.tape, HB.out.output, HB.out.size, fun x hx hn => HB.out.block x hx⟩) (fun x hx => .inl hx)
      obtain ⟨lb, off, u, rfl, hlb, l0, l1, hbx⟩ := hTr.at hlt
      obtain ⟨I, hI⟩ : ∃ I, I = ps[k].1 := ⟨_, rfl⟩
      obtain ⟨d, hd⟩ : ∃ d, d = ps[k].2 := ⟨_, rfl⟩
      have HID : Hid ((ps.take 64)[k].1 = I ∧ (ps.take 64)[k].2 = d) := by rw [hgt]; exact ⟨hI.symm, hd.symm⟩
      rw [← hI] at l0
      rw [← hd] at hbx
      have HBX : Hid (Bx (fun x => H ≤ x) wr u d) := hbx
      obtain ⟨uo, uc, rfl, huc, hum⟩ := bv_form hbx.1
      have hm1 : modN I 8 < 8 := mod_lt I (by omega)
      have hm2 : (IntKind.u64.wrap I).tmod 8 = (modN I 8 : Int) := mod_eq I (n := 8)
      obtain ⟨m, hm⟩ : ∃ m, m = modN I 8 := ⟨_, rfl⟩
      rw [← hm] at hm1 hm2
      have HM : Hid (m = modN I 8) := hm
      have hmi : (m : Int) < 8 := by omega
      have hmw : IntKind.i64.wrap (m : Int) = (m : Int) := wrapU (by omega) (by omega)
      have hlti : (k : Int) < (ps.length : Int) := by omega
      have h64i : (k : Int) < 64 := by omega
      have huci : (d.length : Int) ≤ (uc : Int) := by omega
      clear hI hd hbx hTr hlb hm hgt hum
      by_cases hseen : (m : Int) ∈ (lsQ qs).map (·.1)
      · have HS : Hid (fitL ps = fitF (lsQ qs) ((ps.take 64).drop (k + 1))) := by
          show _ = _
          rw [HFIT.out, fit_skip hltt (by rw [HID.out.1, ← HM.out]; exact hseen)]
        have c1 : wr.cell? ⟨w.heap.size, m, none⟩ = some (.bool true) := by rw [HFG.out.cell hm1, decide_eq_true hseen]
        clear hseen
        by_cases hdl : d.length ≤ 1024
        · have hdi : (d.length : Int) ≤ 1024 := by omega
          have hdd : decide ((1024 : Int) < (d.length : Int)) = false := decide_eq_false (by omega)
          clear hdl
          go_wp2_with fail
          go_roundw
          case rel => exact ⟨k + 1, qs, hlt, by omega, HQ8.out, by simp, HRO.out, HFG.out, HVN.out, HS.out, HQR.out, HQN.out, HB.out⟩
          case measure => simp [intOf]; omega
        · have hdi : (1024 : Int) < (d.length : Int) := by omega
          have huc2 : (1024 : Int) ≤ (uc : Int) := by omega
          clear hdl
          go_wp2_with fail
          go_roundw
          case rel => exact ⟨k + 1, qs, hlt, by omega, HQ8.out, by simp, HRO.out, HFG.out, HVN.out, HS.out, HQR.out, HQN.out, HB.out⟩
          case measure => simp [intOf]; omega
      · have HNS : Hid ((m : Int) ∉ qs.map (·.1)) := by
          intro e
          refine hseen ?_
          obtain ⟨q, hq, e2⟩ := List.mem_map.1 e
          exact List.mem_map.2 ⟨(q.1, q.2.2), List.mem_map.2 ⟨q, hq, rfl⟩, e2⟩
        have HS : Hid (fitL ps = fitF (lsQ qs ++ [((m : Int), d.take 1024)]) ((ps.take 64).drop (k + 1))) := by
          show _ = _
          rw [HFIT.out, fit_take hltt (by rw [HID.out.1, ← HM.out]; exact hseen), HID.out.1, HID.out.2, ← HM.out]
        have c1 : wr.cell? ⟨w.heap.size, m, none⟩ = some (.bool false) := by rw [HFG.out.cell hm1, decide_eq_false hseen]
        have f1 := HFG.out.soft m
        obtain ⟨wb, hwb⟩ : ∃ wb, wb = wr.setCell ⟨w.heap.size, m, none⟩ (.bool true) := ⟨_, rfl⟩
        have HWB : Hid (wb = wr.setCell ⟨w.heap.size, m, none⟩ (.bool true)) := hwb
        have HSW : Hid (wb.heap.size = wr.heap.size) := by show _ = _; rw [hwb]; simp
        have HBB : Hid (Below w.heap.size w wb) := by show Below _ _ _; rw [hwb]; exact HB.out.setCell (p := ⟨w.heap.size, m, none⟩) (by simp) _
        have HFB : Hid (Fg wb w.heap.size (lsQ qs ++ [((m : Int), d.take 1024)])) := by show Fg _ _ _; rw [hwb]; exact HFG.out.set hm1 _
        have hke : ∀ x, x ≠ w.heap.size → wb.heap[x]? = wr.heap[x]? := fun x hx => by rw [hwb]; exact set_other m _ hx
        have HOW : Hid (wb.ownsRow w.heap.size 33 2 u3 qs.length (flatQ qs)) := row_keep HRO.out.1 (fun x hx => hke x (HVN.out x hx))
        have hch : Ch (fun x => x = w.heap.size) wr wb := ⟨by rw [hwb]; rfl, by rw [hwb]; rfl, by rw [hwb]; rfl, by rw [hwb]; simp, fun x _ hn => hke x hn⟩
        have HDB : Hid (∀ q ∈ qs, Bx (fun x => H ≤ x) wb q.2.1 q.2.2 ∧ ∃ ao c, q.2.1 = .slice ao q.2.2.length c) := fun q hq => by
          obtain ⟨a, b⟩ := HRO.out.2 q hq
          refine ⟨⟨((a.mono (D' := fun x => x = w.heap.size) (fun x hx => by subst hx; exact HH.out)).ch hch (D' := fun _ => False) (fun x hx => hx.elim)).1, a.2⟩, b⟩
        have HNB : Hid (Bx (fun x => H ≤ x) wb (.slice uo d.length uc) d) := ⟨((HBX.out.mono (D' := fun x => x = w.heap.size) (fun x hx => by subst hx; exact HH.out)).ch hch (D' := fun _ => False) (fun x hx => hx.elim)).1, HBX.out.2⟩
        have HBS : Hid (w.heap.size ≤ wb.heap.size ∧ w.heap.size < wb.heap.size) := by have := HFB.out.lt; exact ⟨by omega, this⟩
        clear hseen hwb hke hch
        by_cases hdl : d.length ≤ 1024
        · have hdi : (d.length : Int) ≤ 1024 := by omega
          have hdd : decide ((1024 : Int) < (d.length : Int)) = false := decide_eq_false (by omega)
          have HDD : Hid (d.take 1024 = d) := List.take_of_length_le hdl
          clear hdl
          go_wp2_with (at_builtin; rw [← HWB.out]; refine wpList_append_own _ (by rfl) (.tmp 42) (.tmp 46) 22 (by rfl) w.heap.size 33 i0 (.agg #[.int .i64 0, .slice none 0 0]) 2 32 Try.underlying22 HI0.out.1 HI0.out.2.1 HI0.out.2.2.1 HI0.out.2.2.2 (by rfl) (by decide) _ _ _ (by rfl) (HOW.out.alloc _) ⟨wr.heap.size, 0, none⟩ 1 1 [.int .i64 m, .slice uo d.length uc] (by rfl) (by rfl) (fun j u hj => by rw [← HSW.out]; exact pw_new hj) (fun u hu => pw_one hu) (by have := HQ8.out; simp [maxLen]; omega) (by have := HQ8.out; omega) (by have := HBS.out.1; simp; omega) ?_; intro v' w1 hown' hgrow hnil)
          have R := fi_new HS.out HFB.out hown' hgrow HOW.out HDB.out HNB.out HDD.out HBB.out HBS.out.2 HVN.out HQR.out HQN.out HNS.out hm1 hlt h64 HH.out
          clear hown' hgrow hnil
          go_wp2_with fail
          go_roundw
          case rel => exact R
          case measure => simp [intOf]; omega
        · have hdi : (1024 : Int) < (d.length : Int) := by omega
          have huc2 : (1024 : Int) ≤ (uc : Int) := by omega
          have hdl2 : 1024 ≤ d.length := by omega
          have HNC : Hid (Bx (fun x => H ≤ x) wb (.slice uo (d.take 1024).length uc) (d.take 1024)) := by
            have e : (d.take 1024).length = 1024 := by rw [List.length_take]; omega
            show Bx _ _ _ _
            rw [e]
            refine ⟨cut_bv HNB.out.1 hdl2, ?_⟩
            rcases HNB.out.2 with q | q
            · rw [q] at hdl2; simp at hdl2
            · exact .inr (fun x hx => q x (by cases uo <;> exact hx))
          have HDL : Hid ((d.take 1024).length = 1024) := by show _ = _; rw [List.length_take]; omega
          clear hdl hdl2
          go_wp2_with (at_builtin; rw [← HWB.out]; refine wpList_append_own _ (by rfl) (.tmp 42) (.tmp 46) 22 (by rfl) w.heap.size 33 i0 (.agg #[.int .i64 0, .slice none 0 0]) 2 32 Try.underlying22 HI0.out.1 HI0.out.2.1 HI0.out.2.2.1 HI0.out.2.2.2 (by rfl) (by decide) _ _ _ (by rfl) (HOW.out.alloc _) ⟨wr.heap.size, 0, none⟩ 1 1 [.int .i64 m, .slice uo 1024 uc] (by rfl) (by rfl) (fun j u hj => by rw [← HSW.out]; exact pw_new hj) (fun u hu => pw_one hu) (by have := HQ8.out; simp [maxLen]; omega) (by have := HQ8.out; omega) (by have := HBS.out.1; simp; omega) ?_; intro v' w1 hown' hgrow hnil)
          have R := fi_new HS.out HFB.out (by rw [HDL.out]; exact hown') hgrow HOW.out HDB.out HNC.out rfl HBB.out HBS.out.2 HVN.out HQR.out HQN.out HNS.out hm1 hlt h64 HH.out
          clear hown' hgrow hnil
          go_wp2_with fail
          go_roundw
          case rel => exact R
          case measure => simp [intOf]; omega
    · have HEND : Hid (fitL ps = lsQ qs) := by
        show _ = _
        rw [HFIT.out, fit_end (by rw [List.length_take]; omega)]
      have HGO : Hid (¬ (k < ps.length ∧ k < 64)) := hgo
      have HT : Hid (Tx (fun x => H ≤ x ∧ x < w.heap.size) wr u3 (fitL ps)) := by
        show Tx _ _ _ _
        rw [HEND.out]
        exact HRO.out.tx (fun q hq => by have := HQR.out q hq; omega)
      clear hgo
      by_cases hlt : k < ps.length
      · have h4d : decide ((k : Int) < 64) = false := decide_eq_false (by have := HGO.out; omega)
        have h4 : (64 : Int) ≤ (k : Int) := by have := HGO.out; omega
        go_wp2_with fail
        go_ret
        obtain ⟨ao, cap, e, _, _⟩ := HT.out.form
        exact ⟨ao, cap, by rw [← e]; rfl, by rw [← e]; exact HT.out, HB.out⟩
      · have h4 : (ps.length : Int) ≤ (k : Int) := by omega
        go_wp2_with fail
        go_ret
        obtain ⟨ao, cap, e, _, _⟩ := HT.out.form
        exact ⟨ao, cap, by rw [← e]; rfl, by rw [← e]; exact HT.out, HB.out⟩
end Go.Proofs.Ytakijnclllmkfab


