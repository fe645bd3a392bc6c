/- The walk of FoldOrder. -/
import Derived.Test.YtfcpooihihklaaaKr
import Derived.Test.YtfcpooihihklaaaH4
namespace Go.Proofs.Ytfcpooihihklaaa
open Ieee Go.RowKit
attribute [local go_sem] run_store_float

def roundL (recs : List Rcd) (k : Nat) : List Rcd := recs.drop k ++ recs.take k
theorem round_perm (recs : List Rcd) (k : Nat) : recs.Perm (roundL recs k) := by
  unfold roundL
  have := List.perm_append_comm (l₁ := recs.take k) (l₂ := recs.drop k)
  rwa [List.take_append_drop] at this
theorem round_len (recs : List Rcd) (k : Nat) : (roundL recs k).length = recs.length := (round_perm recs k).length_eq.symm
theorem round_at {recs : List Rcd} {k i : Nat} (hk : k ≤ recs.length) (hi : i < recs.length) : (roundL recs k)[i]'(by rw [round_len]; exact hi) = recs[(k + i) % recs.length]'(Nat.mod_lt _ (by omega)) := by
  unfold roundL
  rcases Nat.lt_or_ge (k + i) recs.length with h | h
  · rw [List.getElem_append_left (by simp; omega), List.getElem_drop]
    congr 1
    rw [Nat.mod_eq_of_lt h]
  · have e : (k + i) % recs.length = k + i - recs.length := by
      rw [Nat.mod_eq_sub_mod h, Nat.mod_eq_of_lt (by omega)]
    rw [List.getElem_append_right (by simp; omega), List.getElem_take]
    congr 1
    simp
    omega

theorem trap_perm {l : List Stp} {a b : List Rcd} (h : a.Perm b) : trapN l a = trapN l b := h.countP_eq _

theorem below_drew (w : World) : Below w.heap.size w w.drew := (Below.refl _ _).drew

/-- Where the loop of FoldOrder stands. -/
def Od (w : World) (g1 g2 : Nat) (lv rv : Value) (kind n : Int) (recs : List Rcd) (k : Nat) (tv uv iv : Value) (wr : World) : Prop :=
  ∃ i : Nat, i ≤ recs.length ∧ iv = .int .i64 i ∧ tv = .slice (some ⟨g1, 0, none⟩) i recs.length ∧ uv = .slice (some ⟨g2, 0, none⟩) i recs.length ∧
    wr.ownsRow g1 52 2 (.slice (some ⟨g1, 0, none⟩) i recs.length) i (flatR (recs.reverse.take i)) ∧ wr.ownsRow g2 52 2 (.slice (some ⟨g2, 0, none⟩) i recs.length) i (flatR ((roundL recs k).take i)) ∧
    JB wr w.heap.size lv kind rv n ∧ Below w.heap.size w wr

theorem JB.grown {w w' : World} {b m : Nat} {lv rv : Value} {kind n : Int} (h : JB w b lv kind rv n) (hg : w.grownBy w' (some m)) (hne : b ≠ m) : JB w' b lv kind rv n := by
  have hb := hg.block b (cell_lt h.c0) (by simpa using hne)
  exact ⟨by rw [World.cell?_of_block (w := w) hb]; exact h.c0, by rw [World.cell?_of_block (w := w) hb]; exact h.c1, by rw [World.cell?_of_block (w := w) hb]; exact h.c2, by rw [World.cell?_of_block (w := w) hb]; exact h.c3⟩
theorem cell_grown {w w' : World} {m : Nat} {p : Addr} {u : Value} (h : w.cell? p = some u) (hg : w.grownBy w' (some m)) (hne : p.block ≠ m) : w'.cell? p = some u := by
  rw [World.cell?_of_block (w := w) (hg.block p.block (cell_lt h) (by simpa using hne))]; exact h

theorem od_step {w wr w6 w8 : World} {g1 g2 i : Nat} {lv rv : Value} {kind n : Int} {recs : List Rcd} {k : Nat} {r1 r2 : Rcd} {o6 o8 : Obj} (hi : i < recs.length) (hk : k ≤ recs.length) (hr1 : r1 = recs[recs.length - 1 - i]) (hr2 : r2 = recs[(k + i) % recs.length]'(Nat.mod_lt _ (by omega)))
    (h1 : w6.ownsRow g1 52 2 (.slice (some ⟨g1, 0, none⟩) (i + 1) recs.length) (i + 1) (flatR (recs.reverse.take i ++ [r1]))) (hg6 : (wr.alloc o6).grownBy w6 (some g1))
    (h2 : w8.ownsRow g2 52 2 (.slice (some ⟨g2, 0, none⟩) (i + 1) recs.length) (i + 1) (flatR ((roundL recs k).take i ++ [r2]))) (hg8 : (w6.drew.alloc o8).grownBy w8 (some g2))
    (hJ : JB wr w.heap.size lv kind rv n) (hB : Below w.heap.size w wr) (hg1 : w.heap.size < g1) (hg2 : g1 < g2) :
    Od w g1 g2 lv rv kind n recs k (.slice (some ⟨g1, 0, none⟩) (i + 1) recs.length) (.slice (some ⟨g2, 0, none⟩) (i + 1) recs.length) (.int .i64 ((i : Int) + 1)) w8 := by
  have e1 : recs.reverse.take (i + 1) = recs.reverse.take i ++ [r1] := by
    rw [List.take_succ_eq_append_getElem (by simpa using hi), hr1, List.getElem_reverse]
  have e2 : (roundL recs k).take (i + 1) = (roundL recs k).take i ++ [r2] := by
    rw [List.take_succ_eq_append_getElem (by rw [round_len]; exact hi), round_at hk hi, hr2]
  have hb6 : Below w.heap.size w w6 := (below_trans hB (below_alloc wr o6)).grown hg6 (Nat.le_trans hB.size (by simp)) (by simp; omega)
  have hb8 : Below w.heap.size w w8 := (below_trans (below_trans hb6 (below_drew _)) (below_alloc _ o8)).grown hg8 (Nat.le_trans hb6.size (by simp)) (by simp; omega)
  have hj6 : JB w6 w.heap.size lv kind rv n := (hJ.below (below_alloc wr o6)).grown hg6 (by omega)
  have hj8 : JB w8 w.heap.size lv kind rv n := ((hj6.below (below_drew _)).below (below_alloc _ o8)).grown hg8 (by omega)
  refine ⟨i + 1, hi, by simp, rfl, rfl, ?_, by rw [e2]; exact h2, hj8, hb8⟩
  rw [e1]
  exact (h1.drew.alloc o8).kept hg8 (Or.inr (by simp [Value.ownBlock]; omega))

theorem wp_of_run {P : Program} {o : Oper} {a : Act} {w w' : World} {K : Act → World → Prop} {Q : Exit → Act → World → Prop} (s x : Operand) (t : TypeId) (ho : o.op = .call { callee := .builtin .append, args := #[s, x], argTypes := #[t, t] })
    (v1 v2 : Value) {v' : Value} (hs : a.eval s = v1) (hx : a.eval x = v2) (hr : (Builtin.append_ #[t, t] o.type #[v1, v2]).run P w = .ok v' w') (h : K (a.put o.dst v') w') : o.wp P a w K Q := by
  unfold Oper.wp execOp
  simp only [ho, resolve, invoke, builtin, Sem.run_bind, Sem.run_pure, Result.andThen_ok, List.map_toArray, List.map_cons, List.map_nil, hs, hx, hr]
  exact h

theorem perm_table {l : List Stp} {kind : Int} (hk : knownB kind = true) {a b : List Rcd} (h : a.Perm b) (ho : ∀ r ∈ a, r.ok) : batchT l kind b = batchT l kind a := (batch_perm hk h (kept_ok ho)).symm

set_option maxRecDepth 100000 in
set_option maxHeartbeats 4000000 in
theorem order_bad {lv rv : Value} {l : List Stp} {kind n : Int} {w : World} (ho : Ov w lv l) (hb : (checkB l && knownB kind) = false) :
    Calls Try.prog 6 #[.agg #[lv, .int .i64 kind, rv, .int .i64 n]] w fun e w' => e = .returned (.bool true) ∧ Below w.heap.size w w' := by
  have HO : Hid (Ov w lv l) := ho
  have HBD : Hid ((checkB l && knownB kind) = false) := hb
  clear ho hb
  have J0 := jb_new w lv rv kind n 43
  go_enter Try.func6, Try.ntmps6
  go_wp2_with fail
  refine (awake_walk _).mono ?_
  rintro e w1 ⟨rfl, hB1⟩
  have HB1 : Hid (Below w.heap.size w w1) := below_trans (below_alloc _ _) hB1
  have HJ1 : Hid (JB w1 w.heap.size lv kind rv n) := J0.below hB1
  clear hB1 J0
  obtain ⟨c0, c1, c2, c3⟩ := HJ1.out
  go_wp2_with fail
  refine (right_walk (HO.out.below HB1.out)).mono ?_
  rw [HBD.out]
  rintro e w2 ⟨rfl, hB2⟩
  go_wp2_with fail
  go_ret
  exact ⟨rfl, below_trans HB1.out hB2⟩

set_option maxRecDepth 100000 in
set_option maxHeartbeats 8000000 in
theorem order_good {lv rv : Value} {l : List Stp} {recs : List Rcd} {kind n : Int} {w : World} (ho : Ov w lv l) (hr : Rv w rv recs) (hc : checkB l = true) (hk : knownB kind = true) (hsz : recs.length * 16 ≤ 140737488351232) :
    Calls Try.prog 6 #[.agg #[lv, .int .i64 kind, rv, .int .i64 n]] w fun e w' => e = .returned (.bool true) ∧ Below w.heap.size w w' := by
  have HO : Hid (Ov w lv l) := ho
  have HR : Hid (Rv w rv recs) := hr
  have HSZ : Hid (recs.length * 24 ≤ 281474976710656) := by show _ ≤ _; omega
  have HSZ16 : Hid (recs.length * 16 ≤ 140737488351232) := hsz
  have HRO : Hid (∀ r ∈ recs, r.ok) := hr.2
  obtain ⟨k, hke⟩ : ∃ k, k = placeN n recs.length := ⟨_, rfl⟩
  have HKE : Hid (k = placeN n recs.length) := hke
  have HKL : Hid (k ≤ recs.length) := by show _ ≤ _; rw [hke]; exact place_le _ _
  have hrl : (recs.length : Int) ≤ 8796093021952 := by omega
  obtain ⟨ao, cap, hrv, hrc, hcm, hcn, hrl4⟩ := hr.parts
  subst hrv
  have HRL : Hid (Rl w ao recs) := hrl4
  obtain ⟨i0, hi0, hz0, hz1, hz2⟩ := info_partsQ info_rec
  have HI0 : Hid (Try.prog.info? 52 = some i0) := hi0
  have HI1 : Hid (i0.zero = some (.agg #[.int .u64 0, .float .f64 0])) := hz0
  have HI2 : Hid (i0.size = 2) := hz1
  have HI3 : Hid (i0.bytes = 16) := hz2
  have HMX : Hid (recs.length ≤ maxLen) := Nat.le_trans hrc hcm
  clear ho hr hsz hke hrc hcm hcn hrl4 hi0 hz0 hz1 hz2
  have J0 := jb_new w lv (.slice ao recs.length cap) kind n 43
  go_enter Try.func6, Try.ntmps6
  go_wp2_with fail
  refine (awake_walk _).mono ?_
  rintro e w1 ⟨rfl, hB1⟩
  have HB1 : Hid (Below w.heap.size w w1) := below_trans (below_alloc _ _) hB1
  have HJ1 : Hid (JB w1 w.heap.size lv kind (.slice ao recs.length cap) n) := J0.below hB1
  clear hB1 J0
  obtain ⟨c0, c1, c2, c3⟩ := HJ1.out
  go_wp2_with fail
  refine (right_walk (HO.out.below HB1.out)).mono ?_
  rw [hc, hk]
  rintro e w2 ⟨rfl, hB2⟩
  have HB2 : Hid (Below w.heap.size w w2) := below_trans HB1.out hB2
  have HJ2 : Hid (JB w2 w.heap.size lv kind (.slice ao recs.length cap) n) := HJ1.out.below hB2
  clear hB2 c0 c1 c2 c3
  obtain ⟨c0, c1, c2, c3⟩ := HJ2.out
  go_wp2_with fail
  refine (place_walk (HR.out.below HB2.out) (by omega)).mono ?_
  rw [← HKE.out]
  rintro e w3 ⟨rfl, hB3⟩
  have HB3 : Hid (Below w.heap.size w w3) := below_trans HB2.out hB3
  have HJ3 : Hid (JB w3 w.heap.size lv kind (.slice ao recs.length cap) n) := HJ2.out.below hB3
  clear hB3 c0 c1 c2 c3 HB1 HJ1 HB2 HJ2
  have HG1 : Hid (w.heap.size < w3.heap.size) := cell_lt HJ3.out.c0
  go_wp2_with (at_make; (first
    | (refine wpList_make_own w3 (by rfl) _ _ 41 (by rfl) w3.heap.size 52 i0 (.agg #[.int .u64 0, .float .f64 0]) 2 Try.underlying41 HI0.out HI1.out HI2.out .i64 .i64 _ recs.length (by rfl) (by rfl) (by rfl) (by rw [HI3.out]; have := HSZ.out; omega) HMX.out (Nat.le_refl _) ?_; intro w4 hown4 hgrow4)
    | (refine wpList_make_own w4 (by rfl) _ _ 41 (by rfl) w4.heap.size 52 i0 (.agg #[.int .u64 0, .float .f64 0]) 2 Try.underlying41 HI0.out HI1.out HI2.out .i64 .i64 _ recs.length (by rfl) (by rfl) (by rfl) (by rw [HI3.out]; have := HSZ.out; omega) HMX.out (Nat.le_refl _) ?_; intro w5 hown5 hgrow5)))
  have HG2 : Hid (w3.heap.size < w4.heap.size) := (hown4.lt w3.heap.size rfl).2
  have R0 : Od w w3.heap.size w4.heap.size lv (.slice ao recs.length cap) kind n recs k (.slice (some ⟨w3.heap.size, 0, none⟩) 0 recs.length) (.slice (some ⟨w4.heap.size, 0, none⟩) 0 recs.length) (.int .i64 0) w5 :=
    ⟨0, Nat.zero_le _, rfl, rfl, rfl, hown4.kept hgrow5 (Or.inr (by simp [Value.ownBlock])), hown5, (HJ3.out.below ((Below.refl _ _).grown hgrow4 (Nat.le_refl _) (by simp))).below ((Below.refl _ _).grown hgrow5 (Nat.le_refl _) (by simp)),
      (HB3.out.grown hgrow4 HB3.out.size (by simp)).grown hgrow5 (Nat.le_trans HB3.out.size hgrow4.size) (by simp)⟩
  clear hown4 hgrow4 hown5 hgrow5
  go_loopw [5, 6, 7] (fun tv uv iv wr => Od w w3.heap.size w4.heap.size lv (.slice ao recs.length cap) kind n recs k tv uv iv wr) (fun _ _ iv _ => recs.length - (intOf iv).toNat)
  case atStart => exact R0
  case round =>
    clear R0
    obtain ⟨i, hi, rfl, rfl, rfl, ho1, ho2, hJ, hB⟩ := hrel
    have HO1 : Hid (wr.ownsRow w3.heap.size 52 2 (.slice (some ⟨w3.heap.size, 0, none⟩) i recs.length) i (flatR (recs.reverse.take i))) := ho1
    have HO2 : Hid (wr.ownsRow w4.heap.size 52 2 (.slice (some ⟨w4.heap.size, 0, none⟩) i recs.length) i (flatR ((roundL recs k).take i))) := ho2
    have HJ : Hid (JB wr w.heap.size lv kind (.slice ao recs.length cap) n) := hJ
    have HB : Hid (Below w.heap.size w wr) := hB
    clear ho1 ho2 hJ hB
    by_cases hlt : i < recs.length
    · have hpos : 0 < recs.length := by omega
      obtain ⟨m, hme⟩ : ∃ m, m = recs.length - 1 - i := ⟨_, rfl⟩
      have hml : m < recs.length := by omega
      obtain ⟨q, hqe⟩ : ∃ q, q = (k + i) % recs.length := ⟨_, rfl⟩
      have hql : q < recs.length := by rw [hqe]; exact Nat.mod_lt _ hpos
      obtain ⟨b, off, rfl, m0, m1⟩ := HRL.out.below HB.out m hml
      obtain ⟨b2, off2, e2, q0, q1⟩ := HRL.out.below HB.out q hql
      cases e2
      obtain ⟨r1, hr1⟩ : ∃ r1, r1 = recs[m] := ⟨_, rfl⟩
      obtain ⟨r2, hr2⟩ : ∃ r2, r2 = recs[q] := ⟨_, rfl⟩
      rw [← hr1] at m0 m1
      rw [← hr2] at q0 q1
      have HE1 : Hid (r1 = recs[recs.length - 1 - i]'(Nat.lt_of_le_of_lt (Nat.sub_le _ _) (Nat.sub_lt hpos Nat.one_pos))) := by show _ = _; rw [hr1]; congr 1
      have HE2 : Hid (r2 = recs[(k + i) % recs.length]'(Nat.mod_lt _ hpos)) := by show _ = _; rw [hr2]; congr 1
      have HQ0 : Hid (wr.cell? ⟨b, off + q * 2, none⟩ = some (.int .u64 r2.k)) := q0
      have HQ1 : Hid (wr.cell? ⟨b, off + q * 2 + 1, none⟩ = some (.float .f64 r2.x)) := q1
      have HBL : Hid (b < w.heap.size) := by
        obtain ⟨b3, off3, e3, q3, _⟩ := HRL.out q hql
        cases e3
        exact cell_lt q3
      have hw1 : IntKind.i64.wrap ((recs.length : Int) - 1) = (recs.length : Int) - 1 := wrap_small (by omega) (by omega)
      have hw2 : IntKind.i64.wrap ((recs.length : Int) - 1 - (i : Int)) = (m : Int) := by rw [wrap_small (by omega) (by omega)]; omega
      have HW3 : Hid (IntKind.i64.wrap ((k : Int) + (i : Int)) = (k : Int) + (i : Int)) := by have := HKL.out; exact wrap_small (by omega) (by omega)
      have HW4 : Hid (((k : Int) + (i : Int)).tmod (recs.length : Int) = (q : Int)) := by
        show _ = _
        rw [Int.tmod_eq_emod_of_nonneg (by omega), hqe]
        simp
      clear hme hqe hr1 hr2 q0 q1
      obtain ⟨c0, c1, c2, c3⟩ := HJ.out
      go_wp2_with (at_builtin; refine wpList_append_rf (by rfl) _ _ 41 (by rfl) w3.heap.size 52 i0 Try.underlying41 HI0.out HI2.out w3.heap.size i recs.length (recs.reverse.take i) (by rfl) (HO1.out.alloc _) _ r1 (by rfl) (by simp [go_sem]) (by simp [go_sem]) (by omega) ?_; intro w6 hown6 hgrow6)
      clear c0 c1 c2 c3 m0 m1 hw1 hw2
      have HOW6 : Hid (w6.ownsRow w3.heap.size 52 2 (.slice (some ⟨w3.heap.size, 0, none⟩) (i + 1) recs.length) (i + 1) (flatR (recs.reverse.take i ++ [r1]))) := hown6
      have HGR6 : Hid ((wr.alloc (Obj.cells #[.int .u64 r1.k, .float .f64 r1.x] 52)).grownBy w6 (some w3.heap.size)) := hgrow6
      have HO26 : Hid (w6.ownsRow w4.heap.size 52 2 (.slice (some ⟨w4.heap.size, 0, none⟩) i recs.length) i (flatR ((roundL recs k).take i))) := (HO2.out.alloc _).kept hgrow6 (Or.inr (by have := HG2.out; simp [Value.ownBlock]; omega))
      have HJ6 : Hid (JB w6 w.heap.size lv kind (.slice (some ⟨b, off, none⟩) recs.length cap) n) := (HJ.out.below (below_alloc wr _)).grown hgrow6 (by have := HG1.out; omega)
      have HS6 : Hid (w6.drew.cell? ⟨w.heap.size, 2, none⟩ = some (.slice (some ⟨b, off, none⟩) recs.length cap) ∧ w6.drew.cell? ⟨b, off + q * 2, none⟩ = some (.int .u64 r2.k) ∧ w6.drew.cell? ⟨b, off + q * 2 + 1, none⟩ = some (.float .f64 r2.x)) :=
        ⟨HJ6.out.c2, cell_grown (w' := w6) (w := wr.alloc (Obj.cells #[.int .u64 r1.k, .float .f64 r1.x] 52)) (p := ⟨b, off + q * 2, none⟩) (by rw [(below_alloc wr _).cell (p := ⟨b, off + q * 2, none⟩) (cell_lt HQ0.out)]; exact HQ0.out) hgrow6 (by have := HBL.out; have := HG1.out; show b ≠ w3.heap.size; omega),
          cell_grown (w' := w6) (w := wr.alloc (Obj.cells #[.int .u64 r1.k, .float .f64 r1.x] 52)) (p := ⟨b, off + q * 2 + 1, none⟩) (by rw [(below_alloc wr _).cell (p := ⟨b, off + q * 2 + 1, none⟩) (cell_lt HQ1.out)]; exact HQ1.out) hgrow6 (by have := HBL.out; have := HG1.out; show b ≠ w3.heap.size; omega)⟩
      clear hown6 hgrow6
      have HSA : Hid ((w6.drew.alloc (Obj.cells #[.int .u64 r2.k, .float .f64 r2.x] 52)).cell? ⟨w.heap.size, 2, none⟩ = some (.slice (some ⟨b, off, none⟩) recs.length cap) ∧ (w6.drew.alloc (Obj.cells #[.int .u64 r2.k, .float .f64 r2.x] 52)).cell? ⟨b, off + q * 2, none⟩ = some (.int .u64 r2.k) ∧ (w6.drew.alloc (Obj.cells #[.int .u64 r2.k, .float .f64 r2.x] 52)).cell? ⟨b, off + q * 2 + 1, none⟩ = some (.float .f64 r2.x)) := by
        obtain ⟨s0, s1, s2⟩ := HS6.out
        exact ⟨by rw [(below_alloc w6.drew _).cell (p := ⟨w.heap.size, 2, none⟩) (cell_lt s0)]; exact s0, by rw [(below_alloc w6.drew _).cell (p := ⟨b, off + q * 2, none⟩) (cell_lt s1)]; exact s1, by rw [(below_alloc w6.drew _).cell (p := ⟨b, off + q * 2 + 1, none⟩) (cell_lt s2)]; exact s2⟩
      obtain ⟨w8, hrun, hown8, hgrow8⟩ := run_append_fits (P := Try.prog) (w6.drew.alloc (Obj.cells #[.int .u64 r2.k, .float .f64 r2.x] 52)) w4.heap.size 41 41 52 i0 2 Try.underlying41 HI0.out HI2.out w4.heap.size i recs.length (flatR ((roundL recs k).take i)) (HO26.out.drew.alloc _) ⟨w6.heap.size, 0, none⟩ 1 1 [.int .u64 r2.k, .float .f64 r2.x] rfl (one_cells (by simp [go_sem]) (by simp [go_sem])) (by intro u hu; simp at hu; rcases hu with rfl | rfl <;> rfl) (by omega)
      have HRUN : Hid ((Builtin.append_ #[41, 41] 41 #[.slice (some ⟨w4.heap.size, 0, none⟩) i recs.length, .slice (some ⟨w6.heap.size, 0, none⟩) 1 1]).run Try.prog (w6.drew.alloc (Obj.cells #[.int .u64 r2.k, .float .f64 r2.x] 52)) = .ok (.slice (some ⟨w4.heap.size, 0, none⟩) (i + 1) recs.length) w8) := hrun
      have HS8 : Hid (w8.cell? ⟨w.heap.size, 2, none⟩ = some (.slice (some ⟨b, off, none⟩) recs.length cap) ∧ w8.cell? ⟨b, off + q * 2, none⟩ = some (.int .u64 r2.k) ∧ w8.cell? ⟨b, off + q * 2 + 1, none⟩ = some (.float .f64 r2.x)) :=
        ⟨cell_grown HSA.out.1 hgrow8 (by have := HG1.out; have := HG2.out; show w.heap.size ≠ w4.heap.size; omega), cell_grown HSA.out.2.1 hgrow8 (by have := HBL.out; have := HG1.out; have := HG2.out; show b ≠ w4.heap.size; omega), cell_grown HSA.out.2.2 hgrow8 (by have := HBL.out; have := HG1.out; have := HG2.out; show b ≠ w4.heap.size; omega)⟩
      have R' := od_step hlt HKL.out HE1.out HE2.out HOW6.out HGR6.out (by rw [flatR_snoc]; exact hown8) hgrow8 HJ.out HB.out HG1.out HG2.out
      clear hrun hown8 hgrow8
      have hw3 := HW3.out
      have hw4 := HW4.out
      have hzn : ¬ (recs = []) := fun h => by rw [h] at hpos; simp at hpos
      refine wp_region_noPanic ?_
      refine wp_region_held_drew (S := fun wx => wx.cell? ⟨w.heap.size, 2, none⟩ = some (.slice (some ⟨b, off, none⟩) recs.length cap) ∧ wx.cell? ⟨b, off + q * 2, none⟩ = some (.int .u64 r2.k) ∧ wx.cell? ⟨b, off + q * 2 + 1, none⟩ = some (.float .f64 r2.x)) (by kernel_rfl) ?_ (fun hHeld => ?_)
      · exact HS6.out
      refine wpAnyH_take (i := 0) (oi := ⟨some 47, _, _, _, _, _⟩) (v := ?_) rfl (by kernel_rfl) (by kernel_rfl) (by kernel_rfl) (fun _ _ _ h => h) (Or.inl ⟨by rfl, ?_⟩) (by assumption) ?_
      rotate_left
      · intro w hSw; (try dsimp only at hSw); obtain ⟨s0, s1, s2⟩ := hSw; go_simp; all_goals (with_reducible rfl)
      try simp only [Act.put, List.setIfInBounds_toArray, List.set_cons_zero, List.set_cons_succ]
      refine wpAnyH_take (i := 1) (oi := ⟨some 48, _, _, _, _, _⟩) (v := ?_) rfl (by kernel_rfl) (by kernel_rfl) (by kernel_rfl) (fun _ _ _ h => h) (Or.inl ⟨by rfl, ?_⟩) (by assumption) ?_
      rotate_left
      · intro w hSw; (try dsimp only at hSw); obtain ⟨s0, s1, s2⟩ := hSw; go_simp; all_goals (with_reducible rfl)
      try simp only [Act.put, List.setIfInBounds_toArray, List.set_cons_zero, List.set_cons_succ]
      refine wpAnyH_take (i := 2) (oi := ⟨some 49, _, _, _, _, _⟩) (v := ?_) rfl (by kernel_rfl) (by kernel_rfl) (by kernel_rfl) (fun _ _ _ h => h) (Or.inl ⟨by rfl, ?_⟩) (by assumption) ?_
      rotate_left
      · intro w hSw; (try dsimp only at hSw); obtain ⟨s0, s1, s2⟩ := hSw; go_simp; all_goals (with_reducible rfl)
      try simp only [Act.put, List.setIfInBounds_toArray, List.set_cons_zero, List.set_cons_succ]
      refine wpAnyH_take (i := 3) (oi := ⟨some 50, _, _, _, _, _⟩) (v := ?_) rfl (by kernel_rfl) (by kernel_rfl) (by kernel_rfl) (fun _ _ _ h => h) (Or.inl ⟨by rfl, ?_⟩) (by assumption) ?_
      rotate_left
      · intro w hSw; (try dsimp only at hSw); obtain ⟨s0, s1, s2⟩ := hSw; go_simp; all_goals (with_reducible rfl)
      try simp only [Act.put, List.setIfInBounds_toArray, List.set_cons_zero, List.set_cons_succ]
      refine wpAnyH_take (i := 4) (oi := ⟨some 51, _, _, _, _, _⟩) (v := ?_) rfl (by kernel_rfl) (by kernel_rfl) (by kernel_rfl) (fun _ _ _ h => h) (Or.inl ⟨by rfl, ?_⟩) (by assumption) ?_
      rotate_left
      · intro w hSw; (try dsimp only at hSw); obtain ⟨s0, s1, s2⟩ := hSw; go_simp; all_goals (with_reducible rfl)
      try simp only [Act.put, List.setIfInBounds_toArray, List.set_cons_zero, List.set_cons_succ]
      refine wpAnyH_take (i := 5) (oi := ⟨some 52, _, _, _, _, _⟩) (v := ?_) rfl (by kernel_rfl) (by kernel_rfl) (by kernel_rfl) (fun _ _ _ h => h) (Or.inl ⟨by rfl, ?_⟩) (by assumption) ?_
      rotate_left
      · intro w hSw; (try dsimp only at hSw); obtain ⟨s0, s1, s2⟩ := hSw; go_simp; all_goals (with_reducible rfl)
      try simp only [Act.put, List.setIfInBounds_toArray, List.set_cons_zero, List.set_cons_succ]
      refine wpAnyH_take (i := 6) (oi := ⟨some 53, _, _, _, _, _⟩) (v := ?_) rfl (by kernel_rfl) (by kernel_rfl) (by kernel_rfl) (fun _ _ _ h => h) (Or.inl ⟨by rfl, ?_⟩) (by assumption) ?_
      rotate_left
      · intro w hSw; (try dsimp only at hSw); obtain ⟨s0, s1, s2⟩ := hSw; go_simp; all_goals (with_reducible rfl)
      try simp only [Act.put, List.setIfInBounds_toArray, List.set_cons_zero, List.set_cons_succ]
      refine wpAnyH_take (i := 7) (oi := ⟨some 54, _, _, _, _, _⟩) (v := ?_) rfl (by kernel_rfl) (by kernel_rfl) (by kernel_rfl) (fun _ _ _ h => h) (Or.inl ⟨by rfl, ?_⟩) (by assumption) ?_
      rotate_left
      · intro w hSw; (try dsimp only at hSw); obtain ⟨s0, s1, s2⟩ := hSw; go_simp; all_goals (with_reducible rfl)
      try simp only [Act.put, List.setIfInBounds_toArray, List.set_cons_zero, List.set_cons_succ]
      refine wpAnyH_take (i := 8) (oi := ⟨some 55, _, _, _, _, _⟩) (v := ?_) rfl (by kernel_rfl) (by kernel_rfl) (by kernel_rfl) (fun _ _ _ h => h) (Or.inl ⟨by rfl, ?_⟩) (by assumption) ?_
      rotate_left
      · intro w hSw; (try dsimp only at hSw); obtain ⟨s0, s1, s2⟩ := hSw; go_simp; all_goals (with_reducible rfl)
      try simp only [Act.put, List.setIfInBounds_toArray, List.set_cons_zero, List.set_cons_succ]
      refine wpAnyH_take (i := 9) (oi := ⟨some 56, _, _, _, _, _⟩) (v := ?_) rfl (by kernel_rfl) (by kernel_rfl) (by kernel_rfl) (fun _ _ _ h => h) (Or.inl ⟨by rfl, ?_⟩) (by assumption) ?_
      rotate_left
      · intro w hSw; (try dsimp only at hSw); obtain ⟨s0, s1, s2⟩ := hSw; go_simp; all_goals (with_reducible rfl)
      try simp only [Act.put, List.setIfInBounds_toArray, List.set_cons_zero, List.set_cons_succ]
      refine wpAnyH_ready (rs := [10]) (by kernel_rfl) (by simp) ?_
      refine AllReadyH.cons (o := ⟨some 57, _, _, _, _, _⟩) rfl (fun K hK => ?_) AllReadyH.nil
      go_simp
      refine hK.out _ _ ?_ (fun hHeld => ?_)
      · exact HSA.out
      clear hK K
      try simp only [Act.put, List.setIfInBounds_toArray, List.set_cons_zero, List.set_cons_succ]
      refine wpAnyH_ready (rs := [11]) (by kernel_rfl) (by simp) ?_
      refine AllReadyH.cons (o := ⟨some 58, _, _, _, _, _⟩) rfl (fun K hK => ?_) AllReadyH.nil
      rw [if_pos (by rfl)]
      refine wp_of_run (.tmp 47) (.tmp 57) 41 rfl _ _ rfl rfl HRUN.out ?_
      refine hK.out _ _ ?_ (fun hHeld => ?_)
      · exact HS8.out
      clear hK K
      try simp only [Act.put, List.setIfInBounds_toArray, List.set_cons_zero, List.set_cons_succ]
      refine wpAnyH_take (i := 12) (oi := ⟨some 6, _, _, _, _, _⟩) (v := ?_) rfl (by kernel_rfl) (by kernel_rfl) (by kernel_rfl) (fun _ _ _ h => h) (Or.inl ⟨by rfl, ?_⟩) (by assumption) ?_
      rotate_left
      · intro w hSw; (try dsimp only at hSw); obtain ⟨s0, s1, s2⟩ := hSw; go_simp; all_goals (with_reducible rfl)
      try simp only [Act.put, List.setIfInBounds_toArray, List.set_cons_zero, List.set_cons_succ]
      refine wpAnyH_done (by kernel_rfl) ?_ _
      refine NoPanic.normal ?_
      go_wp2_with fail
      go_roundw
      case rel => exact R'
      case measure => simp [intOf]; omega
    · have e : i = recs.length := by omega
      have HP1 : Hid (recs.Perm recs.reverse) := List.reverse_perm recs |>.symm
      have HP2 : Hid (recs.Perm (roundL recs k)) := round_perm recs k
      have HV1 : Hid (Rv wr (.slice (some ⟨w3.heap.size, 0, none⟩) i recs.length) recs.reverse) := by
        have := HO1.out
        rw [List.take_of_length_le (by simp; omega)] at this
        exact own_rv this (fun r hr => HRO.out r (List.mem_reverse.1 hr))
      have HV2 : Hid (Rv wr (.slice (some ⟨w4.heap.size, 0, none⟩) i recs.length) (roundL recs k)) := by
        have := HO2.out
        rw [List.take_of_length_le (by rw [round_len]; omega)] at this
        exact own_rv this (fun r hr => HRO.out r (HP2.out.mem_iff.2 hr))
      have HV0 : Hid (Rv wr (.slice ao recs.length cap) recs) := HR.out.below HB.out
      have HT1 : Hid (batchT l kind recs.reverse = batchT l kind recs) := perm_table hk HP1.out HRO.out
      have HT2 : Hid (batchT l kind (roundL recs k) = batchT l kind recs) := perm_table hk HP2.out HRO.out
      have HN1 : Hid (trapN l recs.reverse = trapN l recs) := (trap_perm HP1.out).symm
      have HN2 : Hid (trapN l (roundL recs k) = trapN l recs) := (trap_perm HP2.out).symm
      have HLN : Hid ((batchT l kind recs).length ≤ maxLen) := by have := batch_len l kind recs; show _ ≤ _; simp only [maxLen]; omega
      clear e
      obtain ⟨c0, c1, c2, c3⟩ := HJ.out
      go_wp2_with fail
      refine (table_walk (HO.out.below HB.out) HV0.out hc hk HSZ.out).mono ?_
      rintro e w6 ⟨g6, rfl, hM6, _, hg6, hB6⟩
      have HB6 : Hid (Below wr.heap.size wr w6) := hB6
      have HM6 : Hid (Mq w6 g6 (batchT l kind recs)) := hM6
      have HG6 : Hid (g6 < w6.heap.size) := hg6
      have HJ6 : Hid (JB w6 w.heap.size lv kind (.slice ao recs.length cap) n) := HJ.out.below hB6
      clear c0 c1 c2 c3 hB6 hM6 hg6
      obtain ⟨c0, c1, c2, c3⟩ := HJ6.out
      go_wp2_with fail
      refine (table_walk (HO.out.below (below_trans HB.out HB6.out)) (HV1.out.below HB6.out) hc hk (by rw [List.length_reverse]; exact HSZ.out)).mono ?_
      rw [HT1.out, HN1.out]
      rintro e w7 ⟨g7, rfl, hM7, _, hg7, hB7⟩
      have HB7 : Hid (Below wr.heap.size wr w7) := below_trans HB6.out hB7
      have HM7 : Hid (Mq w7 g7 (batchT l kind recs)) := hM7
      have HG7 : Hid (g7 < w7.heap.size) := hg7
      have HM67 : Hid (Mq w7 g6 (batchT l kind recs)) := HM6.out.below hB7 HG6.out
      have HG67 : Hid (g6 < w7.heap.size) := Nat.lt_of_lt_of_le HG6.out hB7.size
      have HJ7 : Hid (JB w7 w.heap.size lv kind (.slice ao recs.length cap) n) := HJ6.out.below hB7
      clear c0 c1 c2 c3 hB7 hM7 hg7
      obtain ⟨c0, c1, c2, c3⟩ := HJ7.out
      go_wp2_with fail
      refine (table_walk (HO.out.below (below_trans HB.out HB7.out)) (HV2.out.below HB7.out) hc hk (by rw [round_len]; exact HSZ.out)).mono ?_
      rw [HT2.out, HN2.out]
      rintro e w8 ⟨g8, rfl, hM8, _, hg8, hB8⟩
      have HB8 : Hid (Below wr.heap.size wr w8) := below_trans HB7.out hB8
      have HM8 : Hid (Mq w8 g8 (batchT l kind recs)) := hM8
      have HM68 : Hid (Mq w8 g6 (batchT l kind recs)) := HM67.out.below hB8 HG67.out
      have HM78 : Hid (Mq w8 g7 (batchT l kind recs)) := HM7.out.below hB8 HG7.out
      clear c0 c1 c2 c3 hB8 hM8 hg8
      go_wp2_with fail
      refine (same_walk HLN.out (mq_ql HM68.out) (mq_ql HM78.out)).mono ?_
      rintro e w9 ⟨rfl, hB9⟩
      go_wp2_with fail
      refine (same_walk HLN.out ((mq_ql HM68.out).below hB9) ((mq_ql HM8.out).below hB9)).mono ?_
      rintro e w10 ⟨rfl, hB10⟩
      go_wp2_with fail
      go_ret
      exact ⟨ret_bool (by simp), below_trans HB.out (below_trans HB8.out (below_trans hB9 hB10))⟩

theorem foldorder_walk {lv rv : Value} {l : List Stp} {recs : List Rcd} {kind n : Int} {w : World} (ho : Ov w lv l) (hr : Rv w rv recs) (hsz : recs.length * 16 ≤ 140737488351232) :
    Calls Try.prog 6 #[.agg #[lv, .int .i64 kind, rv, .int .i64 n]] w fun e w' => e = .returned (.bool true) ∧ Below w.heap.size w w' := by
  cases hb : checkB l && knownB kind
  · exact order_bad ho hb
  · rw [Bool.and_eq_true] at hb
    exact order_good ho hr hb.1 hb.2 hsz
end Go.Proofs.Ytfcpooihihklaaa
