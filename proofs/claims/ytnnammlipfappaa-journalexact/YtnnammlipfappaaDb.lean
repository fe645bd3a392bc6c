/- Rows of blocks: copied of both; images; laid. -/
import Derived.Test.YtnnammlipfappaaDa

namespace Go.Proofs.Ytnnammlipfappaa

open Go.RowKit



/-- The first k of ls, the rest empty. -/
def part (ls : List (List Nat)) (k : Nat) : List (List Nat) := ls.take k ++ List.replicate (ls.length - k) []
theorem part_len {ls : List (List Nat)} {k : Nat} (h : k ≤ ls.length) : (part ls k).length = ls.length := by unfold part; simp; omega
theorem part_zero (ls : List (List Nat)) : part ls 0 = List.replicate ls.length [] := by simp [part]
theorem part_all (ls : List (List Nat)) : part ls ls.length = ls := by simp [part]
theorem part_set {ls : List (List Nat)} {k : Nat} (h : k < ls.length) : (part ls k).set k (bk ls k) = part ls (k + 1) := by
  have e : List.replicate (ls.length - k) ([] : List Nat) = [] :: List.replicate (ls.length - (k + 1)) [] := by
    rw [← List.replicate_succ]; congr 1; omega
  unfold part
  rw [e, bk_at h, List.take_succ_eq_append_getElem h]
  rw [List.set_append_right _ _ (by simp; omega)]
  have hz : k - (ls.take k).length = 0 := by simp; omega
  rw [hz, List.set_cons_zero, List.append_assoc, List.singleton_append]


theorem make_rows {q : Nat} (hq : q ≤ 64) : ∀ wx : World, (Instr.makeSlice 50 (.int .i64 q) (.int .i64 q)).run Try.prog wx = .ok (.slice (some ⟨wx.heap.size, 0, none⟩) q q) (wx.alloc (.cells (madeCells #[.slice none 0 0] (q * 1)) 57)) := fun wx => by
  obtain ⟨i0, hi0, hz0, hz1, hz2⟩ := info_partsV info_row
  have := run_make (P := Try.prog) wx 50 57 i0 (.slice none 0 0) Try.underlying50 hi0 hz0 .i64 .i64 q q (by omega) (Int.le_refl _) (by rw [hz2]; omega) (by omega)
  rw [hz1] at this
  simp only [Int.toNat_natCast] at this
  exact this
theorem made_at {q i : Nat} (hi : i < q) : (madeCells #[.slice none 0 0] (q * 1))[i]? = some (.slice none 0 0) := by simp [madeCells, hi, Nat.mod_one]
theorem bk_rep (q i : Nat) : bk (List.replicate q []) i = [] := by unfold bk; rw [List.getD_eq_getElem?_getD, List.getElem?_replicate]; split <;> rfl
theorem made_gr (E : Nat → Prop) (w : World) {q : Nat} (hq : q ≤ 64) {Z : Array Value} (hZ : Z = madeCells #[.slice none 0 0] (q * 1)) : Gr E (w.alloc (.cells Z 57)) w.heap.size q (List.replicate q []) := by
  subst hZ
  refine ⟨⟨_, heap_alloc_new w _, by rw [size_madeCells]; omega, fun i hi => ?_⟩, by simp, by simp [maxLen]; omega⟩
  rw [List.length_replicate] at hi
  exact ⟨_, made_at hi, by rw [bk_rep]; exact Oc.nil _, fun x hx => by cases hx⟩
theorem made_gw (D : Nat → Prop) (w : World) {q : Nat} {Z : Array Value} (hZ : Z = madeCells #[.slice none 0 0] (q * 1)) (hD : ¬ D w.heap.size) : Gw D (w.alloc (.cells Z 57)) w.heap.size (List.replicate q []) := by
  subst hZ
  refine ⟨⟨_, heap_alloc_new w _, by rw [size_madeCells]; simp, fun i hi => ?_⟩, hD⟩
  rw [List.length_replicate] at hi
  exact ⟨_, made_at hi, by rw [bk_rep]; exact ⟨Bv.nil _, .inl rfl⟩⟩


/-- Where copied stands. -/
def CpRel (ls : List (List Nat)) (w : World) (iv : Value) (wr : World) : Prop :=
  ∃ k : Nat, k ≤ ls.length ∧ iv = .int .i64 k ∧ Gr (fun x => w.heap.size ≤ x) wr w.heap.size ls.length (part ls k) ∧ Below w.heap.size w wr
theorem cprel_start {ls : List (List Nat)} (w : World) (h : ls.length ≤ 64) {Z : Array Value} (hZ : Z = madeCells #[.slice none 0 0] (ls.length * 1)) : CpRel ls w (.int .i64 0) (w.alloc (.cells Z 57)) :=
  ⟨0, Nat.zero_le _, rfl, by rw [part_zero]; exact made_gr _ w h hZ, below_alloc w _⟩
theorem cprel_step {ls : List (List Nat)} {w wr wC : World} {k : Nat} {b : List Nat} {u : Value} (hb : bk ls k = b) (hk : k < ls.length) (hg : Gr (fun x => w.heap.size ≤ x) wr w.heap.size ls.length (part ls k)) (hB : Below w.heap.size w wr)
    (ho : wC.ownsRow wr.heap.size 5 1 u b.length (cb b)) (hC : Below wr.heap.size wr wC) : CpRel ls w (.int .i64 ((k : Int) + 1)) (wC.setCell ⟨w.heap.size, k, none⟩ u) := by
  refine ⟨k + 1, hk, rfl, ?_, (below_trans hB hC).setCell (p := ⟨w.heap.size, k, none⟩) (Nat.le_refl _) _⟩
  rw [← part_set hk, hb]
  exact (hg.below hC).set (by rw [part_len (Nat.le_of_lt hk)]; exact hk) (own_base ho (Nat.zero_le _)) (fun x hx => Nat.le_trans hB.size (ho.lt x hx).1)


set_option maxRecDepth 100000 in
set_option maxHeartbeats 1000000 in
theorem copied_walk {w : World} {v : Value} {ls : List (List Nat)} (h : PvD w v ls) (h1 : 1 ≤ ls.length) (h64 : ls.length ≤ 64) (hb : ∀ b ∈ ls, b.length ≤ 1024) :
    Calls Try.prog 53 #[v] w fun e w' => ∃ g cap, e = .returned (.slice (some ⟨g, 0, none⟩) ls.length cap) ∧ Gr (fun x => w.heap.size ≤ x) w' g cap ls ∧ w.heap.size ≤ g ∧ Below w.heap.size w w' := by
  obtain ⟨ao, cap, rfl, q1, q2, q3, q4⟩ := h
  obtain ⟨b, off, u, rfl, _, _⟩ := q4 0 (by omega)
  have HC : Hid (∀ i, i < ls.length → ∃ u, w.cell? ⟨b, off + i, none⟩ = some u ∧ Bv w u (bk ls i)) := fun i hi => by
    obtain ⟨b', off', u', e1, e2, e3⟩ := q4 i hi
    cases e1
    exact ⟨u', e2, e3⟩
  have HBL : Hid (∀ b ∈ ls, b.length ≤ 1024) := hb
  have hmk := make_rows h64
  obtain ⟨Z, hZ⟩ : ∃ Z, Z = madeCells #[.slice none 0 0] (ls.length * 1) := ⟨_, rfl⟩
  rw [← hZ] at hmk
  have HST : Hid (CpRel ls w (.int .i64 0) (w.alloc (.cells Z 57))) := cprel_start w h64 hZ
  clear hZ q1 q2 q3 q4 hb h1
  go_enter Try.func53, Try.ntmps53
  go_wp2_with fail
  go_loopw [11] (fun iv wr => CpRel ls w iv wr) (fun iv _ => ls.length - (intOf iv).toNat)
  case atStart => exact HST.out
  case round =>
    obtain ⟨k, hk, rfl, hg, hbel⟩ := hrel
    by_cases hlt : k < ls.length
    · obtain ⟨u, hu, hbu⟩ := HC.out k hlt
      obtain ⟨p, hp⟩ : ∃ p, bk ls k = p := ⟨_, rfl⟩
      have hpl : p.length ≤ 1024 := by rw [← hp]; exact HBL.out _ (bk_mem hlt)
      rw [hp] at hbu
      have HP : Hid (bk ls k = p) := hp
      have HB : Hid (Bv wr u p) := hbu.below hbel
      have HPL : Hid (p.length ≤ 1024) := hpl
      have HG : Hid (Gr (fun x => w.heap.size ≤ x) wr w.heap.size ls.length (part ls k)) := hg
      have HBE : Hid (Below w.heap.size w wr) := hbel
      obtain ⟨⟨a, c, rfl, _⟩, _⟩ := hbu
      rw [ib_len] at HB hu
      have hcell : wr.cell? ⟨b, off + k, none⟩ = some (.slice a p.length c) := by rw [hbel.cell (p := ⟨b, off + k, none⟩) (cell_lt hu)]; exact hu
      clear hp hu hpl hg hbel
      go_wp2_with fail
      refine (clone_walk HB.out (Nat.le_trans HPL.out (by omega))).mono ?_
      rintro e wC ⟨v', rfl, ho, hC⟩
      have R : Hid (CpRel ls w (.int .i64 ((k : Int) + 1)) (wC.setCell ⟨w.heap.size, k, none⟩ v')) := cprel_step HP.out hlt HG.out HBE.out ho hC
      have hgC := HG.out.below hC
      obtain ⟨u9, c9, _⟩ := hgC.at (i := k) (by rw [part_len (Nat.le_of_lt hlt)]; exact hlt)
      have f9 := hgC.soft k
      obtain ⟨ao', cap', hv', _⟩ := row_form ho
      subst hv'
      clear ho hC hgC
      go_wp2_with fail
      go_roundw
      case rel => exact R.out
      case measure => simp [intOf]; omega
    · obtain rfl : k = ls.length := by omega
      have HG : Hid (Gr (fun x => w.heap.size ≤ x) wr w.heap.size ls.length ls) := by rw [part_all] at hg; exact hg
      clear hg
      go_wp2_with fail
      go_ret
      exact ⟨_, _, rfl, HG.out, Nat.le_refl _, hbel⟩
end Go.Proofs.Ytnnammlipfappaa


