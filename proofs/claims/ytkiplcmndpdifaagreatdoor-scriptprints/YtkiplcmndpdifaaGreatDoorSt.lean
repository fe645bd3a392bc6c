/- Writing: a plan's line. -/
import Derived.Test.YtkiplcmndpdifaaGreatDoorSs

namespace Go.Proofs.YtkiplcmndpdifaaGreatDoor

open Go.RowKit



theorem own_ar {w : World} {base n : Nat} {v : Value} {xs : List Bs} (h : w.ownsRow base 9 1 v n (xs.map S)) : AR w v xs ∧ n = xs.length := by
  obtain ⟨h1, h2⟩ := h
  have hn : n = xs.length := by simp at h1; omega
  refine ⟨?_, hn⟩
  subst hn
  rcases h2 with ⟨rfl, h0⟩ | ⟨g, cap, cur, rfl, hb, hg, hnc, hcm, hcs, htake⟩
  · exact .inl ⟨rfl, List.eq_nil_of_length_eq_zero h0⟩
  · refine .inr ⟨g, cap, cur, rfl, hg, fun i hi => ?_⟩
    have hh : (cur.toList.take (xs.length * 1))[i]? = (xs.map S)[i]? := by rw [htake]
    rw [List.getElem?_take, if_pos (by omega)] at hh
    rw [← Array.getElem?_toList, hh]
    simp [List.getElem?_eq_getElem hi]


theorem tx_keep {base : Nat} {w w' : World} {v : Value} {l : Bs} (h : TX base w v l) (hb : Below w.heap.size w w') : TX base w' v l := row_keep h fun x hx => hb.block x (h.lt x hx).2


def plNth (p : Pl) : Nat → Int
  | 0 => p.P | 1 => p.S | 2 => p.W | 3 => p.A | 4 => p.B | 5 => p.N | _ => p.G


theorem planA_nth (p : Pl) (i : Nat) (h : i < 7) : (planA p)[i]? = some (Lib.itoa (plNth p i)) := by
  have hcs : i = 0 ∨ i = 1 ∨ i = 2 ∨ i = 3 ∨ i = 4 ∨ i = 5 ∨ i = 6 := by omega
  rcases hcs with rfl | rfl | rfl | rfl | rfl | rfl | rfl <;> rfl


def PlC (p : Pl) (ov : Value) : Array Value := #[.int .i64 p.P, .int .i64 p.S, .int .i64 p.W, ov, .int .i64 p.A, .int .i64 p.B, .int .i64 p.N, .int .i64 p.G]


theorem plC_at (p : Pl) (ov : Value) (i : Nat) (h : i < 7) : (PlC p ov)[0 + of7 i]? = some (.int .i64 (plNth p i)) := by
  have hcs : i = 0 ∨ i = 1 ∨ i = 2 ∨ i = 3 ∨ i = 4 ∨ i = 5 ∨ i = 6 := by omega
  rcases hcs with rfl | rfl | rfl | rfl | rfl | rfl | rfl <;> rfl


theorem plNth_ok {p : Pl} (h : p.ok) (i : Nat) : In64 (plNth p i) := by
  obtain ⟨a, b, c, d, e, f, g⟩ := h
  unfold plNth
  split <;> assumption


theorem itoa_len {x : Int} (h : In64 x) : (Lib.itoa x).length ≤ 21 := by
  obtain ⟨h1, h2⟩ := h
  unfold Lib.itoa
  split
  · have := dec_length (b := x.natAbs) (by omega)
    simp; omega
  · have := dec_length (b := x.toNat) (by omega)
    omega


theorem planT_len {p : Pl} (h : p.ok) : (planT p).length ≤ 200 := by
  have h0 := itoa_len (plNth_ok h 0); have h1 := itoa_len (plNth_ok h 1); have h2 := itoa_len (plNth_ok h 2); have h3 := itoa_len (plNth_ok h 3); have h4 := itoa_len (plNth_ok h 4); have h5 := itoa_len (plNth_ok h 5); have h6 := itoa_len (plNth_ok h 6)
  simp only [plNth] at h0 h1 h2 h3 h4 h5 h6
  simp [planT, lineT, planA, joinB, planW]
  omega


set_option maxRecDepth 100000 in
set_option maxHeartbeats 4000000 in
theorem appendPlan_walk {base : Nat} {w : World} {tv ov : Value} {l : Bs} {p : Pl} (ht : TX base w tv l) (hb : base ≤ w.heap.size) (hp : p.ok) (htb : Tb w) (hl : l.length ≤ 1099511000000) :
    Calls Tryz.prog 22 #[tv, PlV p ov] w (TxGot base (l ++ planT p) w) := by
  obtain ⟨oa, oc, rfl, _, _⟩ := own_form21 ht
  obtain ⟨is, his, hs0, hs1, hs2⟩ := info_parts21 info_str
  have HIS : Hid (Tryz.prog.info? 9 = some is ∧ is.zero = some (.string ⟨#[]⟩) ∧ is.size = 1 ∧ is.bytes = 16) := ⟨his, hs0, hs1, hs2⟩
  have HT : Hid (TX base w (.slice oa l.length oc) l ∧ base ≤ w.heap.size ∧ p.ok ∧ Tb w ∧ l.length ≤ 1099511000000) := ⟨ht, hb, hp, htb, hl⟩
  obtain ⟨w1, hw1⟩ : ∃ w1, w1 = w.alloc (.cells (PlC p ov) 25) := ⟨_, rfl⟩
  have HW1 : Hid (w1 = w.alloc (.cells #[.int .i64 p.P, .int .i64 p.S, .int .i64 p.W, ov, .int .i64 p.A, .int .i64 p.B, .int .i64 p.N, .int .i64 p.G] 25)) := hw1
  have HP1 : Hid (w1.heap[w.heap.size]? = some (.cells (PlC p ov) 25 (0, 0)) ∧ Below w.heap.size w w1) := by rw [hw1]; exact ⟨alloc_at rfl, below_alloc _ _⟩
  unfold PlV
  clear ht hb hp htb hl his hs0 hs1 hs2 hw1
  go_enter Tryz.func22, Tryz.ntmps22
  go_wp2_with fail
  rw [← HW1.out]
  clear HW1
  refine (fields_walk w.heap.size 0 w1).mono ?_
  rintro e9 w2 ⟨g, rfl, hg, hgb, hB2⟩
  have HG : Hid (w2.heap[g]? = some (.cells (ptr7 w.heap.size 0) 87 (0, 0)) ∧ w2.heap[w.heap.size]? = some (.cells (PlC p ov) 25 (0, 0)) ∧ Below w.heap.size w w2) := ⟨hgb, blk_below HP1.out.1 hB2, below_trans HP1.out.2 hB2⟩
  clear hg hgb hB2 HP1
  go_wp2_with fail
  go_loopw [5, 10] (fun v5 v10 wr => ∃ (k : Nat), v10 = .int .i64 k ∧ k ≤ 7 ∧ wr.ownsRow w.heap.size 9 1 v5 k (((planA p).take k).map S) ∧ wr.heap[g]? = some (.cells (ptr7 w.heap.size 0) 87 (0, 0)) ∧ wr.heap[w.heap.size]? = some (.cells (PlC p ov) 25 (0, 0)) ∧ Below w.heap.size w wr) (fun _ v10 _ => 7 - (intOf v10).toNat)
  case atStart => exact ⟨0, rfl, by omega, World.ownsRow_nil _ _ _ _, HG.out.1, HG.out.2.1, HG.out.2.2⟩
  case round =>
    obtain ⟨k, rfl, hk, hrow, hgb, hpb, hbel⟩ := hrel
    obtain ⟨aa, ac, rfl, _, _⟩ := own_form21 hrow
    have HR : Hid (wr.ownsRow w.heap.size 9 1 (.slice aa k ac) k (((planA p).take k).map S)) := hrow
    have HK : Hid (wr.heap[g]? = some (.cells (ptr7 w.heap.size 0) 87 (0, 0)) ∧ wr.heap[w.heap.size]? = some (.cells (PlC p ov) 25 (0, 0)) ∧ Below w.heap.size w wr) := ⟨hgb, hpb, hbel⟩
    by_cases hin : k < 7
    · obtain ⟨o, ho⟩ : ∃ o, 0 + of7 k = o := ⟨_, rfl⟩
      obtain ⟨x, hx⟩ : ∃ x, x = plNth p k := ⟨_, rfl⟩
      have cg : wr.cell? ⟨g, k, none⟩ = some (.pointer (some ⟨w.heap.size, o, none⟩)) := by rw [blk_cell hgb, ptr7_at _ 0 k hin, ho]
      have cp : wr.cell? ⟨w.heap.size, o, none⟩ = some (.int .i64 x) := by rw [blk_cell hpb, ← ho, plC_at p ov k hin, hx]
      have HX : Hid (x = plNth p k) := hx
      clear hgb hpb hbel hrow ho hx hk HG
      go_wp2_with fail
      refine (ntext_walk x (by rw [HX.out]; exact plNth_ok HT.out.2.2.1 k) wr (HT.out.2.2.2.1.below HK.out.2.2)).mono ?_
      rintro e9 w3 ⟨rfl, hB3⟩
      obtain ⟨ts, hts⟩ : ∃ t : ByteArray, t = ⟨(Lib.itoa x).toArray⟩ := ⟨_, rfl⟩
      simp only [S]
      rw [← hts]
      have HTS : Hid (ts = ⟨(Lib.itoa x).toArray⟩ ∧ Below wr.heap.size wr w3) := ⟨hts, hB3⟩
      have HR3 : Hid ((w3.alloc (.cells #[.string ts] 9)).ownsRow w.heap.size 9 1 (.slice aa k ac) k (((planA p).take k).map S)) :=
        row_keep HR.out fun y hy => (below_trans hB3 (below_alloc w3 _)).block y (HR.out.lt y hy).2
      clear hts hB3
      go_wp2_with (at_builtin; refine wpList_append_own _ (by rfl) (.tmp 14) (.tmp 19) 46 (by rfl) w.heap.size 9 is (.string ⟨#[]⟩) 1 16 Tryz.underlying46 HIS.out.1 HIS.out.2.1 HIS.out.2.2.1 HIS.out.2.2.2 (by rfl) (by decide) _ k _ (by rfl) HR3.out ⟨w3.heap.size, 0, none⟩ 1 1 [.string ts] (by rfl) (by rfl) (fun j u hj => by rw [WideShapes.add_plain, Nat.zero_add, blk_cell (alloc_at rfl)]; simpa using hj) (by intro u hu; simp at hu; subst hu; rfl) (by unfold maxLen; omega) (by omega) (by have h1 := HK.out.2.2.size; have h2 := HTS.out.2.size; simp; omega) ?_; intro v4 w4 hr4 hg4 _; obtain ⟨a4, c4, rfl, _, _⟩ := own_form21 hr4)
      have hk7 : wrap64 ((k : Int) + 1) = ((k + 1 : Nat) : Int) := by unfold wrap64; omega
      (try rw [hk7])
      have HC : Hid (w3.grownBy w3 none) := ⟨rfl, rfl, rfl, Nat.le_refl _, fun _ _ _ => rfl⟩
      have hkeep : ∀ y, y < wr.heap.size → (Value.slice aa k ac).ownBlock ≠ some y → w4.heap[y]? = wr.heap[y]? := fun y hy hn => by
        rw [hg4.block y (by have h2 := HTS.out.2.size; simp; omega) (fun e => hn e.symm)]
        exact (below_trans HTS.out.2 (below_alloc w3 _)).block y hy
      have htyp : ∀ y, (Value.slice aa k ac).ownBlock = some y → ∃ cur fr, wr.heap[y]? = some (.cells cur 9 fr) := fun y hy => by
        rcases HR.out.2 with ⟨e, _⟩ | ⟨g', cap, cur, e, _, hg', _⟩
        · rw [e] at hy; simp [Value.ownBlock] at hy
        · rw [e] at hy; simp [Value.ownBlock] at hy; subst hy; exact ⟨_, _, hg'⟩
      refine ⟨⟨k + 1, rfl, Nat.succ_le_of_lt hin, ?_, ?_, ?_, ?_⟩, ?_⟩
      · rw [List.take_add_one, planA_nth p k hin, ← HX.out]
        simp only [Option.toList_some, List.map_append, List.map_cons, List.map_nil, S]
        rw [← HTS.out.1]
        exact hr4
      · rw [hkeep g (blk_lt HK.out.1) (fun e => by obtain ⟨cur, fr, h⟩ := htyp g e; rw [HK.out.1] at h; injection h with h; injection h with _ h _; revert h; decide)]
        exact HK.out.1
      · rw [hkeep _ (blk_lt HK.out.2.1) (fun e => by obtain ⟨cur, fr, h⟩ := htyp _ e; rw [HK.out.2.1] at h; injection h with h; injection h with _ h _; revert h; decide)]
        exact HK.out.2.1
      · exact HK.out.2.2.trans ((((Below.refl _ wr).trans (HTS.out.2.mono HK.out.2.2.size)).alloc (by have h1 := HK.out.2.2.size; have h2 := HTS.out.2.size; omega) _).grown hg4 (by have h1 := HK.out.2.2.size; have h2 := HTS.out.2.size; simp; omega) (fun y hy => (HR.out.lt y hy).1))
      · simp [intOf]; omega
    · have hk7 : k = 7 := by omega
      have har := (own_ar hrow).1
      rw [hk7, show (planA p).take 7 = planA p from rfl] at har
      have HAL := appendLine_walk (tx_keep HT.out.1 hbel) har (Nat.le_trans HT.out.2.1 hbel.size) (wd := planW) (by have h1 := planT_len HT.out.2.2.1; have h2 := HT.out.2.2.2.2; show l.length + (planT p).length ≤ _; omega)
      simp only [S] at HAL
      rw [← hk7] at HAL
      have HAA : Hid (Calls Tryz.prog 39 #[.slice oa l.length oc, .string ⟨#[112, 108, 97, 110]⟩, .slice aa k ac] wr (TxGot base (l ++ planT p) wr)) := HAL
      have hki : (7 : Int) ≤ (k : Int) := by omega
      clear HAL har hgb hpb hrow hin hk hk7 hbel HG
      go_wp2_with fail
      refine HAA.out.mono ?_
      rintro e9 w5 ⟨v5, rfl, h5, h6, h7, h8⟩
      go_wp2_with fail
      go_ret
      exact ⟨_, rfl, h5, (HK.out.2.2.mono HT.out.2.1).trans h6, h7, (Kq.below HK.out.2.2).trans h8⟩
end Go.Proofs.YtkiplcmndpdifaaGreatDoor


