/- Writing: a line. -/
import Derived.Test.YtkiplcmndpdifaaGreatDoorSr

import Derived.Lib.AppendStr

namespace Go.Proofs.YtkiplcmndpdifaaGreatDoor

open Go.RowKit



/-- Bytes as cells. -/
def bc (l : Bs) : List Value := l.map fun b => .int .u8 (b.toNat : Int)
theorem bc_app (a b : Bs) : bc (a ++ b) = bc a ++ bc b := by simp [bc]
theorem bc_len (a : Bs) : (bc a).length = a.length := by simp [bc]
theorem str_bc (l : Bs) : Lib.strCells (⟨l.toArray⟩ : ByteArray) = bc l := by simp [Lib.strCells, bc]


/-- A row of bytes of the call's own, from block `base` on. -/
def TX (base : Nat) (w : World) (v : Value) (l : Bs) : Prop := w.ownsRow base 5 1 v l.length (bc l)


/-- A slice of strings. -/
def AR (w : World) (v : Value) (xs : List Bs) : Prop :=
  (v = .slice none 0 0 ∧ xs = []) ∨ ∃ g cap cur, v = .slice (some ⟨g, 0, none⟩) xs.length cap ∧ w.heap[g]? = some (.cells cur 9 (0, 0)) ∧ ∀ i (h : i < xs.length), cur[i]? = some (S xs[i])


theorem info_u8 : (Tryz.prog.info? 5).map (fun i => (i.zero, i.size, i.bytes)) = some (some (.int .u8 0), 1, 1) := by kernel_rfl
theorem info_str : (Tryz.prog.info? 9).map (fun i => (i.zero, i.size, i.bytes)) = some (some (.string ⟨#[]⟩), 1, 16) := by kernel_rfl


theorem tx_block {base : Nat} {w : World} {v : Value} {l : Bs} (h : TX base w v l) {x : Nat} (hx : v.ownBlock = some x) : ∃ cur fr, w.heap[x]? = some (.cells cur 5 fr) := by
  obtain ⟨_, h2⟩ := h
  rcases h2 with ⟨rfl, _⟩ | ⟨g, cap, cur, rfl, hb, hg, _⟩
  · simp [Value.ownBlock] at hx
  · simp [Value.ownBlock] at hx
    subst hx
    exact ⟨_, _, hg⟩


theorem AR.grown {base : Nat} {w w' : World} {v av : Value} {l : Bs} {xs : List Bs} (h : AR w av xs) (ht : TX base w v l) (hg : w.grownBy w' v.ownBlock) : AR w' av xs := by
  rcases h with h | ⟨g, cap, cur, e, hb, hc⟩
  · exact .inl h
  · refine .inr ⟨g, cap, cur, e, ?_, hc⟩
    rw [hg.block g (blk_lt hb) (fun e => by
      obtain ⟨cur', fr, h'⟩ := tx_block ht e.symm
      rw [hb] at h'
      injection h' with h'
      injection h' with _ h' _
      revert h'
      decide)]
    exact hb


theorem AR.below {w w' : World} {av : Value} {xs : List Bs} (h : AR w av xs) (hb : Below w.heap.size w w') : AR w' av xs := by
  rcases h with h | ⟨g, cap, cur, e, hg, hc⟩
  · exact .inl h
  · exact .inr ⟨g, cap, cur, e, blk_below hg hb, hc⟩


theorem AR.form {w : World} {av : Value} {xs : List Bs} (h : AR w av xs) : ∃ ao cap, av = .slice ao xs.length cap := by
  rcases h with ⟨rfl, rfl⟩ | ⟨g, cap, cur, e, _⟩
  · exact ⟨none, 0, rfl⟩
  · exact ⟨_, _, e⟩


theorem join_snoc (b : UInt8) (ws : List Bs) (v : Bs) : joinB b (ws ++ [v]) = joinB b ws ++ b :: v := by
  induction ws with
  | nil => simp [joinB]
  | cons u us ih => simp [joinB, ih]


theorem join_app (b : UInt8) (xs ys : List Bs) : joinB b (xs ++ ys) = joinB b xs ++ joinB b ys := by
  induction xs with
  | nil => simp [joinB]
  | cons u us ih => simp [joinB, ih]


theorem join_count (b : UInt8) (xs : List Bs) : xs.length ≤ (joinB b xs).length := by
  induction xs with
  | nil => simp [joinB]
  | cons u us ih => simp [joinB]; omega


/-- What holds no bytes stays. -/
def Kq (w w' : World) : Prop := ∀ (x : Nat) (cur : Array Value) (t : TypeId) (fr : Nat × Nat), w.heap[x]? = some (.cells cur t fr) → t ≠ 5 → w'.heap[x]? = w.heap[x]?
theorem Kq.refl (w : World) : Kq w w := fun _ _ _ _ _ _ => rfl
theorem Kq.trans {a b c : World} (h : Kq a b) (k : Kq b c) : Kq a c := fun x cur t fr hx ht => by
  have h1 := h x cur t fr hx ht
  rw [k x cur t fr (by rw [h1]; exact hx) ht, h1]
theorem Kq.below {w w' : World} (hb : Below w.heap.size w w') : Kq w w' := fun x _ _ _ hx _ => hb.block x (blk_lt hx)
theorem Kq.grown {base : Nat} {w w' : World} {v : Value} {l : Bs} (ht : TX base w v l) (hg : w.grownBy w' v.ownBlock) : Kq w w' := fun x cur t fr hx hne => by
  refine hg.block x (blk_lt hx) (fun e => ?_)
  obtain ⟨cur', fr', h'⟩ := tx_block ht e.symm
  rw [hx] at h'
  injection h' with h'
  injection h' with _ h' _
  exact hne h'


/-- What a call that writes onto a text gives. -/
def TxGot (base : Nat) (t : Bs) (w : World) (e : Ending) (w' : World) : Prop := ∃ v, e = .returned v ∧ TX base w' v t ∧ Below base w w' ∧ base ≤ w'.heap.size ∧ Kq w w'


set_option maxRecDepth 100000 in
set_option maxHeartbeats 4000000 in
theorem appendLine_walk {base : Nat} {w : World} {tv av : Value} {l wd : Bs} {xs : List Bs} (ht : TX base w tv l) (ha : AR w av xs) (hb : base ≤ w.heap.size) (hl : l.length + (lineT wd xs).length ≤ 1099511627776) :
    Calls Tryz.prog 39 #[tv, S wd, av] w (TxGot base (l ++ lineT wd xs) w) := by
  obtain ⟨oa, oc, rfl, _, _⟩ := own_form21 ht
  obtain ⟨aa, ac, rfl⟩ := ha.form
  obtain ⟨iu, hiu, hu0, hu1, hu2⟩ := info_parts21 info_u8
  have HT : Hid (TX base w (.slice oa l.length oc) l) := ht
  have HA : Hid (AR w (.slice aa xs.length ac) xs) := ha
  have HB : Hid (base ≤ w.heap.size) := hb
  have HL : Hid (l.length + (lineT wd xs).length ≤ 1099511627776) := hl
  have HIU : Hid (Tryz.prog.info? 5 = some iu ∧ iu.zero = some (.int .u8 0) ∧ iu.size = 1 ∧ iu.bytes = 1) := ⟨hiu, hu0, hu1, hu2⟩
  obtain ⟨tw, htw⟩ : ∃ t : ByteArray, t = ⟨wd.toArray⟩ := ⟨_, rfl⟩
  have HTW : Hid (tw = ⟨wd.toArray⟩) := htw
  have HS1 : Hid (l.length + tw.size ≤ maxLen ∧ l.length + tw.size ≤ 140737488355328) := by
    rw [htw, size_mk]
    simp [lineT] at hl
    exact ⟨by unfold maxLen; omega, by omega⟩
  show Calls _ _ #[_, .string _, _] _ _
  rw [← htw]
  clear ht ha hb hl hiu hu0 hu1 hu2 htw
  go_enter Tryz.func39, Tryz.ntmps39
  go_wp2_with (at_builtin; refine Lib.wpList_append_own_string _ (by rfl) (.tmp 9) (.tmp 10) 60 9 (by rfl) base 5 iu Tryz.underlying60 Tryz.underlying9 HIU.out.1 HIU.out.2.1 HIU.out.2.2.1 HIU.out.2.2.2 _ l.length (bc l) (by rfl) HT.out tw (by rfl) HS1.out.1 HS1.out.2 HB.out ?_; intro v1 w1 hr1 hg1 _; obtain ⟨a1, c1, rfl, _, _⟩ := own_form21 hr1)
  obtain ⟨n1, hn1⟩ : ∃ n1, n1 = l.length + tw.size := ⟨_, rfl⟩
  have HX1 : Hid (TX base w1 (.slice a1 n1 c1) (l ++ wd)) := by
    show World.ownsRow _ _ _ _ _ _ _
    rw [hn1, bc_app, ← str_bc wd, ← HTW.out, List.length_append]
    have e : wd.length = tw.size := by rw [HTW.out, size_mk]
    rw [e]
    exact hr1
  have HA1 : Hid (AR w1 (.slice aa xs.length ac) xs) := HA.out.grown HT.out hg1
  have HB1 : Hid (Below base w w1 ∧ base ≤ w1.heap.size ∧ Kq w w1) := ⟨(Below.refl base w).grown hg1 HB.out (fun k hk => (HT.out.lt k hk).1), Nat.le_trans HB.out hg1.size, Kq.grown HT.out hg1⟩
  rw [← hn1]
  clear hr1 hg1 hn1
  go_loopw [0, 14] (fun v0 v14 wr => ∃ (k : Nat) (L : Bs), v14 = .int .i64 k ∧ k ≤ xs.length ∧ L = l ++ wd ++ joinB 32 (xs.take k) ∧ TX base wr v0 L ∧ AR wr (.slice aa xs.length ac) xs ∧ Below base w wr ∧ base ≤ wr.heap.size ∧ Kq w wr) (fun _ v14 _ => xs.length - (intOf v14).toNat)
  case atStart => exact ⟨0, _, rfl, by omega, by simp [joinB], HX1.out, HA1.out, HB1.out.1, HB1.out.2.1, HB1.out.2.2⟩
  case round =>
    obtain ⟨k, L, rfl, hk, hL, htx, har, hbel, hbs, hkq⟩ := hrel
    have HKQ := hidH hkq
    obtain ⟨oa2, oc2, rfl, _, _⟩ := own_form21 htx
    obtain ⟨n, hn⟩ : ∃ n, n = L.length := ⟨_, rfl⟩
    have hLL : L.length + (joinB 32 (xs.drop k) ++ [10]).length ≤ 1099511627776 := by
      have h := HL.out
      have e : (joinB 32 xs).length = (joinB 32 (xs.take k)).length + (joinB 32 (xs.drop k)).length := by rw [← List.length_append, ← join_app, List.take_append_drop]
      rw [hL]
      simp [lineT] at h ⊢
      omega
    have HTX : Hid (TX base wr (.slice oa2 n oc2) L) := by show TX _ _ _ _; rw [hn]; exact htx
    have HAR : Hid (AR wr (.slice aa xs.length ac) xs) := har
    have HBL : Hid (Below base w wr ∧ base ≤ wr.heap.size) := ⟨hbel, hbs⟩
    have HLD : Hid (L = l ++ wd ++ joinB 32 (xs.take k) ∧ n = L.length ∧ k ≤ xs.length) := ⟨hL, hn, hk⟩
    rw [← hn]
    have HLB : Hid (n + (joinB 32 (xs.drop k) ++ [10]).length ≤ 1099511627776) := by show _ ≤ _; rw [hn]; exact hLL
    clear htx har hbel hbs hkq hL hn hLL HX1 HA1 HB1
    by_cases hkn : k < xs.length
    · obtain ⟨u, hu⟩ : ∃ u, xs[k]? = some u := ⟨_, List.getElem?_eq_getElem hkn⟩
      obtain ⟨hi', hu'⟩ := List.getElem?_eq_some_iff.1 hu
      have hdrop : xs.drop k = u :: xs.drop (k + 1) := by rw [← hu', ← List.drop_eq_getElem_cons]
      obtain ⟨g, hg, cur, hcur, hcell⟩ : ∃ g, aa = some ⟨g, 0, none⟩ ∧ ∃ cur, wr.heap[g]? = some (.cells cur 9 (0, 0)) ∧ cur[k]? = some (S u) := by
        rcases HAR.out with ⟨_, rfl⟩ | ⟨g, cap, cur, e, hb, hc⟩
        · simp at hkn
        · injection e with e1 e2 e3
          exact ⟨g, e1, cur, hb, by rw [hc k hkn, hu']⟩
      subst hg
      obtain ⟨tu, htu⟩ : ∃ t : ByteArray, t = ⟨u.toArray⟩ := ⟨_, rfl⟩
      have cg : wr.cell? ⟨g, k, none⟩ = some (.string tu) := by rw [blk_cell hcur, hcell, htu]
      have HU : Hid (xs[k]? = some u ∧ tu = ⟨u.toArray⟩ ∧ tu.size = u.length) := ⟨hu, htu, by rw [htu, size_mk]⟩
      have HB2 : Hid (n + 1 + tu.size ≤ 1099511627776) := by
        have h := HLB.out
        rw [hdrop] at h
        have e := HU.out.2.2
        simp [joinB] at h
        show _ ≤ _
        omega
      have HTA : Hid (TX base (wr.alloc (.cells #[.int .u8 32] 5)) (.slice oa2 n oc2) L) := row_keep HTX.out fun x hx => (below_alloc wr _).block x (HTX.out.lt x hx).2
      have HAA : Hid (AR (wr.alloc (.cells #[.int .u8 32] 5)) (.slice (some ⟨g, 0, none⟩) xs.length ac) xs) := HAR.out.below (below_alloc wr _)
      have hgl : g < wr.heap.size := blk_lt hcur
      clear hu hi' hu' hdrop hcur hcell htu
      go_wp2_with (first | (at_builtin; refine wpList_append_own _ (by rfl) (.tmp 18) (.tmp 19) 60 (by rfl) base 5 iu (.int .u8 0) 1 1 Tryz.underlying60 HIU.out.1 HIU.out.2.1 HIU.out.2.2.1 HIU.out.2.2.2 (by rfl) (by decide) _ n (bc L) (by rfl) (by rw [HLD.out.2.1]; have h := HTA.out; rw [HLD.out.2.1] at h; exact h) ⟨wr.heap.size, 0, none⟩ 1 1 [.int .u8 32] (by rfl) (by rfl) (fun j u hj => by rw [WideShapes.add_plain, Nat.zero_add, blk_cell (alloc_at rfl)]; simpa using hj) (by intro u hu; simp at hu; subst hu; rfl) (by have := HB2.out; unfold maxLen; omega) (by have := HB2.out; omega) (by have := HBL.out.2; simp; omega) ?_; intro v2 w2 hr2 hg2 _; obtain ⟨a2, c2, rfl, _, _⟩ := own_form21 hr2; have HX2 : Hid (TX base w2 (.slice a2 (n + 1) c2) (L ++ [32])) := (by show World.ownsRow _ _ _ _ _ _ _; rw [bc_app, List.length_append, ← HLD.out.2.1]; exact hr2); have HG2 := hidH hg2; clear hr2 hg2) | (at_builtin; refine Lib.wpList_append_own_string _ (by rfl) (.tmp 21) (.tmp 22) 60 9 (by rfl) base 5 iu Tryz.underlying60 Tryz.underlying9 HIU.out.1 HIU.out.2.1 HIU.out.2.2.1 HIU.out.2.2.2 _ (n + 1) (bc (L ++ [32])) (by rfl) (by have h := HX2.out; unfold TX at h; rw [List.length_append, ← HLD.out.2.1] at h; exact h) tu (by rfl) (by have := HB2.out; unfold maxLen; omega) (by have := HB2.out; omega) (by have h1 := HBL.out.2; have h2 := HG2.out.size; simp at h2; omega) ?_; intro v3 w3 hr3 hg3 _; obtain ⟨a3, c3, rfl, _, _⟩ := own_form21 hr3))
      have HX3 : Hid (TX base w3 (.slice a3 (n + 1 + tu.size) c3) (L ++ [32] ++ u)) := by
        show World.ownsRow _ _ _ _ _ _ _
        rw [bc_app (L ++ [32]) u, ← str_bc u, ← HU.out.2.1, List.length_append, List.length_append, ← HLD.out.2.1, ← HU.out.2.2]
        exact hr3
      have HG3 := hidH hg3
      clear hr3 hg3
      have hw : wrap64 ((k : Int) + 1) = ((k + 1 : Nat) : Int) := by
        have h1 := join_count 32 xs
        have h2 := HL.out
        simp [lineT] at h2
        unfold wrap64
        omega
      rw [hw]
      have HJ : Hid (L ++ [32] ++ u = l ++ wd ++ joinB 32 (xs.take (k + 1))) := by
        show _ = _
        rw [HLD.out.1, List.take_add_one, HU.out.1, join_app]
        simp only [Option.toList_some, joinB, List.append_assoc, List.append_nil, List.cons_append, List.nil_append]
      clear hw
      refine ⟨⟨k + 1, L ++ [32] ++ u, rfl, Nat.succ_le_of_lt hkn, HJ.out, HX3.out, ?_, ?_, ?_, ((HKQ.out.trans (Kq.below (below_alloc wr _))).trans (Kq.grown HTA.out HG2.out)).trans (Kq.grown HX2.out HG3.out)⟩, ?_⟩
      · exact (HAA.out.grown HTA.out HG2.out).grown HX2.out HG3.out
      · have h1 := (Below.refl base (wr.alloc (.cells #[.int .u8 32] 5))).grown HG2.out (by have := HBL.out.2; simp; omega) (fun y hy => (HTA.out.lt y hy).1)
        have h2 := (Below.refl base w2).grown HG3.out (by have h1 := HBL.out.2; have h2 := HG2.out.size; simp at h2; omega) (fun y hy => (HX2.out.lt y hy).1)
        exact ((HBL.out.1.alloc HBL.out.2 _).trans h1).trans h2
      · have h1 := HBL.out.2; have h2 := HG2.out.size; have h3 := HG3.out.size; simp at h2; omega
      · simp [intOf]; omega
    · have hkk : k = xs.length := by have := HLD.out.2.2; omega
      have HLD2 : Hid (L = l ++ wd ++ joinB 32 xs) := by
        show _ = _
        rw [HLD.out.1, hkk, List.take_length]
      subst hkk
      have HB3 : Hid (n + 1 ≤ 1099511627776) := by have := HLB.out; simp at this; show _ ≤ _; omega
      clear hkn hk
      go_wp2_with (at_builtin; refine Lib.wpList_append_own_string _ (by rfl) (.tmp 25) _ 60 9 (by rfl) base 5 iu Tryz.underlying60 Tryz.underlying9 HIU.out.1 HIU.out.2.1 HIU.out.2.2.1 HIU.out.2.2.2 _ n (bc L) (by rfl) (by have h := HTX.out; unfold TX at h; rw [← HLD.out.2.1] at h; exact h) ⟨#[10]⟩ (by rfl) (by have := HB3.out; show n + 1 ≤ maxLen; unfold maxLen; omega) (by have := HB3.out; show n + 1 ≤ _; omega) HBL.out.2 ?_; intro v3 w3 hr3 hg3 _; obtain ⟨a3, c3, rfl, _, _⟩ := own_form21 hr3)
      go_ret
      refine ⟨_, rfl, ?_, ?_, ?_, HKQ.out.trans (Kq.grown HTX.out hg3)⟩
      · show World.ownsRow _ _ _ _ _ _ _
        have e : l ++ lineT wd xs = L ++ [10] := by rw [HLD2.out]; simp [lineT]
        rw [e, bc_app, List.length_append, ← HLD.out.2.1]
        exact hr3
      · exact HBL.out.1.trans ((Below.refl base wr).grown hg3 HBL.out.2 (fun y hy => (HTX.out.lt y hy).1))
      · exact Nat.le_trans HBL.out.2 hg3.size
end Go.Proofs.YtkiplcmndpdifaaGreatDoor


