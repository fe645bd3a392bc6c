/- ScriptMany, walked. -/
import Derived.Test.YtkiplcmndpdifaaDoorTk

import Derived.Test.YtkiplcmndpdifaaDoorUc

import Derived.Lib.SlBytesConst

import Derived.Lib.AppendZeros

namespace Go.Proofs.YtkiplcmndpdifaaDoor

open Go.RowKit

attribute [local go_sem] run_store_float


/-- A row of bytes: the call's own, or one without room whose block nobody else writes. -/
def Rq (base : Nat) (w : World) (v : Value) (l : Bs) : Prop :=
  TX base w v l ∨ ∃ g cur fr, v = .slice (some ⟨g, 0, none⟩) l.length l.length ∧ base ≤ g ∧ w.heap[g]? = some (.cells cur 5 fr) ∧ cur.toList = bc l


theorem Rq.form {base : Nat} {w : World} {v : Value} {l : Bs} (h : Rq base w v l) : ∃ ao cap, v = .slice ao l.length cap := by
  rcases h with h | ⟨g, cur, fr, rfl, _⟩
  · obtain ⟨a, c, e, _⟩ := own_form21 h
    exact ⟨a, c, e⟩
  · exact ⟨_, _, rfl⟩


theorem rq_cells {w : World} {g : Nat} {cur : Array Value} {t : TypeId} {fr : Nat × Nat} {l : Bs} (hg : w.heap[g]? = some (.cells cur t fr)) (hc : cur.toList = bc l) (j : Nat) (u : Value) (h : (bc l)[j]? = some u) : w.cell? ((⟨g, 0, none⟩ : Addr).add j) = some u := by
  rw [WideShapes.add_plain, Nat.zero_add, cell_of_row _ g j _ t fr hg, ← Array.getElem?_toList, hc]
  exact h


theorem strCells_bc (s : ByteArray) : Lib.strCells s = bc s.data.toList := by
  obtain ⟨a⟩ := s
  rw [← str_bc a.toList]


theorem rq_app {base : Nat} {w : World} {v : Value} {l : Bs} (h : Rq base w v l) (s : ByteArray) (hs : 0 < s.size) (hlen : l.length + s.size ≤ 262144) (hb : base ≤ w.heap.size) (ty : TypeId) :
    ∃ v' w', (Builtin.append_ #[36, 9] ty #[v, .string s]).run Tryd.prog w = .ok v' w' ∧ TX base w' v' (l ++ s.data.toList) ∧ Below base w w' ∧ base ≤ w'.heap.size := by
  obtain ⟨iu, hiu, hu0, hu1, hu2⟩ := info_parts21 info_u8
  have hsl : s.data.toList.length = s.size := Array.length_toList
  have hm : l.length + s.size ≤ maxLen := by unfold maxLen; omega
  rcases h with h | ⟨g, cur, fr, rfl, hbg, hg, hc⟩
  · obtain ⟨v', w', hr, hown, hgr, _⟩ := Lib.run_append_own_string (P := Tryd.prog) (w := w) base 36 9 ty 5 iu Tryd.underlying36 Tryd.underlying9 hiu hu0 hu1 hu2 v l.length (bc l) h s hm (by omega) hb
    refine ⟨v', w', hr, ?_, (Below.refl base w).grown hgr hb (fun y hy => (World.ownsRow.lt h y hy).1), Nat.le_trans hb hgr.size⟩
    unfold TX
    rw [bc_app, List.length_append, hsl, ← strCells_bc]
    exact hown
  · have hr := Lib.run_append_grow_string (P := Tryd.prog) w 36 9 ty 5 iu (.int .u8 0) Tryd.underlying36 Tryd.underlying9 hiu hu0 ⟨g, 0, none⟩ l.length l.length (bc l) (by rw [hu1, bc_len, Nat.mul_one]) (rq_cells hg hc) s (by omega) (by omega) (by rw [hu2]; exact growslice_fits (by omega) (by omega))
    refine ⟨_, _, hr, ?_, ((Below.refl base w).drew).alloc hb _, by rw [alloc_sz]; show base ≤ w.heap.size + 1; omega⟩
    have hlen2 : (bc l ++ Lib.strCells s).length = (l.length + s.size) * 1 := by rw [List.length_append, bc_len, Lib.strCells_length, Nat.mul_one]
    unfold TX
    rw [bc_app, List.length_append, hsl, ← strCells_bc]
    refine ⟨hlen2, .inr ⟨w.heap.size, _, _, rfl, hb, heap_alloc_new w.drew _, grownCap_ge _ _ _ _, grownCap_le_maxLen _ _ _ _ hm, ?_, ?_⟩⟩
    · have hz1 : (Value.int IntKind.u8 0).cells.size = 1 := rfl
      have hge := grownCap_ge w (l.length + s.size) l.length 5
      simp only [Array.size_append, List.size_toArray, size_zeroCells, hz1, bc_len, Lib.strCells_length]
      omega
    · simp only [Array.toList_append, List.append_assoc]
      rw [← List.append_assoc, ← hlen2]
      exact List.take_left


theorem rq_str {base : Nat} {w : World} {v : Value} {l : Bs} (h : Rq base w v l) : (convert 36 9 v).run Tryd.prog w = .ok (S l) w := by
  rcases h with h | ⟨g, cur, fr, rfl, hbg, hg, hc⟩
  · exact tx_str h
  · refine run_convert_bytes_back w 36 9 5 ⟨g, 0, none⟩ l.length l Tryd.underlying36 Tryd.underlying5 Tryd.underlying9 (fun j hj => ?_)
    refine rq_cells hg hc j _ ?_
    simp [bc, List.getElem?_eq_getElem hj]


theorem rq_hd (w : World) {base : Nat} (hb : base ≤ w.heap.size) : Rq base (w.alloc (.cells #[.int .u8 112, .int .u8 108, .int .u8 97, .int .u8 110, .int .u8 32, .int .u8 49, .int .u8 32, .int .u8 49, .int .u8 32, .int .u8 49, .int .u8 32, .int .u8 50, .int .u8 32, .int .u8 52, .int .u8 32, .int .u8 50, .int .u8 32, .int .u8 56, .int .u8 10] 5 (19, 20))) (.slice (some ⟨w.heap.size, 0, none⟩) 19 19) (manyT 0) :=
  .inr ⟨w.heap.size, _, _, rfl, hb, heap_alloc_new w _, rfl⟩


theorem tks_row {w : World} {g : Nat} {t : TypeId} {fr : Nat × Nat} (h : w.heap[g]? = some (.cells #[.int .i64 3, .int .i64 0, .int .i64 0, .int .u64 0, .float .f64 0] t fr)) (j : Nat) (u : Value) (hu : (stF tkS)[j]? = some u) : w.cell? ((⟨g, 0, none⟩ : Addr).add j) = some u := by
  rw [WideShapes.add_plain, Nat.zero_add, cell_of_row _ g j _ t fr h, ← Array.getElem?_toList]
  exact hu


theorem Rq.below {base : Nat} {w w' : World} {v : Value} {l : Bs} (h : Rq base w v l) (hb : Below w.heap.size w w') : Rq base w' v l := by
  rcases h with h | ⟨g, cur, fr, rfl, hbg, hg, hc⟩
  · exact .inl (tx_keep h hb)
  · exact .inr ⟨g, cur, fr, rfl, hbg, by rw [hb.block g (blk_lt hg)]; exact hg, hc⟩


theorem wpl_app_st {ops : Array Oper} {rest : List Oper} {o : Oper} {a : Act} {Q : Exit → Act → World → Prop} {base : Nat} {w : World} {v : Value} {n : Nat} {xs : List Value} (s : Sp) {g : Nat} {t : TypeId} {fr : Nat × Nat} (hgd : o.guard = none) (sl x : Operand)
    (ho : o.op = .call { callee := .builtin .append, args := #[sl, x], argTypes := #[25, 25] }) (hs : a.eval sl = v) (h : w.ownsRow base 43 5 v n xs) (hx : a.eval x = .slice (some ⟨g, 0, none⟩) 1 1) (hg : w.heap[g]? = some (.cells (stF s).toArray t fr)) (hlen : n ≤ 300000) (hb : base ≤ w.heap.size)
    (hK : ∀ v' w', w'.ownsRow base 43 5 v' (n + 1) (xs ++ stF s) → Below base w w' → base ≤ w'.heap.size → wpList Tryd.prog ops Q rest (a.put o.dst v') w') : wpList Tryd.prog ops Q (o :: rest) a w := by
  obtain ⟨i0, hi, hz0, hz1, hz2⟩ := info_parts21 info_st
  refine wpList_append_own _ hgd sl x 25 ho base 43 i0 _ 5 40 Tryd.underlying25 hi hz0 hz1 hz2 (by rfl) (by decide) v n xs hs h ⟨g, 0, none⟩ 1 1 (stF s) hx (by rfl) (fun j u hj => by rw [WideShapes.add_plain, Nat.zero_add, cell_of_row _ g j _ t fr hg]; simpa using hj) (by intro u hu; simp only [stF, List.mem_cons, List.not_mem_nil, or_false] at hu; rcases hu with rfl | rfl | rfl | rfl | rfl <;> rfl) (by unfold maxLen; omega) (by omega) hb ?_
  intro v' w' hr hgr _
  exact hK v' w' hr ((Below.refl base w).grown hgr hb (fun y hy => (World.ownsRow.lt h y hy).1)) (Nat.le_trans hb hgr.size)


theorem below_to {b : Nat} {w w1 w2 : World} (hb : b = w.heap.size) (h : Below b w w1) (k : Below w1.heap.size w1 w2) : Below b w w2 := h.trans (k.mono (by rw [hb]; exact h.size))


set_option maxRecDepth 100000 in
set_option maxHeartbeats 8000000 in
theorem many_walk {T : Bs} {over : Int} {w : World} (hTl : T.length ≤ maxLen) (ho : In64 over) (htb : Tb w) : Calls Tryd.prog 5 #[S T, .int .i64 over] w fun e w' => e = .returned (.bool true) ∧ Below w.heap.size w w' := by
  have HT : Hid (Tb w) := htb
  have HOV : Hid (In64 over) := ho
  obtain ⟨t, ht⟩ : ∃ t : ByteArray, t = ⟨T.toArray⟩ := ⟨_, rfl⟩
  obtain ⟨n, hn⟩ : ∃ n, n = T.length := ⟨_, rfl⟩
  have hsz : t.size = n := by rw [ht, size_mk, hn]
  have hnb : (n : Int) < 9223372036854775808 := by simp only [maxLen] at hTl; omega
  have HTT : Hid (t = ⟨T.toArray⟩ ∧ n = T.length) := ⟨ht, hn⟩
  show Calls _ _ #[.string _, _] _ _
  rw [← ht]
  obtain ⟨base, hbase⟩ : ∃ b, b = w.heap.size := ⟨_, rfl⟩
  have HBS : Hid (base = w.heap.size) := hbase
  clear ht hn htb ho hbase hTl
  go_enter Tryd.func5, Tryd.ntmps5
  go_wp2_with fail
  refine (awake_walk HT.out).mono ?_
  rintro e9 w1 ⟨rfl, hB1⟩
  have HB1 : Hid (Below w.heap.size w w1) := hB1
  clear hB1
  go_wp2_with fail
  go_loopw [5] (fun iv wr => ∃ k : Nat, k ≤ n ∧ iv = .int .i64 k ∧ wr = w1 ∧ ∀ (i : Nat) (c : UInt8), i < k → T[i]? = some c → c ≠ 10) (fun iv _ => n - (intOf iv).toNat)
  case atStart => exact ⟨0, Nat.zero_le _, rfl, rfl, fun i _ hi => by omega⟩
  case round =>
    obtain ⟨k, hk, rfl, hw, hno⟩ := hrel
    subst hw
    have HNO : Hid (∀ (i : Nat) (c : UInt8), i < k → T[i]? = some c → c ≠ 10) := hno
    clear hno
    by_cases hlt : k < n
    · have hli : (k : Int) < (n : Int) := by omega
      obtain ⟨c, hc⟩ : ∃ c, T[k]? = some c := ⟨_, List.getElem?_eq_getElem (by have := HTT.out.2; omega)⟩
      have hits : k < t.size := by omega
      have hct := get_mk HTT.out.1 hc hits
      have HC : Hid (T[k]? = some c) := hc
      clear hc
      by_cases h10 : c = 10
      · have hq : (((t[k]'hits).toNat : Int) == 10) = true := by rw [hct, h10]; rfl
        clear hct h10
        go_wp2_with fail
        go_ret
        exact ⟨rfl, HB1.out⟩
      · have hq : (((t[k]'hits).toNat : Int) == 10) = false := by
          rw [hct, beq_eq_false_iff_ne]
          intro e
          exact h10 (UInt8.toNat_inj.1 (by have : c.toNat = 10 := by omega
                                           simpa using this))
        have HNX : Hid (∀ (i : Nat) (c : UInt8), i < k + 1 → T[i]? = some c → c ≠ 10) := by
          intro i c' hi hc'
          by_cases e : i = k
          · subst e
            rw [HC.out] at hc'
            cases hc'
            exact h10
          · exact HNO.out i c' (by omega) hc'
        clear hct h10
        go_wp2_with fail
        exact ⟨⟨k + 1, by omega, by (congr 1), trivial, HNX.out⟩, by simp [intOf]; omega⟩
    · have hni : ¬ (k : Int) < (n : Int) := by omega
      have HN10 : Hid ((10 : UInt8) ∉ T) := no_ten fun i c hc => HNO.out i c (by have := (List.getElem?_eq_some_iff.1 hc).1; have := HTT.out.2; omega) hc
      clear HNO hnb
      cases hT : T with
      | nil =>
        have he : t.toList.isEmpty = true := by rw [HTT.out.1, hT]; exact emp_nil
        clear hT
        go_wp2_with fail
        go_ret
        exact ⟨rfl, HB1.out⟩
      | cons c l =>
        have he : t.toList.isEmpty = false := by rw [HTT.out.1, hT]; exact emp_cons _ _
        have hn0 : 0 < t.size := by rw [HTT.out.1, hT, size_mk]; simp
        have hct := get_mk HTT.out.1 (show T[0]? = some c by rw [hT]; rfl) hn0
        have HSK : Hid (skipB T = (c == 35)) := by rw [hT]; rfl
        clear hT
        by_cases h35 : c = 35
        · have hq : (((t[0]'hn0).toNat : Int) == 35) = true := by rw [hct, h35]; rfl
          clear hct h35
          go_wp2_with fail
          go_ret
          exact ⟨rfl, HB1.out⟩
        · have hq : (((t[0]'hn0).toNat : Int) == 35) = false := by
            rw [hct, beq_eq_false_iff_ne]
            intro e
            exact h35 (UInt8.toNat_inj.1 (by have : c.toNat = 35 := by omega
                                             simpa using this))
          have HSF : Hid (skipB T = false) := by show skipB T = false; rw [HSK.out, beq_eq_false_iff_ne]; exact h35
          clear hct h35 HSK
          by_cases h1000 : 1000 < n
          · have hi : (1000 : Int) < (n : Int) := by omega
            clear h1000
            go_wp2_with fail
            go_ret
            exact ⟨rfl, HB1.out⟩
          · have hi : ¬ (1000 : Int) < (n : Int) := by omega
            have hcv := fun (w : World) (C : Array Value) (n c : Nat) => Lib.run_convert_bytes_const (P := Tryd.prog) w 36 5 C n c Tryd.underlying36 Tryd.underlying5
            have HBL : Hid (n ≤ 1000) := by show n ≤ 1000; omega
            clear h1000
            go_wp2_with fail
            go_loopw [6, 7] (fun v6 v7 wq => ∃ i : Nat, i ≤ 4096 ∧ v7 = .int .i64 i ∧ Rq base wq v6 (manyT i) ∧ Below base w wq ∧ base ≤ wq.heap.size) (fun _ v7 _ => 4096 - (intOf v7).toNat)
            case atStart =>
              have h1 := HBS.out
              have h2 := HB1.out.size
              exact ⟨0, by omega, rfl, rq_hd _ (by omega), ((HB1.out.mono (by omega)).alloc (by omega) _), by rw [alloc_sz]; omega⟩
            case round =>
              obtain ⟨i, hi4, rfl, hrq, hbq, hsq⟩ := hrel
              have HX : Hid (Rq base wr _ (manyT i) ∧ Below base w wr ∧ base ≤ wr.heap.size) := ⟨hrq, hbq, hsq⟩
              obtain ⟨ra, rc, rfl⟩ := hrq.form
              obtain ⟨L, hL⟩ : ∃ L, L = (manyT i).length := ⟨_, rfl⟩
              rw [← hL] at HX ⊢
              have HL : Hid (L = 19 + i * 5) := by show L = _; rw [hL, many_len]
              clear hrq hbq hsq hL
              by_cases hlt : i < 4096
              · have hli : (i : Int) < 4096 := by omega
                obtain ⟨v', w', hr, htx, hb', hs'⟩ := rq_app HX.out.1 ⟨#[116, 105, 99, 107, 10]⟩ (by decide) (by rw [many_len]; show _ + 5 ≤ _; omega) HX.out.2.2 36
                have HX2 : Hid (Rq base w' v' (manyT (i + 1)) ∧ Below base w w' ∧ base ≤ w'.heap.size) := ⟨.inl (by rw [many_succ]; exact htx), HX.out.2.1.trans hb', hs'⟩
                clear htx hb' hs'
                go_wp2_with (at_builtin; refine Lib.wpList_append_run _ (by rfl) (.tmp 46) _ 36 9 (by rfl) _ _ (by rfl) (by rfl) v' w' hr ?_)
                exact ⟨⟨i + 1, by omega, by (congr 1), HX2.out⟩, by simp [intOf]; omega⟩
              · have hni4 : ¬ (i : Int) < 4096 := by omega
                have HI : Hid (i = 4096) := by show i = 4096; omega
                have hlen4 : ((i : Int) != 4096) = false := by rw [HI.out]; rfl
                obtain ⟨u, hu⟩ : ∃ u : ByteArray, u = ⟨(manyT i).toArray⟩ := ⟨_, rfl⟩
                have hcs : (convert 36 9 (.slice ra L rc)).run Tryd.prog wr = .ok (.string u) wr := by rw [hu]; exact rq_str HX.out.1
                have HPA : Hid (Calls Tryd.prog 9 #[.string u] wr (ParseGot (.ok ⟨true, awP, [], List.replicate i tkS⟩) wr)) := by
                  rw [hu, ← many_read i hi4]
                  exact parse_walk _ _ (HT.out.below (by have := HX.out.2.1; rw [HBS.out] at this; exact this))
                have HU : Hid (u = ⟨(manyT i).toArray⟩) := hu
                clear hu hlt hi4
                go_wp2_with fail
                refine HPA.out.mono ?_
                rintro e9 w3 ⟨ov2, sv2, rfl, ho2, hs2, _, hB3⟩
                dsimp only at ho2 hs2 ⊢
                rw [List.length_replicate] at hs2
                have HB3 : Hid (Below wr.heap.size wr w3) := hB3
                obtain ⟨oa2, oc2, rfl, _, _⟩ := own_form21 ho2
                obtain ⟨sa2, sc2, rfl, _, _⟩ := own_form21 hs2
                have HS2 := hidH hs2
                clear ho2 hs2 hB3 HPA hcs
                simp only [PlV, awP, List.length_nil]
                obtain ⟨u1, hu1⟩ : ∃ u : ByteArray, u = ⟨(manyT i ++ [10]).toArray⟩ := ⟨_, rfl⟩
                obtain ⟨u2, hu2⟩ : ∃ u : ByteArray, u = ⟨(manyT i ++ [10] ++ T).toArray⟩ := ⟨_, rfl⟩
                obtain ⟨u3, hu3⟩ : ∃ u : ByteArray, u = ⟨(manyT i ++ [10] ++ T ++ [10]).toArray⟩ := ⟨_, rfl⟩
                have hLL : (manyT i).length ≤ 30000 := by rw [many_len, HI.out]; omega
                have hTL : T.length ≤ 1000 := by have := HTT.out.2; have := HBL.out; omega
                have a1 : ∀ wx, (Op.stringOp .add u ⟨#[10]⟩).run Tryd.prog wx = .ok (.string u1) wx := fun wx => by rw [HU.out, hu1]; exact run_add (manyT i) [10] (by simp; omega) wx
                have a2 : ∀ wx, (Op.stringOp .add u1 t).run Tryd.prog wx = .ok (.string u2) wx := fun wx => by rw [hu1, hu2, HTT.out.1]; exact run_add _ T (by simp; omega) wx
                have a3 : ∀ wx, (Op.stringOp .add u2 ⟨#[10]⟩).run Tryd.prog wx = .ok (.string u3) wx := fun wx => by rw [hu2, hu3]; exact run_add _ [10] (by simp; omega) wx
                obtain ⟨K, hK⟩ : ∃ K, K = i + 3 := ⟨_, rfl⟩
                have hK9 : ((K : Int) != 4099) = false := by rw [hK, HI.out]; rfl
                have HPB : Hid (∀ wx, Below wr.heap.size wr wx → Calls Tryd.prog 9 #[.string u3] wx (ParseGot (.error (K, 212)) wx)) := by
                  intro wx hwx
                  have e := many_more HI.out HN10.out HSF.out hTL
                  rw [hu3, hK, ← e, show manyT i ++ [10] ++ T ++ [10] = manyT i ++ 10 :: (T ++ [10]) by simp]
                  exact parse_walk _ _ (HT.out.below (by have := below_to HBS.out HX.out.2.1 hwx; rw [HBS.out] at this; exact this))
                have hcs : ∀ ov, (convert 36 9 (.slice ra L rc)).run Tryd.prog (w3.alloc (.cells #[.int .i64 1, .int .i64 1, .int .i64 1, ov, .int .i64 2, .int .i64 4, .int .i64 2, .int .i64 8] 24)) = .ok (.string u) (w3.alloc (.cells #[.int .i64 1, .int .i64 1, .int .i64 1, ov, .int .i64 2, .int .i64 4, .int .i64 2, .int .i64 8] 24)) := fun ov => by
                  rw [HU.out]
                  exact rq_str (HX.out.1.below (below_trans HB3.out (below_alloc _ _)))
                clear hu1 hu2 hu3 hLL hTL hK
                go_wp2_with fail
                refine (HPB.out _ (below_trans HB3.out (below_alloc _ _))).mono ?_
                rintro e9 w4 ⟨rfl, hB4⟩
                have HB4 : Hid (Below w3.heap.size w3 w4) := below_trans (below_alloc _ _) hB4
                clear hB4 HPB hcs a1 a2 a3
                simp only [PlV, Pl.zero]
                have HS4 : Hid (∀ wx, Below w4.heap.size w4 wx → wx.ownsRow wr.heap.size 43 5 (.slice sa2 i sc2) i (stsF (List.replicate i tkS))) := fun wx hwx => row_keep HS2.out fun x hx => (below_trans HB4.out hwx).block x (HS2.out.lt x hx).2
                have HSZ : Hid (wr.heap.size ≤ w4.heap.size) := Nat.le_trans HB3.out.size HB4.out.size
                clear HS2
                go_upto_region 22 with (first | (at_builtin; refine wpl_app_st (base := wr.heap.size) tkS (by rfl) (.tmp 93) (.tmp 95) (by rfl) (by rfl) (HS4.out _ (below_trans (below_alloc _ _) (below_alloc _ _))) (by rfl) (alloc_at (alloc_sz _ _).symm) (by have := HI.out; omega) (by rw [alloc_sz, alloc_sz]; have := HSZ.out; omega) ?_; intro v5 w5 hr5 hb5 hs5))
                have e1 : (List.replicate i tkS ++ [tkS]).length = i + 1 := by rw [List.length_append, List.length_replicate, List.length_singleton]
                have e2 : (List.replicate i tkS ++ [tkS]).flatMap stF = stsF (List.replicate i tkS) ++ stF tkS := by rw [List.flatMap_append]; rfl
                have hg5 : SVw w5 v5 (List.replicate i tkS ++ [tkS]) := own_gv (f := stF) (n := 5) (l := List.replicate i tkS ++ [tkS]) (fun _ => rfl) (by rw [e1, e2]; exact hr5)
                have HB5 : Hid (Below base w w5) := by
                  have h1 : Below wr.heap.size wr w5 := ((below_trans (below_trans (below_trans HB3.out HB4.out) (below_alloc _ _)) (below_alloc _ _))).trans hb5
                  exact below_to HBS.out HX.out.2.1 h1
                have HPR := print_walk (p := ⟨over, 0, 0, 0, 0, 0, 0⟩) (ops := []) (sts := List.replicate i tkS ++ [tkS]) (ov := .slice none 0 0) (sv := v5) (w := w5) (ov_nil _) hg5 ⟨HOV.out, by simp [In64], by simp [In64], by simp [In64], by simp [In64], by simp [In64], by simp [In64]⟩ none_ok (fun x hx => by
                  rcases List.mem_append.1 hx with hx | hx
                  · exact tk_ok i x hx
                  · rw [List.mem_singleton.1 hx]; exact tkS_ok) (HT.out.below (by have := HB5.out; rw [HBS.out] at this; exact this))
                simp only [PlV] at HPR
                refine HPR.mono ?_
                clear HPR
                intro e9 w6 h
                unfold PrintGot at h
                rw [(many_print over HI.out).1, (many_print over HI.out).2] at h
                obtain ⟨rfl, hB6⟩ := h
                have HB6 : Hid (Below w.heap.size w w6) := by have := below_to HBS.out HB5.out hB6; rw [HBS.out] at this; exact this
                clear hB6 e1 e2 hg5 hr5 hb5 hs5
                simp only [S]
                go_wp2_with fail
                go_ret
                exact ⟨rfl, HB6.out⟩
end Go.Proofs.YtkiplcmndpdifaaDoor


