/- The law's bare, walked. Printed by gen_tg21.py. -/
import Derived.Test.YtonglpklobhpmaaDoorTf

namespace Go.Proofs.YtonglpklobhpmaaDoor

open Go.RowKit



theorem get_mk {T : Bs} {t : ByteArray} {a : Nat} {d : UInt8} (ht : t = ⟨T.toArray⟩) (hd : T[a]? = some d) (h : a < t.size) : t[a]'h = d := by
  subst ht
  obtain ⟨h1, h2⟩ := List.getElem?_eq_some_iff.1 hd
  show T.toArray[a] = d
  simpa using h2


theorem skip_head {T : Bs} {a i : Nat} {d : UInt8} (h : a < i) (hd : T[a]? = some d) : skipB ((T.drop a).take (i - a)) = (d == 35) := by
  obtain ⟨h1, h2⟩ := List.getElem?_eq_some_iff.1 hd
  rw [List.drop_eq_getElem_cons h1, h2, show i - a = (i - a - 1) + 1 by omega, List.take_succ_cons]
  rfl


theorem ext_mid {T : Bs} {a i : Nat} : (⟨T.toArray⟩ : ByteArray).extract a i = ⟨((T.drop a).take (i - a)).toArray⟩ := by
  rw [Lib.extract_eq]


set_option maxRecDepth 100000 in
set_option maxHeartbeats 8000000 in
theorem bare_text_walk {T : Bs} {w : World} (hT : T.length ≤ 262144) : Calls Tryd.prog 12 #[S T] w fun e w' => e = .returned (S (bareL (splitB 10 T))) ∧ Below w.heap.size w w' := by
  obtain ⟨t, ht⟩ : ∃ t : ByteArray, t = ⟨T.toArray⟩ := ⟨_, rfl⟩
  obtain ⟨n, hn⟩ : ∃ n, n = T.length := ⟨_, rfl⟩
  have hsz : t.size = n := by rw [ht, size_mk, hn]
  have HTT : Hid (t = ⟨T.toArray⟩ ∧ n = T.length ∧ T.length ≤ 262144) := ⟨ht, hn, hT⟩
  have hni : (n : Int) ≤ 262144 := by omega
  obtain ⟨iu, hiu, hu0, hu1, hu2⟩ := info_parts21 info_u8
  have HIU : Hid (Tryd.prog.info? 5 = some iu ∧ iu.zero = some (.int .u8 0) ∧ iu.size = 1 ∧ iu.bytes = 1) := ⟨hiu, hu0, hu1, hu2⟩
  obtain ⟨base, hbase⟩ : ∃ b, b = w.heap.size := ⟨_, rfl⟩
  rw [← hbase]
  show Calls _ _ #[.string _] _ _
  rw [← ht]
  have HBW : Hid (base ≤ w.heap.size) := by show _ ≤ _; omega
  clear hiu hu0 hu1 hu2 ht hn hT hbase
  go_enter Tryd.func12, Tryd.ntmps12
  go_wp2_with fail
  go_loopw [3, 4, 5] (fun v3 v4 v5 wr => ∃ (i a : Nat) (out : Bs), v5 = .int .i64 i ∧ v4 = .int .i64 a ∧ TX base wr v3 out ∧ Ba T i a out ∧ Below base w wr ∧ base ≤ wr.heap.size) (fun _ _ v5 _ => T.length + 1 - (intOf v5).toNat)
  case atStart => exact ⟨0, 0, [], rfl, rfl, World.ownsRow_nil _ _ _ _, Ba.start T, Below.refl _ _, HBW.out⟩
  case round =>
    obtain ⟨i, a, out, rfl, rfl, htx, hba, hbel, hbs⟩ := hrel
    obtain ⟨oa, oc, rfl, _, _⟩ := own_form21 htx
    obtain ⟨m, hm⟩ : ∃ m, m = out.length := ⟨_, rfl⟩
    rw [← hm] at htx ⊢
    have HM : Hid (m = out.length) := hm
    have HX : Hid (TX base wr (.slice oa m oc) out ∧ Ba T i a out ∧ Below base w wr ∧ base ≤ wr.heap.size) := ⟨htx, hba, hbel, hbs⟩
    have htop := hba.top
    have hal := hba.le
    have hml := hba.len
    rw [← hm] at hml
    rw [← HTT.out.2.1] at htop
    clear htx hba hbel hbs hm
    by_cases hin : i ≤ n
    · have hii : (i : Int) ≤ (n : Int) := by omega
      by_cases hlt : i < n
      · have hli : (i : Int) < (n : Int) := by omega
        obtain ⟨c, hc⟩ : ∃ c, T[i]? = some c := ⟨_, List.getElem?_eq_getElem (by have := HTT.out.2.1; omega)⟩
        have hits : i < t.size := by omega
        have hct := get_mk HTT.out.1 hc hits
        have HC : Hid (T[i]? = some c) := hc
        clear hc
        by_cases h10 : c = 10
        · have hq : (((t[i]'hits).toNat : Int) != 10) = false := by rw [hct, h10]; rfl
          have HEND : Hid (T[i]? = some 10 ∨ i = T.length) := .inl (by rw [← h10]; exact HC.out)
          clear hct h10
          by_cases hga : a < i
          · have hgai : (a : Int) < (i : Int) := by omega
            obtain ⟨d, hd⟩ : ∃ d, T[a]? = some d := ⟨_, List.getElem?_eq_getElem (by have := HTT.out.2.1; omega)⟩
            have hats : a < t.size := by omega
            have hdt := get_mk HTT.out.1 hd hats
            have HD : Hid (T[a]? = some d) := hd
            clear hd
            by_cases h35 : d = 35
            · have hq5 : (((t[a]'hats).toNat : Int) != 35) = false := by rw [hdt, h35]; rfl
              have HB9 : Hid (Ba T (i + 1) (i + 1) out) := by
                have h := HX.out.2.1.line (by have := HTT.out.2.1; omega) HEND.out
                rw [if_pos (by rw [skip_head hga HD.out, h35]; rfl), List.append_nil] at h
                exact h
              clear hdt h35
              go_wp2_with fail
              refine ⟨⟨i + 1, i + 1, out, by (congr 1), by (congr 1), HX.out.1, HB9.out, HX.out.2.2.1, HX.out.2.2.2⟩, by have := HTT.out.2.1; simp [intOf]; omega⟩
            · have hq5 : (((t[a]'hats).toNat : Int) != 35) = true := by
                rw [hdt, bne_iff_ne]
                intro e
                exact h35 (UInt8.toNat_inj.1 (by have : d.toNat = 35 := by omega
                                                 simpa using this))
              obtain ⟨L, hL⟩ : ∃ L, L = (T.drop a).take (i - a) := ⟨_, rfl⟩
              have hLl : L.length = i - a := by rw [hL]; simp; have := HTT.out.2.1; omega
              have HB9 : Hid (Ba T (i + 1) (i + 1) (out ++ L ++ [10])) := by
                have h := HX.out.2.1.line (by have := HTT.out.2.1; omega) HEND.out
                rw [if_neg (by rw [skip_head hga HD.out]; simpa using h35), ← hL, ← List.append_assoc] at h
                exact h
              have HEX : Hid (t.extract a i = ⟨L.toArray⟩ ∧ L.length = i - a ∧ (t.extract a i).size = i - a) := by
                have e : t.extract a i = ⟨L.toArray⟩ := by rw [HTT.out.1, hL]; exact ext_mid
                exact ⟨e, hLl, by rw [e, size_mk, hLl]⟩
              have HNB : Hid (m + (i - a) + 1 ≤ 262146) := by show _ ≤ _; omega
              clear hL hLl hdt h35
              go_wp2_with (first | (at_builtin; refine Lib.wpList_append_own_string _ (by rfl) (.tmp 31) (.tmp 35) 38 9 (by rfl) base 5 iu Tryd.underlying38 Tryd.underlying9 HIU.out.1 HIU.out.2.1 HIU.out.2.2.1 HIU.out.2.2.2 _ m (bc out) (by rfl) (by have h := HX.out.1; unfold TX at h; rw [← HM.out] at h; exact h) (t.extract a i) (by rfl) (by have h1 := HEX.out.2.2; have := HNB.out; rw [h1]; unfold maxLen; omega) (by have h1 := HEX.out.2.2; have := HNB.out; rw [h1]; omega) HX.out.2.2.2 ?_; intro v2 w2 hr2 hg2 _; rw [HEX.out.2.2] at hr2; obtain ⟨a2, c2, rfl, _, _⟩ := own_form21 hr2; have HX2 : Hid (TX base w2 (.slice a2 (m + (i - a)) c2) (out ++ L)) := (by show World.ownsRow _ _ _ _ _ _ _; rw [bc_app, List.length_append, ← HM.out, HEX.out.2.1, ← str_bc L, ← HEX.out.1]; exact hr2); have HG2 := hidH hg2; have HS2 : Hid (base ≤ w2.heap.size) := Nat.le_trans HX.out.2.2.2 hg2.size; have HXA : Hid (TX base (w2.alloc (.cells #[.int .u8 10] 5)) (.slice a2 (m + (i - a)) c2) (out ++ L)) := tx_keep HX2.out (below_alloc _ _); clear hr2 hg2) | (at_builtin; refine wpList_append_own _ (by rfl) (.tmp 37) (.tmp 38) 38 (by rfl) base 5 iu (.int .u8 0) 1 1 Tryd.underlying38 HIU.out.1 HIU.out.2.1 HIU.out.2.2.1 HIU.out.2.2.2 (by rfl) (by decide) _ (m + (i - a)) (bc (out ++ L)) (by rfl) (by have h := HXA.out; unfold TX at h; rw [List.length_append, ← HM.out, HEX.out.2.1] at h; exact h) ⟨w2.heap.size, 0, none⟩ 1 1 [.int .u8 10] (by rfl) (by rfl) (fun j u hj => by rw [WideShapes.add_plain, Nat.zero_add, blk_cell (alloc_at rfl)]; simpa using hj) (by intro u hu; simp at hu; subst hu; rfl) (by have := HNB.out; unfold maxLen; omega) (by have := HNB.out; omega) (by have := HS2.out; simp; omega) ?_; intro v3 w3 hr3 hg3 _; obtain ⟨a3, c3, rfl, _, _⟩ := own_form21 hr3))
              refine ⟨⟨i + 1, i + 1, out ++ L ++ [10], by (congr 1), by (congr 1), ?_, HB9.out, ?_, ?_⟩, by have := HTT.out.2.1; simp [intOf]; omega⟩
              · show World.ownsRow _ _ _ _ _ _ _
                rw [bc_app (out ++ L), List.length_append, List.length_append, ← HM.out, HEX.out.2.1]
                exact hr3
              · have h1 := (Below.refl base wr).grown HG2.out HX.out.2.2.2 (fun y hy => (HX.out.1.lt y hy).1)
                have h2 := (Below.refl base (w2.alloc (.cells #[.int .u8 10] 5))).grown hg3 (by have := HS2.out; simp; omega) (fun y hy => (HXA.out.lt y hy).1)
                exact ((HX.out.2.2.1.trans h1).alloc HS2.out _).trans h2
              · have h1 := HS2.out; have h2 := hg3.size; simp at h2; omega
          · have hgai : ¬ (a : Int) < (i : Int) := by omega
            have HB9 : Hid (Ba T (i + 1) (i + 1) out) := by
              have h := HX.out.2.1.line (by have := HTT.out.2.1; omega) HEND.out
              rw [if_pos (by rw [show i - a = 0 by omega, List.take_zero]; rfl), List.append_nil] at h
              exact h
            go_wp2_with fail
            refine ⟨⟨i + 1, i + 1, out, by (congr 1), by (congr 1), HX.out.1, HB9.out, HX.out.2.2.1, HX.out.2.2.2⟩, by have := HTT.out.2.1; simp [intOf]; omega⟩
        · have hq : (((t[i]'hits).toNat : Int) != 10) = true := by
            rw [hct, bne_iff_ne]
            intro e
            exact h10 (UInt8.toNat_inj.1 (by have : c.toNat = 10 := by omega
                                             simpa using this))
          have HG := HX.out.2.1.go HC.out h10
          have HGG : Hid (Ba T (i + 1) a out) := HG
          clear hct h10 HG
          go_wp2_with fail
          refine ⟨⟨i + 1, a, out, by (congr 1), rfl, ?_, HGG.out, HX.out.2.2.1, HX.out.2.2.2⟩, by have := HTT.out.2.1; simp [intOf]; omega⟩
          rw [HM.out]
          have h := HX.out.1
          rw [HM.out] at h
          exact h
      · have hli : ¬ (i : Int) < (n : Int) := by omega
        have HEND : Hid (T[i]? = some 10 ∨ i = T.length) := .inr (by have := HTT.out.2.1; omega)
        by_cases hga : a < i
        · have hgai : (a : Int) < (i : Int) := by omega
          obtain ⟨d, hd⟩ : ∃ d, T[a]? = some d := ⟨_, List.getElem?_eq_getElem (by have := HTT.out.2.1; omega)⟩
          have hats : a < t.size := by omega
          have hdt := get_mk HTT.out.1 hd hats
          have HD : Hid (T[a]? = some d) := hd
          clear hd
          by_cases h35 : d = 35
          · have hq5 : (((t[a]'hats).toNat : Int) != 35) = false := by rw [hdt, h35]; rfl
            have HB9 : Hid (Ba T (i + 1) (i + 1) out) := by
              have h := HX.out.2.1.line (by have := HTT.out.2.1; omega) HEND.out
              rw [if_pos (by rw [skip_head hga HD.out, h35]; rfl), List.append_nil] at h
              exact h
            clear hdt h35
            go_wp2_with fail
            refine ⟨⟨i + 1, i + 1, out, by (congr 1), by (congr 1), HX.out.1, HB9.out, HX.out.2.2.1, HX.out.2.2.2⟩, by have := HTT.out.2.1; simp [intOf]; omega⟩
          · have hq5 : (((t[a]'hats).toNat : Int) != 35) = true := by
              rw [hdt, bne_iff_ne]
              intro e
              exact h35 (UInt8.toNat_inj.1 (by have : d.toNat = 35 := by omega
                                               simpa using this))
            obtain ⟨L, hL⟩ : ∃ L, L = (T.drop a).take (i - a) := ⟨_, rfl⟩
            have hLl : L.length = i - a := by rw [hL]; simp; have := HTT.out.2.1; omega
            have HB9 : Hid (Ba T (i + 1) (i + 1) (out ++ L ++ [10])) := by
              have h := HX.out.2.1.line (by have := HTT.out.2.1; omega) HEND.out
              rw [if_neg (by rw [skip_head hga HD.out]; simpa using h35), ← hL, ← List.append_assoc] at h
              exact h
            have HEX : Hid (t.extract a i = ⟨L.toArray⟩ ∧ L.length = i - a ∧ (t.extract a i).size = i - a) := by
              have e : t.extract a i = ⟨L.toArray⟩ := by rw [HTT.out.1, hL]; exact ext_mid
              exact ⟨e, hLl, by rw [e, size_mk, hLl]⟩
            have HNB : Hid (m + (i - a) + 1 ≤ 262146) := by show _ ≤ _; omega
            clear hL hLl hdt h35
            go_wp2_with (first | (at_builtin; refine Lib.wpList_append_own_string _ (by rfl) (.tmp 31) (.tmp 35) 38 9 (by rfl) base 5 iu Tryd.underlying38 Tryd.underlying9 HIU.out.1 HIU.out.2.1 HIU.out.2.2.1 HIU.out.2.2.2 _ m (bc out) (by rfl) (by have h := HX.out.1; unfold TX at h; rw [← HM.out] at h; exact h) (t.extract a i) (by rfl) (by have h1 := HEX.out.2.2; have := HNB.out; rw [h1]; unfold maxLen; omega) (by have h1 := HEX.out.2.2; have := HNB.out; rw [h1]; omega) HX.out.2.2.2 ?_; intro v2 w2 hr2 hg2 _; rw [HEX.out.2.2] at hr2; obtain ⟨a2, c2, rfl, _, _⟩ := own_form21 hr2; have HX2 : Hid (TX base w2 (.slice a2 (m + (i - a)) c2) (out ++ L)) := (by show World.ownsRow _ _ _ _ _ _ _; rw [bc_app, List.length_append, ← HM.out, HEX.out.2.1, ← str_bc L, ← HEX.out.1]; exact hr2); have HG2 := hidH hg2; have HS2 : Hid (base ≤ w2.heap.size) := Nat.le_trans HX.out.2.2.2 hg2.size; have HXA : Hid (TX base (w2.alloc (.cells #[.int .u8 10] 5)) (.slice a2 (m + (i - a)) c2) (out ++ L)) := tx_keep HX2.out (below_alloc _ _); clear hr2 hg2) | (at_builtin; refine wpList_append_own _ (by rfl) (.tmp 37) (.tmp 38) 38 (by rfl) base 5 iu (.int .u8 0) 1 1 Tryd.underlying38 HIU.out.1 HIU.out.2.1 HIU.out.2.2.1 HIU.out.2.2.2 (by rfl) (by decide) _ (m + (i - a)) (bc (out ++ L)) (by rfl) (by have h := HXA.out; unfold TX at h; rw [List.length_append, ← HM.out, HEX.out.2.1] at h; exact h) ⟨w2.heap.size, 0, none⟩ 1 1 [.int .u8 10] (by rfl) (by rfl) (fun j u hj => by rw [WideShapes.add_plain, Nat.zero_add, blk_cell (alloc_at rfl)]; simpa using hj) (by intro u hu; simp at hu; subst hu; rfl) (by have := HNB.out; unfold maxLen; omega) (by have := HNB.out; omega) (by have := HS2.out; simp; omega) ?_; intro v3 w3 hr3 hg3 _; obtain ⟨a3, c3, rfl, _, _⟩ := own_form21 hr3))
            refine ⟨⟨i + 1, i + 1, out ++ L ++ [10], by (congr 1), by (congr 1), ?_, HB9.out, ?_, ?_⟩, by have := HTT.out.2.1; simp [intOf]; omega⟩
            · show World.ownsRow _ _ _ _ _ _ _
              rw [bc_app (out ++ L), List.length_append, List.length_append, ← HM.out, HEX.out.2.1]
              exact hr3
            · have h1 := (Below.refl base wr).grown HG2.out HX.out.2.2.2 (fun y hy => (HX.out.1.lt y hy).1)
              have h2 := (Below.refl base (w2.alloc (.cells #[.int .u8 10] 5))).grown hg3 (by have := HS2.out; simp; omega) (fun y hy => (HXA.out.lt y hy).1)
              exact ((HX.out.2.2.1.trans h1).alloc HS2.out _).trans h2
            · have h1 := HS2.out; have h2 := hg3.size; simp at h2; omega
        · have hgai : ¬ (a : Int) < (i : Int) := by omega
          have HB9 : Hid (Ba T (i + 1) (i + 1) out) := by
            have h := HX.out.2.1.line (by have := HTT.out.2.1; omega) HEND.out
            rw [if_pos (by rw [show i - a = 0 by omega, List.take_zero]; rfl), List.append_nil] at h
            exact h
          go_wp2_with fail
          refine ⟨⟨i + 1, i + 1, out, by (congr 1), by (congr 1), HX.out.1, HB9.out, HX.out.2.2.1, HX.out.2.2.2⟩, by have := HTT.out.2.1; simp [intOf]; omega⟩
    · have hii : ¬ (i : Int) ≤ (n : Int) := by omega
      have hfin := HX.out.2.1.fin (by have := HTT.out.2.1; omega)
      have HF : Hid (out = bareL (splitB 10 T)) := by
        have h := HX.out.2.1.eq
        have e : T.drop a = [] := List.drop_eq_nil_of_le (by omega)
        have e2 : bareL (splitB 10 []) = [] := rfl
        rw [e, e2, List.append_nil] at h
        exact h
      have hcv := tx_str HX.out.1
      rw [HF.out] at hcv
      clear hfin
      go_wp2_with fail
      go_ret
      exact ⟨rfl, HX.out.2.2.1⟩
end Go.Proofs.YtonglpklobhpmaaDoor


