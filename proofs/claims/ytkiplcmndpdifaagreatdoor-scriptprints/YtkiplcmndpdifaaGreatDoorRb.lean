/- The reference's lines and parts: a text cut at its line ends, a line at its blanks. Printed by gen_rb22.py. -/
import Derived.Test.YtkiplcmndpdifaaGreatDoorRi

namespace Go.Proofs.YtkiplcmndpdifaaGreatDoor

open Go.RowKit



/-- What has been cut of T's first i bytes: the pieces ws, and what begins at a. -/
structure Sq (b : UInt8) (T : Bs) (i a : Nat) (ws : List Bs) : Prop where
  top : i ≤ T.length
  le : a ≤ i
  few : ws.length ≤ a
  cut' : splitB b T = ws ++ splitB b (T.drop a)
  no : ∀ (j : Nat) (c : UInt8), a ≤ j → j < i → T[j]? = some c → c ≠ b


theorem Sq.start (b : UInt8) (T : Bs) : Sq b T 0 0 [] := ⟨Nat.zero_le _, Nat.le_refl _, Nat.le_refl _, by simp, fun _ _ _ h => by omega⟩


theorem Sq.go {b : UInt8} {T : Bs} {i a : Nat} {ws : List Bs} {c : UInt8} (h : Sq b T i a ws) (hc : T[i]? = some c) (hn : c ≠ b) : Sq b T (i + 1) a ws := by
  have hl := (List.getElem?_eq_some_iff.1 hc).1
  refine ⟨hl, by have := h.le; omega, h.few, h.cut', fun j d h1 h2 h3 => ?_⟩
  by_cases e : j = i
  · subst e; rw [hc] at h3; cases h3; exact hn
  · exact h.no j d h1 (by omega) h3


theorem Sq.mem {b : UInt8} {T : Bs} {i a : Nat} {ws : List Bs} (h : Sq b T i a ws) : b ∉ (T.drop a).take (i - a) := by
  intro hm
  obtain ⟨j, hj, e⟩ := List.getElem_of_mem hm
  simp at hj
  refine h.no (a + j) b (by omega) (by omega) ?_ rfl
  rw [List.getElem?_eq_getElem (by omega), ← e]
  simp


theorem Sq.cut {b : UInt8} {T : Bs} {i a : Nat} {ws : List Bs} (h : Sq b T i a ws) (hc : T[i]? = some b) : Sq b T (i + 1) (i + 1) (ws ++ [(T.drop a).take (i - a)]) := by
  have hl := (List.getElem?_eq_some_iff.1 hc).1
  refine ⟨hl, Nat.le_refl _, by have := h.few; have := h.le; simp; omega, ?_, fun j d h1 h2 => by omega⟩
  have e2 : splitB b (T.drop a) = (T.drop a).take (i - a) :: splitB b (T.drop (i + 1)) := by
    conv => lhs; rw [drop_cut h.le hc]
    exact split_at h.mem
  rw [h.cut', e2]
  simp


theorem Sq.done {b : UInt8} {T : Bs} {i a : Nat} {ws : List Bs} (h : Sq b T i a ws) (hi : i = T.length) : splitB b T = ws ++ [T.drop a] := by
  have e : (T.drop a).take (i - a) = T.drop a := List.take_of_length_le (by simp; omega)
  have hm := h.mem
  rw [e] at hm
  rw [h.cut', split_none hm]


theorem ext_end {T : Bs} {a n : Nat} (hn : n = T.length) : (⟨T.toArray⟩ : ByteArray).extract a n = ⟨(T.drop a).toArray⟩ := by
  rw [ext_mid, List.take_of_length_le (by simp; omega)]


set_option maxRecDepth 100000 in
set_option maxHeartbeats 8000000 in
theorem rlines_walk (T : Bs) (w : World) (hT : T.length ≤ 262144) : Calls Tryz.prog 14 #[S T] w fun e w' => ∃ v, e = .returned v ∧ WR w.heap.size w' v (splitB 10 T) ∧ Below w.heap.size w w' := by
  obtain ⟨t, ht⟩ : ∃ t : ByteArray, t = ⟨T.toArray⟩ := ⟨_, rfl⟩
  obtain ⟨n, hn⟩ : ∃ n, n = T.length := ⟨_, rfl⟩
  have hsz : t.size = n := by rw [ht, size_mk, hn]
  have hnb : (n : Int) ≤ 262144 := by omega
  have HTT : Hid (t = ⟨T.toArray⟩ ∧ n = T.length ∧ n ≤ 262144) := ⟨ht, hn, by omega⟩
  show Calls _ _ #[.string _] _ _
  rw [← ht]
  obtain ⟨base, hbase⟩ : ∃ b, b = w.heap.size := ⟨_, rfl⟩
  have HBS : Hid (base = w.heap.size) := hbase
  clear ht hn hT hbase
  go_enter Tryz.func14, Tryz.ntmps14
  go_wp2_with fail
  go_loopw [3, 4, 5] (fun v3 v4 v5 wr => ∃ (i a : Nat) (ws : List Bs), v5 = .int .i64 i ∧ v4 = .int .i64 a ∧ WR base wr v3 ws ∧ Sq 10 T i a ws ∧ Below base w wr ∧ base ≤ wr.heap.size) (fun _ _ v5 _ => n - (intOf v5).toNat)
  case atStart => exact ⟨0, 0, [], rfl, rfl, WR.nil w (by have := HBS.out; omega), Sq.start 10 T, (Below.refl _ _).alloc (by have := HBS.out; omega) _, by rw [alloc_sz]; have := HBS.out; omega⟩
  case round =>
    obtain ⟨i, a, ws, rfl, rfl, hwr, hsq, hbel, hbs⟩ := hrel
    obtain ⟨ra, rc, hv, _, _⟩ := own_form21 hwr
    subst hv
    obtain ⟨k, hk⟩ : ∃ k, k = ws.length := ⟨_, rfl⟩
    rw [← hk] at hwr ⊢
    have HX : Hid (WR base wr (.slice ra k rc) ws ∧ Sq 10 T i a ws ∧ Below base w wr ∧ base ≤ wr.heap.size) := ⟨hwr, hsq, hbel, hbs⟩
    have htop := hsq.top
    have hle := hsq.le
    rw [← HTT.out.2.1] at htop
    clear hwr hsq hbel hbs hk
    by_cases hlt : i < n
    · have hli : (i : Int) < (n : Int) := by omega
      obtain ⟨c, hc⟩ : ∃ c, T[i]? = some c := ⟨_, List.getElem?_eq_getElem (by have := HTT.out.2.1; omega)⟩
      have hits : i < t.size := by omega
      have hct := get_mk HTT.out.1 hc hits
      have HC : Hid (T[i]? = some c) := hc
      clear hc
      by_cases hs : c = 10
      · have hq : (((t[i]'hits).toNat : Int) == 10) = true := by rw [hct, hs]; rfl
        have HS9 : Hid (Sq 10 T (i + 1) (i + 1) (ws ++ [(T.drop a).take (i - a)])) := HX.out.2.1.cut (by rw [← hs]; exact HC.out)
        clear hct hs
        go_wp2_with (at_builtin; refine wpl_app_word (base := base) ((T.drop a).take (i - a)) (t := t.extract a i) (by rw [HTT.out.1]; exact ext_mid) (by rfl) (.tmp 17) (.tmp 22) (by rfl) (by rfl) HX.out.1 (by rfl) (by have h1 := HX.out.2.1.few; have h2 := HTT.out.2.2; omega) HX.out.2.2.2 ?_; intro v2 w2 hr2 hb2 hs2)
        exact ⟨⟨i + 1, i + 1, _, by (congr 1), by (congr 1), hr2, HS9.out, HX.out.2.2.1.trans hb2, hs2⟩, by simp [intOf]; omega⟩
      · have hq : (((t[i]'hits).toNat : Int) == 10) = false := by
          rw [hct, beq_eq_false_iff_ne]
          intro e
          exact hs (UInt8.toNat_inj.1 (by have : c.toNat = 10 := by omega
                                          simpa using this))
        have HS9 : Hid (Sq 10 T (i + 1) a ws) := HX.out.2.1.go HC.out hs
        clear hct hs
        go_wp2_with fail
        exact ⟨⟨i + 1, a, ws, by (congr 1), rfl, HX.out.1, HS9.out, HX.out.2.2⟩, by simp [intOf]; omega⟩
    · have hni : ¬ (i : Int) < (n : Int) := by omega
      have HE : Hid (splitB 10 T = ws ++ [T.drop a]) := HX.out.2.1.done (by have := HTT.out.2.1; omega)
      have hle2 : (a : Int) ≤ (n : Int) := by omega
      have hle3 : a ≤ n := by omega
      go_wp2_with (at_builtin; refine wpl_app_word (base := base) (T.drop a) (t := t.extract a n) (by rw [HTT.out.1]; exact ext_end HTT.out.2.1) (by rfl) (.tmp 26) (.tmp 30) (by rfl) (by rfl) HX.out.1 (by rfl) (by have h1 := HX.out.2.1.few; have h2 := HTT.out.2.2; omega) HX.out.2.2.2 ?_; intro v2 w2 hr2 hb2 hs2; have HW2 := hidH hr2; have HB2 : Hid (Below base w w2) := HX.out.2.2.1.trans hb2; clear hr2 hb2 hs2)
      go_ret
      refine ⟨_, rfl, ?_, ?_⟩
      · rw [HE.out, ← HBS.out]; exact HW2.out
      · have := HB2.out
        rw [HBS.out] at this
        exact this


set_option maxRecDepth 100000 in
set_option maxHeartbeats 8000000 in
theorem rparts_walk (T : Bs) (w : World) (hT : T.length ≤ 262144) : Calls Tryz.prog 15 #[S T] w fun e w' => ∃ v, e = .returned v ∧ WR w.heap.size w' v (splitB 32 T) ∧ Below w.heap.size w w' := by
  obtain ⟨t, ht⟩ : ∃ t : ByteArray, t = ⟨T.toArray⟩ := ⟨_, rfl⟩
  obtain ⟨n, hn⟩ : ∃ n, n = T.length := ⟨_, rfl⟩
  have hsz : t.size = n := by rw [ht, size_mk, hn]
  have hnb : (n : Int) ≤ 262144 := by omega
  have HTT : Hid (t = ⟨T.toArray⟩ ∧ n = T.length ∧ n ≤ 262144) := ⟨ht, hn, by omega⟩
  show Calls _ _ #[.string _] _ _
  rw [← ht]
  obtain ⟨base, hbase⟩ : ∃ b, b = w.heap.size := ⟨_, rfl⟩
  have HBS : Hid (base = w.heap.size) := hbase
  clear ht hn hT hbase
  go_enter Tryz.func15, Tryz.ntmps15
  go_wp2_with fail
  go_loopw [3, 4, 5] (fun v3 v4 v5 wr => ∃ (i a : Nat) (ws : List Bs), v5 = .int .i64 i ∧ v4 = .int .i64 a ∧ WR base wr v3 ws ∧ Sq 32 T i a ws ∧ Below base w wr ∧ base ≤ wr.heap.size) (fun _ _ v5 _ => n - (intOf v5).toNat)
  case atStart => exact ⟨0, 0, [], rfl, rfl, WR.nil w (by have := HBS.out; omega), Sq.start 32 T, (Below.refl _ _).alloc (by have := HBS.out; omega) _, by rw [alloc_sz]; have := HBS.out; omega⟩
  case round =>
    obtain ⟨i, a, ws, rfl, rfl, hwr, hsq, hbel, hbs⟩ := hrel
    obtain ⟨ra, rc, hv, _, _⟩ := own_form21 hwr
    subst hv
    obtain ⟨k, hk⟩ : ∃ k, k = ws.length := ⟨_, rfl⟩
    rw [← hk] at hwr ⊢
    have HX : Hid (WR base wr (.slice ra k rc) ws ∧ Sq 32 T i a ws ∧ Below base w wr ∧ base ≤ wr.heap.size) := ⟨hwr, hsq, hbel, hbs⟩
    have htop := hsq.top
    have hle := hsq.le
    rw [← HTT.out.2.1] at htop
    clear hwr hsq hbel hbs hk
    by_cases hlt : i < n
    · have hli : (i : Int) < (n : Int) := by omega
      obtain ⟨c, hc⟩ : ∃ c, T[i]? = some c := ⟨_, List.getElem?_eq_getElem (by have := HTT.out.2.1; omega)⟩
      have hits : i < t.size := by omega
      have hct := get_mk HTT.out.1 hc hits
      have HC : Hid (T[i]? = some c) := hc
      clear hc
      by_cases hs : c = 32
      · have hq : (((t[i]'hits).toNat : Int) == 32) = true := by rw [hct, hs]; rfl
        have HS9 : Hid (Sq 32 T (i + 1) (i + 1) (ws ++ [(T.drop a).take (i - a)])) := HX.out.2.1.cut (by rw [← hs]; exact HC.out)
        clear hct hs
        go_wp2_with (at_builtin; refine wpl_app_word (base := base) ((T.drop a).take (i - a)) (t := t.extract a i) (by rw [HTT.out.1]; exact ext_mid) (by rfl) (.tmp 17) (.tmp 22) (by rfl) (by rfl) HX.out.1 (by rfl) (by have h1 := HX.out.2.1.few; have h2 := HTT.out.2.2; omega) HX.out.2.2.2 ?_; intro v2 w2 hr2 hb2 hs2)
        exact ⟨⟨i + 1, i + 1, _, by (congr 1), by (congr 1), hr2, HS9.out, HX.out.2.2.1.trans hb2, hs2⟩, by simp [intOf]; omega⟩
      · have hq : (((t[i]'hits).toNat : Int) == 32) = false := by
          rw [hct, beq_eq_false_iff_ne]
          intro e
          exact hs (UInt8.toNat_inj.1 (by have : c.toNat = 32 := by omega
                                          simpa using this))
        have HS9 : Hid (Sq 32 T (i + 1) a ws) := HX.out.2.1.go HC.out hs
        clear hct hs
        go_wp2_with fail
        exact ⟨⟨i + 1, a, ws, by (congr 1), rfl, HX.out.1, HS9.out, HX.out.2.2⟩, by simp [intOf]; omega⟩
    · have hni : ¬ (i : Int) < (n : Int) := by omega
      have HE : Hid (splitB 32 T = ws ++ [T.drop a]) := HX.out.2.1.done (by have := HTT.out.2.1; omega)
      have hle2 : (a : Int) ≤ (n : Int) := by omega
      have hle3 : a ≤ n := by omega
      go_wp2_with (at_builtin; refine wpl_app_word (base := base) (T.drop a) (t := t.extract a n) (by rw [HTT.out.1]; exact ext_end HTT.out.2.1) (by rfl) (.tmp 26) (.tmp 30) (by rfl) (by rfl) HX.out.1 (by rfl) (by have h1 := HX.out.2.1.few; have h2 := HTT.out.2.2; omega) HX.out.2.2.2 ?_; intro v2 w2 hr2 hb2 hs2; have HW2 := hidH hr2; have HB2 : Hid (Below base w w2) := HX.out.2.2.1.trans hb2; clear hr2 hb2 hs2)
      go_ret
      refine ⟨_, rfl, ?_, ?_⟩
      · rw [HE.out, ← HBS.out]; exact HW2.out
      · have := HB2.out
        rw [HBS.out] at this
        exact this
end Go.Proofs.YtkiplcmndpdifaaGreatDoor


