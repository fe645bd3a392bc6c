/- strings.Cut at a line's end; lines. -/
import Derived.Test.YtkiplcmndpdifaaGreatDoorSn

namespace Go.Proofs.YtkiplcmndpdifaaGreatDoor

open Go.RowKit Go.Shelf



theorem sib_walk (l : Bs) (w : World) : Calls Tryz.prog 90 #[S l, .int .u8 10] w fun e w' => e = .returned (.int .i64 (Lib.indexByte l 10)) ∧ w' = w :=
  Any.stringslite_IndexByte lays217 ⟨l.toArray⟩ 10 w


theorem idx_one (wx : World) : (Instr.index 9 (.string ⟨#[10]⟩) (.int .i64 0)).run Tryz.prog wx = .ok (.int .u8 10) wx := by
  rw [run_index_string wx 9 _ .i64 0 Tryz.underlying9]
  rfl


set_option maxRecDepth 20000 in
set_option maxHeartbeats 2000000 in
theorem sindex_walk (L : Bs) (w : World) : Calls Tryz.prog 74 #[S L, .string ⟨#[10]⟩] w fun e w' => e = .returned (.int .i64 (Lib.indexByte L 10)) ∧ w' = w := by
  by_cases h1 : L = [10]
  · subst h1
    have hq : ((⟨#[10]⟩ : ByteArray).toList == (⟨([10] : Bs).toArray⟩ : ByteArray).toList) = true := beq_self_eq_true _
    go_enter Tryz.func74, Tryz.ntmps74
    go_wp2_with fail
    go_ret
    exact ⟨rfl, rfl⟩
  · obtain ⟨t, ht⟩ : ∃ t : ByteArray, t = ⟨L.toArray⟩ := ⟨_, rfl⟩
    have hq : (([10] : Bs) == t.toList) = false := by rw [ht, ByteArray.toList_eq, beq_eq_false_iff_ne]; simpa using fun e => h1 e.symm
    have HI := sib_walk L w
    simp only [S] at HI ⊢
    rw [← ht] at HI ⊢
    have HII : Hid (Calls Tryz.prog 90 #[.string t, .int .u8 10] w fun e w' => e = .returned (.int .i64 (Lib.indexByte L 10)) ∧ w' = w) := HI
    have hx := idx_one
    clear HI h1 ht
    go_enter Tryz.func74, Tryz.ntmps74
    go_wp2_with fail
    refine HII.out.mono ?_
    rintro e9 w9 ⟨rfl, hw9⟩
    replace hw9 := hw9.symm
    subst hw9
    go_wp2_with fail
    go_ret
    exact ⟨rfl, rfl⟩


theorem index_none10 (l : Bs) (h : (10 : UInt8) ∉ l) : Lib.indexByte l 10 = -1 := by
  induction l with
  | nil => rfl
  | cons c l ih =>
    have hc : ¬ c = 10 := fun e => h (by simp [e])
    have := ih (fun e => h (by simp [e]))
    simp [Lib.indexByte, hc, this]


/-- The rest behind a first line. -/
def restL : List Bs → Bs
  | [] => []
  | u :: us => u ++ joinB 10 us


theorem ext_tail2 (v t : Bs) : (⟨(v ++ 10 :: t).toArray⟩ : ByteArray).extract (v.length + 1) (v ++ 10 :: t).length = ⟨t.toArray⟩ := by
  rw [Lib.extract_eq]
  simp
  exact List.take_of_length_le (by omega)


set_option maxHeartbeats 2000000 in
theorem scut_walk (v : Bs) (ls : List Bs) (hv : (10 : UInt8) ∉ v) (hl : (v ++ joinB 10 ls).length ≤ 262144) (w : World) :
    Calls Tryz.prog 58 #[S (v ++ joinB 10 ls), .string ⟨#[10]⟩] w fun e w' => e = .returned (.tuple #[S v, S (restL ls), .bool (!ls.isEmpty)]) ∧ Below w.heap.size w w' := by
  cases ls with
  | nil =>
    have hi := index_none10 v hv
    simp only [joinB, List.append_nil] at hl ⊢
    go_enter Tryz.func58, Tryz.ntmps58
    go_wp2_with fail
    refine (sindex_walk v w).mono ?_
    rintro e w' ⟨rfl, rfl⟩
    rw [hi]
    go_wp2_with fail
    go_ret3
    exact ⟨rfl, Below.refl _ _⟩
  | cons u us =>
    obtain ⟨t, ht⟩ : ∃ t, u ++ joinB 10 us = t := ⟨_, rfl⟩
    have hj : joinB 10 (u :: us) = 10 :: t := by rw [← ht]; rfl
    have hi : Lib.indexByte (v ++ 10 :: t) 10 = v.length := index_at 10 v _ hv
    have hrest : restL (u :: us) = t := ht
    rw [hj] at hl ⊢
    rw [hrest]
    obtain ⟨L, hL⟩ : ∃ L, v ++ 10 :: t = L := ⟨_, rfl⟩
    obtain ⟨n, hn⟩ : ∃ n, v.length = n := ⟨_, rfl⟩
    have hsz : (⟨L.toArray⟩ : ByteArray).size = L.length := size_mk L
    have hle : n + 1 ≤ L.length := by rw [← hL, ← hn]; simp
    have hlm : L.length ≤ 262144 := by rw [← hL]; exact hl
    have e1 : ∀ wx, (Instr.slice 9 (S L) none (some (.int .i64 (n : Int))) none).run Tryz.prog wx = .ok (S v) wx := fun wx => by
      rw [run_slice_string_h wx 9 _ Tryz.underlying9 .i64 (n : Int) (by omega) (by rw [hsz]; omega), show ((n : Int)).toNat = n by omega, ← hL, ← hn, ext_head]
    have e2 : ∀ wx, (Instr.slice 9 (S L) (some (.int .i64 (IntKind.i64.wrap ((n : Int) + 1)))) none none).run Tryz.prog wx = .ok (S t) wx := fun wx => by
      rw [show IntKind.i64.wrap ((n : Int) + 1) = (n : Int) + 1 by rw [IntKind.wrap_i64]; omega]
      rw [run_slice_string_l wx 9 _ Tryz.underlying9 .i64 ((n : Int) + 1) (by omega) (by rw [hsz]; omega), show ((n : Int) + 1).toNat = n + 1 by omega, hsz, ← hL, ← hn, ext_tail2]
    have hi' : Lib.indexByte L 10 = (n : Int) := by rw [← hL, hi, hn]
    have hn0 : (0 : Int) ≤ (n : Int) := by omega
    rw [hL]
    clear hi hL hn hsz hle ht hl hv hj hrest hlm
    simp only [S] at e1 e2 ⊢
    have HI := sindex_walk L w
    simp only [S, hi'] at HI
    have HII : Hid (Calls Tryz.prog 74 #[.string ⟨L.toArray⟩, .string ⟨#[10]⟩] w fun e w' => e = .returned (.int .i64 (n : Int)) ∧ w' = w) := HI
    clear HI hi'
    go_enter Tryz.func58, Tryz.ntmps58
    go_wp2_with fail
    refine HII.out.mono ?_
    rintro e w' ⟨rfl, rfl⟩
    go_wp2_with fail
    go_region_with fail
    go_wp2_with fail
    go_simp
    go_ret3
    exact ⟨rfl, below_drew _⟩


theorem cut_walk (v : Bs) (ls : List Bs) (hv : (10 : UInt8) ∉ v) (hl : (v ++ joinB 10 ls).length ≤ 262144) (w : World) :
    Calls Tryz.prog 46 #[S (v ++ joinB 10 ls), .string ⟨#[10]⟩] w fun e w' => e = .returned (.tuple #[S v, S (restL ls), .bool (!ls.isEmpty)]) ∧ Below w.heap.size w w' := by
  have HI := scut_walk v ls hv hl w
  obtain ⟨t, ht⟩ : ∃ t : ByteArray, t = ⟨(v ++ joinB 10 ls).toArray⟩ := ⟨_, rfl⟩
  obtain ⟨t1, ht1⟩ : ∃ t : ByteArray, t = ⟨v.toArray⟩ := ⟨_, rfl⟩
  obtain ⟨t2, ht2⟩ : ∃ t : ByteArray, t = ⟨(restL ls).toArray⟩ := ⟨_, rfl⟩
  obtain ⟨bb, hbb⟩ : ∃ bb, bb = !ls.isEmpty := ⟨_, rfl⟩
  simp only [S] at HI ⊢
  rw [← ht, ← ht1, ← ht2, ← hbb] at HI ⊢
  have HII : Hid (Calls Tryz.prog 58 #[.string t, .string ⟨#[10]⟩] w fun e w' => e = .returned (.tuple #[.string t1, .string t2, .bool bb]) ∧ Below w.heap.size w w') := HI
  clear HI ht ht1 ht2 hbb hl hv
  go_enter Tryz.func46, Tryz.ntmps46
  go_wp2_with fail
  refine HII.out.mono ?_
  rintro e w' ⟨rfl, hB⟩
  go_wp2_with fail
  go_ret3
  exact ⟨rfl, hB⟩


set_option maxHeartbeats 1000000 in
theorem lines_walk (t : ByteArray) (w : World) : Calls Tryz.prog 28 #[.string t] w fun e w' => e = .returned (.func (.func 45) #[] #[.pointer (some ⟨w.heap.size, 0, none⟩)]) ∧ w' = w.alloc (.cells #[.string t] 9) := by
  go_enter Tryz.func28, Tryz.ntmps28
  go_wp2_with fail
  go_ret
  exact ⟨rfl, rfl⟩


theorem ch_put {w : World} {l : Nat} (o : Obj) : Ch (fun x => x = l) w (w.putObj l o) :=
  ⟨rfl, rfl, rfl, by simp, fun k _ hk => World.putObj_heap_other hk⟩


/-- What holds between two rounds: the lines ls are left, the next one has the number n, s has been read. -/
structure Li (w1 : World) (B R l D bR : Nat) (rc : Loop) (N : Nat) (A : Except (Nat × Int) Rs) (ls : List Bs) (n : Nat) (s : Rs) (W : World) : Prop where
  rm : ∃ ln ws fa ov sv M, RM B R ⟨ln, ws, fa, s⟩ ov sv M W ∧ (ls = [] → ln = (N : Int))
  lp : W.heap[l]? = some (.loop rc)
  df : W.heap[D]? = some (.deferred (some []))
  bx : W.heap[bR]? = some (.cells #[.pointer (some ⟨R, 0, none⟩)] 42 (0, 0))
  ch : Ch (fun x => x = R ∨ x = l ∨ B ≤ x) w1 W
  num : n + ls.length = N + 1
  res : A = readL n ls s
  st : s.sts.length ≤ 4096
  op : s.ops.length + 1 ≤ n
  big : N ≤ 262145
  len : ∀ x ∈ ls, (10 : UInt8) ∉ x ∧ x.length ≤ 262144


/-- A round that found a fault. -/
def LiBad (w1 : World) (B R l : Nat) (A : Except (Nat × Int) Rs) (e : Ending) (W : World) : Prop :=
  ∃ n f, A = .error (n, f) ∧ (∃ u pv, e = .panicked [{ v := .iface u pv, recovered := false }]) ∧ W.cell? ⟨R, 0, none⟩ = some (.int .i64 (n : Nat)) ∧ W.cell? ⟨R, 2, none⟩ = some (.int .i64 f) ∧ Ch (fun x => x = R ∨ x = l ∨ B ≤ x) w1 W


attribute [local go_sem] Oper.semAt_some


set_option maxRecDepth 100000 in
set_option maxHeartbeats 4000000 in
/-- The lines of a text, one call of yield each. -/
theorem iter_walk {l bT N : Nat} {J : List Bs → Nat → World → Prop} {Bd : Ending → World → Prop}
    (hY : ∀ v ls n W, J (v :: ls) n W → YieldAt Fence.wide 3 Tryz.prog l #[.int .i64 (n : Int), S v] W fun e W' => (e = .returned (.bool true) ∧ J ls (n + 1) W') ∨ ((∃ ch, e = .panicked ch) ∧ Bd e W'))
    (hJ : ∀ ls n W W', J ls n W → Below W.heap.size W W' → J ls n W') (hN : ∀ ls n W, J ls n W → n + ls.length = N + 1 ∧ N ≤ 262145 ∧ (restL ls).length ≤ 262144 ∧ ∀ x ∈ ls, (10 : UInt8) ∉ x)
    {v0 : Bs} {ls0 : List Bs} {W : World} (hbx : W.cell? ⟨bT, 0, none⟩ = some (S (restL (v0 :: ls0)))) (h0 : J (v0 :: ls0) 1 W) :
    Calls Tryz.prog 45 #[.func (.yield l) #[] #[], .pointer (some ⟨bT, 0, none⟩)] W fun e W' => (∃ v n, e = .returned v ∧ J [] n W') ∨ ((∃ ch, e = .panicked ch) ∧ Bd e W') := by
  refine (callsIn_wide (n := 4)).1 ?_
  refine callsIn_of_wp Tryz.func45 rfl trivial ?_ rfl
  simp only [Tryz.ntmps45, List.size_toArray, List.length_cons, List.length_nil, Nat.reduceAdd, Nat.reduceSub, Array.replicate_succ, Array.replicate_zero, List.push_toArray, List.append_toArray, List.nil_append, List.cons_append]
  obtain ⟨t0, ht0⟩ : ∃ t : ByteArray, t = ⟨(restL (v0 :: ls0)).toArray⟩ := ⟨_, rfl⟩
  have hbx' : W.cell? ⟨bT, 0, none⟩ = some (.string t0) := by rw [ht0]; exact hbx
  have HT0 : Hid (t0 = ⟨(restL (v0 :: ls0)).toArray⟩) := ht0
  have HY : Hid (∀ v ls n W, J (v :: ls) n W → YieldAt Fence.wide 3 Tryz.prog l #[.int .i64 (n : Int), S v] W fun e W' => (e = .returned (.bool true) ∧ J ls (n + 1) W') ∨ ((∃ ch, e = .panicked ch) ∧ Bd e W')) := hY
  have HJ : Hid (∀ ls n W W', J ls n W → Below W.heap.size W W' → J ls n W') := hJ
  have HN : Hid (∀ ls n W, J ls n W → n + ls.length = N + 1 ∧ N ≤ 262145 ∧ (restL ls).length ≤ 262144 ∧ ∀ x ∈ ls, (10 : UInt8) ∉ x) := hN
  have H0 : Hid (J (v0 :: ls0) 1 W) := h0
  clear hbx ht0 hY hJ hN h0
  gi_wp2
  gi_loopw [3, 4] (fun v3 v4 wr => ∃ (v : Bs) (ls : List Bs) (n : Nat), v3 = .string ⟨(restL (v :: ls)).toArray⟩ ∧ v4 = .int .i64 n ∧ J (v :: ls) n wr) (fun _ v4 _ => N + 1 - (intOf v4).toNat)
  case atStart => exact ⟨v0, ls0, 1, by rw [HT0.out], rfl, H0.out⟩
  case round =>
    obtain ⟨v, ls, n, hv3, rfl, hj⟩ := hrel
    obtain ⟨hn1, hn2, hn3, hn4⟩ := HN.out _ _ _ hj
    have HC := cut_walk v ls (hn4 v (by simp)) hn3 wr
    obtain ⟨t, ht⟩ : ∃ t : ByteArray, t = ⟨(restL (v :: ls)).toArray⟩ := ⟨_, rfl⟩
    obtain ⟨t2, ht2⟩ : ∃ t : ByteArray, t = ⟨(restL ls).toArray⟩ := ⟨_, rfl⟩
    obtain ⟨tv, htv⟩ : ∃ t : ByteArray, t = ⟨v.toArray⟩ := ⟨_, rfl⟩
    have hvj : v ++ joinB 10 ls = restL (v :: ls) := rfl
    simp only [S] at HC
    rw [hvj, ← ht, ← ht2, ← htv] at HC
    rw [← ht] at hv3
    subst hv3
    have HCC : Hid (Calls Tryz.prog 46 #[.string t, .string ⟨#[10]⟩] wr fun e w' => e = .returned (.tuple #[.string tv, .string t2, .bool (!ls.isEmpty)]) ∧ Below wr.heap.size wr w') := HC
    have HNN : Hid (n + (v :: ls).length = N + 1 ∧ N ≤ 262145) := ⟨hn1, hn2⟩
    have HJJ : Hid (J (v :: ls) n wr) := hj
    have HT2 : Hid (t2 = ⟨(restL ls).toArray⟩ ∧ tv = ⟨v.toArray⟩) := ⟨ht2, htv⟩
    have hnb : (n : Int) + 1 < 9223372036854775808 := by omega
    have hnb0 : (0 : Int) ≤ (n : Int) := by omega
    clear HC hn1 hn2 hn3 hn4 ht ht2 htv hvj hj hbx' H0 HT0
    gi_wp2
    refine ⟨trivial, ?_⟩
    refine (callsIn_wide.2 HCC.out).mono ?_
    rintro e9 w2 ⟨rfl, hB2⟩
    have hj2 := HJ.out _ _ _ _ HJJ.out hB2
    obtain ⟨fn, tmps, assign, body, hy, hR⟩ := HY.out v ls n w2 hj2
    simp only [S] at hy
    rw [← HT2.out.2] at hy
    have HR : Hid (RoundIn Fence.wide 3 Tryz.prog l fn tmps assign body w2 fun e W' => (e = .returned (.bool true) ∧ J ls (n + 1) W') ∨ ((∃ ch, e = .panicked ch) ∧ Bd e W')) := hR
    clear hR hj2 hB2 HCC HJJ
    cases ls with
    | nil =>
      simp only [List.isEmpty_nil, Bool.not_true]
      gi_wp2
      refine RoundIn.mono HR.out ?_
      rintro e W3 (⟨rfl, hJ3⟩ | ⟨⟨ch, rfl⟩, hb⟩)
      · gi_wp2
        refine bodyPost_ret (results_none rfl _ _ _) rfl ?_
        exact .inl ⟨_, _, rfl, hJ3⟩
      · gi_wp2
        exact ⟨rfl, .inr ⟨⟨_, rfl⟩, hb⟩⟩
    | cons u us =>
      simp only [List.isEmpty_cons, Bool.not_false]
      gi_wp2
      refine RoundIn.mono HR.out ?_
      rintro e W3 (⟨rfl, hJ3⟩ | ⟨⟨ch, rfl⟩, hb⟩)
      · have HJ3 : Hid (J (u :: us) (n + 1) W3) := hJ3
        clear hJ3 hy HR
        gi_wp2
        go_roundw
        case rel => exact ⟨u, us, n + 1, by rw [HT2.out.1], (by congr 1), HJ3.out⟩
        case measure => have := HNN.out.1; simp at this; simp [intOf]; omega
      · gi_wp2
        exact ⟨rfl, .inr ⟨⟨_, rfl⟩, hb⟩⟩
end Go.Proofs.YtkiplcmndpdifaaGreatDoor


