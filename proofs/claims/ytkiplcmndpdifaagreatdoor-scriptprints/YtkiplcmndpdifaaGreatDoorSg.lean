/- The reader: refuse, ahead, argument, begin, number, key, float. -/
import Derived.Test.YtkiplcmndpdifaaGreatDoorSf

namespace Go.Proofs.YtkiplcmndpdifaaGreatDoor

open Go.RowKit

attribute [local go_sem] run_bits run_frombits


/-- A reader in numbers: its line, the words left of it, what has been read. -/
structure Rd where
  ln : Int
  ws : List Bs
  fa : Int
  s : Rs


def opF (o : Og) : List Value := [.int .i64 o.K, .int .i64 o.N, .float .f64 o.X]
def stF (s : Sp) : List Value := [.int .i64 s.K, .int .i64 s.D, .int .i64 s.N, .int .u64 s.k, .float .f64 s.x]
abbrev opsF (l : List Og) : List Value := l.flatMap opF
abbrev stsF (l : List Sp) : List Value := l.flatMap stF


/-- The reader's cells. -/
def RC (r : Rd) (ov sv : Value) : Array Value :=
  #[.int .i64 r.ln, S (joinB 32 r.ws), .int .i64 r.fa, .bool r.s.pd, .int .i64 r.s.p.P, .int .i64 r.s.p.S, .int .i64 r.s.p.W, ov, .int .i64 r.s.p.A, .int .i64 r.s.p.B, .int .i64 r.s.p.N, .int .i64 r.s.p.G, sv]


/-- A reader in memory: its block R, its rows from B on, the steps' behind the pipeline's. -/
structure RM (B R : Nat) (r : Rd) (ov sv : Value) (M : Nat) (w : World) : Prop where
  blk : w.heap[R]? = some (.cells (RC r ov sv) 44 (0, 0))
  rb : R < B
  bm : B ≤ M
  ms : M ≤ w.heap.size
  ops : w.ownsRow B 53 3 ov r.s.ops.length (opsF r.s.ops)
  olo : ∀ x, ov.ownBlock = some x → x < M
  sts : w.ownsRow M 41 5 sv r.s.sts.length (stsF r.s.sts)
  tb : Tb w
  gs : Gs R
  nb : ∀ x ∈ r.ws, 32 ∉ x
  len : (joinB 32 r.ws).length ≤ 262144
  snil : r.s.sts = [] → sv = .slice none 0 0


theorem row_keep {w w' : World} {base e size n : Nat} {v : Value} {xs : List Value} (h : w.ownsRow base e size v n xs) (hk : ∀ x, v.ownBlock = some x → w'.heap[x]? = w.heap[x]?) : w'.ownsRow base e size v n xs := by
  obtain ⟨h1, h2⟩ := h
  refine ⟨h1, ?_⟩
  rcases h2 with h2 | ⟨g, cap, cur, rfl, hb, hg, hrest⟩
  · exact .inl h2
  · exact .inr ⟨g, cap, cur, rfl, hb, by rw [hk g rfl]; exact hg, hrest⟩


/-- What isn't the reader's block stays: the reader is as it was. -/
theorem RM.go {B R M : Nat} {r : Rd} {ov sv : Value} {w w' : World} (h : RM B R r ov sv M w) (hb : Below w.heap.size w w') : RM B R r ov sv M w' :=
  ⟨blk_below h.blk hb, h.rb, h.bm, Nat.le_trans h.ms hb.size, row_keep h.ops fun x hx => hb.block x (h.ops.lt x hx).2, h.olo, row_keep h.sts fun x hx => hb.block x (h.sts.lt x hx).2, h.tb.below hb, h.gs, h.nb, h.len, h.snil⟩


/-- A cell of the reader's block is written. -/
theorem RM.set {B R M : Nat} {r : Rd} {ov sv : Value} {w : World} (h : RM B R r ov sv M w) (i : Nat) (u : Value) (r' : Rd) (hs : r'.s.ops = r.s.ops ∧ r'.s.sts = r.s.sts) (hc : (RC r ov sv).setIfInBounds i u = RC r' ov sv) (hn : ∀ x ∈ r'.ws, 32 ∉ x) (hl : (joinB 32 r'.ws).length ≤ 262144) : RM B R r' ov sv M (w.setCell ⟨R, i, none⟩ u) := by
  have hrb := h.rb
  have hbm := h.bm
  refine ⟨by rw [set_row h.blk, hc], h.rb, h.bm, by simpa [go_sem] using h.ms, ?_, h.olo, ?_, ?_, h.gs, hn, hl, fun e => h.snil (by rw [← hs.2]; exact e)⟩
  · rw [hs.1]
    exact row_keep h.ops fun x hx => set_other _ (by have := (h.ops.lt x hx).1; omega)
  · rw [hs.2]
    exact row_keep h.sts fun x hx => set_other _ (by have := (h.sts.lt x hx).1; omega)
  · exact h.tb.blocks h.gs (fun k hk => set_other _ (by omega))


/-- A call that found a fault: the reader's line and the fault stand in its block. -/
def Bad (B R : Nat) (ln f : Int) (w : World) (e : Ending) (w' : World) : Prop :=
  (∃ u pv, e = .panicked [{ v := .iface u pv, recovered := false }]) ∧ w'.cell? ⟨R, 0, none⟩ = some (.int .i64 ln) ∧ w'.cell? ⟨R, 2, none⟩ = some (.int .i64 f) ∧ Ch (fun x => x = R ∨ B ≤ x) w w'


/-- A call that took something: its answer is y, the words ws are left. -/
def Good (B R M : Nat) (r : Rd) (ov sv : Value) (y : Value) (ws : List Bs) (w : World) (e : Ending) (w' : World) : Prop :=
  e = .returned y ∧ RM B R { r with ws := ws } ov sv M w' ∧ Ch (fun x => x = R) w w'


section

variable {B R M : Nat} {r : Rd} {ov sv : Value} {w : World}



theorem Bad.from {ln f : Int} {w1 : World} {e : Ending} {w' : World} (h : Bad B R ln f w1 e w') (hc : Ch (fun x => x = R ∨ B ≤ x) w w1) : Bad B R ln f w e w' :=
  ⟨h.1, h.2.1, h.2.2.1, hc.self h.2.2.2⟩


theorem refuse_no (e : Int) (w : World) :
    Calls Tryz.prog 30 #[.pointer (some ⟨R, 0, none⟩), .bool false, .int .i64 e] w fun en w' => en = .returned (.tuple #[]) ∧ w' = w := by
  go_enter Tryz.func30, Tryz.ntmps30
  go_wp2_with fail
  refine bodyPost_end (results_none rfl _ _ _) rfl ?_
  exact ⟨rfl, rfl⟩


theorem refuse_yes (h : RM B R r ov sv M w) (e : Int) :
    Calls Tryz.prog 30 #[.pointer (some ⟨R, 0, none⟩), .bool true, .int .i64 e] w (Bad B R r.ln e w) := by
  have HR : Hid (RM B R r ov sv M w) := h
  have c2 : w.cell? ⟨R, 2, none⟩ = some (.int .i64 r.fa) := by rw [blk_cell h.blk]; rfl
  have z2 : w.frozen? ⟨R, 2, none⟩ = false := blk_soft h.blk 2
  clear h
  go_enter Tryz.func30, Tryz.ntmps30
  go_wp2_with fail
  have hb := set_row (i := 2) (u := .int .i64 e) HR.out.blk
  exact ⟨rfl, ⟨_, _, rfl⟩, by rw [blk_cell hb]; rfl, by rw [blk_cell hb]; rfl, (ch_set _ _ _ _).le (fun x hx => .inl hx)⟩


theorem index_none (l : Bs) (h : (32 : UInt8) ∉ l) : Lib.indexByte l 32 = -1 := by
  induction l with
  | nil => rfl
  | cons c l ih =>
    have hc : ¬ c = 32 := fun e => h (by simp [e])
    have := ih (fun e => h (by simp [e]))
    simp [Lib.indexByte, hc, this]


theorem index_at (b : UInt8) (v : Bs) (t : Bs) (h : b ∉ v) : Lib.indexByte (v ++ b :: t) b = v.length := by
  induction v with
  | nil => simp [Lib.indexByte]
  | cons c l ih =>
    have hc : ¬ c = b := fun e => h (by simp [e])
    have := ih (fun e => h (by simp [e]))
    simp [Lib.indexByte, hc, this]


theorem ib_walk (l : Bs) (w : World) : Calls Tryz.prog 75 #[S l, .int .u8 32] w fun e w' => e = .returned (.int .i64 (Lib.indexByte l 32)) ∧ w' = w :=
  Any.strings_IndexByte lays137 ⟨l.toArray⟩ 32 w


theorem ext_head (v t : Bs) : (⟨(v ++ t).toArray⟩ : ByteArray).extract 0 v.length = ⟨v.toArray⟩ := by
  rw [Lib.extract_eq]; simp
theorem ext_tail (v t : Bs) : (⟨(v ++ t).toArray⟩ : ByteArray).extract v.length (v ++ t).length = ⟨t.toArray⟩ := by
  rw [Lib.extract_eq]; simp


set_option maxHeartbeats 2000000 in
/-- What stands ahead of the first blank, and the rest. -/
theorem ahead_walk (v : Bs) (ws : List Bs) (hv : (32 : UInt8) ∉ v) (hl : (v ++ joinB 32 ws).length ≤ 262144) (w : World) :
    Calls Tryz.prog 59 #[S (v ++ joinB 32 ws)] w fun e w' => e = .returned (.tuple #[S v, S (joinB 32 ws)]) ∧ Below w.heap.size w w' := by
  cases ws with
  | nil =>
    have hi := index_none v hv
    simp only [joinB, List.append_nil] at hl ⊢
    go_enter Tryz.func59, Tryz.ntmps59
    go_wp2_with fail
    refine (ib_walk v w).mono ?_
    rintro e w' ⟨rfl, rfl⟩
    rw [hi]
    go_wp2_with fail
    go_ret2
    exact ⟨rfl, Below.refl _ _⟩
  | cons u us =>
    obtain ⟨t, ht⟩ : ∃ t, joinB 32 (u :: us) = t := ⟨_, rfl⟩
    have hi : Lib.indexByte (v ++ t) 32 = v.length := by rw [← ht]; exact index_at 32 v _ hv
    rw [ht] at hl ⊢
    obtain ⟨L, hL⟩ : ∃ L, v ++ t = L := ⟨_, rfl⟩
    obtain ⟨n, hn⟩ : ∃ n, v.length = n := ⟨_, rfl⟩
    have hsz : (⟨L.toArray⟩ : ByteArray).size = L.length := size_mk L
    have hle : n ≤ L.length := by rw [← hL, ← hn]; simp
    have e1 : ∀ wx, (Instr.slice 9 (S L) none (some (.int .i64 (n : Int))) none).run Tryz.prog wx = .ok (S v) wx := fun wx => by
      rw [run_slice_string_h wx 9 _ Tryz.underlying9 .i64 (n : Int) (by omega) (by rw [hsz]; omega), show ((n : Int)).toNat = n by omega, ← hL, ← hn, ext_head]
    have e2 : ∀ wx, (Instr.slice 9 (S L) (some (.int .i64 (n : Int))) none none).run Tryz.prog wx = .ok (S t) wx := fun wx => by
      rw [run_slice_string_l wx 9 _ Tryz.underlying9 .i64 (n : Int) (by omega) (by rw [hsz]; omega), show ((n : Int)).toNat = n by omega, hsz, ← hL, ← hn, ext_tail]
    have hi' : Lib.indexByte L 32 = (n : Int) := by rw [← hL, hi, hn]
    have hn0 : (0 : Int) ≤ (n : Int) := by omega
    rw [hL]
    clear hi hL hn hsz hle ht hl hv
    simp only [S] at e1 e2 ⊢
    go_enter Tryz.func59, Tryz.ntmps59
    go_wp2_with fail
    refine (ib_walk L w).mono ?_
    rintro e w' ⟨rfl, rfl⟩
    rw [hi']
    go_wp2_with fail
    go_region_with fail
    go_wp2_with fail
    go_simp
    go_ret2
    exact ⟨rfl, below_drew _⟩


theorem emp_nil : ((⟨([] : Bs).toArray⟩ : ByteArray).toList.isEmpty) = true := by
  rw [← decide_eq_emptyBytes]; rfl
theorem emp_cons (c : UInt8) (l : Bs) : ((⟨(c :: l).toArray⟩ : ByteArray).toList.isEmpty) = false := by
  rw [← decide_eq_emptyBytes]
  exact decide_eq_false (fun h => by have := congrArg ByteArray.size h; simp [ByteArray.size] at this)


theorem arg_bad (h : RM B R r ov sv M w) (hw : r.ws = []) :
    Calls Tryz.prog 76 #[.pointer (some ⟨R, 0, none⟩)] w (Bad B R r.ln 211 w) := by
  have HR : Hid (RM B R r ov sv M w) := h
  have c1 : w.cell? ⟨R, 1, none⟩ = some (.string ⟨([] : Bs).toArray⟩) := by rw [blk_cell h.blk]; simp [RC, hw, joinB]
  have he := emp_nil
  clear h hw
  go_enter Tryz.func76, Tryz.ntmps76
  go_wp2_with fail
  refine (refuse_yes HR.out 211).mono ?_
  rintro e9 w2 ⟨⟨u, pv, rfl⟩, h1⟩
  go_wp2_with fail
  exact ⟨rfl, ⟨_, _, rfl⟩, h1⟩


theorem ext_one (c : UInt8) (l : Bs) : (⟨(c :: l).toArray⟩ : ByteArray).extract 1 (c :: l).length = ⟨l.toArray⟩ := by
  rw [Lib.extract_eq]; simp


set_option maxHeartbeats 2000000 in
theorem arg_ok (h : RM B R r ov sv M w) {v : Bs} {vs : List Bs} (hw : r.ws = v :: vs) :
    Calls Tryz.prog 76 #[.pointer (some ⟨R, 0, none⟩)] w (Good B R M r ov sv (S v) vs w) := by
  have HR : Hid (RM B R r ov sv M w) := h
  obtain ⟨t, ht⟩ : ∃ t : ByteArray, t = ⟨(joinB 32 (v :: vs)).toArray⟩ := ⟨_, rfl⟩
  have c1 : w.cell? ⟨R, 1, none⟩ = some (.string t) := by rw [blk_cell h.blk, ht]; simp [RC, hw]
  have z1 : w.frozen? ⟨R, 1, none⟩ = false := blk_soft h.blk 1
  have he : t.toList.isEmpty = false := by rw [ht]; exact emp_cons _ _
  have hln := h.len
  rw [hw] at hln
  have hsz : t.size = (joinB 32 (v :: vs)).length := by rw [ht, size_mk]
  have hsl : ∀ wx, (Instr.slice 9 (.string t) (some (.int .i64 1)) none none).run Tryz.prog wx = .ok (.string ⟨(v ++ joinB 32 vs).toArray⟩) wx := fun wx => by
    rw [run_slice_string_l wx 9 _ Tryz.underlying9 .i64 1 (by omega) (by rw [hsz]; simp [joinB]; omega), hsz, ht]
    exact congrArg (fun s => Result.ok (Value.string s) wx) (ext_one 32 _)
  have HN : Hid ((32 : UInt8) ∉ v ∧ (∀ x ∈ vs, (32 : UInt8) ∉ x) ∧ (v ++ joinB 32 vs).length ≤ 262144 ∧ (joinB 32 vs).length ≤ 262144) := by
    have hnb := h.nb
    rw [hw] at hnb
    refine ⟨hnb v (by simp), fun x hx => hnb x (by simp [hx]), ?_, ?_⟩
    · simp [joinB] at hln ⊢; omega
    · simp [joinB] at hln ⊢; omega
  obtain ⟨t2, ht2⟩ : ∃ t2 : ByteArray, t2 = ⟨(v ++ joinB 32 vs).toArray⟩ := ⟨_, rfl⟩
  obtain ⟨t3, ht3⟩ : ∃ t3 : ByteArray, t3 = ⟨(joinB 32 vs).toArray⟩ := ⟨_, rfl⟩
  have HA : Hid (Calls Tryz.prog 59 #[.string t2] w fun e w' => e = .returned (.tuple #[S v, .string t3]) ∧ Below w.heap.size w w') := by
    show Calls _ _ _ _ _
    rw [ht2, ht3]
    exact ahead_walk v vs HN.out.1 HN.out.2.2.1 w
  rw [← ht2] at hsl
  have HT3 : Hid (t3 = ⟨(joinB 32 vs).toArray⟩) := ht3
  clear h hw ht ht2 ht3 hln hsz
  go_enter Tryz.func76, Tryz.ntmps76
  go_wp2_with fail
  refine (refuse_no 211 w).mono ?_
  rintro e9 w9 ⟨rfl, hw9⟩
  replace hw9 := hw9.symm
  subst hw9
  go_wp2_with fail
  refine HA.out.mono ?_
  rintro e9 w1 ⟨rfl, hB⟩
  have HR1 : Hid (RM B R r ov sv M w1) := HR.out.go hB
  have HB : Hid (Below w.heap.size w w1) := hB
  have d1 : w1.cell? ⟨R, 1, none⟩ = some (.string t) := by rw [hB.cell (p := ⟨R, 1, none⟩) (cell_lt c1)]; exact c1
  have y1 : w1.frozen? ⟨R, 1, none⟩ = false := blk_soft HR1.out.blk 1
  clear hB c1 z1 HA
  go_wp2_with fail
  go_ret
  refine ⟨rfl, ?_, (Ch.of_below HB.out).self (ch_set _ _ _ _)⟩
  rw [HT3.out]
  exact HR1.out.set 1 _ { r with ws := vs } ⟨rfl, rfl⟩ rfl HN.out.2.1 HN.out.2.2.2


/-- A line's word. -/
theorem begin_walk (h : RM B R r ov sv M w) (v : Bs) (vs : List Bs) (hv : ∀ x ∈ v :: vs, (32 : UInt8) ∉ x) (hl : (v ++ joinB 32 vs).length ≤ 262144) :
    Calls Tryz.prog 47 #[.pointer (some ⟨R, 0, none⟩), S (v ++ joinB 32 vs)] w (Good B R M r ov sv (S v) vs w) := by
  have HR : Hid (RM B R r ov sv M w) := h
  obtain ⟨t2, ht2⟩ : ∃ t2 : ByteArray, t2 = ⟨(v ++ joinB 32 vs).toArray⟩ := ⟨_, rfl⟩
  obtain ⟨t3, ht3⟩ : ∃ t3 : ByteArray, t3 = ⟨(joinB 32 vs).toArray⟩ := ⟨_, rfl⟩
  have HA : Hid (Calls Tryz.prog 59 #[.string t2] w fun e w' => e = .returned (.tuple #[S v, .string t3]) ∧ Below w.heap.size w w') := by
    show Calls _ _ _ _ _
    rw [ht2, ht3]
    exact ahead_walk v vs (hv v (by simp)) hl w
  show Calls _ _ #[_, .string _] _ _
  rw [← ht2]
  have HT3 : Hid (t3 = ⟨(joinB 32 vs).toArray⟩) := ht3
  have HN : Hid ((∀ x ∈ vs, (32 : UInt8) ∉ x) ∧ (joinB 32 vs).length ≤ 262144) := ⟨fun x hx => hv x (by simp [hx]), by simp at hl; omega⟩
  clear h ht2 ht3 hv hl
  go_enter Tryz.func47, Tryz.ntmps47
  go_wp2_with fail
  refine HA.out.mono ?_
  rintro e9 w1 ⟨rfl, hB⟩
  have HR1 : Hid (RM B R r ov sv M w1) := HR.out.go hB
  have HB : Hid (Below w.heap.size w w1) := hB
  have d1 : w1.cell? ⟨R, 1, none⟩ = some (.string ⟨(joinB 32 r.ws).toArray⟩) := by rw [blk_cell HR1.out.blk]; rfl
  have y1 : w1.frozen? ⟨R, 1, none⟩ = false := blk_soft HR1.out.blk 1
  clear hB HA
  go_wp2_with fail
  go_ret
  refine ⟨rfl, ?_, (Ch.of_below HB.out).self (ch_set _ _ _ _)⟩
  rw [HT3.out]
  exact HR1.out.set 1 _ { r with ws := vs } ⟨rfl, rfl⟩ rfl HN.out.1 HN.out.2


/-- What a call that takes an argument does. -/
def Took (B R M : Nat) (r : Rd) (ov sv : Value) (a : Option (Value × List Bs)) (w : World) (e : Ending) (w' : World) : Prop :=
  match a with
  | none => Bad B R r.ln 211 w e w'
  | some (y, vs) => Good B R M r ov sv y vs w e w'


theorem str_ne {a b : Bs} (h : a ≠ b) : (⟨a.toArray⟩ : ByteArray) ≠ ⟨b.toArray⟩ := by
  intro e
  have := congrArg (fun s : ByteArray => s.data.toList) e
  exact h (by simpa using this)


theorem word_len (h : RM B R r ov sv M w) {v : Bs} {vs : List Bs} (hw : r.ws = v :: vs) : v.length ≤ 281474976710656 := by
  have hln := h.len
  rw [hw] at hln
  simp [joinB] at hln
  omega


set_option maxHeartbeats 2000000 in
theorem number_walk (h : RM B R r ov sv M w) :
    Calls Tryz.prog 60 #[.pointer (some ⟨R, 0, none⟩)] w (Took B R M r ov sv ((nm r.ws).map fun x => (.int .i64 x.1, x.2)) w) := by
  have HR : Hid (RM B R r ov sv M w) := h
  cases hw : r.ws with
  | nil =>
    show Calls _ _ _ _ (Bad B R r.ln 211 w)
    have HW : Hid (r.ws = []) := hw
    clear h hw
    go_enter Tryz.func60, Tryz.ntmps60
    go_wp2_with fail
    refine (arg_bad HR.out HW.out).mono ?_
    rintro e9 w2 ⟨⟨u, pv, rfl⟩, h1⟩
    go_wp2_with fail
    exact ⟨rfl, ⟨_, _, rfl⟩, h1⟩
  | cons v vs =>
    have HW : Hid (r.ws = v :: vs) := hw
    have HVL : Hid (v.length ≤ 281474976710656) := word_len h hw
    obtain ⟨A, hA⟩ : ∃ A, A = (nm (v :: vs)).map fun x => ((.int .i64 x.1 : Value), x.2) := ⟨_, rfl⟩
    rw [← hA]
    have HAA : Hid (A = (nm (v :: vs)).map fun x => ((.int .i64 x.1 : Value), x.2)) := hA
    obtain ⟨t, ht⟩ : ∃ t : ByteArray, t = ⟨v.toArray⟩ := ⟨_, rfl⟩
    have HTT : Hid (t = ⟨v.toArray⟩) := ht
    clear h hw hA ht
    go_enter Tryz.func60, Tryz.ntmps60
    go_wp2_with fail
    refine (arg_ok HR.out HW.out).mono ?_
    rintro e9 w1 ⟨rfl, hR1, hC1⟩
    have HR1 : Hid (RM B R { r with ws := vs } ov sv M w1) := hR1
    have HC1 : Hid (Ch (fun x => x = R) w w1) := hC1
    have HP := pint_walk v HVL.out w1 hR1.tb
    simp only [S] at HP ⊢
    rw [← HTT.out] at HP ⊢
    have HPP : Hid (Calls Tryz.prog 77 #[.string t, .int .i64 10, .int .i64 64] w1 (NuGot w1 v)) := HP
    clear hR1 hC1 HP
    go_wp2_with fail
    refine HPP.out.mono ?_
    rintro e9 w2 ⟨x, ev, hx, rfl, hB2, ⟨rfl, hu⟩ | ⟨⟨tt, pp, rfl⟩, hno⟩⟩
    · have HR2 : Hid (RM B R { r with ws := vs } ov sv M w2) := HR1.out.go hB2
      have HC2 : Hid (Ch (fun x => x = R) w w2) := HC1.out.self (Ch.of_below hB2)
      have HU : Hid (∀ y, In64 y → v = Lib.itoa y → x = y) := hu
      have HX : Hid (In64 x) := hx
      clear hB2 hu hx HPP
      go_wp2_with fail
      refine (ntext_walk x HX.out w2 HR2.out.tb).mono ?_
      rintro e9 w3 ⟨rfl, hB3⟩
      have HR3 : Hid (RM B R { r with ws := vs } ov sv M w3) := HR2.out.go hB3
      have HC3 : Hid (Ch (fun x => x = R) w w3) := HC2.out.self (Ch.of_below hB3)
      clear hB3
      by_cases he : v = Lib.itoa x
      · have HA2 : Hid (A = some (.int .i64 x, vs)) := by
          show A = _
          have hp := (numP_iff v x).2 ⟨HX.out, he⟩
          rw [HAA.out]
          simp [nm, hp]
        have ht2 : t = ⟨(Lib.itoa x).toArray⟩ := by rw [HTT.out, he]
        simp only [S]
        rw [← ht2]
        clear ht2 he
        go_wp2_with fail
        refine (refuse_no 211 w3).mono ?_
        rintro e9 w9 ⟨rfl, hw9⟩
        replace hw9 := hw9.symm
        subst hw9
        go_wp2_with fail
        go_ret
        rw [HA2.out]
        exact ⟨rfl, HR3.out, HC3.out⟩
      · have HA2 : Hid (A = none) := by
          show A = _
          rw [HAA.out]
          cases hp : numP v with
          | none => simp [nm, hp]
          | some y =>
            obtain ⟨h1, h2⟩ := (numP_iff v y).1 hp
            exact absurd (by rw [HU.out y h1 h2]; exact h2) he
        obtain ⟨t4, ht4⟩ : ∃ t4 : ByteArray, t4 = ⟨(Lib.itoa x).toArray⟩ := ⟨_, rfl⟩
        have hne : ¬ t4 = t := by rw [ht4, HTT.out]; exact str_ne (fun e => he e.symm)
        have hne2 := bl_ne hne
        clear hne
        simp only [S]
        rw [← ht4]
        clear ht4 he
        go_wp2_with fail
        refine (refuse_yes HR3.out 211).mono ?_
        rintro e9 w4 ⟨⟨u, pv, rfl⟩, h1⟩
        go_wp2_with fail
        refine ⟨rfl, ?_⟩
        rw [HA2.out]
        exact Bad.from (ln := r.ln) ⟨⟨_, _, rfl⟩, h1⟩ (HC3.out.le fun x hx => .inl hx)
    · have HR2 : Hid (RM B R { r with ws := vs } ov sv M w2) := HR1.out.go hB2
      have HC2 : Hid (Ch (fun x => x = R) w w2) := HC1.out.self (Ch.of_below hB2)
      have HA2 : Hid (A = none) := by
        show A = _
        rw [HAA.out]
        cases hp : numP v with
        | none => simp [nm, hp]
        | some y =>
          obtain ⟨h1, h2⟩ := (numP_iff v y).1 hp
          exact absurd h2 (hno y h1)
      clear hB2 hno hx HPP
      go_wp2_with fail
      refine (refuse_yes HR2.out 211).mono ?_
      rintro e9 w4 ⟨⟨u, pv, rfl⟩, h1⟩
      go_wp2_with fail
      refine ⟨rfl, ?_⟩
      rw [HA2.out]
      exact Bad.from (ln := r.ln) ⟨⟨_, _, rfl⟩, h1⟩ (HC2.out.le fun x hx => .inl hx)


set_option maxHeartbeats 2000000 in
theorem key_walk (h : RM B R r ov sv M w) :
    Calls Tryz.prog 63 #[.pointer (some ⟨R, 0, none⟩)] w (Took B R M r ov sv ((ky r.ws).map fun x => (.int .u64 x.1, x.2)) w) := by
  have HR : Hid (RM B R r ov sv M w) := h
  cases hw : r.ws with
  | nil =>
    show Calls _ _ _ _ (Bad B R r.ln 211 w)
    have HW : Hid (r.ws = []) := hw
    clear h hw
    go_enter Tryz.func63, Tryz.ntmps63
    go_wp2_with fail
    refine (arg_bad HR.out HW.out).mono ?_
    rintro e9 w2 ⟨⟨u, pv, rfl⟩, h1⟩
    go_wp2_with fail
    exact ⟨rfl, ⟨_, _, rfl⟩, h1⟩
  | cons v vs =>
    have HW : Hid (r.ws = v :: vs) := hw
    have HVL : Hid (v.length ≤ 281474976710656) := word_len h hw
    obtain ⟨A, hA⟩ : ∃ A, A = (ky (v :: vs)).map fun x => ((.int .u64 x.1 : Value), x.2) := ⟨_, rfl⟩
    rw [← hA]
    have HAA : Hid (A = (ky (v :: vs)).map fun x => ((.int .u64 x.1 : Value), x.2)) := hA
    obtain ⟨t, ht⟩ : ∃ t : ByteArray, t = ⟨v.toArray⟩ := ⟨_, rfl⟩
    have HTT : Hid (t = ⟨v.toArray⟩) := ht
    clear h hw hA ht
    go_enter Tryz.func63, Tryz.ntmps63
    go_wp2_with fail
    refine (arg_ok HR.out HW.out).mono ?_
    rintro e9 w1 ⟨rfl, hR1, hC1⟩
    have HR1 : Hid (RM B R { r with ws := vs } ov sv M w1) := hR1
    have HC1 : Hid (Ch (fun x => x = R) w w1) := hC1
    have HP := puint_walk v HVL.out w1 hR1.tb
    simp only [S] at HP ⊢
    rw [← HTT.out] at HP ⊢
    have HPP : Hid (Calls Tryz.prog 78 #[.string t, .int .i64 10, .int .i64 64] w1 (KeGot w1 Lib.decDigits v)) := HP
    clear hR1 hC1 HP
    go_wp2_with fail
    refine HPP.out.mono ?_
    rintro e9 w2 ⟨x, ev, hx, rfl, hB2, ⟨rfl, hu⟩ | ⟨⟨tt, pp, rfl⟩, hno⟩⟩
    · have HR2 : Hid (RM B R { r with ws := vs } ov sv M w2) := HR1.out.go hB2
      have HC2 : Hid (Ch (fun x => x = R) w w2) := HC1.out.self (Ch.of_below hB2)
      have HU : Hid (∀ y, y < 18446744073709551616 → v = Lib.decDigits y → x = y) := hu
      have HX : Hid (x < 18446744073709551616) := hx
      clear hB2 hu hx HPP
      go_wp2_with fail
      refine (ktext_walk x HX.out w2 HR2.out.tb).mono ?_
      rintro e9 w3 ⟨rfl, hB3⟩
      have HR3 : Hid (RM B R { r with ws := vs } ov sv M w3) := HR2.out.go hB3
      have HC3 : Hid (Ch (fun x => x = R) w w3) := HC2.out.self (Ch.of_below hB3)
      clear hB3
      by_cases he : v = Lib.decDigits x
      · have HA2 : Hid (A = some (.int .u64 x, vs)) := by
          show A = _
          have hp := (keyP_iff v x).2 ⟨HX.out, he⟩
          rw [HAA.out]
          simp [ky, hp]
        have ht2 : t = ⟨(Lib.decDigits x).toArray⟩ := by rw [HTT.out, he]
        simp only [S]
        rw [← ht2]
        clear ht2 he
        go_wp2_with fail
        refine (refuse_no 211 w3).mono ?_
        rintro e9 w9 ⟨rfl, hw9⟩
        replace hw9 := hw9.symm
        subst hw9
        go_wp2_with fail
        go_ret
        rw [HA2.out]
        exact ⟨rfl, HR3.out, HC3.out⟩
      · have HA2 : Hid (A = none) := by
          show A = _
          rw [HAA.out]
          cases hp : keyP v with
          | none => simp [ky, hp]
          | some y =>
            obtain ⟨h1, h2⟩ := (keyP_iff v y).1 hp
            exact absurd (by rw [HU.out y h1 h2]; exact h2) he
        obtain ⟨t4, ht4⟩ : ∃ t4 : ByteArray, t4 = ⟨(Lib.decDigits x).toArray⟩ := ⟨_, rfl⟩
        have hne : ¬ t4 = t := by rw [ht4, HTT.out]; exact str_ne (fun e => he e.symm)
        have hne2 := bl_ne hne
        clear hne
        simp only [S]
        rw [← ht4]
        clear ht4 he
        go_wp2_with fail
        refine (refuse_yes HR3.out 211).mono ?_
        rintro e9 w4 ⟨⟨u, pv, rfl⟩, h1⟩
        go_wp2_with fail
        refine ⟨rfl, ?_⟩
        rw [HA2.out]
        exact Bad.from (ln := r.ln) ⟨⟨_, _, rfl⟩, h1⟩ (HC3.out.le fun x hx => .inl hx)
    · have HR2 : Hid (RM B R { r with ws := vs } ov sv M w2) := HR1.out.go hB2
      have HC2 : Hid (Ch (fun x => x = R) w w2) := HC1.out.self (Ch.of_below hB2)
      have HA2 : Hid (A = none) := by
        show A = _
        rw [HAA.out]
        cases hp : keyP v with
        | none => simp [ky, hp]
        | some y =>
          obtain ⟨h1, h2⟩ := (keyP_iff v y).1 hp
          exact absurd h2 (hno y h1)
      clear hB2 hno hx HPP
      go_wp2_with fail
      refine (refuse_yes HR2.out 211).mono ?_
      rintro e9 w4 ⟨⟨u, pv, rfl⟩, h1⟩
      go_wp2_with fail
      refine ⟨rfl, ?_⟩
      rw [HA2.out]
      exact Bad.from (ln := r.ln) ⟨⟨_, _, rfl⟩, h1⟩ (HC2.out.le fun x hx => .inl hx)


set_option maxHeartbeats 2000000 in
theorem float_walk (h : RM B R r ov sv M w) :
    Calls Tryz.prog 61 #[.pointer (some ⟨R, 0, none⟩)] w (Took B R M r ov sv ((fl r.ws).map fun x => (.float .f64 x.1, x.2)) w) := by
  have HR : Hid (RM B R r ov sv M w) := h
  cases hw : r.ws with
  | nil =>
    show Calls _ _ _ _ (Bad B R r.ln 211 w)
    have HW : Hid (r.ws = []) := hw
    clear h hw
    go_enter Tryz.func61, Tryz.ntmps61
    go_wp2_with fail
    refine (arg_bad HR.out HW.out).mono ?_
    rintro e9 w2 ⟨⟨u, pv, rfl⟩, h1⟩
    go_wp2_with fail
    exact ⟨rfl, ⟨_, _, rfl⟩, h1⟩
  | cons v vs =>
    have HW : Hid (r.ws = v :: vs) := hw
    have HVL : Hid (v.length ≤ 281474976710656) := word_len h hw
    obtain ⟨A, hA⟩ : ∃ A, A = (fl (v :: vs)).map fun x => ((.float .f64 x.1 : Value), x.2) := ⟨_, rfl⟩
    rw [← hA]
    have HAA : Hid (A = (fl (v :: vs)).map fun x => ((.float .f64 x.1 : Value), x.2)) := hA
    obtain ⟨t, ht⟩ : ∃ t : ByteArray, t = ⟨v.toArray⟩ := ⟨_, rfl⟩
    have HTT : Hid (t = ⟨v.toArray⟩) := ht
    clear h hw hA ht
    go_enter Tryz.func61, Tryz.ntmps61
    go_wp2_with fail
    refine (arg_ok HR.out HW.out).mono ?_
    rintro e9 w1 ⟨rfl, hR1, hC1⟩
    have HR1 : Hid (RM B R { r with ws := vs } ov sv M w1) := hR1
    have HC1 : Hid (Ch (fun x => x = R) w w1) := hC1
    have HP := pflt_walk v HVL.out w1 hR1.tb
    simp only [S] at HP ⊢
    rw [← HTT.out] at HP ⊢
    have HPP : Hid (Calls Tryz.prog 78 #[.string t, .int .i64 16, .int .i64 64] w1 (KeGot w1 (fun y => hexRow y 16) v)) := HP
    clear hR1 hC1 HP
    go_wp2_with fail
    refine HPP.out.mono ?_
    rintro e9 w2 ⟨x, ev, hx, rfl, hB2, ⟨rfl, hu⟩ | ⟨⟨tt, pp, rfl⟩, hno⟩⟩
    · have HR2 : Hid (RM B R { r with ws := vs } ov sv M w2) := HR1.out.go hB2
      have HC2 : Hid (Ch (fun x => x = R) w w2) := HC1.out.self (Ch.of_below hB2)
      have HU : Hid (∀ y, y < 18446744073709551616 → v = hexRow y 16 → x = y) := hu
      have HX : Hid (x < 18446744073709551616) := hx
      clear hB2 hu hx HPP
      go_wp2_with fail
      refine (ftext_walk x HX.out w2 HR2.out.tb).mono ?_
      rintro e9 w3 ⟨rfl, hB3⟩
      have HR3 : Hid (RM B R { r with ws := vs } ov sv M w3) := HR2.out.go hB3
      have HC3 : Hid (Ch (fun x => x = R) w w3) := HC2.out.self (Ch.of_below hB3)
      clear hB3
      by_cases he : v = hexRow x 16
      · have HA2 : Hid (A = some (.float .f64 x, vs)) := by
          show A = _
          have hp := (fltP_iff v x).2 ⟨HX.out, he⟩
          rw [HAA.out]
          simp [fl, hp]
        have ht2 : t = ⟨(hexRow x 16).toArray⟩ := by rw [HTT.out, he]
        simp only [S]
        rw [← ht2]
        clear ht2 he
        go_wp2_with fail
        refine (refuse_no 211 w3).mono ?_
        rintro e9 w9 ⟨rfl, hw9⟩
        replace hw9 := hw9.symm
        subst hw9
        go_wp2_with fail
        go_ret
        rw [HA2.out]
        exact ⟨rfl, HR3.out, HC3.out⟩
      · have HA2 : Hid (A = none) := by
          show A = _
          rw [HAA.out]
          cases hp : fltP v with
          | none => simp [fl, hp]
          | some y =>
            obtain ⟨h1, h2⟩ := (fltP_iff v y).1 hp
            exact absurd (by rw [HU.out y h1 h2]; exact h2) he
        obtain ⟨t4, ht4⟩ : ∃ t4 : ByteArray, t4 = ⟨(hexRow x 16).toArray⟩ := ⟨_, rfl⟩
        have hne : ¬ t4 = t := by rw [ht4, HTT.out]; exact str_ne (fun e => he e.symm)
        have hne2 := bl_ne hne
        clear hne
        simp only [S]
        rw [← ht4]
        clear ht4 he
        go_wp2_with fail
        refine (refuse_yes HR3.out 211).mono ?_
        rintro e9 w4 ⟨⟨u, pv, rfl⟩, h1⟩
        go_wp2_with fail
        refine ⟨rfl, ?_⟩
        rw [HA2.out]
        exact Bad.from (ln := r.ln) ⟨⟨_, _, rfl⟩, h1⟩ (HC3.out.le fun x hx => .inl hx)
    · have HR2 : Hid (RM B R { r with ws := vs } ov sv M w2) := HR1.out.go hB2
      have HC2 : Hid (Ch (fun x => x = R) w w2) := HC1.out.self (Ch.of_below hB2)
      have HA2 : Hid (A = none) := by
        show A = _
        rw [HAA.out]
        cases hp : fltP v with
        | none => simp [fl, hp]
        | some y =>
          obtain ⟨h1, h2⟩ := (fltP_iff v y).1 hp
          exact absurd h2 (hno y h1)
      clear hB2 hno hx HPP
      go_wp2_with fail
      refine (refuse_yes HR2.out 211).mono ?_
      rintro e9 w4 ⟨⟨u, pv, rfl⟩, h1⟩
      go_wp2_with fail
      refine ⟨rfl, ?_⟩
      rw [HA2.out]
      exact Bad.from (ln := r.ln) ⟨⟨_, _, rfl⟩, h1⟩ (HC2.out.le fun x hx => .inl hx)


end

end Go.Proofs.YtkiplcmndpdifaaGreatDoor


