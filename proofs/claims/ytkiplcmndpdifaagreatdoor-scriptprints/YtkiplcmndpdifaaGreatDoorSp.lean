/- The reader: all lines. -/
import Derived.Test.YtkiplcmndpdifaaGreatDoorSo

namespace Go.Proofs.YtkiplcmndpdifaaGreatDoor

open Go.RowKit Go.Shelf



def finA (N : Nat) : Except (Nat × Int) Rs → Except (Nat × Int) Rs
  | .error x => .error x
  | .ok s => if s.pd = false then .error (N, 210) else .ok s
def readA (T : Bs) : Except (Nat × Int) Rs := finA (splitB 10 T).length (readL 1 (splitB 10 T) Rs.zero)


/-- What reading a text comes to. -/
def ReadGot (R : Nat) (A : Except (Nat × Int) Rs) (w : World) (e : Ending) (w' : World) : Prop :=
  match A with
  | .error (n, f) => (∃ u pv, e = .panicked [{ v := .iface u pv, recovered := false }]) ∧ w'.cell? ⟨R, 0, none⟩ = some (.int .i64 (n : Nat)) ∧ w'.cell? ⟨R, 2, none⟩ = some (.int .i64 f) ∧ Ch (fun x => x = R ∨ w.heap.size ≤ x) w w'
  | .ok s => e = .returned (.tuple #[]) ∧ (∃ r ov sv M, r.s = s ∧ RM w.heap.size R r ov sv M w') ∧ Ch (fun x => x = R ∨ w.heap.size ≤ x) w w'


theorem split_len (b : UInt8) (l : Bs) : (splitB b l).length ≤ l.length + 1 := by
  induction l with
  | nil => simp [splitB]
  | cons c l ih =>
    simp only [splitB]
    split
    · simp; omega
    · split <;> simp_all <;> omega


theorem join_len (b : UInt8) (w : Bs) (ws : List Bs) : ∀ x ∈ w :: ws, x.length ≤ (w ++ joinB b ws).length := by
  induction ws generalizing w with
  | nil => intro x hx; simp at hx; subst hx; simp
  | cons u us ih =>
    intro x hx
    rcases List.mem_cons.1 hx with rfl | hx
    · simp
    · have := ih u x hx
      simp [joinB] at this ⊢
      omega


theorem lineR_sts {s s' : Rs} {v : Bs} {vs : List Bs} (h : lineR s v vs = .ok s') (h0 : s.sts.length ≤ 4096) : s'.sts.length ≤ 4096 ∧ s'.ops.length ≤ s.ops.length + 1 := by
  rw [lineR_part] at h
  cases hp : partR s v vs with
  | error e => rw [hp] at h; cases h
  | ok y =>
    obtain ⟨s2, ws2⟩ := y
    rw [hp] at h
    simp only at h
    split at h
    · cases h
    · injection h with h
      subst h
      unfold partR at hp
      split at hp
      · split at hp
        · cases hp
        · cases hn : nms 7 vs with
          | none => rw [hn] at hp; cases hp
          | some z =>
            rw [hn] at hp
            injection hp with hp
            injection hp with h1 h2
            subst h1
            exact ⟨h0, by simp⟩
      · split at hp
        · cases hn : opA vs with
          | none => rw [hn] at hp; cases hp
          | some z =>
            rw [hn] at hp
            injection hp with hp
            injection hp with h1 h2
            subst h1
            exact ⟨h0, by simp⟩
        · split at hp
          · cases hp
          · rename_i h4
            unfold StepR at hp
            cases hf : formW v with
            | none => rw [hf] at hp; cases hp
            | some f =>
              rw [hf] at hp
              dsimp only at hp
              cases hn : stA f vs with
              | none => rw [hn] at hp; cases hp
              | some z =>
                rw [hn] at hp
                injection hp with hp
                injection hp with h1 h2
                subst h1
                refine ⟨?_, by simp⟩
                simp; omega


theorem readLine_sts {s s' : Rs} {v : Bs} (h : readLine s v = .ok s') (h0 : s.sts.length ≤ 4096) : s'.sts.length ≤ 4096 ∧ s'.ops.length ≤ s.ops.length + 1 := by
  unfold readLine at h
  split at h
  · injection h with h; subst h; exact ⟨h0, by omega⟩
  · obtain ⟨w, ws, e, _⟩ := split_cons 32 v
    rw [e] at h
    exact lineR_sts h h0


theorem RM.lower {B B' R M : Nat} {r : Rd} {ov sv : Value} {w : World} (h : RM B R r ov sv M w) (h1 : R < B') (h2 : B' ≤ B) : RM B' R r ov sv M w := by
  refine ⟨h.blk, h1, Nat.le_trans h2 h.bm, h.ms, ?_, h.olo, h.sts, h.tb, h.gs, h.nb, h.len, h.snil⟩
  obtain ⟨a, b⟩ := h.ops
  refine ⟨a, ?_⟩
  rcases b with b | ⟨g, cap, cur, e, hb, rest⟩
  · exact .inl b
  · exact .inr ⟨g, cap, cur, e, by omega, rest⟩


theorem ne_nil_line {v : Bs} (h : skipB v = true) : v = [] ∨ ∃ l, v = 35 :: l := by
  cases v with
  | nil => exact .inl rfl
  | cons c l => simp [skipB] at h; exact .inr ⟨l, by rw [h]⟩


theorem idx_head (c : UInt8) (l : Bs) (wx : World) : (Instr.index 9 (.string ⟨(c :: l).toArray⟩) (.int .i64 0)).run Tryz.prog wx = .ok (.int .u8 (c.toNat : Int)) wx := by
  rw [run_index_string wx 9 _ .i64 0 Tryz.underlying9, dif_pos ⟨by omega, by simp [ByteArray.size]⟩]
  rfl


/-- What the last test of read looks at. -/
def RdS (w : World) (R : Nat) (b : Bool) (wx : World) : Prop := wx.cell? ⟨w.heap.size, 0, none⟩ = some (.pointer (some ⟨R, 0, none⟩)) ∧ wx.cell? ⟨R, 3, none⟩ = some (.bool b)


/-- What is asked of the last test of read where it finds a fault. -/
def RdQ (D : Nat) (R : Ending → World → Prop) : Exit → Act → World → Prop
  | .panic ch, a, w => a.defers = [{ target := .collected D, args := #[] }] ∧ ∃ w', (Instr.takeDeferred D).run Tryz.prog w = .ok [] w' ∧ R (.panicked ch) w'
  | _, _, _ => False


theorem rdQ_imp {D : Nat} {R : Ending → World → Prop} {fn : Func} (e : Exit) (a : Act) (w : World) (h : RdQ D R e a w) : bodyPostM Fence.wide 0 Tryz.prog fn R e a w := by
  cases e with
  | panic ch =>
    obtain ⟨hd, w', h1, h2⟩ := h
    show LeavesInM _ _ _ _ _ _ a.defers _ _
    rw [hd]
    exact ⟨by simp, .inl ⟨_, _, rfl, h1, h2⟩⟩
  | normal => exact h.elim
  | exit id => exact h.elim
  | goto t => exact h.elim
  | ret => exact h.elim
  | outgrown => exact h.elim


/-- The end of a round that found no fault. -/
theorem li_end {w1 : World} {B R l D bR N n : Nat} {rc : Loop} {A : Except (Nat × Int) Rs} {v : Bs} {ls : List Bs} {s s' : Rs} {W W3 : World} (h : Li w1 B R l D bR rc N A (v :: ls) n s W) (hpos : R < bR ∧ bR < D ∧ D < l ∧ l < B)
    (hrl : readLine s v = .ok s') (hst : rc.state = .ready) (hpe : rc.pending = none) {ws : List Bs} {fa : Int} {ov sv : Value} {M : Nat} (hrm : RM B R ⟨(n : Int), ws, fa, s'⟩ ov sv M W3) (hc : Ch (fun x => x = R ∨ x = l ∨ B ≤ x) W W3) (hl3 : W3.heap[l]? = some (.loop { rc with state := .busy })) :
    ∃ v' w', (Instr.endRound l none).run Tryz.prog W3 = .ok v' w' ∧ v' = .bool true ∧ Li w1 B R l D bR rc N A ls (n + 1) s' w' := by
  obtain ⟨p1, p2, p3, p4⟩ := hpos
  have hrun := run_endRound (P := Tryz.prog) none hl3
  have hrc : ({ ({ rc with state := .busy } : Loop) with state := if (none : Option Code).isNone then .ready else .done, pending := none } : Loop) = rc := by
    cases rc; simp_all
  rw [hrc] at hrun
  have hcp : Ch (fun x => x = l) W3 (W3.putObj l (.loop rc)) := ch_put _
  have hap : R ≠ l ∧ R ≤ l ∧ (∀ x, ov.ownBlock = some x → x ≠ l) ∧ (∀ x, sv.ownBlock = some x → x ≠ l) :=
    ⟨by omega, by omega, fun x hx => by have := (hrm.ops.lt x hx).1; omega, fun x hx => by have := (hrm.sts.lt x hx).1; have := hrm.bm; omega⟩
  obtain ⟨q1, q2⟩ := readLine_sts hrl h.st
  have hnum := h.num
  have hop := h.op
  simp at hnum
  refine ⟨_, _, hrun, rfl, ⟨⟨_, _, _, _, _, _, hrm.keep hcp hap.1 hap.2.2.1 hap.2.2.2 hap.2.1, fun e => by subst e; simp at hnum; omega⟩, World.putObj_heap_same (blk_lt hl3), ?_, ?_, ?_, by omega, ?_, q1, by omega, h.big, fun x hx => h.len x (by simp [hx])⟩⟩
  · exact blk_ch (blk_ch h.df hc (by omega)) hcp (by omega)
  · exact blk_ch (blk_ch h.bx hc (by omega)) hcp (by omega)
  · exact (h.ch.self hc).self (hcp.le fun x hx => .inr (.inl hx))
  · rw [h.res]
    simp only [readL, hrl]


theorem Li.below {w1 : World} {B R l D bR N n : Nat} {rc : Loop} {A : Except (Nat × Int) Rs} {ls : List Bs} {s : Rs} {W W' : World} (h : Li w1 B R l D bR rc N A ls n s W) (hb : Below W.heap.size W W') : Li w1 B R l D bR rc N A ls n s W' := by
  obtain ⟨ln, ws, fa, ov, sv, M, hrm, hl⟩ := h.rm
  exact ⟨⟨ln, ws, fa, ov, sv, M, hrm.go hb, hl⟩, blk_below h.lp hb, blk_below h.df hb, blk_below h.bx hb, h.ch.self (Ch.of_below hb), h.num, h.res, h.st, h.op, h.big, h.len⟩


theorem rest_le {v : Bs} {ls : List Bs} (h : (restL (v :: ls)).length ≤ 262144) : (restL ls).length ≤ 262144 := by
  cases ls with
  | nil => simp [restL]
  | cons u us => simp [restL, joinB] at h ⊢; omega


attribute [local go_sem] Oper.semAt_some


set_option maxRecDepth 100000 in
set_option maxHeartbeats 8000000 in
theorem read_walk {R : Nat} {w : World} (hblk : w.heap[R]? = some (.cells (RC ⟨0, [], 0, Rs.zero⟩ (.slice none 0 0) (.slice none 0 0)) 44 (0, 0))) (htb : Tb w) (hgs : Gs R) (T : Bs) (hT : T.length ≤ 262144) :
    Calls Tryz.prog 13 #[.pointer (some ⟨R, 0, none⟩), S T] w (ReadGot R (readA T) w) := by
  have hR : R < w.heap.size := blk_lt hblk
  obtain ⟨v0, ls0, hsp, hTj, hnb⟩ := split_cons 10 T
  obtain ⟨t, ht⟩ : ∃ t : ByteArray, t = ⟨T.toArray⟩ := ⟨_, rfl⟩
  obtain ⟨AA, hAA⟩ : ∃ AA, AA = readA T := ⟨_, rfl⟩
  obtain ⟨A, hA⟩ : ∃ A, A = readL 1 (v0 :: ls0) Rs.zero := ⟨_, rfl⟩
  have HAA : Hid (AA = finA (v0 :: ls0).length A) := by
    show _ = _
    rw [hAA, hA]
    unfold readA
    rw [hsp]
  show Calls _ _ #[_, .string _] w (ReadGot R _ w)
  rw [← ht, ← hAA]
  refine calls_of_wpAt Tryz.func13 rfl ?_
  simp only [Tryz.ntmps13, List.size_toArray, List.length_cons, List.length_nil, Nat.reduceAdd, Nat.reduceSub, Array.replicate_succ, Array.replicate_zero, List.push_toArray, List.append_toArray, List.nil_append, List.cons_append]
  have HBLK : Hid (w.heap[R]? = some (.cells (RC ⟨0, [], 0, Rs.zero⟩ (.slice none 0 0) (.slice none 0 0)) 44 (0, 0)) ∧ Tb w ∧ Gs R ∧ R < w.heap.size) := ⟨hblk, htb, hgs, hR⟩
  have HT : Hid (t = ⟨T.toArray⟩ ∧ T = v0 ++ joinB 10 ls0 ∧ T.length ≤ 262144 ∧ ∀ x ∈ v0 :: ls0, (10 : UInt8) ∉ x) := ⟨ht, hTj, hT, hnb⟩
  have HA : Hid (A = readL 1 (v0 :: ls0) Rs.zero ∧ splitB 10 T = v0 :: ls0) := ⟨hA, hsp⟩
  clear hblk htb hgs hR hsp hTj hnb ht hAA hA hT
  refine wpAt_seq (wpAt_of_in (n := 5) ?_)
  gi_wp2
  refine wpAt_seq (wpAt_seq (wpAt_of_in (n := 5) ?_))
  gi_wp2
  refine ⟨trivial, ?_⟩
  refine (callsIn_wide.2 (lines_walk t _)).mono ?_
  rintro e w' ⟨rfl, rfl⟩
  gi_wp2
  obtain ⟨w2, hw2⟩ : ∃ w2, w2 = (w.alloc (Obj.cells #[Value.pointer (some ⟨R, 0, none⟩)] 42)).alloc (Obj.cells #[Value.string t] 9) := ⟨_, rfl⟩
  have hs2 : w2.heap.size = w.heap.size + 2 := by rw [hw2]; simp
  have hb2 : Below w.heap.size w w2 := by rw [hw2]; exact below_trans (below_alloc _ _) (below_alloc _ _)
  have hx0 : w2.heap[w.heap.size]? = some (.cells #[.pointer (some ⟨R, 0, none⟩)] 42 (0, 0)) := by rw [hw2]; exact alloc_old (alloc_at rfl)
  have hx1 : w2.heap[w.heap.size + 1]? = some (.cells #[.string t] 9 (0, 0)) := by rw [hw2]; exact alloc_at (by simp)
  rw [← hw2]
  refine wpAt_block ?_
  refine wpAt_rangeFunc (gf := 45) (lb := #[.pointer (some ⟨w.heap.size + 1, 0, none⟩)]) ?_ (enters_of Tryz.func45 (by kernel_rfl) rfl) ?_
  · rfl
  intro rc hrc
  rw [hs2] at hrc ⊢
  clear hw2
  obtain ⟨W1, hW1⟩ : ∃ W1, W1 = (w2.alloc (.deferred (some []))).alloc (.loop rc) := ⟨_, rfl⟩
  have hs1 : W1.heap.size = w.heap.size + 4 := by rw [hW1]; simp [hs2]
  have hb1 : Below w.heap.size w W1 := by rw [hW1]; exact below_trans hb2 (below_trans (below_alloc _ _) (below_alloc _ _))
  have hy0 : W1.heap[w.heap.size]? = some (.cells #[.pointer (some ⟨R, 0, none⟩)] 42 (0, 0)) := by rw [hW1]; exact alloc_old (alloc_old hx0)
  have hy1 : W1.heap[w.heap.size + 1]? = some (.cells #[.string t] 9 (0, 0)) := by rw [hW1]; exact alloc_old (alloc_old hx1)
  have hy2 : W1.heap[w.heap.size + 2]? = some (.deferred (some [])) := by rw [hW1]; exact alloc_old (alloc_at hs2.symm)
  have hy3 : W1.heap[w.heap.size + 3]? = some (.loop rc) := by rw [hW1]; exact alloc_at (by simp [hs2])
  rw [← hW1]
  obtain ⟨hblk, htb, hgs, hR⟩ := HBLK.out
  have hpos : R < w.heap.size ∧ w.heap.size < w.heap.size + 2 ∧ w.heap.size + 2 < w.heap.size + 3 ∧ w.heap.size + 3 < w.heap.size + 4 := ⟨hR, by omega, by omega, by omega⟩
  have hrst : rc.state = .ready := by rw [hrc]
  have hrpe : rc.pending = none := by rw [hrc]
  have hN : (v0 :: ls0).length ≤ 262145 := by
    rw [← HA.out.2]
    exact Nat.le_trans (split_len 10 T) (by have := HT.out.2.2.1; omega)
  have hli : Li W1 (w.heap.size + 4) R (w.heap.size + 3) (w.heap.size + 2) w.heap.size rc (v0 :: ls0).length A (v0 :: ls0) 1 Rs.zero W1 := by
    refine ⟨⟨0, [], 0, .slice none 0 0, .slice none 0 0, w.heap.size + 4, ⟨blk_below hblk hb1, by omega, by omega, by omega, World.ownsRow_nil _ _ _ _, fun x hx => by simp [Value.ownBlock] at hx, World.ownsRow_nil _ _ _ _, htb.below hb1, hgs, by simp, by simp [joinB], fun _ => rfl⟩, by simp⟩, hy3, hy2, hy0, Ch.refl _ _, by omega, HA.out.1, by simp [Rs.zero], by simp [Rs.zero], hN, ?_⟩
    intro x hx
    refine ⟨HT.out.2.2.2 x hx, ?_⟩
    have := join_len 10 v0 ls0 x hx
    rw [← HT.out.2.1] at this
    exact Nat.le_trans this HT.out.2.2.1
  have hround : ∀ v ls n s W, Li W1 (w.heap.size + 4) R (w.heap.size + 3) (w.heap.size + 2) w.heap.size rc (v0 :: ls0).length A (v :: ls) n s W → YieldAt Fence.wide 3 Tryz.prog (w.heap.size + 3) #[.int .i64 (n : Int), S v] W fun e W' =>
      (e = .returned (.bool true) ∧ ∃ s', Li W1 (w.heap.size + 4) R (w.heap.size + 3) (w.heap.size + 2) w.heap.size rc (v0 :: ls0).length A ls (n + 1) s' W') ∨ ((∃ ch, e = .panicked ch) ∧ LiBad W1 (w.heap.size + 4) R (w.heap.size + 3) A e W') := by
    intro v ls n s W h
    have HL : Hid (Li W1 (w.heap.size + 4) R (w.heap.size + 3) (w.heap.size + 2) w.heap.size rc (v0 :: ls0).length A (v :: ls) n s W) := h
    have hy := run_yield (P := Tryz.prog) (args := #[.int .i64 (n : Int), S v]) h.lp (by rw [hrc]; rfl)
    have HRC : Hid (rc = rc) := rfl
    obtain ⟨ln, ws, fa, ov, sv, M, hrm, _⟩ := h.rm
    have hbeg := run_beginRound (P := Tryz.prog) h.lp hrst
    have hcp : Ch (fun x => x = w.heap.size + 3) W (W.putObj (w.heap.size + 3) (.loop { rc with state := .busy })) := ch_put _
    have hrm2 : RM (w.heap.size + 4) R ⟨ln, ws, fa, s⟩ ov sv M (W.putObj (w.heap.size + 3) (.loop { rc with state := .busy })) :=
      hrm.keep hcp (by omega) (fun x hx => by have := (hrm.ops.lt x hx).1; omega) (fun x hx => by have := (hrm.sts.lt x hx).1; have := hrm.bm; omega) (by omega)
    have hlp2 : (W.putObj (w.heap.size + 3) (.loop { rc with state := .busy })).heap[w.heap.size + 3]? = some (.loop { rc with state := .busy }) := World.putObj_heap_same (blk_lt h.lp)
    have hbx2 : (W.putObj (w.heap.size + 3) (.loop { rc with state := .busy })).heap[w.heap.size]? = some (.cells #[.pointer (some ⟨R, 0, none⟩)] 42 (0, 0)) := blk_ch h.bx hcp (by omega)
    obtain ⟨W2, hW2⟩ : ∃ W2, W2 = W.putObj (w.heap.size + 3) (.loop { rc with state := .busy }) := ⟨_, rfl⟩
    rw [← hW2] at hbeg hcp hrm2 hlp2 hbx2
    have HW : Hid (Ch (fun x => x = w.heap.size + 3) W W2 ∧ RM (w.heap.size + 4) R ⟨ln, ws, fa, s⟩ ov sv M W2 ∧ W2.heap[w.heap.size + 3]? = some (.loop { rc with state := .busy }) ∧ W2.heap[w.heap.size]? = some (.cells #[.pointer (some ⟨R, 0, none⟩)] 42 (0, 0))) := ⟨hcp, hrm2, hlp2, hbx2⟩
    have HBG : Hid ((Instr.beginRound (w.heap.size + 3)).run Tryz.prog W = .ok () W2) := hbeg
    have c0 : W2.cell? ⟨w.heap.size, 0, none⟩ = some (.pointer (some ⟨R, 0, none⟩)) := by rw [blk_cell hbx2]; rfl
    have c1 : W2.cell? ⟨R, 0, none⟩ = some (.int .i64 ln) := by rw [blk_cell hrm2.blk]; rfl
    have z1 : W2.frozen? ⟨R, 0, none⟩ = false := blk_soft hrm2.blk 0
    have hne : ¬ w.heap.size = R := by omega
    have HRM3 : Hid (RM (w.heap.size + 4) R ⟨(n : Int), ws, fa, s⟩ ov sv M (W2.setCell ⟨R, 0, none⟩ (.int .i64 (n : Int)))) := hrm2.set 0 _ ⟨(n : Int), ws, fa, s⟩ ⟨rfl, rfl⟩ rfl hrm2.nb hrm2.len
    clear h hbeg hcp hrm hrm2 hlp2 hbx2 hW2 hli
    rw [hrc] at hy
    refine ⟨_, _, _, _, hy, roundIn_p (fn := Tryz.f13) trivial Tryz.func13 ?_⟩
    have HC3 : Hid (Ch (fun x => x = R ∨ x = w.heap.size + 3 ∨ w.heap.size + 4 ≤ x) W (W2.setCell ⟨R, 0, none⟩ (.int .i64 (n : Int)))) := (HW.out.1.le fun x hx => .inr (.inl hx)).self ((ch_set _ _ _ _).le fun x hx => .inl hx)
    have HL3 : Hid ((W2.setCell ⟨R, 0, none⟩ (.int .i64 (n : Int))).heap[w.heap.size + 3]? = some (.loop { rc with state := .busy })) := by
      show _ = _
      rw [set_other _ (by omega)]
      exact HW.out.2.2.1
    have hB3 : (W2.setCell ⟨R, 0, none⟩ (.int .i64 (n : Int))).heap[w.heap.size]? = some (.cells #[.pointer (some ⟨R, 0, none⟩)] 42 (0, 0)) := by
      rw [set_other _ (by omega)]
      exact HW.out.2.2.2
    have HB3 := hidH hB3
    clear hB3 hy hy0 hy1 hy2 hy3 hs1 hs2 hb1 hb2 hx0 hx1 hN hrc hW1
    gi_wp2
    refine ⟨W2, HBG.out, ?_⟩
    cases v with
    | nil =>
      have he := emp_nil
      have HRL : Hid (readLine s [] = .ok s) := rfl
      gi_wp2
      exact (let ⟨v', w', e1, e2, e3⟩ := li_end HL.out hpos HRL.out hrst hrpe HRM3.out (HC3.out) HL3.out; ⟨v', w', e1, .inl ⟨by rw [e2], _, e3⟩⟩)
    | cons c v =>
      have he := emp_cons c v
      have hix := fun wx => idx_head c v wx
      by_cases hc : c = 35
      · have hq : (((c.toNat : Nat) : Int) == 35) = true := by rw [hc]; rfl
        have HRL : Hid (readLine s (c :: v) = .ok s) := by
          show _ = _
          simp [readLine, skipB, hc]
        clear hc
        gi_wp2
        exact (let ⟨v', w', e1, e2, e3⟩ := li_end HL.out hpos HRL.out hrst hrpe HRM3.out (HC3.out) HL3.out; ⟨v', w', e1, .inl ⟨by rw [e2], _, e3⟩⟩)
      · have hq : (((c.toNat : Nat) : Int) == 35) = false := by
          rw [beq_eq_false_iff_ne]
          intro e
          exact hc (UInt8.toNat_inj.1 (by simpa using (show c.toNat = 35 by omega)))
        obtain ⟨wd, wds, hsp, hcj, hnb⟩ := split_cons 32 (c :: v)
        have hrl : readLine s (c :: v) = lineR s wd wds := by
          have hk : skipB (c :: v) = false := by simp [skipB, hc]
          unfold readLine
          rw [hk, hsp]
          rfl
        have hlen := (HL.out.len (c :: v) (by simp)).2
        have hnum := HL.out.num
        have hbig := HL.out.big
        have hop := HL.out.op
        have HTK := take_walk21 HRM3.out HL.out.st (by show s.ops.length ≤ 300000; simp only [List.length_cons] at hnum hbig; omega) wd wds hnb (by rw [← hcj]; exact hlen)
        rw [← hcj] at HTK
        have HTT : Hid (Calls Tryz.prog 29 #[.pointer (some ⟨R, 0, none⟩), S (c :: v)] (W2.setCell ⟨R, 0, none⟩ (.int .i64 (n : Int))) (TakeGot (w.heap.size + 4) R ⟨(n : Int), ws, fa, s⟩ (lineR s wd wds) (W2.setCell ⟨R, 0, none⟩ (.int .i64 (n : Int))))) := HTK
        have HRL : Hid (readLine s (c :: v) = lineR s wd wds) := hrl
        clear HTK hc hsp hcj hnb hrl hlen hnum hbig hop
        gi_wp2
        refine ⟨trivial, ?_⟩
        refine (CallsIn.inRound _ (callsIn_wide.2 HTT.out)).mono ?_
        rintro e9 W4 hT
        cases hx : lineR s wd wds with
        | error f =>
          rw [hx] at hT
          have hT' : Bad (w.heap.size + 4) R (n : Int) f (W2.setCell ⟨R, 0, none⟩ (.int .i64 (n : Int))) e9 W4 := hT
          obtain ⟨⟨u, pv, rfl⟩, b1, b2, b3⟩ := hT'
          have HBD : Hid (LiBad W1 (w.heap.size + 4) R (w.heap.size + 3) A (.panicked [{ v := .iface u pv, recovered := false }]) W4) := by
            refine ⟨n, f, ?_, ⟨_, _, rfl⟩, b1, b2, (HL.out.ch.self HC3.out).self (b3.le fun x hx => by rcases hx with h | h; exact .inl h; exact .inr (.inr h))⟩
            rw [HL.out.res]
            simp only [readL, HRL.out, hx]
          clear hT hx b1 b2 b3
          gi_wp2
          exact ⟨rfl, .inr ⟨⟨_, rfl⟩, HBD.out⟩⟩
        | ok s' =>
          rw [hx] at hT
          obtain ⟨rfl, ⟨ov4, sv4, M4, hr4⟩, hc4⟩ := (show e9 = .returned (.tuple #[]) ∧ (∃ ov sv M, RM (w.heap.size + 4) R ⟨(n : Int), [], fa, s'⟩ ov sv M W4) ∧ Ch (fun x => x = R ∨ w.heap.size + 4 ≤ x) (W2.setCell ⟨R, 0, none⟩ (.int .i64 (n : Int))) W4 from hT)
          have HE : Hid (∃ v' w', (Instr.endRound (w.heap.size + 3) none).run Tryz.prog W4 = .ok v' w' ∧ v' = .bool true ∧ Li W1 (w.heap.size + 4) R (w.heap.size + 3) (w.heap.size + 2) w.heap.size rc (v0 :: ls0).length A ls (n + 1) s' w') :=
            li_end HL.out hpos (by rw [HRL.out, hx]) hrst hrpe hr4 (HC3.out.self (hc4.le fun x hx => by rcases hx with h | h; exact .inl h; exact .inr (.inr h))) (blk_ch HL3.out hc4 (by omega))
          clear hT hx hr4 hc4
          gi_wp2
          exact (let ⟨v', w', e1, e2, e3⟩ := HE.out; ⟨v', w', e1, .inl ⟨by rw [e2], _, e3⟩⟩)
  have hcl : W1.cell? ⟨w.heap.size + 1, 0, none⟩ = some (S (restL (v0 :: ls0))) := by
    rw [blk_cell hy1, HT.out.1, HT.out.2.1]
    rfl
  refine (iter_walk (l := w.heap.size + 3) (bT := w.heap.size + 1) (N := (v0 :: ls0).length) (J := fun ls n W => ∃ s, Li W1 (w.heap.size + 4) R (w.heap.size + 3) (w.heap.size + 2) w.heap.size rc (v0 :: ls0).length A ls n s W ∧ (restL ls).length ≤ 262144) (Bd := LiBad W1 (w.heap.size + 4) R (w.heap.size + 3) A) ?_ ?_ ?_ hcl ⟨_, hli, by rw [show restL (v0 :: ls0) = v0 ++ joinB 10 ls0 from rfl, ← HT.out.2.1]; exact HT.out.2.2.1⟩).mono ?_
  · rintro v ls n W ⟨s, h, hle⟩
    obtain ⟨fn, tmps, assign, body, hy, hR⟩ := hround v ls n s W h
    refine ⟨fn, tmps, assign, body, hy, hR.mono ?_⟩
    rintro e w' (⟨h1, s', h2⟩ | h1)
    · exact .inl ⟨h1, s', h2, rest_le hle⟩
    · exact .inr h1
  · rintro ls n W W' ⟨s, h, hle⟩ hb
    exact ⟨s, h.below hb, hle⟩
  · rintro ls n W ⟨s, h, hle⟩
    exact ⟨h.num, h.big, hle, fun x hx => (h.len x hx).1⟩
  · have HS1 : Hid (W1.heap.size = w.heap.size + 4 ∧ Below w.heap.size w W1) := ⟨hs1, hb1⟩
    have HY2 := hidH hy2
    clear hround hli hcl hy0 hy1 hy2 hy3 hs1 hs2 hb1 hb2 hx0 hx1 hW1 hrc
    rintro e W3 (⟨v, n, rfl, s, h, _⟩ | ⟨⟨ch, rfl⟩, hbad⟩)
    · obtain ⟨W4, hW4⟩ : ∃ W4, W4 = W3.putObj (w.heap.size + 3) (.loop { rc with state := .exhausted }) := ⟨_, rfl⟩
      have hend : (Instr.endLoop (w.heap.size + 3)).run Tryz.prog W3 = .ok none W4 := by
        rw [hW4]
        exact (run_endLoop (P := Tryz.prog) h.lp (by rw [hrst]; simp)).trans (by rw [hrpe])
      refine ⟨_, hend, .inl rfl, ?_⟩
      show wpAt _ _ _ _ _ _
      refine wpAt_of_in (n := 0) (wpIn_wide.2 ?_)
      obtain ⟨ln, ws, fa, ov, sv, M, hrm, hln⟩ := h.rm
      obtain rfl := hln rfl
      have hcp : Ch (fun x => x = w.heap.size + 3) W3 (W3.putObj (w.heap.size + 3) (.loop { rc with state := .exhausted })) := ch_put _
      have hrm2 := hrm.keep hcp (by omega) (fun x hx => by have := (hrm.ops.lt x hx).1; omega) (fun x hx => by have := (hrm.sts.lt x hx).1; have := hrm.bm; omega) (by omega)
      have hbx2 := blk_ch h.bx hcp (by omega)
      have hdf2 := blk_ch h.df hcp (by omega)
      have hch2 : Ch (fun x => x = R ∨ w.heap.size ≤ x) w (W3.putObj (w.heap.size + 3) (.loop { rc with state := .exhausted })) :=
        (Ch.of_below HS1.out.2).self (((h.ch.self (hcp.le fun x hx => .inr (.inl hx))).le fun x hx => by rcases hx with h | h | h; exact .inl h; exact .inr (by omega); exact .inr (by omega)))
      rw [← hW4] at hcp hrm2 hbx2 hdf2 hch2
      have HRM : Hid (RM (w.heap.size + 4) R ⟨((v0 :: ls0).length : Int), ws, fa, s⟩ ov sv M W4) := hrm2
      have HDF : Hid (W4.heap[w.heap.size + 2]? = some (.deferred (some []))) := hdf2
      have HCH : Hid (Ch (fun x => x = R ∨ w.heap.size ≤ x) w W4) := hch2
      have HRES : Hid (A = .ok s) := by
        show _ = _
        rw [h.res]
        rfl
      have c0 : W4.cell? ⟨w.heap.size, 0, none⟩ = some (.pointer (some ⟨R, 0, none⟩)) := by rw [blk_cell hbx2]; rfl
      have c3 : W4.cell? ⟨R, 3, none⟩ = some (.bool s.pd) := by rw [blk_cell hrm2.blk]; rfl
      clear h hend hcp hrm hrm2 hbx2 hdf2 hch2 hln hrst hrpe hW4
      cases hpd : s.pd with
      | true =>
        rw [hpd] at c3
        have HFA : Hid (AA = .ok s) := by
          show _ = _
          rw [HAA.out, HRES.out]
          simp [finA, hpd]
        clear hpd
        -- REGION
        have HSS : Hid (RdS w R true W4.drew) := ⟨c0, c3⟩
        have k0 : ∀ wx, RdS w R true wx → wx.cell? ⟨w.heap.size, 0, none⟩ = some (.pointer (some ⟨R, 0, none⟩)) := fun wx h => h.1
        have k3 : ∀ wx, RdS w R true wx → wx.cell? ⟨R, 3, none⟩ = some (.bool true) := fun wx h => h.2
        clear c0 c3
        refine wp_region_noPanic ?_
        refine wp_region_held_drew (S := RdS w R true) (by kernel_rfl) ?_ (fun hHeld => ?_)
        · exact HSS.out
        refine wpAnyH_take (i := 0) (oi := ⟨some 24, _, _, _, _, _⟩) (v := ?_) rfl (by kernel_rfl) (by kernel_rfl) (by kernel_rfl) (fun _ _ _ h => h) (Or.inl ⟨by rfl, ?_⟩) hHeld ?_
        rotate_left
        · intro w hSw; (try dsimp only at hSw); go_simp; all_goals (with_reducible rfl)
        try simp only [Act.put, List.setIfInBounds_toArray, List.set_cons_zero, List.set_cons_succ]
        refine wpAnyH_take (i := 1) (oi := ⟨some 25, _, _, _, _, _⟩) (v := ?_) rfl (by kernel_rfl) (by kernel_rfl) (by kernel_rfl) (fun _ _ _ h => h) (Or.inl ⟨by rfl, ?_⟩) hHeld ?_
        rotate_left
        · intro w hSw; (try dsimp only at hSw); go_simp; all_goals (with_reducible rfl)
        try simp only [Act.put, List.setIfInBounds_toArray, List.set_cons_zero, List.set_cons_succ]
        refine wpAnyH_take (i := 2) (oi := ⟨some 26, _, _, _, _, _⟩) (v := ?_) rfl (by kernel_rfl) (by kernel_rfl) (by kernel_rfl) (fun _ _ _ h => h) (Or.inl ⟨by rfl, ?_⟩) hHeld ?_
        rotate_left
        · intro w hSw; (try dsimp only at hSw); go_simp; all_goals (with_reducible rfl)
        try simp only [Act.put, List.setIfInBounds_toArray, List.set_cons_zero, List.set_cons_succ]
        refine wpAnyH_take (i := 3) (oi := ⟨some 27, _, _, _, _, _⟩) (v := ?_) rfl (by kernel_rfl) (by kernel_rfl) (by kernel_rfl) (fun _ _ _ h => h) (Or.inl ⟨by rfl, ?_⟩) hHeld ?_
        rotate_left
        · intro w hSw; (try dsimp only at hSw); go_simp; all_goals (with_reducible rfl)
        try simp only [Act.put, List.setIfInBounds_toArray, List.set_cons_zero, List.set_cons_succ]
        refine wpAnyH_take (i := 4) (oi := ⟨some 28, _, _, _, _, _⟩) (v := ?_) rfl (by kernel_rfl) (by kernel_rfl) (by kernel_rfl) (fun _ _ _ h => h) (Or.inl ⟨by rfl, ?_⟩) hHeld ?_
        rotate_left
        · intro w hSw; (try dsimp only at hSw); go_simp; all_goals (with_reducible rfl)
        try simp only [Act.put, List.setIfInBounds_toArray, List.set_cons_zero, List.set_cons_succ]
        refine wpAnyH_take (i := 5) (oi := ⟨some 29, _, _, _, _, _⟩) (v := ?_) rfl (by kernel_rfl) (by kernel_rfl) (by kernel_rfl) (fun _ _ _ h => h) (Or.inl ⟨by rfl, ?_⟩) hHeld ?_
        rotate_left
        · intro w hSw; (try dsimp only at hSw); go_simp; all_goals (with_reducible rfl)
        try simp only [Act.put, List.setIfInBounds_toArray, List.set_cons_zero, List.set_cons_succ]
        refine wpAnyH_ready (rs := [6]) (by kernel_rfl) (by simp) ?_
        refine AllReadyH.cons (o := ⟨some 30, _, _, _, _, _⟩) rfl (fun K hK => ?_) AllReadyH.nil
        go_simp
        refine (refuse_no 210 _).mono ?_
        rintro e9 w9 ⟨rfl, hw9⟩
        replace hw9 := hw9.symm
        subst hw9
        refine hK.out _ _ ?_ (fun hHeld => ?_)
        · exact hHeld
        clear hK K
        try simp only [Act.put, List.setIfInBounds_toArray, List.set_cons_zero, List.set_cons_succ]
        refine wpAnyH_done (by kernel_rfl) ?_ _
        refine NoPanic.normal ?_
        refine ⟨by simp, .inl ⟨_, _, rfl, run_takeDeferred HDF.out, ?_⟩⟩
        refine ⟨_, results_none rfl _ _ _, ?_⟩
        rw [HFA.out]
        have hcq : Ch (fun x => x = w.heap.size + 2) W4.drew (W4.drew.putObj (w.heap.size + 2) (.deferred none)) := ch_put _
        have hrm := HRM.out.go (below_drew _)
        refine ⟨rfl, ⟨_, _, _, _, rfl, (hrm.keep hcq (by omega) (fun x hx => by have := (hrm.ops.lt x hx).1; omega) (fun x hx => by have := (hrm.sts.lt x hx).1; have := hrm.bm; omega) (by omega)).lower hR (by omega)⟩, ?_⟩
        exact (HCH.out.self (Ch.of_below (below_drew _))).self (hcq.le fun x hx => .inr (by omega))
      | false =>
        rw [hpd] at c3
        have HFA : Hid (AA = .error ((v0 :: ls0).length, 210)) := by
          show _ = _
          rw [HAA.out, HRES.out]
          simp [finA, hpd]
        clear hpd
        have HSS : Hid (RdS w R false W4.drew) := ⟨c0, c3⟩
        have k0 : ∀ wx, RdS w R false wx → wx.cell? ⟨w.heap.size, 0, none⟩ = some (.pointer (some ⟨R, 0, none⟩)) := fun wx h => h.1
        have k3 : ∀ wx, RdS w R false wx → wx.cell? ⟨R, 3, none⟩ = some (.bool false) := fun wx h => h.2
        clear c0 c3
        refine Code.wp_mono (Q := RdQ (w.heap.size + 2) (ReadGot R AA w)) rdQ_imp ?_
        refine wp_region_held_drew (S := RdS w R false) (by kernel_rfl) ?_ (fun hHeld => ?_)
        · exact HSS.out
        refine wpAnyH_take (i := 0) (oi := ⟨some 24, _, _, _, _, _⟩) (v := ?_) rfl (by kernel_rfl) (by kernel_rfl) (by kernel_rfl) (fun _ _ _ h => h) (Or.inl ⟨by rfl, ?_⟩) hHeld ?_
        rotate_left
        · intro w hSw; (try dsimp only at hSw); go_simp; all_goals (with_reducible rfl)
        try simp only [Act.put, List.setIfInBounds_toArray, List.set_cons_zero, List.set_cons_succ]
        refine wpAnyH_take (i := 1) (oi := ⟨some 25, _, _, _, _, _⟩) (v := ?_) rfl (by kernel_rfl) (by kernel_rfl) (by kernel_rfl) (fun _ _ _ h => h) (Or.inl ⟨by rfl, ?_⟩) hHeld ?_
        rotate_left
        · intro w hSw; (try dsimp only at hSw); go_simp; all_goals (with_reducible rfl)
        try simp only [Act.put, List.setIfInBounds_toArray, List.set_cons_zero, List.set_cons_succ]
        refine wpAnyH_take (i := 2) (oi := ⟨some 26, _, _, _, _, _⟩) (v := ?_) rfl (by kernel_rfl) (by kernel_rfl) (by kernel_rfl) (fun _ _ _ h => h) (Or.inl ⟨by rfl, ?_⟩) hHeld ?_
        rotate_left
        · intro w hSw; (try dsimp only at hSw); go_simp; all_goals (with_reducible rfl)
        try simp only [Act.put, List.setIfInBounds_toArray, List.set_cons_zero, List.set_cons_succ]
        refine wpAnyH_take (i := 3) (oi := ⟨some 27, _, _, _, _, _⟩) (v := ?_) rfl (by kernel_rfl) (by kernel_rfl) (by kernel_rfl) (fun _ _ _ h => h) (Or.inl ⟨by rfl, ?_⟩) hHeld ?_
        rotate_left
        · intro w hSw; (try dsimp only at hSw); go_simp; all_goals (with_reducible rfl)
        try simp only [Act.put, List.setIfInBounds_toArray, List.set_cons_zero, List.set_cons_succ]
        refine wpAnyH_take (i := 4) (oi := ⟨some 28, _, _, _, _, _⟩) (v := ?_) rfl (by kernel_rfl) (by kernel_rfl) (by kernel_rfl) (fun _ _ _ h => h) (Or.inl ⟨by rfl, ?_⟩) hHeld ?_
        rotate_left
        · intro w hSw; (try dsimp only at hSw); go_simp; all_goals (with_reducible rfl)
        try simp only [Act.put, List.setIfInBounds_toArray, List.set_cons_zero, List.set_cons_succ]
        refine wpAnyH_take (i := 5) (oi := ⟨some 29, _, _, _, _, _⟩) (v := ?_) rfl (by kernel_rfl) (by kernel_rfl) (by kernel_rfl) (fun _ _ _ h => h) (Or.inl ⟨by rfl, ?_⟩) hHeld ?_
        rotate_left
        · intro w hSw; (try dsimp only at hSw); go_simp; all_goals (with_reducible rfl)
        try simp only [Act.put, List.setIfInBounds_toArray, List.set_cons_zero, List.set_cons_succ]
        refine wpAnyH_ready (rs := [6]) (by kernel_rfl) (by simp) ?_
        refine AllReadyH.cons (o := ⟨some 30, _, _, _, _, _⟩) rfl (fun K hK => ?_) AllReadyH.nil
        go_simp
        refine (refuse_yes (HRM.out.go (below_drew _)) 210).mono ?_
        rintro e9 W5 ⟨⟨u, pv, rfl⟩, b1, b2, b3⟩
        have hdf : W5.heap[w.heap.size + 2]? = some (.deferred (some [])) := blk_ch (w := W4.drew) HDF.out b3 (by omega)
        have hcq : Ch (fun x => x = w.heap.size + 2) W5 (W5.putObj (w.heap.size + 2) (.deferred none)) := ch_put _
        refine ⟨rfl, _, run_takeDeferred hdf, ?_⟩
        rw [HFA.out]
        refine ⟨⟨_, _, rfl⟩, hcq.cell b1 (by show ¬ R = _; omega), hcq.cell b2 (by show ¬ R = _; omega), ?_⟩
        exact ((HCH.out.self (Ch.of_below (below_drew _))).self (b3.le fun x hx => by rcases hx with h | h; exact .inl h; exact .inr (by omega))).self (hcq.le fun x hx => .inr (by omega))
    · obtain ⟨n, f, hA, ⟨u, pv, he⟩, b1, b2, b3⟩ := hbad
      have hy2' : W3.heap[w.heap.size + 2]? = some (.deferred (some [])) := blk_ch HY2.out b3 (by omega)
      have hcq : Ch (fun x => x = w.heap.size + 2) W3 (W3.putObj (w.heap.size + 2) (.deferred none)) := ch_put _
      injection he with he
      subst he
      refine ⟨.inr ⟨_, rfl⟩, ?_⟩
      refine ⟨by simp, .inl ⟨_, _, rfl, run_takeDeferred hy2', ?_⟩⟩
      show ReadGot R AA w _ _
      rw [HAA.out, hA]
      refine ⟨⟨_, _, rfl⟩, hcq.cell b1 (by show ¬ R = _; omega), hcq.cell b2 (by show ¬ R = _; omega), ?_⟩
      exact ((Ch.of_below HS1.out.2).self (b3.le fun x hx => by rcases hx with h | h | h; exact .inl h; exact .inr (by omega); exact .inr (by omega))).self (hcq.le fun x hx => .inr (by omega))
end Go.Proofs.YtkiplcmndpdifaaGreatDoor


