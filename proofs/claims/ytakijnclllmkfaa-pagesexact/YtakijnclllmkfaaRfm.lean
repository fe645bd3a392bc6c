/- PagesExact: of every script over a disk and the book on it every answer is the document's, and so are the disk's image and how often it was read and written; for all numbers and every script within the reach.
-/
import Derived.Test.YtakijnclllmkfaaTa
import Derived.Test.YtakijnclllmkfaaEb
import Derived.Test.YtakijnclllmkfaaPx
import Derived.Deep.CutBlock
import Derived.SizedLaws
namespace Go.Proofs.Ytakijnclllmkfaa
open Go.RowKit

set_option maxHeartbeats 1000000 in
theorem weight_walk {w : World} {lv : Value} {ps : List (Int × List Nat)} (h : Tv w lv ps) : Calls Try.prog 15 #[lv] w fun e w' => (∃ z : Int, e = .returned (.int .i64 z)) ∧ w' = w := by
  obtain ⟨⟨ao, cap, rfl, hl1, hl2, _, hel⟩, _⟩ := h
  have hli : (ps.length : Int) ≤ 9223372036854775807 := by have h := Nat.le_trans hl1 hl2; simp only [maxLen] at h; omega
  have HEL : Hid (∀ i (h : i < ps.length), ∃ b off u, ao = some ⟨b, off, none⟩ ∧ w.cell? ⟨b, off + i * 2, none⟩ = some (.int .i64 ps[i].1) ∧ w.cell? ⟨b, off + i * 2 + 1, none⟩ = some u ∧ Bv w u ps[i].2) := hel
  clear hl1 hl2 hel
  go_enter Try.func15, Try.ntmps15
  go_wp2_with fail
  go_loopw [3, 4] (fun nv iv wr => ∃ (i : Nat) (z : Int), i ≤ ps.length ∧ nv = .int .i64 z ∧ iv = .int .i64 i ∧ wr = w) (fun _ iv _ => ps.length - (intOf iv).toNat)
  case atStart => exact ⟨0, _, Nat.zero_le _, rfl, rfl, rfl⟩
  case round =>
    obtain ⟨i, z, hi, rfl, rfl, rfl⟩ := hrel
    by_cases hlt : i < ps.length
    · have hlti : (i : Int) < (ps.length : Int) := by omega
      by_cases hz : z ≤ 4194304
      · obtain ⟨b, off, u, rfl, _, e1, hb⟩ := HEL.out i hlt
        obtain ⟨uo, uc, rfl, _⟩ := bv_form hb
        clear hb
        go_wp2_with fail
        go_roundw
        case rel => exact ⟨i + 1, _, hlt, rfl, by go_num, by first | rfl | trivial⟩
        case measure => simp [intOf]; omega
      · go_wp2_with fail
        all_goals (go_ret; exact ⟨⟨_, rfl⟩, rfl⟩)
    · have hlti : ¬ (i : Int) < (ps.length : Int) := by omega
      go_wp2_with fail
      all_goals (go_ret; exact ⟨⟨_, rfl⟩, rfl⟩)

/-- What a call at a book or none leaves. -/
def St (F : Value → Value → Bo → Array Value) (TB TD : TypeId) (A : Nat → Prop) (w w' : World) (v' dv : Value) (o' : Option Bo) (S' : Dk) : Prop :=
  ∃ A', BO F TB TD A' w' v' dv o' S' ∧ (∀ x, A' x → A x ∨ w.heap.size ≤ x) ∧ Ch A w w'

section
variable {F : Value → Value → Bo → Array Value} {TB TD : TypeId} {A E D : Nat → Prop} {w w' : World} {v dv : Value} {o : Option Bo} {S : Dk}

theorem Ch.wide {w1 w2 : World} (h : Ch D w1 w2) (hd : ∀ x, D x → A x) : Ch A w1 w2 := ⟨h.os, h.tape, h.output, h.size, fun k hk hn => h.block k hk (fun e => hn (hd k e))⟩

/-- A call of its disk that leaves the disk's blocks where they are. -/
theorem BO.turn (h : BO F TB TD A w v dv o S) : ∃ D, Dsk TD D w dv S ∧ ∀ w' S', Dsk TD D w' dv S' → Ch D w w' → S'.bl.length = S.bl.length → St F TB TD A w w' v dv o S' := by
  obtain ⟨D, h1, h2, h3⟩ := h.disk
  refine ⟨D, h1, fun w' S' a b c => ⟨fun x => A x ∨ D x, h3 D w' S' a (fun _ hx => .inl hx) b c, fun x hx => .inl (hx.elim id (h2 x)), b.wide h2⟩⟩

/-- Open and Format on its disk. -/
theorem BO.anew (h : BO F TB TD A w v dv o S) : ∃ D, Dsk TD D w dv S ∧ ∀ e w' c o' S', Ob F TB TD D w dv c o' S' e w' → ∃ v', e = .returned (.tuple #[v', .int .i64 c]) ∧ St F TB TD A w w' v' dv o' S' := by
  obtain ⟨D, h1, h2, _⟩ := h.disk
  refine ⟨D, h1, fun e w' c o' S' ho => ?_⟩
  obtain ⟨v', A', he, hb, hx, hc⟩ := ob_bo ho
  exact ⟨v', he, A', hb, fun x hx1 => (hx x hx1).imp (h2 x) id, hc.wide h2⟩

theorem Zg.st {p : Int} {e : Ending} (h : Zg F TB TD A w v dv o S p e w') : St F TB TD A w w' v dv (zB o S) (zS o S p) := by
  obtain ⟨_, _, _, c, d⟩ := h
  exact ⟨A, c, fun _ hx => .inl hx, d⟩
theorem Zp.st {ps : List (Int × List Nat)} {e : Ending} (h : Zp F TB TD A w v dv o S ps e w') : St F TB TD A w w' v dv (zO o S ps).2.1 (zO o S ps).2.2 := by
  obtain ⟨_, ⟨A', b, c⟩, d⟩ := h
  exact ⟨A', b, c, d⟩
theorem St.self (h : BO F TB TD A w v dv o S) : St F TB TD A w w v dv o S := ⟨A, h, fun _ hx => .inl hx, Ch.refl _ _⟩
end

/-- A book or none on a disk, the reference's beside it, the same; all of it new since w. -/
structure Ps (w wr : World) (b y dv xv : Value) (o : Option Bo) (S : Dk) (A1 A2 : Nat → Prop) : Prop where
  p : OP A1 wr b dv o S
  q : OQ A2 wr y xv o S
  dj : ∀ x, A1 x → ¬ A2 x
  n1 : ∀ x, A1 x → w.heap.size ≤ x
  n2 : ∀ x, A2 x → w.heap.size ≤ x
  bl : Below w.heap.size w wr

section
variable {w wr w1 w2 : World} {b y b' y' dv xv : Value} {o o' : Option Bo} {S S' : Dk} {A1 A2 : Nat → Prop}

/-- The reference's side behind the program's call. -/
theorem Ps.mid (h : Ps w wr b y dv xv o S A1 A2) (h1 : St hdP 77 81 A1 wr w1 b' dv o' S') : OQ A2 w1 y xv o S := by
  obtain ⟨_, _, _, c⟩ := h1
  exact h.q.ch c (fun x h2 h3 => h.dj x h3 h2)

theorem Ps.midb (h : Ps w wr b y dv xv o S A1 A2) (h1 : St hdP 77 81 A1 wr w1 b' dv o' S') : Below w.heap.size w w1 := by
  obtain ⟨_, _, _, c⟩ := h1
  exact h.bl.trans (c.to_below h.bl.size h.n1)

theorem Ps.step (h : Ps w wr b y dv xv o S A1 A2) (h1 : St hdP 77 81 A1 wr w1 b' dv o' S') (h2 : St hdR 87 83 A2 w1 w2 y' xv o' S') :
    ∃ A1' A2', Ps w w2 b' y' dv xv o' S' A1' A2' := by
  have hB1 := h.midb h1
  have hq := h.mid h1
  obtain ⟨A1', p1, x1, c1⟩ := h1
  obtain ⟨A2', p2, x2, c2⟩ := h2
  have d1 : ∀ x, A1' x → ¬ A2 x := fun x hx h2 => by
    rcases x1 x hx with q | q
    · exact h.dj x q h2
    · have := h.q.lt h2; omega
  refine ⟨A1', A2', p1.ch c2 d1, p2, fun x hx h2 => ?_, fun x hx => ?_, fun x hx => ?_, hB1.trans (c2.to_below hB1.size h.n2)⟩
  · rcases x2 x h2 with q | q
    · exact d1 x hx q
    · have := p1.lt hx; omega
  · rcases x1 x hx with q | q
    · exact h.n1 x q
    · exact Nat.le_trans h.bl.size q
  · rcases x2 x hx with q | q
    · exact h.n2 x q
    · exact Nat.le_trans hB1.size q

theorem Ps.below (h : Ps w wr b y dv xv o S A1 A2) (hb : Below wr.heap.size wr w1) : Ps w w1 b y dv xv o S A1 A2 := ⟨h.p.below hb, h.q.below hb, h.dj, h.n1, h.n2, below_trans h.bl hb⟩

theorem Ps.form (h : Ps w wr b y dv xv o S A1 A2) : (b = .pointer none ∧ y = .pointer none) ∨ ∃ pb yb, b = .pointer (some ⟨pb, 0, none⟩) ∧ y = .pointer (some ⟨yb, 0, none⟩) := by
  rcases h.p.form with ⟨e1, e2⟩ | ⟨⟨P, e1⟩, pb, e2⟩
  · rcases h.q.form with ⟨_, e4⟩ | ⟨⟨P, e3⟩, _⟩
    · exact .inl ⟨e2, e4⟩
    · rw [e1] at e3; cases e3
  · rcases h.q.form with ⟨e3, _⟩ | ⟨_, yb, e4⟩
    · rw [e1] at e3; cases e3
    · exact .inr ⟨pb, yb, e2, e4⟩
theorem Ps.good (h : Ps w wr b y dv xv o S A1 A2) : S.ok := by
  obtain ⟨D, hD, _⟩ := h.p.disk; exact hD.good
end

/-- How much is read and written. -/
def Few (S S' : Dk) : Prop := S'.rd ≤ S.rd + 2 ∧ S'.wr ≤ S.wr + 66

theorem few_get (o : Option Bo) (S : Dk) (p : Int) : Few S (zS o S p) := by
  unfold zS
  split
  · exact ⟨by omega, by omega⟩
  · unfold getS
    split
    · exact ⟨by omega, by omega⟩
    · split
      · exact ⟨by omega, by omega⟩
      · split
        · exact ⟨by omega, by omega⟩
        · refine ⟨?_, ?_⟩ <;> (unfold readS; split)
          · show S.rd + 1 ≤ _; omega
          · omega
          · show S.wr ≤ _; omega
          · omega

theorem write_rd {S : Dk} {i : Int} {b : List Nat} : (writeS S i b).rd = S.rd := by
  unfold writeS
  split
  · rfl
  · split
    · rfl
    · split <;> rfl

theorem lay_rd : ∀ (l : List (Int × List Nat)) (tab : List Nat) (b : Nat) (n : List Nat) (S : Dk), (layS tab l b n S).2.rd = S.rd := by
  intro l
  induction l with
  | nil => intro tab b n S; rfl
  | cons pd l ih =>
    intro tab b n S
    obtain ⟨p, d⟩ := pd
    unfold layS
    split
    · exact ih _ _ _ _
    · split
      · rw [ih, write_rd]
      · exact write_rd

theorem few_put (o : Option Bo) (S : Dk) {ps : List (Int × List Nat)} (hl : ps.length ≤ 64) : Few S (zO o S ps).2.2 := by
  unfold zO
  split
  · exact ⟨by show S.rd ≤ _; omega, by show S.wr ≤ _; omega⟩
  · rename_i P
    show Few S (putO P S ps).2.2
    unfold putO
    split
    · exact ⟨by show S.rd ≤ _; omega, by show S.wr ≤ _; omega⟩
    split
    · exact ⟨by show S.rd ≤ _; omega, by show S.wr ≤ _; omega⟩
    split
    · exact ⟨by show S.rd ≤ _; omega, by show S.wr ≤ _; omega⟩
    split
    · exact ⟨by show S.rd ≤ _; omega, by show S.wr ≤ _; omega⟩
    have h1 := lay_wrS ps P.tab 1 P.tab S
    have h2 := lay_rd ps P.tab 1 P.tab S
    split
    · rename_i S' e
      rw [e] at h1 h2
      simp only at h1 h2
      exact ⟨by show S'.rd ≤ _; omega, by show S'.wr ≤ _; omega⟩
    · rename_i t S' e
      rw [e] at h1 h2
      simp only at h1 h2
      have h3 := write_wr (S := S') (i := ((1 - P.home : Nat) : Int)) (b := rootB (P.gen + 1) t)
      have h4 := write_rd (S := S') (i := ((1 - P.home : Nat) : Int)) (b := rootB (P.gen + 1) t)
      split
      · exact ⟨by show (writeS S' _ _).rd ≤ _; omega, by show (writeS S' _ _).wr ≤ _; omega⟩
      · exact ⟨by show (writeS S' _ _).rd ≤ _; omega, by show (writeS S' _ _).wr ≤ _; omega⟩

theorem few_open (S : Dk) : Few S (opS S) := by
  unfold opS
  split
  · exact ⟨by omega, by omega⟩
  · refine ⟨rd_rd S 2, ?_⟩
    have : (rdS S 2).wr = S.wr := by
      show (readS (readS S _) _).wr = _
      unfold readS; split <;> split <;> rfl
    omega

theorem few_form (S : Dk) (n : Int) : Few S (formO S n).2.2 := by
  have h1 := write_wr (S := S) (i := 1) (b := [])
  have h2 := write_rd (S := S) (i := 1) (b := [])
  have h3 := write_wr (S := writeS S 1 []) (i := 0) (b := rootB 1 (zer n.toNat))
  have h4 := write_rd (S := writeS S 1 []) (i := 0) (b := rootB 1 (zer n.toNat))
  unfold formO
  split
  · exact ⟨by show S.rd ≤ _; omega, by show S.wr ≤ _; omega⟩
  split
  · exact ⟨by show S.rd ≤ _; omega, by show S.wr ≤ _; omega⟩
  split
  · exact ⟨by show (writeS S _ _).rd ≤ _; omega, by show (writeS S _ _).wr ≤ _; omega⟩
  split
  · exact ⟨by show (writeS (writeS S _ _) _ _).rd ≤ _; omega, by show (writeS (writeS S _ _) _ _).wr ≤ _; omega⟩
  · exact ⟨by show (writeS (writeS S _ _) _ _).rd ≤ _; omega, by show (writeS (writeS S _ _) _ _).wr ≤ _; omega⟩

theorem few_same {S S' : Dk} (hr : S'.rd = S.rd) (hw : S'.wr = S.wr) : Few S S' := ⟨by omega, by omega⟩
end Go.Proofs.Ytakijnclllmkfaa

namespace Go.Proofs.Ytakijnclllmkfaa
open Go.RowKit

/-- A block that holds a call of a script. -/
structure OB (w : World) (x : Nat) (K N : Int) (u : Value) : Prop where
  c0 : w.cell? ⟨x, 0, none⟩ = some (.int .i64 K)
  c1 : w.cell? ⟨x, 1, none⟩ = some (.int .i64 N)
  c2 : w.cell? ⟨x, 2, none⟩ = some u

theorem ob_block (w : World) (K N : Int) (u : Value) : OB (w.alloc (Obj.cells #[.int .i64 K, .int .i64 N, u] 40)) w.heap.size K N u := by
  constructor <;> simp [go_sem]

theorem OB.keep {w w' : World} {x : Nat} {K N : Int} {u : Value} (h : OB w x K N u) (hk : w'.heap[x]? = w.heap[x]?) : OB w' x K N u := by
  have e : ∀ i v, w.cell? ⟨x, i, none⟩ = some v → w'.cell? ⟨x, i, none⟩ = some v := fun i v hv => by
    rw [World.cell?_of_block (w := w) (a := ⟨x, i, none⟩) hk]; exact hv
  exact ⟨e _ _ h.c0, e _ _ h.c1, e _ _ h.c2⟩

theorem zl_bytes9 {o : Option Bo} {S : Dk} (h : S.ok) (p : Int) : ∀ c ∈ zL o S p, c < 256 := by
  unfold zL
  split
  · intro c hc; simp at hc
  · unfold getL
    split
    · intro c hc; simp at hc
    · split
      · intro c hc; simp at hc
      · split
        · intro c hc; simp at hc
        · exact (read_fit h _).2

/-- Where the loop stands. -/
def Pr (w : World) (dv xv : Value) (n : Nat) (b y av iv : Value) (wr : World) : Prop :=
  ∃ (i : Nat) (z : Int) (o : Option Bo) (S : Dk) (A1 A2 : Nat → Prop), i ≤ n ∧ av = .int .i64 z ∧ iv = .int .i64 i ∧ Ps w wr b y dv xv o S A1 A2 ∧ S.rd ≤ 2 * (i + 1) ∧ S.wr ≤ 66 * (i + 1)

/-- What the switch leaves. -/
def Sw (w : World) (dv xv : Value) (S : Dk) (b y : Value) (wx : World) : Prop :=
  ∃ (o' : Option Bo) (S' : Dk) (A1 A2 : Nat → Prop), Ps w wx b y dv xv o' S' A1 A2 ∧ Few S S'

theorem Sw.of {w wr w1 w2 : World} {b y b' y' dv xv : Value} {o o' : Option Bo} {S S' : Dk} {A1 A2 : Nat → Prop} (h : Ps w wr b y dv xv o S A1 A2) (h1 : St hdP 77 81 A1 wr w1 b' dv o' S') (h2 : St hdR 87 83 A2 w1 w2 y' xv o' S') (hf : Few S S') : Sw w dv xv S b' y' w2 := by
  obtain ⟨B1, B2, h3⟩ := h.step h1 h2
  exact ⟨o', S', B1, B2, h3, hf⟩

set_option maxRecDepth 100000 in
set_option maxHeartbeats 16000000 in
theorem pagesexact_walk {w : World} {bl n : Int} {v : Value} {cs : List Cy} (h : Yv w v cs) (hs : cs.length ≤ 140737488355328) :
    Calls Try.prog 3 #[.int .i64 bl, .int .i64 n, v] w fun e w' => e = .returned (.bool true) ∧ Below w.heap.size w w' := by
  obtain ⟨⟨ao, cap, rfl, _, _, _, hel⟩, hcn⟩ := h
  have HEL : Hid (∀ i (h : i < cs.length), ∃ b off u, ao = some ⟨b, off, none⟩ ∧ w.cell? ⟨b, off + i * 3, none⟩ = some (.int .i64 cs[i].K) ∧ w.cell? ⟨b, off + i * 3 + 1, none⟩ = some (.int .i64 cs[i].N) ∧ w.cell? ⟨b, off + i * 3 + 2, none⟩ = some u ∧ Tv w u cs[i].l) := hel
  have HCN : Hid (∀ c ∈ cs, -9223372036854775808 ≤ c.N ∧ c.N < 9223372036854775808) := hcn
  have HS : Hid (cs.length ≤ 140737488355328) := hs
  have hli : (cs.length : Int) ≤ 140737488355328 := by omega
  clear hel hcn hs
  go_enter Try.func3, Try.ntmps3
  go_wp2_with fail
  refine (awake_walk w).mono ?_
  rintro e w0 ⟨rfl, hB0⟩
  go_wp2_with fail
  refine (format_nil n).mono ?_
  rintro e w1 ⟨rfl, hB1⟩
  have HB1 : Hid (Below w.heap.size w w1) := below_trans hB0 hB1
  clear hB0 hB1
  go_wp2_with fail
  refine open_nil.mono ?_
  rintro e w9 ⟨rfl, h9⟩
  replace h9 := h9.symm
  subst h9
  by_cases hbl : bl < 1 ∨ 64 < bl
  · go_wp2_with fail
    refine (new_bad hbl).mono ?_
    rintro e w9 ⟨rfl, h9⟩
    replace h9 := h9.symm
    subst h9
    go_wp2_with fail
    refine (rnew_bad hbl).mono ?_
    rintro e w9 ⟨rfl, h9⟩
    replace h9 := h9.symm
    subst h9
    go_wp2_with fail
    go_ret
    exact ⟨rfl, HB1.out⟩
  obtain ⟨m, rfl⟩ : ∃ m : Nat, bl = m := ⟨bl.toNat, by omega⟩
  have hm1 : 1 ≤ m := by omega
  have hm2 : m ≤ 64 := by omega
  clear hbl
  go_wp2_with fail
  refine (new_walk hm1 hm2).mono ?_
  rintro e w2 ⟨dv, D1, rfl, hD1, hB2, hx1⟩
  go_wp2_with fail
  refine (rnew_walk hm1 hm2).mono ?_
  rintro e w3 ⟨xv, D2, rfl, hD2, hB3, hx2⟩
  have HP : Hid (Ps w w3 (.pointer none) (.pointer none) dv xv none (loadS (List.replicate m [])) D1 D2) := by
    have hD3 := hD1.below hB3
    refine ⟨.inr ⟨rfl, rfl, ⟨D1, hD3, fun x hx => hx⟩, fun x hx => hD3.lt hx⟩, .inr ⟨rfl, rfl, ⟨D2, hD2, fun x hx => hx⟩, fun x hx => hD2.lt hx⟩, fun x h1 h2 => ?_, fun x hx => Nat.le_trans HB1.out.size (hx1 x hx), fun x hx => Nat.le_trans (Nat.le_trans HB1.out.size hB2.size) (hx2 x hx), below_trans HB1.out (below_trans hB2 hB3)⟩
    have a := hD1.lt h1
    have b := hx2 x h2
    omega
  clear hD1 hB2 hx1 hD2 hB3 hx2 hm1 hm2
  obtain ⟨S0, hS0⟩ : ∃ S0, S0 = loadS (List.replicate m []) := ⟨_, rfl⟩
  have HS0 : Hid (S0.rd = 0 ∧ S0.wr = 0) := by rw [hS0]; exact ⟨rfl, rfl⟩
  rw [← hS0] at HP
  clear hS0
  obtain ⟨c, hc⟩ : ∃ c, c = (formO S0 n).1 := ⟨_, rfl⟩
  have HC : Hid ((formO S0 n).1 = c) := hc.symm
  have hcc : (c != c) = false := by simp
  clear hc
  obtain ⟨D, hD, hA⟩ := HP.out.p.anew
  have HA : Hid (∀ e w' c o' S', Ob hdP 77 81 D w3 dv c o' S' e w' → ∃ v', e = .returned (.tuple #[v', .int .i64 c]) ∧ St hdP 77 81 D1 w3 w' v' dv o' S') := hA
  clear hA
  go_wp2_with fail
  refine (format_walk hD n (by rw [HS0.out.2]; omega)).mono ?_
  intro e w4 hfm
  obtain ⟨b, rfl, hst⟩ := HA.out _ _ _ _ _ hfm
  rw [HC.out]
  have HST : Hid (St hdP 77 81 D1 w3 w4 b dv (formO S0 n).2.1 (formO S0 n).2.2) := hst
  clear hD HA hfm hst
  obtain ⟨D, hD, hA⟩ := (HP.out.mid HST.out).anew
  have HA : Hid (∀ e w' c o' S', Ob hdR 87 83 D w4 xv c o' S' e w' → ∃ v', e = .returned (.tuple #[v', .int .i64 c]) ∧ St hdR 87 83 D2 w4 w' v' xv o' S') := hA
  clear hA
  go_wp2_with fail
  refine (rformat_walk hD n (by rw [HS0.out.2]; omega)).mono ?_
  intro e w5 hfm
  obtain ⟨y, rfl, hst⟩ := HA.out _ _ _ _ _ hfm
  rw [HC.out]
  obtain ⟨E1, E2, hps⟩ := HP.out.step HST.out hst
  have HP5 : Hid (Ps w w5 b y dv xv (formO S0 n).2.1 (formO S0 n).2.2 E1 E2) := hps
  have HST5 : Hid (Pr w dv xv cs.length b y (.int .i64 0) (.int .i64 0) w5) := by
    have h1 := few_form S0 n
    have h2 := HS0.out
    exact ⟨0, 0, _, _, E1, E2, Nat.zero_le _, rfl, rfl, hps, by have := h1.1; omega, by have := h1.2; omega⟩
  have hform := HP5.out.form
  clear hD HA hfm hst hps HP HST HP5 HS0 HC
  go_upto_region 13 with fail
  go_cut [80] (fun g wx => g = .bool false ∧ wx = w5)
  case first =>
    rcases hform with ⟨hfb, hfy⟩ | ⟨pb, yb, hfb, hfy⟩
    all_goals
      subst hfb
      subst hfy
      go_wp2_with fail
      go_meet
      exact ⟨rfl, rfl⟩
  case rest =>
    obtain ⟨rfl, hwc⟩ := hcut
    subst hwc
    clear hform hcc
    go_wp2_with fail
    go_loopw [8, 10, 13, 14, 15, 16] (fun _ _ b y av iv wr => Pr w dv xv cs.length b y av iv wr) (fun _ _ _ _ _ iv _ => cs.length - (intOf iv).toNat)
    case atStart => exact HST5.out
    case round =>
      clear HST5
      rename_i b0 y0 _ _ _
      obtain ⟨i, z, o, S, A1, A2, hi, rfl, rfl, hP, hrd, hwr⟩ := hrel
      have HP : Hid (Ps w wr _ _ dv xv o S A1 A2) := hP
      have HRW : Hid (S.rd ≤ 2 * (i + 1) ∧ S.wr ≤ 66 * (i + 1)) := ⟨hrd, hwr⟩
      clear hP hrd hwr
      by_cases hlt : i < cs.length
      · obtain ⟨rb, roff, u, rfl, e0, e1, e2, htv⟩ := HEL.out i hlt
        obtain ⟨C, hC⟩ : ∃ C, C = cs[i] := ⟨_, rfl⟩
        rw [← hC] at e0 e1 htv
        have HN : Hid (-9223372036854775808 ≤ C.N ∧ C.N < 9223372036854775808) := by rw [hC]; exact HCN.out _ (List.getElem_mem _)
        obtain ⟨K, N, l⟩ := C
        have HTV : Hid (Tv w u l) := htv
        obtain ⟨uo, uc, hue⟩ : ∃ uo uc, u = .slice uo l.length uc := by obtain ⟨⟨uo, uc, e, _⟩, _⟩ := HTV.out; exact ⟨uo, uc, e⟩
        subst hue
        have g0 : wr.cell? ⟨rb, roff + i * 3, none⟩ = some (.int .i64 K) := by rw [HP.out.bl.cell (p := ⟨rb, roff + i * 3, none⟩) (cell_lt e0)]; exact e0
        have g1 : wr.cell? ⟨rb, roff + i * 3 + 1, none⟩ = some (.int .i64 N) := by rw [HP.out.bl.cell (p := ⟨rb, roff + i * 3 + 1, none⟩) (cell_lt e1)]; exact e1
        have g2 : wr.cell? ⟨rb, roff + i * 3 + 2, none⟩ = some (.slice uo l.length uc) := by rw [HP.out.bl.cell (p := ⟨rb, roff + i * 3 + 2, none⟩) (cell_lt e2)]; exact e2
        have hlti : (i : Int) < (cs.length : Int) := by omega
        clear hC htv e0 e1 e2
        go_upto_region 20 with fail
        clear g0 g1 g2
        have HO : Hid (OB (wr.alloc (Obj.cells #[.int .i64 K, .int .i64 N, .slice uo l.length uc] 40)) wr.heap.size K N (.slice uo l.length uc)) := ob_block _ _ _ _
        have hBo : Below wr.heap.size wr (wr.alloc (Obj.cells #[.int .i64 K, .int .i64 N, .slice uo l.length uc] 40)) := below_alloc _ _
        have HOL : Hid (wr.heap.size < (wr.alloc (Obj.cells #[.int .i64 K, .int .i64 N, .slice uo l.length uc] 40)).heap.size) := by show _ < _; simp [go_sem]
        have HXA : Hid (¬ A1 wr.heap.size ∧ ¬ A2 wr.heap.size) := ⟨fun h => Nat.lt_irrefl _ (HP.out.p.lt h), fun h => Nat.lt_irrefl _ (HP.out.q.lt h)⟩
        generalize wr.alloc (Obj.cells #[.int .i64 K, .int .i64 N, .slice uo l.length uc] 40) = w6 at HO hBo HOL ⊢
        have HP6 : Hid (Ps w w6 u13 u14 dv xv o S A1 A2) := HP.out.below hBo
        obtain ⟨ox, hox⟩ : ∃ ox, ox = wr.heap.size := ⟨_, rfl⟩
        rw [← hox] at HO HOL HXA ⊢
        clear hBo HP hox
        obtain ⟨o0, o1, o2⟩ := HO.out
        go_cut [15] (fun av wx => (∃ Z, av = .int .i64 Z) ∧ wx = w6)
        case first =>
          have HT6 : Hid (Tv w6 (.slice uo l.length uc) l) := HTV.out.below HP6.out.bl
          go_wp2_with fail
          refine (weight_walk HT6.out).mono ?_
          rintro e w9 ⟨⟨zz, rfl⟩, h9⟩
          replace h9 := h9.symm
          subst h9
          go_wp2_with fail
          go_meet
          exact ⟨⟨_, rfl⟩, rfl⟩
        case rest =>
          obtain ⟨⟨Z, rfl⟩, hwc⟩ := hcut
          subst hwc
          go_upto_region 21 with fail
          go_cut [104] (fun g wx => (∃ f : Bool, g = .bool f ∧ (f = false → l.length ≤ 64)) ∧ wx = wc)
          case first =>
            by_cases hZ : 4194304 < Z
            · have hZd : decide (Z > 4194304) = true := decide_eq_true hZ
              go_wp2_with fail
              all_goals (go_meet; exact ⟨⟨true, by simp, fun h => (by cases h)⟩, rfl⟩)
            · have hZd : decide (Z > 4194304) = false := decide_eq_false hZ
              by_cases h64 : (64 : Int) < (l.length : Int)
              · have h6d : decide ((l.length : Int) > 64) = true := decide_eq_true h64
                go_wp2_with fail
                all_goals (go_meet; exact ⟨⟨true, by simp, fun h => (by cases h)⟩, rfl⟩)
              · have h6d : decide ((l.length : Int) > 64) = false := decide_eq_false h64
                go_wp2_with fail
                all_goals (go_meet; exact ⟨⟨false, by simp <;> omega, fun _ => by omega⟩, rfl⟩)
          case rest =>
            obtain ⟨⟨f, rfl, hf⟩, hwc⟩ := hcut
            subst hwc
            cases f
            · have H64 : Hid (l.length ≤ 64) := hf rfl
              have HRB : Hid (S.rd < 4611686018427387904 ∧ S.wr < 4611686018427387904) := by have h1 := HRW.out; have h2 := HS.out; exact ⟨by omega, by omega⟩
              clear hf
              go_upto_block 2 with fail
              go_cut [8, 10, 13, 14, 18, 19, 20, 21] (fun _ _ b' y' _ _ _ _ wx => Sw w dv xv S b' y' wx)
              case first =>
                by_cases k1 : K = 1
                · as_aux_lemma =>
                    subst k1
                    have HPd : Hid (Ps w wc.drew u13 u14 dv xv o S A1 A2) := HP6.out.below (below_drewN _ 1)
                    obtain ⟨I, hI⟩ : ∃ I, I = (zO o S l).1 := ⟨_, rfl⟩
                    have HI : Hid ((zO o S l).1 = I) := hI.symm
                    have hII : (I != I) = false := by simp
                    have j2 : ∀ wx, OB wx ox 1 N (.slice uo l.length uc) → wx.cell? ⟨ox, 2, none⟩ = some (.slice uo l.length uc) := fun _ h => h.c2
                    clear hI o0 o1 o2
                    go_upto_region 25 with fail
                    refine wp_region_noPanic ?_
                    refine wp_region_held_drew (S := fun wx => OB wx ox 1 N (.slice uo l.length uc)) (by kernel_rfl) ?_ (fun hHeld => ?_)
                    · exact HO.out.keep rfl
                    refine wpAnyH_take (i := 0) (oi := ⟨some 109, _, _, _, _, _⟩) (v := ?_) rfl (by kernel_rfl) (by kernel_rfl) (by kernel_rfl) (fun _ _ _ h => h) (Or.inl ⟨by rfl, ?_⟩) hHeld ?_
                    rotate_left
                    · intro w hSw; (try dsimp only at hSw); go_simp; all_goals (with_reducible rfl)
                    try simp only [Act.put, List.setIfInBounds_toArray, List.set_cons_zero, List.set_cons_succ]
                    refine wpAnyH_take (i := 1) (oi := ⟨some 110, _, _, _, _, _⟩) (v := ?_) rfl (by kernel_rfl) (by kernel_rfl) (by kernel_rfl) (fun _ _ _ h => h) (Or.inl ⟨by rfl, ?_⟩) hHeld ?_
                    rotate_left
                    · intro w hSw; (try dsimp only at hSw); go_simp; all_goals (with_reducible rfl)
                    try simp only [Act.put, List.setIfInBounds_toArray, List.set_cons_zero, List.set_cons_succ]
                    refine wpAnyH_take (i := 2) (oi := ⟨some 111, _, _, _, _, _⟩) (v := ?_) rfl (by kernel_rfl) (by kernel_rfl) (by kernel_rfl) (fun _ _ _ h => h) (Or.inl ⟨by rfl, ?_⟩) hHeld ?_
                    rotate_left
                    · intro w hSw; (try dsimp only at hSw); go_simp; all_goals (with_reducible rfl)
                    try simp only [Act.put, List.setIfInBounds_toArray, List.set_cons_zero, List.set_cons_succ]
                    refine wpAnyH_take (i := 4) (oi := ⟨some 113, _, _, _, _, _⟩) (v := ?_) rfl (by kernel_rfl) (by kernel_rfl) (by kernel_rfl) (fun _ _ _ h => h) (Or.inl ⟨by rfl, ?_⟩) hHeld ?_
                    rotate_left
                    · intro w hSw; (try dsimp only at hSw); go_simp; all_goals (with_reducible rfl)
                    try simp only [Act.put, List.setIfInBounds_toArray, List.set_cons_zero, List.set_cons_succ]
                    refine wpAnyH_take (i := 5) (oi := ⟨some 114, _, _, _, _, _⟩) (v := ?_) rfl (by kernel_rfl) (by kernel_rfl) (by kernel_rfl) (fun _ _ _ h => h) (Or.inl ⟨by rfl, ?_⟩) hHeld ?_
                    rotate_left
                    · intro w hSw; (try dsimp only at hSw); go_simp; all_goals (with_reducible rfl)
                    try simp only [Act.put, List.setIfInBounds_toArray, List.set_cons_zero, List.set_cons_succ]
                    refine wpAnyH_take (i := 6) (oi := ⟨some 115, _, _, _, _, _⟩) (v := ?_) rfl (by kernel_rfl) (by kernel_rfl) (by kernel_rfl) (fun _ _ _ h => h) (Or.inl ⟨by rfl, ?_⟩) hHeld ?_
                    rotate_left
                    · intro w hSw; (try dsimp only at hSw); go_simp; all_goals (with_reducible rfl)
                    try simp only [Act.put, List.setIfInBounds_toArray, List.set_cons_zero, List.set_cons_succ]
                    refine wpAnyH_ready (rs := [3]) (by kernel_rfl) (by simp) ?_
                    refine AllReadyH.cons (o := ⟨some 112, _, _, _, _, _⟩) rfl (fun K hK => ?_) AllReadyH.nil
                    go_simp
                    refine (zput_walk HPd.out.p ((HTV.out.tx.below HPd.out.bl).mono HPd.out.n1) HRB.out.2).mono ?_
                    intro e w7 hz
                    have HST1 : Hid (St hdP 77 81 A1 wc.drew w7 u13 dv (zO o S l).2.1 (zO o S l).2.2) := hz.st
                    obtain ⟨he, _, hC7⟩ := hz
                    subst he
                    rw [HI.out]
                    have HO7 : Hid (OB w7 ox 1 N (.slice uo l.length uc)) := HO.out.keep (hC7.block ox HOL.out HXA.out.1)
                    clear hC7 hHeld
                    go_simp
                    refine hK.out _ _ ?_ (fun hHeld => ?_)
                    · exact HO7.out
                    clear hK K
                    try simp only [Act.put, List.setIfInBounds_toArray, List.set_cons_zero, List.set_cons_succ]
                    refine wpAnyH_ready (rs := [7]) (by kernel_rfl) (by simp) ?_
                    refine AllReadyH.cons (o := ⟨some 116, _, _, _, _, _⟩) rfl (fun K hK => ?_) AllReadyH.nil
                    go_simp
                    refine (yput_walk (HPd.out.mid HST1.out) ((HTV.out.tx.below (HPd.out.midb HST1.out)).mono HPd.out.n2) HRB.out.2).mono ?_
                    intro e w8 hz
                    have HST2 : Hid (St hdR 87 83 A2 w7 w8 u14 xv (zO o S l).2.1 (zO o S l).2.2) := hz.st
                    obtain ⟨he, _, hC8⟩ := hz
                    subst he
                    rw [HI.out]
                    have HO8 : Hid (OB w8 ox 1 N (.slice uo l.length uc)) := HO7.out.keep (hC8.block ox (cell_lt HO7.out.c0) HXA.out.2)
                    clear hC8 hHeld
                    go_simp
                    refine hK.out _ _ ?_ (fun hHeld => ?_)
                    · exact HO8.out
                    clear hK K
                    try simp only [Act.put, List.setIfInBounds_toArray, List.set_cons_zero, List.set_cons_succ]
                    refine wpAnyH_take (i := 8) (oi := ⟨some 117, _, _, _, _, _⟩) (v := ?_) rfl (by kernel_rfl) (by kernel_rfl) (by kernel_rfl) (fun _ _ _ h => h) (Or.inl ⟨by rfl, ?_⟩) hHeld ?_
                    rotate_left
                    · intro w hSw; (try dsimp only at hSw); go_simp; all_goals (with_reducible rfl)
                    try simp only [Act.put, List.setIfInBounds_toArray, List.set_cons_zero, List.set_cons_succ]
                    refine wpAnyH_done (by kernel_rfl) ?_ _
                    refine NoPanic.normal ?_
                    go_wp2_with fail
                    go_meet
                    exact Sw.of HPd.out HST1.out HST2.out (few_put o S H64.out)
                by_cases k2 : K = 2
                · as_aux_lemma =>
                    subst k2
                    obtain ⟨L, hL⟩ : ∃ L, L = zL o S N := ⟨_, rfl⟩
                    obtain ⟨I, hI⟩ : ∃ I, I = zI o S N := ⟨_, rfl⟩
                    have HLI : Hid (zL o S N = L ∧ zI o S N = I) := ⟨hL.symm, hI.symm⟩
                    have HLB : Hid (∀ c ∈ L, c < 256) := by rw [hL]; exact zl_bytes9 HP6.out.good N
                    have hLL : ((str L).toList == (str L).toList) = true := by simp
                    have hII : (I != I) = false := by simp
                    clear hL hI
                    go_wp2_with fail
                    refine (zget_walk HP6.out.p N (by have := HRB.out; omega)).mono ?_
                    intro e wa hz
                    have HST1 : Hid (St hdP 77 81 A1 wc wa u13 dv (zB o S) (zS o S N)) := hz.st
                    obtain ⟨r1, rfl, ho1, _, hC1⟩ := hz
                    rw [HLI.out.1] at ho1
                    rw [HLI.out.2]
                    obtain ⟨ro, rc, rfl, _, _⟩ := row_form ho1
                    have HV1 : Hid (Bx A2 wa (.slice ro L.length rc) L) := ⟨own_bv ho1 HLB.out, .inr (fun x hx e => by have h1 := (ho1.lt x hx).1; have h2 := HP6.out.q.lt e; omega)⟩
                    have HOa : Hid (OB wa ox 2 N (.slice uo l.length uc)) := HO.out.keep (hC1.block ox HOL.out HXA.out.1)
                    clear ho1 hC1 o0 o1 o2
                    obtain ⟨o0, o1, o2⟩ := HOa.out
                    go_wp2_with fail
                    refine (yget_walk (HP6.out.mid HST1.out) N (by have := HRB.out; omega)).mono ?_
                    intro e we hz
                    have HST2 : Hid (St hdR 87 83 A2 wa we u14 xv (zB o S) (zS o S N)) := hz.st
                    obtain ⟨r2, rfl, ho2, _, hC2⟩ := hz
                    rw [HLI.out.1] at ho2
                    rw [HLI.out.2]
                    obtain ⟨qo, qc, rfl, _, _⟩ := row_form ho2
                    have s1 : (convert 43 9 (.slice ro L.length rc)).run Try.prog we = .ok (.string (str L)) we := str_of (HV1.out.ch hC2 (D' := A2) (fun x hx => .inl hx)).1
                    have s2 : (convert 43 9 (.slice qo L.length qc)).run Try.prog we = .ok (.string (str L)) we := str_of (own_bv ho2 HLB.out)
                    clear ho2 hC2 o0 o1 o2
                    go_wp2_with fail
                    go_meet
                    exact Sw.of HP6.out HST1.out HST2.out (few_get o S N)
                by_cases k3 : K = 3
                · as_aux_lemma =>
                    subst k3
                    obtain ⟨D, hD, hT⟩ := HP6.out.p.turn
                    have HT : Hid (∀ w' S', Dsk 81 D w' dv S' → Ch D wc w' → S'.bl.length = S.bl.length → St hdP 77 81 A1 wc w' u13 dv o S') := hT
                    clear hT
                    go_wp2_with fail
                    refine (cut_walk hD HN.out.2).mono ?_
                    rintro e wa ⟨rfl, hD1, hC1⟩
                    have HST1 : Hid (St hdP 77 81 A1 wc wa u13 dv o (cutS S N)) := HT.out _ _ hD1 hC1 rfl
                    have hCA : Ch A1 wc wa := by obtain ⟨_, _, _, h⟩ := HST1.out; exact h
                    have HOa : Hid (OB wa ox 3 N (.slice uo l.length uc)) := HO.out.keep (hCA.block ox HOL.out HXA.out.1)
                    clear hD hD1 hC1 hCA o0 o1 o2
                    obtain ⟨o0, o1, o2⟩ := HOa.out
                    obtain ⟨G, hG, hT⟩ := (HP6.out.mid HST1.out).turn
                    have HT2 : Hid (∀ w' S', Dsk 83 G w' xv S' → Ch G wa w' → S'.bl.length = S.bl.length → St hdR 87 83 A2 wa w' u14 xv o S') := hT
                    clear hT
                    go_wp2_with fail
                    refine (rcut_walk hG HN.out.2).mono ?_
                    rintro e we ⟨rfl, hD2, hC2⟩
                    have HST2 : Hid (St hdR 87 83 A2 wa we u14 xv o (cutS S N)) := HT2.out _ _ hD2 hC2 rfl
                    clear hG hD2 hC2 o0 o1 o2
                    go_wp2_with fail
                    go_meet
                    exact Sw.of HP6.out HST1.out HST2.out (few_same rfl rfl)
                by_cases k4 : K = 4
                · as_aux_lemma =>
                    subst k4
                    obtain ⟨D, hD, hT⟩ := HP6.out.p.turn
                    have HT : Hid (∀ w' S', Dsk 81 D w' dv S' → Ch D wc w' → S'.bl.length = S.bl.length → St hdP 77 81 A1 wc w' u13 dv o S') := hT
                    clear hT
                    go_wp2_with fail
                    refine (off_walk hD).mono ?_
                    rintro e wa ⟨rfl, hD1, hC1⟩
                    have HST1 : Hid (St hdP 77 81 A1 wc wa u13 dv o (offS S)) := HT.out _ _ hD1 hC1 rfl
                    have hCA : Ch A1 wc wa := by obtain ⟨_, _, _, h⟩ := HST1.out; exact h
                    have HOa : Hid (OB wa ox 4 N (.slice uo l.length uc)) := HO.out.keep (hCA.block ox HOL.out HXA.out.1)
                    clear hD hD1 hC1 hCA o0 o1 o2
                    obtain ⟨o0, o1, o2⟩ := HOa.out
                    obtain ⟨G, hG, hT⟩ := (HP6.out.mid HST1.out).turn
                    have HT2 : Hid (∀ w' S', Dsk 83 G w' xv S' → Ch G wa w' → S'.bl.length = S.bl.length → St hdR 87 83 A2 wa w' u14 xv o S') := hT
                    clear hT
                    go_wp2_with fail
                    refine (roff_walk hG).mono ?_
                    rintro e we ⟨rfl, hD2, hC2⟩
                    have HST2 : Hid (St hdR 87 83 A2 wa we u14 xv o (offS S)) := HT2.out _ _ hD2 hC2 rfl
                    clear hG hD2 hC2 o0 o1 o2
                    go_wp2_with fail
                    go_meet
                    exact Sw.of HP6.out HST1.out HST2.out (few_same rfl rfl)
                by_cases k5 : K = 5
                · as_aux_lemma =>
                    subst k5
                    obtain ⟨D, hD, hT⟩ := HP6.out.p.turn
                    have HT : Hid (∀ w' S', Dsk 81 D w' dv S' → Ch D wc w' → S'.bl.length = S.bl.length → St hdP 77 81 A1 wc w' u13 dv o S') := hT
                    clear hT
                    go_wp2_with fail
                    refine (on_walk hD).mono ?_
                    rintro e wa ⟨rfl, hD1, hC1⟩
                    have HST1 : Hid (St hdP 77 81 A1 wc wa u13 dv o (onS S)) := HT.out _ _ hD1 hC1 rfl
                    have hCA : Ch A1 wc wa := by obtain ⟨_, _, _, h⟩ := HST1.out; exact h
                    have HOa : Hid (OB wa ox 5 N (.slice uo l.length uc)) := HO.out.keep (hCA.block ox HOL.out HXA.out.1)
                    clear hD hD1 hC1 hCA o0 o1 o2
                    obtain ⟨o0, o1, o2⟩ := HOa.out
                    obtain ⟨G, hG, hT⟩ := (HP6.out.mid HST1.out).turn
                    have HT2 : Hid (∀ w' S', Dsk 83 G w' xv S' → Ch G wa w' → S'.bl.length = S.bl.length → St hdR 87 83 A2 wa w' u14 xv o S') := hT
                    clear hT
                    go_wp2_with fail
                    refine (ron_walk hG).mono ?_
                    rintro e we ⟨rfl, hD2, hC2⟩
                    have HST2 : Hid (St hdR 87 83 A2 wa we u14 xv o (onS S)) := HT2.out _ _ hD2 hC2 rfl
                    clear hG hD2 hC2 o0 o1 o2
                    go_wp2_with fail
                    go_meet
                    exact Sw.of HP6.out HST1.out HST2.out (few_same rfl rfl)
                by_cases k6 : K = 6
                · as_aux_lemma =>
                    subst k6
                    obtain ⟨c, hc⟩ : ∃ c, c = opI S := ⟨_, rfl⟩
                    have HC : Hid (opI S = c) := hc.symm
                    have hcc : (c != c) = false := by simp
                    clear hc
                    obtain ⟨D, hD, hA⟩ := HP6.out.p.anew
                    have HA : Hid (∀ e w' c o' S', Ob hdP 77 81 D wc dv c o' S' e w' → ∃ v', e = .returned (.tuple #[v', .int .i64 c]) ∧ St hdP 77 81 A1 wc w' v' dv o' S') := hA
                    clear hA
                    go_wp2_with fail
                    refine (open_walk hD HRB.out.1).mono ?_
                    intro e wa hob
                    obtain ⟨b', rfl, hst⟩ := HA.out _ _ _ _ _ hob
                    rw [HC.out]
                    have HST1 : Hid (St hdP 77 81 A1 wc wa b' dv (opB S) (opS S)) := hst
                    have hCA : Ch A1 wc wa := by obtain ⟨_, _, _, h⟩ := HST1.out; exact h
                    have HOa : Hid (OB wa ox 6 N (.slice uo l.length uc)) := HO.out.keep (hCA.block ox HOL.out HXA.out.1)
                    clear hD HA hob hst hCA o0 o1 o2
                    obtain ⟨o0, o1, o2⟩ := HOa.out
                    obtain ⟨G, hG, hA⟩ := (HP6.out.mid HST1.out).anew
                    have HA2 : Hid (∀ e w' c o' S', Ob hdR 87 83 G wa xv c o' S' e w' → ∃ v', e = .returned (.tuple #[v', .int .i64 c]) ∧ St hdR 87 83 A2 wa w' v' xv o' S') := hA
                    clear hA
                    go_wp2_with fail
                    refine (ropen_walk hG HRB.out.1).mono ?_
                    intro e we hob
                    obtain ⟨y', rfl, hst⟩ := HA2.out _ _ _ _ _ hob
                    rw [HC.out]
                    have HST2 : Hid (St hdR 87 83 A2 wa we y' xv (opB S) (opS S)) := hst
                    clear hG HA2 hob hst o0 o1 o2
                    have HSW : Hid (Sw w dv xv S b' y' we) := Sw.of HP6.out HST1.out HST2.out (few_open S)
                    obtain ⟨B1, B2, hps⟩ := HP6.out.step HST1.out HST2.out
                    have hform := hps.form
                    clear hps
                    rcases hform with ⟨hfb, hfy⟩ | ⟨pb, yb, hfb, hfy⟩
                    all_goals
                      subst hfb
                      subst hfy
                      go_wp2_with fail
                      go_meet
                      exact HSW.out
                by_cases k7 : K = 7
                · as_aux_lemma =>
                    subst k7
                    obtain ⟨c, hc⟩ : ∃ c, c = (formO S N).1 := ⟨_, rfl⟩
                    have HC : Hid ((formO S N).1 = c) := hc.symm
                    have hcc : (c != c) = false := by simp
                    clear hc
                    obtain ⟨D, hD, hA⟩ := HP6.out.p.anew
                    have HA : Hid (∀ e w' c o' S', Ob hdP 77 81 D wc dv c o' S' e w' → ∃ v', e = .returned (.tuple #[v', .int .i64 c]) ∧ St hdP 77 81 A1 wc w' v' dv o' S') := hA
                    clear hA
                    go_wp2_with fail
                    refine (format_walk hD N HRB.out.2).mono ?_
                    intro e wa hob
                    obtain ⟨b', rfl, hst⟩ := HA.out _ _ _ _ _ hob
                    rw [HC.out]
                    have HST1 : Hid (St hdP 77 81 A1 wc wa b' dv (formO S N).2.1 (formO S N).2.2) := hst
                    have hCA : Ch A1 wc wa := by obtain ⟨_, _, _, h⟩ := HST1.out; exact h
                    have HOa : Hid (OB wa ox 7 N (.slice uo l.length uc)) := HO.out.keep (hCA.block ox HOL.out HXA.out.1)
                    clear hD HA hob hst hCA o0 o1 o2
                    obtain ⟨o0, o1, o2⟩ := HOa.out
                    obtain ⟨G, hG, hA⟩ := (HP6.out.mid HST1.out).anew
                    have HA2 : Hid (∀ e w' c o' S', Ob hdR 87 83 G wa xv c o' S' e w' → ∃ v', e = .returned (.tuple #[v', .int .i64 c]) ∧ St hdR 87 83 A2 wa w' v' xv o' S') := hA
                    clear hA
                    go_wp2_with fail
                    refine (rformat_walk hG N HRB.out.2).mono ?_
                    intro e we hob
                    obtain ⟨y', rfl, hst⟩ := HA2.out _ _ _ _ _ hob
                    rw [HC.out]
                    have HST2 : Hid (St hdR 87 83 A2 wa we y' xv (formO S N).2.1 (formO S N).2.2) := hst
                    clear hG HA2 hob hst o0 o1 o2
                    have HSW : Hid (Sw w dv xv S b' y' we) := Sw.of HP6.out HST1.out HST2.out (few_form S N)
                    obtain ⟨B1, B2, hps⟩ := HP6.out.step HST1.out HST2.out
                    have hform := hps.form
                    clear hps
                    rcases hform with ⟨hfb, hfy⟩ | ⟨pb, yb, hfb, hfy⟩
                    all_goals
                      subst hfb
                      subst hfy
                      go_wp2_with fail
                      go_meet
                      exact HSW.out
                go_wp2_with fail
                all_goals (go_meet; exact ⟨o, S, A1, A2, HP6.out, few_same rfl rfl⟩)
              case rest =>
                as_aux_lemma =>
                  obtain ⟨o2, S2, B1, B2, hP2, hFew⟩ := hcut
                  have HPz : Hid (Ps w wc u13 u14 dv xv o2 S2 B1 B2) := hP2
                  have HFW : Hid (Few S S2) := hFew
                  clear hP2 hFew HP6 HO HOL HXA
                  obtain ⟨U, hU⟩ : ∃ U, U = zU o2 := ⟨_, rfl⟩
                  obtain ⟨NN, hNN⟩ : ∃ NN, NN = zN o2 := ⟨_, rfl⟩
                  obtain ⟨EE, hEE⟩ : ∃ EE, EE = zE o2 := ⟨_, rfl⟩
                  have HU : Hid (zU o2 = U ∧ zN o2 = NN ∧ zE o2 = EE) := ⟨hU.symm, hNN.symm, hEE.symm⟩
                  have huu : ((U : Int) != (U : Int)) = false := by simp
                  have hnn : ((NN : Int) != (NN : Int)) = false := by simp
                  have hee : (EE != EE) = false := by simp
                  have hww : ((S2.wr : Int) != (S2.wr : Int)) = false := by simp
                  have hrr : ((S2.rd : Int) != (S2.rd : Int)) = false := by simp
                  obtain ⟨D, hD, _, _⟩ := HPz.out.p.disk
                  obtain ⟨G, hG, _, _⟩ := HPz.out.q.disk
                  have HD : Hid (Dsk 81 D wc dv S2) := hD
                  have HG : Hid (Dsk 83 G wc xv S2) := hG
                  clear hU hNN hEE hD hG
                  go_wp2_with (first
                    | (go_at_call 27; refine (zused_walk HPz.out.p).mono ?_; rw [HU.out.1]; rintro e w9 ⟨rfl, h9⟩; replace h9 := h9.symm; subst h9)
                    | (go_at_call 28; refine (yused_walk HPz.out.q).mono ?_; rw [HU.out.1]; rintro e w9 ⟨rfl, h9⟩; replace h9 := h9.symm; subst h9)
                    | (go_at_call 29; refine (zpages_walk HPz.out.p).mono ?_; rw [HU.out.2.1]; rintro e w9 ⟨rfl, h9⟩; replace h9 := h9.symm; subst h9)
                    | (go_at_call 30; refine (ypages_walk HPz.out.q).mono ?_; rw [HU.out.2.1]; rintro e w9 ⟨rfl, h9⟩; replace h9 := h9.symm; subst h9)
                    | (go_at_call 31; refine (zended_walk HPz.out.p).mono ?_; rw [HU.out.2.2]; rintro e w9 ⟨rfl, h9⟩; replace h9 := h9.symm; subst h9)
                    | (go_at_call 32; refine (yended_walk HPz.out.q).mono ?_; rw [HU.out.2.2]; rintro e w9 ⟨rfl, h9⟩; replace h9 := h9.symm; subst h9)
                    | (go_at_call 33; refine (writes_walk HD.out).mono ?_; rintro e w9 ⟨rfl, h9⟩; replace h9 := h9.symm; subst h9)
                    | (go_at_call 34; refine (rwrites_walk HG.out).mono ?_; rintro e w9 ⟨rfl, h9⟩; replace h9 := h9.symm; subst h9)
                    | (go_at_call 35; refine (reads_walk HD.out).mono ?_; rintro e w9 ⟨rfl, h9⟩; replace h9 := h9.symm; subst h9)
                    | (go_at_call 36; refine (rreads_walk HG.out).mono ?_; rintro e w9 ⟨rfl, h9⟩; replace h9 := h9.symm; subst h9))
                  go_roundw
                  case rel => exact ⟨i + 1, Z, o2, S2, B1, B2, hlt, rfl, by go_num, HPz.out, by have h1 := HFW.out.1; have h2 := HRW.out; omega, by have h1 := HFW.out.2; have h2 := HRW.out; omega⟩
                  case measure => simp [intOf]; omega
            · go_wp2_with fail
              go_ret
              exact ⟨rfl, HP6.out.bl⟩
      · have hlti : ¬ (i : Int) < (cs.length : Int) := by omega
        obtain ⟨D, hD, _, _⟩ := HP.out.p.disk
        obtain ⟨G, hG, _, _⟩ := HP.out.q.disk
        have HG : Hid (Dsk 83 G wr xv S) := hG
        go_wp2_with fail
        refine (image_walk hD).mono ?_
        rintro e wd ⟨g1, k1, rfl, hG1, _, hBd⟩
        have HV1 : Hid (Pv wd (.slice (some ⟨g1, 0, none⟩) S.bl.length k1) S.bl) := hG1.pv hD.good.byt
        have HBd : Hid (Below wr.heap.size wr wd) := hBd
        clear hD hG hG1 hBd
        go_wp2_with fail
        refine (rimage_walk (HG.out.below HBd.out)).mono ?_
        rintro e we ⟨g2, k2, rfl, hG2, _, hBe⟩
        have HV2 : Hid (Pv we (.slice (some ⟨g2, 0, none⟩) S.bl.length k2) S.bl) := hG2.pv HG.out.good.byt
        have HBe : Hid (Below wd.heap.size wd we) := hBe
        clear hG2 hBe
        go_wp2_with fail
        refine (images_walk (HV1.out.below HBe.out) HV2.out).mono ?_
        rw [decide_eq_true (rfl : S.bl = S.bl)]
        rintro e wf ⟨rfl, hBf⟩
        have HBf : Hid (Below w.heap.size w wf) := below_trans (below_trans (below_trans HP.out.bl HBd.out) HBe.out) hBf
        clear hBf
        go_wp2_with fail
        go_ret
        exact ⟨rfl, HBf.out⟩
end Go.Proofs.Ytakijnclllmkfaa

namespace Go.Proofs.Ytakijnclllmkfaa
open Go.ChangeShapes Go.WideShapes Go.ChangeAt Go.RowKit

set_option maxRecDepth 100000 in
theorem lifted_pagesExact (os : Os) (started : os.Started) (H : Type) (enc : TypeId × Value → H) :
    ReturnsInHanded {} Try.checked os 3 .any (Rows.pagesExactSpec.pre6 enc Try.prog Try.f3 Rows.pagesExactRow.domain false) (Rows.pagesExactSpec.post enc Try.prog Try.f3 false true false false) := by
  refine returnsInHanded_of_change_sized (C := Try.checked) own_knob started (by kernel_rfl) Try.func3
    (ChangeSpec.witness6 (enc := enc) (C := Try.checked) false ⟨#[], #[.int .i64 0, .int .i64 0, .slice none 0 0], []⟩ 8 (by kernel_rfl) (by kernel_rfl) (by kernel_rfl) (by kernel_rfl)) ?_
  intro W base args ds gs before hval0 hW hcnd hsz0 _
  have hval : ∀ (j : Nat) t v, Try.f3.params[j]? = some t → args[j]? = some v → Value.okWide Try.prog W .any base t v := hval0
  have hW' := hW
  obtain ⟨p, q, hA0, hV, rfl, hfz, hnd⟩ := hW
  have hA : DataW.TrodAll enc Try.prog W 0 (fun _ => true) true Try.f3.params.toList args.toList ds p := hA0
  have hsz : (DataW.weightsEach Try.prog (Try.f3.params.toList ++ Rows.pagesExactSpec.plain.varTypes Try.prog) (ds ++ gs)).all (· ≤ reachBytes) = true := hsz0
  rw [Try.params3] at hA hval hsz
  obtain ⟨v0, vs0, d0, ds0, p0, q0, hargs, rfl, rfl, t0, r0⟩ := trodAll_cons hA
  obtain ⟨v1, vs1, d1, ds1, p1, q1, rfl, rfl, rfl, t1, r1⟩ := trodAll_cons r0
  obtain ⟨v2, vs2, d2, ds2, p2, q2, rfl, rfl, rfl, t2, r2⟩ := trodAll_cons r1
  obtain ⟨rfl, rfl, rfl⟩ := trodAll_nil r2
  obtain rfl : args = #[v0, v1, v2] := by cases args; simp_all
  obtain ⟨rfl, rfl⟩ := trodVars_none hV
  simp only [List.append_nil] at hW' hsz
  have o0 := open_int Try.underlying3 (hval 0 3 v0 rfl rfl) t0
  obtain ⟨a0, e0, _, _, wf0⟩ := o0
  have w0 := i64_of_wf wf0
  subst e0
  have o1 := open_int Try.underlying3 (hval 1 3 v1 rfl rfl) t1
  obtain ⟨a1, e1, _, _, wf1⟩ := o1
  have w1 := i64_of_wf wf1
  subst e1
  obtain ⟨l2, b2, z2⟩ := open_yv (hval 2 22 v2 rfl rfl) t2
  have hlen : l2.length ≤ 140737488355328 := by
    rcases z2 with ⟨_, rfl⟩ | ⟨el, sp, hd, he⟩
    · simp
    · subst hd
      have hs := sized_slice hsz (j := 2) (t := 22) (e := 40) rfl rfl Try.underlying22
      rw [show Try.prog.bytesOf 40 = 40 by kernel_rfl] at hs
      simp only [reachBytes] at hs
      omega
  refine (pagesexact_walk b2 hlen).mono fun e W' ⟨he, hB⟩ => ?_
  subst he
  exact ⟨_, rfl, post_of_below (pv := []) hW' (fun _ _ _ => (trodAll_cons_mk (shut_bool Try.underlying4 _) trodAll_mk0)) (fun sp hsp => (trodAll_cons_mk (again (by kernel_rfl) (of_decide_eq_true (by kernel_rfl)) t0 hB (fun x hx => by simpa using hW'.lt x (by simp [hx])) (fun x hx => hsp x (by simp [hx]))) (trodAll_cons_mk (again (by kernel_rfl) (of_decide_eq_true (by kernel_rfl)) t1 hB (fun x hx => by simpa using hW'.lt x (by simp [hx])) (fun x hx => hsp x (by simp [hx]))) (trodAll_cons_mk (again (by kernel_rfl) (of_decide_eq_true (by kernel_rfl)) t2 hB (fun x hx => by simpa using hW'.lt x (by simp [hx])) (fun x hx => hsp x (by simp [hx]))) trodAll_mk0)))) (fun _ _ => rfl) (by simp) hB⟩

theorem pagesExact_holds : Rows.PagesExactSaid :=
  OpenClaim.holds_of_wide 3 Try.f3 rfl rfl rfl rfl rfl rfl rfl ⟨rfl, rfl, rfl, rfl, rfl⟩ rfl rfl rfl rfl rfl (by kernel_rfl) Try.func3 (by kernel_rfl)
    (of_decide_eq_true (by kernel_rfl)) (by unfold Func.isWrapper; first | (rw [if_pos (by decide +kernel)]; kernel_rfl) | (rw [if_neg (by decide +kernel)]; exact ⟨rfl, rfl⟩))
    (fun os started H enc _ => lifted_pagesExact os started H enc)
#print axioms pagesExact_holds
end Go.Proofs.Ytakijnclllmkfaa
