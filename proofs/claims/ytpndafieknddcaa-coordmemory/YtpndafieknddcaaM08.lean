/- MaKb Jb PlOa PlOb PlOc PlOd -/
import Derived.Test.YtpndafieknddcaaM07
import Derived.Test.YtpndafieknddcaaM00
import Derived.Lib.Hide
import Derived.Deep.QuietTactic
import Derived.BigQuiet
import Derived.Deep.RegionHeld3
import Derived.Deep.DeepCutAuto
import Derived.Test.YtpndafieknddcaaM02
import Derived.Laws.AppendOwnNone
import Derived.Laws.StructEq
import Derived.OwnWalk
import Derived.Test.YtpndafieknddcaaChecked
import Derived.WalkKit
import Derived.ProofKit
import Derived.Deep.Draws
import Derived.Deep.Slices
import Derived.WalkLawsBesides
namespace Go.Proofs.Ytpndafieknddcaa

open Go.RowKit



def lastN (l : List Nat) : Option Nat := l.getLast?
theorem lastN_snoc (q : List Nat) (c : Nat) : lastN (q ++ [c]) = some c := by simp [lastN]
theorem lastN_take {l : List Nat} {i : Nat} (hi : i < l.length) : lastN (l.take (i + 1)) = some l[i] := by
  rw [List.take_succ_eq_append_getElem hi, lastN_snoc]
theorem ris_start {l : List Nat} (hp : 0 < l.length) : risE (lastN (l.take 1)) (l.drop 1) = risB l := by
  cases l with
  | nil => simp at hp
  | cons c r => simp [risB, risE, folN, lastN]
theorem ris_step {l : List Nat} {i : Nat} (hi : i < l.length) (h : risE (lastN (l.take i)) (l.drop i) = risB l) (hf : folN (lastN (l.take i)) l[i] = true) : risE (lastN (l.take (i + 1))) (l.drop (i + 1)) = risB l := by
  rw [List.drop_eq_getElem_cons hi, risE, hf, Bool.true_and] at h
  rw [lastN_take hi]
  exact h
theorem ris_stop {l : List Nat} {i : Nat} (hi : i < l.length) (h : risE (lastN (l.take i)) (l.drop i) = risB l) (hf : folN (lastN (l.take i)) l[i] = false) : risB l = false := by
  rw [List.drop_eq_getElem_cons hi, risE, hf, Bool.false_and] at h
  exact h.symm
theorem ris_end {l : List Nat} {i : Nat} (hi : l.length ≤ i) (h : risE (lastN (l.take i)) (l.drop i) = risB l) : risB l = true := by
  rw [List.drop_eq_nil_of_le hi, risE] at h
  exact h.symm


/-- The value v is a slice of keys that holds l. -/
abbrev Kv (w : World) (v : Value) (l : List Nat) : Prop := Sv .u64 w v (ib l)
theorem kv_form {w : World} {v : Value} {l : List Nat} (h : Kv w v l) : ∃ ao cap, v = .slice ao l.length cap ∧ l.length ≤ cap ∧ cap ≤ maxLen := by
  obtain ⟨ao, cap, e, h1, h2, _⟩ := h
  rw [ib_len] at e h1
  exact ⟨ao, cap, e, h1, h2⟩
theorem kv_cases {w : World} {v : Value} {l : List Nat} (h : Kv w v l) :
    (l = [] ∧ ∃ ao cap, v = .slice ao 0 cap) ∨ ∃ b off cap, v = .slice (some ⟨b, off, none⟩) l.length cap ∧ 0 < l.length ∧ l.length ≤ cap ∧ cap ≤ maxLen ∧
      ∀ i, (hi : i < l.length) → w.cell? ⟨b, off + i, none⟩ = some (.int .u64 (l[i] : Nat)) := by
  obtain ⟨ao, cap, rfl, h1, h2, h3, h4⟩ := h
  rw [ib_len] at h1
  rw [ib_len]
  by_cases h0 : l = []
  · subst h0; exact .inl ⟨rfl, ao, cap, rfl⟩
  · have hp := List.length_pos_iff.2 h0
    obtain ⟨b, off, rfl, _⟩ := h4 0 (by rw [ib_len]; exact hp)
    refine .inr ⟨b, off, cap, rfl, hp, h1, h2, fun i hi => ?_⟩
    obtain ⟨b', off', e1, e2⟩ := h4 i (by rw [ib_len]; exact hi)
    cases e1
    rw [e2]
    simp [ib, List.getD, hi]
/-- A mark's block. -/
structure MB (w : World) (P : Nat) (b a : Int) (v : Value) : Prop where
  c0 : w.cell? ⟨P, 0, none⟩ = some (.int .i64 b)
  c1 : w.cell? ⟨P, 1, none⟩ = some (.int .i64 a)
  c2 : w.cell? ⟨P, 2, none⟩ = some v
  z : ∀ j, w.frozen? ⟨P, j, none⟩ = false
theorem MB.keep {w w' : World} {P : Nat} {b a : Int} {v : Value} (h : MB w P b a v) (hb : Below w.heap.size w w') : MB w' P b a v := by
  have hl := cell_lt h.c0
  exact ⟨by rw [hb.cell (p := ⟨P, 0, none⟩) hl]; exact h.c0, by rw [hb.cell (p := ⟨P, 1, none⟩) hl]; exact h.c1, by rw [hb.cell (p := ⟨P, 2, none⟩) hl]; exact h.c2, fun j => by rw [hb.frozen (p := ⟨P, j, none⟩) hl]; exact h.z j⟩


set_option maxRecDepth 100000 in
set_option maxHeartbeats 2000000 in
theorem ris_some (l : List Nat) (b off cap : Nat) (w : World) (hl : l.length ≤ cap) (hcap : cap ≤ maxLen) (hp : 0 < l.length) (hc : ∀ i, (hi : i < l.length) → w.cell? ⟨b, off + i, none⟩ = some (.int .u64 (l[i] : Nat))) :
    Calls Try.prog 57 #[.slice (some ⟨b, off, none⟩) l.length cap] w fun e w' => e = .returned (.bool (risB l)) ∧ Below w.heap.size w w' := by
  unfold maxLen at hcap
  have hli : (l.length : Int) ≤ 9223372036854775807 := by omega
  have HC : Hid (∀ i, (hi : i < l.length) → w.cell? ⟨b, off + i, none⟩ = some (.int .u64 (l[i] : Nat))) := hc
  have HP : Hid (0 < l.length) := hp
  clear hc hcap hl hp
  go_enter Try.func57, Try.ntmps57
  go_wp2_with fail
  go_loopw [3] (fun iv wr => ∃ i : Nat, iv = .int .i64 i ∧ 1 ≤ i ∧ i ≤ l.length ∧ risE (lastN (l.take i)) (l.drop i) = risB l ∧ Below w.heap.size w wr) (fun iv _ => l.length - (intOf iv).toNat)
  case atStart => exact ⟨1, rfl, by omega, HP.out, ris_start HP.out, Below.refl _ _⟩
  case round =>
    obtain ⟨i, rfl, hi1, hil, hord, hbel⟩ := hrel
    have HO : Hid (risE (lastN (l.take i)) (l.drop i) = risB l) := hord
    have HB : Hid (Below w.heap.size w wr) := hbel
    clear hord hbel
    by_cases hlt : i < l.length
    · obtain ⟨j, rfl⟩ : ∃ j, i = j + 1 := ⟨i - 1, by omega⟩
      have hA := HC.out (j + 1) hlt
      have hD := HC.out j (by omega)
      have hA2 : wr.cell? ⟨b, off + (j + 1), none⟩ = some (.int .u64 (l[j + 1] : Nat)) := by rw [HB.out.cell (p := ⟨b, off + (j + 1), none⟩) (cell_lt hA)]; exact hA
      have hD2 : wr.cell? ⟨b, off + j, none⟩ = some (.int .u64 (l[j] : Nat)) := by rw [HB.out.cell (p := ⟨b, off + j, none⟩) (cell_lt hD)]; exact hD
      have HLK : Hid (lastN (l.take (j + 1)) = some l[j]) := lastN_take (by omega)
      obtain ⟨c, hcd⟩ : ∃ c, l[j + 1] = c := ⟨_, rfl⟩
      obtain ⟨d, hdd⟩ : ∃ d, l[j] = d := ⟨_, rfl⟩
      rw [hcd] at hA2
      rw [hdd] at hD2 HLK
      have HCD : Hid (l[j + 1] = c) := hcd
      clear hcd hdd hA hD
      have hlti : ((j + 1 : Nat) : Int) < (l.length : Int) := by omega
      have hltj : (j : Int) < (l.length : Int) := by omega
      have hjj : ((j + 1 : Nat) : Int) - 1 = (j : Int) := by omega
      by_cases hk : c ≤ d
      · have hki : (c : Int) ≤ (d : Int) := by omega
        have HR : Hid (risB l = false) := ris_stop hlt HO.out (by rw [HLK.out, HCD.out]; simp [folN]; omega)
        go_wp2_with fail
        go_quiet (fail)
        go_wp2_with fail
        go_ret
        exact ⟨by rw [HR.out]; rfl, below_trans HB.out (below_drewN _ _)⟩
      · have hki : ¬ (c : Int) ≤ (d : Int) := by omega
        have HR : Hid (risE (lastN (l.take (j + 1 + 1))) (l.drop (j + 1 + 1)) = risB l) := ris_step hlt HO.out (by rw [HLK.out, HCD.out]; simp [folN]; omega)
        go_wp2_with fail
        go_quiet (fail)
        have HB2 : Hid (Below w.heap.size w (wr.drewN nq)) := below_trans HB.out (below_drewN _ _)
        go_wp2_with fail
        go_roundw
        case rel => exact ⟨j + 1 + 1, by go_num, by omega, by omega, HR.out, HB2.out⟩
        case measure => simp [intOf]; omega
    · have hlti : ¬ (i : Int) < (l.length : Int) := by omega
      have HR : Hid (risB l = true) := ris_end (by omega) HO.out
      go_wp2_with fail
      go_ret
      exact ⟨by rw [HR.out]; rfl, HB.out⟩


set_option maxRecDepth 100000 in
theorem ris_none (ao : Option Addr) (cap : Nat) (w : World) :
    Calls Try.prog 57 #[.slice ao 0 cap] w fun e w' => e = .returned (.bool true) ∧ Below w.heap.size w w' := by
  go_enter Try.func57, Try.ntmps57
  go_wp2
  refine wp_loop_rounds 1 ?_
  rw [rounds_succ]
  go_wp2
  go_ret
  exact ⟨rfl, Below.refl _ _⟩


theorem ris_walk {w : World} {v : Value} {l : List Nat} (h : Kv w v l) :
    Calls Try.prog 57 #[v] w fun e w' => e = .returned (.bool (risB l)) ∧ Below w.heap.size w w' := by
  rcases kv_cases h with ⟨rfl, ao, cap, rfl⟩ | ⟨b, off, cap, rfl, hp, h1, h2, h3⟩
  · exact ris_none ao cap w
  · exact ris_some l b off cap w h1 h2 hp h3












theorem sound_nb {b a : Int} {k : List Nat} (h : cntB b = false) : soundB ⟨b, a, k⟩ = false := by simp [soundB, h]
theorem sound_na {b a : Int} {k : List Nat} (h : cntB a = false) : soundB ⟨b, a, k⟩ = false := by simp [soundB, h]
theorem sound_zero {b a : Int} {k : List Nat} (h1 : cntB b = true) (h2 : cntB a = true) (h : b = 0 ∨ a = 0) : soundB ⟨b, a, k⟩ = (decide (b = a) && decide (k.length = 0)) := by simp only [soundB, h1, h2, Bool.true_and, if_pos h]
theorem sound_some {b a : Int} {k : List Nat} (h1 : cntB b = true) (h2 : cntB a = true) (h : ¬ (b = 0 ∨ a = 0)) : soundB ⟨b, a, k⟩ = (decide (k.length ≤ 64) && risB k) := by simp only [soundB, h1, h2, Bool.true_and, if_neg h]




theorem cnt_no {x : Int} (h : cntB x = false) (h0 : 0 ≤ x) : 1099511627776 < x := by simp [cntB] at h; omega




/-- How two attempts stand. -/
def cmpI (x y : Int) : Int := if x < y then -1 else if y < x then 1 else 0
def cmpA (b a ob oa : Int) : Int := if b = ob then cmpI a oa else cmpI b ob


end Go.Proofs.Ytpndafieknddcaa

namespace Go.Proofs.Ytpndafieknddcaa

open Go.RowKit



theorem ret_int {k : IntKind} {a b : Int} (h : a = b) : Ending.returned (.int k a) = .returned (.int k b) := by rw [h]
theorem ret_bool {a b : Bool} (h : a = b) : Ending.returned (.bool a) = .returned (.bool b) := by rw [h]


/-- The cells behind ao hold the pairs l. -/
def Ql (w : World) (ao : Option Addr) (l : List Pr) : Prop :=
  ∀ i, (h : i < l.length) → ∃ b off, ao = some ⟨b, off, none⟩ ∧ w.cell? ⟨b, off + i * 3, none⟩ = some (.int .u64 l[i].k) ∧ w.cell? ⟨b, off + i * 3 + 1, none⟩ = some (.bool l[i].v.h) ∧ w.cell? ⟨b, off + i * 3 + 2, none⟩ = some (.int .u64 l[i].v.b)


/-- The value v is a slice that holds the pairs l. -/
def Qv (w : World) (v : Value) (l : List Pr) : Prop :=
  (∃ ao cap, v = .slice ao l.length cap ∧ l.length ≤ cap ∧ cap ≤ maxLen ∧ (ao = none → cap = 0) ∧ Ql w ao l) ∧ ∀ o ∈ l, o.ok


theorem Ql.below {w w' : World} {ao : Option Addr} {l : List Pr} (h : Ql w ao l) (hb : Below w.heap.size w w') : Ql w' ao l := by
  intro i hi
  obtain ⟨b, off, e, h0, h1, h2⟩ := h i hi
  exact ⟨b, off, e, by rw [hb.cell (p := ⟨b, off + i * 3, none⟩) (cell_lt h0)]; exact h0, by rw [hb.cell (p := ⟨b, off + i * 3 + 1, none⟩) (cell_lt h1)]; exact h1, by rw [hb.cell (p := ⟨b, off + i * 3 + 2, none⟩) (cell_lt h2)]; exact h2⟩
theorem Qv.below {w w' : World} {v : Value} {l : List Pr} (h : Qv w v l) (hb : Below w.heap.size w w') : Qv w' v l := by
  obtain ⟨⟨ao, cap, e, h1, h2, h3, h4⟩, h5⟩ := h
  exact ⟨⟨ao, cap, e, h1, h2, h3, h4.below hb⟩, h5⟩


/-- The cells of pairs in a row. -/
def flatQ (l : List Pr) : List Value := l.flatMap fun o => [.int .u64 o.k, .bool o.v.h, .int .u64 o.v.b]
theorem flatQ_len (l : List Pr) : (flatQ l).length = l.length * 3 := by
  unfold flatQ
  induction l with
  | nil => rfl
  | cons o l ih => rw [List.flatMap_cons, List.length_append, ih]; simp; omega
theorem flatQ_append (l m : List Pr) : flatQ (l ++ m) = flatQ l ++ flatQ m := by unfold flatQ; exact List.flatMap_append
theorem flatQ_get (l : List Pr) : ∀ (i : Nat) (h : i < l.length), (flatQ l)[i * 3]? = some (.int .u64 l[i].k) ∧ (flatQ l)[i * 3 + 1]? = some (.bool l[i].v.h) ∧ (flatQ l)[i * 3 + 2]? = some (.int .u64 l[i].v.b) := by
  induction l with
  | nil => intro i h; simp at h
  | cons o l ih =>
    intro i h
    have e : flatQ (o :: l) = .int .u64 o.k :: .bool o.v.h :: .int .u64 o.v.b :: flatQ l := rfl
    rw [e]
    cases i with
    | zero => simp
    | succ i =>
      have := ih i (by simpa using h)
      rw [show (i + 1) * 3 = i * 3 + 1 + 1 + 1 by omega]
      simpa using this
theorem flatQ_mem {l : List Pr} {u : Value} (h : u ∈ flatQ l) : u.oneCell' = true := by
  unfold flatQ at h
  obtain ⟨o, _, ho⟩ := List.mem_flatMap.1 h
  simp at ho
  rcases ho with rfl | rfl | rfl <;> rfl


/-- Block g holds the pairs m, and nothing of it is frozen. -/
def Mq (w : World) (g : Nat) (m : List Pr) : Prop :=
  ∀ i, (h : i < m.length) → (w.cell? ⟨g, i * 3, none⟩ = some (.int .u64 m[i].k) ∧ w.cell? ⟨g, i * 3 + 1, none⟩ = some (.bool m[i].v.h) ∧ w.cell? ⟨g, i * 3 + 2, none⟩ = some (.int .u64 m[i].v.b)) ∧
    (w.frozen? ⟨g, i * 3, none⟩ = false ∧ w.frozen? ⟨g, i * 3 + 1, none⟩ = false ∧ w.frozen? ⟨g, i * 3 + 2, none⟩ = false)
theorem Mq.below {w w' : World} {g B : Nat} {m : List Pr} (h : Mq w g m) (hb : Below B w w') (hl : g < B) : Mq w' g m := by
  intro i hi
  obtain ⟨⟨a, b, c⟩, d, e, f⟩ := h i hi
  exact ⟨⟨by rw [hb.cell (p := ⟨g, i * 3, none⟩) hl]; exact a, by rw [hb.cell (p := ⟨g, i * 3 + 1, none⟩) hl]; exact b, by rw [hb.cell (p := ⟨g, i * 3 + 2, none⟩) hl]; exact c⟩,
    by rw [hb.frozen (p := ⟨g, i * 3, none⟩) hl]; exact d, by rw [hb.frozen (p := ⟨g, i * 3 + 1, none⟩) hl]; exact e, by rw [hb.frozen (p := ⟨g, i * 3 + 2, none⟩) hl]; exact f⟩


theorem own_mq {w : World} {base e n cap g : Nat} {m : List Pr} (h : w.ownsRow base e 3 (.slice (some ⟨g, 0, none⟩) n cap) n (flatQ m)) : Mq w g m := by
  obtain ⟨h1, h2⟩ := h
  rw [flatQ_len] at h1
  have hn : n = m.length := by omega
  subst hn
  rcases h2 with ⟨h, _⟩ | ⟨g', cap', cur, e1, hb, hg, hnc, hcm, hcs, htake⟩
  · cases h
  · simp only [Value.slice.injEq, Option.some.injEq, Addr.mk.injEq] at e1
    obtain ⟨⟨rfl, _⟩, _, rfl⟩ := e1
    have key : ∀ j u, j < m.length * 3 → (flatQ m)[j]? = some u → w.cell? ⟨g, j, none⟩ = some u := by
      intro j u hj hu
      rw [cell_of_row w g j cur e (0, 0) hg, ← Array.getElem?_toList]
      rw [← htake, List.getElem?_take, if_pos hj] at hu
      exact hu
    intro i hi
    obtain ⟨a, b, c⟩ := flatQ_get m i hi
    refine ⟨⟨key _ _ (by omega) a, key _ _ (by omega) b, key _ _ (by omega) c⟩, ?_, ?_, ?_⟩
    all_goals simp [World.frozen?, hg]


theorem mq_qv {w : World} {g cap n : Nat} {m : List Pr} (h : Mq w g m) (hn : n ≤ m.length) (hc : m.length ≤ cap) (hm : cap ≤ maxLen) (hok : ∀ o ∈ m, o.ok) : Qv w (.slice (some ⟨g, 0, none⟩) n cap) (m.take n) := by
  have hl : (m.take n).length = n := by simp; omega
  refine ⟨⟨_, cap, by rw [hl], by omega, hm, by simp, fun i hi => ?_⟩, fun o ho => hok o (List.mem_of_mem_take ho)⟩
  rw [hl] at hi
  obtain ⟨⟨a, b, c⟩, _⟩ := h i (by omega)
  refine ⟨g, 0, rfl, ?_, ?_, ?_⟩
  · simpa using a
  · simpa using b
  · simpa using c




theorem info_partsQ {P : Program} {e : TypeId} {z : Value} {s b : Nat} (h : (P.info? e).map (fun i => (i.zero, i.size, i.bytes)) = some (some z, s, b)) : ∃ i, P.info? e = some i ∧ i.zero = some z ∧ i.size = s ∧ i.bytes = b := by
  cases hi : P.info? e with
  | none => rw [hi] at h; cases h
  | some i =>
    rw [hi] at h
    simp at h
    exact ⟨i, rfl, h.1, h.2.1, h.2.2⟩




theorem wpList_append_qv {P : Program} {w : World} {ops : Array Oper} {rest : List Oper} {o : Oper} {a : Act} {Q : Exit → Act → World → Prop} (hgd : o.guard = none) (s x : Operand) (t : TypeId)
    (ho : o.op = .call { callee := .builtin .append, args := #[s, x], argTypes := #[t, t] })
    (base : Nat) (e : TypeId) (i0 : TypeInfo) (ht : P.underlying t = some (.slice e)) (hi : P.info? e = some i0) (hz1 : i0.size = 3)
    (g n cap : Nat) (m : List Pr) (hs : a.eval s = .slice (some ⟨g, 0, none⟩) n cap) (hown : w.ownsRow base e 3 (.slice (some ⟨g, 0, none⟩) n cap) n (flatQ m))
    (y : Value) (l : List Pr) (hx : a.eval x = y) (hy : Qv w y l) (hfit : n + l.length ≤ cap)
    (h : ∀ w', w'.ownsRow base e 3 (.slice (some ⟨g, 0, none⟩) (n + l.length) cap) (n + l.length) (flatQ (m ++ l)) → w.grownBy w' (some g) → wpList P ops Q rest (a.put o.dst (.slice (some ⟨g, 0, none⟩) (n + l.length) cap)) w') : wpList P ops Q (o :: rest) a w := by
  obtain ⟨⟨ao, c, rfl, hc1, hc2, hnone, hcells⟩, _⟩ := hy
  cases ao with
  | none =>
    obtain rfl := hnone rfl
    have hl0 : l.length = 0 := by omega
    have hl : l = [] := List.eq_nil_of_length_eq_zero hl0
    subst hl
    refine wpList_append_own_none hgd s x t ho base e i0 3 ht hi _ n (flatQ m) hs hown hx ?_
    have := h w (by simpa using hown) ⟨rfl, rfl, rfl, Nat.le_refl _, fun _ _ _ => rfl⟩
    simpa using this
  | some p =>
    refine wpList_append_fits w hgd s x t ho base e i0 3 ht hi hz1 g n cap (flatQ m) hs hown p l.length c (flatQ l) hx (flatQ_len l) ?_ (fun u hu => flatQ_mem hu) hfit (by rw [← flatQ_append]; exact h)
    intro j u hj
    have hjl : j < l.length * 3 := by
      rcases Nat.lt_or_ge j (l.length * 3) with h | h
      · exact h
      · rw [List.getElem?_eq_none (by rw [flatQ_len]; exact h)] at hj; cases hj
    obtain ⟨b, off, e1, g0, g1, g2⟩ := hcells (j / 3) (by omega)
    cases e1
    obtain ⟨f0, f1, f2⟩ := flatQ_get l (j / 3) (by omega)
    rw [WideShapes.add_plain]
    have hmod : j % 3 = 0 ∨ j % 3 = 1 ∨ j % 3 = 2 := by omega
    rcases hmod with hm | hm | hm
    · have e2 : j / 3 * 3 = j := by omega
      rw [e2] at f0 g0
      rw [f0] at hj; rw [g0, hj]
    · have e2 : j / 3 * 3 + 1 = j := by omega
      rw [Nat.add_assoc, e2] at g1
      rw [e2] at f1
      rw [f1] at hj; rw [g1, hj]
    · have e2 : j / 3 * 3 + 2 = j := by omega
      rw [Nat.add_assoc, e2] at g2
      rw [e2] at f2
      rw [f2] at hj; rw [g2, hj]


theorem Qv.ql {w : World} {ao : Option Addr} {n cap : Nat} {l : List Pr} (h : Qv w (.slice ao n cap) l) : Ql w ao l := by
  obtain ⟨⟨ao', cap', e, _, _, _, h4⟩, _⟩ := h
  simp only [Value.slice.injEq] at e
  rw [e.1]; exact h4




theorem Mq.other {w : World} {g : Nat} {m : List Pr} (h : Mq w g m) {p : Addr} (hne : g ≠ p.block) (v : Value) : Mq (w.setCell p v) g m := by
  have e := Below.heap_setCell w p v g hne
  intro i hi
  obtain ⟨⟨a, b, c⟩, d, f, k⟩ := h i hi
  exact ⟨⟨by rw [World.cell?_of_block (w := w) e]; exact a, by rw [World.cell?_of_block (w := w) e]; exact b, by rw [World.cell?_of_block (w := w) e]; exact c⟩,
    by rw [World.frozen?_of_block (w := w) e]; exact d, by rw [World.frozen?_of_block (w := w) e]; exact f, by rw [World.frozen?_of_block (w := w) e]; exact k⟩


/-- A pair laid into the row. -/
theorem Mq.set {w : World} {g : Nat} {m : List Pr} (h : Mq w g m) {j : Nat} (hj : j < m.length) (o : Pr) :
    Mq (((w.setCell ⟨g, j * 3, none⟩ (.int .u64 o.k)).setCell ⟨g, j * 3 + 1, none⟩ (.bool o.v.h)).setCell ⟨g, j * 3 + 2, none⟩ (.int .u64 o.v.b)) g (m.set j o) := by
  obtain ⟨⟨a, b, c⟩, d, e, f⟩ := h j hj
  intro i hi
  rw [List.length_set] at hi
  obtain ⟨⟨a', b', c'⟩, d', e', f'⟩ := h i hi
  by_cases hij : j = i
  · subst hij
    rw [List.getElem_set_self]
    refine ⟨⟨?_, ?_, ?_⟩, ?_, ?_, ?_⟩ <;> simp [go_sem, a, b, c, d, e, f]
  · rw [List.getElem_set_ne hij]
    have n0 : ¬ j * 3 = i * 3 := by omega
    have n1 : ¬ j * 3 = i * 3 + 1 := by omega
    have n2 : ¬ j * 3 = i * 3 + 2 := by omega
    have n3 : ¬ j * 3 + 1 = i * 3 := by omega
    have n4 : ¬ j * 3 + 1 = i * 3 + 1 := by omega
    have n5 : ¬ j * 3 + 1 = i * 3 + 2 := by omega
    have n6 : ¬ j * 3 + 2 = i * 3 := by omega
    have n7 : ¬ j * 3 + 2 = i * 3 + 1 := by omega
    have n8 : ¬ j * 3 + 2 = i * 3 + 2 := by omega
    have k0 : ∀ (p q : Nat) (v : Value) (w : World), ¬ p = q → (w.setCell ⟨g, p, none⟩ v).cell? ⟨g, q, none⟩ = w.cell? ⟨g, q, none⟩ := fun p q v w hne => World.cell?_setCell_other w _ _ v (by rintro ⟨⟩; exact hne rfl)
    refine ⟨⟨?_, ?_, ?_⟩, ?_, ?_, ?_⟩
    · rw [k0 _ _ _ _ n6, k0 _ _ _ _ n3, k0 _ _ _ _ n0]; exact a'
    · rw [k0 _ _ _ _ n7, k0 _ _ _ _ n4, k0 _ _ _ _ n1]; exact b'
    · rw [k0 _ _ _ _ n8, k0 _ _ _ _ n5, k0 _ _ _ _ n2]; exact c'
    all_goals simp [go_sem, d', e', f']


theorem grown_of_below {w w' : World} (h : Below w.heap.size w w') : w.grownBy w' none := ⟨h.os, h.tape, h.output, h.size, fun i hi _ => h.block i hi⟩
theorem own3_below {w w' : World} {B e n : Nat} {v : Value} {xs : List Value} (h : w.ownsRow B e 3 v n xs) (hb : Below w.heap.size w w') : w'.ownsRow B e 3 v n xs := by
  refine h.kept (grown_of_below hb) ?_
  cases hv : v.ownBlock
  · exact Or.inl rfl
  · exact Or.inr (by simp)
theorem cell_own {w w' : World} {row : Option Nat} {p : Addr} {u : Value} (h : w.cell? p = some u) (hg : w.grownBy w' row) (hne : ∀ m, row = some m → p.block ≠ m) : w'.cell? p = some u := by
  rw [World.cell?_of_block (w := w) (hg.block p.block (cell_lt h) (fun e => hne _ e.symm rfl))]; exact h
theorem pair_cells {w : World} {g k b : Nat} {c : Bool} (h0 : w.cell? ⟨g, 0, none⟩ = some (.int .u64 k)) (h1 : w.cell? ⟨g, 1, none⟩ = some (.bool c)) (h2 : w.cell? ⟨g, 2, none⟩ = some (.int .u64 b)) :
    ∀ (j : Nat) (u : Value), ([.int .u64 k, .bool c, .int .u64 b] : List Value)[j]? = some u → w.cell? ((⟨g, 0, none⟩ : Addr).add j) = some u := by
  intro j u hj
  have : j = 0 ∨ j = 1 ∨ j = 2 ∨ 3 ≤ j := by omega
  rcases this with rfl | rfl | rfl | h
  · simp at hj; subst hj; simpa [WideShapes.add_plain] using h0
  · simp at hj; subst hj; simpa [WideShapes.add_plain] using h1
  · simp at hj; subst hj; simpa [WideShapes.add_plain] using h2
  · rw [List.getElem?_eq_none (by simpa using h)] at hj; cases hj


def Rise (t : List Pr) : Prop := t.Pairwise (fun p q => p.k < q.k)
def hasT (t : List Pr) : Prop := ∀ p ∈ t, p.v.h = true
def goodAt (t : List Pr) (i : Nat) : Prop := (∀ h : i < t.length, t[i].v.h = true) ∧ (∀ (h : i < t.length) (_ : 0 < i), t[i - 1].k < t[i].k)


theorem rise_of_good {t : List Pr} (h : ∀ i, i < t.length → goodAt t i) : Rise t := by
  unfold Rise
  rw [List.pairwise_iff_getElem]
  intro i j hi hj hij
  induction j with
  | zero => omega
  | succ j ih =>
    have h1 := (h (j + 1) hj).2 hj (by omega)
    simp only [Nat.add_sub_cancel] at h1
    rcases Nat.lt_or_ge i j with h2 | h2
    · exact Nat.lt_trans (ih (by omega) h2) h1
    · obtain rfl : i = j := by omega
      exact h1


theorem tab_iff {t : List Pr} : tabB t = true ↔ Rise t ∧ hasT t := by
  induction t with
  | nil => exact ⟨fun _ => ⟨List.Pairwise.nil, fun p hp => by simp at hp⟩, fun _ => rfl⟩
  | cons p t ih =>
    have e : tabB (p :: t) = (p.v.h && (t.all fun q => decide (p.k < q.k)) && tabB t) := rfl
    rw [e, Bool.and_eq_true, Bool.and_eq_true, ih, List.all_eq_true]
    unfold Rise hasT
    rw [List.pairwise_cons]
    constructor
    · rintro ⟨⟨h1, h2⟩, h3, h4⟩
      exact ⟨⟨fun q hq => by simpa using h2 q hq, h3⟩, fun q hq => by
        rcases List.mem_cons.1 hq with h | h
        · rw [h]; exact h1
        · exact h4 q h⟩
    · rintro ⟨⟨h2, h3⟩, h4⟩
      exact ⟨⟨h4 p (List.mem_cons_self), fun q hq => by simpa using h2 q hq⟩, h3, fun q hq => h4 q (List.mem_cons_of_mem _ hq)⟩


theorem tab_good {t : List Pr} (h : ∀ i, i < t.length → goodAt t i) : tabB t = true := by
  rw [tab_iff]
  refine ⟨rise_of_good h, fun p hp => ?_⟩
  obtain ⟨i, hi, rfl⟩ := List.getElem_of_mem hp
  exact (h i hi).1 hi


theorem tab_none {t : List Pr} {i : Nat} (hi : i < t.length) (h : t[i].v.h = false) : tabB t = false := by
  cases hb : tabB t
  · rfl
  · have := (tab_iff.1 hb).2 t[i] (List.getElem_mem hi); rw [h] at this; cases this


theorem tab_falls {t : List Pr} {i : Nat} (hi : i < t.length) (h0 : 0 < i) (h : ¬ t[i - 1].k < t[i].k) : tabB t = false := by
  cases hb : tabB t
  · rfl
  · exact absurd ((List.pairwise_iff_getElem.1 (tab_iff.1 hb).1) (i - 1) i (by omega) hi (by omega)) h


/-- Where Sound stands. -/
def Sd (w : World) (t : List Pr) (iv : Value) (wr : World) : Prop := ∃ i : Nat, i ≤ t.length ∧ iv = .int .i64 i ∧ (∀ j, j < i → goodAt t j) ∧ Below w.heap.size w wr


theorem sd_step {w wr w1 : World} {t : List Pr} {i : Nat} (hi : i < t.length) (h : ∀ j, j < i → goodAt t j) (hg : goodAt t i) (hB : Below w.heap.size w wr) (h1 : Below wr.heap.size wr w1) : Sd w t (.int .i64 ((i : Int) + 1)) w1 :=
  ⟨i + 1, hi, by simp, fun j hj => by
    rcases Nat.lt_or_ge j i with h2 | h2
    · exact h j h2
    · obtain rfl : j = i := by omega
      exact hg, below_trans hB h1⟩


theorem good_zero {t : List Pr} (hi : 0 < t.length) {o : Pr} (ho : o = t[0]) (h : o.v.h = true) : goodAt t 0 := ⟨fun _ => by rw [← ho]; exact h, fun _ h0 => by omega⟩
theorem good_more {t : List Pr} {i : Nat} (hi : i < t.length) {o q : Pr} (ho : o = t[i]) (hq : q = t[i - 1]) (h : o.v.h = true) (hk : q.k < o.k) : goodAt t i := ⟨fun _ => by rw [← ho]; exact h, fun _ _ => by rw [← ho, ← hq]; exact hk⟩


theorem wrap_small {x : Int} (h0 : 0 ≤ x) (h1 : x < 9223372036854775808) : IntKind.i64.wrap x = x := by
  rw [IntKind.wrap_i64]; omega


theorem below_alloc_drew (w : World) (o : Obj) (n : Nat) : Below w.heap.size w ((w.alloc o).drewN n) := below_trans (below_alloc _ _) (below_drewN _ _)


set_option maxRecDepth 100000 in
set_option maxHeartbeats 2000000 in
theorem fsound_walk {ao : Option Addr} {ca : Nat} {l : List Pr} {w : World} (hl : l.length ≤ maxLen) (ha : Ql w ao l) :
    Calls Try.prog 58 #[.slice ao l.length ca] w fun e w' => e = .returned (.bool (tabB l)) ∧ Below w.heap.size w w' := by
  have hli : (l.length : Int) ≤ 9223372036854775807 := by simp only [maxLen] at hl; omega
  have HA : Hid (Ql w ao l) := ha
  clear ha hl
  go_enter Try.func58, Try.ntmps58
  go_wp2_with fail
  go_loopw [7] (fun iv wr => Sd w l iv wr) (fun iv _ => l.length - (intOf iv).toNat)
  case atStart => exact ⟨0, Nat.zero_le _, rfl, fun j hj => by omega, below_same _⟩
  case round =>
    obtain ⟨i, hi, rfl, hgood, hB⟩ := hrel
    have HG : Hid (∀ j, j < i → goodAt l j) := hgood
    have HB : Hid (Below w.heap.size w wr) := hB
    clear hgood hB
    by_cases hlt : i < l.length
    · obtain ⟨b, off, rfl, c0, c1, c2⟩ := HA.out.below HB.out i hlt
      obtain ⟨o, hoe⟩ : ∃ o, o = l[i] := ⟨_, rfl⟩
      rw [← hoe] at c0 c1 c2
      have HE : Hid (o = l[i]) := hoe
      clear hoe
      cases hh : o.v.h
      · have HT : Hid (tabB l = false) := tab_none hlt (by rw [← HE.out]; exact hh)
        go_wp2_with fail
        go_ret
        exact ⟨ret_bool HT.out.symm, below_trans HB.out (below_alloc _ _)⟩
      · have HH : Hid (o.v.h = true) := hh
        rw [hh] at c1
        clear hh
        by_cases h0 : i = 0
        · subst h0
          simp only [Nat.zero_mul, Nat.add_zero] at c0 c1 c2
          have R' : ∀ n, Sd w l (.int .i64 (((0 : Nat) : Int) + 1)) ((wr.alloc (Obj.cells #[.int .u64 o.k, .bool true, .int .u64 o.v.b] 130)).drewN n) := fun n => sd_step hlt HG.out (good_zero hlt HE.out HH.out) HB.out (below_alloc_drew _ _ _)
          go_wp2_with fail
          go_quiet (fail)
          go_wp2_with fail
          go_roundw
          case rel => exact R' _
          case measure => simp [intOf]; omega
        · obtain ⟨b2, off2, e2, g0, g1, g2⟩ := HA.out.below HB.out (i - 1) (by omega)
          cases e2
          obtain ⟨q, hqe⟩ : ∃ q, q = l[i - 1] := ⟨_, rfl⟩
          rw [← hqe] at g0 g1 g2
          have HQ : Hid (q = l[i - 1]) := hqe
          clear hqe g1 g2
          have hi0 : (0 : Int) < (i : Int) := by omega
          obtain ⟨j, hj⟩ : ∃ j, i = j + 1 := ⟨i - 1, by omega⟩
          subst hj
          simp only [Nat.add_sub_cancel] at g0
          have hwj : IntKind.i64.wrap (j : Int) = j := wrap_small (by omega) (by omega)
          have hjl : j < l.length := by omega
          have g0' : ∀ x : Obj, (wr.alloc x).cell? ⟨b, off + j * 3, none⟩ = some (.int .u64 q.k) := fun x => by rw [(below_alloc wr x).cell (p := ⟨b, off + j * 3, none⟩) (cell_lt g0)]; exact g0
          by_cases hk : q.k < o.k
          · have R' : ∀ n, Sd w l (.int .i64 (((j + 1 : Nat) : Int) + 1)) ((wr.alloc (Obj.cells #[.int .u64 o.k, .bool true, .int .u64 o.v.b] 130)).drewN n) := fun n => sd_step hlt HG.out (good_more hlt HE.out HQ.out HH.out hk) HB.out (below_alloc_drew _ _ _)
            have hkb : ¬ ((o.k : Int) ≤ (q.k : Int)) := by omega
            clear hk
            go_wp2_with fail
            go_quiet (fail)
            go_wp2_with fail
            go_roundw
            case rel => exact R' _
            case measure => simp [intOf]; omega
          · have HT : Hid (tabB l = false) := tab_falls hlt (by omega) (by rw [← HE.out, ← HQ.out]; exact hk)
            have hkb : (o.k : Int) ≤ (q.k : Int) := by omega
            clear hk
            go_wp2_with fail
            go_quiet (fail)
            go_wp2_with fail
            go_ret
            exact ⟨ret_bool HT.out.symm, below_trans HB.out (below_alloc_drew _ _ _)⟩
    · have HT : Hid (tabB l = true) := tab_good fun j hj => HG.out j (by omega)
      go_wp2_with fail
      go_ret
      exact ⟨ret_bool HT.out.symm, HB.out⟩


end Go.Proofs.Ytpndafieknddcaa

namespace Go.Proofs.Ytpndafieknddcaa

open Go.RowKit



/-- A step's three fields. -/
structure Stp where
  K : Int
  N : Int
  X : Nat


def Stp.ok (o : Stp) : Prop := (-9223372036854775808 ≤ o.K ∧ o.K < 9223372036854775808) ∧ (-9223372036854775808 ≤ o.N ∧ o.N < 9223372036854775808) ∧ o.X < 18446744073709551616
/-- Is it a step? -/
def isB (o : Stp) : Bool := if o.K = 7 then decide (-2200 ≤ o.N ∧ o.N ≤ 2200) else if o.K = 11 then decide (1 ≤ o.N) else decide (1 ≤ o.K ∧ o.K ≤ 12)
def checkB (l : List Stp) : Bool := decide (l.length ≤ 8) && l.all isB


theorem below_drw (w : World) : Below w.heap.size w w.drew := (Below.refl _ _).drew


/-- A float laid into a cell. -/
theorem run_store_float {P : Program} {w : World} {a : Addr} {m : Mode} (k : FloatKind) (x : Nat) : (store a (.float k x) m).run P w = stored P w a (.float k x) m := run_store P w a _ m rfl
attribute [local go_sem] run_store_float
theorem isStep_walk (o : Stp) (w : World) :
    Calls Try.prog 42 #[.agg #[.int .i64 o.K, .int .i64 o.N, .float .f64 o.X]] w fun e w' => e = .returned (.bool (isB o)) ∧ Below w.heap.size w w' := by
  obtain ⟨K, N, X⟩ := o
  by_cases h7 : K = 7
  · subst h7
    go_enter Try.func42, Try.ntmps42
    go_wp2
    all_goals (go_ret; exact ⟨ret_bool (by rw [Bool.eq_iff_iff]; unfold isB; simp <;> omega), below_alloc _ _⟩)
  · by_cases h11 : K = 11
    · subst h11
      go_enter Try.func42, Try.ntmps42
      go_wp2
      all_goals (go_ret; exact ⟨ret_bool (by rw [Bool.eq_iff_iff]; unfold isB; simp <;> omega), below_alloc _ _⟩)
    · have b7 : (K == 7) = false := by simpa using h7
      have b11 : (K == 11) = false := by simpa using h11
      go_enter Try.func42, Try.ntmps42
      go_wp2
      all_goals (go_ret; exact ⟨ret_bool (by rw [Bool.eq_iff_iff]; unfold isB; simp [h7, h11] <;> omega), below_alloc _ _⟩)


/-- The cells behind ao hold the steps l. -/
def Ol (w : World) (ao : Option Addr) (l : List Stp) : Prop :=
  ∀ i, (h : i < l.length) → ∃ b off, ao = some ⟨b, off, none⟩ ∧ w.cell? ⟨b, off + i * 3, none⟩ = some (.int .i64 l[i].K) ∧ w.cell? ⟨b, off + i * 3 + 1, none⟩ = some (.int .i64 l[i].N) ∧ w.cell? ⟨b, off + i * 3 + 2, none⟩ = some (.float .f64 l[i].X)


/-- The value v is a slice that holds the steps l. -/
def Ov (w : World) (v : Value) (l : List Stp) : Prop :=
  (∃ ao cap, v = .slice ao l.length cap ∧ l.length ≤ cap ∧ cap ≤ maxLen ∧ (ao = none → cap = 0) ∧ Ol w ao l) ∧ ∀ o ∈ l, o.ok


theorem Ol.below {w w' : World} {ao : Option Addr} {l : List Stp} (h : Ol w ao l) (hb : Below w.heap.size w w') : Ol w' ao l := by
  intro i hi
  obtain ⟨b, off, e, h0, h1, h2⟩ := h i hi
  exact ⟨b, off, e, by rw [hb.cell (p := ⟨b, off + i * 3, none⟩) (cell_lt h0)]; exact h0, by rw [hb.cell (p := ⟨b, off + i * 3 + 1, none⟩) (cell_lt h1)]; exact h1, by rw [hb.cell (p := ⟨b, off + i * 3 + 2, none⟩) (cell_lt h2)]; exact h2⟩
theorem Ov.below {w w' : World} {v : Value} {l : List Stp} (h : Ov w v l) (hb : Below w.heap.size w w') : Ov w' v l := by
  obtain ⟨⟨ao, cap, e, h1, h2, h3, h4⟩, h5⟩ := h
  exact ⟨⟨ao, cap, e, h1, h2, h3, h4.below hb⟩, h5⟩


def chkI (l : List Stp) : Int := if checkB l then 0 else 30


/-- The loops over a list: where they are, the world since. -/
def Rng (w0 : World) (l : List Stp) (iv : Value) (wr : World) : Prop :=
  ∃ k : Nat, k ≤ l.length ∧ iv = .int .i64 k ∧ (∀ j, (h : j < l.length) → j < k → isB l[j] = true) ∧ Below w0.heap.size w0 wr


theorem check_long {l : List Stp} (h : 8 < l.length) : chkI l = 30 := by
  unfold chkI checkB
  rw [decide_eq_false (by omega)]; rfl
theorem check_bad {l : List Stp} {k : Nat} (hk : k < l.length) (h : isB l[k] = false) : chkI l = 30 := by
  unfold chkI checkB
  have : l.all isB = false := by
    rw [List.all_eq_false]
    exact ⟨l[k], List.getElem_mem hk, by simpa using h⟩
  rw [this, Bool.and_false]; rfl
theorem check_good {l : List Stp} (h : l.length ≤ 8) (ha : ∀ j, (h : j < l.length) → isB l[j] = true) : chkI l = 0 := by
  unfold chkI checkB
  have : l.all isB = true := by
    rw [List.all_eq_true]
    intro o ho
    obtain ⟨i, hi, rfl⟩ := List.getElem_of_mem ho
    exact ha i hi
  rw [this, Bool.and_true, decide_eq_true h]; rfl
theorem rng_step {w0 wr w1 : World} {l : List Stp} {k : Nat} (hk : k < l.length) (ha : ∀ j, (h : j < l.length) → j < k → isB l[j] = true) (hb : isB l[k] = true) (hB : Below w0.heap.size w0 wr) (h1 : Below wr.heap.size wr w1) :
    Rng w0 l (.int .i64 ((k : Int) + 1)) w1 := by
  refine ⟨k + 1, hk, by simp, fun j hj hjk => ?_, below_trans hB h1⟩
  rcases Nat.lt_or_ge j k with h | h
  · exact ha j hj h
  · obtain rfl : j = k := by omega
    exact hb


theorem check_walk {ao : Option Addr} {cap : Nat} {l : List Stp} {w : World} (hl : l.length ≤ maxLen) (ho : Ol w ao l) :
    Calls Try.prog 21 #[.slice ao l.length cap] w fun e w' => e = .returned (.int .i64 (chkI l)) ∧ Below w.heap.size w w' := by
  have hli : (l.length : Int) ≤ 9223372036854775807 := by simp only [maxLen] at hl; omega
  have HO : Hid (Ol w ao l) := ho
  clear ho hl
  by_cases h8 : (8 : Int) < (l.length : Int)
  · go_enter Try.func21, Try.ntmps21
    go_wp2_with fail
    go_ret
    exact ⟨ret_int (check_long (by omega)).symm, below_same _⟩
  · have HL : Hid (l.length ≤ 8) := by show _ ≤ _; omega
    go_enter Try.func21, Try.ntmps21
    go_wp2_with fail
    go_loopw [10] (fun iv wr => Rng w l iv wr) (fun iv _ => l.length - (intOf iv).toNat)
    case atStart => exact ⟨0, Nat.zero_le _, rfl, fun j hj h => by omega, below_same _⟩
    case round =>
      obtain ⟨k, hk, rfl, HA', hB'⟩ := hrel
      have HA : Hid (∀ j, (h : j < l.length) → j < k → isB l[j] = true) := HA'
      have HB : Hid (Below w.heap.size w wr) := hB'
      clear HA' hB'
      by_cases hlt : k < l.length
      · obtain ⟨b, off, rfl, c0, c1, c2⟩ := HO.out.below HB.out k hlt
        obtain ⟨o, hoe⟩ : ∃ o, o = l[k] := ⟨_, rfl⟩
        rw [← hoe] at c0 c1 c2
        have HE : Hid (o = l[k]) := hoe
        clear hoe
        cases hb : isB o
        · go_wp2_with fail
          refine (isStep_walk o _).mono ?_
          rw [hb]
          rintro e w1 ⟨rfl, hB1⟩
          go_wp2_with fail
          go_ret
          exact ⟨ret_int (check_bad hlt (by rw [← HE.out]; exact hb)).symm, below_trans HB.out (below_trans (below_alloc _ _) hB1)⟩
        · go_wp2_with fail
          refine (isStep_walk o _).mono ?_
          rw [hb]
          rintro e w1 ⟨rfl, hB1⟩
          have R := rng_step hlt HA.out (by rw [← HE.out]; exact hb) HB.out (below_trans (below_alloc _ _) hB1)
          go_wp2_with fail
          go_roundw
          case rel => exact R
          case measure => simp [intOf]; omega
      · go_wp2_with fail
        go_ret
        exact ⟨ret_int (check_good HL.out (fun j hj => HA.out j hj (by omega))).symm, HB.out⟩






def knownB (k : Int) : Bool := decide (1 ≤ k) && decide (k ≤ 4)
theorem known_walk (k : Int) (w : World) :
    Calls Try.prog 19 #[.int .i64 k] w fun e w' => e = .returned (.bool (knownB k)) ∧ w' = w := by
  go_enter Try.func19, Try.ntmps19
  go_wp2
  all_goals (go_ret; exact ⟨ret_bool (by unfold knownB; simp <;> omega), rfl⟩)
end Go.Proofs.Ytpndafieknddcaa

namespace Go.Proofs.Ytpndafieknddcaa

open Go.RowKit









































end Go.Proofs.Ytpndafieknddcaa

namespace Go.Proofs.Ytpndafieknddcaa

open Go.RowKit



/-- A plan's numbers and its steps. -/
structure Pn where
  P : Int
  S : Int
  W : Int
  A : Int
  B : Int
  N : Int
  G : Int
  l : List Stp


def btw (x a b : Int) : Bool := decide (a ≤ x) && decide (x ≤ b)
def Pn.siz (p : Pn) : Bool := btw p.P 1 4 && btw p.S 1 4 && btw p.W 1 4
def Pn.pac (p : Pn) : Bool := btw p.B 1 16 && btw p.N 1 4 && btw p.G 8 64
def Pn.num (p : Pn) : Bool := p.siz && knownB p.A && p.pac
/-- What Check answers. -/
def Pn.chk (p : Pn) : Int := if p.num then chkI p.l else 140
def Pn.is (p : Pn) : Bool := p.num && checkB p.l
def Pn.v (p : Pn) (ov : Value) : Value := .agg #[.int .i64 p.P, .int .i64 p.S, .int .i64 p.W, ov, .int .i64 p.A, .int .i64 p.B, .int .i64 p.N, .int .i64 p.G]
def Pn.nodes (p : Pn) : Int := if p.is then 1 + p.W + p.S else 0
def Pn.kind (p : Pn) (n : Int) : Int := if n < 0 ∨ p.nodes ≤ n then 0 else if n < 1 then 1 else if n < 1 + p.W then 2 else 3
def Pn.worker (p : Pn) (a : Int) : Int := if p.is && decide (1 ≤ a) then 1 + a % p.W else -1
def Pn.place (p : Pn) (k : Nat) : Nat := k % p.S.toNat
def Pn.store (p : Pn) (k : Nat) : Int := if p.is then 1 + p.W + (p.place k : Int) else -1


theorem Pn.chk_is (p : Pn) : (p.chk == 0) = p.is := by
  unfold Pn.chk Pn.is chkI
  cases p.num <;> cases checkB p.l <;> rfl
theorem Pn.chk_ok {p : Pn} (h : p.is = true) : p.chk = 0 := by
  have := p.chk_is
  rw [h] at this
  simpa using this
theorem Pn.chk_no {p : Pn} (h : p.is = false) : (p.chk == 0) = false := by rw [p.chk_is, h]
theorem Pn.is_num {p : Pn} (h : p.is = true) : (1 ≤ p.P ∧ p.P ≤ 4) ∧ (1 ≤ p.S ∧ p.S ≤ 4) ∧ (1 ≤ p.W ∧ p.W ≤ 4) ∧ (1 ≤ p.A ∧ p.A ≤ 4) ∧ (1 ≤ p.B ∧ p.B ≤ 16) ∧ (1 ≤ p.N ∧ p.N ≤ 4) ∧ 8 ≤ p.G ∧ p.G ≤ 64 := by
  unfold Pn.is Pn.num Pn.siz Pn.pac knownB btw at h
  simp only [Bool.and_eq_true, decide_eq_true_eq] at h
  omega


/-- A box g with a plan in it. -/
structure BxP (w : World) (g : Nat) (p : Pn) (ov : Value) : Prop where
  c0 : w.cell? ⟨g, 0, none⟩ = some (.int .i64 p.P)
  c1 : w.cell? ⟨g, 1, none⟩ = some (.int .i64 p.S)
  c2 : w.cell? ⟨g, 2, none⟩ = some (.int .i64 p.W)
  c3 : w.cell? ⟨g, 3, none⟩ = some ov
  c4 : w.cell? ⟨g, 4, none⟩ = some (.int .i64 p.A)
  c5 : w.cell? ⟨g, 5, none⟩ = some (.int .i64 p.B)
  c6 : w.cell? ⟨g, 6, none⟩ = some (.int .i64 p.N)
  c7 : w.cell? ⟨g, 7, none⟩ = some (.int .i64 p.G)
theorem BxP.below {w w' : World} {g B : Nat} {p : Pn} {ov : Value} (h : BxP w g p ov) (hb : Below B w w') (hg : g < B) : BxP w' g p ov :=
  ⟨by rw [hb.cell (p := ⟨g, 0, none⟩) hg]; exact h.c0, by rw [hb.cell (p := ⟨g, 1, none⟩) hg]; exact h.c1, by rw [hb.cell (p := ⟨g, 2, none⟩) hg]; exact h.c2, by rw [hb.cell (p := ⟨g, 3, none⟩) hg]; exact h.c3, by rw [hb.cell (p := ⟨g, 4, none⟩) hg]; exact h.c4, by rw [hb.cell (p := ⟨g, 5, none⟩) hg]; exact h.c5, by rw [hb.cell (p := ⟨g, 6, none⟩) hg]; exact h.c6, by rw [hb.cell (p := ⟨g, 7, none⟩) hg]; exact h.c7⟩
theorem box_new (w : World) (p : Pn) (ov : Value) : BxP (w.alloc (.cells #[.int .i64 p.P, .int .i64 p.S, .int .i64 p.W, ov, .int .i64 p.A, .int .i64 p.B, .int .i64 p.N, .int .i64 p.G] 24)) w.heap.size p ov := by
  constructor <;> simp [go_sem]
theorem box_then {w w' : World} {p : Pn} {ov : Value} (hb : Below (w.alloc (.cells #[.int .i64 p.P, .int .i64 p.S, .int .i64 p.W, ov, .int .i64 p.A, .int .i64 p.B, .int .i64 p.N, .int .i64 p.G] 24)).heap.size (w.alloc (.cells #[.int .i64 p.P, .int .i64 p.S, .int .i64 p.W, ov, .int .i64 p.A, .int .i64 p.B, .int .i64 p.N, .int .i64 p.G] 24)) w') : BxP w' w.heap.size p ov := (box_new w p ov).below hb (by simp)


theorem within_walk (x a b : Int) (w : World) : Calls Try.prog 41 #[.int .i64 x, .int .i64 a, .int .i64 b] w fun e w' => e = .returned (.bool (btw x a b)) ∧ w' = w := by
  go_enter Try.func41, Try.ntmps41
  go_wp2
  all_goals (go_ret; exact ⟨ret_bool (by unfold btw; simp <;> omega), rfl⟩)


theorem sized_walk (p : Pn) (ov : Value) (w : World) : Calls Try.prog 18 #[.agg #[.int .i64 p.P, .int .i64 p.S, .int .i64 p.W, ov, .int .i64 p.A, .int .i64 p.B, .int .i64 p.N, .int .i64 p.G]] w fun e w' => e = .returned (.bool p.siz) ∧ Below w.heap.size w w' := by
  have HS : Hid (p.siz = (btw p.P 1 4 && btw p.S 1 4 && btw p.W 1 4)) := rfl
  cases h1 : btw p.P 1 4 <;> cases h2 : btw p.S 1 4 <;> cases h3 : btw p.W 1 4
  all_goals
    rw [HS.out, h1, h2, h3]
    clear HS
    go_enter Try.func18, Try.ntmps18
    go_wp2_with (go_at_call 41; refine (within_walk _ _ _ _).mono ?_; simp only [h1, h2, h3]; rintro e w9 ⟨rfl, h9⟩; replace h9 := h9.symm; subst h9)
    go_ret
    exact ⟨rfl, below_alloc _ _⟩
theorem paced_walk (p : Pn) (ov : Value) (w : World) : Calls Try.prog 20 #[.agg #[.int .i64 p.P, .int .i64 p.S, .int .i64 p.W, ov, .int .i64 p.A, .int .i64 p.B, .int .i64 p.N, .int .i64 p.G]] w fun e w' => e = .returned (.bool p.pac) ∧ Below w.heap.size w w' := by
  have HS : Hid (p.pac = (btw p.B 1 16 && btw p.N 1 4 && btw p.G 8 64)) := rfl
  cases h1 : btw p.B 1 16 <;> cases h2 : btw p.N 1 4 <;> cases h3 : btw p.G 8 64
  all_goals
    rw [HS.out, h1, h2, h3]
    clear HS
    go_enter Try.func20, Try.ntmps20
    go_wp2_with (go_at_call 41; refine (within_walk _ _ _ _).mono ?_; simp only [h1, h2, h3]; rintro e w9 ⟨rfl, h9⟩; replace h9 := h9.symm; subst h9)
    go_ret
    exact ⟨rfl, below_alloc _ _⟩


section

variable {p : Pn} {ao : Option Addr} {n cap : Nat} {w : World}

theorem pcheck_walk {ov : Value} (ho : Ov w ov p.l) : Calls Try.prog 6 #[.agg #[.int .i64 p.P, .int .i64 p.S, .int .i64 p.W, ov, .int .i64 p.A, .int .i64 p.B, .int .i64 p.N, .int .i64 p.G]] w fun e w' => e = .returned (.int .i64 p.chk) ∧ Below w.heap.size w w' := by
  obtain ⟨⟨ao, cap, rfl, o1, o2, o3, o4⟩, _⟩ := ho
  have HO : Hid (Ol w ao p.l) := o4
  have HL : Hid (p.l.length ≤ maxLen) := Nat.le_trans o1 o2
  clear o1 o2 o3 o4
  have HC : Hid (p.chk = if (p.siz && knownB p.A && p.pac) then chkI p.l else 140) := rfl
  cases h1 : p.siz
  · rw [HC.out, h1]
    go_enter Try.func6, Try.ntmps6
    go_wp2_with fail
    refine (sized_walk p _ _).mono ?_
    rw [h1]
    rintro e w1 ⟨rfl, hB1⟩
    go_wp2_with fail
    go_ret
    exact ⟨rfl, below_trans (below_alloc _ _) hB1⟩
  cases h2 : knownB p.A
  · rw [HC.out, h1, h2]
    go_enter Try.func6, Try.ntmps6
    go_wp2_with fail
    refine (sized_walk p _ _).mono ?_
    rw [h1]
    rintro e w1 ⟨rfl, hB1⟩
    have HB1 : Hid (Below w.heap.size w w1) := below_trans (below_alloc _ _) hB1
    obtain ⟨c0, c1, c2, c3, c4, c5, c6, c7⟩ := box_then hB1
    clear hB1
    go_wp2_with (go_at_call 19; refine (known_walk _ _).mono ?_; rw [h2]; rintro e w9 ⟨rfl, h9⟩; replace h9 := h9.symm; subst h9)
    go_ret
    exact ⟨rfl, HB1.out⟩
  cases h3 : p.pac
  · rw [HC.out, h1, h2, h3]
    go_enter Try.func6, Try.ntmps6
    go_wp2_with fail
    refine (sized_walk p _ _).mono ?_
    rw [h1]
    rintro e w1 ⟨rfl, hB1⟩
    have HB1 : Hid (Below w.heap.size w w1) := below_trans (below_alloc _ _) hB1
    obtain ⟨c0, c1, c2, c3, c4, c5, c6, c7⟩ := box_then hB1
    clear hB1
    go_wp2_with (go_at_call 19; refine (known_walk _ _).mono ?_; rw [h2]; rintro e w9 ⟨rfl, h9⟩; replace h9 := h9.symm; subst h9)
    refine (paced_walk p _ _).mono ?_
    rw [h3]
    rintro e w2 ⟨rfl, hB2⟩
    go_wp2_with fail
    go_ret
    exact ⟨rfl, below_trans HB1.out hB2⟩
  · rw [HC.out, h1, h2, h3]
    go_enter Try.func6, Try.ntmps6
    go_wp2_with fail
    refine (sized_walk p _ _).mono ?_
    rw [h1]
    rintro e w1 ⟨rfl, hB1⟩
    have HB1 : Hid (Below w.heap.size w w1) := below_trans (below_alloc _ _) hB1
    have HX : Hid (BxP w1 w.heap.size p (.slice ao p.l.length cap)) := box_then hB1
    have HX1 : Hid (w.heap.size < w1.heap.size) := by
      have := hB1.size
      show _ < _
      simp at this
      omega
    obtain ⟨c0, c1, c2, c3, c4, c5, c6, c7⟩ := box_then hB1
    clear hB1
    go_wp2_with (go_at_call 19; refine (known_walk _ _).mono ?_; rw [h2]; rintro e w9 ⟨rfl, h9⟩; replace h9 := h9.symm; subst h9)
    refine (paced_walk p _ _).mono ?_
    rw [h3]
    rintro e w2 ⟨rfl, hB2⟩
    have HB2 : Hid (Below w.heap.size w w2) := below_trans HB1.out hB2
    clear c0 c1 c2 c3 c4 c5 c6 c7
    obtain ⟨c0, c1, c2, c3, c4, c5, c6, c7⟩ := HX.out.below hB2 HX1.out
    clear hB2
    go_wp2_with fail
    refine (check_walk HL.out (HO.out.below HB2.out)).mono ?_
    rintro e w3 ⟨rfl, hB3⟩
    go_wp2_with fail
    go_ret
    exact ⟨rfl, below_trans HB2.out hB3⟩
theorem isplan_walk {ov : Value} (ho : Ov w ov p.l) : Calls Try.prog 75 #[.agg #[.int .i64 p.P, .int .i64 p.S, .int .i64 p.W, ov, .int .i64 p.A, .int .i64 p.B, .int .i64 p.N, .int .i64 p.G]] w fun e w' => e = .returned (.bool p.is) ∧ Below w.heap.size w w' := by
  have HO : Hid (Ov w ov p.l) := ho
  clear ho
  go_enter Try.func75, Try.ntmps75
  go_wp2_with fail
  refine (pcheck_walk (HO.out.below (below_alloc _ _))).mono ?_
  rintro e w1 ⟨rfl, hB1⟩
  go_wp2_with fail
  go_ret
  exact ⟨ret_bool p.chk_is, below_trans (below_alloc _ _) hB1⟩
end

end Go.Proofs.Ytpndafieknddcaa

namespace Go.Proofs.Ytpndafieknddcaa

open Go.RowKit



theorem BxP.all {w1 : World} {g : Nat} {p : Pn} {ov : Value} (h : BxP w1 g p ov) (hg : g < w1.heap.size) : ∀ wx, Below w1.heap.size w1 wx → BxP wx g p ov := fun _ hb => h.below hb hg
theorem box_lt {w w1 : World} {p : Pn} {ov : Value} (hb : Below (w.alloc (.cells #[.int .i64 p.P, .int .i64 p.S, .int .i64 p.W, ov, .int .i64 p.A, .int .i64 p.B, .int .i64 p.N, .int .i64 p.G] 24)).heap.size (w.alloc (.cells #[.int .i64 p.P, .int .i64 p.S, .int .i64 p.W, ov, .int .i64 p.A, .int .i64 p.B, .int .i64 p.N, .int .i64 p.G] 24)) w1) : w.heap.size < w1.heap.size := by
  have := hb.size
  simp at this
  omega


section

variable {p : Pn} {w : World} {ov : Value}

theorem kind_in {n : Int} (h0 : ¬ n < 0) (hn : ¬ p.nodes ≤ n) : p.is = true := by
  cases h : p.is
  · unfold Pn.nodes at hn
    rw [h] at hn
    simp at hn
    omega
  · rfl
theorem worker_walk (a : Int) (ha : a < 9223372036854775808) (ho : Ov w ov p.l) : Calls Try.prog 50 #[.agg #[.int .i64 p.P, .int .i64 p.S, .int .i64 p.W, ov, .int .i64 p.A, .int .i64 p.B, .int .i64 p.N, .int .i64 p.G], .int .i64 a] w fun e w' => e = .returned (.int .i64 (p.worker a)) ∧ Below w.heap.size w w' := by
  have HO : Hid (Ov w ov p.l) := ho
  clear ho
  have HN : Hid (p.worker a = if p.is && decide (1 ≤ a) then 1 + a % p.W else -1) := rfl
  cases hp : p.is
  · rw [HN.out, hp]
    go_enter Try.func50, Try.ntmps50
    go_wp2_with fail
    refine (isplan_walk (HO.out.below (below_alloc _ _))).mono ?_
    rw [hp]
    rintro e w1 ⟨rfl, hB1⟩
    go_wp2_with fail
    go_ret
    exact ⟨rfl, below_trans (below_alloc _ _) hB1⟩
  obtain ⟨_, ⟨s1, s2⟩, ⟨w1, w2⟩, _⟩ := Pn.is_num hp
  by_cases h1 : a < 1
  · rw [HN.out, hp, decide_eq_false (by omega)]
    go_enter Try.func50, Try.ntmps50
    go_wp2_with fail
    refine (isplan_walk (HO.out.below (below_alloc _ _))).mono ?_
    rw [hp]
    rintro e w1 ⟨rfl, hB1⟩
    go_wp2_with fail
    go_ret
    exact ⟨rfl, below_trans (below_alloc _ _) hB1⟩
  · rw [HN.out, hp, decide_eq_true (by omega)]
    have hm1 : a.tmod p.W = a % p.W := Int.tmod_eq_emod_of_nonneg (by omega)
    have hm2 : 0 ≤ a % p.W := Int.emod_nonneg _ (by omega)
    have hm3 : a % p.W < p.W := Int.emod_lt_of_pos _ (by omega)
    have hw0 : ¬ p.W = 0 := by omega
    go_enter Try.func50, Try.ntmps50
    go_wp2_with fail
    refine (isplan_walk (HO.out.below (below_alloc _ _))).mono ?_
    rw [hp]
    rintro e w1 ⟨rfl, hB1⟩
    have HB1 : Hid (Below w.heap.size w w1) := below_trans (below_alloc _ _) hB1
    obtain ⟨c0, c1, c2, c3, c4, c5, c6, c7⟩ := box_then hB1
    clear hB1
    go_wp2_with fail
    go_ret
    exact ⟨rfl, HB1.out⟩
end

end Go.Proofs.Ytpndafieknddcaa
