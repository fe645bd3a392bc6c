/- Scripts printed, cut, with skipped lines, with many steps: what their reading comes to. -/
import Derived.Test.YtkiplcmndpdifaaGreatDoorTj

namespace Go.Proofs.YtkiplcmndpdifaaGreatDoor

open Go.RowKit



theorem stE_vals (s : Sp) : stE s = 0 ∨ stE s = 200 ∨ stE s = 1 := by
  unfold stE
  split
  · simp
  · split <;> simp


theorem stEs_vals : ∀ (l : List Sp), stEs l = 0 ∨ stEs l = 200 ∨ stEs l = 1 := by
  intro l
  induction l with
  | nil => exact .inl rfl
  | cons s r ih =>
    simp only [stEs]
    split
    · exact ih
    · exact stE_vals s


theorem stEs_all : ∀ {l : List Sp}, (∀ s ∈ l, stE s = 0) → stEs l = 0 := by
  intro l
  induction l with
  | nil => intro _; rfl
  | cons s r ih =>
    intro h
    simp only [stEs]
    rw [if_pos (h s (by simp))]
    exact ih fun x hx => h x (by simp [hx])


theorem stEs_pre {l : List Sp} (h : stEs l = 0) (k : Nat) : stEs (l.take k) = 0 :=
  stEs_all fun _ hs => stEs_mem h (List.mem_of_mem_take hs)


theorem printE_vals {p : Pl} {ops : List Og} {sts : List Sp} (h : ¬ 4096 < sts.length) : printE p ops sts = 0 ∨ printE p ops sts = 200 ∨ printE p ops sts = 1 ∨ printE p ops sts = 6 := by
  unfold printE
  rw [if_neg h]
  split
  · rcases stEs_vals sts with h | h | h <;> simp [h]
  · split <;> simp


theorem printT_bad {p : Pl} {ops : List Og} {sts : List Sp} (h : printE p ops sts ≠ 0) : printT p ops sts = [] := by
  unfold printT
  rw [if_neg h]


theorem print_ok {p : Pl} {ops : List Og} {sts : List Sp} (h : printE p ops sts = 0) : printT p ops sts = bodyT p ops sts ∧ stEs sts = 0 ∧ sts.length ≤ 4096 ∧ (bodyT p ops sts).length ≤ 262144 := by
  refine ⟨by unfold printT; rw [if_pos h], ?_⟩
  unfold printE at h
  split at h
  · omega
  · split at h
    · omega
    · split at h
      · omega
      · rename_i h1 h2 h3
        exact ⟨Classical.byContradiction h2, by omega, by omega⟩


theorem body_pre (p : Pl) (ops : List Og) (sts : List Sp) (k : Nat) : bodyT p ops sts = bodyT p ops (sts.take k) ++ (sts.drop k).flatMap stT := by
  unfold bodyT
  conv => lhs; rw [← List.take_append_drop k sts]
  rw [List.flatMap_append]
  simp only [List.append_assoc]


theorem print_pre {p : Pl} {ops : List Og} {sts : List Sp} (h : printE p ops sts = 0) (k : Nat) : printE p ops (sts.take k) = 0 ∧ printT p ops (sts.take k) = bodyT p ops (sts.take k) := by
  obtain ⟨_, h2, h3, h4⟩ := print_ok h
  have e : printE p ops (sts.take k) = 0 := by
    unfold printE
    rw [body_pre p ops sts k] at h4
    rw [if_neg (by simp; omega), if_neg (by simp [stEs_pre h2 k]), if_neg (by simp at h4; omega)]
  exact ⟨e, (print_ok e).1⟩


theorem read_all {p : Pl} {ops : List Og} {sts : List Sp} (hp : p.ok) (ho : ∀ x ∈ ops, x.ok) (hs : ∀ x ∈ sts, x.ok) (hE : stEs sts = 0) (hl : sts.length ≤ 4096) (rest : List Bs) :
    readL 1 ((planN p :: (ops.map opN ++ sts.map stN)) ++ rest) Rs.zero = readL (2 + ops.length + sts.length) rest ⟨true, p, ops, sts⟩ := by
  rw [List.cons_append, readL, read_plan rfl hp]
  dsimp only
  rw [List.append_assoc, read_ops _ _ _ _ rfl rfl ho, read_sts _ _ _ _ rfl (by simp [Rs.zero]; exact hl) hs (fun x hx => stEs_mem hE hx)]
  simp [Rs.zero]


theorem lines_no {p : Pl} {ops : List Og} {sts : List Sp} (hE : stEs sts = 0) : ∀ x ∈ planN p :: (ops.map opN ++ sts.map stN), (10 : UInt8) ∉ x := by
  intro x hx
  rcases List.mem_cons.1 hx with rfl | hx
  · exact ln_no wd_planW (wd_planA p)
  · rcases List.mem_append.1 hx with hx | hx
    · obtain ⟨o, _, rfl⟩ := List.mem_map.1 hx
      exact ln_no wd_opW (wd_opA o)
    · obtain ⟨t, ht, rfl⟩ := List.mem_map.1 hx
      obtain ⟨f, hf, hk, _, _⟩ := form_of (stEs_mem hE ht)
      have hD : formD t.K = f := by unfold formD; rw [hk]; rfl
      unfold stN
      rw [hD]
      exact ln_no (wd_form f hf).1 (wd_stA f.g t)

/-! ### Many steps -/
def tkS : Sp := ⟨3, 0, 0, 0, 0⟩
def tkB : Bs := [116, 105, 99, 107, 10]
/-- The plan's line and n ticks. -/
def manyT (n : Nat) : Bs := hd ++ (List.replicate n tkB).flatten


theorem many_succ (n : Nat) : manyT (n + 1) = manyT n ++ tkB := by
  unfold manyT
  rw [List.replicate_succ', List.flatten_concat, List.append_assoc]


theorem many_len (n : Nat) : (manyT n).length = 19 + n * 5 := by
  induction n with
  | zero => rfl
  | succ n ih => rw [many_succ, List.length_append, ih, Nat.succ_mul]; simp [tkB, Nat.add_assoc]


theorem many_body (n : Nat) : manyT n = bodyT awP [] (List.replicate n tkS) := by
  induction n with
  | zero => kernel_rfl
  | succ n ih =>
    rw [many_succ, ih]
    unfold bodyT
    rw [List.replicate_succ', List.flatMap_append, ← List.append_assoc]
    congr 1


theorem awP_ok : awP.ok := by simp [awP, Pl.ok, In64]
theorem tkS_ok : tkS.ok := by simp [tkS, Sp.ok, In64]
theorem tk_ok (n : Nat) : ∀ x ∈ List.replicate n tkS, x.ok := fun x hx => by rw [(List.mem_replicate.1 hx).2]; exact tkS_ok
theorem tk_es (n : Nat) : stEs (List.replicate n tkS) = 0 := stEs_all fun x hx => by rw [(List.mem_replicate.1 hx).2]; kernel_rfl
theorem none_ok : ∀ x ∈ ([] : List Og), x.ok := fun _ h => by cases h


theorem many_read (n : Nat) (h : n ≤ 4096) : parseT (manyT n) = .ok ⟨true, awP, [], List.replicate n tkS⟩ := by
  have hl := many_len n
  rw [many_body] at hl ⊢
  exact parse_back awP_ok none_ok (tk_ok n) (tk_es n) (by simpa using h) (by omega)


theorem many_more {n : Nat} (hn : n = 4096) {wd : Bs} (hw : (10 : UInt8) ∉ wd) (hk : skipB wd = false) (hl : wd.length ≤ 1000) : parseT (manyT n ++ 10 :: (wd ++ [10])) = .error (n + 3, 212) := by
  have hr : readL 1 (splitB 10 (manyT n ++ 10 :: (wd ++ [10]))) Rs.zero = .error (n + 3, 212) := by
    rw [many_body, body_lines, split_lines _ _ (lines_no (tk_es n)), read_all awP_ok none_ok (tk_ok n) (tk_es n) (by rw [List.length_replicate]; omega)]
    have e : splitB 10 (10 :: (wd ++ [10])) = [[], wd, []] := by
      have h1 := split_at (b := 10) (a := []) (r := wd ++ [10]) (by simp)
      have h2 := split_at (b := 10) (a := wd) (r := []) hw
      simp only [List.nil_append] at h1
      rw [h1, h2]
      rfl
    rw [e]
    obtain ⟨w, ws, h1, _, _⟩ := split_cons 32 wd
    have h2 : readLine ⟨true, awP, [], List.replicate n tkS⟩ wd = .error 212 := by
      have hne : List.replicate n tkS ≠ [] := by
        intro h
        have := congrArg List.length h
        simp at this
        omega
      unfold readLine
      rw [hk, h1]
      simp only [Bool.false_eq_true, if_false]
      unfold lineR
      rw [if_neg (by simp), if_neg (by rintro ⟨_, h⟩; exact hne h), if_pos (by show (List.replicate n tkS).length = 4096; rw [List.length_replicate]; exact hn)]
    simp only [readL, readLine, skipB, if_true] at h2 ⊢
    rw [h2]
    simp
    omega
  unfold parseT
  rw [if_neg (by have := many_len n; simp; omega), hr]


theorem many_print (over : Int) {n : Nat} (hn : n = 4096) : printE ⟨over, 0, 0, 0, 0, 0, 0⟩ [] (List.replicate n tkS ++ [tkS]) = 212 ∧ printT ⟨over, 0, 0, 0, 0, 0, 0⟩ [] (List.replicate n tkS ++ [tkS]) = [] := by
  have e : printE ⟨over, 0, 0, 0, 0, 0, 0⟩ [] (List.replicate n tkS ++ [tkS]) = 212 := by
    unfold printE
    rw [if_pos (by rw [List.length_append, List.length_replicate, List.length_singleton]; omega)]
  exact ⟨e, printT_bad (by rw [e]; decide)⟩

/-! ### Skipped lines -/
/-- A text, a blank line and a note behind each line. -/
def noteT (N : Bs) (l : Bs) : Bs := l.flatMap fun c => if c = 10 then 10 :: (10 :: 35 :: (N ++ [10])) else [c]
def noteL (N : Bs) (ls : List Bs) : List Bs := ls.flatMap fun l => [l, [], 35 :: N]


theorem note_line (N l : Bs) (h : (10 : UInt8) ∉ l) : noteT N l = l := by
  induction l with
  | nil => rfl
  | cons c l ih =>
    have hc : c ≠ 10 := fun e => h (by simp [e])
    have := ih fun e => h (by simp [e])
    unfold noteT at this ⊢
    rw [List.flatMap_cons, if_neg hc, this]
    rfl


theorem note_app (N a b : Bs) : noteT N (a ++ b) = noteT N a ++ noteT N b := List.flatMap_append


theorem note_lines (N : Bs) : ∀ (ls : List Bs), (∀ x ∈ ls, (10 : UInt8) ∉ x) → noteT N (ls.flatMap (fun l => l ++ [10])) = (noteL N ls).flatMap (fun l => l ++ [10]) := by
  intro ls
  induction ls with
  | nil => intro _; rfl
  | cons l ls ih =>
    intro h
    rw [List.flatMap_cons, note_app, note_app, note_line N l (h l (by simp)), ih fun x hx => h x (by simp [hx])]
    unfold noteL
    simp [noteT]


theorem note_count : ∀ (ls : List Bs), (∀ x ∈ ls, (10 : UInt8) ∉ x) → (ls.flatMap (fun l => l ++ [10])).count 10 = ls.length := by
  intro ls
  induction ls with
  | nil => intro _; rfl
  | cons l ls ih =>
    intro h
    rw [List.flatMap_cons, List.count_append, List.count_append, ih fun x hx => h x (by simp [hx]), List.count_eq_zero_of_not_mem (h l (by simp))]
    simp
    omega


theorem read_noted {N : Bs} : ∀ (ls : List Bs) (m n : Nat) (s s' : Rs) (rest : List Bs), readL m ls s = .ok s' → readL n (noteL N ls ++ rest) s = readL (n + 3 * ls.length) rest s' := by
  intro ls
  induction ls with
  | nil =>
    intro m n s s' rest h
    simp only [readL, Except.ok.injEq] at h
    subst h
    simp [noteL]
  | cons l ls ih =>
    intro m n s s' rest h
    rw [readL] at h
    cases hl : readLine s l with
    | error e => rw [hl] at h; cases h
    | ok s1 =>
      rw [hl] at h
      have h2 := ih (m + 1) (n + 3) s1 s' rest h
      have e : noteL N (l :: ls) ++ rest = l :: [] :: (35 :: N) :: (noteL N ls ++ rest) := by simp [noteL]
      rw [e, readL, hl]
      simp only [readL, readLine, skipB, if_true, beq_self_eq_true]
      rw [h2]
      congr 1
      simp
      omega


/-- The text that ScriptSkips lays. -/
def withT (N : Bs) (t : Bs) : Bs := 35 :: (N ++ 10 :: noteT N t)


theorem with_read {p : Pl} {ops : List Og} {sts : List Sp} {N : Bs} (hp : p.ok) (ho : ∀ x ∈ ops, x.ok) (hs : ∀ x ∈ sts, x.ok) (hE : stEs sts = 0) (hl : sts.length ≤ 4096) (hN : (10 : UInt8) ∉ N) (r : Bs) :
    readL 1 (splitB 10 (withT N (bodyT p ops sts) ++ r)) Rs.zero = readL (2 + 3 * (bodyT p ops sts).count 10) (splitB 10 r) ⟨true, p, ops, sts⟩ := by
  have hno := lines_no (p := p) (ops := ops) hE
  have h0 := read_all hp ho hs hE hl []
  rw [List.append_nil] at h0
  replace h0 : readL 1 (planN p :: (ops.map opN ++ sts.map stN)) Rs.zero = .ok ⟨true, p, ops, sts⟩ := h0
  rw [body_lines, note_count _ hno]
  generalize planN p :: (ops.map opN ++ sts.map stN) = ls at hno h0 ⊢
  have e : withT N (ls.flatMap (fun l => l ++ [10])) = ((35 :: N) :: noteL N ls).flatMap (fun l => l ++ [10]) := by
    unfold withT
    rw [note_lines N ls hno, List.flatMap_cons]
    simp
  have hno2 : ∀ x ∈ (35 :: N) :: noteL N ls, (10 : UInt8) ∉ x := by
    intro x hx
    rcases List.mem_cons.1 hx with rfl | hx
    · intro h; rcases List.mem_cons.1 h with h | h
      · cases h
      · exact hN h
    · obtain ⟨l, hl, hx⟩ := List.mem_flatMap.1 hx
      simp only [List.mem_cons, List.not_mem_nil, or_false] at hx
      rcases hx with rfl | rfl | rfl
      · exact hno _ hl
      · simp
      · intro h; rcases List.mem_cons.1 h with h | h
        · cases h
        · exact hN h
  rw [e, split_lines _ _ hno2, List.cons_append, readL]
  simp only [readLine, skipB, beq_self_eq_true, if_true]
  exact read_noted ls 1 (1 + 1) Rs.zero _ _ h0


def tockT : Bs := [116, 105, 99, 107, 32, 116, 111, 99, 107, 10, 116, 105, 99, 107]


theorem with_ok {p : Pl} {ops : List Og} {sts : List Sp} {N : Bs} (hp : p.ok) (ho : ∀ x ∈ ops, x.ok) (hs : ∀ x ∈ sts, x.ok) (hE : stEs sts = 0) (hl : sts.length ≤ 4096) (hN : (10 : UInt8) ∉ N) (hb : (withT N (bodyT p ops sts)).length ≤ 262144) :
    parseT (withT N (bodyT p ops sts)) = .ok ⟨true, p, ops, sts⟩ := by
  have h := with_read hp ho hs hE hl hN []
  rw [List.append_nil] at h
  unfold parseT
  rw [if_neg (by omega), h]
  simp [splitB, readL, readLine, skipB]


theorem with_tock {p : Pl} {ops : List Og} {sts : List Sp} {N : Bs} (hp : p.ok) (ho : ∀ x ∈ ops, x.ok) (hs : ∀ x ∈ sts, x.ok) (hE : stEs sts = 0) (hl : sts.length < 4096) (hN : (10 : UInt8) ∉ N) (hb : (withT N (bodyT p ops sts)).length ≤ 262000) :
    parseT (withT N (bodyT p ops sts) ++ tockT) = .error (2 + 3 * (bodyT p ops sts).count 10, 211) := by
  have h := with_read hp ho hs hE (by omega) hN tockT
  have e : splitB 10 tockT = [[116, 105, 99, 107, 32, 116, 111, 99, 107], [116, 105, 99, 107]] := by decide
  have e2 : splitB 32 [116, 105, 99, 107, 32, 116, 111, 99, 107] = [[116, 105, 99, 107], [116, 111, 99, 107]] := by decide
  have h4 : ¬ sts.length = 4096 := by omega
  have e3 : formW [116, 105, 99, 107] = some ⟨3, [116, 105, 99, 107], 0⟩ := by decide
  have e4 : stA ⟨3, [116, 105, 99, 107], 0⟩ [[116, 111, 99, 107]] = some (⟨3, 0, 0, 0, 0⟩, [[116, 111, 99, 107]]) := by decide
  have h2 : readLine ⟨true, p, ops, sts⟩ [116, 105, 99, 107, 32, 116, 111, 99, 107] = .error 211 := by
    unfold readLine
    rw [e2]
    simp [skipB, lineR, opW, h4, e3, e4]
  rw [e, readL, h2] at h
  unfold parseT
  rw [if_neg (by simp [tockT]; omega), h]


theorem with_plan {p : Pl} {ops : List Og} {sts : List Sp} {N : Bs} (hp : p.ok) (ho : ∀ x ∈ ops, x.ok) (hs : ∀ x ∈ sts, x.ok) (hE : stEs sts = 0) (hl : sts.length < 4096) (hN : (10 : UInt8) ∉ N) (hb : (withT N (bodyT p ops sts)).length ≤ 262000) :
    parseT (withT N (bodyT p ops sts) ++ planW) = .error (2 + 3 * (bodyT p ops sts).count 10, 210) := by
  have h := with_read hp ho hs hE (by omega) hN planW
  have e : splitB 10 planW = [planW] := by decide
  have e2 : splitB 32 planW = [planW] := by decide
  have h4 : ¬ sts.length = 4096 := by omega
  have e3 : formW planW = none := by decide
  have h2 : readLine ⟨true, p, ops, sts⟩ planW = .error 210 := by
    unfold readLine
    rw [e2]
    have hq : ¬ planW = opW := by decide
    have hsk : skipB planW = false := by decide
    simp [hsk, lineR, hq, h4, e3]
  rw [e, readL, h2] at h
  unfold parseT
  rw [if_neg (by simp [planW]; omega), h]


theorem flat_len_le {α : Type} (f : α → Bs) (m : Nat) : ∀ (l : List α), (∀ x ∈ l, (f x).length ≤ m) → (l.flatMap f).length ≤ l.length * m := by
  intro l
  induction l with
  | nil => intro _; simp
  | cons a l ih =>
    intro h
    have h1 := h a (by simp)
    have h2 := ih fun x hx => h x (by simp [hx])
    rw [List.flatMap_cons, List.length_append, List.length_cons, Nat.succ_mul]
    omega


theorem body_len {p : Pl} {ops : List Og} {sts : List Sp} (hp : p.ok) (ho : ∀ x ∈ ops, x.ok) (hs : ∀ x ∈ sts, x.ok) (h1 : ops.length ≤ 50) (h2 : sts.length ≤ 300) : (bodyT p ops sts).length ≤ 41200 := by
  have a := planT_len hp
  have b := flat_len_le opT 100 ops fun x hx => opT_len (ho x hx)
  have c := flat_len_le stT 120 sts fun x hx => stT_len (hs x hx)
  unfold bodyT
  simp only [List.length_append]
  omega


theorem note_len (N : Bs) (l : Bs) : (noteT N l).length = l.length + l.count 10 * (N.length + 3) := by
  induction l with
  | nil => simp [noteT]
  | cons c l ih =>
    have e : noteT N (c :: l) = (if c = 10 then 10 :: (10 :: 35 :: (N ++ [10])) else [c]) ++ noteT N l := rfl
    rw [e, List.length_append, ih, List.count_cons]
    by_cases hc : c = 10
    · subst hc
      simp [Nat.add_mul]
      omega
    · simp [hc]
      omega


theorem with_len {p : Pl} {ops : List Og} {sts : List Sp} {N : Bs} (hp : p.ok) (ho : ∀ x ∈ ops, x.ok) (hs : ∀ x ∈ sts, x.ok) (hE : stEs sts = 0) (h1 : ops.length ≤ 50) (h2 : sts.length ≤ 300) (hN : N.length ≤ 100) : (withT N (bodyT p ops sts)).length ≤ 100000 ∧ (bodyT p ops sts).count 10 ≤ 351 := by
  have hc : (bodyT p ops sts).count 10 = 1 + ops.length + sts.length := by
    rw [body_lines, note_count _ (lines_no hE)]
    simp
    omega
  have hb := body_len hp ho hs h1 h2
  have hm : (bodyT p ops sts).count 10 * (N.length + 3) ≤ 351 * 103 := Nat.mul_le_mul (by omega) (by omega)
  refine ⟨?_, by omega⟩
  unfold withT
  simp [note_len]
  omega
end Go.Proofs.YtkiplcmndpdifaaGreatDoor


