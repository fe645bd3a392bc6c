/- The way back: a printed text is read again, whole. -/
import Derived.Test.YtkiplcmndpdifaaGreatDoorTi

namespace Go.Proofs.YtkiplcmndpdifaaGreatDoor

open Go.RowKit



def planN (p : Pl) : Bs := ln planW (planA p)
def opN (o : Og) : Bs := ln opW [Lib.itoa o.K, Lib.itoa o.N, hexRow o.X 16]
def stN (s : Sp) : Bs := ln (formD s.K).w (stArgs (formD s.K).g s)


theorem wd_planA (p : Pl) : ∀ x ∈ planA p, Wd x := by
  intro x hx
  simp only [planA, List.mem_cons, List.not_mem_nil, or_false] at hx
  rcases hx with rfl | rfl | rfl | rfl | rfl | rfl | rfl <;> exact wd_itoa _


theorem wd_opA (o : Og) : ∀ x ∈ [Lib.itoa o.K, Lib.itoa o.N, hexRow o.X 16], Wd x := by
  intro x hx
  simp only [List.mem_cons, List.not_mem_nil, or_false] at hx
  rcases hx with rfl | rfl | rfl
  · exact wd_itoa _
  · exact wd_itoa _
  · exact wd_hex _ _


theorem mem_only {b : Bool} {w x : Bs} (h : x ∈ onlyL b w) : x = w := by
  cases b with
  | true => simpa [onlyL] using h
  | false => simp [onlyL] at h


theorem wd_stA (g : Int) (s : Sp) : ∀ x ∈ stArgs g s, Wd x := by
  intro x hx
  simp only [stArgs, List.mem_append] at hx
  rcases hx with ((hx | hx) | hx) | hx
  · rw [mem_only hx]; exact wd_itoa _
  · rw [mem_only hx]; exact wd_itoa _
  · rw [mem_only hx]; exact wd_dec _
  · rw [mem_only hx]; exact wd_hex _ _


theorem wd_planW : Wd planW := by constructor <;> decide
theorem wd_opW : Wd opW := by constructor <;> decide


theorem read_plan {s : Rs} {p : Pl} (hs : s.pd = false) (hp : p.ok) : readLine s (planN p) = .ok { s with pd := true, p := p } := by
  unfold readLine planN
  rw [skip_ln (by rfl), ln_split wd_planW (wd_planA p)]
  have h7 : nms 7 (planA p) = some ([p.P, p.S, p.W, p.A, p.B, p.N, p.G], []) := (nms_iff 7).2 ⟨rfl, by
    intro x hx
    simp only [List.mem_cons, List.not_mem_nil, or_false] at hx
    obtain ⟨h1, h2, h3, h4, h5, h6, h7⟩ := hp
    rcases hx with rfl | rfl | rfl | rfl | rfl | rfl | rfl <;> assumption, rfl⟩
  simp [lineR, hs, h7, plOf]


theorem read_op {s : Rs} {o : Og} (hs : s.pd = true) (hn : s.sts = []) (ho : o.ok) : readLine s (opN o) = .ok { s with ops := s.ops ++ [o] } := by
  unfold readLine opN
  rw [skip_ln (by rfl), ln_split wd_opW (wd_opA o)]
  simp [lineR, hs, hn, opA_mk ho]


theorem read_st {s : Rs} {t : Sp} (hs : s.pd = true) (hl : s.sts.length < 4096) (ht : t.ok) (hE : stE t = 0) : readLine s (stN t) = .ok { s with sts := s.sts ++ [t] } := by
  obtain ⟨f, hf, hk, hK, hb⟩ := form_of hE
  obtain ⟨hw, hop, hF, hsk⟩ := wd_form f hf
  have hD : formD t.K = f := by unfold formD; rw [hk]; rfl
  unfold readLine stN
  rw [hD, skip_ln hsk, ln_split hw (wd_stA f.g t)]
  have h4 : ¬ s.sts.length = 4096 := by omega
  simp [lineR, hs, hop, h4, hF, stA_mk ht hK.symm hb]


theorem read_ops : ∀ (ops : List Og) (n : Nat) (s : Rs) (rest : List Bs), s.pd = true → s.sts = [] → (∀ x ∈ ops, x.ok) → readL n (ops.map opN ++ rest) s = readL (n + ops.length) rest { s with ops := s.ops ++ ops } := by
  intro ops
  induction ops with
  | nil => intro n s rest _ _ _; simp
  | cons o l ih =>
    intro n s rest h1 h2 h3
    rw [List.map_cons, List.cons_append, readL, read_op h1 h2 (h3 o (by simp))]
    dsimp only
    rw [ih (n + 1) { s with ops := s.ops ++ [o] } rest h1 h2 (fun x hx => h3 x (by simp [hx]))]
    simp [Nat.add_assoc, Nat.add_comm 1]


theorem read_sts : ∀ (sts : List Sp) (n : Nat) (s : Rs) (rest : List Bs), s.pd = true → s.sts.length + sts.length ≤ 4096 → (∀ x ∈ sts, x.ok) → (∀ x ∈ sts, stE x = 0) → readL n (sts.map stN ++ rest) s = readL (n + sts.length) rest { s with sts := s.sts ++ sts } := by
  intro sts
  induction sts with
  | nil => intro n s rest _ _ _ _; simp
  | cons o l ih =>
    intro n s rest h1 h2 h3 h4
    simp at h2
    rw [List.map_cons, List.cons_append, readL, read_st h1 (by omega) (h3 o (by simp)) (h4 o (by simp))]
    dsimp only
    rw [ih (n + 1) { s with sts := s.sts ++ [o] } rest h1 (by simp; omega) (fun x hx => h3 x (by simp [hx])) (fun x hx => h4 x (by simp [hx]))]
    simp [Nat.add_assoc, Nat.add_comm 1]


theorem split_lines : ∀ (ls : List Bs) (r : Bs), (∀ x ∈ ls, (10 : UInt8) ∉ x) → splitB 10 (ls.flatMap (fun l => l ++ [10]) ++ r) = ls ++ splitB 10 r := by
  intro ls
  induction ls with
  | nil => intro r _; simp
  | cons l ls ih =>
    intro r h
    have e : (l :: ls).flatMap (fun l => l ++ [10]) ++ r = l ++ 10 :: (ls.flatMap (fun l => l ++ [10]) ++ r) := by simp
    rw [e, split_at (h l (by simp)), ih r (fun x hx => h x (by simp [hx]))]
    rfl


theorem body_lines (p : Pl) (ops : List Og) (sts : List Sp) : bodyT p ops sts = (planN p :: (ops.map opN ++ sts.map stN)).flatMap (fun l => l ++ [10]) := by
  simp only [List.flatMap_cons, List.flatMap_append, List.flatMap_map]
  unfold bodyT
  rw [List.append_assoc]
  rfl


/-- What is printed is read again. -/
theorem parse_back {p : Pl} {ops : List Og} {sts : List Sp} (hp : p.ok) (ho : ∀ x ∈ ops, x.ok) (hs : ∀ x ∈ sts, x.ok) (hE : stEs sts = 0) (hl : sts.length ≤ 4096) (hb : (bodyT p ops sts).length ≤ 262144) :
    parseT (bodyT p ops sts) = .ok ⟨true, p, ops, sts⟩ := by
  have hE' : ∀ x ∈ sts, stE x = 0 := fun x hx => stEs_mem hE hx
  have hno : ∀ x ∈ planN p :: (ops.map opN ++ sts.map stN), (10 : UInt8) ∉ x := by
    intro x hx
    rcases List.mem_cons.1 hx with rfl | hx
    · exact ln_no wd_planW (wd_planA p)
    · rcases List.mem_append.1 hx with hx | hx
      · obtain ⟨o, _, rfl⟩ := List.mem_map.1 hx
        exact ln_no wd_opW (wd_opA o)
      · obtain ⟨t, ht, rfl⟩ := List.mem_map.1 hx
        obtain ⟨f, hf, hk, _, _⟩ := form_of (hE' t ht)
        have hD : formD t.K = f := by unfold formD; rw [hk]; rfl
        unfold stN
        rw [hD]
        exact ln_no (wd_form f hf).1 (wd_stA f.g t)
  have hsp : splitB 10 (bodyT p ops sts) = (planN p :: (ops.map opN ++ sts.map stN)) ++ [[]] := by
    have h := split_lines (planN p :: (ops.map opN ++ sts.map stN)) [] hno
    rw [List.append_nil, ← body_lines] at h
    exact h
  have hr : readL 1 (splitB 10 (bodyT p ops sts)) Rs.zero = .ok ⟨true, p, ops, sts⟩ := by
    rw [hsp, List.cons_append, readL, read_plan rfl hp]
    dsimp only
    rw [List.append_assoc, read_ops _ _ _ _ rfl rfl ho, read_sts _ _ _ _ rfl (by simp [Rs.zero]; exact hl) hs hE']
    simp [readL, readLine, skipB, Rs.zero]
  unfold parseT
  rw [if_neg (by omega), hr]
  simp
end Go.Proofs.YtkiplcmndpdifaaGreatDoor


