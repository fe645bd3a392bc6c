/- The script's disks beside the reference's. -/
import Derived.Test.YtninkhijnicbjaaEe
import Derived.Test.YtninkhijnicbjaaDi
namespace Go.Proofs.Ytninkhijnicbjaa
open Go.RowKit

/-- One call of a script. -/
structure Cc where
  K : Int
  On : Int
  I : Int
  b : List Nat
/-- The value v is a slice of calls cs. -/
def Zv (w : World) (v : Value) (cs : List Cc) : Prop :=
  (∃ ao cap, v = .slice ao cs.length cap ∧ cs.length ≤ cap ∧ cap ≤ maxLen ∧ (ao = none → cap = 0) ∧
    ∀ i (h : i < cs.length), ∃ b off u, ao = some ⟨b, off, none⟩ ∧ w.cell? ⟨b, off + i * 4, none⟩ = some (.int .i64 cs[i].K) ∧ w.cell? ⟨b, off + i * 4 + 1, none⟩ = some (.int .i64 cs[i].On) ∧ w.cell? ⟨b, off + i * 4 + 2, none⟩ = some (.int .i64 cs[i].I) ∧ w.cell? ⟨b, off + i * 4 + 3, none⟩ = some u ∧ Bv w u cs[i].b) ∧
  ∀ c ∈ cs, -9223372036854775808 ≤ c.I ∧ c.I < 9223372036854775808
theorem Zv.form {w : World} {v : Value} {cs : List Cc} (h : Zv w v cs) : ∃ ao cap, v = .slice ao cs.length cap ∧ cs.length ≤ cap ∧ cap ≤ maxLen := by
  obtain ⟨⟨ao, cap, e, h1, h2, _⟩, _⟩ := h
  exact ⟨ao, cap, e, h1, h2⟩

def upd {α : Type} (f : Nat → α) (p : Nat) (x : α) : Nat → α := fun q => if q = p then x else f q
theorem upd_same {α : Type} (f : Nat → α) (p : Nat) (x : α) : upd f p x p = x := if_pos rfl
theorem upd_other {α : Type} (f : Nat → α) {p q : Nat} (x : α) (h : q ≠ p) : upd f p x q = f q := if_neg h

/-- The three disks of a script beside the reference's three, behind i calls; have lies in the block hb, want in wb. -/
structure Sx (w : World) (hb wb : Nat) (A X : Nat → Value) (Ds Es : Nat → Nat → Prop) (os : Nat → Option Dk) (i : Nat) (wr : World) : Prop where
  pair : ∀ k, k < 3 → Pg (Ds k) (Es k) wr (A k) (X k) (os k)
  apart : ∀ j k x, j < 3 → k < 3 → j ≠ k → Ds j x ∨ Es j x → ¬ (Ds k x ∨ Es k x)
  off : ∀ k x, k < 3 → Ds k x ∨ Es k x → x ≠ hb ∧ x ≠ wb ∧ w.heap.size ≤ x
  hv : ∀ k, k < 3 → wr.cell? ⟨hb, k, none⟩ = some (A k)
  wt : ∀ k, k < 3 → wr.cell? ⟨wb, k, none⟩ = some (X k)
  low : ∀ k, k < 3 → orN (os k) ≤ i ∧ owN (os k) ≤ i
  below : Below w.heap.size w wr
section
variable {w : World} {hb wb : Nat} {A X : Nat → Value} {Ds Es : Nat → Nat → Prop} {os : Nat → Option Dk} {i : Nat} {wr w' : World}
theorem Sx.go (h : Sx w hb wb A X Ds Es os i wr) (hB : Below wr.heap.size wr w') : Sx w hb wb A X Ds Es os i w' :=
  ⟨fun k hk => (h.pair k hk).below hB, h.apart, h.off, fun k hk => by rw [hB.cell (p := ⟨hb, k, none⟩) (cell_lt (h.hv k hk))]; exact h.hv k hk, fun k hk => by rw [hB.cell (p := ⟨wb, k, none⟩) (cell_lt (h.wt k hk))]; exact h.wt k hk, h.low, below_trans h.below hB⟩
theorem low_step (o : Option Dk) (K I : Int) (b : List Nat) : orN (stepO o K I b) ≤ orN o + 1 ∧ owN (stepO o K I b) ≤ owN o + 1 := by
  have hw : ∀ S : Dk, (writeS S I b).rd ≤ S.rd + 1 ∧ (writeS S I b).wr ≤ S.wr + 1 := fun S => by
    unfold writeS
    split
    · exact ⟨by omega, by omega⟩
    · split
      · exact ⟨by omega, by omega⟩
      · split
        · exact ⟨by show S.rd ≤ _; omega, by show S.wr ≤ _; omega⟩
        · exact ⟨by show S.rd ≤ _; omega, Nat.le_refl _⟩
  have hr : ∀ S : Dk, (readS S I).rd ≤ S.rd + 1 ∧ (readS S I).wr ≤ S.wr + 1 := fun S => by
    unfold readS
    split
    · exact ⟨Nat.le_refl _, by show S.wr ≤ _; omega⟩
    · exact ⟨by omega, by omega⟩
  cases o with
  | none =>
    have : stepO none K I b = none := by unfold stepO owS orS ocS; split; rfl; split; rfl; split; rfl; split; rfl; split <;> rfl
    rw [this]; exact ⟨by omega, by omega⟩
  | some S =>
    unfold stepO
    split
    · exact hw S
    · split
      · exact hr S
      · split
        · exact ⟨by show S.rd ≤ S.rd + 1; omega, by show S.wr ≤ S.wr + 1; omega⟩
        · split
          · exact ⟨by show S.rd ≤ S.rd + 1; omega, by show S.wr ≤ S.wr + 1; omega⟩
          · split
            · exact ⟨by show S.rd ≤ S.rd + 1; omega, by show S.wr ≤ S.wr + 1; omega⟩
            · exact ⟨by show S.rd ≤ S.rd + 1; omega, by show S.wr ≤ S.wr + 1; omega⟩
theorem sx_step {k : Nat} {e : Ending} {K I : Int} {b : List Nat} (h : Sx w hb wb A X Ds Es os i wr) (hk : k < 3) (hr : Rg (Ds k) (Es k) wr (A k) (X k) (stepO (os k) K I b) e w') : e = .returned (.bool true) ∧ ∃ Ds' Es' os', Sx w hb wb A X Ds' Es' os' (i + 1) w' := by
  obtain ⟨he, D', E', hG, hC, hD⟩ := hr
  have lt : ∀ j x, j < 3 → Ds j x ∨ Es j x → x < wr.heap.size := fun j x hj hx => (h.pair j hj).l x hx
  have cell : ∀ b i u, b < wr.heap.size → ¬ (Ds k b ∨ Es k b) → wr.cell? ⟨b, i, none⟩ = some u → w'.cell? ⟨b, i, none⟩ = some u := fun b i u hl hn hc => by
    rw [World.cell?_of_block (w := wr) (a := ⟨b, i, none⟩) (hC.block b hl hn)]; exact hc
  refine ⟨he, upd Ds k D', upd Es k E', upd os k (stepO (os k) K I b), ⟨fun j hj => ?_, fun i j x hi hj hij hx => ?_, fun j x hj hx => ?_, fun j hj => cell _ _ _ (cell_lt (h.hv j hj)) (fun hd => (h.off k _ hk hd).1 rfl) (h.hv j hj), fun j hj => cell _ _ _ (cell_lt (h.wt j hj)) (fun hd => (h.off k _ hk hd).2.1 rfl) (h.wt j hj), fun j hj => ?_, ?_⟩⟩
  · by_cases e1 : j = k
    · subst e1; rw [upd_same, upd_same, upd_same]; exact hG
    · rw [upd_other _ _ e1, upd_other _ _ e1, upd_other _ _ e1]; exact (h.pair j hj).ch hC (fun x hx => h.apart j k x hj hk e1 hx)
  · by_cases e1 : i = k
    · subst e1
      rw [upd_same, upd_same] at hx
      rw [upd_other _ _ (fun e => hij e.symm), upd_other _ _ (fun e => hij e.symm)]
      intro hy
      rcases hD x hx with q | q
      · exact h.apart i j x hi hj hij q hy
      · have := lt j x hj hy; omega
    · rw [upd_other _ _ e1, upd_other _ _ e1] at hx
      by_cases e2 : j = k
      · subst e2
        rw [upd_same, upd_same]
        intro hy
        rcases hD x hy with q | q
        · exact h.apart i j x hi hj hij hx q
        · have := lt i x hi hx; omega
      · rw [upd_other _ _ e2, upd_other _ _ e2]; exact h.apart i j x hi hj hij hx
  · by_cases e1 : j = k
    · subst e1
      rw [upd_same, upd_same] at hx
      rcases hD x hx with q | q
      · exact h.off j x hj q
      · have a := cell_lt (h.hv j hj)
        have b := cell_lt (h.wt j hj)
        have c := h.below.size
        simp only at a b
        exact ⟨by omega, by omega, by omega⟩
    · rw [upd_other _ _ e1, upd_other _ _ e1] at hx; exact h.off j x hj hx
  · by_cases e1 : j = k
    · subst e1
      rw [upd_same]
      have h1 := low_step (os j) K I b
      have h2 := h.low j hj
      omega
    · rw [upd_other _ _ e1]
      have h2 := h.low j hj
      omega
  · exact h.below.trans (hC.to_below h.below.size (fun x hx => (h.off k x hk hx).2.2))
end

/-- What both sides' New leave, a code and a disk. -/
def newI (n : Int) : Int := if n < 1 ∨ 64 < n then 1 else 0
def newO (n : Int) : Option Dk := if n < 1 ∨ 64 < n then none else some (loadS (List.replicate n.toNat []))
def ldI (ls : List (List Nat)) : Int := if ls.length < 1 ∨ 64 < ls.length then 1 else if longB ls = true then 6 else 0
def ldO (ls : List (List Nat)) : Option Dk := if ls.length < 1 ∨ 64 < ls.length then none else if longB ls = true then none else some (loadS ls)
/-- New and Load answered. -/
def Ns (T : TypeId) (w : World) (q : Int) (o : Option Dk) (e : Ending) (w' : World) : Prop :=
  ∃ (v : Value) (D : Nat → Prop), e = .returned (.tuple #[v, .int .i64 q]) ∧ DO T D w' v o ∧ Below w.heap.size w w' ∧ (∀ x, D x → w.heap.size ≤ x) ∧ ∀ x, D x → x < w'.heap.size
theorem ns_none {T : TypeId} {w : World} (q : Int) : Ns T w q none (.returned (.tuple #[.pointer none, .int .i64 q])) w := ⟨_, fun _ => False, rfl, rfl, below_same _, fun _ h => h.elim, fun _ h => h.elim⟩
theorem ns_some {T : TypeId} {w w' : World} {ls : List (List Nat)} {e : Ending} (h : Nw T w ls e w') : Ns T w 0 (some (loadS ls)) e w' := by
  obtain ⟨v, D, rfl, h1, h2, h3⟩ := h
  exact ⟨v, D, rfl, h1, h2, h3, fun x hx => h1.lt hx⟩
theorem znew {n : Int} {w : World} : Calls Try.prog 9 #[.int .i64 n] w fun e w' => Ns 59 w (newI n) (newO n) e w' := by
  unfold newI newO
  by_cases hp : n < 1 ∨ 64 < n
  · rw [if_pos hp, if_pos hp]
    refine (new_bad hp).mono ?_
    rintro e w1 ⟨rfl, rfl⟩
    exact ns_none 1
  · rw [if_neg hp, if_neg hp]
    obtain ⟨m, rfl⟩ : ∃ m : Nat, n = m := ⟨n.toNat, by omega⟩
    exact (new_walk (n := m) (by omega) (by omega)).mono fun e w' h => ns_some h
theorem ynew {n : Int} {w : World} : Calls Try.prog 10 #[.int .i64 n] w fun e w' => Ns 61 w (newI n) (newO n) e w' := by
  unfold newI newO
  by_cases hp : n < 1 ∨ 64 < n
  · rw [if_pos hp, if_pos hp]
    refine (rnew_bad hp).mono ?_
    rintro e w1 ⟨rfl, rfl⟩
    exact ns_none 1
  · rw [if_neg hp, if_neg hp]
    obtain ⟨m, rfl⟩ : ∃ m : Nat, n = m := ⟨n.toNat, by omega⟩
    exact (rnew_walk (n := m) (by omega) (by omega)).mono fun e w' h => ns_some h
theorem zload {v : Value} {ls : List (List Nat)} {w : World} (hv : Pv w v ls) : Calls Try.prog 11 #[v] w fun e w' => Ns 59 w (ldI ls) (ldO ls) e w' := by
  unfold ldI ldO
  by_cases hp : ls.length < 1 ∨ 64 < ls.length
  · rw [if_pos hp, if_pos hp]
    refine (load_bad hv hp).mono ?_
    rintro e w1 ⟨rfl, rfl⟩
    exact ns_none 1
  · rw [if_neg hp, if_neg hp]
    refine (load_walk hv (by omega) (by omega)).mono ?_
    intro e w' h
    unfold Ld at h
    by_cases hl : longB ls = true
    · rw [if_pos hl] at h
      rw [if_pos hl, if_pos hl]
      obtain ⟨rfl, rfl⟩ := h
      exact ns_none 6
    · rw [if_neg hl] at h
      rw [if_neg hl, if_neg hl]
      exact ns_some h
theorem yload {v : Value} {ls : List (List Nat)} {w : World} (hv : Pv w v ls) : Calls Try.prog 12 #[v] w fun e w' => Ns 61 w (ldI ls) (ldO ls) e w' := by
  unfold ldI ldO
  by_cases hp : ls.length < 1 ∨ 64 < ls.length
  · rw [if_pos hp, if_pos hp]
    refine (rload_bad hv hp).mono ?_
    rintro e w1 ⟨rfl, rfl⟩
    exact ns_none 1
  · rw [if_neg hp, if_neg hp]
    refine (rload_walk hv (by omega) (by omega)).mono ?_
    intro e w' h
    unfold Ld at h
    by_cases hl : longB ls = true
    · rw [if_pos hl] at h
      rw [if_pos hl, if_pos hl]
      obtain ⟨rfl, rfl⟩ := h
      exact ns_none 6
    · rw [if_neg hl] at h
      rw [if_neg hl, if_neg hl]
      exact ns_some h
theorem DO.ptr {T : TypeId} {D : Nat → Prop} {w : World} {v : Value} {o : Option Dk} (h : DO T D w v o) : ∃ p, v = .pointer p ∧ p.isNone = o.isNone := by
  cases o with
  | none => exact ⟨none, h, rfl⟩
  | some S =>
    obtain ⟨sb, _, _, e, _⟩ := h
    exact ⟨_, e, rfl⟩

def arr3 (a b c : Value) : Nat → Value | 0 => a | 1 => b | _ => c
def dom3 (a b : Nat → Prop) : Nat → Nat → Prop | 0 => a | 1 => b | _ => fun _ => False
def opt3 (a b : Option Dk) : Nat → Option Dk | 0 => a | 1 => b | _ => none
theorem new_low (n : Int) : orN (newO n) = 0 ∧ owN (newO n) = 0 := by unfold newO; split <;> exact ⟨rfl, rfl⟩
theorem ld_low (ls : List (List Nat)) : orN (ldO ls) = 0 ∧ owN (ldO ls) = 0 := by unfold ldO; split; exact ⟨rfl, rfl⟩; split <;> exact ⟨rfl, rfl⟩

theorem sx_start {w w5 : World} {a b x y : Value} {D1 D2 D3 D4 : Nat → Prop} {o p : Option Dk} {t1 t2 : TypeId} (hB : Below w.heap.size w w5) (p1 : Pg D1 D2 w5 a x o) (p2 : Pg D3 D4 w5 b y p)
    (d : ∀ x, D1 x ∨ D2 x → ¬ (D3 x ∨ D4 x)) (lo : ∀ x, (D1 x ∨ D2 x) ∨ D3 x ∨ D4 x → w.heap.size ≤ x) (ho : orN o = 0 ∧ owN o = 0) (hp : orN p = 0 ∧ owN p = 0) :
    Sx w w5.heap.size (w5.heap.size + 1) (arr3 a b (.pointer none)) (arr3 x y (.pointer none)) (dom3 D1 D3) (dom3 D2 D4) (opt3 o p) 0 ((w5.alloc (Obj.cells #[a, b, .pointer none] t1)).alloc (Obj.cells #[x, y, .pointer none] t2)) := by
  have hb : Below w5.heap.size w5 ((w5.alloc (Obj.cells #[a, b, .pointer none] t1)).alloc (Obj.cells #[x, y, .pointer none] t2)) := below_trans (below_alloc _ _) (below_alloc _ _)
  have three : ∀ k, k < 3 → k = 0 ∨ k = 1 ∨ k = 2 := fun k hk => by omega
  refine ⟨fun k hk => ?_, fun i j z hi hj hij hz => ?_, fun k z hk hz => ?_, fun k hk => ?_, fun k hk => ?_, fun k hk => ?_, below_trans hB hb⟩
  · rcases three k hk with rfl | rfl | rfl
    · exact p1.below hb
    · exact p2.below hb
    · exact ⟨rfl, rfl, fun _ h => h.elim, fun _ h => (h.elim id id).elim⟩
  · rcases three i hi with rfl | rfl | rfl
    · rcases three j hj with rfl | rfl | rfl
      · exact absurd rfl hij
      · exact d z hz
      · exact fun h => (h.elim id id)
    · rcases three j hj with rfl | rfl | rfl
      · exact fun h => d z h hz
      · exact absurd rfl hij
      · exact fun h => (h.elim id id)
    · exact (hz.elim id id).elim
  · rcases three k hk with rfl | rfl | rfl
    · have := p1.l z hz
      exact ⟨by omega, by omega, lo z (.inl hz)⟩
    · have := p2.l z hz
      exact ⟨by omega, by omega, lo z (.inr hz)⟩
    · exact (hz.elim id id).elim
  · rcases three k hk with rfl | rfl | rfl <;> simp [go_sem, arr3]
  · have e : (w5.alloc (Obj.cells #[a, b, .pointer none] t1)).heap.size = w5.heap.size + 1 := by simp
    rw [← e]
    rcases three k hk with rfl | rfl | rfl <;> simp [go_sem, arr3]
  · rcases three k hk with rfl | rfl | rfl
    · exact ⟨Nat.le_of_eq ho.1, Nat.le_of_eq ho.2⟩
    · exact ⟨Nat.le_of_eq hp.1, Nat.le_of_eq hp.2⟩
    · exact ⟨Nat.le_refl _, Nat.le_refl _⟩
theorem third (x : Int) : ∃ k : Nat, k < 3 ∧ wrap64 ((IntKind.u64.wrap x).tmod 3) = (k : Int) := by
  rw [IntKind.wrap_u64]
  obtain ⟨m, hm⟩ : ∃ m : Nat, x % 18446744073709551616 = m := ⟨(x % 18446744073709551616).toNat, by omega⟩
  rw [hm]
  have e : ((m : Int).tmod 3) = ((m % 3 : Nat) : Int) := by rw [Int.tmod_eq_emod_of_nonneg (by omega)]; omega
  rw [e]
  refine ⟨m % 3, Nat.mod_lt _ (by omega), ?_⟩
  unfold wrap64
  omega
end Go.Proofs.Ytninkhijnicbjaa
