/- A map that is a set of keys: what it holds, as a rising list. -/
import Derived.Test.YtjkhegekojflhabUz
import Derived.Maps.OwnSet
import Derived.Maps.RangeWalk
namespace Go.Proofs.Ytjkhegekojflhab
open Ieee Go.RowKit
open Go.ChangeMaps (putKey notKey)

def RiseK (l : List Nat) : Prop := l.Pairwise (· < ·)
/-- A rising list with one more. -/
def insK (k : Nat) : List Nat → List Nat
  | [] => [k]
  | a :: l => if k < a then k :: a :: l else if k = a then a :: l else a :: insK k l

theorem mem_insK {k x : Nat} {l : List Nat} : x ∈ insK k l ↔ x = k ∨ x ∈ l := by
  induction l with
  | nil => simp [insK]
  | cons a l ih =>
    unfold insK
    split
    · simp
    · split
      · rename_i h; subst h; simp
      · simp only [List.mem_cons, ih]
        constructor
        · rintro (h | h | h)
          · exact .inr (.inl h)
          · exact .inl h
          · exact .inr (.inr h)
        · rintro (h | h | h)
          · exact .inr (.inl h)
          · exact .inl h
          · exact .inr (.inr h)
theorem rise_insK {k : Nat} {l : List Nat} (h : RiseK l) : RiseK (insK k l) := by
  induction l with
  | nil => simp [insK, RiseK]
  | cons a l ih =>
    obtain ⟨h1, h2⟩ := List.pairwise_cons.1 h
    unfold insK
    split
    · rename_i hk
      exact List.pairwise_cons.2 ⟨fun x hx => by rcases List.mem_cons.1 hx with rfl | hx; exact hk; exact Nat.lt_trans hk (h1 x hx), h⟩
    · split
      · exact h
      · refine List.pairwise_cons.2 ⟨fun x hx => ?_, ih h2⟩
        rcases mem_insK.1 hx with rfl | hx
        · omega
        · exact h1 x hx
theorem insK_old {k : Nat} {l : List Nat} (h : RiseK l) (hk : k ∈ l) : insK k l = l := by
  induction l with
  | nil => simp at hk
  | cons a l ih =>
    obtain ⟨h1, h2⟩ := List.pairwise_cons.1 h
    unfold insK
    rcases List.mem_cons.1 hk with rfl | hk
    · rw [if_neg (by omega), if_pos rfl]
    · have := h1 k hk
      rw [if_neg (by omega), if_neg (by omega), ih h2 hk]
theorem insK_len {k : Nat} {l : List Nat} (hk : k ∉ l) : (insK k l).length = l.length + 1 := by
  induction l with
  | nil => rfl
  | cons a l ih =>
    unfold insK
    split
    · simp
    · split
      · rename_i h; subst h; simp at hk
      · simp [ih (fun h => hk (List.mem_cons_of_mem _ h))]
/-- Rising lists with the same members are one. -/
theorem rise_ext {l m : List Nat} (hl : RiseK l) (hm : RiseK m) (h : ∀ x, x ∈ l ↔ x ∈ m) : l = m := by
  induction l generalizing m with
  | nil => cases m with
    | nil => rfl
    | cons b m => have := (h b).2 (by simp); simp at this
  | cons a l ih =>
    obtain ⟨a1, a2⟩ := List.pairwise_cons.1 hl
    cases m with
    | nil => have := (h a).1 (by simp); simp at this
    | cons b m =>
      obtain ⟨b1, b2⟩ := List.pairwise_cons.1 hm
      have hab : a = b := by
        have ha := (h a).1 (by simp)
        have hb := (h b).2 (by simp)
        rcases List.mem_cons.1 ha with e | ha
        · exact e
        · rcases List.mem_cons.1 hb with e | hb
          · exact e.symm
          · have := b1 a ha; have := a1 b hb; omega
      subst hab
      congr 1
      refine ih a2 b2 fun x => ?_
      constructor
      · intro hx
        rcases List.mem_cons.1 ((h x).1 (List.mem_cons_of_mem _ hx)) with e | hx'
        · have := a1 x hx; omega
        · exact hx'
      · intro hx
        rcases List.mem_cons.1 ((h x).2 (List.mem_cons_of_mem _ hx)) with e | hx'
        · have := b1 x hx; omega
        · exact hx'

def kK (k : Nat) : Lit := .int .u64 k
def dK (l : List Nat) : DataW Unit := .map (l.map fun k => (kK k, .agg []))
theorem kK_same (a b : Nat) : (kK a).sameKey (kK b) = decide (a = b) := by
  unfold kK Lit.sameKey
  by_cases h : a = b
  · subst h; simp
  · have : ¬ ((a : Int) = b) := by omega
    simp [h, this]
theorem kK_before (a b : Nat) : (kK a).before (kK b) = decide (a < b) := by
  unfold kK Lit.before
  by_cases h : a < b
  · have : (a : Int) < b := by omega
    simp [h, this]
  · have : ¬ ((a : Int) < b) := by omega
    simp [h, this]
theorem filter_aboveK {t : List Nat} {k : Nat} (h : ∀ p ∈ t, k < p) : (t.map fun p => (kK p, (DataW.agg [] : DataW Unit))).filter (notKey (kK k)) = t.map fun p => (kK p, .agg []) := by
  refine List.filter_eq_self.2 fun x hx => ?_
  obtain ⟨p, hp, rfl⟩ := List.mem_map.1 hx
  unfold notKey
  rw [kK_same]
  have := h p hp
  simp; omega
theorem insert_aboveK {t : List Nat} {k : Nat} (h : ∀ p ∈ t, k < p) : DataW.insert (kK k, (DataW.agg [] : DataW Unit)) (t.map fun p => (kK p, .agg [])) = (kK k, .agg []) :: t.map fun p => (kK p, .agg []) := by
  cases t with
  | nil => rfl
  | cons a t =>
    have := h a (by simp)
    simp only [List.map_cons, DataW.insert, kK_before]
    rw [if_pos (by simpa using this)]
theorem put_K {t : List Nat} (h : RiseK t) (k : Nat) : (dK t).put (kK k) (.agg []) = dK (insK k t) := by
  unfold dK
  rw [DataW.put_eq]
  congr 1
  unfold putKey
  induction t with
  | nil => rfl
  | cons a t ih =>
    obtain ⟨h1, h2⟩ := List.pairwise_cons.1 h
    unfold insK
    split
    · rename_i hlt
      have hall : ∀ p ∈ a :: t, k < p := fun p hp => by
        rcases List.mem_cons.1 hp with rfl | hp
        · exact hlt
        · exact Nat.lt_trans hlt (h1 p hp)
      rw [filter_aboveK hall, insert_aboveK hall]; rfl
    · split
      · rename_i hlt he
        subst he
        rw [List.map_cons, List.filter_cons_of_neg (by unfold notKey; rw [kK_same]; simp), filter_aboveK h1, insert_aboveK h1]
      · rename_i hlt he
        rw [List.map_cons, List.filter_cons_of_pos (by unfold notKey; rw [kK_same]; simp; omega), DataW.insert, if_neg (by rw [kK_before]; simp; omega), ih h2]; rfl
theorem size_K (t : List Nat) : Maps.size (dK t) = t.length := by simp [Maps.size, dK]
theorem has_K (t : List Nat) (k : Nat) : Maps.has (dK t) (kK k) = decide (k ∈ t) := by
  unfold dK
  rw [Maps.has_eq]
  induction t with
  | nil => simp
  | cons a t ih =>
    rw [List.map_cons, List.any_cons, ih, kK_same]
    by_cases h : a = k
    · subst h; simp
    · have : ¬ k = a := fun e => h e.symm
      simp [h, this]

theorem law_k : Maps.Keyed Try.prog 37 := Maps.int_keyed Try.underlying37
theorem key_k {k : Nat} (hk : k < 18446744073709551616) : keyOf Try.prog 37 (.int .u64 k) = some (kK k) := by
  refine Maps.keyOf_int_mk Try.underlying37 ?_
  simp [Lit.wf, IntKind.min, IntKind.max, IntKind.signed, IntKind.bits]
  omega

/-- Block b is a map whose keys are l. -/
def Ks (w : World) (b : Nat) (l : List Nat) : Prop := w.ownsMap Try.prog 37 unitElem b l.length (dK l)
theorem ks_tight {w : World} {b n : Nat} {l : List Nat} (h : w.ownsMap Try.prog 37 unitElem b n (dK l)) : Ks w b l := by
  obtain ⟨es, clock, hb, F, hs, hD⟩ := h
  refine ⟨es, clock, hb, F, ?_, hD⟩
  have h1 := length_read (P := Try.prog) (k := 37) (R0 := unitElem (H := Unit)) es
  have h2 : (l.map fun k => (kK k, (DataW.agg [] : DataW Unit))).length = es.size := by
    unfold dK at hD
    injection hD with e
    rw [e, h1]
  simp at h2
  omega
theorem Ks.lt {w : World} {b : Nat} {l : List Nat} (h : Ks w b l) : b < w.heap.size := World.ownsMap.lt h
theorem Ks.kept {w w' : World} {b : Nat} {l : List Nat} (h : Ks w b l) (e : w'.heap[b]? = w.heap[b]?) : Ks w' b l := by
  obtain ⟨es, clock, hb, r⟩ := h
  exact ⟨es, clock, by rw [e]; exact hb, r⟩
theorem ks_made (w : World) : Ks (w.alloc (.map #[] 0)) w.heap.size [] := World.ownsMap_made w _ _ _

/-- The map's own look-up, 'ok' alone counts. -/
theorem ks_look {w : World} {b : Nat} {l : List Nat} (h : Ks w b l) {k : Nat} (hk : k < 18446744073709551616) :
    (Instr.lookup 71 (.map (some b)) (.int .u64 k) true).run Try.prog w = .ok (.tuple #[.agg #[], .bool (decide (k ∈ l))]) w := by
  have hz : (zeroValue 86).run Try.prog w = .ok (.agg #[]) w := Try.zeroValue86 w
  obtain ⟨v, ps, hrun, hv⟩ := World.ownsMap.look_ok h law_k Try.underlying71 hz unitElem_mk (key_k hk)
  obtain ⟨rfl, _⟩ := unitElem_inv hv
  rw [has_K] at hrun
  exact hrun
theorem ks_len {w : World} {b : Nat} {l : List Nat} (h : Ks w b l) (ty : TypeId) : (Builtin.len_ #[71] ty #[.map (some b)]).run Try.prog w = .ok (.int .i64 l.length) w := by
  have := World.ownsMap.len (w := w) h Try.underlying71 ty
  rwa [size_K] at this
end Go.Proofs.Ytjkhegekojflhab
