/- What the document fixes by number: the texts of awake, read and printed. -/
import Derived.Test.YtkiplcmndpdifaaGreatDoorSz

namespace Go.Proofs.YtkiplcmndpdifaaGreatDoor

open Go.RowKit



theorem flat_nth {α : Type} (f : α → List Value) (n : Nat) (hf : ∀ a, (f a).length = n) : ∀ (l : List α) (i : Nat) (h : i < l.length) (j : Nat), j < n → (l.flatMap f)[i * n + j]? = (f l[i])[j]? := by
  intro l
  induction l with
  | nil => intro i h; simp at h
  | cons a l ih =>
    intro i h j hj
    rw [List.flatMap_cons]
    cases i with
    | zero =>
      rw [List.getElem?_append_left (by rw [hf]; omega)]
      simp
    | succ i =>
      rw [List.getElem?_append_right (by rw [hf, Nat.succ_mul]; omega), hf]
      have e : (i + 1) * n + j - n = i * n + j := by rw [Nat.succ_mul]; omega
      rw [e, ih i (by simpa using h) j hj]
      simp


theorem flat_len {α : Type} (f : α → List Value) (n : Nat) (hf : ∀ a, (f a).length = n) : ∀ (l : List α), (l.flatMap f).length = l.length * n := by
  intro l
  induction l with
  | nil => simp
  | cons a l ih => rw [List.flatMap_cons, List.length_append, ih, hf, List.length_cons, Nat.succ_mul, Nat.add_comm]


/-- A row of the call's own is a slice that holds the list. -/
theorem own_gv {α : Type} {f : α → List Value} {n : Nat} (hf : ∀ a, (f a).length = n) {l : List α} {w : World} {base : Nat} {e : TypeId} {v : Value} (h : w.ownsRow base e n v l.length (l.flatMap f)) : Gv w v n f l := by
  obtain ⟨h1, h2⟩ := h
  rcases h2 with ⟨rfl, h0⟩ | ⟨g, cap, cur, rfl, hb, hg, hnc, hcm, hcs, htake⟩
  · refine ⟨none, 0, by rw [h0], by omega, by simp [maxLen], fun _ => rfl, fun i hi => ?_⟩
    omega
  · refine ⟨_, cap, rfl, hnc, hcm, fun h => by simp at h, fun i hi => ⟨g, 0, rfl, fun j hj => ?_⟩⟩
    have h3 : (cur.toList.take (l.length * n))[i * n + j]? = (l.flatMap f)[i * n + j]? := by rw [htake]
    have hlt : i * n + j < l.length * n := by
      have : (i + 1) * n ≤ l.length * n := Nat.mul_le_mul_right _ hi
      rw [Nat.succ_mul] at this
      omega
    rw [List.getElem?_take, if_pos hlt, flat_nth f n hf l i hi j hj] at h3
    rw [Nat.zero_add, blk_cell hg, ← Array.getElem?_toList]
    exact h3


def hd : Bs := [112, 108, 97, 110, 32, 49, 32, 49, 32, 49, 32, 50, 32, 52, 32, 50, 32, 56, 10]
def aw1 : Bs := hd ++ [111, 112, 32, 52, 32, 48, 32, 48, 48, 48, 48, 48, 48, 48, 48, 48, 48, 48, 48, 48, 48, 48, 48, 10, 112, 114, 111, 100, 117, 99, 101, 32, 48, 32, 55, 32, 52, 48, 49, 52, 48, 48, 48, 48, 48, 48, 48, 48, 48, 48, 48, 48, 10, 35, 10, 116, 105, 99, 107, 10]
def aw2 : Bs := hd ++ [111, 112, 32, 52, 32, 48, 32, 48, 48, 48, 48, 48, 48, 48, 48, 48, 48, 48, 48, 48, 48, 48, 48, 10, 112, 114, 111, 100, 117, 99, 101, 32, 48, 32, 55, 32, 52, 48, 49, 52, 48, 48, 48, 48, 48, 48, 48, 48, 48, 48, 48, 48, 10, 116, 105, 99, 107, 10]
def aw3 : Bs := [112, 108, 97, 110, 32, 49, 32, 49, 32, 49, 32, 50, 32, 52, 32, 50, 32, 56, 10, 116, 105, 99, 107, 32, 49]
def aw4 : Bs := [116, 105, 99, 107]
def awP : Pl := ⟨1, 1, 1, 2, 4, 2, 8⟩
def awO : List Og := [⟨4, 0, 0⟩]
def awS : List Sp := [⟨1, 0, 0, 7, 4617315517961601024⟩, ⟨3, 0, 0, 0, 0⟩]


theorem aw_read : parseT aw1 = .ok ⟨true, awP, awO, awS⟩ := by kernel_rfl
theorem aw_line : parseT aw3 = .error (2, 211) := by kernel_rfl
theorem aw_word : parseT aw4 = .error (1, 210) := by kernel_rfl
theorem aw_body : bodyT awP awO awS = aw2 := by kernel_rfl
theorem aw_errs : stEs awS = 0 := by kernel_rfl
theorem aw_print : printE awP awO awS = 0 ∧ printT awP awO awS = aw2 := by
  have e : printE awP awO awS = 0 := by
    unfold printE
    rw [if_neg (by simp [awS]), if_neg (by simp [aw_errs]), aw_body, if_neg (by simp [aw2, hd])]
  refine ⟨e, ?_⟩
  unfold printT
  rw [if_pos e, aw_body]
end Go.Proofs.YtkiplcmndpdifaaGreatDoor


