/- Slices of bytes and of ints as lists of numbers: what they hold in a world (Sl, Bv, Iv), that it stays, and the laws on append, cuts and conversions over them. -/
import Derived.Test.YtnnammlipfappaaChecked

import Derived.Test.YtnnammlipfappaaWm

import Derived.WalkKit

import Derived.Laws.BytesArg

import Derived.Laws.AppendOwnNone

import Derived.Deep.Draws

import Derived.Deep.Slices

namespace Go.Proofs.Ytnnammlipfappaa

open Go.RowKit



/-- The cells behind ao hold the numbers l, each of kind k. -/
def Sl (k : IntKind) (w : World) (ao : Option Addr) (l : List Int) : Prop :=
  ∀ i, i < l.length → ∃ b off, ao = some ⟨b, off, none⟩ ∧ w.cell? ⟨b, off + i, none⟩ = some (.int k (l.getD i 0))


/-- The value v is a slice of numbers of kind k that holds l. -/
def Sv (k : IntKind) (w : World) (v : Value) (l : List Int) : Prop :=
  ∃ ao cap, v = .slice ao l.length cap ∧ l.length ≤ cap ∧ cap ≤ maxLen ∧ (ao = none → cap = 0) ∧ Sl k w ao l


/-- Bytes as numbers. -/
def ib (l : List Nat) : List Int := l.map fun c : Nat => (c : Int)


theorem ib_len (l : List Nat) : (ib l).length = l.length := by simp [ib]
theorem ib_append (l r : List Nat) : ib (l ++ r) = ib l ++ ib r := by simp [ib]


/-- The value v is a slice of bytes that holds l. -/
def Bv (w : World) (v : Value) (l : List Nat) : Prop := Sv .u8 w v (ib l) ∧ ∀ c ∈ l, c < 256


theorem cell_lt {w : World} {a : Addr} {u : Value} (h : w.cell? a = some u) : a.block < w.heap.size := World.block_lt_of_cell? w a h


theorem Sl.below {k : IntKind} {w w' : World} {ao : Option Addr} {l : List Int} (h : Sl k w ao l) (hb : Below w.heap.size w w') : Sl k w' ao l := by
  intro i hi
  obtain ⟨b, off, e, hc⟩ := h i hi
  exact ⟨b, off, e, by rw [hb.cell (p := ⟨b, off + i, none⟩) (cell_lt hc)]; exact hc⟩


theorem Sv.below {k : IntKind} {w w' : World} {v : Value} {l : List Int} (h : Sv k w v l) (hb : Below w.heap.size w w') : Sv k w' v l := by
  obtain ⟨ao, cap, e, h1, h2, h3, h4⟩ := h
  exact ⟨ao, cap, e, h1, h2, h3, h4.below hb⟩


theorem Bv.below {w w' : World} {v : Value} {l : List Nat} (h : Bv w v l) (hb : Below w.heap.size w w') : Bv w' v l := ⟨h.1.below hb, h.2⟩


theorem below_alloc (w : World) (o : Obj) : Below w.heap.size w (w.alloc o) := (Below.refl _ _).alloc (Nat.le_refl _) o
theorem below_trans {w w1 w2 : World} (h : Below w.heap.size w w1) (k : Below w1.heap.size w1 w2) : Below w.heap.size w w2 :=
  h.trans (k.mono h.size)
theorem below_drew (w : World) : Below w.heap.size w w.drew := (Below.refl _ _).drew
theorem below_drewN (w : World) (n : Nat) : Below w.heap.size w (w.drewN n) := ⟨rfl, rfl, rfl, Nat.le_refl _, fun _ _ => rfl⟩


theorem Sv.nil (k : IntKind) (w : World) : Sv k w (.slice none 0 0) [] := ⟨none, 0, rfl, Nat.le_refl _, by simp [maxLen], fun _ => rfl, fun i hi => by simp at hi⟩
theorem Bv.nil (w : World) : Bv w (.slice none 0 0) [] := ⟨Sv.nil _ _, by simp⟩


theorem Sv.len_le {k : IntKind} {w : World} {v : Value} {l : List Int} (h : Sv k w v l) : l.length ≤ maxLen := by
  obtain ⟨ao, cap, e, h1, h2, h3, h4⟩ := h; omega
theorem Bv.len_le {w : World} {v : Value} {l : List Nat} (h : Bv w v l) : l.length ≤ maxLen := by
  have := h.1.len_le; rwa [ib_len] at this


/-- What a row that the call owns holds. -/
theorem own_sv {k : IntKind} {w : World} {base e n : Nat} {v : Value} {l : List Int} (h : w.ownsRow base e 1 v n (l.map (Value.int k))) : Sv k w v l := by
  obtain ⟨h1, h2⟩ := h
  have hn : l.length = n := by simpa using h1
  subst hn
  rcases h2 with ⟨rfl, h0⟩ | ⟨g, cap, cur, rfl, hb, hg, hnc, hcm, hcs, htake⟩
  · have : l = [] := List.eq_nil_of_length_eq_zero h0
    subst this
    exact Sv.nil k w
  · refine ⟨_, cap, rfl, hnc, hcm, by simp, fun i hi => ⟨g, 0, rfl, ?_⟩⟩
    rw [Nat.zero_add, cell_of_row w g i cur e (0, 0) hg]
    have hh : (cur.toList.take (l.length * 1))[i]? = (l.map (Value.int k))[i]? := by rw [htake]
    rw [List.getElem?_take, if_pos (by omega)] at hh
    rw [← Array.getElem?_toList, hh]
    simp [List.getElem?_eq_getElem hi, List.getD]


theorem own_bv {w : World} {base e n : Nat} {v : Value} {l : List Nat} (h : w.ownsRow base e 1 v n ((ib l).map (Value.int .u8))) (hl : ∀ c ∈ l, c < 256) : Bv w v l := ⟨own_sv h, hl⟩


theorem own_len {w : World} {base e n : Nat} {k : IntKind} {v : Value} {l : List Int} (h : w.ownsRow base e 1 v n (l.map (Value.int k))) : n = l.length := by
  have := h.1; simp at this; omega


/-- A new block that holds l, as a slice's literal lays it. -/
theorem sv_lit (k : IntKind) (w : World) (e : TypeId) (l : List Int) (hm : l.length ≤ maxLen) :
    Sv k (w.alloc (.cells (l.map (Value.int k)).toArray e)) (.slice (some ⟨w.heap.size, 0, none⟩) l.length l.length) l := by
  have := World.ownsRow_lit (base := w.heap.size) (e := e) (size := 1) w (l.map (Value.int k)).toArray l.length (Nat.le_refl _) hm (by simp)
  exact own_sv (by simpa using this)


/-- APPEND of a slice that holds l onto a row of the call's own. -/
theorem wpList_append_sv {P : Program} {w : World} {ops : Array Oper} {rest : List Oper} {o : Oper} {a : Act} {Q : Exit → Act → World → Prop} (hgd : o.guard = none) (s x : Operand) (t : TypeId)
    (ho : o.op = .call { callee := .builtin .append, args := #[s, x], argTypes := #[t, t] })
    (base : Nat) (e : TypeId) (k : IntKind) (bytes : Nat) (ht : P.underlying t = some (.slice e)) (hinf : (P.info? e).map (fun i => (i.zero, i.size, i.bytes)) = some (some (.int k 0), 1, bytes))
    (v : Value) (n : Nat) (xs : List Value) (hs : a.eval s = v) (hown : w.ownsRow base e 1 v n xs)
    (y : Value) (l : List Int) (hx : a.eval x = y) (hy : Sv k w y l)
    (h63 : n + l.length ≤ maxLen) (hbytes : (n + l.length) * bytes ≤ 140737488355328) (hbase : base ≤ w.heap.size)
    (h : ∀ v' w', w'.ownsRow base e 1 v' (n + l.length) (xs ++ l.map (Value.int k)) → w.grownBy w' v.ownBlock → wpList P ops Q rest (a.put o.dst v') w') : wpList P ops Q (o :: rest) a w := by
  obtain ⟨i0, hi, hz0, hz1, hz2⟩ := info_parts hinf
  obtain ⟨ao, cap, rfl, hc1, hc2, hnone, hcells⟩ := hy
  cases ao with
  | none =>
    obtain rfl := hnone rfl
    have hl0 : l.length = 0 := by omega
    have hl : l = [] := List.eq_nil_of_length_eq_zero hl0
    subst hl
    refine wpList_append_own_none hgd s x t ho base e i0 1 ht hi v n xs hs hown hx ?_
    exact h v w (by simpa using hown) ⟨rfl, rfl, rfl, Nat.le_refl _, fun _ _ _ => rfl⟩
  | some p =>
    refine wpList_append_own w hgd s x t ho base e i0 (.int k 0) 1 bytes ht hi hz0 hz1 hz2 rfl (by decide) v n xs hs hown p l.length cap (l.map (Value.int k)) hx (by simp) ?_ ?_ h63 hbytes hbase
      (fun v' w' h1 h2 _ => h v' w' h1 h2)
    · intro j u hj
      have hjl : j < l.length := by
        rcases Nat.lt_or_ge j l.length with h | h
        · exact h
        · simp [List.getElem?_eq_none (show (l.map (Value.int k)).length ≤ j by simpa using h)] at hj
      obtain ⟨b, off, e1, e2⟩ := hcells j hjl
      cases e1
      rw [WideShapes.add_plain, e2]
      simp [List.getElem?_eq_getElem hjl] at hj
      simp [List.getD, List.getElem?_eq_getElem hjl, hj]
    · intro u hu
      obtain ⟨z, _, rfl⟩ := List.mem_map.1 hu
      rfl


theorem grown_below {B : Nat} {w w' : World} {v : Value} {e n : Nat} {xs : List Value} (hown : w.ownsRow B e 1 v n xs) (hg : w.grownBy w' v.ownBlock) (hB : B ≤ w.heap.size) : Below B w w' :=
  (Below.refl B w).grown hg hB (fun k hk => (hown.lt k hk).1)


/-- A cut of a slice. -/
theorem Sl.cut {k : IntKind} {w : World} {ao : Option Addr} {l : List Int} (h : Sl k w ao l) (lo hi : Nat) (hlh : lo ≤ hi) (hh : hi ≤ l.length) (c : Prop) [Decidable c] (hc : lo < hi → ¬ c) :
    Sl k w (if c then ao else ao.map (·.add lo)) ((l.drop lo).take (hi - lo)) := by
  intro i hi'
  have hlt : i < hi - lo := by simp at hi'; omega
  obtain ⟨b, off, e, hcell⟩ := h (lo + i) (by omega)
  subst e
  refine ⟨b, off + lo, ?_, ?_⟩
  · rw [if_neg (hc (by omega))]; simp [WideShapes.add_plain]
  · rw [Nat.add_assoc, hcell]
    simp [List.getD, hlt, List.getElem?_drop]


theorem ib_drop_take (l : List Nat) (lo n : Nat) : ((ib l).drop lo).take n = ib ((l.drop lo).take n) := by
  simp [ib]


/-- The cut v[lo:hi] of a slice that holds l. -/
theorem Bv.cut {w : World} {ao : Option Addr} {cap : Nat} {l : List Nat} (h : Bv w (.slice ao l.length cap) l) (lo hi : Nat) (hlh : lo ≤ hi) (hh : hi ≤ l.length) (c : Prop) [Decidable c] (hc : c ↔ cap = lo) :
    Bv w (.slice (if c then ao else ao.map (·.add lo)) (hi - lo) (cap - lo)) ((l.drop lo).take (hi - lo)) := by
  obtain ⟨⟨ao', cap', e, h1, h2, h3, h4⟩, h5⟩ := h
  simp only [Value.slice.injEq, ib_len] at e
  obtain ⟨rfl, _, rfl⟩ := e
  rw [ib_len] at h1
  refine ⟨⟨if c then ao else ao.map (·.add lo), cap - lo, ?_, ?_, by omega, ?_, ?_⟩, ?_⟩
  · rw [ib_len]; simp; omega
  · rw [ib_len]; simp; omega
  · intro hn
    by_cases hcc : c
    · have := hc.1 hcc; omega
    · rw [if_neg hcc] at hn
      cases ao with
      | none => have := h3 rfl; omega
      | some p => simp at hn
  · rw [← ib_drop_take]
    exact h4.cut lo hi hlh (by rw [ib_len]; exact hh) c (fun hlt hcc => by have := hc.1 hcc; omega)
  · intro d hd; exact h5 d (List.mem_of_mem_drop (List.mem_of_mem_take hd))


/-- The string of the bytes l. -/
def str (l : List Nat) : ByteArray := strOfNums (ib l)


theorem str_inj {l r : List Nat} (hl : ∀ c ∈ l, c < 256) (hr : ∀ c ∈ r, c < 256) (h : str l = str r) : l = r := by
  have hd : (str l).data.toList = (str r).data.toList := by rw [h]
  simp only [str, strOfNums_data, ib, List.map_map] at hd
  have key : ∀ (l r : List Nat), (∀ c ∈ l, c < 256) → (∀ c ∈ r, c < 256) →
      l.map ((fun n : Int => UInt8.ofNat n.toNat) ∘ fun c : Nat => (c : Int)) = r.map ((fun n : Int => UInt8.ofNat n.toNat) ∘ fun c : Nat => (c : Int)) → l = r := by
    intro l
    induction l with
    | nil => intro r _ _ h; cases r with
      | nil => rfl
      | cons a r => simp at h
    | cons a l ih =>
      intro r hl hr h
      cases r with
      | nil => simp at h
      | cons b r =>
        simp only [List.map_cons, List.cons.injEq] at h
        obtain ⟨h1, h2⟩ := h
        have ha := hl a (by simp)
        have hb := hr b (by simp)
        have := congrArg UInt8.toNat h1
        simp at this
        rw [ih r (fun c hc => hl c (by simp [hc])) (fun c hc => hr c (by simp [hc])) h2]
        congr 1; omega
  exact key l r hl hr hd


/-- string(v). -/
theorem Bv.str {P : Program} {w : World} {v : Value} {l : List Nat} (h : Bv w v l) (src e dst : TypeId) (hs : P.underlying src = some (.slice e)) (he : P.underlying e = some (.int .u8)) (hd : P.underlying dst = some .string) :
    (convert src dst v).run P w = .ok (.string (str l)) w := by
  obtain ⟨⟨ao, cap, rfl, h1, h2, h3, h4⟩, h5⟩ := h
  by_cases h0 : l = []
  · subst h0
    cases ao with
    | none => rw [run_convert_bytes_nil w src e hs he _ _ dst hd]; rfl
    | some p =>
      obtain ⟨b, off, sp⟩ := p
      have hl : (loadCells ⟨b, off, sp⟩ 0).run P w = .ok (([] : List Int).map (Value.int .u8)).toArray w := by simp [loadCells, loadCellsFrom]
      rw [run_convert_bytes_string w src dst e _ _ cap hs he hd]
      exact run_bytesToString w _ 0 cap [] hl
  · obtain ⟨b, off, rfl, hc⟩ := h4 0 (by rw [ib_len]; exact List.length_pos_iff.2 h0)
    refine run_convert_bytes_arg w src e hs he b off _ cap (ib l) rfl (fun i hi => ?_) dst hd
    obtain ⟨b', off', e1, e2⟩ := h4 i hi
    cases e1
    exact e2


end Go.Proofs.Ytnnammlipfappaa


