/- Slices of numbers as lists; append onto a row of the call's own. -/
import Derived.Test.YtfcpooihihklaabKj
namespace Go.Proofs.Ytfcpooihihklaab
open Go.RowKit

/-- The cells behind ao hold the numbers l, each of kind k. -/
def Sl (k : IntKind) (w : World) (ao : Option Addr) (l : List Int) : Prop :=
  ∀ i, i < l.length → ∃ b off, ao = some ⟨b, off, none⟩ ∧ w.cell? ⟨b, off + i, none⟩ = some (.int k (l.getD i 0))

/-- The value v is a slice of numbers of kind k that holds l. -/
def Sv (k : IntKind) (w : World) (v : Value) (l : List Int) : Prop :=
  ∃ ao cap, v = .slice ao l.length cap ∧ l.length ≤ cap ∧ cap ≤ maxLen ∧ (ao = none → cap = 0) ∧ Sl k w ao l

theorem Sl.below {k : IntKind} {w w' : World} {ao : Option Addr} {l : List Int} (h : Sl k w ao l) (hb : Below w.heap.size w w') : Sl k w' ao l := by
  intro i hi
  obtain ⟨b, off, e, hc⟩ := h i hi
  exact ⟨b, off, e, by rw [hb.cell (p := ⟨b, off + i, none⟩) (cell_lt hc)]; exact hc⟩

theorem Sv.below {k : IntKind} {w w' : World} {v : Value} {l : List Int} (h : Sv k w v l) (hb : Below w.heap.size w w') : Sv k w' v l := by
  obtain ⟨ao, cap, e, h1, h2, h3, h4⟩ := h
  exact ⟨ao, cap, e, h1, h2, h3, h4.below hb⟩

theorem Sv.nil (k : IntKind) (w : World) : Sv k w (.slice none 0 0) [] := ⟨none, 0, rfl, Nat.le_refl _, by simp [maxLen], fun _ => rfl, fun i hi => by simp at hi⟩

theorem Sv.len_le {k : IntKind} {w : World} {v : Value} {l : List Int} (h : Sv k w v l) : l.length ≤ maxLen := by
  obtain ⟨ao, cap, e, h1, h2, h3, h4⟩ := h; omega

/-- What a row that the call owns holds. -/
theorem own_sv {k : IntKind} {w : World} {base e n : Nat} {v : Value} {l : List Int} (h : w.ownsRow base e 1 v n (l.map (Value.int k))) : Sv k w v l := by
  obtain ⟨h1, h2⟩ := h
  have hn : l.length = n := by simpa using h1
  subst hn
  rcases h2 with ⟨rfl, h0⟩ | ⟨g, cap, cur, rfl, hb, hg, hnc, hcm, hcs, htake⟩
  · have : l = [] := List.eq_nil_of_length_eq_zero h0
    subst this
    exact Sv.nil k w
  · refine ⟨_, cap, rfl, hnc, hcm, by simp, fun i hi => ⟨g, 0, rfl, ?_⟩⟩
    rw [Nat.zero_add, cell_of_row w g i cur e (0, 0) hg]
    have hh : (cur.toList.take (l.length * 1))[i]? = (l.map (Value.int k))[i]? := by rw [htake]
    rw [List.getElem?_take, if_pos (by omega)] at hh
    rw [← Array.getElem?_toList, hh]
    simp [List.getElem?_eq_getElem hi, List.getD]

theorem own_len {w : World} {base e n : Nat} {k : IntKind} {v : Value} {l : List Int} (h : w.ownsRow base e 1 v n (l.map (Value.int k))) : n = l.length := by
  have := h.1; simp at this; omega

/-- A new block that holds l, as a slice's literal lays it. -/
theorem sv_lit (k : IntKind) (w : World) (e : TypeId) (l : List Int) (hm : l.length ≤ maxLen) :
    Sv k (w.alloc (.cells (l.map (Value.int k)).toArray e)) (.slice (some ⟨w.heap.size, 0, none⟩) l.length l.length) l := by
  have := World.ownsRow_lit (base := w.heap.size) (e := e) (size := 1) w (l.map (Value.int k)).toArray l.length (Nat.le_refl _) hm (by simp)
  exact own_sv (by simpa using this)

/-- APPEND of a slice that holds l onto a row of the call's own. -/
theorem wpList_append_sv {P : Program} {w : World} {ops : Array Oper} {rest : List Oper} {o : Oper} {a : Act} {Q : Exit → Act → World → Prop} (hgd : o.guard = none) (s x : Operand) (t : TypeId)
    (ho : o.op = .call { callee := .builtin .append, args := #[s, x], argTypes := #[t, t] })
    (base : Nat) (e : TypeId) (k : IntKind) (bytes : Nat) (ht : P.underlying t = some (.slice e)) (hinf : (P.info? e).map (fun i => (i.zero, i.size, i.bytes)) = some (some (.int k 0), 1, bytes))
    (v : Value) (n : Nat) (xs : List Value) (hs : a.eval s = v) (hown : w.ownsRow base e 1 v n xs)
    (y : Value) (l : List Int) (hx : a.eval x = y) (hy : Sv k w y l)
    (h63 : n + l.length ≤ maxLen) (hbytes : (n + l.length) * bytes ≤ 140737488355328) (hbase : base ≤ w.heap.size)
    (h : ∀ v' w', w'.ownsRow base e 1 v' (n + l.length) (xs ++ l.map (Value.int k)) → w.grownBy w' v.ownBlock → wpList P ops Q rest (a.put o.dst v') w') : wpList P ops Q (o :: rest) a w := by
  obtain ⟨i0, hi, hz0, hz1, hz2⟩ := info_parts hinf
  obtain ⟨ao, cap, rfl, hc1, hc2, hnone, hcells⟩ := hy
  cases ao with
  | none =>
    obtain rfl := hnone rfl
    have hl0 : l.length = 0 := by omega
    have hl : l = [] := List.eq_nil_of_length_eq_zero hl0
    subst hl
    refine wpList_append_own_none hgd s x t ho base e i0 1 ht hi v n xs hs hown hx ?_
    exact h v w (by simpa using hown) ⟨rfl, rfl, rfl, Nat.le_refl _, fun _ _ _ => rfl⟩
  | some p =>
    refine wpList_append_own w hgd s x t ho base e i0 (.int k 0) 1 bytes ht hi hz0 hz1 hz2 rfl (by decide) v n xs hs hown p l.length cap (l.map (Value.int k)) hx (by simp) ?_ ?_ h63 hbytes hbase
      (fun v' w' h1 h2 _ => h v' w' h1 h2)
    · intro j u hj
      have hjl : j < l.length := by
        rcases Nat.lt_or_ge j l.length with h | h
        · exact h
        · simp [List.getElem?_eq_none (show (l.map (Value.int k)).length ≤ j by simpa using h)] at hj
      obtain ⟨b, off, e1, e2⟩ := hcells j hjl
      cases e1
      rw [WideShapes.add_plain, e2]
      simp [List.getElem?_eq_getElem hjl] at hj
      simp [List.getD, List.getElem?_eq_getElem hjl, hj]
    · intro u hu
      obtain ⟨z, _, rfl⟩ := List.mem_map.1 hu
      rfl

theorem grown_below {B : Nat} {w w' : World} {v : Value} {e n : Nat} {xs : List Value} (hown : w.ownsRow B e 1 v n xs) (hg : w.grownBy w' v.ownBlock) (hB : B ≤ w.heap.size) : Below B w w' :=
  (Below.refl B w).grown hg hB (fun k hk => (hown.lt k hk).1)

theorem sv_one (k : IntKind) (w : World) (e : TypeId) (x : Int) : Sv k (w.alloc (.cells #[.int k x] e)) (.slice (some ⟨w.heap.size, 0, none⟩) 1 1) [x] := sv_lit k w e [x] (by simp [maxLen])

theorem info_u64 : (Try.prog.info? 31).map (fun i => (i.zero, i.size, i.bytes)) = some (some (.int .u64 0), 1, 8) := by kernel_rfl

def keyL (l : List Pr) : List Int := l.map fun p => (p.k : Int)
theorem keyL_len (l : List Pr) : (keyL l).length = l.length := by simp [keyL]
theorem keyL_snoc (l : List Pr) {i : Nat} (hi : i < l.length) : keyL (l.take (i + 1)) = keyL (l.take i) ++ [(l[i].k : Int)] := by
  unfold keyL; rw [List.take_succ_eq_append_getElem hi, List.map_append]; rfl

/-- Where a loop over keys stands. -/
def Ky (w : World) (l : List Pr) (v iv : Value) (wr : World) : Prop :=
  ∃ i : Nat, i ≤ l.length ∧ iv = .int .i64 i ∧ wr.ownsRow w.heap.size 31 1 v i ((keyL (l.take i)).map (Value.int .u64)) ∧ Below w.heap.size w wr

theorem ky_step {w wr w1 w2 : World} {l : List Pr} {v v' : Value} {i : Nat} {p : Pr} (hi : i < l.length) (hp : p = l[i]) (hB : Below w.heap.size w wr) (h1 : Below wr.heap.size wr w1)
    (hv : w1.ownsRow w.heap.size 31 1 v i ((keyL (l.take i)).map (Value.int .u64))) (hg : w1.grownBy w2 v.ownBlock) (ho : w2.ownsRow w.heap.size 31 1 v' (i + 1) ((keyL (l.take i)).map (Value.int .u64) ++ [(p.k : Int)].map (Value.int .u64))) :
    Ky w l v' (.int .i64 ((i : Int) + 1)) w2 := by
  have h2 := below_trans hB h1
  refine ⟨i + 1, hi, by simp, ?_, h2.grown hg h2.size (fun k hk => (hv.lt k hk).1)⟩
  rw [keyL_snoc l hi, ← hp, List.map_append]
  exact ho

set_option maxRecDepth 100000 in
set_option maxHeartbeats 2000000 in
theorem keys_walk {ao : Option Addr} {ca : Nat} {l : List Pr} {w : World} (hl : l.length ≤ 11728124029610) (ha : Ql w ao l) :
    Calls Try.prog 14 #[.slice ao l.length ca] w fun e w' => ∃ v, e = .returned v ∧ w'.ownsRow w.heap.size 31 1 v l.length ((keyL l).map (Value.int .u64)) ∧ Below w.heap.size w w' := by
  have hli : (l.length : Int) ≤ 11728124029610 := by omega
  have HA : Hid (Ql w ao l) := ha
  obtain ⟨i0, hi0, hz0, hz1, hz2⟩ := info_partsQ info_u64
  have HI0 : Hid (Try.prog.info? 31 = some i0) := hi0
  have HI1 : Hid (i0.zero = some (.int .u64 0)) := hz0
  have HI2 : Hid (i0.size = 1) := hz1
  have HI3 : Hid (i0.bytes = 8) := hz2
  clear ha hl hi0 hz0 hz1 hz2
  go_enter Try.func14, Try.ntmps14
  go_wp2_with (at_make; refine wpList_make_own _ (by rfl) _ _ 48 (by rfl) w.heap.size 31 i0 (.int .u64 0) 1 Try.underlying48 HI0.out HI1.out HI2.out .i64 .i64 _ l.length (by rfl) (by rfl) (by rfl) (by rw [HI3.out]; omega) (by simp only [maxLen]; omega) (Nat.le_refl _) ?_; intro w2 hown hgrow)
  have R0 : Ky w l (.slice (some ⟨w.heap.size, 0, none⟩) 0 l.length) (.int .i64 0) w2 := ⟨0, Nat.zero_le _, rfl, hown, (Below.refl _ _).grown hgrow (Nat.le_refl _) (by simp)⟩
  clear hown hgrow
  go_loopw [3, 11] (fun v iv wr => Ky w l v iv wr) (fun _ iv _ => l.length - (intOf iv).toNat)
  case atStart => exact R0
  case round =>
    clear R0
    obtain ⟨i, hi, rfl, hown, hB⟩ := hrel
    have HOW : Hid (wr.ownsRow w.heap.size 31 1 u3 i ((keyL (l.take i)).map (Value.int .u64))) := hown
    have HB : Hid (Below w.heap.size w wr) := hB
    clear hown hB
    by_cases hlt : i < l.length
    · obtain ⟨b, off, rfl, c0, c1, c2⟩ := HA.out.below HB.out i hlt
      obtain ⟨p, hpe⟩ : ∃ p, p = l[i] := ⟨_, rfl⟩
      rw [← hpe] at c0 c1 c2
      have HE : Hid (p = l[i]) := hpe
      clear hpe
      go_wp2_with (at_builtin; refine wpList_append_sv (by rfl) _ _ 48 (by rfl) w.heap.size 31 .u64 8 Try.underlying48 info_u64 _ _ _ (by rfl) ((HOW.out.alloc _).alloc _) _ [(p.k : Int)] (by rfl) (by simpa [go_sem] using sv_one .u64 (wr.alloc (Obj.cells #[.int .u64 p.k, .bool p.v.h, .int .u64 p.v.b] 40)) 31 p.k) (by simp [maxLen]; omega) (by simp; omega) (by have := HB.out.size; simp; omega) ?_; intro v' w4 hown' hgrow)
      have R' := ky_step hlt HE.out HB.out (below_trans (below_alloc wr (Obj.cells #[.int .u64 p.k, .bool p.v.h, .int .u64 p.v.b] 40)) (below_alloc _ (Obj.cells #[.int .u64 p.k] 31))) ((HOW.out.alloc _).alloc _) hgrow hown'
      clear hown' hgrow
      go_wp2_with fail
      go_roundw
      case rel => exact R'
      case measure => simp [intOf]; omega
    · have e : i = l.length := by omega
      have HEND : Hid (wr.ownsRow w.heap.size 31 1 u3 l.length ((keyL l).map (Value.int .u64))) := by
        have := HOW.out
        rw [e, List.take_length] at this
        exact this
      clear e
      go_wp2_with fail
      go_ret
      exact ⟨_, rfl, HEND.out, HB.out⟩

/-- keys: the same numbers. -/
theorem lkeys_walk {ao bo : Option Addr} {ca cb : Nat} {l : List Int} {w : World} (hl : l.length ≤ maxLen) (ha : Sl .u64 w ao l) (hb : Sl .u64 w bo l) :
    Calls Try.prog 16 #[.slice ao l.length ca, .slice bo l.length cb] w fun e w' => e = .returned (.bool true) ∧ Below w.heap.size w w' := by
  have hli : (l.length : Int) ≤ 9223372036854775807 := by simp only [maxLen] at hl; omega
  have HA : Hid (Sl .u64 w ao l) := ha
  have HB : Hid (Sl .u64 w bo l) := hb
  clear ha hb hl
  go_enter Try.func16, Try.ntmps16
  go_wp2_with fail
  go_loopw [5] (fun iv wr => ∃ k : Nat, k ≤ l.length ∧ iv = .int .i64 k ∧ Below w.heap.size w wr) (fun iv _ => l.length - (intOf iv).toNat)
  case atStart => exact ⟨0, Nat.zero_le _, rfl, below_same _⟩
  case round =>
    obtain ⟨k, hk, rfl, hB⟩ := hrel
    have HW : Hid (Below w.heap.size w wr) := hB
    clear hB
    by_cases hlt : k < l.length
    · obtain ⟨b, off, rfl, c0⟩ := HA.out.below HW.out k hlt
      obtain ⟨d, doff, rfl, d0⟩ := HB.out.below HW.out k hlt
      obtain ⟨o, hoe⟩ : ∃ o, o = l.getD k 0 := ⟨_, rfl⟩
      rw [← hoe] at c0 d0
      have hn : (o != o) = false := by simp
      clear hoe
      go_wp2_with fail
      go_quiet (fail)
      go_wp2_with fail
      go_roundw
      case rel => exact ⟨k + 1, by omega, by go_num, below_trans HW.out (below_drewN _ _)⟩
      case measure => simp [intOf]; omega
    · go_wp2_with fail
      go_ret
      exact ⟨rfl, HW.out⟩
end Go.Proofs.Ytfcpooihihklaab
