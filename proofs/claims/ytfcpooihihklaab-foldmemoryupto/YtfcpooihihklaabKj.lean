/- Add: the table of two parts. -/
import Derived.Test.YtfcpooihihklaabKi
namespace Go.Proofs.Ytfcpooihihklaab
open Ieee Go.RowKit

def totL (a b : List Pr) (j : Nat) : List Pr := ([a, b].take j).flatten

/-- A block that holds two slices. -/
structure SB (w : World) (b : Nat) (x y : Value) : Prop where
  c0 : w.cell? ⟨b, 0, none⟩ = some x
  c1 : w.cell? ⟨b, 1, none⟩ = some y

theorem SB.grown {w w' : World} {b m : Nat} {x y : Value} (h : SB w b x y) (hg : w.grownBy w' (some m)) (hne : b ≠ m) : SB w' b x y := by
  have hb := hg.block b (cell_lt h.c0) (by simpa using hne)
  exact ⟨by rw [World.cell?_of_block (w := w) hb]; exact h.c0, by rw [World.cell?_of_block (w := w) hb]; exact h.c1⟩
theorem SB.below {w w' : World} {b : Nat} {x y : Value} (h : SB w b x y) (hb : Below w.heap.size w w') : SB w' b x y :=
  ⟨by rw [hb.cell (p := ⟨b, 0, none⟩) (cell_lt h.c0)]; exact h.c0, by rw [hb.cell (p := ⟨b, 1, none⟩) (cell_lt h.c1)]; exact h.c1⟩

/-- Where the outer loop of Add stands. -/
def Ad (w : World) (mb pb : Nat) (x y : Value) (kind : Int) (a b : List Pr) (iv : Value) (wr : World) : Prop :=
  ∃ j : Nat, j ≤ 2 ∧ iv = .int .i64 j ∧ Mp wr mb (totL a b j).length (addsT kind [] (totL a b j)) ∧ SB wr pb x y ∧ Below w.heap.size w wr
/-- Where the inner loop stands. -/
def Ai (w : World) (mb pb : Nat) (x y : Value) (kind : Int) (tl pl : List Pr) (iv : Value) (wr : World) : Prop :=
  ∃ i : Nat, i ≤ pl.length ∧ iv = .int .i64 i ∧ Mp wr mb (tl.length + i) (addsT kind [] (tl ++ pl.take i)) ∧ SB wr pb x y ∧ Below w.heap.size w wr

theorem tot_step (a b : List Pr) {j : Nat} (hj : j < 2) : totL a b (j + 1) = totL a b j ++ (if j = 0 then a else b) := by
  have : j = 0 ∨ j = 1 := by omega
  rcases this with rfl | rfl <;> simp [totL]
theorem tot_le (a b : List Pr) {j : Nat} (hj : j ≤ 2) : (totL a b j).length ≤ a.length + b.length := by
  have : j = 0 ∨ j = 1 ∨ j = 2 := by omega
  rcases this with rfl | rfl | rfl <;> simp [totL]
theorem tot_ok {a b : List Pr} (ha : okT a) (hb : okT b) (j : Nat) : okT (totL a b j) := by
  intro p hp
  unfold totL at hp
  obtain ⟨l, hl, hpl⟩ := List.mem_flatten.1 hp
  have := List.mem_of_mem_take hl
  simp at this
  rcases this with rfl | rfl
  · exact ha p hpl
  · exact hb p hpl

theorem ai_step {w wr w1 w2 : World} {mb pb i : Nat} {x y : Value} {kind : Int} {tl pl : List Pr} {p : Pr} (hi : i < pl.length) (hp : p = pl[i]) (hb : w.heap.size ≤ mb) (hne : pb ≠ mb)
    (hB : Below w.heap.size w wr) (h1 : Below wr.heap.size wr w1) (hg : w1.grownBy w2 (some mb)) (hS : SB wr pb x y) (hM : Mp w2 mb (tl.length + i + 1) (withT kind p.k p.v (addsT kind [] (tl ++ pl.take i)))) :
    Ai w mb pb x y kind tl pl (.int .i64 ((i : Int) + 1)) w2 := by
  refine ⟨i + 1, hi, by simp, ?_, (hS.below h1).grown hg hne, ?_⟩
  · rw [List.take_succ_eq_append_getElem hi, ← hp, ← List.append_assoc, adds_snoc]
    exact hM
  · have h2 := below_trans hB h1
    exact h2.grown hg h2.size (by simp; omega)

theorem ok_append {a b : List Pr} (ha : okT a) (hb : okT b) : okT (a ++ b) := fun p hp => by
  rcases List.mem_append.1 hp with h | h
  · exact ha p h
  · exact hb p h
theorem ok_take {a : List Pr} (h : okT a) (i : Nat) : okT (a.take i) := fun p hp => h p (List.mem_of_mem_take hp)

theorem Qv.len {w : World} {v : Value} {l : List Pr} (h : Qv w v l) : l.length ≤ maxLen := by
  obtain ⟨⟨ao, cap, e, h1, h2, h3, h4⟩, h5⟩ := h; omega

theorem add_unknown {av bv : Value} {kind : Int} {w : World} (hk : knownB kind = false) :
    Calls Try.prog 13 #[.int .i64 kind, av, bv] w fun e w' => e = .returned (.tuple #[.slice none 0 0, .int .i64 1]) ∧ Below w.heap.size w w' := by
  go_enter Try.func13, Try.ntmps13
  go_wp2_with (go_at_call 20; refine (known_walk _ _).mono ?_; rw [hk]; rintro e w9 ⟨rfl, h9⟩; have h9 := h9.symm; subst h9)
  go_ret2
  exact ⟨rfl, below_same _⟩

theorem add_order {av bv : Value} {kind : Int} {a b : List Pr} {w : World} (ha : Qv w av a) (hb : Qv w bv b) (hk : knownB kind = true) (hs : (tabB a && tabB b) = false) :
    Calls Try.prog 13 #[.int .i64 kind, av, bv] w fun e w' => e = .returned (.tuple #[.slice none 0 0, .int .i64 7]) ∧ Below w.heap.size w w' := by
  have HLA : Hid (a.length ≤ maxLen) := ha.len
  have HLB : Hid (b.length ≤ maxLen) := hb.len
  obtain ⟨⟨ao, ca, rfl, _, _, _, a4⟩, _⟩ := ha
  obtain ⟨⟨bo, cb, rfl, _, _, _, b4⟩, _⟩ := hb
  have HA : Hid (Ql w ao a) := a4
  have HB : Hid (Ql w bo b) := b4
  clear a4 b4
  cases hta : tabB a
  · go_enter Try.func13, Try.ntmps13
    go_wp2_with (go_at_call 20; refine (known_walk _ _).mono ?_; rw [hk]; rintro e w9 ⟨rfl, h9⟩; have h9 := h9.symm; subst h9)
    refine (sound_walk HLA.out HA.out).mono ?_
    rw [hta]
    rintro e w2 ⟨rfl, hB2⟩
    go_wp2_with fail
    go_ret2
    exact ⟨rfl, hB2⟩
  · have htb : tabB b = false := by rw [hta] at hs; simpa using hs
    clear hs
    go_enter Try.func13, Try.ntmps13
    go_wp2_with (go_at_call 20; refine (known_walk _ _).mono ?_; rw [hk]; rintro e w9 ⟨rfl, h9⟩; have h9 := h9.symm; subst h9)
    refine (sound_walk HLA.out HA.out).mono ?_
    rw [hta]
    rintro e w2 ⟨rfl, hB2⟩
    go_wp2_with fail
    refine (sound_walk HLB.out (HB.out.below hB2)).mono ?_
    rw [htb]
    rintro e w3 ⟨rfl, hB3⟩
    go_wp2_with fail
    go_ret2
    exact ⟨rfl, below_trans hB2 hB3⟩

set_option maxRecDepth 100000 in
set_option maxHeartbeats 4000000 in
theorem add_good {av bv : Value} {kind : Int} {a b : List Pr} {w : World} (ha : Qv w av a) (hb : Qv w bv b) (hk : knownB kind = true) (hta : tabB a = true) (htb : tabB b = true) (hsz : (a.length + b.length) * 24 ≤ 281474976710656) :
    Calls Try.prog 13 #[.int .i64 kind, av, bv] w fun e w' => ∃ g, e = .returned (.tuple #[.slice (some ⟨g, 0, none⟩) (addT kind a b).length (addT kind a b).length, .int .i64 0]) ∧
      Mq w' g (addT kind a b) ∧ w.heap.size ≤ g ∧ g < w'.heap.size ∧ Below w.heap.size w w' := by
  have HLA : Hid (a.length ≤ maxLen) := ha.len
  have HLB : Hid (b.length ≤ maxLen) := hb.len
  obtain ⟨⟨ao, ca, rfl, _, _, _, a4⟩, a5⟩ := ha
  obtain ⟨⟨bo, cb, rfl, _, _, _, b4⟩, b5⟩ := hb
  have HA : Hid (Ql w ao a) := a4
  have HB : Hid (Ql w bo b) := b4
  have HOA : Hid (okT a) := a5
  have HOB : Hid (okT b) := b5
  have HSZ : Hid ((a.length + b.length) * 24 ≤ 281474976710656) := hsz
  clear a4 b4 a5 b5 hsz
  have hmm := @run_makeMap Try.prog
  go_enter Try.func13, Try.ntmps13
  go_wp2_with (go_at_call 20; refine (known_walk _ _).mono ?_; rw [hk]; rintro e w9 ⟨rfl, h9⟩; have h9 := h9.symm; subst h9)
  refine (sound_walk HLA.out HA.out).mono ?_
  rw [hta]
  rintro e w2 ⟨rfl, hB2⟩
  have HB2 : Hid (Below w.heap.size w w2) := hB2
  clear hB2 hta
  go_wp2_with fail
  refine (sound_walk HLB.out (HB.out.below HB2.out)).mono ?_
  rw [htb]
  rintro e w3 ⟨rfl, hB3⟩
  have HB3 : Hid (Below w.heap.size w w3) := below_trans HB2.out hB3
  clear hB3 htb HB2
  go_wp2_with fail
  generalize hg4 : (w3.alloc (.map #[] 0)).alloc (Obj.cells #[.slice ao a.length ca, .slice bo b.length cb] 28) = w4
  have R0 : Ad w w3.heap.size (w3.heap.size + 1) (.slice ao a.length ca) (.slice bo b.length cb) kind a b (.int .i64 0) w4 := by
    rw [← hg4]
    refine ⟨0, by omega, rfl, (World.ownsMap_made w3 _ _ _).alloc _, ⟨?_, ?_⟩, below_trans (below_trans HB3.out (below_alloc _ _)) (below_alloc _ _)⟩ <;> simp [go_sem]
  have HMB : Hid (w.heap.size ≤ w3.heap.size) := HB3.out.size
  clear hmm hg4
  go_loopw [29] (fun iv wr => Ad w w3.heap.size (w3.heap.size + 1) (.slice ao a.length ca) (.slice bo b.length cb) kind a b iv wr) (fun iv _ => 2 - (intOf iv).toNat)
  case atStart => exact R0
  case round =>
    clear R0
    obtain ⟨j, hj, rfl, hM, hS, hBr⟩ := hrel
    have HM : Hid (Mp wr w3.heap.size (totL a b j).length (addsT kind [] (totL a b j))) := hM
    have HS : Hid (SB wr (w3.heap.size + 1) (.slice ao a.length ca) (.slice bo b.length cb)) := hS
    have HBR : Hid (Below w.heap.size w wr) := hBr
    clear hM hS hBr
    by_cases hlt : j < 2
    · obtain ⟨xo, cx, pl, hpe, hcell, hql, hpo, hpm⟩ : ∃ (xo : Option Addr) (cx : Nat) (pl : List Pr), totL a b (j + 1) = totL a b j ++ pl ∧ wr.cell? ⟨w3.heap.size + 1, j, none⟩ = some (.slice xo pl.length cx) ∧ Ql w xo pl ∧ okT pl ∧ pl.length ≤ 11728124029610 := by
        have hjj : j = 0 ∨ j = 1 := by omega
        have h24 := HSZ.out
        rcases hjj with rfl | rfl
        · exact ⟨ao, ca, a, tot_step a b hlt, HS.out.c0, HA.out, HOA.out, by omega⟩
        · exact ⟨bo, cb, b, tot_step a b hlt, HS.out.c1, HB.out, HOB.out, by omega⟩
      have hj2 : (j : Int) < 2 := by omega
      have HPE : Hid (totL a b (j + 1) = totL a b j ++ pl) := hpe
      have HQL : Hid (Ql w xo pl) := hql
      have HPO : Hid (okT pl) := hpo
      have hpi : (pl.length : Int) ≤ 11728124029610 := by omega
      have HTJ : Hid ((totL a b j).length ≤ 11728124029610) := by have := tot_le a b hj; have := HSZ.out; show _ ≤ _; omega
      have HTO : Hid (okT (totL a b j)) := tot_ok HOA.out HOB.out j
      clear hpe hql hpo hpm
      go_wp2_with fail
      have R1 : Ai w w3.heap.size (w3.heap.size + 1) (.slice ao a.length ca) (.slice bo b.length cb) kind (totL a b j) pl (.int .i64 0) wr :=
        ⟨0, Nat.zero_le _, rfl, by simpa using HM.out, HS.out, HBR.out⟩
      clear hcell
      go_loopw [35] (fun iv wq => Ai w w3.heap.size (w3.heap.size + 1) (.slice ao a.length ca) (.slice bo b.length cb) kind (totL a b j) pl iv wq) (fun iv _ => pl.length - (intOf iv).toNat)
      case atStart => exact R1
      case round =>
        clear R1
        obtain ⟨i, hi, rfl, hM, hS, hBq⟩ := hrel
        have HM1 : Hid (Mp wr w3.heap.size ((totL a b j).length + i) (addsT kind [] (totL a b j ++ pl.take i))) := hM
        have HS1 : Hid (SB wr (w3.heap.size + 1) (.slice ao a.length ca) (.slice bo b.length cb)) := hS
        have HBQ : Hid (Below w.heap.size w wr) := hBq
        clear hM hS hBq
        by_cases hil : i < pl.length
        · obtain ⟨pb, off, rfl, c0, c1, c2⟩ := HQL.out.below HBQ.out i hil
          obtain ⟨p, hpe⟩ : ∃ p, p = pl[i] := ⟨_, rfl⟩
          rw [← hpe] at c0 c1 c2
          have HE : Hid (p = pl[i]) := hpe
          have HPK : Hid p.ok := by show p.ok; rw [hpe]; exact HPO.out _ (List.getElem_mem hil)
          clear hpe
          have HNM : Hid ((totL a b j).length + i < maxLen) := by have := HTJ.out; show _ < _; simp only [maxLen]; omega
          go_wp2_with fail
          refine (put_walk kind _ (World.ownsMap.alloc HM1.out _) (rise_adds rise_nil _) (ok_adds ok_nil (ok_append HTO.out (ok_take HPO.out i))) HNM.out HPK.out.1 HPK.out.2).mono ?_
          rintro e w5 ⟨rfl, hM5, hg5⟩
          have R' := ai_step hil HE.out HMB.out (by omega) HBQ.out (below_alloc _ _) hg5 HS1.out hM5
          clear hM5 hg5
          go_wp2_with fail
          go_roundw
          case rel => exact R'
          case measure => simp [intOf]; omega
        · have HME : Hid (Mp wr w3.heap.size (totL a b (j + 1)).length (addsT kind [] (totL a b (j + 1)))) := by
            have := HM1.out
            rw [List.take_of_length_le (by omega)] at this
            show Mp _ _ _ _
            rw [HPE.out]
            have el : i = pl.length := by omega
            rw [List.length_append, ← el]
            exact this
          have R2 : Ad w w3.heap.size (w3.heap.size + 1) (.slice ao a.length ca) (.slice bo b.length cb) kind a b (.int .i64 ((j : Int) + 1)) wr :=
            ⟨j + 1, by omega, by simp, HME.out, HS1.out, HBQ.out⟩
          go_wp2_with fail
          go_roundw
          case rel => exact R2
          case measure => simp [intOf]; omega
    · have ej : j = 2 := by omega
      subst ej
      have HME : Hid (Mp wr w3.heap.size (a.length + b.length) (addT kind a b)) := by
        have := HM.out
        show Mp _ _ _ _
        unfold addT
        simpa [totL] using this
      go_wp2_with fail
      refine (sorted_walk _ HME.out (rise_adds rise_nil _) (ok_adds ok_nil (ok_append HOA.out HOB.out)) (by have := adds_len kind [] (a ++ b); have := HSZ.out; unfold addT; simp at *; omega)).mono ?_
      rintro e w5 ⟨rfl, hM5, hB5, hl5⟩
      go_wp2_with fail
      go_ret2
      exact ⟨_, rfl, hM5, HBR.out.size, hl5, below_trans HBR.out hB5⟩
end Go.Proofs.Ytfcpooihihklaab
