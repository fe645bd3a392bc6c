/- Open. -/
import Derived.Test.YtnnammlipfappaaJi

namespace Go.Proofs.Ytnnammlipfappaa

open Ieee Go.RowKit



theorem hidH {p : Prop} (h : p) : Hid p := h
/-- The disk behind the reading of its first k blocks. -/
def rdK (S : Dk) : Nat → Dk
  | 0 => S
  | k + 1 => readS (rdK S k) k
theorem rdK_same (S : Dk) (k : Nat) : (rdK S k).bl = S.bl ∧ (rdK S k).down = S.down ∧ (rdK S k).left = S.left ∧ (rdK S k).wr = S.wr ∧ (rdK S k).rd ≤ S.rd + k := by
  induction k with
  | zero => exact ⟨rfl, rfl, rfl, rfl, Nat.le_refl _⟩
  | succ k ih =>
    obtain ⟨h1, h2, h3, h4, h5⟩ := ih
    rw [rdK]
    unfold readS
    split
    · exact ⟨h1, h2, h3, h4, by show (rdK S k).rd + 1 ≤ _; omega⟩
    · exact ⟨h1, h2, h3, h4, by omega⟩
theorem rdK_readL (S : Dk) (k : Nat) (i : Int) : readL (rdK S k) i = readL S i := by
  obtain ⟨h1, h2, _⟩ := rdK_same S k
  unfold readL refI
  rw [h1, h2]
def opnI (S : Dk) (q : Int) : Int := if refJ q ≠ 0 then 1 else if S.down = true then 80 else if opK q S 2 = none then 180 else 0
def opnS (S : Dk) (q : Int) : Dk := if refJ q ≠ 0 then S else if S.down = true then S else rdK S 2
/-- What Open answers. -/
def OpGot (D : Nat → Prop) (dv : Value) (S : Dk) (q : Int) (w : World) (e : Ending) (w' : World) : Prop := ∃ v : Value, e = .returned (.tuple #[v, .int .i64 (opnI S q)]) ∧ Ch D w w' ∧ Dsk 70 D w' dv (opnS S q) ∧ (opnI S q ≠ 0 → v = .pointer none) ∧ (opnI S q = 0 → ∃ (h g : Nat) (n : Nt) (K : Nat → Prop), opK q S 2 = some (h, g, n) ∧ Jr K w' v dv q ⟨g, n, h, false⟩ ∧ ∀ x, K x → w.heap.size ≤ x ∧ ¬ D x)
theorem jopen_nil {w : World} (q : Int) : Calls Try.prog 7 #[.pointer none, .int .i64 q] w fun e w' => e = .returned (.tuple #[.pointer none, .int .i64 2]) ∧ w' = w := by
  go_enter Try.func7, Try.ntmps7
  go_wp2_with fail
  refine (jref_nil q).mono ?_
  rintro e w9 ⟨rfl, h9⟩
  replace h9 := h9.symm
  subst h9
  go_wp2_with fail
  go_ret2
  exact ⟨rfl, rfl⟩
/-- What is found so far. -/
def Fnd (D : Nat → Prop) (w : World) (dv : Value) (q : Int) (S : Dk) (k : Nat) (v : Value) (wr : World) : Prop :=
  (opK q S k = none ∧ v = .pointer none) ∨ ∃ (h g : Nat) (n : Nt) (K : Nat → Prop), opK q S k = some (h, g, n) ∧ Jr K wr v dv q ⟨g, n, h, false⟩ ∧ ∀ x, K x → w.heap.size ≤ x ∧ ¬ D x
theorem Fnd.ch {D E : Nat → Prop} {w wr wr' : World} {dv v : Value} {q : Int} {S : Dk} {k : Nat} (h : Fnd D w dv q S k v wr) (hc : Ch E wr wr') (hE : ∀ x, E x → D x ∨ x < w.heap.size) : Fnd D w dv q S k v wr' := by
  rcases h with h | ⟨h, g, n, K, h1, h2, h3⟩
  · exact .inl h
  · exact .inr ⟨h, g, n, K, h1, h2.keep (fun x hx => hc.block x (h2.lt hx) (fun e => by
      rcases hE x e with h | h
      · exact (h3 x hx).2 h
      · have := (h3 x hx).1; omega)) hc.size, h3⟩
structure OpR (D : Nat → Prop) (w : World) (dv : Value) (q : Int) (S : Dk) (k : Nat) (v : Value) (wr : World) : Prop where
  ch : Ch D w wr
  d : Dsk 70 D wr dv (rdK S k)
  f : Fnd D w dv q S k v wr
section

variable {D : Nat → Prop} {w : World} {dv : Value} {S : Dk} {q : Int}

theorem op_no {w' : World} {c : Int} (hC : Ch D w w') (hd : Dsk 70 D w' dv (opnS S q)) (hI : opnI S q = c) (h0 : c ≠ 0) : OpGot D dv S q w (.returned (.tuple #[.pointer none, .int .i64 c])) w' :=
  ⟨_, by rw [hI], hC, hd, fun _ => rfl, fun h => absurd (hI.symm.trans h) h0⟩
/-- A journal is found. -/
theorem op_found {w4 : World} {sv : Value} {h g : Nat} {n : Nt} {pa ca : Option Addr} {pc cc : Nat} (hd : Dsk 70 D w4 sv S) (hw : w.heap.size ≤ w4.heap.size) (h1 : OwN w.heap.size w4 (.slice pa n.p.length pc) n.p) (h2 : OwN w.heap.size w4 (.slice ca n.c.length cc) n.c) (n1 : ∀ x, (Value.slice pa n.p.length pc).ownBlock = some x → ¬ D x) (n2 : ∀ x, (Value.slice ca n.c.length cc).ownBlock = some x → ¬ D x) (hg1 : 1 ≤ g) (hg2 : g ≤ 1099511627776) (hr : Rgt n q) (hq : q ≤ 4) (hh : h ≤ 1) :
    ∃ K : Nat → Prop, Jr K (w4.alloc (Obj.cells #[.int .i64 g, .int .i64 n.b, .slice pa n.p.length pc, .slice ca n.c.length cc, .int .i64 n.a, sv, .int .i64 h, .bool false] 64)) (.pointer (some ⟨w4.heap.size, 0, none⟩)) sv q ⟨g, n, h, false⟩ ∧ ∀ x, K x → w.heap.size ≤ x ∧ ¬ D x := by
  have hb := below_alloc w4 (Obj.cells #[.int .i64 g, .int .i64 n.b, .slice pa n.p.length pc, .slice ca n.c.length cc, .int .i64 n.a, sv, .int .i64 h, .bool false] 64)
  have hs := alloc_size w4 (Obj.cells #[.int .i64 g, .int .i64 n.b, .slice pa n.p.length pc, .slice ca n.c.length cc, .int .i64 n.a, sv, .int .i64 h, .bool false] 64)
  refine ⟨fun x => x = w4.heap.size ∨ (Value.slice pa n.p.length pc).ownBlock = some x ∨ (Value.slice ca n.c.length cc).ownBlock = some x, ⟨w4.heap.size, _, _, rfl, ⟨alloc_at rfl, ?_, ?_, .inl rfl, fun x hx => ⟨.inr (.inl hx), ?_⟩, fun x hx => ⟨.inr (.inr hx), ?_⟩, ?_, ⟨hg1, hg2, hr, hq, hh⟩⟩⟩, ?_⟩
  · exact own_base (own_below h1 hb) (Nat.zero_le _)
  · exact own_base (own_below h2 hb) (Nat.zero_le _)
  · have := (h1.lt x hx).2; omega
  · have := (h2.lt x hx).2; omega
  · rintro x (rfl | hx | hx)
    · omega
    · have := (h1.lt x hx).2; omega
    · have := (h2.lt x hx).2; omega
  · rintro x (rfl | hx | hx)
    · exact ⟨hw, fun h => by have := hd.lt h; omega⟩
    · exact ⟨(h1.lt x hx).1, n1 x hx⟩
    · exact ⟨(h2.lt x hx).1, n2 x hx⟩
set_option maxRecDepth 100000 in
set_option maxHeartbeats 8000000 in
theorem jopen_walk (h : Dsk 70 D w dv S) (hrd : S.rd < 9223372036854775800) : Calls Try.prog 7 #[dv, .int .i64 q] w (OpGot D dv S q w) := by
  have HD : Hid (Dsk 70 D w dv S) := h
  have HRD : Hid (S.rd < 9223372036854775800) := hrd
  obtain ⟨sb, gp, cap, rfl, _, _⟩ := h
  clear hrd
  by_cases hr : refJ q = 0
  rotate_left
  · have HR : Hid (refJ q = 1) := refJ_no hr
    have HA : Hid (OpGot D (.pointer (some ⟨sb, 0, none⟩)) S q w (.returned (.tuple #[.pointer none, .int .i64 1])) w) := op_no (Ch.refl _ _) (by unfold opnS; rw [if_pos hr]; exact HD.out) (by unfold opnI; rw [if_pos hr]) (by decide)
    clear hr
    go_enter Try.func7, Try.ntmps7
    go_wp2_with fail
    refine (jref_walk _ q).mono ?_
    rintro e w9 ⟨rfl, h9⟩
    replace h9 := h9.symm
    subst h9
    rw [HR.out]
    go_wp2_with fail
    go_ret2
    exact HA.out
  have HR : Hid (refJ q = 0) := hr
  have HQ4 : Hid (q ≤ 4) := by show _ ≤ _; obtain ⟨k, rfl, _, h4⟩ := refJ_ok hr; omega
  clear hr
  cases hdn : S.down
  rotate_left
  · have HA : Hid (OpGot D (.pointer (some ⟨sb, 0, none⟩)) S q w (.returned (.tuple #[.pointer none, .int .i64 80])) w) := op_no (Ch.refl _ _) (by unfold opnS; rw [if_neg (by simp [HR.out]), if_pos hdn]; exact HD.out) (by unfold opnI; rw [if_neg (by simp [HR.out]), if_pos hdn]) (by decide)
    have HDN : Hid (S.down = true) := hdn
    clear hdn
    go_enter Try.func7, Try.ntmps7
    go_wp2_with fail
    refine (jref_walk _ q).mono ?_
    rintro e w9 ⟨rfl, h9⟩
    replace h9 := h9.symm
    subst h9
    rw [HR.out]
    go_wp2_with fail
    refine (down_walk HD.out).mono ?_
    rintro e w9 ⟨rfl, h9⟩
    replace h9 := h9.symm
    subst h9
    rw [HDN.out]
    go_wp2_with fail
    go_ret2
    exact HA.out
  have HDN : Hid (S.down = false) := hdn
  have HIF : Hid (opnI S q = if opK q S 2 = none then 180 else 0) := by show _ = _; unfold opnI; rw [if_neg (by simp [HR.out]), if_neg (by simp [hdn])]
  have HSF : Hid (opnS S q = rdK S 2) := by show _ = _; unfold opnS; rw [if_neg (by simp [HR.out]), if_neg (by simp [hdn])]
  clear hdn
  have HST : Hid (OpR D w (.pointer (some ⟨sb, 0, none⟩)) q S 0 (.pointer none) w) := ⟨Ch.refl _ _, HD.out, .inl ⟨rfl, rfl⟩⟩
  go_enter Try.func7, Try.ntmps7
  go_wp2_with fail
  refine (jref_walk _ q).mono ?_
  rintro e w9 ⟨rfl, h9⟩
  replace h9 := h9.symm
  subst h9
  rw [HR.out]
  go_wp2_with fail
  refine (down_walk HD.out).mono ?_
  rintro e w9 ⟨rfl, h9⟩
  replace h9 := h9.symm
  subst h9
  rw [HDN.out]
  go_wp2_with fail
  go_loopw [7, 21] (fun fv iv wr => ∃ k : Nat, k ≤ 2 ∧ iv = .int .i64 k ∧ OpR D w (.pointer (some ⟨sb, 0, none⟩)) q S k fv wr) (fun _ iv _ => 2 - (intOf iv).toNat)
  case atStart => exact ⟨0, by omega, rfl, HST.out⟩
  case round =>
    clear HST
    obtain ⟨k, hk, rfl, hO⟩ := hrel
    have HO : Hid (OpR D w (.pointer (some ⟨sb, 0, none⟩)) q S k u7 wr) := hO
    clear hO
    by_cases hlt : k < 2
    · go_wp2_with fail
      refine (read_walk HO.out.d (k : Int) (by have := (rdK_same S k).2.2.2.2; have := HRD.out; omega)).mono ?_
      rintro e w1 ⟨bv, rfl, hbo, hd1, hC1⟩
      have HD1 : Hid (Dsk 70 D w1 (.pointer (some ⟨sb, 0, none⟩)) (rdK S (k + 1))) := hd1
      have HC1 : Hid (Ch D wr w1) := hC1
      have HRL : Hid (readL (rdK S k) k = readL S k) := rdK_readL S k k
      have HBV : Hid (Bv w1 bv (readL S k)) := by
        show Bv _ _ _
        rw [rdK_readL] at hbo
        refine own_bv hbo ?_
        unfold readL
        split
        · rename_i h0
          obtain ⟨_, j, hj, hjl⟩ := ref_ok h0
          have hm := bk_mem (ls := S.bl) (i := (k : Int).toNat) (by omega)
          exact HD.out.good.byt _ hm
        · simp
      have HF1 : Hid (Fnd D w (.pointer (some ⟨sb, 0, none⟩)) q S k u7 w1) := HO.out.f.ch hC1 (fun x hx => .inl hx)
      have HCW : Hid (Ch D w w1) := HO.out.ch.trans hC1 (fun x hx => .inl hx)
      generalize refI (rdK S k) (k : Int) = re
      clear hbo hd1 hC1
      go_wp2_with fail
      refine (takeE_walk HBV.out HQ4.out).mono ?_
      rintro e w2 ⟨hB2, ⟨htk, rfl⟩ | ⟨g, n, pa, ca, pc, cc, htk, rfl, ho1, ho2⟩⟩
      · have HNX : Hid (opK q S (k + 1) = opK q S k) := opK_none htk
        obtain ⟨w3, hw3⟩ : ∃ w3, w3 = w2.alloc (Obj.cells #[.int .i64 0, .int .i64 0, .slice none 0 0, .slice none 0 0, .int .i64 0] 60) := ⟨_, rfl⟩
        have HB13 : Hid (Below w1.heap.size w1 w3) := by show Below _ _ _; rw [hw3]; exact below_trans hB2 (below_alloc _ _)
        have HW3 : Hid (w3 = w2.alloc (Obj.cells #[.int .i64 0, .int .i64 0, .slice none 0 0, .slice none 0 0, .int .i64 0] 60)) := hw3
        have HNEW : Hid (∀ wx, Below w3.heap.size w3 wx → OpR D w (.pointer (some ⟨sb, 0, none⟩)) q S (k + 1) u7 wx) := fun wx hb => by
          have hb1 := below_trans HB13.out hb
          refine ⟨HCW.out.trans (Ch.of_below (D := D) hb1) (fun x hx => .inl hx), HD1.out.below hb1, ?_⟩
          have := HF1.out.ch (Ch.of_below (D := fun _ => False) hb1) (fun x hx => hx.elim)
          unfold Fnd at this ⊢
          rw [HNX.out]
          exact this
        clear htk hB2 hw3
        go_wp2_with fail
        rw [← HW3.out]
        refine wp_region_noPanic ?_
        refine wp_region_held_drew (S := fun _ => True) (by kernel_rfl) ?_ (fun hHeld => ?_)
        · exact trivial
        refine wpAnyH_take (i := 0) (oi := ⟨some 36, _, _, _, _, _⟩) (v := ?_) rfl (by kernel_rfl) (by kernel_rfl) (by kernel_rfl) (fun _ _ _ h => h) (Or.inl ⟨by rfl, ?_⟩) hHeld ?_
        rotate_left
        · intro w hSw; (try dsimp only at hSw); go_simp; all_goals (with_reducible rfl)
        try simp only [Act.put, List.setIfInBounds_toArray, List.set_cons_zero, List.set_cons_succ]
        refine wpAnyH_take (i := 1) (oi := ⟨some 37, _, _, _, _, _⟩) (v := ?_) rfl (by kernel_rfl) (by kernel_rfl) (by kernel_rfl) (fun _ _ _ h => h) (Or.inl ⟨by rfl, ?_⟩) hHeld ?_
        rotate_left
        · intro w hSw; (try dsimp only at hSw); go_simp; all_goals (with_reducible rfl)
        try simp only [Act.put, List.setIfInBounds_toArray, List.set_cons_zero, List.set_cons_succ]
        refine wpAnyH_take (i := 2) (oi := ⟨some 38, _, _, _, _, _⟩) (v := undef) rfl (by kernel_rfl) (by kernel_rfl) (by kernel_rfl) (fun _ _ _ h => h) (Or.inr ⟨by rfl, rfl⟩) hHeld ?_
        try simp only [Act.put, List.setIfInBounds_toArray, List.set_cons_zero, List.set_cons_succ]
        refine wpAnyH_take (i := 3) (oi := ⟨some 39, _, _, _, _, _⟩) (v := undef) rfl (by kernel_rfl) (by kernel_rfl) (by kernel_rfl) (fun _ _ _ h => h) (Or.inr ⟨by rfl, rfl⟩) hHeld ?_
        try simp only [Act.put, List.setIfInBounds_toArray, List.set_cons_zero, List.set_cons_succ]
        refine wpAnyH_take (i := 4) (oi := ⟨some 40, _, _, _, _, _⟩) (v := undef) rfl (by kernel_rfl) (by kernel_rfl) (by kernel_rfl) (fun _ _ _ h => h) (Or.inr ⟨by rfl, rfl⟩) hHeld ?_
        try simp only [Act.put, List.setIfInBounds_toArray, List.set_cons_zero, List.set_cons_succ]
        refine wpAnyH_take (i := 5) (oi := ⟨some 41, _, _, _, _, _⟩) (v := undef) rfl (by kernel_rfl) (by kernel_rfl) (by kernel_rfl) (fun _ _ _ h => h) (Or.inr ⟨by rfl, rfl⟩) hHeld ?_
        try simp only [Act.put, List.setIfInBounds_toArray, List.set_cons_zero, List.set_cons_succ]
        refine wpAnyH_take (i := 6) (oi := ⟨some 42, _, _, _, _, _⟩) (v := undef) rfl (by kernel_rfl) (by kernel_rfl) (by kernel_rfl) (fun _ _ _ h => h) (Or.inr ⟨by rfl, rfl⟩) hHeld ?_
        try simp only [Act.put, List.setIfInBounds_toArray, List.set_cons_zero, List.set_cons_succ]
        refine wpAnyH_take (i := 7) (oi := ⟨some 43, _, _, _, _, _⟩) (v := undef) rfl (by kernel_rfl) (by kernel_rfl) (by kernel_rfl) (fun _ _ _ h => h) (Or.inr ⟨by rfl, rfl⟩) hHeld ?_
        try simp only [Act.put, List.setIfInBounds_toArray, List.set_cons_zero, List.set_cons_succ]
        refine wpAnyH_take (i := 8) (oi := ⟨some 44, _, _, _, _, _⟩) (v := undef) rfl (by kernel_rfl) (by kernel_rfl) (by kernel_rfl) (fun _ _ _ h => h) (Or.inr ⟨by rfl, rfl⟩) hHeld ?_
        try simp only [Act.put, List.setIfInBounds_toArray, List.set_cons_zero, List.set_cons_succ]
        refine wpAnyH_take (i := 9) (oi := ⟨some 45, _, _, _, _, _⟩) (v := undef) rfl (by kernel_rfl) (by kernel_rfl) (by kernel_rfl) (fun _ _ _ h => h) (Or.inr ⟨by rfl, rfl⟩) hHeld ?_
        try simp only [Act.put, List.setIfInBounds_toArray, List.set_cons_zero, List.set_cons_succ]
        refine wpAnyH_take (i := 10) (oi := ⟨some 46, _, _, _, _, _⟩) (v := undef) rfl (by kernel_rfl) (by kernel_rfl) (by kernel_rfl) (fun _ _ _ h => h) (Or.inr ⟨by rfl, rfl⟩) hHeld ?_
        try simp only [Act.put, List.setIfInBounds_toArray, List.set_cons_zero, List.set_cons_succ]
        refine wpAnyH_take (i := 11) (oi := ⟨some 47, _, _, _, _, _⟩) (v := undef) rfl (by kernel_rfl) (by kernel_rfl) (by kernel_rfl) (fun _ _ _ h => h) (Or.inr ⟨by rfl, rfl⟩) hHeld ?_
        try simp only [Act.put, List.setIfInBounds_toArray, List.set_cons_zero, List.set_cons_succ]
        refine wpAnyH_take (i := 12) (oi := ⟨some 48, _, _, _, _, _⟩) (v := undef) rfl (by kernel_rfl) (by kernel_rfl) (by kernel_rfl) (fun _ _ _ h => h) (Or.inr ⟨by rfl, rfl⟩) hHeld ?_
        try simp only [Act.put, List.setIfInBounds_toArray, List.set_cons_zero, List.set_cons_succ]
        refine wpAnyH_take (i := 13) (oi := ⟨some 49, _, _, _, _, _⟩) (v := undef) rfl (by kernel_rfl) (by kernel_rfl) (by kernel_rfl) (fun _ _ _ h => h) (Or.inr ⟨by rfl, rfl⟩) hHeld ?_
        try simp only [Act.put, List.setIfInBounds_toArray, List.set_cons_zero, List.set_cons_succ]
        refine wpAnyH_take (i := 14) (oi := ⟨some 50, _, _, _, _, _⟩) (v := ?_) rfl (by kernel_rfl) (by kernel_rfl) (by kernel_rfl) (fun _ _ _ h => h) (Or.inl ⟨by rfl, ?_⟩) hHeld ?_
        rotate_left
        · intro w hSw; (try dsimp only at hSw); go_simp; all_goals (with_reducible rfl)
        try simp only [Act.put, List.setIfInBounds_toArray, List.set_cons_zero, List.set_cons_succ]
        refine wpAnyH_done (by kernel_rfl) ?_ _
        refine NoPanic.normal ?_
        go_wp2_with fail
        go_roundw
        case rel => exact ⟨k + 1, by omega, by go_num, HNEW.out _ (below_drewN w3 1)⟩
        case measure => simp [intOf]; omega
      · obtain ⟨w3, hw3⟩ : ∃ w3, w3 = w2.alloc (Obj.cells #[.int .i64 g, .int .i64 n.b, .slice pa n.p.length pc, .slice ca n.c.length cc, .int .i64 n.a] 60) := ⟨_, rfl⟩
        have HB13 : Hid (Below w1.heap.size w1 w3) := by show Below _ _ _; rw [hw3]; exact below_trans hB2 (below_alloc _ _)
        have HW3 : Hid (w3 = w2.alloc (Obj.cells #[.int .i64 g, .int .i64 n.b, .slice pa n.p.length pc, .slice ca n.c.length cc, .int .i64 n.a] 60)) := hw3
        have HE3 : Hid (w3.heap[w2.heap.size]? = some (.cells #[.int .i64 g, .int .i64 n.b, .slice pa n.p.length pc, .slice ca n.c.length cc, .int .i64 n.a] 60 (0, 0))) := by show _ = _; rw [hw3]; exact alloc_at rfl
        have HOP : Hid (OwN w1.heap.size w3 (.slice pa n.p.length pc) n.p) := by show World.ownsRow _ _ _ _ _ _ _; rw [hw3]; exact own_below ho1 (below_alloc _ _)
        have HOC : Hid (OwN w1.heap.size w3 (.slice ca n.c.length cc) n.c) := by show World.ownsRow _ _ _ _ _ _ _; rw [hw3]; exact own_below ho2 (below_alloc _ _)
        have HTK : Hid (takE q (readL S k) = some (g, n)) := htk
        have HG : Hid (1 ≤ g ∧ g ≤ 1099511627776 ∧ Rgt n q) := takE_some htk
        have HEL : Hid (w2.heap.size < w3.heap.size) := blk_lt HE3.out
        -- found anew
        have HYES : Hid (opK q S (k + 1) = some (k, g, n) → ∀ wx, Below w3.heap.size w3 wx → OpR D w (.pointer (some ⟨sb, 0, none⟩)) q S (k + 1) (.pointer (some ⟨wx.heap.size, 0, none⟩)) (wx.alloc (Obj.cells #[.int .i64 g, .int .i64 n.b, .slice pa n.p.length pc, .slice ca n.c.length cc, .int .i64 n.a, .pointer (some ⟨sb, 0, none⟩), .int .i64 k, .bool false] 64))) := fun hop wx hb => by
          have hb1 := below_trans HB13.out hb
          have hws : w.heap.size ≤ w1.heap.size := HCW.out.size
          obtain ⟨K, hJ, hK⟩ := op_found (w := w) (D := D) (h := k) (g := g) (n := n) (q := q) (HD1.out.below hb1) (Nat.le_trans hws hb1.size) (own_base (own_below HOP.out hb) hws) (own_base (own_below HOC.out hb) hws) (fun x hx h => by have := HD1.out.lt h; have := (HOP.out.lt x hx).1; omega) (fun x hx h => by have := HD1.out.lt h; have := (HOC.out.lt x hx).1; omega) HG.out.1 HG.out.2.1 HG.out.2.2 HQ4.out (by omega)
          exact ⟨HCW.out.trans (Ch.of_below (D := D) (below_trans hb1 (below_alloc _ _))) (fun x hx => .inl hx), HD1.out.below (below_trans hb1 (below_alloc _ _)), .inr ⟨k, g, n, K, hop, hJ, hK⟩⟩
        have HNO : Hid (opK q S (k + 1) = opK q S k → ∀ wx, Below w3.heap.size w3 wx → OpR D w (.pointer (some ⟨sb, 0, none⟩)) q S (k + 1) u7 wx) := fun hop wx hb => by
          have hb1 := below_trans HB13.out hb
          refine ⟨HCW.out.trans (Ch.of_below (D := D) hb1) (fun x hx => .inl hx), HD1.out.below hb1, ?_⟩
          have := HF1.out.ch (Ch.of_below (D := fun _ => False) hb1) (fun x hx => hx.elim)
          unfold Fnd at this ⊢
          rw [hop]
          exact this
        have e0 : ∀ wx, Below w3.heap.size w3 wx → wx.cell? ⟨w2.heap.size, 0, none⟩ = some (.int .i64 g) := fun wx hb => by rw [hb.cell (p := ⟨w2.heap.size, 0, none⟩) HEL.out, blk_cell HE3.out]; rfl
        have d0 := e0 _ (below_drew w3)
        have d1 : w3.drew.cell? ⟨w2.heap.size, 1, none⟩ = some (.int .i64 n.b) := by rw [(below_drew w3).cell (p := ⟨w2.heap.size, 1, none⟩) HEL.out, blk_cell HE3.out]; rfl
        have d2 : w3.drew.cell? ⟨w2.heap.size, 2, none⟩ = some (.slice pa n.p.length pc) := by rw [(below_drew w3).cell (p := ⟨w2.heap.size, 2, none⟩) HEL.out, blk_cell HE3.out]; rfl
        have d3 : w3.drew.cell? ⟨w2.heap.size, 3, none⟩ = some (.slice ca n.c.length cc) := by rw [(below_drew w3).cell (p := ⟨w2.heap.size, 3, none⟩) HEL.out, blk_cell HE3.out]; rfl
        have d4 : w3.drew.cell? ⟨w2.heap.size, 4, none⟩ = some (.int .i64 n.a) := by rw [(below_drew w3).cell (p := ⟨w2.heap.size, 4, none⟩) HEL.out, blk_cell HE3.out]; rfl
        clear htk hB2 hw3 ho1 ho2
        rcases (show Fnd D w (.pointer (some ⟨sb, 0, none⟩)) q S k u7 w1 from HF1.out) with ⟨hno, rfl⟩ | ⟨h', g', n', K', hso, hJr, hK'⟩
        · have HY2 := hidH (HYES.out (opK_first HTK.out hno))
          clear HYES HNO HF1 HO hno
          go_wp2_with fail
          rw [← HW3.out]
          refine wp_region_noPanic ?_
          refine wp_region_held_drew (S := fun wx => Below w3.heap.size w3 wx) (by kernel_rfl) ?_ (fun hHeld => ?_)
          · exact below_drewN w3 1
          refine wpAnyH_take (i := 0) (oi := ⟨some 36, _, _, _, _, _⟩) (v := ?_) rfl (by kernel_rfl) (by kernel_rfl) (by kernel_rfl) (fun _ _ _ h => h) (Or.inl ⟨by rfl, ?_⟩) hHeld ?_
          rotate_left
          · intro w hSw; (try dsimp only at hSw); go_simp; all_goals (with_reducible rfl)
          try simp only [Act.put, List.setIfInBounds_toArray, List.set_cons_zero, List.set_cons_succ]
          refine wpAnyH_take (i := 1) (oi := ⟨some 37, _, _, _, _, _⟩) (v := ?_) rfl (by kernel_rfl) (by kernel_rfl) (by kernel_rfl) (fun _ _ _ h => h) (Or.inl ⟨by rfl, ?_⟩) hHeld ?_
          rotate_left
          · intro w hSw; (try dsimp only at hSw); go_simp; all_goals (with_reducible rfl)
          try simp only [Act.put, List.setIfInBounds_toArray, List.set_cons_zero, List.set_cons_succ]
          refine wpAnyH_take (i := 2) (oi := ⟨some 38, _, _, _, _, _⟩) (v := ?_) rfl (by kernel_rfl) (by kernel_rfl) (by kernel_rfl) (fun _ _ _ h => h) (Or.inl ⟨by rfl, ?_⟩) hHeld ?_
          rotate_left
          · intro w hSw; (try dsimp only at hSw); go_simp; all_goals (with_reducible rfl)
          try simp only [Act.put, List.setIfInBounds_toArray, List.set_cons_zero, List.set_cons_succ]
          refine wpAnyH_take (i := 3) (oi := ⟨some 39, _, _, _, _, _⟩) (v := ?_) rfl (by kernel_rfl) (by kernel_rfl) (by kernel_rfl) (fun _ _ _ h => h) (Or.inl ⟨by rfl, ?_⟩) hHeld ?_
          rotate_left
          · intro w hSw; (try dsimp only at hSw); go_simp; all_goals (with_reducible rfl)
          try simp only [Act.put, List.setIfInBounds_toArray, List.set_cons_zero, List.set_cons_succ]
          refine wpAnyH_take (i := 4) (oi := ⟨some 40, _, _, _, _, _⟩) (v := ?_) rfl (by kernel_rfl) (by kernel_rfl) (by kernel_rfl) (fun _ _ _ h => h) (Or.inl ⟨by rfl, ?_⟩) hHeld ?_
          rotate_left
          · intro w hSw; (try dsimp only at hSw); go_simp; all_goals (with_reducible rfl)
          try simp only [Act.put, List.setIfInBounds_toArray, List.set_cons_zero, List.set_cons_succ]
          refine wpAnyH_take (i := 5) (oi := ⟨some 41, _, _, _, _, _⟩) (v := undef) rfl (by kernel_rfl) (by kernel_rfl) (by kernel_rfl) (fun _ _ _ h => h) (Or.inr ⟨by rfl, rfl⟩) hHeld ?_
          try simp only [Act.put, List.setIfInBounds_toArray, List.set_cons_zero, List.set_cons_succ]
          refine wpAnyH_take (i := 6) (oi := ⟨some 42, _, _, _, _, _⟩) (v := undef) rfl (by kernel_rfl) (by kernel_rfl) (by kernel_rfl) (fun _ _ _ h => h) (Or.inr ⟨by rfl, rfl⟩) hHeld ?_
          try simp only [Act.put, List.setIfInBounds_toArray, List.set_cons_zero, List.set_cons_succ]
          refine wpAnyH_take (i := 7) (oi := ⟨some 43, _, _, _, _, _⟩) (v := undef) rfl (by kernel_rfl) (by kernel_rfl) (by kernel_rfl) (fun _ _ _ h => h) (Or.inr ⟨by rfl, rfl⟩) hHeld ?_
          try simp only [Act.put, List.setIfInBounds_toArray, List.set_cons_zero, List.set_cons_succ]
          refine wpAnyH_take (i := 8) (oi := ⟨some 44, _, _, _, _, _⟩) (v := undef) rfl (by kernel_rfl) (by kernel_rfl) (by kernel_rfl) (fun _ _ _ h => h) (Or.inr ⟨by rfl, rfl⟩) hHeld ?_
          try simp only [Act.put, List.setIfInBounds_toArray, List.set_cons_zero, List.set_cons_succ]
          refine wpAnyH_take (i := 9) (oi := ⟨some 45, _, _, _, _, _⟩) (v := undef) rfl (by kernel_rfl) (by kernel_rfl) (by kernel_rfl) (fun _ _ _ h => h) (Or.inr ⟨by rfl, rfl⟩) hHeld ?_
          try simp only [Act.put, List.setIfInBounds_toArray, List.set_cons_zero, List.set_cons_succ]
          refine wpAnyH_take (i := 10) (oi := ⟨some 46, _, _, _, _, _⟩) (v := undef) rfl (by kernel_rfl) (by kernel_rfl) (by kernel_rfl) (fun _ _ _ h => h) (Or.inr ⟨by rfl, rfl⟩) hHeld ?_
          try simp only [Act.put, List.setIfInBounds_toArray, List.set_cons_zero, List.set_cons_succ]
          refine wpAnyH_take (i := 11) (oi := ⟨some 47, _, _, _, _, _⟩) (v := undef) rfl (by kernel_rfl) (by kernel_rfl) (by kernel_rfl) (fun _ _ _ h => h) (Or.inr ⟨by rfl, rfl⟩) hHeld ?_
          try simp only [Act.put, List.setIfInBounds_toArray, List.set_cons_zero, List.set_cons_succ]
          refine wpAnyH_take (i := 12) (oi := ⟨some 48, _, _, _, _, _⟩) (v := undef) rfl (by kernel_rfl) (by kernel_rfl) (by kernel_rfl) (fun _ _ _ h => h) (Or.inr ⟨by rfl, rfl⟩) hHeld ?_
          try simp only [Act.put, List.setIfInBounds_toArray, List.set_cons_zero, List.set_cons_succ]
          refine wpAnyH_take (i := 13) (oi := ⟨some 49, _, _, _, _, _⟩) (v := ?_) rfl (by kernel_rfl) (by kernel_rfl) (by kernel_rfl) (fun _ _ _ h => h) (Or.inl ⟨by rfl, ?_⟩) hHeld ?_
          rotate_left
          · intro w hSw; (try dsimp only at hSw); go_simp; all_goals (with_reducible rfl)
          try simp only [Act.put, List.setIfInBounds_toArray, List.set_cons_zero, List.set_cons_succ]
          refine wpAnyH_take (i := 14) (oi := ⟨some 50, _, _, _, _, _⟩) (v := ?_) rfl (by kernel_rfl) (by kernel_rfl) (by kernel_rfl) (fun _ _ _ h => h) (Or.inl ⟨by rfl, ?_⟩) hHeld ?_
          rotate_left
          · intro w hSw; (try dsimp only at hSw); go_simp; all_goals (with_reducible rfl)
          try simp only [Act.put, List.setIfInBounds_toArray, List.set_cons_zero, List.set_cons_succ]
          refine wpAnyH_done (by kernel_rfl) ?_ _
          refine NoPanic.normal ?_
          generalize hw4 : w3.drew = w4 at d0 d1 d2 d3 d4 ⊢
          have HB34 : Hid (Below w3.heap.size w3 w4) := by show Below _ _ _; rw [← hw4]; exact below_drew w3
          clear hw4 e0
          go_wp2_with fail
          go_roundw
          case rel => exact ⟨k + 1, by omega, by go_num, HY2.out _ HB34.out⟩
          case measure => simp [intOf]; omega
        · obtain ⟨jb, jp, jc, rfl, hj⟩ := hJr
          have HSO : Hid (opK q S k = some (h', g', n')) := hso
          have HJL : Hid (jb < w1.heap.size) := hj.kl _ hj.kj
          have j0 : ∀ wx, Below w3.heap.size w3 wx → wx.cell? ⟨jb, 0, none⟩ = some (.int .i64 g') := fun wx hb => by rw [(below_trans HB13.out hb).cell (p := ⟨jb, 0, none⟩) HJL.out, hj.cell]; rfl
          have HJ0 := hidH j0
          clear hj j0 hso hK'
          have j0 := HJ0.out
          by_cases hgt : g' < g
          · have HY2 := hidH (HYES.out (by rw [opK_more HTK.out HSO.out, if_pos hgt]))
            have hgb : decide (g' < g) = true := by rw [decide_eq_true_iff]; omega
            clear HYES HNO HF1 HO hgt
            go_wp2_with fail
            rw [← HW3.out]
            refine wp_region_noPanic ?_
            refine wp_region_held_drew (S := fun wx => Below w3.heap.size w3 wx) (by kernel_rfl) ?_ (fun hHeld => ?_)
            · exact below_drewN w3 1
            refine wpAnyH_take (i := 0) (oi := ⟨some 36, _, _, _, _, _⟩) (v := ?_) rfl (by kernel_rfl) (by kernel_rfl) (by kernel_rfl) (fun _ _ _ h => h) (Or.inl ⟨by rfl, ?_⟩) hHeld ?_
            rotate_left
            · intro w hSw; (try dsimp only at hSw); go_simp; all_goals (with_reducible rfl)
            try simp only [Act.put, List.setIfInBounds_toArray, List.set_cons_zero, List.set_cons_succ]
            refine wpAnyH_take (i := 1) (oi := ⟨some 37, _, _, _, _, _⟩) (v := ?_) rfl (by kernel_rfl) (by kernel_rfl) (by kernel_rfl) (fun _ _ _ h => h) (Or.inl ⟨by rfl, ?_⟩) hHeld ?_
            rotate_left
            · intro w hSw; (try dsimp only at hSw); go_simp; all_goals (with_reducible rfl)
            try simp only [Act.put, List.setIfInBounds_toArray, List.set_cons_zero, List.set_cons_succ]
            refine wpAnyH_take (i := 2) (oi := ⟨some 38, _, _, _, _, _⟩) (v := ?_) rfl (by kernel_rfl) (by kernel_rfl) (by kernel_rfl) (fun _ _ _ h => h) (Or.inl ⟨by rfl, ?_⟩) hHeld ?_
            rotate_left
            · intro w hSw; (try dsimp only at hSw); go_simp; all_goals (with_reducible rfl)
            try simp only [Act.put, List.setIfInBounds_toArray, List.set_cons_zero, List.set_cons_succ]
            refine wpAnyH_take (i := 3) (oi := ⟨some 39, _, _, _, _, _⟩) (v := ?_) rfl (by kernel_rfl) (by kernel_rfl) (by kernel_rfl) (fun _ _ _ h => h) (Or.inl ⟨by rfl, ?_⟩) hHeld ?_
            rotate_left
            · intro w hSw; (try dsimp only at hSw); go_simp; all_goals (with_reducible rfl)
            try simp only [Act.put, List.setIfInBounds_toArray, List.set_cons_zero, List.set_cons_succ]
            refine wpAnyH_take (i := 4) (oi := ⟨some 40, _, _, _, _, _⟩) (v := ?_) rfl (by kernel_rfl) (by kernel_rfl) (by kernel_rfl) (fun _ _ _ h => h) (Or.inl ⟨by rfl, ?_⟩) hHeld ?_
            rotate_left
            · intro w hSw; (try dsimp only at hSw); go_simp; all_goals (with_reducible rfl)
            try simp only [Act.put, List.setIfInBounds_toArray, List.set_cons_zero, List.set_cons_succ]
            refine wpAnyH_take (i := 5) (oi := ⟨some 41, _, _, _, _, _⟩) (v := ?_) rfl (by kernel_rfl) (by kernel_rfl) (by kernel_rfl) (fun _ _ _ h => h) (Or.inl ⟨by rfl, ?_⟩) hHeld ?_
            rotate_left
            · intro w hSw; (try dsimp only at hSw); go_simp; all_goals (with_reducible rfl)
            try simp only [Act.put, List.setIfInBounds_toArray, List.set_cons_zero, List.set_cons_succ]
            refine wpAnyH_take (i := 6) (oi := ⟨some 42, _, _, _, _, _⟩) (v := ?_) rfl (by kernel_rfl) (by kernel_rfl) (by kernel_rfl) (fun _ _ _ h => h) (Or.inl ⟨by rfl, ?_⟩) hHeld ?_
            rotate_left
            · intro w hSw; (try dsimp only at hSw); go_simp; all_goals (with_reducible rfl)
            try simp only [Act.put, List.setIfInBounds_toArray, List.set_cons_zero, List.set_cons_succ]
            refine wpAnyH_take (i := 7) (oi := ⟨some 43, _, _, _, _, _⟩) (v := ?_) rfl (by kernel_rfl) (by kernel_rfl) (by kernel_rfl) (fun _ _ _ h => h) (Or.inl ⟨by rfl, ?_⟩) hHeld ?_
            rotate_left
            · intro w hSw; (try dsimp only at hSw); go_simp; all_goals (with_reducible rfl)
            try simp only [Act.put, List.setIfInBounds_toArray, List.set_cons_zero, List.set_cons_succ]
            refine wpAnyH_take (i := 8) (oi := ⟨some 44, _, _, _, _, _⟩) (v := ?_) rfl (by kernel_rfl) (by kernel_rfl) (by kernel_rfl) (fun _ _ _ h => h) (Or.inl ⟨by rfl, ?_⟩) hHeld ?_
            rotate_left
            · intro w hSw; (try dsimp only at hSw); go_simp; all_goals (with_reducible rfl)
            try simp only [Act.put, List.setIfInBounds_toArray, List.set_cons_zero, List.set_cons_succ]
            refine wpAnyH_take (i := 9) (oi := ⟨some 45, _, _, _, _, _⟩) (v := ?_) rfl (by kernel_rfl) (by kernel_rfl) (by kernel_rfl) (fun _ _ _ h => h) (Or.inl ⟨by rfl, ?_⟩) hHeld ?_
            rotate_left
            · intro w hSw; (try dsimp only at hSw); go_simp; all_goals (with_reducible rfl)
            try simp only [Act.put, List.setIfInBounds_toArray, List.set_cons_zero, List.set_cons_succ]
            refine wpAnyH_take (i := 10) (oi := ⟨some 46, _, _, _, _, _⟩) (v := ?_) rfl (by kernel_rfl) (by kernel_rfl) (by kernel_rfl) (fun _ _ _ h => h) (Or.inl ⟨by rfl, ?_⟩) hHeld ?_
            rotate_left
            · intro w hSw; (try dsimp only at hSw); go_simp; all_goals (with_reducible rfl)
            try simp only [Act.put, List.setIfInBounds_toArray, List.set_cons_zero, List.set_cons_succ]
            refine wpAnyH_take (i := 11) (oi := ⟨some 47, _, _, _, _, _⟩) (v := ?_) rfl (by kernel_rfl) (by kernel_rfl) (by kernel_rfl) (fun _ _ _ h => h) (Or.inl ⟨by rfl, ?_⟩) hHeld ?_
            rotate_left
            · intro w hSw; (try dsimp only at hSw); go_simp; all_goals (with_reducible rfl)
            try simp only [Act.put, List.setIfInBounds_toArray, List.set_cons_zero, List.set_cons_succ]
            refine wpAnyH_take (i := 12) (oi := ⟨some 48, _, _, _, _, _⟩) (v := ?_) rfl (by kernel_rfl) (by kernel_rfl) (by kernel_rfl) (fun _ _ _ h => h) (Or.inl ⟨by rfl, ?_⟩) hHeld ?_
            rotate_left
            · intro w hSw; (try dsimp only at hSw); go_simp; all_goals (with_reducible rfl)
            try simp only [Act.put, List.setIfInBounds_toArray, List.set_cons_zero, List.set_cons_succ]
            refine wpAnyH_take (i := 13) (oi := ⟨some 49, _, _, _, _, _⟩) (v := ?_) rfl (by kernel_rfl) (by kernel_rfl) (by kernel_rfl) (fun _ _ _ h => h) (Or.inl ⟨by rfl, ?_⟩) hHeld ?_
            rotate_left
            · intro w hSw; (try dsimp only at hSw); go_simp; all_goals (with_reducible rfl)
            try simp only [Act.put, List.setIfInBounds_toArray, List.set_cons_zero, List.set_cons_succ]
            refine wpAnyH_take (i := 14) (oi := ⟨some 50, _, _, _, _, _⟩) (v := ?_) rfl (by kernel_rfl) (by kernel_rfl) (by kernel_rfl) (fun _ _ _ h => h) (Or.inl ⟨by rfl, ?_⟩) hHeld ?_
            rotate_left
            · intro w hSw; (try dsimp only at hSw); go_simp; all_goals (with_reducible rfl)
            try simp only [Act.put, List.setIfInBounds_toArray, List.set_cons_zero, List.set_cons_succ]
            refine wpAnyH_done (by kernel_rfl) ?_ _
            refine NoPanic.normal ?_
            generalize hw4 : w3.drew = w4 at d0 d1 d2 d3 d4 ⊢
            have HB34 : Hid (Below w3.heap.size w3 w4) := by show Below _ _ _; rw [← hw4]; exact below_drew w3
            clear hw4 e0 j0
            go_wp2_with fail
            go_roundw
            case rel => exact ⟨k + 1, by omega, by go_num, HY2.out _ HB34.out⟩
            case measure => simp [intOf]; omega
          · have HY2 := hidH (HNO.out (by rw [opK_more HTK.out HSO.out, if_neg hgt, HSO.out]))
            have hgb : decide (g' < g) = false := by rw [decide_eq_false_iff_not]; omega
            clear HYES HNO HF1 HO hgt
            go_wp2_with fail
            rw [← HW3.out]
            refine wp_region_noPanic ?_
            refine wp_region_held_drew (S := fun wx => Below w3.heap.size w3 wx) (by kernel_rfl) ?_ (fun hHeld => ?_)
            · exact below_drewN w3 1
            refine wpAnyH_take (i := 0) (oi := ⟨some 36, _, _, _, _, _⟩) (v := ?_) rfl (by kernel_rfl) (by kernel_rfl) (by kernel_rfl) (fun _ _ _ h => h) (Or.inl ⟨by rfl, ?_⟩) hHeld ?_
            rotate_left
            · intro w hSw; (try dsimp only at hSw); go_simp; all_goals (with_reducible rfl)
            try simp only [Act.put, List.setIfInBounds_toArray, List.set_cons_zero, List.set_cons_succ]
            refine wpAnyH_take (i := 1) (oi := ⟨some 37, _, _, _, _, _⟩) (v := ?_) rfl (by kernel_rfl) (by kernel_rfl) (by kernel_rfl) (fun _ _ _ h => h) (Or.inl ⟨by rfl, ?_⟩) hHeld ?_
            rotate_left
            · intro w hSw; (try dsimp only at hSw); go_simp; all_goals (with_reducible rfl)
            try simp only [Act.put, List.setIfInBounds_toArray, List.set_cons_zero, List.set_cons_succ]
            refine wpAnyH_take (i := 2) (oi := ⟨some 38, _, _, _, _, _⟩) (v := ?_) rfl (by kernel_rfl) (by kernel_rfl) (by kernel_rfl) (fun _ _ _ h => h) (Or.inl ⟨by rfl, ?_⟩) hHeld ?_
            rotate_left
            · intro w hSw; (try dsimp only at hSw); go_simp; all_goals (with_reducible rfl)
            try simp only [Act.put, List.setIfInBounds_toArray, List.set_cons_zero, List.set_cons_succ]
            refine wpAnyH_take (i := 3) (oi := ⟨some 39, _, _, _, _, _⟩) (v := ?_) rfl (by kernel_rfl) (by kernel_rfl) (by kernel_rfl) (fun _ _ _ h => h) (Or.inl ⟨by rfl, ?_⟩) hHeld ?_
            rotate_left
            · intro w hSw; (try dsimp only at hSw); go_simp; all_goals (with_reducible rfl)
            try simp only [Act.put, List.setIfInBounds_toArray, List.set_cons_zero, List.set_cons_succ]
            refine wpAnyH_take (i := 4) (oi := ⟨some 40, _, _, _, _, _⟩) (v := ?_) rfl (by kernel_rfl) (by kernel_rfl) (by kernel_rfl) (fun _ _ _ h => h) (Or.inl ⟨by rfl, ?_⟩) hHeld ?_
            rotate_left
            · intro w hSw; (try dsimp only at hSw); go_simp; all_goals (with_reducible rfl)
            try simp only [Act.put, List.setIfInBounds_toArray, List.set_cons_zero, List.set_cons_succ]
            refine wpAnyH_take (i := 5) (oi := ⟨some 41, _, _, _, _, _⟩) (v := ?_) rfl (by kernel_rfl) (by kernel_rfl) (by kernel_rfl) (fun _ _ _ h => h) (Or.inl ⟨by rfl, ?_⟩) hHeld ?_
            rotate_left
            · intro w hSw; (try dsimp only at hSw); go_simp; all_goals (with_reducible rfl)
            try simp only [Act.put, List.setIfInBounds_toArray, List.set_cons_zero, List.set_cons_succ]
            refine wpAnyH_take (i := 6) (oi := ⟨some 42, _, _, _, _, _⟩) (v := ?_) rfl (by kernel_rfl) (by kernel_rfl) (by kernel_rfl) (fun _ _ _ h => h) (Or.inl ⟨by rfl, ?_⟩) hHeld ?_
            rotate_left
            · intro w hSw; (try dsimp only at hSw); go_simp; all_goals (with_reducible rfl)
            try simp only [Act.put, List.setIfInBounds_toArray, List.set_cons_zero, List.set_cons_succ]
            refine wpAnyH_take (i := 7) (oi := ⟨some 43, _, _, _, _, _⟩) (v := ?_) rfl (by kernel_rfl) (by kernel_rfl) (by kernel_rfl) (fun _ _ _ h => h) (Or.inl ⟨by rfl, ?_⟩) hHeld ?_
            rotate_left
            · intro w hSw; (try dsimp only at hSw); go_simp; all_goals (with_reducible rfl)
            try simp only [Act.put, List.setIfInBounds_toArray, List.set_cons_zero, List.set_cons_succ]
            refine wpAnyH_take (i := 8) (oi := ⟨some 44, _, _, _, _, _⟩) (v := ?_) rfl (by kernel_rfl) (by kernel_rfl) (by kernel_rfl) (fun _ _ _ h => h) (Or.inl ⟨by rfl, ?_⟩) hHeld ?_
            rotate_left
            · intro w hSw; (try dsimp only at hSw); go_simp; all_goals (with_reducible rfl)
            try simp only [Act.put, List.setIfInBounds_toArray, List.set_cons_zero, List.set_cons_succ]
            refine wpAnyH_take (i := 9) (oi := ⟨some 45, _, _, _, _, _⟩) (v := ?_) rfl (by kernel_rfl) (by kernel_rfl) (by kernel_rfl) (fun _ _ _ h => h) (Or.inl ⟨by rfl, ?_⟩) hHeld ?_
            rotate_left
            · intro w hSw; (try dsimp only at hSw); go_simp; all_goals (with_reducible rfl)
            try simp only [Act.put, List.setIfInBounds_toArray, List.set_cons_zero, List.set_cons_succ]
            refine wpAnyH_take (i := 10) (oi := ⟨some 46, _, _, _, _, _⟩) (v := ?_) rfl (by kernel_rfl) (by kernel_rfl) (by kernel_rfl) (fun _ _ _ h => h) (Or.inl ⟨by rfl, ?_⟩) hHeld ?_
            rotate_left
            · intro w hSw; (try dsimp only at hSw); go_simp; all_goals (with_reducible rfl)
            try simp only [Act.put, List.setIfInBounds_toArray, List.set_cons_zero, List.set_cons_succ]
            refine wpAnyH_take (i := 11) (oi := ⟨some 47, _, _, _, _, _⟩) (v := ?_) rfl (by kernel_rfl) (by kernel_rfl) (by kernel_rfl) (fun _ _ _ h => h) (Or.inl ⟨by rfl, ?_⟩) hHeld ?_
            rotate_left
            · intro w hSw; (try dsimp only at hSw); go_simp; all_goals (with_reducible rfl)
            try simp only [Act.put, List.setIfInBounds_toArray, List.set_cons_zero, List.set_cons_succ]
            refine wpAnyH_take (i := 12) (oi := ⟨some 48, _, _, _, _, _⟩) (v := ?_) rfl (by kernel_rfl) (by kernel_rfl) (by kernel_rfl) (fun _ _ _ h => h) (Or.inl ⟨by rfl, ?_⟩) hHeld ?_
            rotate_left
            · intro w hSw; (try dsimp only at hSw); go_simp; all_goals (with_reducible rfl)
            try simp only [Act.put, List.setIfInBounds_toArray, List.set_cons_zero, List.set_cons_succ]
            refine wpAnyH_take (i := 13) (oi := ⟨some 49, _, _, _, _, _⟩) (v := ?_) rfl (by kernel_rfl) (by kernel_rfl) (by kernel_rfl) (fun _ _ _ h => h) (Or.inl ⟨by rfl, ?_⟩) hHeld ?_
            rotate_left
            · intro w hSw; (try dsimp only at hSw); go_simp; all_goals (with_reducible rfl)
            try simp only [Act.put, List.setIfInBounds_toArray, List.set_cons_zero, List.set_cons_succ]
            refine wpAnyH_take (i := 14) (oi := ⟨some 50, _, _, _, _, _⟩) (v := ?_) rfl (by kernel_rfl) (by kernel_rfl) (by kernel_rfl) (fun _ _ _ h => h) (Or.inl ⟨by rfl, ?_⟩) hHeld ?_
            rotate_left
            · intro w hSw; (try dsimp only at hSw); go_simp; all_goals (with_reducible rfl)
            try simp only [Act.put, List.setIfInBounds_toArray, List.set_cons_zero, List.set_cons_succ]
            refine wpAnyH_done (by kernel_rfl) ?_ _
            refine NoPanic.normal ?_
            generalize hw4 : w3.drew = w4 at d0 d1 d2 d3 d4 ⊢
            have HB34 : Hid (Below w3.heap.size w3 w4) := by show Below _ _ _; rw [← hw4]; exact below_drew w3
            clear hw4 e0 j0
            go_wp2_with fail
            go_roundw
            case rel => exact ⟨k + 1, by omega, by go_num, HY2.out _ HB34.out⟩
            case measure => simp [intOf]; omega
    · obtain rfl : k = 2 := by omega
      rcases (show Fnd D w (.pointer (some ⟨sb, 0, none⟩)) q S 2 u7 wr from HO.out.f) with ⟨hno, rfl⟩ | ⟨h', g', n', K', hso, hJr, hK'⟩
      · have HA : Hid (OpGot D (.pointer (some ⟨sb, 0, none⟩)) S q w (.returned (.tuple #[.pointer none, .int .i64 180])) wr) := op_no HO.out.ch (by rw [HSF.out]; exact HO.out.d) (by rw [HIF.out, if_pos hno]) (by decide)
        clear hno
        go_wp2_with fail
        go_ret2
        exact HA.out
      · have HI0 : Hid (opnI S q = 0) := by show _ = _; rw [HIF.out, if_neg (by rw [hso]; simp)]
        have HA : Hid (OpGot D (.pointer (some ⟨sb, 0, none⟩)) S q w (.returned (.tuple #[u7, .int .i64 0])) wr) := ⟨u7, by rw [HI0.out], HO.out.ch, by rw [HSF.out]; exact HO.out.d, fun h => absurd HI0.out h, fun _ => ⟨h', g', n', K', hso, hJr, hK'⟩⟩
        obtain ⟨jb, rfl, _⟩ := hJr.ptr
        clear hso hJr hK'
        go_wp2_with fail
        go_ret2
        exact HA.out
end

end Go.Proofs.Ytnnammlipfappaa


