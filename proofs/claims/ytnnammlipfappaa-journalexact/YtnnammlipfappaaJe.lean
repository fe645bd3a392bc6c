/- bytes. -/
import Derived.Test.YtnnammlipfappaaJd

import Derived.Maps.AppendAt

namespace Go.Proofs.Ytnnammlipfappaa

open Ieee Go.RowKit



theorem wpList_append_svat {P : Program} {w : World} {ops : Array Oper} {rest : List Oper} {o : Oper} {a : Act} {Q : Exit → Act → World → Prop} (hgd : o.guard = none) (s x : Operand) (t : TypeId)
    (ho : o.op = .call { callee := .builtin .append, args := #[s, x], argTypes := #[t, t] })
    (base : Nat) (e : TypeId) (k : IntKind) (bytes : Nat) (ht : P.underlying t = some (.slice e)) (hinf : (P.info? e).map (fun i => (i.zero, i.size, i.bytes)) = some (some (.int k 0), 1, bytes))
    (v : Value) (n : Nat) (xs : List Value) (hs : a.eval s = v) (hown : w.ownsRow base e 1 v n xs)
    (y : Value) (l : List Int) (hx : a.eval x = y) (hy : Sv k w y l)
    (h63 : n + l.length ≤ maxLen) (hbytes : (n + l.length) * bytes ≤ 140737488355328) (hbase : base ≤ w.heap.size)
    (h : ∀ v' w', w'.ownsRow base e 1 v' (n + l.length) (xs ++ l.map (Value.int k)) → w.grownBy w' v.ownBlock → (v'.ownBlock = v.ownBlock ∨ v'.ownBlock = some w.heap.size) → wpList P ops Q rest (a.put o.dst v') w') : wpList P ops Q (o :: rest) a w := by
  obtain ⟨i0, hi, hz0, hz1, hz2⟩ := info_parts hinf
  obtain ⟨ao, cap, rfl, hc1, hc2, hnone, hcells⟩ := hy
  cases ao with
  | none =>
    obtain rfl := hnone rfl
    have hl0 : l.length = 0 := by omega
    have hl : l = [] := List.eq_nil_of_length_eq_zero hl0
    subst hl
    refine wpList_append_own_none hgd s x t ho base e i0 1 ht hi v n xs hs hown hx ?_
    exact h v w (by simpa using hown) ⟨rfl, rfl, rfl, Nat.le_refl _, fun _ _ _ => rfl⟩ (.inl rfl)
  | some p =>
    refine wpList_append_own_at w hgd s x t ho base e i0 (.int k 0) 1 bytes ht hi hz0 hz1 hz2 rfl (by decide) v n xs hs hown p l.length cap (l.map (Value.int k)) hx (by simp) ?_ ?_ h63 hbytes hbase
      (fun v' w' h1 h2 _ h4 => h v' w' h1 h2 h4)
    · intro j u hj
      have hjl : j < l.length := by
        rcases Nat.lt_or_ge j l.length with h | h
        · exact h
        · simp [List.getElem?_eq_none (show (l.map (Value.int k)).length ≤ j by simpa using h)] at hj
      obtain ⟨b, off, e1, e2⟩ := hcells j hjl
      cases e1
      rw [WideShapes.add_plain, e2]
      simp [List.getElem?_eq_getElem hjl] at hj
      simp [List.getD, List.getElem?_eq_getElem hjl, hj]
    · intro u hu
      obtain ⟨z, _, rfl⟩ := List.mem_map.1 hu
      rfl
theorem wrapV {x : Int} (h0 : 0 ≤ x) (h1 : x < 18446744073709551616) : IntKind.u64.wrap x = x := by
  simp only [IntKind.wrap, IntKind.signed, IntKind.bits]
  simp
  omega
theorem Nv.sv {w : World} {v : Value} {l : List Int} (h : Nv w v l) : Sv .i64 w v l := by
  obtain ⟨⟨ao, cap, e, h1, h2, h3, h4⟩, _⟩ := h
  exact ⟨ao, cap, e, h1, h2, h3, h4⟩


def of3 (k : Nat) : Nat := [0, 1, 4].getD k 0
def of2 (k : Nat) : Nat := [2, 3].getD k 0
def nmI (g : Nat) (n : Nt) (k : Nat) : Nat := (nmL g n).getD k 0
def pr3 (g : Nat) (n : Nt) (k : Nat) : List Nat := Wm.encAll ((nmL g n).take k)
def pr2 (g : Nat) (n : Nt) (k : Nat) : List Nat := Wm.encAll (nmL g n) ++ ((lsL n).take k).flatMap numsB
def lsI (n : Nt) (k : Nat) : List Int := (lsL n).getD k []
theorem pr3_step {g : Nat} {n : Nt} {k : Nat} (hk : k < 3) : pr3 g n (k + 1) = pr3 g n k ++ Wm.enc (nmI g n k) := by
  have : k = 0 ∨ k = 1 ∨ k = 2 := by omega
  rcases this with rfl | rfl | rfl <;> simp [pr3, nmI, nmL, Wm.encAll]
theorem pr2_step {g : Nat} {n : Nt} {k : Nat} (hk : k < 2) : pr2 g n (k + 1) = pr2 g n k ++ numsB (lsI n k) := by
  have : k = 0 ∨ k = 1 := by omega
  rcases this with rfl | rfl <;> simp [pr2, lsI, lsL]
theorem pr2_zero (g : Nat) (n : Nt) : pr2 g n 0 = pr3 g n 3 := by simp [pr2, pr3, nmL]
theorem pr2_two (g : Nat) (n : Nt) : pr2 g n 2 = bytN g n := by simp [pr2, bytN, lsL]
theorem pr3_len (g : Nat) (n : Nt) (k : Nat) : (pr3 g n k).length ≤ 30 := by
  have h := encAll_len ((nmL g n).take k)
  have h2 : ((nmL g n).take k).length ≤ 3 := by rw [List.length_take]; simp [nmL]; omega
  unfold pr3
  omega
theorem pr2_len {g : Nat} {n : Nt} (hp : n.p.length ≤ 4) (hc : n.c.length ≤ 4) {k : Nat} (hk : k ≤ 2) : (pr2 g n k).length ≤ 130 := by
  have h1 := encAll_len (nmL g n)
  have h2 := encAll_len4 hp
  have h3 := encAll_len4 hc
  have h4 : (nmL g n).length = 3 := rfl
  have : k = 0 ∨ k = 1 ∨ k = 2 := by omega
  rcases this with rfl | rfl | rfl <;> simp only [pr2, lsL, List.take_zero, List.take_succ_cons, List.flatMap_nil, List.flatMap_cons, List.length_append, List.append_nil] <;> omega


/-- What bytes keeps: its row, the pointers' block. -/
structure By (w : World) (G : Nat) (cs : Array Value) (TP : TypeId) (pre : List Nat) (bv : Value) (wr : World) : Prop where
  own : wr.ownsRow w.heap.size 5 1 bv pre.length ((ib pre).map (Value.int .u8))
  bel : Below w.heap.size w wr
  ptr : wr.heap[G]? = some (.cells cs TP (0, 0))
  ne : ∀ x, bv.ownBlock = some x → x ≠ G
section

variable {w wr w1 w2 : World} {G : Nat} {cs : Array Value} {TP : TypeId} {pre pre' l : List Nat} {bv v' : Value}

theorem By.step (h : By w G cs TP pre bv wr) (hb : Below wr.heap.size wr w1) (hp : pre' = pre ++ l) (ho : w2.ownsRow w.heap.size 5 1 v' (pre.length + (ib l).length) ((ib pre).map (Value.int .u8) ++ (ib l).map (Value.int .u8))) (hg : w1.grownBy w2 bv.ownBlock) (ha : v'.ownBlock = bv.ownBlock ∨ v'.ownBlock = some w1.heap.size) : By w G cs TP pre' v' w2 := by
  subst hp
  have hG := blk_lt h.ptr
  refine ⟨?_, ?_, ?_, ?_⟩
  · rw [List.length_append, ib_append, List.map_append, ← ib_len l]; exact ho
  · exact (h.bel.trans (hb.mono h.bel.size)).grown hg (Nat.le_trans h.bel.size hb.size) (fun x hx => (h.own.lt x hx).1)
  · rw [hg.block G (Nat.lt_of_lt_of_le hG hb.size) (fun e => h.ne G e.symm rfl)]; exact blk_below h.ptr hb
  · intro x hx
    rcases ha with ha | ha
    · exact h.ne x (by rw [← ha]; exact hx)
    · rw [ha] at hx; cases hx; have := hb.size; omega
/-- Another block of pointers. -/
theorem By.turn {G' : Nat} {cs' : Array Value} {TP' : TypeId} (h : By w G cs TP pre bv wr) (hb : Below wr.heap.size wr w1) (hG : wr.heap.size ≤ G') (hp : w1.heap[G']? = some (.cells cs' TP' (0, 0))) : By w G' cs' TP' pre bv w1 :=
  ⟨own_below h.own hb, h.bel.trans (hb.mono h.bel.size), hp, fun x hx e => by have := (h.own.lt x hx).2; omega⟩
end



section

variable {w : World} {R g : Nat} {n : Nt} {pv cv : Value} {q : Int} {T : TypeId}

def ByGot (g : Nat) (n : Nt) (w : World) (e : Ending) (w' : World) : Prop := ∃ v, e = .returned v ∧ w'.ownsRow w.heap.size 5 1 v (bytN g n).length ((ib (bytN g n)).map (Value.int .u8)) ∧ Below w.heap.size w w'
set_option maxRecDepth 100000 in
set_option maxHeartbeats 2000000 in
theorem bytes_walk (hR : w.heap[R]? = some (.cells #[.int .i64 g, .int .i64 n.b, pv, cv, .int .i64 n.a] T (0, 0))) (hp : Nv w pv n.p) (hc : Nv w cv n.c) (hg : g ≤ 1099511627776) (hr : Rgt n q) (hq : q ≤ 4) :
    Calls Try.prog 36 #[.pointer (some ⟨R, 0, none⟩)] w (ByGot g n w) := by
  have HN : Hid (∀ wr k, Below w.heap.size w wr → k < 3 → wr.cell? ⟨R, of3 k, none⟩ = some (.int .i64 (nmI g n k : Nat)) ∧ nmI g n k ≤ 1099511627776) := fun wr k hb hk => by
    have hlt := blk_lt hR
    rw [hb.cell (p := ⟨R, of3 k, none⟩) hlt, blk_cell hR]
    have h1 := hr.b0; have h2 := hr.a0; have h3 := hr.b1; have h4 := hr.a1
    have e1 : ((n.b.toNat : Nat) : Int) = n.b := by omega
    have e2 : ((n.a.toNat : Nat) : Int) = n.a := by omega
    have : k = 0 ∨ k = 1 ∨ k = 2 := by omega
    rcases this with rfl | rfl | rfl
    · exact ⟨rfl, hg⟩
    · refine ⟨?_, by show n.b.toNat ≤ _; omega⟩
      show some (Value.int .i64 n.b) = some (.int .i64 ((n.b.toNat : Nat) : Int)); rw [e1]
    · refine ⟨?_, by show n.a.toNat ≤ _; omega⟩
      show some (Value.int .i64 n.a) = some (.int .i64 ((n.a.toNat : Nat) : Int)); rw [e2]
  have HL : Hid (∀ wr k, Below w.heap.size w wr → k < 2 → ∃ v, wr.cell? ⟨R, of2 k, none⟩ = some v ∧ Sv .i64 wr v (lsI n k) ∧ (lsI n k).length ≤ 4 ∧ numsA (lsI n k) = (numsB (lsI n k), 0) ∧ (∀ x ∈ lsI n k, x ≤ 256)) := fun wr k hb hk => by
    have hlt := blk_lt hR
    rw [hb.cell (p := ⟨R, of2 k, none⟩) hlt, blk_cell hR]
    have h1 := hr.lp; have h2 := hr.lc
    have : k = 0 ∨ k = 1 := by omega
    rcases this with rfl | rfl
    · exact ⟨pv, rfl, (hp.below hb).sv, by show n.p.length ≤ 4; omega, if_pos fun x hx => (hr.pm x hx).1, fun x hx => (hr.pm x hx).2⟩
    · exact ⟨cv, rfl, (hc.below hb).sv, by show n.c.length ≤ 4; omega, if_pos fun x hx => (hr.cm x hx).1, fun x hx => (hr.cm x hx).2⟩
  have HPL : Hid (n.p.length ≤ 4) := by show _ ≤ _; have := hr.lp; omega
  have HCL : Hid (n.c.length ≤ 4) := by show _ ≤ _; have := hr.lc; omega
  clear hR hp hc hg hr hq
  go_enter Try.func36, Try.ntmps36
  go_wp2_with fail
  refine (numbers_walk R).mono ?_
  rintro e w1 ⟨G, rfl, hG0, hG, hB1⟩
  have HBY : Hid (By w G _ _ (pr3 g n 0) (.slice (some ⟨w.heap.size, 0, none⟩) 0 0) w1) := ⟨own_below (World.ownsRow_made w #[] 0 (Nat.le_refl _) (by simp [maxLen]) (by simp)) hB1, below_trans (below_alloc _ _) hB1, hG, fun x hx e => by cases hx; rw [alloc_size] at hG0; subst e; simp only at hG0; omega⟩
  clear hG hG0 hB1
  go_wp2_with fail
  go_loopw [3, 14] (fun bv iv wr => ∃ k : Nat, k ≤ 3 ∧ iv = .int .i64 k ∧ By w G #[.pointer (some ⟨R, 0, none⟩), .pointer (some ⟨R, 1, none⟩), .pointer (some ⟨R, 4, none⟩)] 88 (pr3 g n k) bv wr) (fun _ iv _ => 3 - (intOf iv).toNat)
  case atStart => exact ⟨0, by omega, rfl, HBY.out⟩
  case round =>
    obtain ⟨k, hk, rfl, hBY⟩ := hrel
    have HK : Hid (By w G #[.pointer (some ⟨R, 0, none⟩), .pointer (some ⟨R, 1, none⟩), .pointer (some ⟨R, 4, none⟩)] 88 (pr3 g n k) u3 wr) := hBY
    by_cases hlt : k < 3
    · obtain ⟨c0, hbd⟩ := HN.out wr k hBY.bel hlt
      obtain ⟨x, hx⟩ : ∃ x, x = nmI g n k := ⟨_, rfl⟩
      rw [← hx] at c0 hbd
      have HX : Hid (x = nmI g n k) := hx
      have HBD : Hid (x ≤ 1099511627776) := hbd
      have z0 : wr.cell? ⟨G, k, none⟩ = some (.pointer (some ⟨R, of3 k, none⟩)) := by
        rw [blk_cell hBY.ptr]
        have : k = 0 ∨ k = 1 ∨ k = 2 := by omega
        rcases this with rfl | rfl | rfl <;> rfl
      have u1 : IntKind.u64.wrap (x : Int) = (x : Int) := wrapV (by omega) (by omega)
      have HPR : Hid ((pr3 g n k).length ≤ 30) := pr3_len _ _ _
      have HE : Hid ((Wm.enc x).length ≤ 10) := (Wm.enc_len x).2
      generalize of3 k = o at c0 z0
      clear hbd hx hBY
      go_wp2_with fail
      refine (put_walk x (by have := HBD.out; omega) _).mono ?_
      rintro e w2 ⟨u, rfl, hu, hB2⟩
      have HU : Hid (Sv .u8 w2 u (ib (Wm.enc x))) := own_sv hu
      have HO2 : Hid (w2.ownsRow w.heap.size 5 1 u3 (pr3 g n k).length ((ib (pr3 g n k)).map (Value.int .u8))) := own_below HK.out.own hB2
      have HS2 : Hid (w.heap.size ≤ w2.heap.size) := Nat.le_trans HK.out.bel.size hB2.size
      have HB2 : Hid (Below wr.heap.size wr w2) := hB2
      clear hu hB2
      go_wp2_with (at_builtin; refine wpList_append_svat (by rfl) (.tmp 18) (.tmp 23) 57 (by rfl) w.heap.size 5 .u8 1 Try.underlying57 info_u8 _ _ _ (by rfl) HO2.out _ _ (by rfl) HU.out (by have := HPR.out; have := HE.out; rw [ib_len]; simp only [maxLen]; omega) (by have := HPR.out; have := HE.out; rw [ib_len]; omega) HS2.out ?_; intro v' w3 hown' hgrow hat)
      have HBN : Hid (By w G #[.pointer (some ⟨R, 0, none⟩), .pointer (some ⟨R, 1, none⟩), .pointer (some ⟨R, 4, none⟩)] 88 (pr3 g n (k + 1)) v' w3) := HK.out.step HB2.out (by rw [HX.out]; exact pr3_step hlt) hown' hgrow hat
      clear hown' hgrow hat
      go_wp2_with fail
      go_roundw
      case rel => exact ⟨k + 1, by omega, by go_num, HBN.out⟩
      case measure => simp [intOf]; omega
    · obtain rfl : k = 3 := by omega
      clear hBY
      go_wp2_with fail
      refine (lists_walk R).mono ?_
      rintro e w2 ⟨H, rfl, hH0, hH, hB2⟩
      have HBZ : Hid (By w H #[.pointer (some ⟨R, 2, none⟩), .pointer (some ⟨R, 3, none⟩)] 93 (pr2 g n 0) u3 w2) := by rw [pr2_zero]; exact HK.out.turn hB2 hH0 hH
      clear hH hH0 hB2
      go_wp2_with fail
      go_loopw [3, 29] (fun bv iv wr => ∃ k : Nat, k ≤ 2 ∧ iv = .int .i64 k ∧ By w H #[.pointer (some ⟨R, 2, none⟩), .pointer (some ⟨R, 3, none⟩)] 93 (pr2 g n k) bv wr) (fun _ iv _ => 2 - (intOf iv).toNat)
      case atStart => exact ⟨0, by omega, rfl, HBZ.out⟩
      case round =>
        clear HBZ HK
        obtain ⟨k, hk2, rfl, hBY⟩ := hrel
        have HK : Hid (By w H #[.pointer (some ⟨R, 2, none⟩), .pointer (some ⟨R, 3, none⟩)] 93 (pr2 g n k) u3 wr) := hBY
        by_cases hlt2 : k < 2
        · obtain ⟨lv, c0, hsv, hll, hna, hle⟩ := HL.out wr k hBY.bel hlt2
          have z0 : wr.cell? ⟨H, k, none⟩ = some (.pointer (some ⟨R, of2 k, none⟩)) := by
            rw [blk_cell hBY.ptr]
            have : k = 0 ∨ k = 1 := by omega
            rcases this with rfl | rfl <;> rfl
          have HPR : Hid ((pr2 g n k).length ≤ 130) := pr2_len HPL.out HCL.out hk2
          have HST : Hid (pr2 g n (k + 1) = pr2 g n k ++ numsB (lsI n k)) := pr2_step hlt2
          generalize of2 k = o at c0 z0
          generalize lsI n k = L at hsv hll hna hle HST
          have HLE : Hid ((numsB L).length ≤ 50) := encAll_len4 hll
          have HSV : Hid (Sv .i64 wr lv L) := hsv
          have HLL : Hid (L.length ≤ 4) := hll
          have HNA : Hid (numsA L = (numsB L, 0)) := hna
          have HLX : Hid (∀ x ∈ L, x ≤ 256) := hle
          obtain ⟨la, lc, rfl⟩ := sv_form hsv
          clear hsv hll hna hle hBY
          go_wp2_with fail
          refine (nums_walk HSV.out (by have := HLL.out; omega) (fun x hx => by have := HLX.out x hx; omega)).mono ?_
          rintro e w3 ⟨u, rfl, hu, hB3⟩
          rw [HNA.out] at hu ⊢
          have HU : Hid (Sv .u8 w3 u (ib (numsB L))) := own_sv hu
          have HO2 : Hid (w3.ownsRow w.heap.size 5 1 u3 (pr2 g n k).length ((ib (pr2 g n k)).map (Value.int .u8))) := own_below HK.out.own hB3
          have HS2 : Hid (w.heap.size ≤ w3.heap.size) := Nat.le_trans HK.out.bel.size hB3.size
          have HB2 : Hid (Below wr.heap.size wr w3) := hB3
          clear hu hB3
          go_wp2_with (at_builtin; refine wpList_append_svat (by rfl) (.tmp 40) (.tmp 41) 57 (by rfl) w.heap.size 5 .u8 1 Try.underlying57 info_u8 _ _ _ (by rfl) HO2.out _ _ (by rfl) HU.out (by have := HPR.out; have := HLE.out; rw [ib_len]; simp only [maxLen]; omega) (by have := HPR.out; have := HLE.out; rw [ib_len]; omega) HS2.out ?_; intro v' w4 hown' hgrow hat)
          have HBN : Hid (By w H #[.pointer (some ⟨R, 2, none⟩), .pointer (some ⟨R, 3, none⟩)] 93 (pr2 g n (k + 1)) v' w4) := HK.out.step HB2.out HST.out hown' hgrow hat
          clear hown' hgrow hat
          go_wp2_with fail
          go_roundw
          case rel => exact ⟨k + 1, by omega, by go_num, HBN.out⟩
          case measure => simp [intOf]; omega
        · obtain rfl : k = 2 := by omega
          clear hBY
          go_wp2_with fail
          go_ret
          exact ⟨_, rfl, by rw [← pr2_two]; exact HK.out.own, HK.out.bel⟩
end

end Go.Proofs.Ytnnammlipfappaa


