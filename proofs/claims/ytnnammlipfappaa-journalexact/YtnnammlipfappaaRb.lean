/- The reference's journal: Bytes. -/
import Derived.Test.YtnnammlipfappaaRa

namespace Go.Proofs.Ytnnammlipfappaa

open Ieee Go.RowKit



structure Rw (w0 : World) (pre : List Nat) (v : Value) (wr : World) : Prop where
  own : wr.ownsRow w0.heap.size 5 1 v pre.length ((ib pre).map (Value.int .u8))
  bel : Below w0.heap.size w0 wr
theorem Rw.step {w0 wr w1 w2 : World} {pre l : List Nat} {v v' : Value} (h : Rw w0 pre v wr) (hb : Below wr.heap.size wr w1) (ho : w2.ownsRow w0.heap.size 5 1 v' (pre.length + (ib l).length) ((ib pre).map (Value.int .u8) ++ (ib l).map (Value.int .u8))) (hg : w1.grownBy w2 v.ownBlock) : Rw w0 (pre ++ l) v' w2 :=
  ⟨by rw [List.length_append, ib_append, List.map_append, ← ib_len l]; exact ho, (h.bel.trans (hb.mono h.bel.size)).grown hg (Nat.le_trans h.bel.size hb.size) (fun x hx => (h.own.lt x hx).1)⟩
theorem rw63 {a b : Nat} (h : a + b ≤ 1000) (l : List Nat) (hl : l.length = b) : a + (ib l).length ≤ maxLen := by rw [ib_len]; simp only [maxLen]; omega
theorem rw47 {a b : Nat} (h : a + b ≤ 1000) (l : List Nat) (hl : l.length = b) : (a + (ib l).length) * 1 ≤ 140737488355328 := by rw [ib_len]; omega
section

variable {w : World} {g : Nat} {n : Nt} {pv cv : Value} {q : Int}

set_option maxRecDepth 100000 in
set_option maxHeartbeats 4000000 in
theorem rbytes_walk (hp : Nv w pv n.p) (hc : Nv w cv n.c) (hg : g ≤ 1099511627776) (hr : Rgt n q) (hq : q ≤ 4) :
    Calls Try.prog 42 #[.int .i64 g, .agg #[.int .i64 n.b, pv, cv, .int .i64 n.a]] w (ByGot g n w) := by
  obtain ⟨⟨po, pc, rfl, _⟩, _⟩ := (show Nv w pv n.p from hp)
  obtain ⟨⟨co, cc, rfl, _⟩, _⟩ := (show Nv w cv n.c from hc)
  obtain ⟨w0, hw0⟩ : ∃ w0, w0 = w.alloc (Obj.cells #[.int .i64 n.b, .slice po n.p.length pc, .slice co n.c.length cc, .int .i64 n.a] 41) := ⟨_, rfl⟩
  have HW0 : Hid (w0 = w.alloc (Obj.cells #[.int .i64 n.b, .slice po n.p.length pc, .slice co n.c.length cc, .int .i64 n.a] 41)) := hw0
  have HB0 : Hid (Below w.heap.size w w0) := by show Below _ _ _; rw [hw0]; exact below_alloc _ _
  have HN0 : Hid (w0.heap[w.heap.size]? = some (.cells #[.int .i64 n.b, .slice po n.p.length pc, .slice co n.c.length cc, .int .i64 n.a] 41 (0, 0))) := by show _ = _; rw [hw0]; exact alloc_at rfl
  have HP : Hid (Nv w0 (.slice po n.p.length pc) n.p) := hp.below HB0.out
  have HC : Hid (Nv w0 (.slice co n.c.length cc) n.c) := hc.below HB0.out
  have HLP : Hid (n.p.length ≤ 4 ∧ n.c.length ≤ 4) := by have h1 := hr.lp; have h2 := hr.lc; exact ⟨by omega, by omega⟩
  have HR : Hid (Rgt n q) := hr
  have HG : Hid (g ≤ 1099511627776) := hg
  obtain ⟨nb, hnb⟩ : ∃ nb : Nat, n.b = nb := ⟨n.b.toNat, by have := hr.b0; omega⟩
  obtain ⟨na, hna⟩ : ∃ na : Nat, n.a = na := ⟨n.a.toNat, by have := hr.a0; omega⟩
  have HNB : Hid (nb ≤ 1099511627776) := by have := hr.b1; show _ ≤ _; omega
  have HNA : Hid (na ≤ 1099511627776) := by have := hr.a1; show _ ≤ _; omega
  have HEQ : Hid (bytN g n = Wm.enc g ++ Wm.enc nb ++ Wm.enc na ++ numsB n.p ++ numsB n.c) := by
    show _ = _
    unfold bytN nmL
    rw [hnb, hna]
    simp [Wm.encAll]
  have HKN : Hid (∀ wx, Below w0.heap.size w0 wx → wx.cell? ⟨w.heap.size, 0, none⟩ = some (.int .i64 nb) ∧ wx.cell? ⟨w.heap.size, 1, none⟩ = some (.slice po n.p.length pc) ∧ wx.cell? ⟨w.heap.size, 2, none⟩ = some (.slice co n.c.length cc) ∧ wx.cell? ⟨w.heap.size, 3, none⟩ = some (.int .i64 na)) := fun wx hb => by
    have hk := blk_below HN0.out hb
    exact ⟨by rw [blk_cell hk, ← hnb]; rfl, by rw [blk_cell hk]; rfl, by rw [blk_cell hk]; rfl, by rw [blk_cell hk, ← hna]; rfl⟩
  have u1 : IntKind.u64.wrap (g : Int) = (g : Int) := wrapV (by omega) (by omega)
  have u2 : IntKind.u64.wrap (nb : Int) = (nb : Int) := wrapV (by omega) (by have := HNB.out; omega)
  have u3 : IntKind.u64.wrap (na : Int) = (na : Int) := wrapV (by omega) (by have := HNA.out; omega)
  have HPA : Hid (numsA n.p = (numsB n.p, 0)) := if_pos fun x hx => (hr.pm x hx).1
  have HCA : Hid (numsA n.c = (numsB n.c, 0)) := if_pos fun x hx => (hr.cm x hx).1
  have HE1 : Hid ((Wm.enc g).length ≤ 10 ∧ (Wm.enc nb).length ≤ 10 ∧ (Wm.enc na).length ≤ 10) := ⟨(Wm.enc_len _).2, (Wm.enc_len _).2, (Wm.enc_len _).2⟩
  have HE2 : Hid ((numsB n.p).length ≤ 50 ∧ (numsB n.c).length ≤ 50) := ⟨encAll_len4 HLP.out.1, encAll_len4 HLP.out.2⟩
  clear hp hc hw0 hr hq hg hnb hna
  go_enter Try.func42, Try.ntmps42
  go_upto_region 1 with fail
  rw [← HW0.out]
  go_wp2_with fail
  refine (rput_walk g (by have := HG.out; omega) _).mono ?_
  rintro e w1 ⟨v0, rfl, hv0, hB1⟩
  have HR1 : Hid (Rw w0 (Wm.enc g) v0 w1) := ⟨hv0, hB1⟩
  obtain ⟨k0, k1, k2, k3⟩ := HKN.out w1 hB1
  clear hv0 hB1
  go_wp2_with fail
  refine (rput_walk nb (by have := HNB.out; omega) _).mono ?_
  rintro e w2 ⟨v1, rfl, hv1, hB2⟩
  have HS1 : Hid (Sv .u8 w2 v1 (ib (Wm.enc nb))) := own_sv hv1
  have HB2 : Hid (Below w1.heap.size w1 w2) := hB2
  have HZ2 : Hid (w0.heap.size ≤ w2.heap.size) := Nat.le_trans HR1.out.bel.size hB2.size
  clear hv1 hB2 k0 k1 k2 k3
  go_upto_region 3 with (at_builtin; refine wpList_append_sv (by rfl) (.tmp 13) (.tmp 18) 57 (by rfl) w0.heap.size 5 .u8 1 Try.underlying57 info_u8 _ _ _ (by rfl) (own_below HR1.out.own HB2.out) _ _ (by rfl) HS1.out (rw63 (b := (Wm.enc nb).length) (by have := HE1.out; omega) _ rfl) (rw47 (b := (Wm.enc nb).length) (by have := HE1.out; omega) _ rfl) HZ2.out ?_; intro v2 w3 ho3 hg3)
  have HR3 := hidH (HR1.out.step HB2.out ho3 hg3)
  obtain ⟨k0, k1, k2, k3⟩ := HKN.out w3 HR3.out.bel
  clear ho3 hg3 HS1 HB2 HZ2
  go_wp2_with fail
  refine (rput_walk na (by have := HNA.out; omega) _).mono ?_
  rintro e w4 ⟨v3, rfl, hv3, hB4⟩
  have HS3 : Hid (Sv .u8 w4 v3 (ib (Wm.enc na))) := own_sv hv3
  have HB4 : Hid (Below w3.heap.size w3 w4) := hB4
  have HZ4 : Hid (w0.heap.size ≤ w4.heap.size) := Nat.le_trans HR3.out.bel.size hB4.size
  clear hv3 hB4 k0 k1 k2 k3
  go_upto_region 4 with (at_builtin; refine wpList_append_sv (by rfl) (.tmp 20) (.tmp 24) 57 (by rfl) w0.heap.size 5 .u8 1 Try.underlying57 info_u8 _ _ _ (by rfl) (own_below HR3.out.own HB4.out) _ _ (by rfl) HS3.out (rw63 (b := (Wm.enc na).length) (by have := HE1.out; rw [List.length_append]; omega) _ rfl) (rw47 (b := (Wm.enc na).length) (by have := HE1.out; rw [List.length_append]; omega) _ rfl) HZ4.out ?_; intro v4 w5 ho5 hg5)
  have HR5 := hidH (HR3.out.step HB4.out ho5 hg5)
  obtain ⟨k0, k1, k2, k3⟩ := HKN.out w5 HR5.out.bel
  have HL5 : Hid ((Wm.enc g ++ Wm.enc nb ++ Wm.enc na).length ≤ 30) := by have := HE1.out; show _ ≤ _; rw [List.length_append, List.length_append]; omega
  clear ho5 hg5 HS3 HB4 HZ4
  generalize Wm.enc g ++ Wm.enc nb ++ Wm.enc na = pr at HR5 HL5 HEQ
  go_wp2_with fail
  refine (rnums_walk ((HP.out.below HR5.out.bel).sv) (by have := HLP.out; omega) (fun x hx => by have := HR.out.pm x hx; omega)).mono ?_
  rintro e w6 ⟨u6, rfl, hu6, hB6⟩
  rw [HPA.out] at hu6 ⊢
  have HU6 : Hid (w6.ownsRow w5.heap.size 5 1 u6 (numsB n.p).length ((ib (numsB n.p)).map (Value.int .u8))) := hu6
  have HB6 : Hid (Below w5.heap.size w5 w6) := hB6
  obtain ⟨_, _, k2, _⟩ := HKN.out w6 (HR5.out.bel.trans (hB6.mono HR5.out.bel.size))
  clear hu6 hB6 k0 k1 k3
  go_wp2_with fail
  refine (rnums_walk ((HC.out.below (HR5.out.bel.trans (HB6.out.mono HR5.out.bel.size))).sv) (by have := HLP.out; omega) (fun x hx => by have := HR.out.cm x hx; omega)).mono ?_
  rintro e w7 ⟨u8, rfl, hu8, hB7⟩
  rw [HCA.out] at hu8 ⊢
  have HU8 : Hid (w7.ownsRow w6.heap.size 5 1 u8 (numsB n.c).length ((ib (numsB n.c)).map (Value.int .u8))) := hu8
  have HB7 : Hid (Below w5.heap.size w5 w7) := HB6.out.trans (hB7.mono HB6.out.size)
  have HS6 : Hid (Sv .u8 w7 u6 (ib (numsB n.p))) := own_sv (own_below HU6.out hB7)
  have HZ7 : Hid (w0.heap.size ≤ w7.heap.size) := Nat.le_trans HR5.out.bel.size HB7.out.size
  clear hu8 hB7 k2
  go_upto_region 7 with (at_builtin; refine wpList_append_sv (by rfl) (.tmp 40) (.tmp 41) 57 (by rfl) w0.heap.size 5 .u8 1 Try.underlying57 info_u8 _ _ _ (by rfl) (own_below HR5.out.own HB7.out) _ _ (by rfl) HS6.out (rw63 (b := (numsB n.p).length) (by have := HE2.out; have := HL5.out; omega) _ rfl) (rw47 (b := (numsB n.p).length) (by have := HE2.out; have := HL5.out; omega) _ rfl) HZ7.out ?_; intro v8 w8 ho8 hg8)
  have HR8 := hidH (HR5.out.step HB7.out ho8 hg8)
  have HS8 : Hid (Sv .u8 w8 u8 (ib (numsB n.c))) := own_sv (row_keep HU8.out fun x hx => hg8.block x (HU8.out.lt x hx).2 (fun e => by have h1 := (HR5.out.own.lt x e.symm).2; have h2 := (HU8.out.lt x hx).1; have h3 := HB6.out.size; omega))
  have HZ8 : Hid (w0.heap.size ≤ w8.heap.size) := HR8.out.bel.size
  clear ho8 hg8
  go_upto_region 8 with (at_builtin; refine wpList_append_sv (by rfl) (.tmp 43) (.tmp 44) 57 (by rfl) w0.heap.size 5 .u8 1 Try.underlying57 info_u8 _ _ _ (by rfl) HR8.out.own _ _ (by rfl) HS8.out (rw63 (b := (numsB n.c).length) (by have := HE2.out; have := HL5.out; rw [List.length_append]; omega) _ rfl) (rw47 (b := (numsB n.c).length) (by have := HE2.out; have := HL5.out; rw [List.length_append]; omega) _ rfl) HZ8.out ?_; intro v9 w9 ho9 hg9)
  have HR9 := hidH (HR8.out.step (Below.refl _ _) ho9 hg9)
  clear ho9 hg9
  go_wp2_with fail
  go_ret
  refine ⟨_, rfl, ?_, below_trans HB0.out HR9.out.bel⟩
  rw [HEQ.out]
  exact own_base HR9.out.own HB0.out.size
end

end Go.Proofs.Ytnnammlipfappaa


