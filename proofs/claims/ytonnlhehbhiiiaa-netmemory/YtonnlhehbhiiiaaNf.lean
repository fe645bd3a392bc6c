/- Contracts of net's Drop, Copy. -/
import Derived.Test.YtonnlhehbhiiiaaNe

namespace Go.Proofs.Ytonnlhehbhiiiaa

open Go.RowKit



set_option maxRecDepth 100000 in
set_option maxHeartbeats 4000000 in
theorem drop_in {w : World} {P b r nx : Nat} {L : List En} {k : Int} {x : En} (hn : Nt w P b r nx L) (hk : in64 k) (hat : atN L k = some x) : Calls Try.prog 20 #[.pointer (some ⟨P, 0, none⟩), .int .i64 k] w fun e w' => e = .returned (.int .i64 0) ∧ Nt w' P b r nx (outN L k) ∧ Ch (fun y => y = b) w w' := by
  obtain ⟨ea, en, ec, qa, qn, qc, pa, pn, pc, e1, e2, e3⟩ := en_form (hn.ent x (atN_mem hat).1)
  go_enter Try.func20, Try.ntmps20
  go_wp2_with fail
  refine (deliver_in hn hk hat).mono ?_
  rintro e w2 ⟨he, hn2, hc2⟩
  have HN2 : Hid _ := hn2
  have HC2 : Hid _ := hc2
  unfold mvE at he
  rw [e1, e2, e3] at he
  subst he
  clear hn2 hc2 e1 e2 e3 hn hat
  go_wp2_with fail
  go_ret
  exact ⟨rfl, HN2.out.below (below_alloc _ _), HC2.out.trans (Ch.of_below (below_alloc _ _)) (fun x hx => .inl hx)⟩
set_option maxRecDepth 100000 in
set_option maxHeartbeats 4000000 in
theorem drop_out {w : World} {P b r nx : Nat} {L : List En} {k : Int} (hn : Nt w P b r nx L) (hk : in64 k) (hat : atN L k = none) : Calls Try.prog 20 #[.pointer (some ⟨P, 0, none⟩), .int .i64 k] w fun e w' => e = .returned (.int .i64 161) ∧ Below w.heap.size w w' := by
  go_enter Try.func20, Try.ntmps20
  go_wp2_with fail
  refine (deliver_out hn hk hat).mono ?_
  rintro e w2 ⟨he, hb2⟩
  have HB2 : Hid _ := hb2
  unfold zMsg at he
  subst he
  clear hb2
  go_wp2_with fail
  go_ret
  exact ⟨rfl, below_trans HB2.out (below_alloc _ _)⟩
set_option maxRecDepth 100000 in
set_option maxHeartbeats 4000000 in
theorem drop_nil (k : Int) (w : World) : Calls Try.prog 20 #[.pointer none, .int .i64 k] w fun e w' => e = .returned (.int .i64 2) ∧ Below w.heap.size w w' := by
  go_enter Try.func20, Try.ntmps20
  go_wp2_with fail
  refine (deliver_nil k _).mono ?_
  rintro e w2 ⟨he, hb2⟩
  have HB2 : Hid _ := hb2
  unfold zMsg at he
  subst he
  clear hb2
  go_wp2_with fail
  go_ret
  exact ⟨rfl, below_trans HB2.out (below_alloc _ _)⟩
set_option maxRecDepth 100000 in
set_option maxHeartbeats 4000000 in
theorem copy_out {w : World} {P b r nx : Nat} {L : List En} {k : Int} (hn : Nt w P b r nx L) (hk : in64 k) (hat : atN L k = none) : Calls Try.prog 17 #[.pointer (some ⟨P, 0, none⟩), .int .i64 k] w fun e w' => e = .returned (.tuple #[.int .i64 0, .int .i64 161]) ∧ Below w.heap.size w w' := by
  go_enter Try.func17, Try.ntmps17
  go_wp2_with fail
  refine (at_out hn hk hat).mono ?_
  rintro e w2 ⟨he, hb2⟩
  have HB2 : Hid _ := hb2
  unfold zMsg at he
  subst he
  clear hb2
  go_wp2_with fail
  go_ret2
  exact ⟨rfl, below_trans HB2.out (below_alloc _ _)⟩
set_option maxRecDepth 100000 in
set_option maxHeartbeats 4000000 in
theorem copy_nil (k : Int) (w : World) : Calls Try.prog 17 #[.pointer none, .int .i64 k] w fun e w' => e = .returned (.tuple #[.int .i64 0, .int .i64 2]) ∧ Below w.heap.size w w' := by
  go_enter Try.func17, Try.ntmps17
  go_wp2_with fail
  refine (at_nil k _).mono ?_
  rintro e w2 ⟨he, hb2⟩
  have HB2 : Hid _ := hb2
  unfold zMsg at he
  subst he
  clear hb2
  go_wp2_with fail
  go_ret2
  exact ⟨rfl, below_trans HB2.out (below_alloc _ _)⟩
set_option maxRecDepth 100000 in
set_option maxHeartbeats 4000000 in
theorem copy_in {w : World} {P b r nx : Nat} {L : List En} {k : Int} {x : En} (hn : Nt w P b r nx L) (hk : in64 k) (hat : atN L k = some x) (hnx : nx < 9223372036854775800) : Calls Try.prog 17 #[.pointer (some ⟨P, 0, none⟩), .int .i64 k] w (LaGot w P b r nx L x.m) := by
  obtain ⟨ea, en, ec, qa, qn, qc, pa, pn, pc, e1, e2, e3⟩ := en_form (hn.ent x (atN_mem hat).1)
  have HE : Hid (Eo w x) := hn.ent x (atN_mem hat).1
  have HS : Hid (sndM x.m = true) := hn.snd x (atN_mem hat).1
  have HN : Hid _ := hn
  go_enter Try.func17, Try.ntmps17
  go_wp2_with fail
  refine (at_in hn hk hat).mono ?_
  rintro e w2 ⟨he, hb2⟩
  unfold mvE at he
  rw [e1, e2, e3] at he
  subst he
  have HB2 : Hid (Below w.heap.size w w2) := hb2
  have HL : Hid (ML w x.m (.slice ea en ec) (.slice qa qn qc) (.slice pa pn pc)) := by have h := HE.out.mo.l; rw [e1, e2, e3] at h; exact h
  clear hb2 e1 e2 e3 hn hat
  go_upto_region 2 with fail
  have HX : Hid _ := mx_new w2 x.m (.slice ea en ec) (.slice qa qn qc) (.slice pa pn pc)
  have HB3 : Hid _ := below_trans HB2.out (below_alloc w2 (Obj.cells #[.int .i64 x.m.K, .int .i64 x.m.F, .int .i64 x.m.T, .int .i64 x.m.B, .int .i64 x.m.A, .int .i64 x.m.C, .slice ea en ec, .slice qa qn qc, .slice pa pn pc] 35))
  obtain ⟨X, hX⟩ : ∃ X, X = w2.heap.size := ⟨_, rfl⟩
  rw [← hX] at HX ⊢
  clear hX
  generalize w2.alloc (Obj.cells #[.int .i64 x.m.K, .int .i64 x.m.F, .int .i64 x.m.T, .int .i64 x.m.B, .int .i64 x.m.A, .int .i64 x.m.C, .slice ea en ec, .slice qa qn qc, .slice pa pn pc] 35) = w3 at HX HB3 ⊢
  have x0 := HX.out.c0
  have x1 := HX.out.c1
  have x2 := HX.out.c2
  have x3 := HX.out.c3
  have x4 := HX.out.c4
  have x5 := HX.out.c5
  have x6 := HX.out.c6
  have x7 := HX.out.c7
  have x8 := HX.out.c8
  go_wp2_with fail
  refine (launch_walk (HN.out.below HB3.out) (HL.out.below HB3.out) HE.out.ok HS.out hnx).mono ?_
  rintro e w4 h3
  rcases h3 with ⟨h1, rfl, h3⟩ | ⟨h1, rfl, h3⟩
  · have H3 : Hid _ := h3
    clear h3
    go_wp2_with fail
    go_ret2
    exact .inl ⟨h1, rfl, below_trans HB3.out H3.out⟩
  · have H3 : Hid _ := h3
    clear h3
    go_wp2_with fail
    go_ret2
    obtain ⟨en2, j1, j2, j3, j4, j5⟩ := H3.out
    exact .inr ⟨h1, rfl, en2, j1, j2, j3, Nat.le_trans HB3.out.size j4, (Ch.of_below HB3.out).trans j5 (fun x hx => .inl hx)⟩
end Go.Proofs.Ytonnlhehbhiiiaa


