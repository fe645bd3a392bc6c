/- msg, one; what Take makes of the statements' messages. -/
import Derived.Test.YtopjedgknbbgkaaGreatAq
namespace Go.Proofs.YtopjedgknbbgkaaGreat

open Go.RowKit



set_option maxRecDepth 100000 in
set_option maxHeartbeats 4000000 in
theorem msg17 {w : World} (k f c : Int) {ea : Option Addr} {en ec : Nat} : Calls Tryz.prog 10 #[.int .i64 k, .int .i64 f, .int .i64 c, .slice ea en ec] w fun e w' => e = .returned (.agg #[.int .i64 k, .int .i64 f, .int .i64 1, .int .i64 3, .int .i64 7, .int .i64 c, .slice ea en ec, .slice none 0 0, .slice none 0 0]) ∧ Below w.heap.size w w' := by
  have HX : Hid _ := mx_new w ⟨k, f, 1, 3, 7, c, [], [], []⟩ (.slice ea en ec) (.slice none 0 0) (.slice none 0 0)
  have HB : Hid _ := below_alloc w (Obj.cells #[.int .i64 k, .int .i64 f, .int .i64 1, .int .i64 3, .int .i64 7, .int .i64 c, .slice ea en ec, .slice none 0 0, .slice none 0 0] 44)
  go_enter Tryz.func10, Tryz.ntmps10
  go_wp2_with fail
  generalize w.alloc (Obj.cells #[.int .i64 k, .int .i64 f, .int .i64 1, .int .i64 3, .int .i64 7, .int .i64 c, .slice ea en ec, .slice none 0 0, .slice none 0 0] 44) = w1 at HX HB ⊢
  have y0 := HX.out.c0
  have y1 := HX.out.c1
  have y2 := HX.out.c2
  have y3 := HX.out.c3
  have y4 := HX.out.c4
  have y5 := HX.out.c5
  have y6 := HX.out.c6
  have y7 := HX.out.c7
  have y8 := HX.out.c8
  simp only at y0 y1 y2 y3 y4 y5
  refine bodyPost_ret (v := .agg #[.int .i64 k, .int .i64 f, .int .i64 1, .int .i64 3, .int .i64 7, .int .i64 c, .slice ea en ec, .slice none 0 0, .slice none 0 0]) (by simp [results, Tryz.results10, go_sem, y0, y1, y2, y3, y4, y5, y6, y7, y8]) rfl ?_
  exact ⟨rfl, HB.out⟩
set_option maxRecDepth 100000 in
set_option maxHeartbeats 4000000 in
theorem one17 {w : World} {g off cap : Nat} {m : Ms} {ea qa pa : Option Addr} {en ec qn qc pn pc : Nat} (h : MXo w g off ⟨m, .slice ea en ec, .slice qa qn qc, .slice pa pn pc⟩) (hF : m.F = 1) (hB : m.B = 3) (hA : m.A = 7) :
    Calls Tryz.prog 11 #[.slice (some ⟨g, off, none⟩) 1 cap, .int .i64 0, .int .i64 m.K, .int .i64 m.T] w fun e w' => e = .returned (.tuple #[.agg #[.int .i64 m.K, .int .i64 m.F, .int .i64 m.T, .int .i64 m.B, .int .i64 m.A, .int .i64 m.C, .slice ea en ec, .slice qa qn qc, .slice pa pn pc], .bool true]) ∧ Below w.heap.size w w' := by
  have HM : Hid (MXo w g off ⟨m, .slice ea en ec, .slice qa qn qc, .slice pa pn pc⟩) := h
  have HE : Hid (m.F = 1 ∧ m.B = 3 ∧ m.A = 7) := ⟨hF, hB, hA⟩
  have HY : Hid _ := mx_zero w
  have HB0 : Hid _ := below_alloc w (Obj.cells #[.int .i64 0, .int .i64 0, .int .i64 0, .int .i64 0, .int .i64 0, .int .i64 0, .slice none 0 0, .slice none 0 0, .slice none 0 0] 44)
  clear h hF hB hA
  go_enter Tryz.func11, Tryz.ntmps11
  go_upto_region 1 with fail
  obtain ⟨Q, hQ⟩ : ∃ Q, Q = w.heap.size := ⟨_, rfl⟩
  have HQ : Hid (Q = w.heap.size) := hQ
  rw [← hQ] at HY ⊢
  clear hQ
  generalize w.alloc (Obj.cells #[.int .i64 0, .int .i64 0, .int .i64 0, .int .i64 0, .int .i64 0, .int .i64 0, .slice none 0 0, .slice none 0 0, .slice none 0 0] 44) = w1 at HY HB0 ⊢
  have HM1 : Hid _ := HM.out.below HB0.out
  have x0 := HM1.out.c0
  have x1 := HM1.out.c1
  have x2 := HM1.out.c2
  have x3 := HM1.out.c3
  have x4 := HM1.out.c4
  have x5 := HM1.out.c5
  have x6 := HM1.out.c6
  have x7 := HM1.out.c7
  have x8 := HM1.out.c8
  simp only at x0 x1 x2 x3 x4 x5 x6 x7 x8
  rw [HE.out.1] at x1
  rw [HE.out.2.1] at x3
  rw [HE.out.2.2] at x4
  have hk : ∀ z : Int, (z != z) = false := fun z => by simp
  go_upto_region 3 with fail
  have HR : Hid _ := HY.out.over m (.slice ea en ec) (.slice qa qn qc) (.slice pa pn pc)
  have HCS : Hid (Ch (fun x => x = Q) w1 (setM w1 Q m (.slice ea en ec) (.slice qa qn qc) (.slice pa pn pc))) := ch_setM _ _ _ _ _ _
  clear x1 x3 x4
  have x1 := HM1.out.c1
  have x3 := HM1.out.c3
  have x4 := HM1.out.c4
  simp only at x1 x3 x4
  have y0 := HY.out.c0
  have y1 := HY.out.c1
  have y2 := HY.out.c2
  have y3 := HY.out.c3
  have y4 := HY.out.c4
  have y5 := HY.out.c5
  have y6 := HY.out.c6
  have y7 := HY.out.c7
  have y8 := HY.out.c8
  have hz := HY.out.z
  go_wp2_with fail
  show bodyPost _ _ _ _ _ (setM w1 Q m (.slice ea en ec) (.slice qa qn qc) (.slice pa pn pc))
  clear x0 x1 x2 x3 x4 x5 x6 x7 x8 y0 y1 y2 y3 y4 y5 y6 y7 y8 hz
  generalize setM w1 Q m (.slice ea en ec) (.slice qa qn qc) (.slice pa pn pc) = w9 at HR HCS ⊢
  have y0 := HR.out.c0
  have y1 := HR.out.c1
  have y2 := HR.out.c2
  have y3 := HR.out.c3
  have y4 := HR.out.c4
  have y5 := HR.out.c5
  have y6 := HR.out.c6
  have y7 := HR.out.c7
  have y8 := HR.out.c8
  refine bodyPost_ret (v := .tuple #[.agg #[.int .i64 m.K, .int .i64 m.F, .int .i64 m.T, .int .i64 m.B, .int .i64 m.A, .int .i64 m.C, .slice ea en ec, .slice qa qn qc, .slice pa pn pc], .bool true]) (by simp [results, Tryz.results11, go_sem, y0, y1, y2, y3, y4, y5, y6, y7, y8]) rfl ?_
  exact ⟨rfl, ch_below HB0.out HCS.out (by rw [HQ.out]; exact Nat.le_refl _)⟩


theorem kind_co {p : Pn} (hp : p.is = true) : p.kind 0 = 1 := by
  have h := Pn.is_num hp
  unfold Pn.kind Pn.nodes
  rw [hp, if_neg (by simp only [if_true]; omega), if_pos (by omega)]
theorem kind_st {p : Pn} (hp : p.is = true) {k : Nat} (hk : k < p.n) : p.kind (1 + p.W + (k : Int)) = 3 := by
  have h := Pn.is_num hp
  rw [Pn.n_is hp] at hk
  unfold Pn.kind Pn.nodes
  rw [hp, if_neg (by simp only [if_true]; omega), if_neg (by omega), if_neg (by omega)]
theorem snd_end {k : Int} {E : List Int} (hk : k = 1 ∨ k = 3) (hE : endB E = true) : sndM ⟨k, 0, 1, 3, 7, 0, E, [], []⟩ = true := by
  have hf : fld k = 1 := by rcases hk with rfl | rfl <;> rfl
  unfold sndM
  simp only
  rw [hf]
  unfold bareB askB
  simp [nodB, ctB, hE]
theorem snd_cod {k f c : Int} (hk : k = 5 ∨ k = 7) (hf : 0 ≤ f ∧ f < 9) (hc : 0 ≤ c ∧ c ≤ 1000) : sndM ⟨k, f, 1, 3, 7, c, [], [], []⟩ = true := by
  have h4 : fld k = 4 := by rcases hk with rfl | rfl <;> rfl
  unfold sndM
  simp only
  rw [h4]
  unfold bareB askB
  simp [nodB, ctB, hf.1, hf.2, hc.1, hc.2]
theorem fit_end {S : Sc} {f : List Int} (hok : S.ok) (h : Fit S f) : endB f = true := by
  refine end_yes (by have h1 := h.1; have h2 := hok.np1; omega) (by have h1 := h.1; have h2 := hok.np4; omega) (fun j hj => ?_)
  have h1 := h.2 j hj
  have h2 := lenS_le hok j
  rw [nth_at hj] at h1
  omega
theorem tk_co {p : Pn} {S : Sc} {k : Int} {E : List Int} {H : List Hh} (hp : p.is = true) (hk : k = 1 ∨ k = 3) (hE : endB E = true) : takC 1 ⟨k, 0, 1, 3, 7, 0, E, [], []⟩ = 0 ∧ takA p 1 S ⟨k, 0, 1, 3, 7, 0, E, [], []⟩ H = coH p 1 S ⟨k, 0, 1, 3, 7, 0, E, [], []⟩ H := by
  have hs := snd_end hk hE
  unfold takC takA
  rw [hs]
  exact ⟨rfl, by rw [if_pos ⟨rfl, rfl⟩, if_pos (kind_co hp)]⟩
theorem tk_st {p : Pn} {S : Sc} {k c : Int} {j : Nat} {H : List Hh} (hp : p.is = true) (hk : k = 5 ∨ k = 7) (hj : j < p.n) (hc : 0 ≤ c ∧ c ≤ 1000) : takC 1 ⟨k, 1 + p.W + (j : Int), 1, 3, 7, c, [], [], []⟩ = 0 ∧ takA p 1 S ⟨k, 1 + p.W + (j : Int), 1, 3, 7, c, [], [], []⟩ H = ansH p 1 ⟨k, 1 + p.W + (j : Int), 1, 3, 7, c, [], [], []⟩ H := by
  have hb := Pn.is_num hp
  have hn := Pn.n_is hp
  have hs := snd_cod (f := 1 + p.W + (j : Int)) (c := c) hk (by omega) hc
  have hk3 : p.kind (⟨k, 1 + p.W + (j : Int), 1, 3, 7, c, [], [], []⟩ : Ms).F = 3 := kind_st hp hj
  unfold takC takA
  rw [hs]
  exact ⟨rfl, by rw [if_pos ⟨rfl, rfl⟩, if_neg (by rw [hk3]; decide), if_pos hk3]⟩
theorem at_three {h : Hh} (hn : h.n = 3) : atK kH [h] 3 = some h := by
  unfold atK
  rw [List.find?_cons]
  have : decide (kH h = 3) = true := decide_eq_true hn
  rw [this]
/-- The attempt that the statements' MsgAssign makes. -/
def h37 (p : Pn) (S : Sc) (f : List Int) (g : Bool) (A : List Bool) : Hh := ⟨3, 7, formT S f p.B, batchT p.l p.A (betS S f (formT S f p.B) f.length), A, g⟩
theorem fit_form {p : Pn} {S : Sc} {f : List Int} (hp : p.is = true) (h : Fit S f) : formI S f p.B = 0 ∧ formL S f p.B = formT S f p.B ∧ formR S f p.B = betS S f (formT S f p.B) f.length := by
  have hb := Pn.is_num hp
  have h0 : formI S f p.B = 0 := by unfold formI; rw [if_neg (by omega), if_pos h.yes]
  exact ⟨h0, by unfold formL; rw [if_pos h0], by unfold formR; rw [if_pos h0]⟩
theorem tk_assign {p : Pn} {S : Sc} {f : List Int} (hp : p.is = true) (hok : S.ok) (h : Fit S f) : takC 1 ⟨1, 0, 1, 3, 7, 0, f, [], []⟩ = 0 ∧ takA p 1 S ⟨1, 0, 1, 3, 7, 0, f, [], []⟩ [] = ([⟨2, 1, 0, 3, 7, 0, formT S f p.B, [], []⟩], [h37 p S f false (List.replicate p.n false)]) := by
  obtain ⟨h1, h2⟩ := tk_co (S := S) (H := []) hp (.inl rfl) (fit_end hok h)
  obtain ⟨f0, f1, f2⟩ := fit_form hp h
  refine ⟨h1, h2.trans ?_⟩
  unfold coH
  rw [if_pos rfl]
  unfold asgH
  rw [if_neg (by unfold heldB atK; simp), if_pos f0]
  simp only [f1, f2]
  rfl
theorem end_form {p : Pn} {S : Sc} {f : List Int} (hp : p.is = true) (hok : S.ok) (h : Fit S f) : endB (formT S f p.B) = true := by
  have hb := Pn.is_num hp
  exact fit_end hok (form_fit h (by omega))
theorem tk_go {p : Pn} {S S' : Sc} {f : List Int} {A : List Bool} (hp : p.is = true) (hok : S.ok) (h : Fit S f) : takC 1 ⟨3, 0, 1, 3, 7, 0, formT S f p.B, [], []⟩ = 0 ∧ takA p 1 S' ⟨3, 0, 1, 3, 7, 0, formT S f p.B, [], []⟩ [h37 p S f false A] = ((List.range p.n).map (bgM p 1 ⟨3, 0, 1, 3, 7, 0, formT S f p.B, [], []⟩ (h37 p S f false A).T), [h37 p S f true A]) := by
  obtain ⟨h1, h2⟩ := tk_co (S := S') (H := [h37 p S f false A]) hp (.inr rfl) (end_form hp hok h)
  refine ⟨h1, h2.trans ?_⟩
  unfold coH
  rw [if_neg (show ¬ (3 : Int) = 1 by decide), if_pos rfl]
  unfold goH
  simp only
  rw [at_three (h := h37 p S f false A) rfl]
  simp only
  rw [if_pos ⟨rfl, rfl, rfl⟩]
  rfl
theorem tk_early {p : Pn} {S S' : Sc} {f : List Int} {A : List Bool} {k c : Int} {j : Nat} (hp : p.is = true) (hk : k = 5 ∨ k = 7) (hj : j < p.n) (hc : 0 ≤ c ∧ c ≤ 1000) : takC 1 ⟨k, 1 + p.W + (j : Int), 1, 3, 7, c, [], [], []⟩ = 0 ∧ takA p 1 S' ⟨k, 1 + p.W + (j : Int), 1, 3, 7, c, [], [], []⟩ [h37 p S f false A] = ([], [h37 p S f false A]) := by
  obtain ⟨h1, h2⟩ := tk_st (S := S') (H := [h37 p S f false A]) hp hk hj hc
  refine ⟨h1, h2.trans ?_⟩
  unfold ansH
  simp only
  rw [at_three (h := h37 p S f false A) rfl]
  simp only
  rw [if_neg (fun h => by have h2 : (h37 p S f false A).g = true := h.2.1; cases h2)]
theorem tk_applied {p : Pn} {S S' : Sc} {f : List Int} {A : List Bool} {j : Nat} (hp : p.is = true) (hj : j < p.n) : takC 1 ⟨7, 1 + p.W + (j : Int), 1, 3, 7, 0, [], [], []⟩ = 0 ∧ takA p 1 S' ⟨7, 1 + p.W + (j : Int), 1, 3, 7, 0, [], [], []⟩ [h37 p S f true A] = (if (setB A j).countP id < p.n then [] else [⟨8, 1, 0, 3, 7, 0, formT S f p.B, [], []⟩], [h37 p S f true (setB A j)]) := by
  obtain ⟨h1, h2⟩ := tk_st (S := S') (H := [h37 p S f true A]) hp (.inr rfl) hj (c := 0) (by omega)
  refine ⟨h1, h2.trans ?_⟩
  unfold ansH
  simp only
  have e : (1 + p.W + (j : Int) - (1 + p.W)).toNat = j := by omega
  rw [at_three (h := h37 p S f true A) rfl, e]
  simp only
  rw [if_pos (by simp [h37]), if_neg (by simp), if_neg (by decide)]
  rfl
end Go.Proofs.YtopjedgknbbgkaaGreat
