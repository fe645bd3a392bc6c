/- A row of flights; contract of net's Flights. -/
import Derived.Test.YtonnlhehbhiiiaaNg

import Derived.Maps.AppendAt

namespace Go.Proofs.Ytonnlhehbhiiiaa

open Go.RowKit



/-- A flight's ten cells. -/
def cellsE (x : En) : List Value := [.int .i64 x.n, .int .i64 x.m.K, .int .i64 x.m.F, .int .i64 x.m.T, .int .i64 x.m.B, .int .i64 x.m.A, .int .i64 x.m.C, x.e, x.q, x.p]
def flatF (F : List En) : List Value := F.flatMap cellsE
theorem flatF_len (F : List En) : (flatF F).length = F.length * 10 := by
  induction F with
  | nil => rfl
  | cons a t ih => simp only [flatF, List.flatMap_cons, List.length_append] at ih ⊢; rw [ih]; simp [cellsE]; omega
theorem flatF_app (F : List En) (x : En) : flatF (F ++ [x]) = flatF F ++ cellsE x := by simp [flatF]
theorem flatF_get : ∀ (F : List En) (i j : Nat) (h : i < F.length), j < 10 → (flatF F)[i * 10 + j]? = (cellsE F[i])[j]?
  | [], i, j, h, _ => by simp at h
  | a :: t, 0, j, h, hj => by
    have e : (cellsE a).length = 10 := rfl
    simp only [flatF, List.flatMap_cons, Nat.zero_mul, Nat.zero_add, List.getElem_cons_zero]
    rw [List.getElem?_append_left (by omega)]
  | a :: t, i + 1, j, h, hj => by
    have e : (cellsE a).length = 10 := rfl
    have ih := flatF_get t i j (by simpa using h) hj
    simp only [flatF, List.flatMap_cons, List.getElem_cons_succ] at ih ⊢
    rw [List.getElem?_append_right (by omega), e, show (i + 1) * 10 + j - 10 = i * 10 + j by omega]
    exact ih
theorem cellsE_one {w : World} {x : En} (h : Eo w x) : ∀ u ∈ cellsE x, u.oneCell' = true := by
  obtain ⟨ea, en, ec, qa, qn, qc, pa, pn, pc, e1, e2, e3⟩ := en_form h
  intro u hu
  unfold cellsE at hu
  rw [e1, e2, e3] at hu
  simp only [List.mem_cons, List.not_mem_nil, or_false] at hu
  rcases hu with rfl | rfl | rfl | rfl | rfl | rfl | rfl | rfl | rfl | rfl <;> rfl
/-- A row of flights, each with lists of its own. -/
structure Fr (w : World) (B : Nat) (v : Value) (F : List En) : Prop where
  own : w.ownsRow B 55 10 v F.length (flatF F)
  ent : ∀ x ∈ F, Eo w x
  lo : ∀ x ∈ F, B ≤ x.lo
  rise : F.Pairwise (fun x y => x.hi ≤ y.lo)
  apart : ∀ x ∈ F, ∀ g, v.ownBlock = some g → g < x.lo ∨ x.hi ≤ g
theorem Fr.below {w w' : World} {B : Nat} {v : Value} {F : List En} (h : Fr w B v F) (hb : Below w.heap.size w w') : Fr w' B v F :=
  ⟨own_belowC h.own hb, fun x hx => (h.ent x hx).below hb, h.lo, h.rise, h.apart⟩
theorem info_fl : (Try.prog.info? 55).map (fun i => (i.zero, i.size, i.bytes)) = some (some (.agg #[.int .i64 0, .int .i64 0, .int .i64 0, .int .i64 0, .int .i64 0, .int .i64 0, .int .i64 0, .slice none 0 0, .slice none 0 0, .slice none 0 0]), 10, 128) := by kernel_rfl
theorem Fr.join {w w2 w3 : World} {B : Nat} {v v' : Value} {F : List En} {x : En} (h : Fr w B v F) (hb : Below w.heap.size w w2) (hx : Eo w2 x) (hlo : w.heap.size ≤ x.lo) (hB : B ≤ w.heap.size) (ho : w3.ownsRow B 55 10 v' (F.length + 1) (flatF F ++ cellsE x)) (hg : w2.grownBy w3 v.ownBlock)
    (hat : v'.ownBlock = v.ownBlock ∨ v'.ownBlock = some w2.heap.size) : Fr w3 B v' (F ++ [x]) := by
  have hc : Ch (fun y => v.ownBlock = some y) w2 w3 := Ch.of_grown hg (fun y hy => hy)
  have h2 := h.below hb
  have hvl : ∀ g, v.ownBlock = some g → g < w.heap.size := fun g hg => (h.own.lt g hg).2
  refine ⟨by rw [flatF_app, List.length_append]; exact ho, fun y hy => ?_, fun y hy => ?_, ?_, fun y hy g hgv => ?_⟩
  · rcases List.mem_append.1 hy with hy | hy
    · exact (h2.ent y hy).ch hc (fun z h1 h3 e => by rcases h.apart y hy z e with q | q <;> omega)
    · rw [List.mem_singleton] at hy; subst hy
      exact hx.ch hc (fun z h1 h3 e => by have := hvl z e; omega)
  · rcases List.mem_append.1 hy with hy | hy
    · exact h.lo y hy
    · rw [List.mem_singleton] at hy; subst hy; omega
  · refine List.pairwise_append.2 ⟨h.rise, List.pairwise_singleton _ _, fun a ha b hb' => ?_⟩
    rw [List.mem_singleton] at hb'; subst hb'
    exact Nat.le_trans (h.ent a ha).hi hlo
  · rcases hat with q | q
    · rw [q] at hgv
      rcases List.mem_append.1 hy with hy | hy
      · exact h.apart y hy g hgv
      · rw [List.mem_singleton] at hy; subst hy; left; have := hvl g hgv; omega
    · rw [q] at hgv
      cases hgv
      right
      rcases List.mem_append.1 hy with hy | hy
      · have := (h2.ent y hy).hi; exact this
      · rw [List.mem_singleton] at hy; subst hy; exact hx.hi
/-- append of one flight. -/
theorem wpList_append_fl {w : World} {ops : Array Oper} {rest : List Oper} {o : Oper} {a : Act} {Q : Exit → Act → World → Prop} (hgd : o.guard = none) (s x : Operand)
    (ho : o.op = .call { callee := .builtin .append, args := #[s, x], argTypes := #[40, 40] })
    (base : Nat) (v : Value) (n : Nat) (xs : List Value) (hs : a.eval s = v) (hown : w.ownsRow base 55 10 v n xs)
    (g c : Nat) (en : En) (hx : a.eval x = .slice (some ⟨g, 0, none⟩) 1 c) (hnews : ∀ j u, (cellsE en)[j]? = some u → w.cell? ⟨g, j, none⟩ = some u) (h1 : ∀ u ∈ cellsE en, u.oneCell' = true)
    (h63 : n ≤ 5000) (hbase : base ≤ w.heap.size)
    (h : ∀ v' w', w'.ownsRow base 55 10 v' (n + 1) (xs ++ cellsE en) → w.grownBy w' v.ownBlock → (v'.ownBlock = v.ownBlock ∨ v'.ownBlock = some w.heap.size) → wpList Try.prog ops Q rest (a.put o.dst v') w') : wpList Try.prog ops Q (o :: rest) a w := by
  obtain ⟨i0, hi0, hz0, hz1, hz2⟩ := info_partsQ info_fl
  refine wpList_append_own_at w hgd s x 40 ho base 55 i0 _ 10 128 Try.underlying40 hi0 hz0 hz1 hz2 rfl (by decide) v n xs hs hown ⟨g, 0, none⟩ 1 c (cellsE en) hx rfl ?_ h1 (by unfold maxLen; omega) (by omega) hbase (fun v' w' h2 h3 _ h5 => h v' w' h2 h3 h5)
  intro j u hj
  rw [WideShapes.add_plain, Nat.zero_add]
  exact hnews j u hj
theorem cells_lit {w : World} {x : En} {t : TypeId} : ∀ j u, (cellsE x)[j]? = some u → (w.alloc (Obj.cells #[.int .i64 x.n, .int .i64 x.m.K, .int .i64 x.m.F, .int .i64 x.m.T, .int .i64 x.m.B, .int .i64 x.m.A, .int .i64 x.m.C, x.e, x.q, x.p] t)).cell? ⟨w.heap.size, j, none⟩ = some u := by
  intro j u hj
  unfold cellsE at hj
  have hj10 : j < 10 := by
    rcases Nat.lt_or_ge j 10 with q | q
    · exact q
    · rw [List.getElem?_eq_none (by simpa using q)] at hj; cases hj
  have hc : j = 0 ∨ j = 1 ∨ j = 2 ∨ j = 3 ∨ j = 4 ∨ j = 5 ∨ j = 6 ∨ j = 7 ∨ j = 8 ∨ j = 9 := by omega
  rcases hc with rfl | rfl | rfl | rfl | rfl | rfl | rfl | rfl | rfl | rfl <;> simp at hj <;> subst hj <;> simp [go_sem]
def nmE (x : En) : Nat × Ms := (x.n, x.m)
theorem atN_at {L : List En} (hr : RiseE L) {i : Nat} (hi : i < L.length) : atN L (L[i].n : Int) = some L[i] := by
  unfold atN
  rw [List.find?_eq_some_iff_getElem]
  refine ⟨by simp, i, hi, rfl, fun j hj => ?_⟩
  have := List.pairwise_iff_getElem.1 hr j i (by omega) hi hj
  simp; omega


theorem fr_nil (w : World) : Fr (w.alloc (Obj.cells #[] 55)) w.heap.size (.slice (some ⟨w.heap.size, 0, none⟩) 0 0) [] :=
  ⟨⟨rfl, .inr ⟨_, 0, #[], rfl, Nat.le_refl _, heap_alloc_new w _, Nat.le_refl _, by simp [maxLen], rfl, rfl⟩⟩, by simp, by simp, List.Pairwise.nil, by simp⟩
/-- While flights are listed. -/
structure FlR (w : World) (L : List En) (kv : Value) (lv : Value) (i : Nat) (F : List En) (wr : World) : Prop where
  fr : Fr wr w.heap.size lv F
  nm : F.map nmE = (L.take i).map nmE
  ks : Sv .i64 wr kv (L.map fun x => (x.n : Int))
  ne : ∀ g, lv.ownBlock = some g → kv.ownBlock ≠ some g
  kl : ∀ g, kv.ownBlock = some g → L ≠ [] → g < wr.heap.size
  b : Below w.heap.size w wr
theorem FlR.step {w wr w4 w5 : World} {L F : List En} {kv lv lv' : Value} {i : Nat} {x : En} (h : FlR w L kv lv i F wr) (hi : i < L.length) (hb : Below wr.heap.size wr w4) (hx : Eo w4 x) (hlo : wr.heap.size ≤ x.lo) (hn : nmE x = nmE L[i])
    (ho : w5.ownsRow w.heap.size 55 10 lv' (F.length + 1) (flatF F ++ cellsE x)) (hg : w4.grownBy w5 lv.ownBlock) (hat : lv'.ownBlock = lv.ownBlock ∨ lv'.ownBlock = some w4.heap.size) : FlR w L kv lv' (i + 1) (F ++ [x]) w5 := by
  have hc : Ch (fun y => lv.ownBlock = some y) w4 w5 := Ch.of_grown hg (fun y hy => hy)
  have hL : L ≠ [] := by rintro rfl; simp at hi
  have s1 := hb.size
  have s2 := hc.size
  refine ⟨h.fr.join hb hx hlo h.b.size ho hg hat, ?_, ?_, ?_, fun g hg hL => by have := h.kl g hg hL; omega, ?_⟩
  · rw [List.map_append, h.nm, List.take_add_one, List.getElem?_eq_getElem hi, List.map_append]
    simp [hn]
  · exact (h.ks.below hb).ch hc (fun y hy _ e => h.ne y e hy)
  · intro g hgv hk
    rcases hat with q | q
    · rw [q] at hgv; exact h.ne g hgv hk
    · rw [q] at hgv; cases hgv
      have := h.kl _ hk hL
      omega
  · exact (h.b.trans (hb.mono h.b.size)).trans (hc.to_below (Nat.le_trans h.b.size s1) (fun y hy => (h.fr.own.lt y hy).1))
/-- What Flights leaves. -/
def FlGot (w : World) (L : List En) (e : Ending) (w' : World) : Prop :=
  ∃ v F, e = .returned v ∧ Fr w' w.heap.size v F ∧ F.map nmE = L.map nmE ∧ Below w.heap.size w w'
set_option maxRecDepth 100000 in
set_option maxHeartbeats 4000000 in
theorem flights_walk {w : World} {P b r nx : Nat} {L : List En} (hn : Nt w P b r nx L) (hnx : nx < 9223372036854775800) : Calls Try.prog 12 #[.pointer (some ⟨P, 0, none⟩)] w (FlGot w L) := by
  have HN : Hid (Nt w P b r nx L) := hn
  have HR : Hid (RiseE L) := hn.rise.imp (fun h => h.1)
  have HLE : Hid (L.length ≤ 4096) := Nat.le_trans hn.len hn.room
  clear hn
  go_enter Try.func12, Try.ntmps12
  go_upto_region 4 with fail
  have HF : Hid _ := fr_nil w
  have HB : Hid _ := below_alloc w (Obj.cells #[] 55)
  have HS1 : Hid ((w.alloc (Obj.cells #[] 55)).heap.size = w.heap.size + 1) := size_allocC _ _
  generalize w.alloc (Obj.cells #[] 55) = w1 at HF HB HS1 ⊢
  have HN1 : Hid _ := HN.out.below HB.out
  have p2 := HN1.out.c2
  go_wp2_with fail
  refine (keys_walk (some b) w1).mono ?_
  rintro e w2 ⟨rfl, rfl⟩
  clear p2
  go_wp2_with fail
  refine (sorted_walk HN1.out.own HLE.out HR.out).mono ?_
  rintro e w3 ⟨v, rfl, hrow, hb3⟩
  obtain ⟨ka, kc, rfl⟩ := own_formN hrow
  have HI : Hid (FlR w L (.slice ka L.length kc) (.slice (some ⟨w.heap.size, 0, none⟩) 0 0) 0 [] w3) :=
    ⟨HF.out.below hb3, rfl, own_sv hrow, fun g hg hk => by have q0 : w.heap.size = g := Option.some.inj hg; have q1 := (hrow.lt g hk).1; have q2 : w1.heap.size = w.heap.size + 1 := HS1.out; omega, fun g hk _ => (hrow.lt g hk).2, below_trans HB.out hb3⟩
  clear hrow hb3 HF HB HS1 HN1
  have hll : (L.length : Int) ≤ 9223372036854775807 := by have := HLE.out; omega
  go_upto_region 5 with fail
  go_loopw [3, 16] (fun lv iv wr => ∃ (i : Nat) (F : List En), iv = .int .i64 i ∧ i ≤ L.length ∧ FlR w L (.slice ka L.length kc) lv i F wr) (fun _ iv _ => L.length - (intOf iv).toNat)
  case atStart => exact ⟨0, [], rfl, Nat.zero_le _, HI.out⟩
  case round =>
    obtain ⟨i, F, rfl, hil, hrel⟩ := hrel
    have HI1 : Hid _ := hrel
    clear hrel HI
    by_cases hlt : i < L.length
    · have hlti : (i : Int) < (L.length : Int) := by omega
      obtain ⟨kb, koff, rfl, c0⟩ := sv_at HI1.out.ks (i := i) (by simpa using hlt)
      rw [List.getElem_map] at c0
      have HLT : Hid (i < L.length) := hlt
      obtain ⟨x, hx⟩ : ∃ x, x = L[i] := ⟨_, rfl⟩
      have HXE : Hid (x = L[i]) := hx
      have c1 : wr.cell? ⟨kb, koff + i, none⟩ = some (.int .i64 (x.n : Int)) := by rw [hx]; exact c0
      clear c0
      have hnr := HN.out.below HI1.out.b
      have p2 := hnr.c2
      have hmem : x ∈ L := by rw [hx]; exact List.getElem_mem _
      have hE := hnr.ent x hmem
      have hk : in64 (x.n : Int) := by have := HN.out.lt x hmem; constructor <;> omega
      have hlk := look_one hnr.own hk (x := x) (by rw [hx]; exact atN_at HR.out _)
      have HSX : Hid (sndM x.m = true) := hnr.snd x hmem
      have HKX : Hid (x.m.ok) := hE.ok
      obtain ⟨ea, en, ec, qa, qn, qc, pa, pn, pc, e1, e2, e3⟩ := en_form hE
      unfold mvE at hlk
      rw [e1, e2, e3] at hlk
      have HL : Hid (ML wr x.m (.slice ea en ec) (.slice qa qn qc) (.slice pa pn pc)) := by have h := hE.mo.l; rw [e1, e2, e3] at h; exact h
      clear e1 e2 e3 hx hnr hE hk hmem hlt
      go_wp2_with fail
      refine (clone_walk HL.out HKX.out (snd_len HSX.out).1 (snd_len HSX.out).2.1 (snd_len HSX.out).2.2).mono ?_
      rintro e w4 ⟨a1, a2, a3, rfl, hmo, hb4⟩
      obtain ⟨y, hy⟩ : ∃ y : En, y = ⟨x.n, x.m, a1, a2, a3, wr.heap.size, w4.heap.size⟩ := ⟨_, rfl⟩
      have HY : Hid (Eo w4 y) := by rw [hy]; exact ⟨hmo, HKX.out, Nat.le_refl _⟩
      have HYL : Hid (wr.heap.size ≤ y.lo) := by rw [hy]; exact Nat.le_refl _
      have HYN : Hid (nmE y = nmE L[i]) := by rw [hy, HXE.out]; rfl
      have HB4 : Hid (Below wr.heap.size wr w4) := hb4
      obtain ⟨ya, yn, yc, za, zn, zc, ua, un, uc, e1, e2, e3⟩ := en_form HY.out
      have f1 : a1 = .slice ya yn yc := by rw [← e1, hy]
      have f2 : a2 = .slice za zn zc := by rw [← e2, hy]
      have f3 : a3 = .slice ua un uc := by rw [← e3, hy]
      have HCE : Hid (cellsE y = [.int .i64 x.n, .int .i64 x.m.K, .int .i64 x.m.F, .int .i64 x.m.T, .int .i64 x.m.B, .int .i64 x.m.A, .int .i64 x.m.C, a1, a2, a3]) := by rw [hy]; rfl
      have HCL : Hid (∀ j u, (cellsE y)[j]? = some u → (w4.alloc (Obj.cells #[.int .i64 x.n, .int .i64 x.m.K, .int .i64 x.m.F, .int .i64 x.m.T, .int .i64 x.m.B, .int .i64 x.m.A, .int .i64 x.m.C, a1, a2, a3] 55)).cell? ⟨w4.heap.size, j, none⟩ = some u) := by have h := @cells_lit w4 y 55; rw [hy] at h ⊢; exact h
      have HFL : Hid (F.length ≤ 5000) := by have h := congrArg List.length HI1.out.nm; rw [List.length_map, List.length_map, List.length_take] at h; have := HLE.out; show _ ≤ _; omega
      subst f1 f2 f3
      clear hmo hb4 e1 e2 e3 hy c1 p2 hlk
      go_wp2_with (at_builtin; refine wpList_append_fl (by rfl) (.tmp 20) (.tmp 30) (by rfl) w.heap.size _ F.length (flatF F) (by rfl) (HI1.out.fr.own |> (own_belowC · (below_trans HB4.out (below_alloc _ _)))) w4.heap.size 1 y (by rfl) HCL.out (cellsE_one HY.out) HFL.out (by have h1 := HI1.out.b.size; have h2 := HB4.out.size; rw [size_allocC]; omega) ?_; intro v5 w5 hown hgrow hat)
      go_roundw
      case rel => exact ⟨i + 1, F ++ [y], by go_num, HLT.out, HI1.out.step HLT.out (below_trans HB4.out (below_alloc _ _)) (HY.out.below (below_alloc _ _)) HYL.out HYN.out hown hgrow hat⟩
      case measure => have := HLT.out; simp [intOf]; omega
    · have hlti : ¬ (i : Int) < (L.length : Int) := by omega
      obtain rfl : i = L.length := by omega
      go_wp2_with fail
      go_ret
      exact ⟨_, F, rfl, HI1.out.fr, by rw [HI1.out.nm, List.take_length], HI1.out.b⟩
end Go.Proofs.Ytonnlhehbhiiiaa


