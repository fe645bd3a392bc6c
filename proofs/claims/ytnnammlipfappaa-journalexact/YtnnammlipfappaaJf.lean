/- takeEntry. -/
import Derived.Test.YtnnammlipfappaaJe

namespace Go.Proofs.Ytnnammlipfappaa

open Ieee Go.RowKit



def eC (F : List Nat) (v0 v1 : Value) : Array Value := #[.int .i64 (F.getD 0 0 : Nat), .int .i64 (F.getD 1 0 : Nat), v0, v1, .int .i64 (F.getD 2 0 : Nat)]
/-- takeEntry's blocks: the answer's, the entry's. -/
structure Tk (w wr : World) (c : Array Value) : Prop where
  bel : Below w.heap.size w wr
  res : wr.heap[w.heap.size]? = some (.cells #[.int .i64 0, .int .i64 0, .slice none 0 0, .slice none 0 0, .int .i64 0] 60 (0, 0))
  blk : wr.heap[w.heap.size + 1]? = some (.cells c 60 (0, 0))
section

variable {w wr w' : World} {c : Array Value} {v0 v1 bv : Value} {F : List Nat} {q : Int} {l : List Nat}

theorem Tk.go (h : Tk w wr c) (hb : Below wr.heap.size wr w') : Tk w w' c := ⟨h.bel.trans (hb.mono h.bel.size), blk_below h.res hb, blk_below h.blk hb⟩
theorem Tk.set (h : Tk w wr c) (i : Nat) (u : Value) : Tk w (wr.setCell ⟨w.heap.size + 1, i, none⟩ u) (c.setIfInBounds i u) :=
  ⟨h.bel.setCell (p := ⟨w.heap.size + 1, i, none⟩) (Nat.le_succ _) _, by rw [set_other _ _ (by omega)]; exact h.res, by rw [set_row h.blk]⟩
theorem eC_set {k x : Nat} (hk : F.length = k) (h3 : k < 3) : (eC F v0 v1).setIfInBounds (of3 k) (.int .i64 x) = eC (F ++ [x]) v0 v1 := by
  subst hk
  match F, h3 with
  | [], _ => rfl
  | [a], _ => rfl
  | [a, b], _ => rfl
/-- What takeEntry answers. -/
def TeGot (q : Int) (l : List Nat) (w : World) (e : Ending) (w' : World) : Prop := Below w.heap.size w w' ∧
  ((takE q l = none ∧ e = .returned (.tuple #[.agg #[.int .i64 0, .int .i64 0, .slice none 0 0, .slice none 0 0, .int .i64 0], .bool false])) ∨
   ∃ (g : Nat) (n : Nt) (pa ca : Option Addr) (pc cc : Nat), takE q l = some (g, n) ∧ e = .returned (.tuple #[.agg #[.int .i64 g, .int .i64 n.b, .slice pa n.p.length pc, .slice ca n.c.length cc, .int .i64 n.a], .bool true]) ∧ OwN w.heap.size w' (.slice pa n.p.length pc) n.p ∧ OwN w.heap.size w' (.slice ca n.c.length cc) n.c)
theorem te_no (h : takE q l = none) (hb : Below w.heap.size w w') : TeGot q l w (.returned (.tuple #[.agg #[.int .i64 0, .int .i64 0, .slice none 0 0, .slice none 0 0, .int .i64 0], .bool false])) w' := ⟨hb, .inl ⟨h, rfl⟩⟩
theorem grown_set5 (w : World) (g : Nat) (a b c d e : Value) : w.grownBy (((((w.setCell ⟨g, 0, none⟩ a).setCell ⟨g, 1, none⟩ b).setCell ⟨g, 2, none⟩ c).setCell ⟨g, 3, none⟩ d).setCell ⟨g, 4, none⟩ e) (some g) := grown_trans (grown_set4 _ _ _ _ _ _) (grown_set _ _ _ _)
theorem Tk.end5 (h : Tk w wr c) (hg : wr.grownBy w' (some w.heap.size)) : Below w.heap.size w w' := h.bel.grown hg h.bel.size (fun x hx => by cases hx; omega)
def TnRel (w : World) (G : Nat) (l : List Nat) (bv iv : Value) (wr : World) : Prop := ∃ k : Nat, k ≤ 3 ∧ iv = .int .i64 k ∧ ∃ F r, tkN k l = some (F, r) ∧ Bv w bv r ∧ Tk w wr (eC F (.slice none 0 0) (.slice none 0 0)) ∧ wr.heap[G]? = some (.cells #[.pointer (some ⟨w.heap.size + 1, 0, none⟩), .pointer (some ⟨w.heap.size + 1, 1, none⟩), .pointer (some ⟨w.heap.size + 1, 4, none⟩)] 88 (0, 0))


theorem te_yes {g : Nat} {n : Nt} {v0 v1 : Value} (h : takE q l = some (g, n)) (hT : Tk w wr c) (h0 : OwN (w.heap.size + 2) wr v0 n.p) (h1 : OwN (w.heap.size + 2) wr v1 n.c) (hg : wr.grownBy w' (some w.heap.size)) : TeGot q l w (.returned (.tuple #[.agg #[.int .i64 g, .int .i64 n.b, v0, v1, .int .i64 n.a], .bool true])) w' := by
  obtain ⟨_, pa, pc, rfl, _⟩ := own_nl h0
  obtain ⟨_, ca, cc, rfl, _⟩ := own_nl h1
  have hk : ∀ x, x < wr.heap.size → x ≠ w.heap.size → w'.heap[x]? = wr.heap[x]? := fun x hx hn => hg.block x hx (fun e => hn (by simpa using e))
  refine ⟨hT.end5 hg, .inr ⟨g, n, pa, ca, pc, cc, h, rfl, ?_, ?_⟩⟩
  · refine own_base (row_keep h0 fun x hx => hk x (h0.lt x hx).2 ?_) (by omega)
    have := (h0.lt x hx).1; omega
  · refine own_base (row_keep h1 fun x hx => hk x (h1.lt x hx).2 ?_) (by omega)
    have := (h1.lt x hx).1; omega
theorem tnums_le (k : Nat) : ∀ (l : List Nat) (p : Nat) (acc q : List Nat) (z : Nat), (∀ c ∈ l, c < 256) → p ≤ l.length → (∀ x ∈ acc, x ≤ 4611686018427387904) → Wm.tnums k l p acc = (q, z, 0) → z ≤ l.length ∧ ∀ x ∈ q, x ≤ 4611686018427387904 := by
  induction k with
  | zero => intro l p acc q z _ hp ha h; rw [Wm.tnums] at h; cases h; exact ⟨hp, ha⟩
  | succ k ih =>
    intro l p acc q z hl hp ha h
    rcases Wm.take_form (l.drop p) (fun c hc => hl c (List.mem_of_mem_drop hc)) with ⟨e, he, h34⟩ | ⟨x, n, hx, _, _, hn, _⟩
    · rw [Wm.tnums, he] at h
      rcases h34 with rfl | rfl <;> (simp only at h; cases h)
    · rw [tn_go k acc hx] at h
      split at h
      · cases h
      · rename_i hb
        rw [List.length_drop] at hn
        refine ih l (p + n) (acc ++ [x]) q z hl (by omega) (fun y hy => ?_) h
        rcases List.mem_append.1 hy with h1 | h1
        · exact ha y h1
        · rw [List.mem_singleton.1 h1]; omega
theorem takeNums_le {l xs : List Nat} {q : Int} {z : Nat} (hl : ∀ c ∈ l, c < 256) (h : Wm.takeNums l q = (xs, z, 0)) : z ≤ l.length ∧ ∀ x ∈ xs, x ≤ 4611686018427387904 := by
  rcases Wm.take_form l hl with ⟨e, he, h34⟩ | ⟨c, n, hx, _, _, hn, _⟩
  · rw [takeNums_err q he h34] at h
    rcases h34 with rfl | rfl <;> cases h
  · by_cases hm : q < (c : Int)
    · rw [takeNums_long hx hm] at h; cases h
    · rw [takeNums_go hx hm] at h
      exact tnums_le c l n [] xs z hl hn (by simp) h
theorem in64_ib {xs : List Nat} (h : ∀ x ∈ xs, x ≤ 4611686018427387904) : In64 (ib xs) := by
  intro y hy
  obtain ⟨x, hx, rfl⟩ := List.mem_map.1 hy
  have := h x hx
  constructor <;> omega
theorem eC_s2 (F : List Nat) (v0 v1 u : Value) : (eC F v0 v1).setIfInBounds 2 u = eC F u v1 := rfl
theorem eC_s3 (F : List Nat) (v0 v1 u : Value) : (eC F v0 v1).setIfInBounds 3 u = eC F v0 u := rfl
def PL (B : Nat) : Array Value := #[.pointer (some ⟨B, 2, none⟩), .pointer (some ⟨B, 3, none⟩)]
def TlRel (w : World) (H : Nat) (q : Int) (F r : List Nat) (bv iv : Value) (wr : World) : Prop := ∃ s v0 v1, Bv w bv s ∧ Tk w wr (eC F v0 v1) ∧ wr.heap[H]? = some (.cells #[.pointer (some ⟨w.heap.size + 1, 2, none⟩), .pointer (some ⟨w.heap.size + 1, 3, none⟩)] 93 (0, 0)) ∧
  ((iv = .int .i64 0 ∧ tlN q 0 r = some ([], s) ∧ v0 = .slice none 0 0 ∧ v1 = .slice none 0 0) ∨
   (∃ x0, iv = .int .i64 1 ∧ tlN q 1 r = some ([x0], s) ∧ OwN (w.heap.size + 2) wr v0 (ib x0) ∧ In64 (ib x0) ∧ v1 = .slice none 0 0) ∨
   (∃ x0 x1, iv = .int .i64 2 ∧ tlN q 2 r = some ([x0, x1], s) ∧ OwN (w.heap.size + 2) wr v0 (ib x0) ∧ In64 (ib x0) ∧ OwN (w.heap.size + 2) wr v1 (ib x1) ∧ In64 (ib x1)))
/-- A list is set in the entry. -/
theorem te_own {w wr w' : World} {base e s n : Nat} {v : Value} {xs : List Value} (h : wr.ownsRow base e s v n xs) (hb : w.heap.size + 2 ≤ base) (hk : ∀ x, x ≠ w.heap.size + 1 → w'.heap[x]? = wr.heap[x]?) : w'.ownsRow (w.heap.size + 2) e s v n xs :=
  own_base (row_keep h fun x hx => hk x (by have := (h.lt x hx).1; omega)) hb
set_option maxRecDepth 100000 in
set_option maxHeartbeats 2000000 in
theorem takeE_walk (hb : Bv w bv l) (hq : q ≤ 4) : Calls Try.prog 39 #[bv, .int .i64 q] w (TeGot q l w) := by
  have HB : Hid (Bv w bv l) := hb
  have HQ : Hid (q ≤ 4) := hq
  obtain ⟨w0, hw0⟩ : ∃ w0, w0 = (w.alloc (Obj.cells #[.int .i64 0, .int .i64 0, .slice none 0 0, .slice none 0 0, .int .i64 0] 60)).alloc (Obj.cells #[.int .i64 0, .int .i64 0, .slice none 0 0, .slice none 0 0, .int .i64 0] 60) := ⟨_, rfl⟩
  have HW0 : Hid (w0 = (w.alloc (Obj.cells #[.int .i64 0, .int .i64 0, .slice none 0 0, .slice none 0 0, .int .i64 0] 60)).alloc (Obj.cells #[.int .i64 0, .int .i64 0, .slice none 0 0, .slice none 0 0, .int .i64 0] 60)) := hw0
  have HT0 : Hid (Tk w w0 (eC [] (.slice none 0 0) (.slice none 0 0))) := by
    refine ⟨?_, ?_, ?_⟩
    · rw [hw0]; exact below_trans (below_alloc _ _) (below_alloc _ _)
    · rw [hw0]; exact alloc_old (alloc_at rfl)
    · rw [hw0]; exact alloc_at (by simp)
  clear hb hq hw0
  go_enter Try.func39, Try.ntmps39
  go_wp2_with fail
  rw [← HW0.out]
  refine (numbers_walk (w.heap.size + 1)).mono ?_
  rintro e w1 ⟨G, rfl, hG0, hG, hB1⟩
  have HT1 : Hid (Tk w w1 (eC [] (.slice none 0 0) (.slice none 0 0))) := HT0.out.go hB1
  have HG0 : Hid (w.heap.size + 2 ≤ G) := by have := blk_lt HT0.out.blk; show _ ≤ _; omega
  have HG : Hid (w1.heap[G]? = some (.cells #[.pointer (some ⟨w.heap.size + 1, 0, none⟩), .pointer (some ⟨w.heap.size + 1, 1, none⟩), .pointer (some ⟨w.heap.size + 1, 4, none⟩)] 88 (0, 0))) := hG
  clear hG hG0 hB1
  go_wp2_with fail
  go_loopw [0, 20] (TnRel w G l) (fun _ iv _ => 3 - (intOf iv).toNat)
  case atStart => exact ⟨0, by omega, rfl, [], l, rfl, HB.out, HT1.out, HG.out⟩
  case round =>
    clear HT1 HG
    obtain ⟨k, hk, rfl, F, r, hF, hr, hT, hg⟩ := hrel
    have HF : Hid (tkN k l = some (F, r)) := hF
    have HR : Hid (Bv w u0 r) := hr
    have HT : Hid (Tk w wr (eC F (.slice none 0 0) (.slice none 0 0))) := hT
    have HG : Hid (wr.heap[G]? = some (.cells #[.pointer (some ⟨w.heap.size + 1, 0, none⟩), .pointer (some ⟨w.heap.size + 1, 1, none⟩), .pointer (some ⟨w.heap.size + 1, 4, none⟩)] 88 (0, 0))) := hg
    by_cases hlt : k < 3
    · have z0 : wr.cell? ⟨G, k, none⟩ = some (.pointer (some ⟨w.heap.size + 1, of3 k, none⟩)) := by
        rw [blk_cell hg]
        have : k = 0 ∨ k = 1 ∨ k = 2 := by omega
        rcases this with rfl | rfl | rfl <;> rfl
      obtain ⟨cu, hcu⟩ : ∃ cu, wr.cell? ⟨w.heap.size + 1, of3 k, none⟩ = some (.int .i64 cu) := by
        rw [blk_cell hT.blk]
        have : k = 0 ∨ k = 1 ∨ k = 2 := by omega
        rcases this with rfl | rfl | rfl <;> exact ⟨_, rfl⟩
      have fz : wr.frozen? ⟨w.heap.size + 1, of3 k, none⟩ = false := blk_soft hT.blk _
      have q0 : wr.cell? ⟨w.heap.size, 0, none⟩ = some (.int .i64 0) := by rw [blk_cell hT.res]; rfl
      have q1 : wr.cell? ⟨w.heap.size, 1, none⟩ = some (.int .i64 0) := by rw [blk_cell hT.res]; rfl
      have q2 : wr.cell? ⟨w.heap.size, 2, none⟩ = some (.slice none 0 0) := by rw [blk_cell hT.res]; rfl
      have q3 : wr.cell? ⟨w.heap.size, 3, none⟩ = some (.slice none 0 0) := by rw [blk_cell hT.res]; rfl
      have q4 : wr.cell? ⟨w.heap.size, 4, none⟩ = some (.int .i64 0) := by rw [blk_cell hT.res]; rfl
      have y0 : wr.frozen? ⟨w.heap.size, 0, none⟩ = false := blk_soft hT.res 0
      have y1 : wr.frozen? ⟨w.heap.size, 1, none⟩ = false := blk_soft hT.res 1
      have y2 : wr.frozen? ⟨w.heap.size, 2, none⟩ = false := blk_soft hT.res 2
      have y3 : wr.frozen? ⟨w.heap.size, 3, none⟩ = false := blk_soft hT.res 3
      have y4 : wr.frozen? ⟨w.heap.size, 4, none⟩ = false := blk_soft hT.res 4
      obtain ⟨ra, rc, rfl⟩ := bv_form hr
      have hrl : r.length ≤ rc := (show Bv w (.slice ra r.length rc) r from hr).le_cap
      have HS : Hid (∀ x s, tk1 r = some (x, s) → (eC F (.slice none 0 0) (.slice none 0 0)).setIfInBounds (of3 k) (.int .i64 x) = eC (F ++ [x]) (.slice none 0 0) (.slice none 0 0)) := fun x s _ => eC_set (tkN_len k hF).1 hlt
      generalize of3 k = o at z0 hcu fz HS
      clear hF hr hT hg
      go_wp2_with fail
      refine (take_walk (HR.out.below HT.out.bel)).mono ?_
      rintro e w2 ⟨he, hw2⟩
      replace hw2 := hw2.symm
      subst hw2
      rcases Wm.take_form r HR.out.2 with ⟨er, her, h34⟩ | ⟨x, n, htx, hx, hn1, hn2, henc⟩
      · rw [t3_lit her] at he
        subst he
        have HN : Hid (takE q l = none) := takE_n1 (k := k + 1) (by omega) (tkN_stop HF.out (by unfold tk1; rw [her, if_neg]; simp only; omega))
        have hne : ((er : Int) != 0) = true := by rw [bne_iff_ne]; omega
        clear her h34
        go_wp2_with fail
        (try simp only [Exit.inBlock, Exit.then])
        refine bodyPost_ret (v := .tuple #[.agg #[.int .i64 0, .int .i64 0, .slice none 0 0, .slice none 0 0, .int .i64 0], .bool false]) (by rw [results_cell_tmp rfl]; go_simp) rfl ?_
        exact te_no HN.out (HT.out.end5 (grown_set5 _ _ _ _ _ _ _))
      · rw [t3_lit htx] at he
        subst he
        by_cases hbig : x ≤ 1099511627776
        · have HK : Hid (tk1 r = some (x, r.drop n)) := by show _ = _; unfold tk1; rw [htx, if_pos ⟨rfl, hbig⟩]
          have hnb : decide ((1099511627776 : Int) < (x : Int)) = false := by rw [decide_eq_false_iff_not]; omega
          have u1 : IntKind.i64.wrap (x : Int) = (x : Int) := wrapU (by omega) (by omega)
          have hnl : (n : Int) ≤ (r.length : Int) := by omega
          have HN2 : Hid (n ≤ r.length) := hn2
          obtain ⟨A, hA⟩ : ∃ A, (if rc = n then ra else ra.map fun a => a.add n) = A := ⟨_, rfl⟩
          have HC : Hid (Bv w (.slice A (r.length - n) (rc - n)) (r.drop n)) := by
            show Bv _ _ _
            have := HR.out.cut n r.length hn2 (Nat.le_refl _) (rc = n) Iff.rfl
            rw [hA, List.take_of_length_le (by rw [List.length_drop]; exact Nat.le_refl _)] at this
            exact this
          clear htx henc hbig hx
          go_wp2_with fail
          go_region_with (fail)
          clear hA
          have HTN : Hid (Tk w (wr.setCell ⟨w.heap.size + 1, o, none⟩ (.int .i64 x)) (eC (F ++ [x]) (.slice none 0 0) (.slice none 0 0))) := by show Tk _ _ _; rw [← HS.out x _ HK.out]; exact HT.out.set o _
          have HGN : Hid ((wr.setCell ⟨w.heap.size + 1, o, none⟩ (.int .i64 x)).heap[G]? = some (.cells #[.pointer (some ⟨w.heap.size + 1, 0, none⟩), .pointer (some ⟨w.heap.size + 1, 1, none⟩), .pointer (some ⟨w.heap.size + 1, 4, none⟩)] 88 (0, 0))) := by show _ = _; rw [set_other _ _ (by have := HG0.out; omega)]; exact HG.out
          generalize wr.setCell ⟨w.heap.size + 1, o, none⟩ (.int .i64 x) = w3 at HTN HGN ⊢
          go_wp2_with fail
          go_roundw
          case rel => exact ⟨k + 1, by omega, by go_num, _, _, tkN_succ HF.out HK.out, HC.out, HTN.out.go (below_drewN _ _), HGN.out⟩
          case measure => simp [intOf]; omega
        · have HN : Hid (takE q l = none) := takE_n1 (k := k + 1) (by omega) (tkN_stop HF.out (by unfold tk1; rw [htx, if_neg]; simp only; omega))
          have hnb : decide ((1099511627776 : Int) < (x : Int)) = true := by rw [decide_eq_true_iff]; omega
          clear htx henc hbig hx
          go_wp2_with fail
          (try simp only [Exit.inBlock, Exit.then])
          refine bodyPost_ret (v := .tuple #[.agg #[.int .i64 0, .int .i64 0, .slice none 0 0, .slice none 0 0, .int .i64 0], .bool false]) (by rw [results_cell_tmp rfl]; go_simp) rfl ?_
          exact te_no HN.out (HT.out.end5 (grown_set5 _ _ _ _ _ _ _))
    · obtain rfl : k = 3 := by omega
      clear hr hT hg hF
      go_wp2_with fail
      refine (lists_walk (w.heap.size + 1)).mono ?_
      rintro e w2 ⟨H, rfl, hH0, hH, hB2⟩
      have HT2 : Hid (Tk w w2 (eC F (.slice none 0 0) (.slice none 0 0))) := HT.out.go hB2
      have HH0 : Hid (w.heap.size + 2 ≤ H) := by have := blk_lt HT.out.blk; show _ ≤ _; omega
      have HHB : Hid (w2.heap[H]? = some (.cells #[.pointer (some ⟨w.heap.size + 1, 2, none⟩), .pointer (some ⟨w.heap.size + 1, 3, none⟩)] 93 (0, 0))) := hH
      clear hH hH0 hB2
      go_wp2_with fail
      go_loopw [0, 47] (TlRel w H q F r) (fun _ iv _ => 2 - (intOf iv).toNat)
      case atStart => exact ⟨r, _, _, HR.out, HT2.out, HHB.out, .inl ⟨rfl, rfl, rfl, rfl⟩⟩
      case round =>
        clear HHB HT2 HT HG HR
        obtain ⟨s, v0, v1, hs, hT, hh, ⟨rfl, htl, rfl, rfl⟩ | ⟨x0, rfl, htl, ho0, hi0, rfl⟩ | ⟨x0, x1, rfl, htl, ho0, hi0, ho1, hi1⟩⟩ := hrel
        · have HTL : Hid (tlN q 0 r = some ([], s)) := htl
          have HT : Hid (Tk w wr (eC F (.slice none 0 0) (.slice none 0 0))) := hT
          have HS : Hid (Bv w u0 s) := hs
          have HH : Hid (wr.heap[H]? = some (.cells #[.pointer (some ⟨w.heap.size + 1, 2, none⟩), .pointer (some ⟨w.heap.size + 1, 3, none⟩)] 93 (0, 0))) := hh
          have z0 : wr.cell? ⟨H, 0, none⟩ = some (.pointer (some ⟨w.heap.size + 1, 2, none⟩)) := by rw [blk_cell hh]; rfl
          obtain ⟨sa, sc, rfl⟩ := bv_form hs
          have hsl : s.length ≤ sc := (show Bv w (.slice sa s.length sc) s from hs).le_cap
          clear htl hs hT hh
          go_wp2_with fail
          refine (takenums_walk q (HS.out.below HT.out.bel) HQ.out).mono ?_
          rintro e w2 ⟨ta, tc, rfl, ht, hB2⟩
          obtain ⟨xs, m, er, htn⟩ : ∃ xs m er, Wm.takeNums s q = (xs, m, er) := ⟨_, _, _, rfl⟩
          rw [htn] at ht ⊢
          simp only at ht ⊢
          have hT : Tk w w2 (eC F (.slice none 0 0) (.slice none 0 0)) := HT.out.go hB2
          have HT2 : Hid (Tk w w2 (eC F (.slice none 0 0) (.slice none 0 0))) := hT
          have q0 : w2.cell? ⟨w.heap.size, 0, none⟩ = some (.int .i64 0) := by rw [blk_cell hT.res]; rfl
          have q1 : w2.cell? ⟨w.heap.size, 1, none⟩ = some (.int .i64 0) := by rw [blk_cell hT.res]; rfl
          have q2 : w2.cell? ⟨w.heap.size, 2, none⟩ = some (.slice none 0 0) := by rw [blk_cell hT.res]; rfl
          have q3 : w2.cell? ⟨w.heap.size, 3, none⟩ = some (.slice none 0 0) := by rw [blk_cell hT.res]; rfl
          have q4 : w2.cell? ⟨w.heap.size, 4, none⟩ = some (.int .i64 0) := by rw [blk_cell hT.res]; rfl
          have y0 : w2.frozen? ⟨w.heap.size, 0, none⟩ = false := blk_soft hT.res 0
          have y1 : w2.frozen? ⟨w.heap.size, 1, none⟩ = false := blk_soft hT.res 1
          have y2 : w2.frozen? ⟨w.heap.size, 2, none⟩ = false := blk_soft hT.res 2
          have y3 : w2.frozen? ⟨w.heap.size, 3, none⟩ = false := blk_soft hT.res 3
          have y4 : w2.frozen? ⟨w.heap.size, 4, none⟩ = false := blk_soft hT.res 4
          have j2 : w2.cell? ⟨w.heap.size + 1, 2, none⟩ = some (.slice none 0 0) := by rw [blk_cell hT.blk]; rfl
          have i2 : w2.frozen? ⟨w.heap.size + 1, 2, none⟩ = false := blk_soft hT.blk 2
          have HB2 : Hid (Below wr.heap.size wr w2) := hB2
          have HSZ : Hid (w.heap.size + 2 ≤ wr.heap.size) := blk_lt HT.out.blk
          by_cases her : er = 0
          · subst her
            have HK : Hid (tl1 q s = some (xs, s.drop m)) := by show _ = _; unfold tl1; rw [htn, if_pos rfl]
            obtain ⟨hml, hx62⟩ := takeNums_le HS.out.2 htn
            have HX : Hid (In64 (ib xs)) := in64_ib hx62
            have HO : Hid (OwN wr.heap.size w2 (.slice ta (ib xs).length tc) (ib xs)) := by
              show World.ownsRow _ _ _ _ _ _ _
              rw [ib_len] at ht ⊢; exact ht
            have hnl : (m : Int) ≤ (s.length : Int) := by omega
            obtain ⟨A, hA⟩ : ∃ A, (if sc = m then sa else sa.map fun a => a.add m) = A := ⟨_, rfl⟩
            have HC : Hid (Bv w (.slice A (s.length - m) (sc - m)) (s.drop m)) := by
              show Bv _ _ _
              have := HS.out.cut m s.length hml (Nat.le_refl _) (sc = m) Iff.rfl
              rw [hA, List.take_of_length_le (by rw [List.length_drop]; exact Nat.le_refl _)] at this
              exact this
            clear htn ht hB2 hT hml hx62
            go_wp2_with fail
            go_region_with (fail)
            clear hA
            have HTN : Hid (Tk w (w2.setCell ⟨w.heap.size + 1, 2, none⟩ (.slice ta (ib xs).length tc)) (eC F (.slice ta (ib xs).length tc) (.slice none 0 0))) := HT2.out.set 2 _
            have HHN : Hid ((w2.setCell ⟨w.heap.size + 1, 2, none⟩ (.slice ta (ib xs).length tc)).heap[H]? = some (.cells #[.pointer (some ⟨w.heap.size + 1, 2, none⟩), .pointer (some ⟨w.heap.size + 1, 3, none⟩)] 93 (0, 0))) := by show _ = _; rw [set_other _ _ (by have := HH0.out; omega)]; exact blk_below HH.out HB2.out
            have HKB : Hid (∀ x, x ≠ w.heap.size + 1 → (w2.setCell ⟨w.heap.size + 1, 2, none⟩ (.slice ta (ib xs).length tc)).heap[x]? = w2.heap[x]?) := fun x hx => set_other _ _ hx
            generalize w2.setCell ⟨w.heap.size + 1, 2, none⟩ (.slice ta (ib xs).length tc) = w3 at HTN HHN HKB ⊢
            go_wp2_with fail
            go_roundw
            case rel => exact ⟨_, _, _, HC.out, HTN.out.go (below_drewN _ _), HHN.out, .inr (.inl ⟨xs, rfl, tlN_succ HTL.out HK.out, te_own HO.out HSZ.out HKB.out, HX.out, rfl⟩)⟩
            case measure => simp [intOf]
          · have HN : Hid (takE q l = none) := takE_n2 (k := 1) HF.out (by omega) (tlN_stop HTL.out (by unfold tl1; rw [htn, if_neg]; exact her))
            have hne : ((er : Int) != 0) = true := by rw [bne_iff_ne]; omega
            clear htn ht hB2 hT
            go_wp2_with fail
            (try simp only [Exit.inBlock, Exit.then])
            refine bodyPost_ret (v := .tuple #[.agg #[.int .i64 0, .int .i64 0, .slice none 0 0, .slice none 0 0, .int .i64 0], .bool false]) (by rw [results_cell_tmp rfl]; go_simp) rfl ?_
            exact te_no HN.out (HT2.out.end5 (grown_set5 _ _ _ _ _ _ _))
        · have HTL : Hid (tlN q 1 r = some ([x0], s)) := htl
          have HT : Hid (Tk w wr (eC F v0 (.slice none 0 0))) := hT
          have HS : Hid (Bv w u0 s) := hs
          have HH : Hid (wr.heap[H]? = some (.cells #[.pointer (some ⟨w.heap.size + 1, 2, none⟩), .pointer (some ⟨w.heap.size + 1, 3, none⟩)] 93 (0, 0))) := hh
          have HO0 : Hid (OwN (w.heap.size + 2) wr v0 (ib x0)) := ho0
          have HI0 : Hid (In64 (ib x0)) := hi0
          have z0 : wr.cell? ⟨H, 1, none⟩ = some (.pointer (some ⟨w.heap.size + 1, 3, none⟩)) := by rw [blk_cell hh]; rfl
          obtain ⟨sa, sc, rfl⟩ := bv_form hs
          have hsl : s.length ≤ sc := (show Bv w (.slice sa s.length sc) s from hs).le_cap
          clear htl hs hT hh ho0 hi0
          go_wp2_with fail
          refine (takenums_walk q (HS.out.below HT.out.bel) HQ.out).mono ?_
          rintro e w2 ⟨ta, tc, rfl, ht, hB2⟩
          obtain ⟨xs, m, er, htn⟩ : ∃ xs m er, Wm.takeNums s q = (xs, m, er) := ⟨_, _, _, rfl⟩
          rw [htn] at ht ⊢
          simp only at ht ⊢
          have hT : Tk w w2 (eC F v0 (.slice none 0 0)) := HT.out.go hB2
          have HT2 : Hid (Tk w w2 (eC F v0 (.slice none 0 0))) := hT
          have q0 : w2.cell? ⟨w.heap.size, 0, none⟩ = some (.int .i64 0) := by rw [blk_cell hT.res]; rfl
          have q1 : w2.cell? ⟨w.heap.size, 1, none⟩ = some (.int .i64 0) := by rw [blk_cell hT.res]; rfl
          have q2 : w2.cell? ⟨w.heap.size, 2, none⟩ = some (.slice none 0 0) := by rw [blk_cell hT.res]; rfl
          have q3 : w2.cell? ⟨w.heap.size, 3, none⟩ = some (.slice none 0 0) := by rw [blk_cell hT.res]; rfl
          have q4 : w2.cell? ⟨w.heap.size, 4, none⟩ = some (.int .i64 0) := by rw [blk_cell hT.res]; rfl
          have y0 : w2.frozen? ⟨w.heap.size, 0, none⟩ = false := blk_soft hT.res 0
          have y1 : w2.frozen? ⟨w.heap.size, 1, none⟩ = false := blk_soft hT.res 1
          have y2 : w2.frozen? ⟨w.heap.size, 2, none⟩ = false := blk_soft hT.res 2
          have y3 : w2.frozen? ⟨w.heap.size, 3, none⟩ = false := blk_soft hT.res 3
          have y4 : w2.frozen? ⟨w.heap.size, 4, none⟩ = false := blk_soft hT.res 4
          have j3 : w2.cell? ⟨w.heap.size + 1, 3, none⟩ = some (.slice none 0 0) := by rw [blk_cell hT.blk]; rfl
          have i3 : w2.frozen? ⟨w.heap.size + 1, 3, none⟩ = false := blk_soft hT.blk 3
          have HB2 : Hid (Below wr.heap.size wr w2) := hB2
          have HSZ : Hid (w.heap.size + 2 ≤ wr.heap.size) := blk_lt HT.out.blk
          by_cases her : er = 0
          · subst her
            have HK : Hid (tl1 q s = some (xs, s.drop m)) := by show _ = _; unfold tl1; rw [htn, if_pos rfl]
            obtain ⟨hml, hx62⟩ := takeNums_le HS.out.2 htn
            have HX : Hid (In64 (ib xs)) := in64_ib hx62
            have HO : Hid (OwN wr.heap.size w2 (.slice ta (ib xs).length tc) (ib xs)) := by
              show World.ownsRow _ _ _ _ _ _ _
              rw [ib_len] at ht ⊢; exact ht
            have hnl : (m : Int) ≤ (s.length : Int) := by omega
            obtain ⟨A, hA⟩ : ∃ A, (if sc = m then sa else sa.map fun a => a.add m) = A := ⟨_, rfl⟩
            have HC : Hid (Bv w (.slice A (s.length - m) (sc - m)) (s.drop m)) := by
              show Bv _ _ _
              have := HS.out.cut m s.length hml (Nat.le_refl _) (sc = m) Iff.rfl
              rw [hA, List.take_of_length_le (by rw [List.length_drop]; exact Nat.le_refl _)] at this
              exact this
            clear htn ht hB2 hT hml hx62
            go_wp2_with fail
            go_region_with (fail)
            clear hA
            have HTN : Hid (Tk w (w2.setCell ⟨w.heap.size + 1, 3, none⟩ (.slice ta (ib xs).length tc)) (eC F v0 (.slice ta (ib xs).length tc))) := HT2.out.set 3 _
            have HHN : Hid ((w2.setCell ⟨w.heap.size + 1, 3, none⟩ (.slice ta (ib xs).length tc)).heap[H]? = some (.cells #[.pointer (some ⟨w.heap.size + 1, 2, none⟩), .pointer (some ⟨w.heap.size + 1, 3, none⟩)] 93 (0, 0))) := by show _ = _; rw [set_other _ _ (by have := HH0.out; omega)]; exact blk_below HH.out HB2.out
            have HKB : Hid (∀ x, x ≠ w.heap.size + 1 → (w2.setCell ⟨w.heap.size + 1, 3, none⟩ (.slice ta (ib xs).length tc)).heap[x]? = w2.heap[x]?) := fun x hx => set_other _ _ hx
            generalize w2.setCell ⟨w.heap.size + 1, 3, none⟩ (.slice ta (ib xs).length tc) = w3 at HTN HHN HKB ⊢
            go_wp2_with fail
            go_roundw
            case rel => exact ⟨_, _, _, HC.out, HTN.out.go (below_drewN _ _), HHN.out, .inr (.inr ⟨x0, xs, rfl, tlN_succ HTL.out HK.out, te_own (own_below HO0.out HB2.out) (Nat.le_refl _) HKB.out, HI0.out, te_own HO.out HSZ.out HKB.out, HX.out⟩)⟩
            case measure => simp [intOf]
          · have HN : Hid (takE q l = none) := takE_n2 (k := 2) HF.out (by omega) (tlN_stop HTL.out (by unfold tl1; rw [htn, if_neg]; exact her))
            have hne : ((er : Int) != 0) = true := by rw [bne_iff_ne]; omega
            clear htn ht hB2 hT
            go_wp2_with fail
            (try simp only [Exit.inBlock, Exit.then])
            refine bodyPost_ret (v := .tuple #[.agg #[.int .i64 0, .int .i64 0, .slice none 0 0, .slice none 0 0, .int .i64 0], .bool false]) (by rw [results_cell_tmp rfl]; go_simp) rfl ?_
            exact te_no HN.out (HT2.out.end5 (grown_set5 _ _ _ _ _ _ _))
        · have HTL : Hid (tlN q 2 r = some ([x0, x1], s)) := htl
          have HT : Hid (Tk w wr (eC F v0 v1)) := hT
          have HS : Hid (Bv w u0 s) := hs
          have HO0 : Hid (OwN (w.heap.size + 2) wr v0 (ib x0)) := ho0
          have HO1 : Hid (OwN (w.heap.size + 2) wr v1 (ib x1)) := ho1
          have HI0 : Hid (In64 (ib x0)) := hi0
          have HI1 : Hid (In64 (ib x1)) := hi1
          obtain ⟨_, a0, c0, rfl, _⟩ := own_nl ho0
          obtain ⟨_, a1, c1, rfl, _⟩ := own_nl ho1
          have HFL : Hid (F.length = 3 ∧ ∀ x ∈ F, x ≤ 1099511627776) := ⟨(tkN_len 3 HF.out).1, (tkN_len 3 HF.out).2.1⟩
          have q0 : wr.cell? ⟨w.heap.size, 0, none⟩ = some (.int .i64 0) := by rw [blk_cell hT.res]; rfl
          have q1 : wr.cell? ⟨w.heap.size, 1, none⟩ = some (.int .i64 0) := by rw [blk_cell hT.res]; rfl
          have q2 : wr.cell? ⟨w.heap.size, 2, none⟩ = some (.slice none 0 0) := by rw [blk_cell hT.res]; rfl
          have q3 : wr.cell? ⟨w.heap.size, 3, none⟩ = some (.slice none 0 0) := by rw [blk_cell hT.res]; rfl
          have q4 : wr.cell? ⟨w.heap.size, 4, none⟩ = some (.int .i64 0) := by rw [blk_cell hT.res]; rfl
          have y0 : wr.frozen? ⟨w.heap.size, 0, none⟩ = false := blk_soft hT.res 0
          have y1 : wr.frozen? ⟨w.heap.size, 1, none⟩ = false := blk_soft hT.res 1
          have y2 : wr.frozen? ⟨w.heap.size, 2, none⟩ = false := blk_soft hT.res 2
          have y3 : wr.frozen? ⟨w.heap.size, 3, none⟩ = false := blk_soft hT.res 3
          have y4 : wr.frozen? ⟨w.heap.size, 4, none⟩ = false := blk_soft hT.res 4
          obtain ⟨g, hg⟩ : ∃ g, g = F.getD 0 0 := ⟨_, rfl⟩
          obtain ⟨b, hb⟩ : ∃ b, b = F.getD 1 0 := ⟨_, rfl⟩
          obtain ⟨a, ha⟩ : ∃ a, a = F.getD 2 0 := ⟨_, rfl⟩
          have HM : Hid (mkN F [x0, x1] = ⟨b, ib x0, ib x1, a⟩) := by show _ = _; rw [hb, ha]; rfl
          have HG : Hid (g = F.getD 0 0) := hg
          have HBB : Hid (b ≤ 1099511627776) := by
            show _ ≤ _
            have h1 := HFL.out.1; have h2 := HFL.out.2
            match F, h1 with
            | [f0, f1, f2], _ => rw [hb]; exact h2 f1 (by simp)
          have HGB : Hid (g ≤ 1099511627776) := by
            show _ ≤ _
            have h1 := HFL.out.1; have h2 := HFL.out.2
            match F, h1 with
            | [f0, f1, f2], _ => rw [hg]; exact h2 f0 (by simp)
          have j0 : wr.cell? ⟨w.heap.size + 1, 0, none⟩ = some (.int .i64 g) := by rw [blk_cell hT.blk, hg]; rfl
          have j1 : wr.cell? ⟨w.heap.size + 1, 1, none⟩ = some (.int .i64 b) := by rw [blk_cell hT.blk, hb]; rfl
          have j2 : wr.cell? ⟨w.heap.size + 1, 2, none⟩ = some (.slice a0 (ib x0).length c0) := by rw [blk_cell hT.blk]; rfl
          have j3 : wr.cell? ⟨w.heap.size + 1, 3, none⟩ = some (.slice a1 (ib x1).length c1) := by rw [blk_cell hT.blk]; rfl
          have j4 : wr.cell? ⟨w.heap.size + 1, 4, none⟩ = some (.int .i64 a) := by rw [blk_cell hT.blk, ha]; rfl
          obtain ⟨sa, sc, rfl⟩ := bv_form hs
          clear htl hs hT hh ho0 ho1 hi0 hi1 hg hb ha
          by_cases hs0 : s = []
          rotate_left
          · have HN : Hid (takE q l = none) := takE_n3 HF.out HTL.out fun h => hs0 h.1
            have hpos : 0 < s.length := by
              have : s.length ≠ 0 := fun h => hs0 (List.eq_nil_of_length_eq_zero h)
              omega
            clear hs0
            go_wp2_with fail
            (try simp only [Exit.inBlock, Exit.then])
            refine bodyPost_ret (v := .tuple #[.agg #[.int .i64 0, .int .i64 0, .slice none 0 0, .slice none 0 0, .int .i64 0], .bool false]) (by rw [results_cell_tmp rfl]; go_simp) rfl ?_
            exact te_no HN.out (HT.out.end5 (grown_set5 _ _ _ _ _ _ _))
          have hpos : ¬ 0 < s.length := by rw [hs0]; simp
          by_cases hg1 : 1 ≤ g
          rotate_left
          · have HN : Hid (takE q l = none) := takE_n3 HF.out HTL.out fun h => by have := h.2.1; rw [← HG.out] at this; omega
            have hgb : decide ((g : Int) < 1) = true := by rw [decide_eq_true_iff]; omega
            clear hs0 hg1
            go_wp2_with fail
            (try simp only [Exit.inBlock, Exit.then])
            refine bodyPost_ret (v := .tuple #[.agg #[.int .i64 0, .int .i64 0, .slice none 0 0, .slice none 0 0, .int .i64 0], .bool false]) (by rw [results_cell_tmp rfl]; go_simp) rfl ?_
            exact te_no HN.out (HT.out.end5 (grown_set5 _ _ _ _ _ _ _))
          have hgb : decide ((g : Int) < 1) = false := by rw [decide_eq_false_iff_not]; omega
          have HS0 : Hid (s = []) := hs0
          have HG1 : Hid (1 ≤ g) := hg1
          clear hs0 hg1
          go_wp2_with fail
          refine (jright_walk (n := ⟨b, ib x0, ib x1, a⟩) (own_nv HO0.out HI0.out) (own_nv HO1.out HI1.out) (by have := HBB.out; constructor <;> (show _; simp only; omega)) HQ.out).mono ?_
          rintro e w2 ⟨rfl, hB2⟩
          have hT : Tk w w2 (eC F (.slice a0 (ib x0).length c0) (.slice a1 (ib x1).length c1)) := HT.out.go hB2
          have HT2 : Hid (Tk w w2 (eC F (.slice a0 (ib x0).length c0) (.slice a1 (ib x1).length c1))) := hT
          have HB2 : Hid (Below wr.heap.size wr w2) := hB2
          clear q0 q1 q2 q3 q4 y0 y1 y2 y3 y4
          have q0 : w2.cell? ⟨w.heap.size, 0, none⟩ = some (.int .i64 0) := by rw [blk_cell hT.res]; rfl
          have q1 : w2.cell? ⟨w.heap.size, 1, none⟩ = some (.int .i64 0) := by rw [blk_cell hT.res]; rfl
          have q2 : w2.cell? ⟨w.heap.size, 2, none⟩ = some (.slice none 0 0) := by rw [blk_cell hT.res]; rfl
          have q3 : w2.cell? ⟨w.heap.size, 3, none⟩ = some (.slice none 0 0) := by rw [blk_cell hT.res]; rfl
          have q4 : w2.cell? ⟨w.heap.size, 4, none⟩ = some (.int .i64 0) := by rw [blk_cell hT.res]; rfl
          have y0 : w2.frozen? ⟨w.heap.size, 0, none⟩ = false := blk_soft hT.res 0
          have y1 : w2.frozen? ⟨w.heap.size, 1, none⟩ = false := blk_soft hT.res 1
          have y2 : w2.frozen? ⟨w.heap.size, 2, none⟩ = false := blk_soft hT.res 2
          have y3 : w2.frozen? ⟨w.heap.size, 3, none⟩ = false := blk_soft hT.res 3
          have y4 : w2.frozen? ⟨w.heap.size, 4, none⟩ = false := blk_soft hT.res 4
          have k0 : w2.cell? ⟨w.heap.size + 1, 0, none⟩ = some (.int .i64 g) := by rw [hB2.cell (p := ⟨w.heap.size + 1, 0, none⟩) (cell_lt j0)]; exact j0
          have k1 : w2.cell? ⟨w.heap.size + 1, 1, none⟩ = some (.int .i64 b) := by rw [hB2.cell (p := ⟨w.heap.size + 1, 1, none⟩) (cell_lt j1)]; exact j1
          have k2 : w2.cell? ⟨w.heap.size + 1, 2, none⟩ = some (.slice a0 (ib x0).length c0) := by rw [hB2.cell (p := ⟨w.heap.size + 1, 2, none⟩) (cell_lt j2)]; exact j2
          have k3 : w2.cell? ⟨w.heap.size + 1, 3, none⟩ = some (.slice a1 (ib x1).length c1) := by rw [hB2.cell (p := ⟨w.heap.size + 1, 3, none⟩) (cell_lt j3)]; exact j3
          have k4 : w2.cell? ⟨w.heap.size + 1, 4, none⟩ = some (.int .i64 a) := by rw [hB2.cell (p := ⟨w.heap.size + 1, 4, none⟩) (cell_lt j4)]; exact j4
          clear hT hB2 j0 j1 j2 j3 j4
          cases hrg : rgtB ⟨b, ib x0, ib x1, a⟩ q
          · have HN : Hid (takE q l = none) := takE_n3 HF.out HTL.out fun h => by have := h.2.2; rw [HM.out, hrg] at this; cases this
            clear hrg
            go_wp2_with fail
            (try simp only [Exit.inBlock, Exit.then])
            refine bodyPost_ret (v := .tuple #[.agg #[.int .i64 0, .int .i64 0, .slice none 0 0, .slice none 0 0, .int .i64 0], .bool false]) (by rw [results_cell_tmp rfl]; go_simp) rfl ?_
            exact te_no HN.out (HT2.out.end5 (grown_set5 _ _ _ _ _ _ _))
          · have HY : Hid (takE q l = some (g, ⟨b, ib x0, ib x1, a⟩)) := by show _ = _; rw [takE_y HF.out HTL.out ⟨HS0.out, by rw [← HG.out]; exact HG1.out, by rw [HM.out]; exact hrg⟩, HM.out, ← HG.out]
            clear hrg
            go_wp2_with fail
            (try simp only [Exit.inBlock, Exit.then])
            refine bodyPost_ret (v := .tuple #[.agg #[.int .i64 g, .int .i64 b, .slice a0 (ib x0).length c0, .slice a1 (ib x1).length c1, .int .i64 a], .bool true]) (by rw [results_cell_tmp rfl]; go_simp) rfl ?_
            refine te_yes HY.out HT2.out (own_below HO0.out HB2.out) (own_below HO1.out HB2.out) (grown_set5 _ _ _ _ _ _ _)
end

end Go.Proofs.Ytnnammlipfappaa


