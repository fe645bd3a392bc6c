/- Open. -/
import Derived.Test.YtofkhgokfdpdiabGreatB02
import Derived.Test.YtofkhgokfdpdiabGreatB25
set_option maxRecDepth 100000
set_option maxHeartbeats 16000000
namespace Go.Proofs.YtofkhgokfdpdiabGreat
section
open Go.RowKit

def rdS (S : Dk) : Nat → Dk
 | 0 => S
 | k + 1 => readS (rdS S k) k
def pickB (h : Option Bo) (r : Option (Nat × List Nat)) (k : Nat) : Option Bo :=
 match r with
 | none => h
 | some (g, t) => match h with
  | none => some ⟨g, t, k, false⟩
  | some P => if P.gen < g then some ⟨g, t, k, false⟩ else some P
def heldK (S : Dk) : Nat → Option Bo
 | 0 => none
 | k + 1 => pickB (heldK S k) (rootOf (readL (rdS S k) k) S.bl.length) k
theorem rd_len (S : Dk) (k : Nat) : (rdS S k).bl.length = S.bl.length := by
 induction k with
 | zero => rfl
 | succ k ih => unfold rdS; rw [read_len, ih]
theorem rd_rd (S : Dk) (k : Nat) : (rdS S k).rd ≤ S.rd + k := by
 induction k with
 | zero => exact Nat.le_refl _
 | succ k ih =>
  unfold rdS readS
  split
  ·show (rdS S k).rd + 1 ≤ _; omega
  ·omega
theorem read_fit {S : Dk} (h : S.ok) (i : Int) : (readL S i).length ≤ 1024 ∧ ∀ c ∈ readL S i, c < 256 := by
 unfold readL
 split
 ·rename_i hr
  obtain ⟨_, k, rfl, hk⟩ := ref_ok hr
  rw [Int.toNat_natCast]
  exact ⟨h.len _ (bk_mem hk), h.byt _ (bk_mem hk)⟩
 ·exact ⟨by simp, fun c hc => by simp at hc⟩
theorem pick_ok {h : Option Bo} {b : List Nat} {k B : Nat} (hk : k ≤ 1) (hb : ∀ c ∈ b, c < 256) (hh : ∀ P, h = some P → P.ok B) : ∀ P, pickB h (rootOf b B) k = some P → P.ok B := by
 intro P hP
 cases hr : rootOf b B with
 | none => rw [hr] at hP; exact hh P hP
 | some q =>
  obtain ⟨g, t⟩ := q
  obtain ⟨h1, h2, h3, h4⟩ := root_fit hb hr
  have hn : (Bo.mk g t k false).ok B := ⟨h1, h2, h3, h4, hk⟩
  rw [hr] at hP
  unfold pickB at hP
  simp only at hP
  split at hP
  ·cases hP; exact hn
  ·split at hP
   ·cases hP; exact hn
   ·cases hP; exact hh _ rfl
def Ob (F : Value → Value → Bo → Array Value) (TB TD : TypeId) (D : Nat → Prop) (w : World) (dv : Value) (c : Int) (o : Option Bo) (S' : Dk) (e : Ending) (w' : World) : Prop :=
 ∃ v, e = .returned (.tuple #[v, .int .i64 c]) ∧ (o = none → v = .pointer none ∧ ∃ D', Dsk TD D' w' dv S' ∧ ∀ x, D' x → D x ∨ w.heap.size ≤ x) ∧
  (∀ P, o = some P → ∃ A', Bk F TB TD A' w' v dv P S' ∧ ∀ x, A' x → D x ∨ w.heap.size ≤ x) ∧ Ch D w w'
def opI (S : Dk) : Int := if S.down = true then 80 else if heldK S 2 = none then 90 else 0
def opB (S : Dk) : Option Bo := if S.down = true then none else heldK S 2
def opS (S : Dk) : Dk := if S.down = true then S else rdS S 2
def Hb (F : Value → Value → Bo → Array Value) (TB : TypeId) (w : World) (dv v : Value) (o : Option Bo) (wr : World) : Prop :=
 (o = none ∧ v = .pointer none) ∨ ∃ P pb tv, o = some P ∧ v = .pointer (some ⟨pb, 0, none⟩) ∧ wr.heap[pb]? = some (.cells (F tv dv P) TB (0, 0)) ∧ Tw wr tv P.tab ∧ w.heap.size ≤ pb ∧ ∀ x, tv.ownBlock = some x → w.heap.size ≤ x ∧ x ≠ pb
theorem Hb.ch {F : Value → Value → Bo → Array Value} {TB : TypeId} {D : Nat → Prop} {w wr wy : World} {dv v : Value} {o : Option Bo} (h : Hb F TB w dv v o wr) (hc : Ch D wr wy) (hD : ∀ x, D x → x < w.heap.size) : Hb F TB w dv v o wy := by
 rcases h with h | ⟨P, pb, tv, h1, h2, h3, h4, h5, h6⟩
 ·exact .inl h
 ·have hl := (Array.getElem?_eq_some_iff.1 h3).1
  obtain ⟨ao, cap, rfl, _, _⟩ := h4.form
  refine .inr ⟨P, pb, _, h1, h2, by rw [hc.block pb hl (fun e => by have := hD _ e; omega)]; exact h3, ?_, h5, h6⟩
  by_cases ht : P.tab = []
  ·rw [ht] at h4 ⊢
   obtain ⟨ao', cap', e, q1, q2, q3, q4⟩ := h4
   exact ⟨ao', cap', e, q1, q2, q3, fun i hi => by simp [ib] at hi⟩
  ·obtain ⟨b, off, rfl, hcell⟩ := h4.at (i := 0) (List.length_pos_iff.2 ht)
   refine h4.ch (fun x hx => ?_)
   simp [Value.ownBlock] at hx
   subst hx
   exact hc.block _ (cell_lt hcell) (fun e => by have := hD _ e; have := (h6 b (by simp [Value.ownBlock])).1; omega)
theorem Hb.bk {F : Value → Value → Bo → Array Value} {TB TD : TypeId} {D : Nat → Prop} {w wr : World} {dv v : Value} {P : Bo} {S : Dk} (h : Hb F TB w dv v (some P) wr) (hd : Dsk TD D wr dv S) (hD : ∀ x, D x → x < w.heap.size) (hok : P.ok S.bl.length) : ∃ A', Bk F TB TD A' wr v dv P S ∧ ∀ x, A' x → D x ∨ w.heap.size ≤ x := by
 rcases h with ⟨h, _⟩ | ⟨P', pb, tv, h1, h2, h3, h4, h5, h6⟩
 ·cases h
 ·cases h1
  have hl := (Array.getElem?_eq_some_iff.1 h3).1
  refine ⟨fun x => D x ∨ ((x = pb ∨ tv.ownBlock = some x) ∧ x < wr.heap.size), ⟨D, pb, tv, h2, h3, h4, hd, fun x hx => .inl hx, .inr ⟨.inl rfl, hl⟩, fun e => by have := hD _ e; omega, fun x hx => ⟨?_, fun e => ?_, (h6 x hx).2⟩, fun x hx => ?_, hok⟩, fun x hx => ?_⟩
  ·obtain ⟨ao, cap, rfl, _, _⟩ := h4.form
   obtain ⟨b, off, rfl, hcell⟩ := h4.at (i := 0) hok.tok.1
   simp [Value.ownBlock] at hx
   subst hx
   exact .inr ⟨.inr rfl, cell_lt hcell⟩
  ·have h7 := hD _ e; have h8 := (h6 x hx).1; omega
  ·rcases hx with e | e
   ·exact hd.lt e
   ·exact e.2
  ·rcases hx with e | ⟨e | e, _⟩
   ·exact .inl e
   ·subst e; exact .inr h5
   ·exact .inr (h6 x e).1
section

variable {D : Nat → Prop} {w : World} {dv : Value} {S : Dk}

theorem open_down (h : Dsk 89 D w dv S) (hd : S.down = true) : Calls Tryz.prog 45 #[dv] w fun e w' => Ob hdP 143 89 D w dv (opI S) (opB S) (opS S) e w' := by
 have HD := hidH h
 have HDN : Hid (S.down = true) := hd
 obtain ⟨sb, gp, cp, rfl, _⟩ := h
 clear hd
 go_in
 go_wp2_with fail
 refine (down_walk HD.out).mono ?_
 rintro e w1 ⟨rfl, h9⟩
 have h9 := h9.symm
 subst h9
 rw [HDN.out]
 go_wp2_with fail
 go_ret2
 refine ⟨_, by unfold opI; rw [if_pos HDN.out]; rfl, fun _ => ⟨rfl, D, by unfold opS; rw [if_pos HDN.out]; exact HD.out, fun x hx => .inl hx⟩, fun P hP => (by unfold opB at hP; rw [if_pos HDN.out] at hP; cases hP), Ch.refl _ _⟩
def OpRel (D : Nat → Prop) (w : World) (dv : Value) (S : Dk) (hv iv : Value) (wr : World) : Prop :=
 ∃ k : Nat, k ≤ 2 ∧ iv = .int .i64 k ∧ Dsk 89 D wr dv (rdS S k) ∧ Ch D w wr ∧ Hb hdP 143 w dv hv (heldK S k) wr ∧ ∀ P, heldK S k = some P → P.ok S.bl.length
theorem op_new {w3 wq : World} {k g : Nat} {t : List Nat} {sb tc : Nat} {to' : Option Addr} (hlt : k < 2) (hN : heldK S (k + 1) = some ⟨g, t, k, false⟩) (h3 : Dsk 89 D w3 (.pointer (some ⟨sb, 0, none⟩)) (rdS S (k + 1))) (hC : Ch D w w3) (hB : Below w3.heap.size w3 wq)
  (hT : Tw w3 (.slice to' t.length tc) t) (hn : ∀ x, (Value.slice to' t.length tc).ownBlock = some x → w.heap.size ≤ x ∧ x < w3.heap.size) (hok : ∀ P, heldK S (k + 1) = some P → P.ok S.bl.length) :
  OpRel D w (.pointer (some ⟨sb, 0, none⟩)) S (.pointer (some ⟨wq.heap.size, 0, none⟩)) (.int .i64 ((k : Int) + 1)) (wq.alloc (Obj.cells #[.int .u64 g, .slice to' t.length tc, .pointer (some ⟨sb, 0, none⟩), .int .i64 k, .bool false] 143)) := by
 have hb2 := below_trans hB (below_alloc wq (Obj.cells #[.int .u64 g, .slice to' t.length tc, .pointer (some ⟨sb, 0, none⟩), .int .i64 k, .bool false] 143))
 refine ⟨k + 1, hlt, by simp, h3.below hb2, hC.self (Ch.of_below hb2), .inr ⟨_, wq.heap.size, _, hN, rfl, heap_alloc_new wq _, hT.below hb2, Nat.le_trans hC.size hB.size, fun x hx => ⟨(hn x hx).1, fun e => ?_⟩⟩, hok⟩
 have h1 := (hn x hx).2
 have h2 := hB.size
 omega
theorem open_up (h : Dsk 89 D w dv S) (hd : S.down = false) (hrd : S.rd < 4611686018427387904) : Calls Tryz.prog 45 #[dv] w fun e w' => Ob hdP 143 89 D w dv (opI S) (opB S) (opS S) e w' := by
 have HD := hidH h
 have HDN : Hid (S.down = false) := hd
 have HRD := hidH hrd
 have HDL : Hid (∀ x, D x → x < w.heap.size) := fun x hx => h.lt hx
 have HB : Hid (S.bl.length ≤ 64) := h.good.n64
 obtain ⟨sb, gp, cp, rfl, _⟩ := h
 clear hd hrd
 go_in
 go_wp2_with fail
 refine (down_walk HD.out).mono ?_
 rintro e w1 ⟨rfl, h9⟩
 have h9 := h9.symm
 subst h9
 rw [HDN.out]
 go_wp2_with fail
 go_loopw [4, 14] (fun hv iv wr => OpRel D w (.pointer (some ⟨sb, 0, none⟩)) S hv iv wr) (fun _ iv _ => 2 - (intOf iv).toNat)
 case atStart => exact ⟨0, by omega, rfl, HD.out, Ch.refl _ _, .inl ⟨rfl, rfl⟩, fun P hP => by cases hP⟩
 case round =>
  obtain ⟨k, hk, rfl, hDk, hC, hH, hPo⟩ := hrel
  have HDK : Hid (Dsk 89 D wr (.pointer (some ⟨sb, 0, none⟩)) (rdS S k)) := hDk
  have HC : Hid (Ch D w wr) := hC
  have HH : Hid (Hb hdP 143 w (.pointer (some ⟨sb, 0, none⟩)) u4 (heldK S k) wr) := hH
  have HPO : Hid (∀ P, heldK S k = some P → P.ok S.bl.length) := hPo
  clear hDk hC hH hPo
  by_cases hlt : k < 2
  ·have hk2 : (k : Int) < 2 := by omega
   have HRK : Hid ((rdS S k).rd < 9223372036854775807) := by show _ < _; have h1 := rd_rd S k; have h2 := HRD.out; omega
   have HFT := read_fit HDK.out.good (k : Int)
   obtain ⟨b, hb⟩ : ∃ b, b = readL (rdS S k) (k : Int) := ⟨_, rfl⟩
   rw [← hb] at HFT
   have HBE : Hid (b = readL (rdS S k) (k : Int)) := hb
   have HF1 : Hid (b.length ≤ 1024) := HFT.1
   have HF2 : Hid (∀ c ∈ b, c < 256) := HFT.2
   have HPK : Hid (∀ P, pickB (heldK S k) (rootOf b S.bl.length) k = some P → P.ok S.bl.length) := pick_ok (by omega) HFT.2 HPO.out
   have HHS : Hid (heldK S (k + 1) = pickB (heldK S k) (rootOf b S.bl.length) k) := by show pickB _ _ _ = _; rw [← hb]
   clear hb HFT
   go_wp2_with fail
   refine (read_walk HDK.out k HRK.out).mono ?_
   rintro e w2 ⟨rv, rfl, hrv, hD2, hC2⟩
   rw [← HBE.out] at hrv
   have HV2 : Hid (Bv w2 rv b) := own_bv hrv HF2.out
   have HD2 : Hid (Dsk 89 D w2 (.pointer (some ⟨sb, 0, none⟩)) (rdS S (k + 1))) := hD2
   have HC2 : Hid (Ch D w w2) := HC.out.self hC2
   have HH2 : Hid (Hb hdP 143 w (.pointer (some ⟨sb, 0, none⟩)) u4 (heldK S k) w2) := HH.out.ch hC2 HDL.out
   obtain ⟨ro, rc, hro, _, _⟩ := row_form hrv
   subst hro
   have hBL : (rdS S (k + 1)).bl.length = S.bl.length := rd_len S (k + 1)
   have HBL : Hid ((rdS S (k + 1)).bl.length = S.bl.length) := hBL
   clear hrv hD2 hC2 hBL
   go_wp2_with fail
   refine (blocks_walk HD2.out).mono ?_
   rw [HBL.out]
   rintro e w9 ⟨rfl, h9⟩
   have h9 := h9.symm
   subst h9
   go_wp2_with fail
   refine (troot_walk HV2.out HF1.out HB.out).mono ?_
   rintro e w3 ⟨hno, hye, hB3⟩
   have HD3 := hidH (HD2.out.below hB3)
   have HC3 : Hid (Ch D w w3) := HC2.out.self (Ch.of_below hB3)
   have HH3 : Hid (Hb hdP 143 w (.pointer (some ⟨sb, 0, none⟩)) u4 (heldK S k) w3) := HH2.out.ch (Ch.of_below (D := D) hB3) HDL.out
   have HS3 : Hid (w.heap.size ≤ w3.heap.size ∧ w.heap.size ≤ w2.heap.size) := ⟨HC3.out.size, HC2.out.size⟩
   clear hB3
   cases hr : rootOf b S.bl.length with
   | none =>
    have he := hno hr
    subst he
    have HHN : Hid (heldK S (k + 1) = heldK S k) := by show _ = _; rw [HHS.out, hr]; rfl
    clear hno hye hr
    go_wp2_with fail
    go_quiet (fail)
    obtain ⟨wq, hwq⟩ : ∃ wq, wq = (w3.alloc (Obj.cells #[.int .u64 0, .slice none 0 0] 141)).drewN nq := ⟨_, rfl⟩
    rw [← hwq]
    have HBQ : Hid (Below w3.heap.size w3 wq) := by show Below _ _ _; rw [hwq]; exact below_trans (below_alloc _ _) (below_drewN _ _)
    clear hwq
    go_wp2_with fail
    go_roundw
    case rel => exact ⟨k + 1, hlt, by simp, HD3.out.below HBQ.out, HC3.out.self (Ch.of_below HBQ.out), by rw [HHN.out]; exact HH3.out.ch (Ch.of_below (D := D) HBQ.out) HDL.out, fun P hP => by rw [HHS.out] at hP; exact HPK.out P hP⟩
    case measure => simp [intOf]; omega
   | some q =>
    obtain ⟨g, t⟩ := q
    obtain ⟨to', tc, he, hTw, hTn⟩ := hye g t hr
    subst he
    have HTW := hidH hTw
    have HTN : Hid (∀ x, (Value.slice to' t.length tc).ownBlock = some x → w.heap.size ≤ x ∧ x < w3.heap.size) := fun x hx => ⟨Nat.le_trans HS3.out.2 (hTn x hx), by
     have hok := (root_fit HF2.out hr).2.2.2.1
     obtain ⟨bb, off, e, hcell⟩ := hTw.at (i := 0) hok
     subst e
     simp [Value.ownBlock] at hx
     subst hx
     exact cell_lt hcell⟩
    clear hno hye hTw hTn
    rcases HH3.out with ⟨hN, hv⟩ | ⟨P, pb, tv, hN, hv, hP, hPT, hpb, hpt⟩
    ·subst hv
     have HHN : Hid (heldK S (k + 1) = some ⟨g, t, k, false⟩) := by show _ = _; rw [HHS.out, hr, hN]; rfl
     clear hN hr
     go_wp2_with fail
     go_quiet (fail)
     obtain ⟨wq, hwq⟩ : ∃ wq, wq = (w3.alloc (Obj.cells #[.int .u64 g, .slice to' t.length tc] 141)).drewN nq := ⟨_, rfl⟩
     rw [← hwq]
     have HBQ : Hid (Below w3.heap.size w3 wq) := by show Below _ _ _; rw [hwq]; exact below_trans (below_alloc _ _) (below_drewN _ _)
     have q0 : wq.cell? ⟨w3.heap.size, 0, none⟩ = some (.int .u64 g) := by rw [hwq]; simp [go_sem]
     have q1 : wq.cell? ⟨w3.heap.size, 1, none⟩ = some (.slice to' t.length tc) := by rw [hwq]; simp [go_sem]
     clear hwq
     go_wp2_with fail
     go_roundw
     case rel => exact op_new hlt HHN.out HD3.out HC3.out HBQ.out HTW.out HTN.out (fun P hP => by rw [HHS.out] at hP; exact HPK.out P hP)
     case measure => simp [intOf]; omega
    ·subst hv
     obtain ⟨G, hG⟩ : ∃ G, G = P.gen := ⟨_, rfl⟩
     have hplt := (Array.getElem?_eq_some_iff.1 hP).1
     have HPC : Hid (w3.cell? ⟨pb, 0, none⟩ = some (.int .u64 G)) := by show _ = _; rw [cell_of_row w3 pb 0 _ _ (0, 0) hP, hG]; rfl
     have d0 : ∀ (o : Obj) (n : Nat), ((w3.alloc o).drewN n).cell? ⟨pb, 0, none⟩ = some (.int .u64 G) := fun o n => by
      have hb : Below w3.heap.size w3 ((w3.alloc o).drewN n) := below_trans (below_alloc _ _) (below_drewN _ _)
      rw [hb.cell (p := ⟨pb, 0, none⟩) hplt]; exact HPC.out
     have d1 : ∀ (o : Obj), (w3.alloc o).cell? ⟨pb, 0, none⟩ = some (.int .u64 G) := fun o => by
      have hb : Below w3.heap.size w3 (w3.alloc o) := below_alloc _ _
      rw [hb.cell (p := ⟨pb, 0, none⟩) hplt]; exact HPC.out
     by_cases hgt : G < g
     ·have hgi : (G : Int) < (g : Int) := by omega
      have hgd : decide ((G : Int) < (g : Int)) = true := decide_eq_true hgi
      have HHN : Hid (heldK S (k + 1) = some ⟨g, t, k, false⟩) := by show _ = _; rw [HHS.out, hr, hN]; show (if P.gen < g then _ else _) = _; rw [if_pos (by omega)]
      clear hN hr hP hPT hpb hpt hG hgt hplt
      go_wp2_with fail
      go_quiet (fail)
      obtain ⟨wq, hwq⟩ : ∃ wq, wq = (w3.alloc (Obj.cells #[.int .u64 g, .slice to' t.length tc] 141)).drewN nq := ⟨_, rfl⟩
      rw [← hwq]
      have HBQ : Hid (Below w3.heap.size w3 wq) := by show Below _ _ _; rw [hwq]; exact below_trans (below_alloc _ _) (below_drewN _ _)
      have q0 : wq.cell? ⟨w3.heap.size, 0, none⟩ = some (.int .u64 g) := by rw [hwq]; simp [go_sem]
      have q1 : wq.cell? ⟨w3.heap.size, 1, none⟩ = some (.slice to' t.length tc) := by rw [hwq]; simp [go_sem]
      clear hwq
      go_wp2_with fail
      go_roundw
      case rel => exact op_new hlt HHN.out HD3.out HC3.out HBQ.out HTW.out HTN.out (fun P hP => by rw [HHS.out] at hP; exact HPK.out P hP)
      case measure => simp [intOf]; omega
     ·have hgi : (g : Int) ≤ (G : Int) := by omega
      have hgd : decide ((G : Int) < (g : Int)) = false := decide_eq_false (by omega)
      have HHN : Hid (heldK S (k + 1) = heldK S k) := by show _ = _; rw [HHS.out, hr, hN]; show (if P.gen < g then _ else _) = _; rw [if_neg (by omega)]
      clear hN hr hP hPT hpb hpt hG hgt hplt
      go_wp2_with fail
      go_quiet (fail)
      obtain ⟨wq, hwq⟩ : ∃ wq, wq = (w3.alloc (Obj.cells #[.int .u64 g, .slice to' t.length tc] 141)).drewN nq := ⟨_, rfl⟩
      rw [← hwq]
      have HBQ : Hid (Below w3.heap.size w3 wq) := by show Below _ _ _; rw [hwq]; exact below_trans (below_alloc _ _) (below_drewN _ _)
      clear hwq
      go_wp2_with fail
      go_roundw
      case rel => exact ⟨k + 1, hlt, by simp, HD3.out.below HBQ.out, HC3.out.self (Ch.of_below HBQ.out), by rw [HHN.out]; exact HH3.out.ch (Ch.of_below (D := D) HBQ.out) HDL.out, fun P hP => by rw [HHS.out] at hP; exact HPK.out P hP⟩
      case measure => simp [intOf]; omega
  ·have hk2 : ¬ (k : Int) < 2 := by omega
   obtain rfl : k = 2 := by omega
   have HBL : Hid ((rdS S 2).bl.length = S.bl.length) := rd_len S 2
   rcases HH.out with ⟨hN, hv⟩ | ⟨P, pb, tv, hN, hv, hP, hPT, hpb, hpt⟩
   ·subst hv
    have HN : Hid (heldK S 2 = none) := hN
    clear hN
    go_wp2_with fail
    go_ret2
    have hnd : ¬ S.down = true := by rw [HDN.out]; simp
    exact ⟨_, by unfold opI; rw [if_neg hnd, if_pos HN.out]; rfl, fun _ => ⟨rfl, D, by unfold opS; rw [if_neg hnd]; exact HDK.out, fun x hx => .inl hx⟩, fun P hP => (by unfold opB at hP; rw [if_neg hnd, HN.out] at hP; cases hP), HC.out⟩
   ·subst hv
    have HN : Hid (heldK S 2 = some P) := hN
    clear hN hP hPT hpb hpt
    go_wp2_with fail
    go_ret2
    have hnd : ¬ S.down = true := by rw [HDN.out]; simp
    refine ⟨_, by unfold opI; rw [if_neg hnd, if_neg (by rw [HN.out]; simp)]; rfl, fun hn => (by unfold opB at hn; rw [if_neg hnd, HN.out] at hn; cases hn), fun P' hP' => ?_, HC.out⟩
    unfold opB at hP'
    rw [if_neg hnd] at hP'
    have hH := HH.out
    rw [hP'] at hH
    have := hH.bk HDK.out HDL.out (by rw [HBL.out]; exact HPO.out P' hP')
    unfold opS
    rw [if_neg hnd]
    exact this
theorem open_walk (h : Dsk 89 D w dv S) (hrd : S.rd < 4611686018427387904) : Calls Tryz.prog 45 #[dv] w fun e w' => Ob hdP 143 89 D w dv (opI S) (opB S) (opS S) e w' := by
 cases hd : S.down
 ·exact open_up h hd hrd
 ·exact open_down h hd
end
end
end Go.Proofs.YtofkhgokfdpdiabGreat
