/- Format, with its deferred function. -/
import Derived.Test.YtcmklbibehnloaaGreatB22
set_option maxRecDepth 100000
set_option maxHeartbeats 16000000
namespace Go.Proofs.YtcmklbibehnloaaGreat
open Go.RowKit
section
def rdS (S : Dk) : Nat → Dk
 | 0 => S
 | k + 1 => readS (rdS S k) k
def pickB (h : Option Bo) (r : Option (Nat × List Nat)) (k : Nat) : Option Bo :=
 match r with
 | none => h
 | some (g, t) => match h with
  | none => some ⟨g, t, k, false⟩
  | some P => if P.gen < g then some ⟨g, t, k, false⟩ else some P
def heldK (S : Dk) : Nat → Option Bo
 | 0 => none
 | k + 1 => pickB (heldK S k) (rootOf (readL (rdS S k) k) S.bl.length) k
theorem rd_len (S : Dk) (k : Nat) : (rdS S k).bl.length = S.bl.length := by
 induction k with
 | zero => rfl
 | succ k ih => unfold rdS; rw [read_len, ih]
theorem rd_rd (S : Dk) (k : Nat) : (rdS S k).rd ≤ S.rd + k := by
 induction k with
 | zero => exact Nat.le_refl _
 | succ k ih =>
  unfold rdS readS
  split
  ·show (rdS S k).rd + 1 ≤ _; omega
  ·omega
theorem read_fit {S : Dk} (h : S.ok) (i : Int) : (readL S i).length ≤ 1024 ∧ ∀ c ∈ readL S i, c < 256 := by
 unfold readL
 split
 ·rename_i hr
  obtain ⟨_, k, rfl, hk⟩ := ref_ok hr;rw [Int.toNat_natCast];exact ⟨h.len _ (bk_mem hk), h.byt _ (bk_mem hk)⟩
 ·exact ⟨by simp, fun c hc => by simp at hc⟩
theorem pick_ok {h : Option Bo} {b : List Nat} {k B : Nat} (hk : k ≤ 1) (hb : ∀ c ∈ b, c < 256) (hh : ∀ P, h = some P → P.ok B) : ∀ P, pickB h (rootOf b B) k = some P → P.ok B := by
 intro P hP
 cases hr : rootOf b B with
 | none => rw [hr] at hP; exact hh P hP
 | some q =>
  obtain ⟨g, t⟩ := q;obtain ⟨h1, h2, h3, h4⟩ := root_fit hb hr;have hn : (Bo.mk g t k false).ok B := ⟨h1, h2, h3, h4, hk⟩;rw [hr] at hP;unfold pickB at hP;simp only at hP
  split at hP
  ·cases hP; exact hn
  ·split at hP
   ·cases hP; exact hn
   ·cases hP; exact hh _ rfl
def Ob (F : Value → Value → Bo → Array Value) (TB TD : TypeId) (D : Nat → Prop) (w : World) (dv : Value) (c : Int) (o : Option Bo) (S' : Dk) (e : Ending) (w' : World) : Prop :=
 ∃ v, e = .returned (.tuple #[v, .int .i64 c]) ∧ (o = none → v = .pointer none ∧ ∃ D', Dsk TD D' w' dv S' ∧ ∀ x, D' x → D x ∨ w.heap.size ≤ x) ∧
  (∀ P, o = some P → ∃ A', Bk F TB TD A' w' v dv P S' ∧ ∀ x, A' x → D x ∨ w.heap.size ≤ x) ∧ Ch D w w'
def opI (S : Dk) : Int := if S.down = true then 80 else if heldK S 2 = none then 90 else 0
def opB (S : Dk) : Option Bo := if S.down = true then none else heldK S 2
def opS (S : Dk) : Dk := if S.down = true then S else rdS S 2
def Hb (F : Value → Value → Bo → Array Value) (TB : TypeId) (w : World) (dv v : Value) (o : Option Bo) (wr : World) : Prop :=
 (o = none ∧ v = .pointer none) ∨ ∃ P pb tv, o = some P ∧ v = .pointer (some ⟨pb, 0, none⟩) ∧ wr.heap[pb]? = some (.cells (F tv dv P) TB (0, 0)) ∧ Tw wr tv P.tab ∧ w.heap.size ≤ pb ∧ ∀ x, tv.ownBlock = some x → w.heap.size ≤ x ∧ x ≠ pb
theorem Hb.ch {F : Value → Value → Bo → Array Value} {TB : TypeId} {D : Nat → Prop} {w wr wy : World} {dv v : Value} {o : Option Bo} (h : Hb F TB w dv v o wr) (hc : Ch D wr wy) (hD : ∀ x, D x → x < w.heap.size) : Hb F TB w dv v o wy := by
 rcases h with h | ⟨P, pb, tv, h1, h2, h3, h4, h5, h6⟩
 ·exact .inl h
 ·have hl := (Array.getElem?_eq_some_iff.1 h3).1;obtain ⟨ao, cap, rfl, _, _⟩ := h4.form;refine .inr ⟨P, pb, _, h1, h2, by rw [hc.block pb hl (fun e => by have := hD _ e; omega)]; exact h3, ?_, h5, h6⟩;by_cases ht : P.tab = []
  ·rw [ht] at h4 ⊢;obtain ⟨ao', cap', e, q1, q2, q3, q4⟩ := h4;exact ⟨ao', cap', e, q1, q2, q3, fun i hi => by simp [ib] at hi⟩
  ·obtain ⟨b, off, rfl, hcell⟩ := h4.at (i := 0) (List.length_pos_iff.2 ht);refine h4.ch fun x hx => ?_;simp [Value.ownBlock] at hx;subst hx;exact hc.block _ (cell_lt hcell) (fun e => by have := hD _ e; have := (h6 b (by simp [Value.ownBlock])).1; omega)
theorem Hb.bk {F : Value → Value → Bo → Array Value} {TB TD : TypeId} {D : Nat → Prop} {w wr : World} {dv v : Value} {P : Bo} {S : Dk} (h : Hb F TB w dv v (some P) wr) (hd : Dsk TD D wr dv S) (hD : ∀ x, D x → x < w.heap.size) (hok : P.ok S.bl.length) : ∃ A', Bk F TB TD A' wr v dv P S ∧ ∀ x, A' x → D x ∨ w.heap.size ≤ x := by
 rcases h with ⟨h, _⟩ | ⟨P', pb, tv, h1, h2, h3, h4, h5, h6⟩
 ·cases h
 ·cases h1
  have hl := (Array.getElem?_eq_some_iff.1 h3).1;refine ⟨fun x => D x ∨ ((x = pb ∨ tv.ownBlock = some x) ∧ x < wr.heap.size), ⟨D, pb, tv, h2, h3, h4, hd, fun x hx => .inl hx, .inr ⟨.inl rfl, hl⟩, fun e => by have := hD _ e; omega, fun x hx => ⟨?_, fun e => ?_, (h6 x hx).2⟩, fun x hx => ?_, hok⟩, fun x hx => ?_⟩
  ·obtain ⟨ao, cap, rfl, _, _⟩ := h4.form;obtain ⟨b, off, rfl, hcell⟩ := h4.at (i := 0) hok.tok.1;simp [Value.ownBlock] at hx;subst hx;exact .inr ⟨.inr rfl, cell_lt hcell⟩
  ·have h7 := hD _ e; have h8 := (h6 x hx).1; omega
  ·rcases hx with e | e
   ·exact hd.lt e
   ·exact e.2
  ·rcases hx with e | ⟨e | e, _⟩
   ·exact .inl e
   ·subst e; exact .inr h5
   ·exact .inr (h6 x e).1
section

variable {D : Nat → Prop} {w : World} {dv : Value} {S : Dk}

theorem open_down (h : Dsk 92 D w dv S) (hd : S.down = true) : Calls Tryz.prog 43 #[dv] w fun e w' => Ob hdP 135 92 D w dv (opI S) (opB S) (opS S) e w' := by
 have HD := hidH h;have HDN : Hid (S.down = true) := hd;obtain ⟨sb, gp, cp, rfl, _⟩ := h;clear hd;go_in;go_wp2_with fail;refine (down_walk HD.out).mono ?_;rintro e w1 ⟨rfl, h9⟩;have h9 := h9.symm;subst h9;rw [HDN.out];go_wp2_with fail;go_ret2;refine ⟨_, by unfold opI; rw [if_pos HDN.out]; rfl, fun _ => ⟨rfl, D, by unfold opS; rw [if_pos HDN.out]; exact HD.out, fun x hx => .inl hx⟩, fun P hP => (by unfold opB at hP; rw [if_pos HDN.out] at hP; cases hP), Ch.refl _ _⟩
def OpRel (D : Nat → Prop) (w : World) (dv : Value) (S : Dk) (hv iv : Value) (wr : World) : Prop :=
 ∃ k : Nat, k ≤ 2 ∧ iv = .int .i64 k ∧ Dsk 92 D wr dv (rdS S k) ∧ Ch D w wr ∧ Hb hdP 135 w dv hv (heldK S k) wr ∧ ∀ P, heldK S k = some P → P.ok S.bl.length
theorem op_new {w3 wq : World} {k g : Nat} {t : List Nat} {sb tc : Nat} {to' : Option Addr} (hlt : k < 2) (hN : heldK S (k + 1) = some ⟨g, t, k, false⟩) (h3 : Dsk 92 D w3 (.pointer (some ⟨sb, 0, none⟩)) (rdS S (k + 1))) (hC : Ch D w w3) (hB : Below w3.heap.size w3 wq)
  (hT : Tw w3 (.slice to' t.length tc) t) (hn : ∀ x, (Value.slice to' t.length tc).ownBlock = some x → w.heap.size ≤ x ∧ x < w3.heap.size) (hok : ∀ P, heldK S (k + 1) = some P → P.ok S.bl.length) :
  OpRel D w (.pointer (some ⟨sb, 0, none⟩)) S (.pointer (some ⟨wq.heap.size, 0, none⟩)) (.int .i64 ((k : Int) + 1)) (wq.alloc (Obj.cells #[.int .u64 g, .slice to' t.length tc, .pointer (some ⟨sb, 0, none⟩), .int .i64 k, .bool false] 135)) := by
 have hb2 := below_trans hB (below_alloc wq (Obj.cells #[.int .u64 g, .slice to' t.length tc, .pointer (some ⟨sb, 0, none⟩), .int .i64 k, .bool false] 135));refine ⟨k + 1, hlt, by simp, h3.below hb2, hC.self (Ch.of_below hb2), .inr ⟨_, wq.heap.size, _, hN, rfl, heap_alloc_new wq _, hT.below hb2, Nat.le_trans hC.size hB.size, fun x hx => ⟨(hn x hx).1, fun e => ?_⟩⟩, hok⟩;have h1 := (hn x hx).2;have h2 := hB.size;omega
theorem open_up (h : Dsk 92 D w dv S) (hd : S.down = false) (hrd : S.rd < 4611686018427387904) : Calls Tryz.prog 43 #[dv] w fun e w' => Ob hdP 135 92 D w dv (opI S) (opB S) (opS S) e w' := by
 have HD := hidH h;have HDN : Hid (S.down = false) := hd;have HRD := hidH hrd;have HDL : Hid (∀ x, D x → x < w.heap.size) := fun x hx => h.lt hx;have HB : Hid (S.bl.length ≤ 64) := h.good.n64;obtain ⟨sb, gp, cp, rfl, _⟩ := h;clear hd hrd;go_in;go_wp2_with fail;refine (down_walk HD.out).mono ?_;rintro e w1 ⟨rfl, h9⟩;have h9 := h9.symm;subst h9;rw [HDN.out];go_wp2_with fail;go_loopw [4, 14] (fun hv iv wr => OpRel D w (.pointer (some ⟨sb, 0, none⟩)) S hv iv wr) (fun _ iv _ => 2 - (intOf iv).toNat)
 case atStart => exact ⟨0, by omega, rfl, HD.out, Ch.refl _ _, .inl ⟨rfl, rfl⟩, fun P hP => by cases hP⟩
 case round =>
  obtain ⟨k, hk, rfl, hDk, hC, hH, hPo⟩ := hrel;have HDK : Hid (Dsk 92 D wr (.pointer (some ⟨sb, 0, none⟩)) (rdS S k)) := hDk;have HC : Hid (Ch D w wr) := hC;have HH : Hid (Hb hdP 135 w (.pointer (some ⟨sb, 0, none⟩)) u4 (heldK S k) wr) := hH;have HPO : Hid (∀ P, heldK S k = some P → P.ok S.bl.length) := hPo;clear hDk hC hH hPo;by_cases hlt : k < 2
  ·have hk2 : (k : Int) < 2 := by omega
   have HRK : Hid ((rdS S k).rd < 9223372036854775807) := by show _ < _; have h1 := rd_rd S k; have h2 := HRD.out; omega
   have HFT := read_fit HDK.out.good (k : Int);obtain ⟨b, hb⟩ : ∃ b, b = readL (rdS S k) (k : Int) := ⟨_, rfl⟩;rw [← hb] at HFT;have HBE : Hid (b = readL (rdS S k) (k : Int)) := hb;have HF1 : Hid (b.length ≤ 1024) := HFT.1;have HF2 : Hid (∀ c ∈ b, c < 256) := HFT.2;have HPK : Hid (∀ P, pickB (heldK S k) (rootOf b S.bl.length) k = some P → P.ok S.bl.length) := pick_ok (by omega) HFT.2 HPO.out;have HHS : Hid (heldK S (k + 1) = pickB (heldK S k) (rootOf b S.bl.length) k) := by show pickB _ _ _ = _; rw [← hb]
   clear hb HFT;go_wp2_with fail;refine (read_walk HDK.out k HRK.out).mono ?_;rintro e w2 ⟨rv, rfl, hrv, hD2, hC2⟩;rw [← HBE.out] at hrv;have HV2 : Hid (Bv w2 rv b) := own_bv hrv HF2.out;have HD2 : Hid (Dsk 92 D w2 (.pointer (some ⟨sb, 0, none⟩)) (rdS S (k + 1))) := hD2;have HC2 : Hid (Ch D w w2) := HC.out.self hC2;have HH2 : Hid (Hb hdP 135 w (.pointer (some ⟨sb, 0, none⟩)) u4 (heldK S k) w2) := HH.out.ch hC2 HDL.out;obtain ⟨ro, rc, hro, _, _⟩ := row_form hrv;subst hro;have hBL : (rdS S (k + 1)).bl.length = S.bl.length := rd_len S (k + 1);have HBL : Hid ((rdS S (k + 1)).bl.length = S.bl.length) := hBL;clear hrv hD2 hC2 hBL;go_wp2_with fail;refine (blocks_walk HD2.out).mono ?_;rw [HBL.out];rintro e w9 ⟨rfl, h9⟩;have h9 := h9.symm;subst h9;go_wp2_with fail;refine (troot_walk HV2.out HF1.out HB.out).mono ?_;rintro e w3 ⟨hno, hye, hB3⟩;have HD3 := hidH (HD2.out.below hB3);have HC3 : Hid (Ch D w w3) := HC2.out.self (Ch.of_below hB3);have HH3 : Hid (Hb hdP 135 w (.pointer (some ⟨sb, 0, none⟩)) u4 (heldK S k) w3) := HH2.out.ch (Ch.of_below (D := D) hB3) HDL.out;have HS3 : Hid (w.heap.size ≤ w3.heap.size ∧ w.heap.size ≤ w2.heap.size) := ⟨HC3.out.size, HC2.out.size⟩;clear hB3
   cases hr : rootOf b S.bl.length with
   | none =>
    have he := hno hr;subst he;have HHN : Hid (heldK S (k + 1) = heldK S k) := by show _ = _; rw [HHS.out, hr]; rfl
    clear hno hye hr;go_wp2_with fail;go_quiet (fail);obtain ⟨wq, hwq⟩ : ∃ wq, wq = (w3.alloc (Obj.cells #[.int .u64 0, .slice none 0 0] 131)).drewN nq := ⟨_, rfl⟩;rw [← hwq];have HBQ : Hid (Below w3.heap.size w3 wq) := by show Below _ _ _; rw [hwq]; exact below_trans (below_alloc _ _) (below_drewN _ _)
    clear hwq;go_wp2_with fail;go_roundw
    case rel => exact ⟨k + 1, hlt, by simp, HD3.out.below HBQ.out, HC3.out.self (Ch.of_below HBQ.out), by rw [HHN.out]; exact HH3.out.ch (Ch.of_below (D := D) HBQ.out) HDL.out, fun P hP => by rw [HHS.out] at hP; exact HPK.out P hP⟩
    case measure => simp [intOf]; omega
   | some q =>
    obtain ⟨g, t⟩ := q;obtain ⟨to', tc, he, hTw, hTn⟩ := hye g t hr;subst he;have HTW := hidH hTw
    have HTN : Hid (∀ x, (Value.slice to' t.length tc).ownBlock = some x → w.heap.size ≤ x ∧ x < w3.heap.size) := fun x hx => ⟨Nat.le_trans HS3.out.2 (hTn x hx), by
     have hok := (root_fit HF2.out hr).2.2.2.1;obtain ⟨bb, off, e, hcell⟩ := hTw.at (i := 0) hok;subst e;simp [Value.ownBlock] at hx;subst hx;exact cell_lt hcell⟩
    clear hno hye hTw hTn;rcases HH3.out with ⟨hN, hv⟩ | ⟨P, pb, tv, hN, hv, hP, hPT, hpb, hpt⟩
    ·subst hv;have HHN : Hid (heldK S (k + 1) = some ⟨g, t, k, false⟩) := by show _ = _; rw [HHS.out, hr, hN]; rfl
     clear hN hr;go_wp2_with fail;go_quiet (fail);obtain ⟨wq, hwq⟩ : ∃ wq, wq = (w3.alloc (Obj.cells #[.int .u64 g, .slice to' t.length tc] 131)).drewN nq := ⟨_, rfl⟩;rw [← hwq];have HBQ : Hid (Below w3.heap.size w3 wq) := by show Below _ _ _; rw [hwq]; exact below_trans (below_alloc _ _) (below_drewN _ _)
     have q0 : wq.cell? ⟨w3.heap.size, 0, none⟩ = some (.int .u64 g) := by rw [hwq]; simp [go_sem]
     have q1 : wq.cell? ⟨w3.heap.size, 1, none⟩ = some (.slice to' t.length tc) := by rw [hwq]; simp [go_sem]
     clear hwq;go_wp2_with fail;go_roundw
     case rel => exact op_new hlt HHN.out HD3.out HC3.out HBQ.out HTW.out HTN.out (fun P hP => by rw [HHS.out] at hP; exact HPK.out P hP)
     case measure => simp [intOf]; omega
    ·subst hv;obtain ⟨G, hG⟩ : ∃ G, G = P.gen := ⟨_, rfl⟩;have hplt := (Array.getElem?_eq_some_iff.1 hP).1;have HPC : Hid (w3.cell? ⟨pb, 0, none⟩ = some (.int .u64 G)) := by show _ = _; rw [cell_of_row w3 pb 0 _ _ (0, 0) hP, hG]; rfl
     have d0 : ∀ (o : Obj) (n : Nat), ((w3.alloc o).drewN n).cell? ⟨pb, 0, none⟩ = some (.int .u64 G) := fun o n => by
      have hb : Below w3.heap.size w3 ((w3.alloc o).drewN n) := below_trans (below_alloc _ _) (below_drewN _ _);rw [hb.cell (p := ⟨pb, 0, none⟩) hplt]; exact HPC.out
     have d1 : ∀ (o : Obj), (w3.alloc o).cell? ⟨pb, 0, none⟩ = some (.int .u64 G) := fun o => by
      have hb : Below w3.heap.size w3 (w3.alloc o) := below_alloc _ _;rw [hb.cell (p := ⟨pb, 0, none⟩) hplt]; exact HPC.out
     by_cases hgt : G < g
     ·have hgi : (G : Int) < (g : Int) := by omega
      have hgd : decide ((G : Int) < (g : Int)) = true := decide_eq_true hgi;have HHN : Hid (heldK S (k + 1) = some ⟨g, t, k, false⟩) := by show _ = _; rw [HHS.out, hr, hN]; show (if P.gen < g then _ else _) = _; rw [if_pos (by omega)]
      clear hN hr hP hPT hpb hpt hG hgt hplt;go_wp2_with fail;go_quiet (fail);obtain ⟨wq, hwq⟩ : ∃ wq, wq = (w3.alloc (Obj.cells #[.int .u64 g, .slice to' t.length tc] 131)).drewN nq := ⟨_, rfl⟩;rw [← hwq];have HBQ : Hid (Below w3.heap.size w3 wq) := by show Below _ _ _; rw [hwq]; exact below_trans (below_alloc _ _) (below_drewN _ _)
      have q0 : wq.cell? ⟨w3.heap.size, 0, none⟩ = some (.int .u64 g) := by rw [hwq]; simp [go_sem]
      have q1 : wq.cell? ⟨w3.heap.size, 1, none⟩ = some (.slice to' t.length tc) := by rw [hwq]; simp [go_sem]
      clear hwq;go_wp2_with fail;go_roundw
      case rel => exact op_new hlt HHN.out HD3.out HC3.out HBQ.out HTW.out HTN.out (fun P hP => by rw [HHS.out] at hP; exact HPK.out P hP)
      case measure => simp [intOf]; omega
     ·have hgi : (g : Int) ≤ (G : Int) := by omega
      have hgd : decide ((G : Int) < (g : Int)) = false := decide_eq_false (by omega);have HHN : Hid (heldK S (k + 1) = heldK S k) := by show _ = _; rw [HHS.out, hr, hN]; show (if P.gen < g then _ else _) = _; rw [if_neg (by omega)]
      clear hN hr hP hPT hpb hpt hG hgt hplt;go_wp2_with fail;go_quiet (fail);obtain ⟨wq, hwq⟩ : ∃ wq, wq = (w3.alloc (Obj.cells #[.int .u64 g, .slice to' t.length tc] 131)).drewN nq := ⟨_, rfl⟩;rw [← hwq];have HBQ : Hid (Below w3.heap.size w3 wq) := by show Below _ _ _; rw [hwq]; exact below_trans (below_alloc _ _) (below_drewN _ _)
      clear hwq;go_wp2_with fail;go_roundw
      case rel => exact ⟨k + 1, hlt, by simp, HD3.out.below HBQ.out, HC3.out.self (Ch.of_below HBQ.out), by rw [HHN.out]; exact HH3.out.ch (Ch.of_below (D := D) HBQ.out) HDL.out, fun P hP => by rw [HHS.out] at hP; exact HPK.out P hP⟩
      case measure => simp [intOf]; omega
  ·have hk2 : ¬ (k : Int) < 2 := by omega
   obtain rfl : k = 2 := by omega
   have HBL : Hid ((rdS S 2).bl.length = S.bl.length) := rd_len S 2;rcases HH.out with ⟨hN, hv⟩ | ⟨P, pb, tv, hN, hv, hP, hPT, hpb, hpt⟩
   ·subst hv;have HN : Hid (heldK S 2 = none) := hN;clear hN;go_wp2_with fail;go_ret2;have hnd : ¬ S.down = true := by rw [HDN.out]; simp
    exact ⟨_, by unfold opI; rw [if_neg hnd, if_pos HN.out]; rfl, fun _ => ⟨rfl, D, by unfold opS; rw [if_neg hnd]; exact HDK.out, fun x hx => .inl hx⟩, fun P hP => (by unfold opB at hP; rw [if_neg hnd, HN.out] at hP; cases hP), HC.out⟩
   ·subst hv;have HN : Hid (heldK S 2 = some P) := hN;clear hN hP hPT hpb hpt;go_wp2_with fail;go_ret2;have hnd : ¬ S.down = true := by rw [HDN.out]; simp
    refine ⟨_, by unfold opI; rw [if_neg hnd, if_neg (by rw [HN.out]; simp)]; rfl, fun hn => (by unfold opB at hn; rw [if_neg hnd, HN.out] at hn; cases hn), fun P' hP' => ?_, HC.out⟩;unfold opB at hP';rw [if_neg hnd] at hP';have hH := HH.out;rw [hP'] at hH;have := hH.bk HDK.out HDL.out (by rw [HBL.out]; exact HPO.out P' hP');unfold opS;rw [if_neg hnd];exact this
theorem open_walk (h : Dsk 92 D w dv S) (hrd : S.rd < 4611686018427387904) : Calls Tryz.prog 43 #[dv] w fun e w' => Ob hdP 135 92 D w dv (opI S) (opB S) (opS S) e w' := by
 cases hd : S.down
 ·exact open_up h hd hrd
 ·exact open_down h hd
end
end
section
def zer (n : Nat) : List Nat := List.replicate n 0
theorem zer_len (n : Nat) : (zer n).length = n := by simp [zer]
theorem zer_tn (n i : Nat) : tn (zer n) i = 0 := by unfold tn zer; rw [List.getD_eq_getElem?_getD, List.getElem?_replicate]; split <;> rfl
theorem zer_ok {n B : Nat} (h1 : 1 ≤ n) (h8 : n ≤ 8) (hB : 2 + 2 * n ≤ B) : (Bo.mk 1 (zer n) 0 false).ok B :=
 ⟨Nat.le_refl _, by show 1 ≤ _; omega, by show (zer n).length ≤ 8; rw [zer_len]; exact h8, ⟨by show 1 ≤ (zer n).length; rw [zer_len]; exact h1, by show 2 + 2 * (zer n).length ≤ B; rw [zer_len]; exact hB, fun i _ => .inl (zer_tn n i)⟩, by show 0 ≤ 1; omega⟩
theorem make_tab {q : Nat} (hq : q ≤ 8) : ∀ wx : World, (Instr.makeSlice 129 (.int .i64 q) (.int .i64 q)).run Tryz.prog wx = .ok (.slice (some ⟨wx.heap.size, 0, none⟩) q q) (wx.alloc (.cells (madeCells #[.int .i64 0] (q * 1)) 3)) := fun wx => by
 obtain ⟨i0, hi0, hz0, hz1, hz2⟩ := info_partsV info_i64;have := run_make (P := Tryz.prog) wx 129 3 i0 (.int .i64 0) Tryz.underlying129 hi0 hz0 .i64 .i64 q q (by omega) (Int.le_refl _) (by rw [hz2]; omega) (by omega);rw [hz1] at this;simp only [Int.toNat_natCast] at this;exact this
theorem made_zt (w : World) {q : Nat} (hq : q ≤ 8) {Z : Array Value} (hZ : Z = madeCells #[.int .i64 0] (q * 1)) : Zt (w.alloc (.cells Z 3)) w.heap.size q (zer q) := by
 subst hZ;refine ⟨⟨_, heap_alloc_new w _, by rw [size_madeCells]; omega, fun i hi => ?_⟩, by rw [zer_len]; exact Nat.le_refl _, by simp [maxLen]; omega⟩;rw [zer_len] at hi;rw [zer_tn];simp [madeCells, hi, Nat.mod_one]
def formO (S : Dk) (n : Int) : Int × Option Bo × Dk :=
 if n < 1 ∨ 8 < n then (1, none, S)
 else if (S.bl.length : Int) < 2 + 2 * n then (92, none, S)
 else if writeI S 1 [] ≠ 0 then (80, none, writeS S 1 [])
 else if writeI (writeS S 1 []) 0 (rootB 1 (zer n.toNat)) ≠ 0 then (80, none, writeS (writeS S 1 []) 0 (rootB 1 (zer n.toNat)))
 else (0, some ⟨1, zer n.toNat, 0, false⟩, writeS (writeS S 1 []) 0 (rootB 1 (zer n.toNat)))
section

variable {D : Nat → Prop} {w : World} {dv : Value} {S : Dk}

def Fm (F : Value → Value → Bo → Array Value) (TB TD : TypeId) (D : Nat → Prop) (w : World) (dv : Value) (S : Dk) (n : Int) (e : Ending) (w' : World) : Prop := Ob F TB TD D w dv (formO S n).1 (formO S n).2.1 (formO S n).2.2 e w'
theorem fm_no {F : Value → Value → Bo → Array Value} {TB TD : TypeId} {D' : Nat → Prop} {w' : World} {S' : Dk} {n c : Int} (hO : formO S n = (c, none, S')) (hd : Dsk TD D' w' dv S') (hx : ∀ x, D' x → D x ∨ w.heap.size ≤ x) (hC : Ch D w w') : Fm F TB TD D w dv S n (.returned (.tuple #[.pointer none, .int .i64 c])) w' := by
 unfold Fm; rw [hO];exact ⟨_, rfl, fun _ => ⟨rfl, D', hd, hx⟩, fun P hP => (by cases hP), hC⟩
theorem fcatch_panicking {q : Nat} {f : Int} (u : TypeId) (pv : Value) (older : List PanicEntry) (w : World) (h3 : w.cell? ⟨q, 0, none⟩ = some (.int .i64 f)) (f3 : w.frozen? ⟨q, 0, none⟩ = false) :
  CallsD Tryz.prog 85 #[.pointer (some ⟨q, 0, none⟩)] (.panicking ({ v := .iface u pv, recovered := false } :: older)) w fun e u' w' =>
   e = .returned (.tuple #[]) ∧ u' = .panicking ({ v := .iface u pv, recovered := true } :: older) ∧ w' = w.setCell ⟨q, 0, none⟩ (.int .i64 80) := by
 refine callsD_of_wpS Tryz.func85 rfl fun c₀ cs hu => ?_;apply wpS_seq;apply wpS_region;simp [wpOpsS, go_sem, recoverD, hu, Tryz.ntmps85, Exit.thenS];refine wpS_cond (t := true) (by simp [Act.eval, Array.replicate]) ?_;simp only [if_true];apply wpS_region;simp [wpOpsS, go_sem, h3, f3, bodyPostS, results, Tryz.results85]
theorem fcatch_idle (q : Addr) (w : World) :
  CallsD Tryz.prog 85 #[.pointer (some q)] .returning w fun e u' w' => e = .returned (.tuple #[]) ∧ u' = .returning ∧ w' = w := by
 refine callsD_of_wpS Tryz.func85 rfl fun c₀ cs hu => ?_;apply wpS_seq;apply wpS_region;simp [wpOpsS, go_sem, recoverD, hu, Tryz.ntmps85, Exit.thenS];refine wpS_cond (t := false) (by simp [Act.eval, Array.replicate]) ?_;simp only [Bool.false_eq_true, if_false];refine wpS_of_wp (wp_skip ?_)
 cases c₀
 simp_all [bodyPostS, results, Tryz.results85]
theorem format_arg (h : Dsk 92 D w dv S) {n : Int} (hn : n < 1 ∨ 8 < n) : Calls Tryz.prog 40 #[dv, .int .i64 n] w fun e w' => Fm hdP 135 92 D w dv S n e w' := by
 have HR : Hid (formO S n = (1, none, S)) := by show _ = _; unfold formO; rw [if_pos hn]
 have HD := hidH h;obtain ⟨sb, gp, cp, rfl, _⟩ := h;by_cases h1 : n < 1
 ·clear hn;go_enter_defers Tryz.func40, Tryz.ntmps40;go_wp2_with fail;exact ⟨.tuple #[.pointer none, .int .i64 1], by simp [results, Tryz.results40, go_sem], fm_no HR.out (HD.out.below (below_alloc _ _)) (fun x hx => .inl hx) (Ch.of_below (below_alloc _ _))⟩
 ·have h8 : 8 < n := by omega
  clear hn;go_enter_defers Tryz.func40, Tryz.ntmps40;go_wp2_with fail;exact ⟨.tuple #[.pointer none, .int .i64 1], by simp [results, Tryz.results40, go_sem], fm_no HR.out (HD.out.below (below_alloc _ _)) (fun x hx => .inl hx) (Ch.of_below (below_alloc _ _))⟩
theorem format_in (h : Dsk 92 D w dv S) {n : Nat} (h1 : 1 ≤ n) (h8 : n ≤ 8) (hwr : S.wr < 4611686018427387904) : Calls Tryz.prog 40 #[dv, .int .i64 n] w fun e w' => Fm hdP 135 92 D w dv S n e w' := by
 obtain ⟨w0, hw0⟩ : ∃ w0, w0 = w.alloc (Obj.cells #[.int .i64 0] 25) := ⟨_, rfl⟩;have HW0 : Hid (w0 = w.alloc (Obj.cells #[.int .i64 0] 25)) := hw0;have hB0 : Below w.heap.size w w0 := by rw [hw0]; exact below_alloc _ _
 have HB0 := hidH hB0;have HS0 : Hid (w.heap.size < w0.heap.size) := by show _ < _; rw [hw0]; simp
 have hc0 : w0.cell? ⟨w.heap.size, 0, none⟩ = some (.int .i64 0) := by rw [hw0]; simp [go_sem]
 have hf0 : w0.frozen? ⟨w.heap.size, 0, none⟩ = false := by rw [hw0]; simp [go_sem]
 have HD0 : Hid (Dsk 92 D w0 dv S) := h.below hB0;have HND : Hid (¬ D w.heap.size) := fun e => by have := h.lt e; omega
 have HDW : Hid (∀ x, D x → x < w.heap.size) := fun x hx => h.lt hx;have HK : Hid (∀ wx, Ch D w0 wx → wx.cell? ⟨w.heap.size, 0, none⟩ = some (.int .i64 0) ∧ wx.frozen? ⟨w.heap.size, 0, none⟩ = false) := fun wx hx => ⟨by rw [World.cell?_of_block (w := w0) (a := ⟨w.heap.size, 0, none⟩) (hx.block _ HS0.out HND.out)]; exact hc0, by rw [World.frozen?_of_block (w := w0) (a := ⟨w.heap.size, 0, none⟩) (hx.block _ HS0.out HND.out)]; exact hf0⟩;have HN8 : Hid (n ≤ 8) := h8;have HN1 : Hid (1 ≤ n) := h1;have hi1 : (1 : Int) ≤ (n : Int) := by omega
 have hi8 : (n : Int) ≤ 8 := by omega
 have HWR := hidH hwr;have hmf : ∀ (fn : Fn) (first cap : Array Value) (w : World), (Instr.makeFunc fn first cap).run Tryz.prog w = .ok (.func fn first cap) w := fun _ _ _ _ => rfl;have HF : Hid (formO S n = if (S.bl.length : Int) < 2 + 2 * (n : Int) then (92, none, S) else if writeI S 1 [] ≠ 0 then (80, none, writeS S 1 []) else if writeI (writeS S 1 []) 0 (rootB 1 (zer n)) ≠ 0 then (80, none, writeS (writeS S 1 []) 0 (rootB 1 (zer n))) else (0, some ⟨1, zer n, 0, false⟩, writeS (writeS S 1 []) 0 (rootB 1 (zer n)))) := by show _ = _; unfold formO; rw [if_neg (by omega), Int.toNat_natCast]
 obtain ⟨L, hL⟩ : ∃ L, L = S.bl.length := ⟨_, rfl⟩;have HL : Hid (L = S.bl.length) := hL;have hL64 : L ≤ 64 := by rw [hL]; exact h.good.n64
 rw [← hL] at HF;obtain ⟨sb, gp, cp, rfl, _⟩ := h;have hmk := make_tab h8;obtain ⟨Z, hZ⟩ : ∃ Z, Z = madeCells #[.int .i64 0] (n * 1) := ⟨_, rfl⟩;rw [← hZ] at hmk;have HZ : Hid (Z = madeCells #[.int .i64 0] (n * 1)) := hZ;clear hw0 h1 h8 hwr hB0 hc0 hf0 hL hZ;by_cases hroom : (L : Int) < 2 + 2 * (n : Int)
 ·have HR : Hid (formO S n = (92, none, S)) := by show _ = _; rw [HF.out, if_pos hroom]
  go_enter_defers Tryz.func40, Tryz.ntmps40;go_wp2_with fail;rw [← HW0.out];refine (blocks_walk HD0.out).mono ?_;rw [← HL.out];rintro e w9 ⟨rfl, h9⟩;have h9 := h9.symm;subst h9;go_wp2_with fail;refine (bfor_walk n (by have := HN8.out; omega)).mono ?_;rintro e w9 ⟨rfl, h9⟩;have h9 := h9.symm;subst h9;have k1 := (HK.out w0 (Ch.refl _ _)).1;have g1 := (HK.out w0 (Ch.refl _ _)).2;go_wp2_with fail;exact ⟨.tuple #[.pointer none, .int .i64 92], by simp [results, Tryz.results40, go_sem, k1], fm_no HR.out (HD0.out.ch (E := fun x => x = w.heap.size) (Ch.of_grown (grown_set _ _ _ _) (fun x hx => by cases hx; rfl)) (fun x hx e => HND.out (e ▸ hx))) (fun x hx => .inl hx) (ch_new (Ch.of_below HB0.out) (Nat.le_refl _) _ _)⟩
 ·have hroom2 : 2 + 2 * (n : Int) ≤ (L : Int) := by omega
  have HRM := hidH hroom;clear hroom;have HW1 : Hid (S.wr < 9223372036854775807) := by show _ < _; have := HWR.out; omega
  by_cases hw1 : writeI S 1 [] = 0
  ·have HI1 : Hid (writeI S 1 [] = 0) := hw1;clear hw1;obtain ⟨S1, hS1⟩ : ∃ S1, S1 = writeS S 1 [] := ⟨_, rfl⟩;have HE1 : Hid (S1 = writeS S 1 []) := hS1;have HW2 : Hid (S1.wr < 9223372036854775807) := by show _ < _; rw [hS1]; have h1 := write_wr (S := S) (i := 1) (b := []); have h2 := HWR.out; omega
   clear hS1;have HRB : Hid (∀ c ∈ rootB 1 (zer n), c < 256) := root_bytes (by rw [zer_len]; exact HN8.out) (by omega) (fun x hx => by rw [(List.mem_replicate.1 hx).2]; omega);go_enter_defers Tryz.func40, Tryz.ntmps40;go_wp2_with fail;rw [← HW0.out];refine (blocks_walk HD0.out).mono ?_;rw [← HL.out];rintro e w9 ⟨rfl, h9⟩;have h9 := h9.symm;subst h9;go_wp2_with fail;refine (bfor_walk n (by have := HN8.out; omega)).mono ?_;rintro e w9 ⟨rfl, h9⟩;have h9 := h9.symm;subst h9;go_wp2_with fail;obtain ⟨w2, hw2⟩ : ∃ w2, w2 = (w0.alloc (Obj.cells Z 3)).alloc (Obj.cells #[.int .u64 1, .slice (some ⟨w0.heap.size, 0, none⟩) n n] 131) := ⟨_, rfl⟩;rw [← hw2];have hB2 : Below w0.heap.size w0 w2 := by rw [hw2]; exact below_trans (below_alloc _ _) (below_alloc _ _)
   have HB2 := hidH hB2;have HZ2 : Hid (Zt w2 w0.heap.size n (zer n)) := by show Zt _ _ _ _; rw [hw2]; exact (made_zt w0 HN8.out HZ.out).below (below_alloc _ _)
   have HA2 : Hid (w2.cell? ⟨w0.heap.size + 1, 0, none⟩ = some (.int .u64 1)) := by show _ = _; rw [hw2]; simp [go_sem]
   have HC2 : Hid (w2.cell? ⟨w0.heap.size + 1, 1, none⟩ = some (.slice (some ⟨w0.heap.size, 0, none⟩) n n)) := by show _ = _; rw [hw2]; simp [go_sem]
   have HD2 := hidH (HD0.out.below hB2);have HS2 : Hid (w2.heap.size = w0.heap.size + 2) := by show _ = _; rw [hw2]; simp
   have HDL : Hid (∀ x, D x → x < w.heap.size) := fun x hx => by have h1 := HDW.out x hx; exact h1
   clear hw2 hB2;refine (wr_ok HD2.out 1 (Bv.nil _) HW1.out HI1.out).mono ?_;rw [← HE1.out];rintro e w3 ⟨rfl, ⟨D3, hD3, hx3⟩, hC3⟩;have HX3 := hidH hx3;have HD3 := hidH hD3;have HC3 : Hid (Ch D w2 w3) := hC3;have HG3 : Hid (¬ D w0.heap.size ∧ ¬ D (w0.heap.size + 1)) := by have h1 := HS0.out; exact ⟨fun e => by have := HDL.out _ e; omega, fun e => by have := HDL.out _ e; omega⟩
   have HZ3 : Hid (Zt w3 w0.heap.size n (zer n)) := HZ2.out.keep (hC3.block _ HZ2.out.lt HG3.out.1);have HA3 : Hid (w3.cell? ⟨w0.heap.size + 1, 0, none⟩ = some (.int .u64 1)) := by show _ = _; rw [World.cell?_of_block (w := w2) (a := ⟨w0.heap.size + 1, 0, none⟩) (hC3.block _ (cell_lt HA2.out) HG3.out.2)]; exact HA2.out
   have HQ3 : Hid (w3.cell? ⟨w0.heap.size + 1, 1, none⟩ = some (.slice (some ⟨w0.heap.size, 0, none⟩) n n)) := by show _ = _; rw [World.cell?_of_block (w := w2) (a := ⟨w0.heap.size + 1, 1, none⟩) (hC3.block _ (cell_lt HC2.out) HG3.out.2)]; exact HC2.out
   have HT3 : Hid (Tw w3 (.slice (some ⟨w0.heap.size, 0, none⟩) n n) (zer n)) := by have := HZ3.out.tw; rw [zer_len] at this; exact this
   have d0 := HA3.out;have d1 := HQ3.out;clear hx3 hD3 hC3;go_wp2_with fail;refine (bytes_walk (g := 1) HT3.out (by rw [zer_len]; exact HN8.out) (fun x hx => by rw [(List.mem_replicate.1 hx).2]; omega) (by decide)).mono ?_;rintro e w4 ⟨rv, rfl, hrv, hB4⟩;have HB4 := hidH hB4;have HV4 : Hid (Bv w4 rv (rootB 1 (zer n))) := own_bv hrv HRB.out;have HC4 : Hid (Ch D w0 w4) := ((Ch.of_below HB2.out).self HC3.out).self (Ch.of_below hB4);clear hrv hB4 d0 d1;by_cases hw2 : writeI S1 0 (rootB 1 (zer n)) = 0
   ·have HI2 : Hid (writeI S1 0 (rootB 1 (zer n)) = 0) := hw2;have HR : Hid (formO S n = (0, some ⟨1, zer n, 0, false⟩, writeS S1 0 (rootB 1 (zer n)))) := by show _ = _; rw [HF.out, if_neg (show ¬ (L : Int) < 2 + 2 * (n : Int) by have := HRM.out; omega), if_neg (fun e => e HI1.out), ← HE1.out, if_neg (fun e => e hw2)]
    clear hw2;go_wp2_with fail;refine (wr_ok (HD3.out.below HB4.out) 0 HV4.out HW2.out HI2.out).mono ?_;rintro e w5 ⟨rfl, ⟨D5, hD5, hx5⟩, hC5⟩;have hx35 : ∀ x, D3 x → D x ∨ w2.heap.size ≤ x := HX3.out
    have HG5 : Hid (¬ D3 w0.heap.size ∧ ¬ D3 (w0.heap.size + 1) ∧ ¬ D3 w.heap.size) := by
     have h1 := HS2.out;have h2 := HS0.out;refine ⟨fun e => ?_, fun e => ?_, fun e => ?_⟩
     ·rcases hx35 _ e with q | q
      ·exact HG3.out.1 q
      ·omega
     ·rcases hx35 _ e with q | q
      ·exact HG3.out.2 q
      ·omega
     ·rcases hx35 _ e with q | q
      ·exact HND.out q
      ·omega
    have hC45 : Ch D3 w3 w5 := (Ch.of_below HB4.out).self hC5;have HZ5 : Hid (Zt w5 w0.heap.size n (zer n)) := HZ3.out.keep (hC45.block _ HZ3.out.lt HG5.out.1);have d0 : w5.cell? ⟨w0.heap.size + 1, 0, none⟩ = some (.int .u64 1) := by rw [World.cell?_of_block (w := w3) (a := ⟨w0.heap.size + 1, 0, none⟩) (hC45.block _ (cell_lt HA3.out) HG5.out.2.1)]; exact HA3.out
    have d1 : w5.cell? ⟨w0.heap.size + 1, 1, none⟩ = some (.slice (some ⟨w0.heap.size, 0, none⟩) n n) := by rw [World.cell?_of_block (w := w3) (a := ⟨w0.heap.size + 1, 1, none⟩) (hC45.block _ (cell_lt HQ3.out) HG5.out.2.1)]; exact HQ3.out
    have HC5 : Hid (Ch D w0 w5) := ((Ch.of_below HB2.out).self HC3.out).trans hC45 (fun x hx => by rcases hx35 x hx with q | q; exact .inl q; have := HS2.out; exact .inr (by omega));have hkk := HK.out w5 HC5.out
    have HX5 : Hid (∀ x, D5 x → D x ∨ w0.heap.size + 2 ≤ x) := fun x hx => by
     have h1 := HS2.out;rcases hx5 x hx with q | q
     ·rcases hx35 x q with q | q
      ·exact .inl q
      ·exact .inr (by omega)
     ·have h2 := HC3.out.size; have h3 := HB4.out.size; exact .inr (by omega)
    have HD5 := hidH hD5;have k1 : ∀ o : Obj, (w5.alloc o).cell? ⟨w.heap.size, 0, none⟩ = some (.int .i64 0) := fun o => (HK.out _ (HC5.out.self (Ch.of_below (below_alloc w5 o)))).1;have g1 : ∀ o : Obj, (w5.alloc o).frozen? ⟨w.heap.size, 0, none⟩ = false := fun o => (HK.out _ (HC5.out.self (Ch.of_below (below_alloc w5 o)))).2;clear hx5 hD5 hC5 hC45 hx35;go_wp2_with fail;refine leaves_cons (f := 85) (args := #[.pointer (some ⟨w.heap.size, 0, none⟩)]) (by simp) (by simp [go_sem]) ?_;refine (fcatch_idle _ _).mono ?_;rintro e u' w'' ⟨rfl, rfl, rfl⟩;refine ⟨.tuple #[.pointer (some ⟨w5.heap.size, 0, none⟩), .int .i64 0], by simp [results, Tryz.results40, go_sem, k1], ?_⟩;unfold Fm;rw [HR.out];obtain ⟨wf, hwf⟩ : ∃ wf, wf = (w5.alloc (Obj.cells #[.int .u64 1, .slice (some ⟨w0.heap.size, 0, none⟩) n n, .pointer (some ⟨sb, 0, none⟩), .int .i64 0, .bool false] 135)).setCell ⟨w.heap.size, 0, none⟩ (.int .i64 0) := ⟨_, rfl⟩;rw [← hwf];have hs5 := HC5.out.size;have hs0 := HS0.out;have hne : w.heap.size ≠ w5.heap.size := by omega
    have hCf : Ch (fun x => x = w.heap.size) w5 wf := by rw [hwf]; exact (Ch.of_below (below_alloc _ _)).self (Ch.of_grown (grown_set _ _ _ _) (fun x hx => by cases hx; rfl))
    have hCw : Ch D w wf := by rw [hwf]; exact ch_new (((Ch.of_below HB0.out).self HC5.out).self (Ch.of_below (below_alloc _ _))) (Nat.le_refl _) _ _
    have hDf : Dsk 92 D5 wf (.pointer (some ⟨sb, 0, none⟩)) (writeS S1 0 (rootB 1 (zer n))) := HD5.out.ch hCf (fun x hx e => by
     subst e;rcases HX5.out _ hx with q | q
     ·exact HND.out q
     ·omega)
    have hl1 : (writeS S1 0 (rootB 1 (zer n))).bl.length = L := by rw [write_len, HE1.out, write_len, HL.out]
    have hcut : ∃ A', Bk hdP 135 92 A' wf (.pointer (some ⟨w5.heap.size, 0, none⟩)) (.pointer (some ⟨sb, 0, none⟩)) ⟨1, zer n, 0, false⟩ (writeS S1 0 (rootB 1 (zer n))) ∧ ∀ x, A' x → D x ∨ w.heap.size ≤ x := by
     ·have hlf : w5.heap.size < wf.heap.size := by rw [hwf]; simp
      have hd5 : ¬ D5 w5.heap.size := fun e => by have := HD5.out.lt e; omega
      have hdg : ¬ D5 w0.heap.size := fun e => by
       rcases HX5.out _ e with q | q
       ·exact HG3.out.1 q
       ·omega
      have hz5 := HZ5.out.lt;refine ⟨fun x => (D5 x ∨ x = w5.heap.size) ∨ x = w0.heap.size, ⟨D5, w5.heap.size, .slice (some ⟨w0.heap.size, 0, none⟩) n n, rfl, ?_, ?_, hDf, fun x hx => .inl (.inl hx), .inl (.inr rfl), hd5, fun x hx => ?_, fun x hx => ?_, by rw [hl1]; exact zer_ok HN1.out HN8.out (by have := HRM.out; omega)⟩, fun x hx => ?_⟩
      ·rw [hwf, set_other 0 _ (fun e => hne e.symm), heap_alloc_new]; rfl
      ·have := HZ5.out.tw;rw [zer_len] at this
       exact this.ch (fun x hx => by
        simp [Value.ownBlock] at hx;subst hx;exact hCf.block _ HZ5.out.lt (by omega))
      ·simp [Value.ownBlock] at hx;subst hx;exact ⟨.inr rfl, hdg, by omega⟩
      ·rcases hx with (e | e) | e
       ·exact hDf.lt e
       ·omega
       ·have := hCf.size; omega
      ·rcases hx with (e | e) | e
       ·rcases HX5.out x e with q | q
        ·exact .inl q
        ·exact .inr (by omega)
       ·exact .inr (by omega)
       ·exact .inr (by omega)
    exact ⟨_, rfl, fun hn => (by cases hn), fun P hP => (by cases hP; exact hcut), hCw⟩
   ·have HI2 := hidH hw2;have HR : Hid (formO S n = (80, none, writeS S1 0 (rootB 1 (zer n)))) := by show _ = _; rw [HF.out, if_neg (show ¬ (L : Int) < 2 + 2 * (n : Int) by have := HRM.out; omega), if_neg (fun e => e HI1.out), ← HE1.out, if_pos hw2]
    clear hw2;go_wp2_with fail;refine (wr_bad (HD3.out.below HB4.out) 0 HV4.out HW2.out HI2.out).mono ?_;rintro e w5 ⟨⟨pu, pv, rfl⟩, ⟨D5, hD5, hx5⟩, hC5⟩;have hC45 : Ch D3 w3 w5 := (Ch.of_below HB4.out).self hC5;have HC5 : Hid (Ch D w0 w5) := ((Ch.of_below HB2.out).self HC3.out).trans hC45 (fun x hx => by rcases HX3.out x hx with q | q; exact .inl q; have := HS2.out; exact .inr (by omega));have hkk := HK.out w5 HC5.out
    have HX5 : Hid (∀ x, D5 x → D x ∨ w0.heap.size + 2 ≤ x) := fun x hx => by
     have h1 := HS2.out;rcases hx5 x hx with q | q
     ·rcases HX3.out x q with q | q
      ·exact .inl q
      ·exact .inr (by omega)
     ·have h2 := HC3.out.size; have h3 := HB4.out.size; exact .inr (by omega)
    refine leaves_cons (f := 85) (args := #[.pointer (some ⟨w.heap.size, 0, none⟩)]) (by simp) (by simp [go_sem]) ?_;refine (fcatch_panicking pu pv [] w5 hkk.1 hkk.2).mono ?_;rintro e u' w'' ⟨rfl, rfl, rfl⟩;refine ⟨.tuple #[.pointer none, .int .i64 80], by simp [results, Tryz.results40, go_sem, hkk.1], fm_no HR.out (hD5.ch (E := fun x => x = w.heap.size) (Ch.of_grown (grown_set _ _ _ _) (fun x hx => by cases hx; rfl)) (fun x hx e => ?_)) (fun x hx => ?_) (ch_new ((Ch.of_below (D := D) HB0.out).self HC5.out) (Nat.le_refl _) _ _)⟩
    ·subst e;have := HS0.out;rcases HX5.out _ hx with q | q
     ·exact HND.out q
     ·omega
    ·have := HS0.out;rcases HX5.out _ hx with q | q
     ·exact .inl q
     ·exact .inr (by omega)
  ·have HI1 : Hid (writeI S 1 [] ≠ 0) := hw1;have HR : Hid (formO S n = (80, none, writeS S 1 [])) := by show _ = _; rw [HF.out, if_neg (show ¬ (L : Int) < 2 + 2 * (n : Int) by have := HRM.out; omega), if_pos hw1]
   clear hw1;go_enter_defers Tryz.func40, Tryz.ntmps40;go_wp2_with fail;rw [← HW0.out];refine (blocks_walk HD0.out).mono ?_;rw [← HL.out];rintro e w9 ⟨rfl, h9⟩;have h9 := h9.symm;subst h9;go_wp2_with fail;refine (bfor_walk n (by have := HN8.out; omega)).mono ?_;rintro e w9 ⟨rfl, h9⟩;have h9 := h9.symm;subst h9;go_wp2_with fail;obtain ⟨w2, hw2⟩ : ∃ w2, w2 = (w0.alloc (Obj.cells Z 3)).alloc (Obj.cells #[.int .u64 1, .slice (some ⟨w0.heap.size, 0, none⟩) n n] 131) := ⟨_, rfl⟩;rw [← hw2];have hB2 : Below w0.heap.size w0 w2 := by rw [hw2]; exact below_trans (below_alloc _ _) (below_alloc _ _)
   have HB2 := hidH hB2;have HZ2 : Hid (Zt w2 w0.heap.size n (zer n)) := by show Zt _ _ _ _; rw [hw2]; exact (made_zt w0 HN8.out HZ.out).below (below_alloc _ _)
   have HA2 : Hid (w2.cell? ⟨w0.heap.size + 1, 0, none⟩ = some (.int .u64 1)) := by show _ = _; rw [hw2]; simp [go_sem]
   have HC2 : Hid (w2.cell? ⟨w0.heap.size + 1, 1, none⟩ = some (.slice (some ⟨w0.heap.size, 0, none⟩) n n)) := by show _ = _; rw [hw2]; simp [go_sem]
   have HD2 := hidH (HD0.out.below hB2);have HS2 : Hid (w2.heap.size = w0.heap.size + 2) := by show _ = _; rw [hw2]; simp
   have HDL : Hid (∀ x, D x → x < w.heap.size) := fun x hx => by have h1 := HDW.out x hx; exact h1
   clear hw2 hB2;refine (wr_bad HD2.out 1 (Bv.nil _) HW1.out HI1.out).mono ?_;rintro e w3 ⟨⟨pu, pv, rfl⟩, ⟨D3, hD3, hx3⟩, hC3⟩;have hk : Ch D w0 w3 := (Ch.of_below HB2.out).self hC3;have hkk := HK.out w3 hk;refine leaves_cons (f := 85) (args := #[.pointer (some ⟨w.heap.size, 0, none⟩)]) (by simp) (by simp [go_sem]) ?_;refine (fcatch_panicking pu pv [] w3 hkk.1 hkk.2).mono ?_;rintro e u' w'' ⟨rfl, rfl, rfl⟩;have hx3' : ∀ x, D3 x → D x ∨ w0.heap.size ≤ x := fun x hx => by rcases hx3 x hx with q | q; exact .inl q; have := HS2.out; exact .inr (by omega)
   refine ⟨.tuple #[.pointer none, .int .i64 80], by simp [results, Tryz.results40, go_sem, hkk.1], fm_no HR.out (hD3.ch (E := fun x => x = w.heap.size) (Ch.of_grown (grown_set _ _ _ _) (fun x hx => by cases hx; rfl)) (fun x hx e => ?_)) (fun x hx => ?_) (ch_new ((Ch.of_below (D := D) HB0.out).self hk) (Nat.le_refl _) _ _)⟩
   ·subst e;have := HS0.out;rcases hx3' _ hx with q | q
    ·exact HND.out q
    ·omega
   ·have := HS0.out;rcases hx3' _ hx with q | q
    ·exact .inl q
    ·exact .inr (by omega)
theorem format_walk (h : Dsk 92 D w dv S) (n : Int) (hwr : S.wr < 4611686018427387904) : Calls Tryz.prog 40 #[dv, .int .i64 n] w fun e w' => Fm hdP 135 92 D w dv S n e w' := by
 by_cases hn : n < 1 ∨ 8 < n
 ·exact format_arg h hn
 ·obtain ⟨k, rfl⟩ : ∃ k : Nat, n = k := ⟨n.toNat, by omega⟩;exact format_in h (by omega) (by omega) hwr
end
end
end Go.Proofs.YtcmklbibehnloaaGreat
