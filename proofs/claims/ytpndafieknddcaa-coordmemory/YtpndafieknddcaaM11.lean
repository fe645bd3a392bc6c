/- Cb Cc Cd QJe -/
import Derived.Test.YtpndafieknddcaaCa
import Derived.Test.YtpndafieknddcaaJc
import Derived.Shelf.Abstract
import Derived.Lib.SliceRun
import Derived.Deep.RegionLaw
import Derived.Test.YtpndafieknddcaaM07
import Derived.Maps.AppendAt
namespace Go.Proofs.Ytpndafieknddcaa

open Ieee Go.RowKit



theorem sv_nv {w : World} {v : Value} {l : List Int} (h : Sv .i64 w v l) (hl : In64 l) : Nv w v l := ⟨h, hl⟩
theorem nv_sv {w : World} {v : Value} {l : List Int} (h : Nv w v l) : Sv .i64 w v l := h.1
def idxI (x : Int) : List Int → Nat → Int
  | [], _ => -1
  | y :: t, k => if x = y then (k : Int) else idxI x t (k + 1)
theorem idxI_has (x : Int) (l : List Int) (k : Nat) : decide (0 ≤ idxI x l k) = l.contains x := by
  induction l generalizing k with
  | nil => rfl
  | cons a t ih =>
    rw [idxI]
    by_cases h : x = a
    · rw [if_pos h, decide_eq_true (by omega)]; simp [h]
    · rw [if_neg h, ih]; simp [h]
theorem idxI_yes {x : Int} {l : List Int} {k i : Nat} (hi : i < l.length) (h : x = nth l i) (hn : ∀ j, j < i → x ≠ nth l j) : idxI x l k = ((k + i : Nat) : Int) := by
  induction l generalizing k i with
  | nil => simp at hi
  | cons a t ih =>
    cases i with
    | zero => rw [idxI, if_pos (by simpa [nth] using h)]; rfl
    | succ i =>
      have h0 := hn 0 (by omega)
      rw [idxI, if_neg (by simpa [nth] using h0)]
      rw [ih (k := k + 1) (i := i) (by simpa using hi) (by simpa [nth] using h) (fun j hj => by have := hn (j + 1) (by omega); simpa [nth] using this)]
      congr 1; omega
theorem idxI_no {x : Int} {l : List Int} {k : Nat} (hn : ∀ j, j < l.length → x ≠ nth l j) : idxI x l k = -1 := by
  induction l generalizing k with
  | nil => rfl
  | cons a t ih =>
    have h0 := hn 0 (by simp)
    rw [idxI, if_neg (by simpa [nth] using h0)]
    exact ih (fun j hj => by have := hn (j + 1) (by simpa using hj); simpa [nth] using this)
set_option maxRecDepth 100000 in
theorem iindex_walk {w : World} {av : Value} {a : List Int} {y : Int} (ha : Nv w av a) : Calls Try.prog 72 #[av, .int .i64 y] w fun e w' => e = .returned (.int .i64 (idxI y a 0)) ∧ w' = w := by
  have HA : Hid (Nv w av a) := ha
  obtain ⟨ao, ca, rfl, hla, _⟩ := ha.form
  clear ha
  go_enter Try.func72, Try.ntmps72
  go_wp2_with fail
  go_loopw [8] (fun iv wr => ∃ k : Nat, k ≤ a.length ∧ iv = .int .i64 k ∧ (∀ i, i < k → y ≠ nth a i) ∧ wr = w) (fun iv _ => a.length - (intOf iv).toNat)
  case atStart => exact ⟨0, Nat.zero_le _, rfl, fun i hi => by omega, rfl⟩
  case round =>
    obtain ⟨k, hk, rfl, hall, rfl⟩ := hrel
    have HALL : Hid (∀ i, i < k → y ≠ nth a i) := hall
    clear hall
    by_cases hlt : k < a.length
    · obtain ⟨g, off, rfl, c0⟩ := HA.out.at hlt
      obtain ⟨x, hx⟩ : ∃ x, x = nth a k := ⟨_, rfl⟩
      rw [← hx] at c0
      have HX : Hid (x = nth a k) := hx
      clear hx
      have hlti : (k : Int) < (a.length : Int) := by omega
      by_cases hle : y = x
      · have hq : (y == x) = true := by simp [hle]
        have HBAD : Hid (idxI y a 0 = (k : Int)) := by
          have := idxI_yes (k := 0) hlt (by rw [← HX.out]; exact hle) (fun j hj => HALL.out j hj)
          rw [Nat.zero_add] at this
          exact this
        clear hle
        go_wp2_with fail
        go_ret
        exact ⟨by rw [HBAD.out]; rfl, rfl⟩
      · have hq : (y == x) = false := by simp [hle]
        have HLE : Hid (y ≠ x) := hle
        clear hle
        go_wp2_with fail
        go_roundw
        case rel =>
          refine ⟨k + 1, by omega, by go_num, fun i hi => ?_, by trivial⟩
          by_cases hik : i = k
          · subst hik; rw [← HX.out]; exact HLE.out
          · exact HALL.out i (by omega)
        case measure => simp [intOf]; omega
    · have hnl : ¬ ((k : Int) < (a.length : Int)) := by omega
      have HD : Hid (idxI y a 0 = -1) := idxI_no fun j hj => HALL.out j (by omega)
      go_wp2_with fail
      go_ret
      exact ⟨by rw [HD.out]; rfl, rfl⟩
theorem icontains_walk {w : World} {av : Value} {a : List Int} {y : Int} (ha : Nv w av a) : Calls Try.prog 44 #[av, .int .i64 y] w fun e w' => e = .returned (.bool (a.contains y)) ∧ w' = w := by
  have HA : Hid (Nv w av a) := ha
  have HK : Hid (decide (0 ≤ idxI y a 0) = a.contains y) := idxI_has y a 0
  clear ha
  go_enter Try.func44, Try.ntmps44
  go_wp2_with fail
  refine (iindex_walk HA.out).mono ?_
  rintro e w1 ⟨rfl, hw⟩
  replace hw := hw.symm
  subst hw
  generalize idxI y a 0 = k at HK
  go_wp2_with fail
  go_ret
  exact ⟨by rw [← HK.out]; rfl, rfl⟩


/-- What a maker of picks answers. -/
def PkG (w : World) (p : Yt → Bool) (e : Ending) (w' : World) : Prop := ∃ F, e = .returned F ∧ Pk w' F p ∧ Below w.heap.size w w'
theorem blk_one (w : World) (o : Obj) : (w.alloc o).heap[w.heap.size]? = some o := alloc_at rfl
def inPh (l : List Int) (y : Yt) : Bool := l.contains y.h
theorem inPhase1_walk {w : World} {B : Nat} {pv : Value} {l : List Int} {x : Ye} {t : TypeId} (hB : w.heap[B]? = some (.cells #[pv] t (0, 0))) (hl : Nv w pv l) (hx : Yl w x) :
    Calls Try.prog 43 #[.agg #[.int .i64 x.y.b, .int .i64 x.y.a, .int .i64 x.y.n, .int .i64 x.y.h, .int .i64 x.y.t, x.fv, x.ev], .pointer (some ⟨B, 0, none⟩)] w fun e w' => e = .returned (.bool (inPh l x.y)) ∧ Below w.heap.size w w' := by
  have c0 : w.cell? ⟨B, 0, none⟩ = some pv := by rw [blk_cell hB]; rfl
  have hlt : B < w.heap.size := blk_lt hB
  have hne : ¬ B = w.heap.size := by omega
  obtain ⟨fa, fc, ea, ec, e1, e2⟩ := hx.form
  obtain ⟨pa, pc, rfl, _⟩ := hl.form
  rw [e1, e2]
  obtain ⟨w1, hw1⟩ : ∃ w1, w1 = w.alloc (.cells #[.int .i64 x.y.b, .int .i64 x.y.a, .int .i64 x.y.n, .int .i64 x.y.h, .int .i64 x.y.t, .slice fa x.y.f.length fc, .slice ea x.y.e.length ec] 43) := ⟨_, rfl⟩
  have HW1 : Hid (w1 = w.alloc (.cells #[.int .i64 x.y.b, .int .i64 x.y.a, .int .i64 x.y.n, .int .i64 x.y.h, .int .i64 x.y.t, .slice fa x.y.f.length fc, .slice ea x.y.e.length ec] 43)) := hw1
  have HL : Hid (Nv w1 (.slice pa l.length pc) l) := by show Nv _ _ _; rw [hw1]; exact hl.below (below_alloc _ _)
  have HB1 : Hid (Below w.heap.size w w1) := by show Below _ _ _; rw [hw1]; exact below_alloc _ _
  clear hB hl hx e1 e2 hw1
  go_enter Try.func43, Try.ntmps43
  go_wp2_with fail
  rw [← HW1.out]
  refine (icontains_walk HL.out).mono ?_
  rintro e w9 ⟨he, h9⟩
  rw [show l.contains x.y.h = inPh l x.y from rfl] at he
  subst he
  replace h9 := h9.symm
  subst h9
  go_wp2_with fail
  go_ret
  exact ⟨rfl, HB1.out⟩
theorem inPhase_walk {w : World} {pv : Value} {l : List Int} (hl : Nv w pv l) : Calls Try.prog 24 #[pv] w (PkG w (inPh l)) := by
  have HL : Hid (Nv w pv l) := hl
  have hmf : ∀ (fn : Fn) (first cap : Array Value) (w : World), (Instr.makeFunc fn first cap).run Try.prog w = .ok (.func fn first cap) w := fun _ _ _ _ => rfl
  obtain ⟨pa, pc, rfl, _⟩ := hl.form
  clear hl
  go_enter Try.func24, Try.ntmps24
  go_wp2_with fail
  go_ret
  refine ⟨_, rfl, ⟨_, _, rfl, enters_of Try.func43 (by kernel_rfl) rfl, fun w2 x hb hx => ?_⟩, below_alloc _ _⟩
  exact inPhase1_walk (blk_below (blk_one _ _) hb) ((HL.out.below (below_alloc _ _)).below hb) hx


def overD (g : Int) (y : Yt) : Bool := decide (g ≤ y.t)
theorem overdue1_walk {w : World} {B : Nat} {g : Int} {x : Ye} {t : TypeId} (hB : w.heap[B]? = some (.cells #[.int .i64 g] t (0, 0))) (hx : Yl w x) :
    Calls Try.prog 46 #[.agg #[.int .i64 x.y.b, .int .i64 x.y.a, .int .i64 x.y.n, .int .i64 x.y.h, .int .i64 x.y.t, x.fv, x.ev], .pointer (some ⟨B, 0, none⟩)] w fun e w' => e = .returned (.bool (overD g x.y)) ∧ Below w.heap.size w w' := by
  have c0 : w.cell? ⟨B, 0, none⟩ = some (.int .i64 g) := by rw [blk_cell hB]; rfl
  have hlt : B < w.heap.size := blk_lt hB
  have hne : ¬ B = w.heap.size := by omega
  obtain ⟨fa, fc, ea, ec, e1, e2⟩ := hx.form
  rw [e1, e2]
  clear hB hx e1 e2
  go_enter Try.func46, Try.ntmps46
  go_wp2_with fail
  go_ret
  exact ⟨rfl, below_alloc _ _⟩
theorem overdue_walk {w : World} {g : Int} : Calls Try.prog 26 #[.int .i64 g] w (PkG w (overD g)) := by
  have hmf : ∀ (fn : Fn) (first cap : Array Value) (w : World), (Instr.makeFunc fn first cap).run Try.prog w = .ok (.func fn first cap) w := fun _ _ _ _ => rfl
  go_enter Try.func26, Try.ntmps26
  go_wp2_with fail
  go_ret
  refine ⟨_, rfl, ⟨_, _, rfl, enters_of Try.func46 (by kernel_rfl) rfl, fun w2 x hb hx => ?_⟩, below_alloc _ _⟩
  exact overdue1_walk (blk_below (blk_one _ _) hb) hx


def endAt (l : List Int) (y : Yt) : Bool := decide (y.e = l)
theorem endingAt1_walk {w : World} {B : Nat} {pv : Value} {l : List Int} {x : Ye} {t : TypeId} (hB : w.heap[B]? = some (.cells #[pv] t (0, 0))) (hl : Nv w pv l) (hx : Yl w x) :
    Calls Try.prog 80 #[.agg #[.int .i64 x.y.b, .int .i64 x.y.a, .int .i64 x.y.n, .int .i64 x.y.h, .int .i64 x.y.t, x.fv, x.ev], .pointer (some ⟨B, 0, none⟩)] w fun e w' => e = .returned (.bool (endAt l x.y)) ∧ Below w.heap.size w w' := by
  have c0 : w.cell? ⟨B, 0, none⟩ = some pv := by rw [blk_cell hB]; rfl
  have hlt : B < w.heap.size := blk_lt hB
  have hne : ¬ B = w.heap.size := by omega
  have hxe := hx.e
  obtain ⟨fa, fc, ea, ec, e1, e2⟩ := hx.form
  obtain ⟨pa, pc, rfl, _⟩ := hl.form
  rw [e2] at hxe
  rw [e1, e2]
  obtain ⟨w1, hw1⟩ : ∃ w1, w1 = w.alloc (.cells #[.int .i64 x.y.b, .int .i64 x.y.a, .int .i64 x.y.n, .int .i64 x.y.h, .int .i64 x.y.t, .slice fa x.y.f.length fc, .slice ea x.y.e.length ec] 43) := ⟨_, rfl⟩
  have HW1 : Hid (w1 = w.alloc (.cells #[.int .i64 x.y.b, .int .i64 x.y.a, .int .i64 x.y.n, .int .i64 x.y.h, .int .i64 x.y.t, .slice fa x.y.f.length fc, .slice ea x.y.e.length ec] 43)) := hw1
  have HL : Hid (Nv w1 (.slice pa l.length pc) l) := by show Nv _ _ _; rw [hw1]; exact hl.below (below_alloc _ _)
  have HE : Hid (Nv w1 (.slice ea x.y.e.length ec) x.y.e) := by show Nv _ _ _; rw [hw1]; exact hxe.below (below_alloc _ _)
  have HB1 : Hid (Below w.heap.size w w1) := by show Below _ _ _; rw [hw1]; exact below_alloc _ _
  clear hB hl hx e1 e2 hxe hw1
  go_enter Try.func80, Try.ntmps80
  go_wp2_with fail
  rw [← HW1.out]
  refine (iequal_walk HE.out HL.out).mono ?_
  rintro e w9 ⟨rfl, h9⟩
  have HB9 : Hid (Below w1.heap.size w1 w9) := h9
  clear h9
  go_wp2_with fail
  go_ret
  exact ⟨rfl, HB1.out.trans (HB9.out.mono HB1.out.size)⟩
theorem endingAt_walk {w : World} {pv : Value} {l : List Int} (hl : Nv w pv l) : Calls Try.prog 64 #[pv] w (PkG w (endAt l)) := by
  have HL : Hid (Nv w pv l) := hl
  have hmf : ∀ (fn : Fn) (first cap : Array Value) (w : World), (Instr.makeFunc fn first cap).run Try.prog w = .ok (.func fn first cap) w := fun _ _ _ _ => rfl
  obtain ⟨pa, pc, rfl, _⟩ := hl.form
  clear hl
  go_enter Try.func64, Try.ntmps64
  go_wp2_with fail
  go_ret
  refine ⟨_, rfl, ⟨_, _, rfl, enters_of Try.func80 (by kernel_rfl) rfl, fun w2 x hb hx => ?_⟩, below_alloc _ _⟩
  exact endingAt1_walk (blk_below (blk_one _ _) hb) ((HL.out.below (below_alloc _ _)).below hb) hx


def saidB (B A F : Int) (y : Yt) : Bool := y.b == B && y.a == A && y.n == F
theorem saidBy1_walk {w : World} {P : Nat} {m : Ms} {ev qv pv : Value} {x : Ye} (hP : MX w P m ev qv pv) (hlt : P < w.heap.size) (hx : Yl w x) :
    Calls Try.prog 77 #[.agg #[.int .i64 x.y.b, .int .i64 x.y.a, .int .i64 x.y.n, .int .i64 x.y.h, .int .i64 x.y.t, x.fv, x.ev], .pointer (some ⟨P, 0, none⟩)] w fun e w' => e = .returned (.bool (saidB m.B m.A m.F x.y)) ∧ Below w.heap.size w w' := by
  obtain ⟨c0, c1, c2, c3, c4, c5, c6, c7, c8, _⟩ := hP
  have hne : ¬ P = w.heap.size := by omega
  obtain ⟨fa, fc, ea, ec, e1, e2⟩ := hx.form
  rw [e1, e2]
  unfold saidB
  clear hx e1 e2 c0 c2 c5 c6 c7 c8
  by_cases h1 : x.y.b = m.B
  · have q1 : (x.y.b == m.B) = true := by simp [h1]
    by_cases h2 : x.y.a = m.A
    · have q2 : (x.y.a == m.A) = true := by simp [h2]
      rw [q1, q2]
      clear h1 h2
      go_enter Try.func77, Try.ntmps77
      go_wp2_with fail
      go_ret
      exact ⟨rfl, below_alloc _ _⟩
    · have q2 : (x.y.a == m.A) = false := by simp [h2]
      rw [q1, q2]
      clear h1
      go_enter Try.func77, Try.ntmps77
      go_wp2_with fail
      go_ret
      exact ⟨rfl, below_alloc _ _⟩
  · have q1 : (x.y.b == m.B) = false := by simp [h1]
    rw [q1]
    go_enter Try.func77, Try.ntmps77
    go_wp2_with fail
    go_ret
    exact ⟨rfl, below_alloc _ _⟩
theorem saidBy_walk {w : World} {m : Ms} {ev qv pv : Value} (hm : ML w m ev qv pv) : Calls Try.prog 60 #[.agg #[.int .i64 m.K, .int .i64 m.F, .int .i64 m.T, .int .i64 m.B, .int .i64 m.A, .int .i64 m.C, ev, qv, pv]] w (PkG w (saidB m.B m.A m.F)) := by
  have hmf : ∀ (fn : Fn) (first cap : Array Value) (w : World), (Instr.makeFunc fn first cap).run Try.prog w = .ok (.func fn first cap) w := fun _ _ _ _ => rfl
  obtain ⟨ea, ec, rfl, _⟩ := hm.e
  obtain ⟨qa, qc, rfl, _⟩ := hm.q
  obtain ⟨⟨pa, pc, rfl, _⟩, _⟩ := hm.p
  clear hm
  go_enter Try.func60, Try.ntmps60
  go_wp2_with fail
  go_ret
  refine ⟨_, rfl, ⟨_, _, rfl, enters_of Try.func77 (by kernel_rfl) rfl, fun w2 x hb hx => ?_⟩, below_alloc _ _⟩
  have hlt : w.heap.size < (w.alloc (Obj.cells #[.int .i64 m.K, .int .i64 m.F, .int .i64 m.T, .int .i64 m.B, .int .i64 m.A, .int .i64 m.C, .slice ea m.E.length ec, .slice qa (ib m.Q).length qc, .slice pa m.P.length pc] 41)).heap.size := by simp
  exact saidBy1_walk ((mx_new w m _ _ _).belowB hb hlt) (Nat.lt_of_lt_of_le hlt hb.size) hx
end Go.Proofs.Ytpndafieknddcaa

namespace Go.Proofs.Ytpndafieknddcaa

open Ieee Go.RowKit



def rchB (l : List Int) (q : Int) (y : Yt) : Bool := fwdB y.f l && decide (∀ i, i < l.length → nth l i - nth y.f i ≤ q)
set_option maxRecDepth 100000 in
theorem reaching1_walk {w : World} {B C : Nat} {pv : Value} {l : List Int} {q : Int} {x : Ye} {t t' : TypeId} (hB : w.heap[B]? = some (.cells #[pv] t (0, 0))) (hC : w.heap[C]? = some (.cells #[.int .i64 q] t' (0, 0))) (hl : Nv w pv l) (hx : Yl w x) :
    Calls Try.prog 78 #[.agg #[.int .i64 x.y.b, .int .i64 x.y.a, .int .i64 x.y.n, .int .i64 x.y.h, .int .i64 x.y.t, x.fv, x.ev], .pointer (some ⟨B, 0, none⟩), .pointer (some ⟨C, 0, none⟩)] w fun e w' => e = .returned (.bool (rchB l q x.y)) ∧ Below w.heap.size w w' := by
  have hlt : B < w.heap.size := blk_lt hB
  have hne : ¬ B = w.heap.size := by omega
  have hlc : C < w.heap.size := blk_lt hC
  have hnc : ¬ C = w.heap.size := by omega
  have hxf := hx.f
  obtain ⟨fa, fc, ea, ec, e1, e2⟩ := hx.form
  obtain ⟨pa, pc, rfl, hpl, _⟩ := hl.form
  rw [e1] at hxf
  rw [e1, e2]
  obtain ⟨w1, hw1⟩ : ∃ w1, w1 = w.alloc (.cells #[.int .i64 x.y.b, .int .i64 x.y.a, .int .i64 x.y.n, .int .i64 x.y.h, .int .i64 x.y.t, .slice fa x.y.f.length fc, .slice ea x.y.e.length ec] 43) := ⟨_, rfl⟩
  have HW1 : Hid (w1 = w.alloc (.cells #[.int .i64 x.y.b, .int .i64 x.y.a, .int .i64 x.y.n, .int .i64 x.y.h, .int .i64 x.y.t, .slice fa x.y.f.length fc, .slice ea x.y.e.length ec] 43)) := hw1
  have hb1 : Below w.heap.size w w1 := by rw [hw1]; exact below_alloc _ _
  have HB1 : Hid (Below w.heap.size w w1) := hb1
  have hl1 := hl.below hb1
  have HL : Hid (Nv w1 (.slice pa l.length pc) l) := hl1
  have hf1 := hxf.below hb1
  have HF : Hid (Nv w1 (.slice fa x.y.f.length fc) x.y.f) := hf1
  have HX0 : Hid (w1.heap[w.heap.size]? = some (.cells #[.int .i64 x.y.b, .int .i64 x.y.a, .int .i64 x.y.n, .int .i64 x.y.h, .int .i64 x.y.t, .slice fa x.y.f.length fc, .slice ea x.y.e.length ec] 43 (0, 0))) := by show _ = _; rw [hw1]; exact alloc_at rfl
  have HBB : Hid (w1.heap[B]? = some (.cells #[.slice pa l.length pc] t (0, 0))) := blk_below hB hb1
  have HCC : Hid (w1.heap[C]? = some (.cells #[.int .i64 q] t' (0, 0))) := blk_below hC hb1
  have HF0 : Hid (∀ i, i < x.y.f.length → 0 ≤ nth x.y.f i) := hx.f0
  have cB0 : w.cell? ⟨B, 0, none⟩ = some (.slice pa l.length pc) := by rw [blk_cell hB]; rfl
  have cB1 : w1.cell? ⟨B, 0, none⟩ = some (.slice pa l.length pc) := by rw [blk_cell HBB.out]; rfl
  have HP64 : Hid (∀ i, i < l.length → -9223372036854775808 ≤ nth l i ∧ nth l i < 9223372036854775808) := fun i hi => hl.2 _ (by unfold nth; rw [List.getD_eq_getElem?_getD, List.getElem?_eq_getElem hi]; exact List.getElem_mem hi)
  clear hB hC hl hx e1 e2 hxf hw1 hl1 hf1
  go_enter Try.func78, Try.ntmps78
  go_wp2_with fail
  rw [← HW1.out]
  refine (fwd_walk HF.out HL.out).mono ?_
  rintro e w2 ⟨rfl, h2⟩
  have HB2 : Hid (Below w1.heap.size w1 w2) := h2
  have cB2 : w2.cell? ⟨B, 0, none⟩ = some (.slice pa l.length pc) := by rw [blk_cell (blk_below HBB.out h2)]; rfl
  have cC2 : w2.cell? ⟨C, 0, none⟩ = some (.int .i64 q) := by rw [blk_cell (blk_below HCC.out h2)]; rfl
  have cX2 : w2.cell? ⟨w.heap.size, 5, none⟩ = some (.slice fa x.y.f.length fc) := by rw [blk_cell (blk_below HX0.out h2)]; rfl
  clear h2 hb1 cB0 cB1
  by_cases hf : Fwd x.y.f l
  rotate_left
  · rw [Fwd.no hf]
    have HR : Hid (rchB l q x.y = false) := by show _ = _; unfold rchB; rw [Fwd.no hf]; rfl
    clear hf
    go_wp2_with fail
    go_ret
    exact ⟨by rw [HR.out]; rfl, HB1.out.trans (HB2.out.mono HB1.out.size)⟩
  rw [hf.yes]
  have HFW : Hid (Fwd x.y.f l) := hf
  clear hf
  go_wp2_with fail
  go_loopw [14] (fun iv wr => ∃ k : Nat, k ≤ l.length ∧ iv = .int .i64 k ∧ (∀ i, i < k → nth l i - nth x.y.f i ≤ q) ∧ Below w2.heap.size w2 wr) (fun iv _ => l.length - (intOf iv).toNat)
  case atStart => exact ⟨0, Nat.zero_le _, rfl, fun i hi => by omega, below_same _⟩
  case round =>
    obtain ⟨k, hk, rfl, hall, hB⟩ := hrel
    have HALL : Hid (∀ i, i < k → nth l i - nth x.y.f i ≤ q) := hall
    have HW : Hid (Below w2.heap.size w2 wr) := hB
    have hbr : Below w1.heap.size w1 wr := HB2.out.trans (hB.mono HB2.out.size)
    clear hall
    by_cases hklt : k < l.length
    · have hkf : k < x.y.f.length := by have := HFW.out.1; omega
      obtain ⟨g, off, rfl, d0⟩ := (HL.out.below hbr).at hklt
      obtain ⟨f, foff, rfl, f0⟩ := (HF.out.below hbr).at hkf
      have cCr : wr.cell? ⟨C, 0, none⟩ = some (.int .i64 q) := by rw [blk_cell (blk_below HCC.out hbr)]; rfl
      have cXr : wr.cell? ⟨w.heap.size, 5, none⟩ = some (.slice (some ⟨f, foff, none⟩) x.y.f.length fc) := by rw [blk_cell (blk_below HX0.out hbr)]; rfl
      obtain ⟨u, hu⟩ : ∃ u, u = nth l k := ⟨_, rfl⟩
      obtain ⟨v, hv⟩ : ∃ v, v = nth x.y.f k := ⟨_, rfl⟩
      have h64 := HP64.out k hklt
      have hv0 := HF0.out k hkf
      have huv := HFW.out.2 k hkf
      rw [← hu] at d0 h64 huv
      rw [← hv] at f0 hv0 huv
      have HU : Hid (u = nth l k) := hu
      have HV : Hid (v = nth x.y.f k) := hv
      have hwr : IntKind.i64.wrap (u - v) = u - v := by
        rw [IntKind.wrap_i64]; omega
      have hlti : (k : Int) < (l.length : Int) := by omega
      have hltf : (k : Int) < (x.y.f.length : Int) := by omega
      clear hu hv hbr hB h64 hv0 huv
      by_cases hle : q < u - v
      · have hq : decide (q < u - v) = true := decide_eq_true hle
        have HR : Hid (rchB l q x.y = false) := by
          show _ = _
          unfold rchB
          rw [decide_eq_false (fun h => by have := h k hklt; rw [← HU.out, ← HV.out] at this; omega)]
          simp
        clear hle
        go_wp2_with fail
        go_quiet (fail)
        go_wp2_with fail
        go_ret
        exact ⟨by rw [HR.out]; rfl, HB1.out.trans ((HB2.out.trans ((below_trans HW.out (below_drewN _ _)).mono HB2.out.size)).mono HB1.out.size)⟩
      · have hq : decide (q < u - v) = false := decide_eq_false hle
        have HLE : Hid (u - v ≤ q) := by show _ ≤ _; omega
        clear hle
        go_wp2_with fail
        go_quiet (fail)
        go_wp2_with fail
        go_roundw
        case rel =>
          refine ⟨k + 1, by omega, by go_num, fun i hi => ?_, below_trans HW.out (below_drewN _ _)⟩
          by_cases hik : i = k
          · subst hik; rw [← HU.out, ← HV.out]; exact HLE.out
          · exact HALL.out i (by omega)
        case measure => simp [intOf]; omega
    · have hnl : ¬ ((k : Int) < (l.length : Int)) := by omega
      have HR : Hid (rchB l q x.y = true) := by
        show _ = _
        unfold rchB
        rw [HFW.out.yes, decide_eq_true (fun i hi => HALL.out i (by omega))]; rfl
      go_wp2_with fail
      go_ret
      exact ⟨by rw [HR.out]; rfl, HB1.out.trans ((HB2.out.trans (HW.out.mono HB2.out.size)).mono HB1.out.size)⟩
theorem reaching_walk {w : World} {pv : Value} {l : List Int} {q : Int} (hl : Nv w pv l) : Calls Try.prog 61 #[pv, .int .i64 q] w (PkG w (rchB l q)) := by
  have HL : Hid (Nv w pv l) := hl
  have hmf : ∀ (fn : Fn) (first cap : Array Value) (w : World), (Instr.makeFunc fn first cap).run Try.prog w = .ok (.func fn first cap) w := fun _ _ _ _ => rfl
  obtain ⟨pa, pc, rfl, _⟩ := hl.form
  clear hl
  go_enter Try.func61, Try.ntmps61
  go_wp2_with fail
  go_ret
  refine ⟨_, rfl, ⟨_, _, rfl, enters_of Try.func78 (by kernel_rfl) rfl, fun w2 x hb hx => ?_⟩, below_trans (below_alloc _ _) (below_alloc _ _)⟩
  exact reaching1_walk (blk_below (alloc_old (blk_one _ _)) hb) (blk_below (alloc_at (by simp)) hb) ((HL.out.below (below_trans (below_alloc _ _) (below_alloc _ _))).below hb) hx


/-- v is a slice of function values that pick by ps. -/
def Fl (w : World) (v : Value) (ps : List (Yt → Bool)) : Prop := ∃ ao cap, v = .slice ao ps.length cap ∧ ps.length ≤ cap ∧ cap ≤ maxLen ∧ ∀ i (hi : i < ps.length), ∃ b off, ao = some ⟨b, off, none⟩ ∧ b < w.heap.size ∧ ∃ F, w.cell? ⟨b, off + i, none⟩ = some F ∧ Pk w F ps[i]
theorem Fl.below {w w' : World} {v : Value} {ps : List (Yt → Bool)} (h : Fl w v ps) (hb : Below w.heap.size w w') : Fl w' v ps := by
  obtain ⟨ao, cap, e, h1, h2, h3⟩ := h
  refine ⟨ao, cap, e, h1, h2, fun i hi => ?_⟩
  obtain ⟨b, off, e1, h4, F, h5, h6⟩ := h3 i hi
  exact ⟨b, off, e1, Nat.lt_of_lt_of_le h4 hb.size, F, by rw [hb.cell (p := ⟨b, off + i, none⟩) h4]; exact h5, h6.below hb⟩
def allB (ps : List (Yt → Bool)) (y : Yt) : Bool := ps.all fun q => q y
set_option maxRecDepth 100000 in
theorem all1_walk {w : World} {B : Nat} {v : Value} {ps : List (Yt → Bool)} {x : Ye} {t : TypeId} (hB : w.heap[B]? = some (.cells #[v] t (0, 0))) (hl : Fl w v ps) (hx : Yl w x) :
    Calls Try.prog 76 #[.agg #[.int .i64 x.y.b, .int .i64 x.y.a, .int .i64 x.y.n, .int .i64 x.y.h, .int .i64 x.y.t, x.fv, x.ev], .pointer (some ⟨B, 0, none⟩)] w fun e w' => e = .returned (.bool (allB ps x.y)) ∧ Below w.heap.size w w' := by
  have c0 : w.cell? ⟨B, 0, none⟩ = some v := by rw [blk_cell hB]; rfl
  have hlt : B < w.heap.size := blk_lt hB
  have hne : ¬ B = w.heap.size := by omega
  obtain ⟨fa, fc, ea, ec, e1, e2⟩ := hx.form
  have HX : Hid (Yl w x) := hx
  have HE1 : Hid (x.fv = .slice fa x.y.f.length fc) := e1
  have HE2 : Hid (x.ev = .slice ea x.y.e.length ec) := e2
  have HF : Hid (Fl w v ps) := hl
  obtain ⟨pa, pc, rfl, hpc, hpm, _⟩ := hl
  have hlm : (ps.length : Int) ≤ 9223372036854775807 := by unfold maxLen at hpm; omega
  rw [e1, e2]
  obtain ⟨w1, hw1⟩ : ∃ w1, w1 = w.alloc (.cells #[.int .i64 x.y.b, .int .i64 x.y.a, .int .i64 x.y.n, .int .i64 x.y.h, .int .i64 x.y.t, .slice fa x.y.f.length fc, .slice ea x.y.e.length ec] 43) := ⟨_, rfl⟩
  have HW1 : Hid (w1 = w.alloc (.cells #[.int .i64 x.y.b, .int .i64 x.y.a, .int .i64 x.y.n, .int .i64 x.y.h, .int .i64 x.y.t, .slice fa x.y.f.length fc, .slice ea x.y.e.length ec] 43)) := hw1
  have hb1 : Below w.heap.size w w1 := by rw [hw1]; exact below_alloc _ _
  have HB1 : Hid (Below w.heap.size w w1) := hb1
  have HX0 : Hid (w1.heap[w.heap.size]? = some (.cells #[.int .i64 x.y.b, .int .i64 x.y.a, .int .i64 x.y.n, .int .i64 x.y.h, .int .i64 x.y.t, .slice fa x.y.f.length fc, .slice ea x.y.e.length ec] 43 (0, 0))) := by show _ = _; rw [hw1]; exact alloc_at rfl
  clear hB hx e1 e2 hw1 hb1
  go_enter Try.func76, Try.ntmps76
  go_wp2_with fail
  rw [← HW1.out]
  go_loopw [8] (fun iv wr => ∃ k : Nat, k ≤ ps.length ∧ iv = .int .i64 k ∧ (∀ i (hi : i < ps.length), i < k → ps[i] x.y = true) ∧ Below w1.heap.size w1 wr) (fun iv _ => ps.length - (intOf iv).toNat)
  case atStart => exact ⟨0, Nat.zero_le _, rfl, fun i _ hi => by omega, below_same _⟩
  case round =>
    obtain ⟨k, hk, rfl, hall, hB⟩ := hrel
    have HALL : Hid (∀ i (hi : i < ps.length), i < k → ps[i] x.y = true) := hall
    have HW : Hid (Below w1.heap.size w1 wr) := hB
    have hbr : Below w.heap.size w wr := HB1.out.trans (hB.mono HB1.out.size)
    have HBR : Hid (Below w.heap.size w wr) := hbr
    clear hall
    by_cases hklt : k < ps.length
    · obtain ⟨_, _, e9, _, _, h9⟩ := HF.out.below hbr
      cases e9
      obtain ⟨g, off, rfl, hgl, F, d0, hP⟩ := h9 k hklt
      obtain ⟨n, cs, rfl, hen, hcall⟩ := hP
      obtain ⟨p, hp⟩ : ∃ p, p = ps[k] := ⟨_, rfl⟩
      rw [← hp] at hcall
      have HP : Hid (p = ps[k]) := hp
      have x0 : wr.cell? ⟨w.heap.size, 0, none⟩ = some (.int .i64 x.y.b) := by rw [blk_cell (blk_below HX0.out hB)]; rfl
      have x1 : wr.cell? ⟨w.heap.size, 1, none⟩ = some (.int .i64 x.y.a) := by rw [blk_cell (blk_below HX0.out hB)]; rfl
      have x2 : wr.cell? ⟨w.heap.size, 2, none⟩ = some (.int .i64 x.y.n) := by rw [blk_cell (blk_below HX0.out hB)]; rfl
      have x3 : wr.cell? ⟨w.heap.size, 3, none⟩ = some (.int .i64 x.y.h) := by rw [blk_cell (blk_below HX0.out hB)]; rfl
      have x4 : wr.cell? ⟨w.heap.size, 4, none⟩ = some (.int .i64 x.y.t) := by rw [blk_cell (blk_below HX0.out hB)]; rfl
      have x5 : wr.cell? ⟨w.heap.size, 5, none⟩ = some (.slice fa x.y.f.length fc) := by rw [blk_cell (blk_below HX0.out hB)]; rfl
      have x6 : wr.cell? ⟨w.heap.size, 6, none⟩ = some (.slice ea x.y.e.length ec) := by rw [blk_cell (blk_below HX0.out hB)]; rfl
      have HCX : Hid (Calls Try.prog n (#[.agg #[.int .i64 x.y.b, .int .i64 x.y.a, .int .i64 x.y.n, .int .i64 x.y.h, .int .i64 x.y.t, x.fv, x.ev]] ++ cs) wr fun e w'' => e = .returned (.bool (p x.y)) ∧ Below wr.heap.size wr w'') := hcall wr x (below_same _) (HX.out.below hbr)
      rw [HE1.out, HE2.out] at HCX
      have hlti : (k : Int) < (ps.length : Int) := by omega
      clear hcall hp hbr hB h9
      by_cases hpx : p x.y = true
      · have HQ : Hid (p x.y = true) := hpx
        clear hpx
        go_wp2_with fail
        refine HCX.out.mono ?_
        rintro e w9 ⟨rfl, h9⟩
        have HB9 : Hid (Below w1.heap.size w1 w9) := HW.out.trans (h9.mono HW.out.size)
        clear h9
        rw [HQ.out]
        go_wp2_with fail
        go_roundw
        case rel =>
          refine ⟨k + 1, by omega, by go_num, fun i hi hik => ?_, HB9.out⟩
          by_cases hik2 : i = k
          · subst hik2; rw [← HP.out]; exact HQ.out
          · exact HALL.out i hi (by omega)
        case measure => simp [intOf]; omega
      · have HQ : Hid (p x.y = false) := by show _ = _; simpa using hpx
        have HR : Hid (allB ps x.y = false) := by
          show _ = _
          unfold allB
          rw [List.all_eq_false]
          exact ⟨ps[k], List.getElem_mem hklt, by rw [← HP.out, HQ.out]; simp⟩
        clear hpx
        go_wp2_with fail
        refine HCX.out.mono ?_
        rintro e w9 ⟨rfl, h9⟩
        have HB9 : Hid (Below w1.heap.size w1 w9) := HW.out.trans (h9.mono HW.out.size)
        clear h9
        rw [HQ.out]
        go_wp2_with fail
        go_ret
        exact ⟨by rw [HR.out]; rfl, HB1.out.trans (HB9.out.mono HB1.out.size)⟩
    · have hnl : ¬ ((k : Int) < (ps.length : Int)) := by omega
      have HR : Hid (allB ps x.y = true) := by
        show _ = _
        unfold allB
        rw [List.all_eq_true]
        intro q hq
        obtain ⟨i, hi, rfl⟩ := List.mem_iff_getElem.1 hq
        exact HALL.out i hi (by omega)
      go_wp2_with fail
      go_ret
      exact ⟨by rw [HR.out]; rfl, HBR.out⟩
theorem all_walk {w : World} {v : Value} {ps : List (Yt → Bool)} (hl : Fl w v ps) : Calls Try.prog 59 #[v] w (PkG w (allB ps)) := by
  have HL : Hid (Fl w v ps) := hl
  have hmf : ∀ (fn : Fn) (first cap : Array Value) (w : World), (Instr.makeFunc fn first cap).run Try.prog w = .ok (.func fn first cap) w := fun _ _ _ _ => rfl
  obtain ⟨pa, pc, rfl, _⟩ := hl
  go_enter Try.func59, Try.ntmps59
  go_wp2_with fail
  go_ret
  refine ⟨_, rfl, ⟨_, _, rfl, enters_of Try.func76 (by kernel_rfl) rfl, fun w2 x hb hx => ?_⟩, below_alloc _ _⟩
  exact all1_walk (blk_below (blk_one _ _) hb) ((HL.out.below (below_alloc _ _)).below hb) hx
end Go.Proofs.Ytpndafieknddcaa

namespace Go.Proofs.Ytpndafieknddcaa

open Ieee Go.RowKit



theorem grown_setK (w : World) (g i : Nat) (u : Value) : w.grownBy (w.setCell ⟨g, i, none⟩ u) (some g) :=
  ⟨rfl, rfl, rfl, by simp [go_sem], fun k hk hne => by rw [Below.heap_setCell w _ _ k (by rintro rfl; exact hne rfl)]⟩
theorem ch_set (w : World) (g i : Nat) (u : Value) : Ch (fun x => x = g) w (w.setCell ⟨g, i, none⟩ u) := Ch.of_grown (grown_setK w g i u) (fun x hx => by cases hx; rfl)
theorem ch_sets (g : Nat) : ∀ (vs : List Value) (o : Nat) (w : World), Ch (fun x => x = g) w (w.setCells g o vs)
  | [], _, w => Ch.refl _ w
  | v :: r, o, w => (ch_set w g o v).self (ch_sets g r (o + 1) _)
theorem own_setY {w : World} {B e s g n cap o : Nat} {xs : List Value} (u : Value) (h : w.ownsRow B e s (.slice (some ⟨g, 0, none⟩) n cap) n xs) : (w.setCell ⟨g, o, none⟩ u).ownsRow B e s (.slice (some ⟨g, 0, none⟩) n cap) n (xs.set o u) := by
  obtain ⟨h1, h2⟩ := h
  rcases h2 with ⟨h3, _⟩ | ⟨g', cap', cur, e1, hg, hh, hnc, hcm, hcs, htk⟩
  · cases h3
  · cases e1
    refine ⟨by rw [List.length_set]; exact h1, .inr ⟨g, cap, cur.setIfInBounds o u, rfl, hg, ?_, hnc, hcm, by rw [Array.size_setIfInBounds]; exact hcs, ?_⟩⟩
    · rw [Sort.setCell_eq]
      simp [Sort.mapBlock, Array.getElem?_modify, hh, Sort.onCells]
    · rw [Array.toList_setIfInBounds, List.take_set, htk]
def setL (xs : List Value) : Nat → List Value → List Value
  | _, [] => xs
  | o, v :: r => setL (xs.set o v) (o + 1) r
theorem setL_len : ∀ (vs xs : List Value) (o : Nat), (setL xs o vs).length = xs.length
  | [], _, _ => rfl
  | v :: r, xs, o => by rw [setL, setL_len r]; simp
theorem setL_out : ∀ (vs xs : List Value) (o t : Nat), t < o ∨ o + vs.length ≤ t → (setL xs o vs)[t]? = xs[t]?
  | [], _, _, _, _ => rfl
  | v :: r, xs, o, t, h => by
    simp only [List.length_cons] at h
    rw [setL, setL_out r _ _ _ (by omega), List.getElem?_set_ne (by omega)]
theorem setL_in : ∀ (vs xs : List Value) (o t : Nat), o ≤ t → t < o + vs.length → t < xs.length → (setL xs o vs)[t]? = vs[t - o]?
  | [], _, _, _, _, h, _ => by simp at h; omega
  | v :: r, xs, o, t, h1, h2, h3 => by
    simp only [List.length_cons] at h2
    rw [setL]
    by_cases e : t = o
    · subst e
      rw [setL_out r _ _ _ (by omega), List.getElem?_set_self h3]; simp
    · rw [setL_in r _ _ _ (by omega) (by omega) (by simpa using h3), show t - o = (t - (o + 1)) + 1 by omega, List.getElem?_cons_succ]
theorem own_sets {B e s g n cap : Nat} : ∀ (vs : List Value) (o : Nat) (w : World) (xs : List Value), w.ownsRow B e s (.slice (some ⟨g, 0, none⟩) n cap) n xs → (w.setCells g o vs).ownsRow B e s (.slice (some ⟨g, 0, none⟩) n cap) n (setL xs o vs)
  | [], _, _, _, h => h
  | v :: r, o, _, _, h => own_sets r (o + 1) _ _ (own_setY v h)
theorem own_less {w : World} {B e s g n cap m : Nat} {xs : List Value} (h : w.ownsRow B e s (.slice (some ⟨g, 0, none⟩) n cap) n xs) (hm : m ≤ n) : w.ownsRow B e s (.slice (some ⟨g, 0, none⟩) m cap) m (xs.take (m * s)) := by
  obtain ⟨h1, h2⟩ := h
  rcases h2 with ⟨h3, _⟩ | ⟨g', cap', cur, e1, hg, hh, hnc, hcm, hcs, htk⟩
  · cases h3
  · cases e1
    have hms : m * s ≤ n * s := Nat.mul_le_mul_right s hm
    refine ⟨by rw [List.length_take, h1]; omega, .inr ⟨g, cap, cur, rfl, hg, hh, by omega, hcm, hcs, ?_⟩⟩
    rw [← htk, List.take_take]
    congr 1; omega
theorem flatY_take (L : List Ye) (i : Nat) (h : i ≤ L.length) : flatY (L.take i) = (flatY L).take (i * 7) := by
  have := flatY_app (L.take i) (L.drop i)
  rw [List.take_append_drop] at this
  conv => rhs; rw [this]
  rw [List.take_append_of_le_length (by rw [flatY_len, List.length_take]; omega)]
  exact (List.take_of_length_le (by rw [flatY_len, List.length_take]; omega)).symm
theorem flatY_drop (L : List Ye) (i : Nat) (h : i ≤ L.length) : flatY (L.drop i) = (flatY L).drop (i * 7) := by
  have := flatY_app (L.take i) (L.drop i)
  rw [List.take_append_drop] at this
  have hl : (flatY (L.take i)).length = i * 7 := by rw [flatY_len, List.length_take]; omega
  conv => rhs; rw [this]
  have h0 : (flatY (L.take i)).drop (i * 7) = [] := List.drop_of_length_le (by omega)
  rw [List.drop_append, h0, hl, Nat.sub_self]; rfl
def delY (L : List Ye) (i j : Nat) : List Ye := L.take i ++ L.drop j
theorem delY_len {L : List Ye} {i j : Nat} (hi : i ≤ j) (hj : j ≤ L.length) : (delY L i j).length = i + (L.length - j) := by unfold delY; simp; omega
/-- What two writes over a row leave. -/
theorem del_row {L : List Ye} {i j : Nat} {zs : List Value} (hi : i < j) (hj : j ≤ L.length) :
    (setL (setL (flatY L) (i * 7) (flatY (L.drop j))) ((i + (L.length - j)) * 7) zs).take ((i + (L.length - j)) * 7) = flatY (delY L i j) := by
  have hd : (flatY (L.drop j)).length = (L.length - j) * 7 := by rw [flatY_len, List.length_drop]
  have ht : (flatY (L.take i)).length = i * 7 := by rw [flatY_len, List.length_take]; omega
  have hmul : (i + (L.length - j)) * 7 = i * 7 + (L.length - j) * 7 := Nat.add_mul _ _ _
  apply List.ext_getElem?
  intro t
  rw [List.getElem?_take]
  split
  · rename_i hlt
    rw [setL_out _ _ _ _ (.inl hlt)]
    unfold delY
    rw [flatY_app]
    by_cases h1 : t < i * 7
    · rw [setL_out _ _ _ _ (.inl h1), List.getElem?_append_left (by omega), flatY_take L i (by omega), List.getElem?_take, if_pos h1]
    · rw [setL_in _ _ _ _ (by omega) (by omega) (by rw [flatY_len]; omega), List.getElem?_append_right (by omega), ht]
  · rename_i hge
    rw [List.getElem?_eq_none]
    rw [flatY_len, delY_len (by omega) hj]; omega
theorem info_try : (Try.prog.info? 43).map (fun i => (i.zero, i.size, i.bytes)) = some (some (.agg #[.int .i64 0, .int .i64 0, .int .i64 0, .int .i64 0, .int .i64 0, .slice none 0 0, .slice none 0 0]), 7, 88) := by kernel_rfl
theorem info_partsY {t : TypeId} {z : Value} {s b : Nat} (h : (Try.prog.info? t).map (fun i => (i.zero, i.size, i.bytes)) = some (some z, s, b)) : ∃ i0, Try.prog.info? t = some i0 ∧ i0.zero = some z ∧ i0.size = s ∧ i0.bytes = b := by
  cases hi : Try.prog.info? t with
  | none => rw [hi] at h; cases h
  | some i0 => rw [hi] at h; simp at h; exact ⟨i0, rfl, h.1, h.2.1, h.2.2⟩
def zeroY : Array Value := #[.int .i64 0, .int .i64 0, .int .i64 0, .int .i64 0, .int .i64 0, .slice none 0 0, .slice none 0 0]
theorem zcells_len (n : Nat) : (Builtin.zeroCells zeroY n).toList.length = n * 7 := by
  simp [Builtin.zeroCells, zeroY]
theorem zcells_one (n : Nat) : ∀ u ∈ (Builtin.zeroCells zeroY n).toList, u.oneCell' = true := by
  intro u hu
  simp only [Builtin.zeroCells, zeroY] at hu
  obtain ⟨i, hi, rfl⟩ := List.mem_iff_getElem.1 hu
  simp
  have h7 : i % 7 < 7 := Nat.mod_lt _ (by omega)
  generalize i % 7 = r at h7
  have : r = 0 ∨ r = 1 ∨ r = 2 ∨ r = 3 ∨ r = 4 ∨ r = 5 ∨ r = 6 := by omega
  rcases this with rfl | rfl | rfl | rfl | rfl | rfl | rfl <;> rfl
theorem run_clearY (w : World) (ty : TypeId) (b o n c : Nat) (hn : 0 < n)
    (hc : ∀ j, j < n * 7 → (w.cell? ⟨b, o + j, none⟩).isSome = true) (hf : ∀ j, j < n * 7 → w.frozen? ⟨b, o + j, none⟩ = false) :
    (Builtin.clear_ #[44] ty #[.slice (some ⟨b, o, none⟩) n c]).run Try.prog w = .ok (.tuple #[]) (w.setCells b o (Builtin.zeroCells zeroY n).toList) := by
  have hv : ∀ w, (zeroValue 43).run Try.prog w = .ok (.agg zeroY) w := fun w => by
    have hz : Try.t43.zero = some (.agg zeroY) := by kernel_rfl
    simp [zeroValue, hz]
  have hst := run_storeCells_cells (P := Try.prog) b o (Builtin.zeroCells zeroY n).toList 0 w (by rw [zcells_len]; simpa using hc) (by rw [zcells_len]; simpa using hf) (zcells_one n)
  simp only [Nat.add_zero] at hst
  obtain ⟨m, rfl⟩ : ∃ m, n = m + 1 := ⟨n - 1, by omega⟩
  have hcl : (Value.agg zeroY).cells = zeroY := rfl
  simp only [Builtin.clear_]
  simp [run_underlying Try.underlying44, hv, hcl, hst]


set_option maxRecDepth 100000 in
theorem delete_walk {w : World} {v : Value} {L : List Ye} {i j : Nat} (hr : Yr w v L) (hi : i < j) (hj : j ≤ L.length) :
    Calls Try.prog 47 #[v, .int .i64 i, .int .i64 j] w fun e w' => ∃ g cap, v = .slice (some ⟨g, 0, none⟩) L.length cap ∧ e = .returned (.slice (some ⟨g, 0, none⟩) (i + (L.length - j)) cap) ∧ w'.ownsRow 0 43 7 (.slice (some ⟨g, 0, none⟩) (i + (L.length - j)) cap) (i + (L.length - j)) (flatY (delY L i j)) ∧ Ch (fun x => x = g) w w' := by
  obtain ⟨i0, hi0, hz0, hz1, hz2⟩ := info_partsY info_try
  have HR : Hid (w.ownsRow 0 43 7 v L.length (flatY L)) := hr.row
  obtain ⟨g, cap, rfl, hlc, hcm, _, hgl⟩ := row_formY hr.row (by omega)
  have HZ : Hid (∀ k, w.frozen? ⟨g, k, none⟩ = false) := fun k => by
    rcases HR.out.2 with ⟨h9, _⟩ | ⟨g', cap', cur, e1, hg, hh, _⟩
    · cases h9
    · cases e1; exact blk_soft hh k
  have HS : Hid (∀ k, k < L.length * 7 → (w.cell? ⟨g, k, none⟩).isSome = true) := fun k hk => by
    rw [(own_cellY (j := k) (u := (flatY L)[k]'(by rw [flatY_len]; exact hk)) HR.out (by rw [List.getElem?_eq_getElem])).1]; rfl
  have HLS : Hid (∀ x ∈ L, Yl w x) := hr.ls
  have hlm : (L.length : Int) ≤ 9223372036854775807 := by unfold maxLen at hcm; omega
  have hcmi : (cap : Int) ≤ 9223372036854775807 := by unfold maxLen at hcm; omega
  have hij : ((i : Int) == (j : Int)) = false := by simp; omega
  obtain ⟨news, hnews⟩ : ∃ news, news = flatY (L.drop j) := ⟨_, rfl⟩
  have hlen : news.length = (L.length - j) * 7 := by rw [hnews, flatY_len, List.length_drop]
  have hget : ∀ t, t < (L.length - j) * 7 → news[t]? = (flatY L)[j * 7 + t]? := by
    intro t ht
    rw [hnews, flatY_drop L j hj, List.getElem?_drop]
  obtain ⟨A, hA, hsrc⟩ : ∃ A : Addr, (if cap = j then some (⟨g, 0, none⟩ : Addr) else some ⟨g, j * 7, none⟩) = some A ∧ Hid (∀ t u, news[t]? = some u → w.drew.cell? (A.add t) = some u) := by
    by_cases h : cap = j
    · refine ⟨⟨g, 0, none⟩, by simp [h], fun t u hu => ?_⟩
      have h0 : news.length = 0 := by rw [hlen]; omega
      rw [List.length_eq_zero_iff.1 h0] at hu
      simp at hu
    · refine ⟨⟨g, j * 7, none⟩, by simp [h], fun t u hu => ?_⟩
      have ht : t < (L.length - j) * 7 := by
        have := (List.getElem?_eq_some_iff.1 hu).1
        rwa [hlen] at this
      rw [hget t ht] at hu
      rw [Addr.add_lit]
      exact (own_cellY HR.out hu).1
  have s1 : Hid (news.length = (L.length - j) * 7) := hlen
  have s2 : Hid (∀ u ∈ news, u.oneCell' = true) := by
    intro u hu
    rw [hnews] at hu
    unfold flatY at hu
    obtain ⟨x, hx, hu⟩ := List.mem_flatMap.1 hu
    exact cellsY_one (HLS.out x (List.mem_of_mem_drop hx)) u hu
  have s3 : Hid (∀ t, t < news.length → (w.drew.cell? ⟨g, 0 + i * 7 + t, none⟩).isSome = true ∧ w.drew.frozen? ⟨g, 0 + i * 7 + t, none⟩ = false) := by
    intro t ht
    rw [hlen] at ht
    exact ⟨HS.out _ (by omega), HZ.out _⟩
  obtain ⟨W1, hW1⟩ : ∃ W1, W1 = w.drew.setCells g (0 + i * 7) news := ⟨_, rfl⟩
  have hR1 : W1.ownsRow 0 43 7 (.slice (some ⟨g, 0, none⟩) L.length cap) L.length (setL (flatY L) (i * 7) news) := by
    have := own_sets news (0 + i * 7) w.drew (flatY L) (own_below HR.out (below_drewN _ 1))
    rw [← hW1, Nat.zero_add] at this
    exact this
  have hS1 : ∀ k, k < L.length * 7 → (W1.cell? ⟨g, k, none⟩).isSome = true := fun k hk => by
    rw [(own_cellY (j := k) (u := (setL (flatY L) (i * 7) news)[k]'(by rw [setL_len, flatY_len]; exact hk)) hR1 (by rw [List.getElem?_eq_getElem])).1]; rfl
  have hZ1 : ∀ k, W1.frozen? ⟨g, k, none⟩ = false := fun k => by
    rcases hR1.2 with ⟨h9, _⟩ | ⟨g', cap', cur, e1, hg, hh, _⟩
    · cases h9
    · cases e1; exact blk_soft hh k
  have hcl : ∀ ty, (Builtin.clear_ #[44] ty #[.slice (some ⟨g, (i + (L.length - j)) * 7, none⟩) (L.length - (i + (L.length - j))) (cap - (i + (L.length - j)))]).run Try.prog W1 = .ok (.tuple #[]) (W1.setCells g ((i + (L.length - j)) * 7) (Builtin.zeroCells zeroY (L.length - (i + (L.length - j)))).toList) :=
    fun ty => run_clearY W1 ty g _ _ _ (by omega) (fun t ht => hS1 _ (by omega)) (fun t ht => hZ1 _)
  have HR1 : Hid (W1.ownsRow 0 43 7 (.slice (some ⟨g, 0, none⟩) L.length cap) L.length (setL (flatY L) (i * 7) news)) := hR1
  have HW : Hid (W1 = w.drew.setCells g (0 + i * 7) news) := hW1
  have HN : Hid (news = flatY (L.drop j)) := hnews
  have hic : i ≤ cap := by omega
  have hjc : j ≤ cap := by omega
  have hinc : ¬ cap = i + (L.length - j) := by omega
  clear hr hcm hW1 hR1 hS1 hZ1 hget hnews hlen
  go_enter Try.func47, Try.ntmps47
  go_wp2_with fail
  go_region_law (refine step_append_room rfl (.tmp 22) (.tmp 25) 44 rfl 43 i0 7 Try.underlying44 hi0 hz1 g 0 i cap (by simp [Act.eval, Act.put]) A (L.length - j) (cap - j) news (by simp [Act.eval, Act.put]) s1.out hsrc.out s2.out (by omega) s3.out ?_; rw [← HW.out])
  go_wp2_with fail
  go_ret
  have hb := own_less (own_sets (Builtin.zeroCells zeroY (L.length - (i + (L.length - j)))).toList ((i + (L.length - j)) * 7) W1 _ HR1.out) (m := i + (L.length - j)) (by omega)
  rw [HN.out, del_row hi hj] at hb
  refine ⟨g, cap, rfl, rfl, hb, ?_⟩
  refine Ch.self ?_ (ch_sets g _ _ _)
  rw [HW.out]
  exact Ch.self (Ch.of_below (below_drewN _ 1)) (ch_sets g _ _ _)
end Go.Proofs.Ytpndafieknddcaa

namespace Go.Proofs.Ytpndafieknddcaa

open Ieee Go.RowKit



theorem wpList_append_svat {P : Program} {w : World} {ops : Array Oper} {rest : List Oper} {o : Oper} {a : Act} {Q : Exit → Act → World → Prop} (hgd : o.guard = none) (s x : Operand) (t : TypeId)
    (ho : o.op = .call { callee := .builtin .append, args := #[s, x], argTypes := #[t, t] })
    (base : Nat) (e : TypeId) (k : IntKind) (bytes : Nat) (ht : P.underlying t = some (.slice e)) (hinf : (P.info? e).map (fun i => (i.zero, i.size, i.bytes)) = some (some (.int k 0), 1, bytes))
    (v : Value) (n : Nat) (xs : List Value) (hs : a.eval s = v) (hown : w.ownsRow base e 1 v n xs)
    (y : Value) (l : List Int) (hx : a.eval x = y) (hy : Sv k w y l)
    (h63 : n + l.length ≤ maxLen) (hbytes : (n + l.length) * bytes ≤ 140737488355328) (hbase : base ≤ w.heap.size)
    (h : ∀ v' w', w'.ownsRow base e 1 v' (n + l.length) (xs ++ l.map (Value.int k)) → w.grownBy w' v.ownBlock → (v'.ownBlock = v.ownBlock ∨ v'.ownBlock = some w.heap.size) → wpList P ops Q rest (a.put o.dst v') w') : wpList P ops Q (o :: rest) a w := by
  obtain ⟨i0, hi, hz0, hz1, hz2⟩ := info_parts hinf
  obtain ⟨ao, cap, rfl, hc1, hc2, hnone, hcells⟩ := hy
  cases ao with
  | none =>
    obtain rfl := hnone rfl
    have hl0 : l.length = 0 := by omega
    have hl : l = [] := List.eq_nil_of_length_eq_zero hl0
    subst hl
    refine wpList_append_own_none hgd s x t ho base e i0 1 ht hi v n xs hs hown hx ?_
    exact h v w (by simpa using hown) ⟨rfl, rfl, rfl, Nat.le_refl _, fun _ _ _ => rfl⟩ (.inl rfl)
  | some p =>
    refine wpList_append_own_at w hgd s x t ho base e i0 (.int k 0) 1 bytes ht hi hz0 hz1 hz2 rfl (by decide) v n xs hs hown p l.length cap (l.map (Value.int k)) hx (by simp) ?_ ?_ h63 hbytes hbase
      (fun v' w' h1 h2 _ h4 => h v' w' h1 h2 h4)
    · intro j u hj
      have hjl : j < l.length := by
        rcases Nat.lt_or_ge j l.length with h | h
        · exact h
        · simp [List.getElem?_eq_none (show (l.map (Value.int k)).length ≤ j by simpa using h)] at hj
      obtain ⟨b, off, e1, e2⟩ := hcells j hjl
      cases e1
      rw [WideShapes.add_plain, e2]
      simp [List.getElem?_eq_getElem hjl] at hj
      simp [List.getD, List.getElem?_eq_getElem hjl, hj]
    · intro u hu
      obtain ⟨z, _, rfl⟩ := List.mem_map.1 hu
      rfl
theorem wrapV {x : Int} (h0 : 0 ≤ x) (h1 : x < 18446744073709551616) : IntKind.u64.wrap x = x := by
  simp only [IntKind.wrap, IntKind.signed, IntKind.bits]
  simp
  omega
theorem Nv.sv {w : World} {v : Value} {l : List Int} (h : Nv w v l) : Sv .i64 w v l := by
  obtain ⟨⟨ao, cap, e, h1, h2, h3, h4⟩, _⟩ := h
  exact ⟨ao, cap, e, h1, h2, h3, h4⟩


def of3 (k : Nat) : Nat := [0, 1, 4].getD k 0
def of2 (k : Nat) : Nat := [2, 3].getD k 0
def nmI (g : Nat) (n : Nt) (k : Nat) : Nat := (nmL g n).getD k 0
def pr3 (g : Nat) (n : Nt) (k : Nat) : List Nat := Wm.encAll ((nmL g n).take k)
def pr2 (g : Nat) (n : Nt) (k : Nat) : List Nat := Wm.encAll (nmL g n) ++ ((lsL n).take k).flatMap numsB
def lsI (n : Nt) (k : Nat) : List Int := (lsL n).getD k []
theorem pr3_step {g : Nat} {n : Nt} {k : Nat} (hk : k < 3) : pr3 g n (k + 1) = pr3 g n k ++ Wm.enc (nmI g n k) := by
  have : k = 0 ∨ k = 1 ∨ k = 2 := by omega
  rcases this with rfl | rfl | rfl <;> simp [pr3, nmI, nmL, Wm.encAll]
theorem pr2_step {g : Nat} {n : Nt} {k : Nat} (hk : k < 2) : pr2 g n (k + 1) = pr2 g n k ++ numsB (lsI n k) := by
  have : k = 0 ∨ k = 1 := by omega
  rcases this with rfl | rfl <;> simp [pr2, lsI, lsL]
theorem pr2_zero (g : Nat) (n : Nt) : pr2 g n 0 = pr3 g n 3 := by simp [pr2, pr3, nmL]
theorem pr2_two (g : Nat) (n : Nt) : pr2 g n 2 = bytN g n := by simp [pr2, bytN, lsL]
theorem pr3_len (g : Nat) (n : Nt) (k : Nat) : (pr3 g n k).length ≤ 30 := by
  have h := encAll_len ((nmL g n).take k)
  have h2 : ((nmL g n).take k).length ≤ 3 := by rw [List.length_take]; simp [nmL]; omega
  unfold pr3
  omega
theorem pr2_len {g : Nat} {n : Nt} (hp : n.p.length ≤ 4) (hc : n.c.length ≤ 4) {k : Nat} (hk : k ≤ 2) : (pr2 g n k).length ≤ 130 := by
  have h1 := encAll_len (nmL g n)
  have h2 := encAll_len4 hp
  have h3 := encAll_len4 hc
  have h4 : (nmL g n).length = 3 := rfl
  have : k = 0 ∨ k = 1 ∨ k = 2 := by omega
  rcases this with rfl | rfl | rfl <;> simp only [pr2, lsL, List.take_zero, List.take_succ_cons, List.flatMap_nil, List.flatMap_cons, List.length_append, List.append_nil] <;> omega


/-- What bytes keeps: its row, the pointers' block. -/
structure By (w : World) (G : Nat) (cs : Array Value) (TP : TypeId) (pre : List Nat) (bv : Value) (wr : World) : Prop where
  own : wr.ownsRow w.heap.size 5 1 bv pre.length ((ib pre).map (Value.int .u8))
  bel : Below w.heap.size w wr
  ptr : wr.heap[G]? = some (.cells cs TP (0, 0))
  ne : ∀ x, bv.ownBlock = some x → x ≠ G
section

variable {w wr w1 w2 : World} {G : Nat} {cs : Array Value} {TP : TypeId} {pre pre' l : List Nat} {bv v' : Value}

theorem By.step (h : By w G cs TP pre bv wr) (hb : Below wr.heap.size wr w1) (hp : pre' = pre ++ l) (ho : w2.ownsRow w.heap.size 5 1 v' (pre.length + (ib l).length) ((ib pre).map (Value.int .u8) ++ (ib l).map (Value.int .u8))) (hg : w1.grownBy w2 bv.ownBlock) (ha : v'.ownBlock = bv.ownBlock ∨ v'.ownBlock = some w1.heap.size) : By w G cs TP pre' v' w2 := by
  subst hp
  have hG := blk_lt h.ptr
  refine ⟨?_, ?_, ?_, ?_⟩
  · rw [List.length_append, ib_append, List.map_append, ← ib_len l]; exact ho
  · exact (h.bel.trans (hb.mono h.bel.size)).grown hg (Nat.le_trans h.bel.size hb.size) (fun x hx => (h.own.lt x hx).1)
  · rw [hg.block G (Nat.lt_of_lt_of_le hG hb.size) (fun e => h.ne G e.symm rfl)]; exact blk_below h.ptr hb
  · intro x hx
    rcases ha with ha | ha
    · exact h.ne x (by rw [← ha]; exact hx)
    · rw [ha] at hx; cases hx; have := hb.size; omega
/-- Another block of pointers. -/
theorem By.turn {G' : Nat} {cs' : Array Value} {TP' : TypeId} (h : By w G cs TP pre bv wr) (hb : Below wr.heap.size wr w1) (hG : wr.heap.size ≤ G') (hp : w1.heap[G']? = some (.cells cs' TP' (0, 0))) : By w G' cs' TP' pre bv w1 :=
  ⟨own_below h.own hb, h.bel.trans (hb.mono h.bel.size), hp, fun x hx e => by have := (h.own.lt x hx).2; omega⟩
end



section

variable {w : World} {R g : Nat} {n : Nt} {pv cv : Value} {q : Int} {T : TypeId}

def ByGot (g : Nat) (n : Nt) (w : World) (e : Ending) (w' : World) : Prop := ∃ v, e = .returned v ∧ w'.ownsRow w.heap.size 5 1 v (bytN g n).length ((ib (bytN g n)).map (Value.int .u8)) ∧ Below w.heap.size w w'
set_option maxRecDepth 100000 in
set_option maxHeartbeats 2000000 in
theorem bytes_walk (hR : w.heap[R]? = some (.cells #[.int .i64 g, .int .i64 n.b, pv, cv, .int .i64 n.a] T (0, 0))) (hp : Nv w pv n.p) (hc : Nv w cv n.c) (hg : g ≤ 1099511627776) (hr : Rgt n q) (hq : q ≤ 4) :
    Calls Try.prog 70 #[.pointer (some ⟨R, 0, none⟩)] w (ByGot g n w) := by
  have HN : Hid (∀ wr k, Below w.heap.size w wr → k < 3 → wr.cell? ⟨R, of3 k, none⟩ = some (.int .i64 (nmI g n k : Nat)) ∧ nmI g n k ≤ 1099511627776) := fun wr k hb hk => by
    have hlt := blk_lt hR
    rw [hb.cell (p := ⟨R, of3 k, none⟩) hlt, blk_cell hR]
    have h1 := hr.b0; have h2 := hr.a0; have h3 := hr.b1; have h4 := hr.a1
    have e1 : ((n.b.toNat : Nat) : Int) = n.b := by omega
    have e2 : ((n.a.toNat : Nat) : Int) = n.a := by omega
    have : k = 0 ∨ k = 1 ∨ k = 2 := by omega
    rcases this with rfl | rfl | rfl
    · exact ⟨rfl, hg⟩
    · refine ⟨?_, by show n.b.toNat ≤ _; omega⟩
      show some (Value.int .i64 n.b) = some (.int .i64 ((n.b.toNat : Nat) : Int)); rw [e1]
    · refine ⟨?_, by show n.a.toNat ≤ _; omega⟩
      show some (Value.int .i64 n.a) = some (.int .i64 ((n.a.toNat : Nat) : Int)); rw [e2]
  have HL : Hid (∀ wr k, Below w.heap.size w wr → k < 2 → ∃ v, wr.cell? ⟨R, of2 k, none⟩ = some v ∧ Sv .i64 wr v (lsI n k) ∧ (lsI n k).length ≤ 4 ∧ numsA (lsI n k) = (numsB (lsI n k), 0) ∧ (∀ x ∈ lsI n k, x ≤ 256)) := fun wr k hb hk => by
    have hlt := blk_lt hR
    rw [hb.cell (p := ⟨R, of2 k, none⟩) hlt, blk_cell hR]
    have h1 := hr.lp; have h2 := hr.lc
    have : k = 0 ∨ k = 1 := by omega
    rcases this with rfl | rfl
    · exact ⟨pv, rfl, (hp.below hb).sv, by show n.p.length ≤ 4; omega, if_pos fun x hx => (hr.pm x hx).1, fun x hx => (hr.pm x hx).2⟩
    · exact ⟨cv, rfl, (hc.below hb).sv, by show n.c.length ≤ 4; omega, if_pos fun x hx => (hr.cm x hx).1, fun x hx => (hr.cm x hx).2⟩
  have HPL : Hid (n.p.length ≤ 4) := by show _ ≤ _; have := hr.lp; omega
  have HCL : Hid (n.c.length ≤ 4) := by show _ ≤ _; have := hr.lc; omega
  clear hR hp hc hg hr hq
  go_enter Try.func70, Try.ntmps70
  go_wp2_with fail
  refine (numbers_walk R).mono ?_
  rintro e w1 ⟨G, rfl, hG0, hG, hB1⟩
  have HBY : Hid (By w G _ _ (pr3 g n 0) (.slice (some ⟨w.heap.size, 0, none⟩) 0 0) w1) := ⟨own_below (World.ownsRow_made w #[] 0 (Nat.le_refl _) (by simp [maxLen]) (by simp)) hB1, below_trans (below_alloc _ _) hB1, hG, fun x hx e => by cases hx; rw [alloc_size] at hG0; subst e; simp only at hG0; omega⟩
  clear hG hG0 hB1
  go_wp2_with fail
  go_loopw [3, 14] (fun bv iv wr => ∃ k : Nat, k ≤ 3 ∧ iv = .int .i64 k ∧ By w G #[.pointer (some ⟨R, 0, none⟩), .pointer (some ⟨R, 1, none⟩), .pointer (some ⟨R, 4, none⟩)] 140 (pr3 g n k) bv wr) (fun _ iv _ => 3 - (intOf iv).toNat)
  case atStart => exact ⟨0, by omega, rfl, HBY.out⟩
  case round =>
    obtain ⟨k, hk, rfl, hBY⟩ := hrel
    have HK : Hid (By w G #[.pointer (some ⟨R, 0, none⟩), .pointer (some ⟨R, 1, none⟩), .pointer (some ⟨R, 4, none⟩)] 140 (pr3 g n k) u3 wr) := hBY
    by_cases hlt : k < 3
    · obtain ⟨c0, hbd⟩ := HN.out wr k hBY.bel hlt
      obtain ⟨x, hx⟩ : ∃ x, x = nmI g n k := ⟨_, rfl⟩
      rw [← hx] at c0 hbd
      have HX : Hid (x = nmI g n k) := hx
      have HBD : Hid (x ≤ 1099511627776) := hbd
      have z0 : wr.cell? ⟨G, k, none⟩ = some (.pointer (some ⟨R, of3 k, none⟩)) := by
        rw [blk_cell hBY.ptr]
        have : k = 0 ∨ k = 1 ∨ k = 2 := by omega
        rcases this with rfl | rfl | rfl <;> rfl
      have u1 : IntKind.u64.wrap (x : Int) = (x : Int) := wrapV (by omega) (by omega)
      have HPR : Hid ((pr3 g n k).length ≤ 30) := pr3_len _ _ _
      have HE : Hid ((Wm.enc x).length ≤ 10) := (Wm.enc_len x).2
      generalize of3 k = o at c0 z0
      clear hbd hx hBY
      go_wp2_with fail
      refine (put_walk x (by have := HBD.out; omega) _).mono ?_
      rintro e w2 ⟨u, rfl, hu, hB2⟩
      have HU : Hid (Sv .u8 w2 u (ib (Wm.enc x))) := own_sv hu
      have HO2 : Hid (w2.ownsRow w.heap.size 5 1 u3 (pr3 g n k).length ((ib (pr3 g n k)).map (Value.int .u8))) := own_below HK.out.own hB2
      have HS2 : Hid (w.heap.size ≤ w2.heap.size) := Nat.le_trans HK.out.bel.size hB2.size
      have HB2 : Hid (Below wr.heap.size wr w2) := hB2
      clear hu hB2
      go_wp2_with (at_builtin; refine wpList_append_svat (by rfl) (.tmp 18) (.tmp 23) 121 (by rfl) w.heap.size 5 .u8 1 Try.underlying121 info_u8 _ _ _ (by rfl) HO2.out _ _ (by rfl) HU.out (by have := HPR.out; have := HE.out; rw [ib_len]; simp only [maxLen]; omega) (by have := HPR.out; have := HE.out; rw [ib_len]; omega) HS2.out ?_; intro v' w3 hown' hgrow hat)
      have HBN : Hid (By w G #[.pointer (some ⟨R, 0, none⟩), .pointer (some ⟨R, 1, none⟩), .pointer (some ⟨R, 4, none⟩)] 140 (pr3 g n (k + 1)) v' w3) := HK.out.step HB2.out (by rw [HX.out]; exact pr3_step hlt) hown' hgrow hat
      clear hown' hgrow hat
      go_wp2_with fail
      go_roundw
      case rel => exact ⟨k + 1, by omega, by go_num, HBN.out⟩
      case measure => simp [intOf]; omega
    · obtain rfl : k = 3 := by omega
      clear hBY
      go_wp2_with fail
      refine (lists_walk R).mono ?_
      rintro e w2 ⟨H, rfl, hH0, hH, hB2⟩
      have HBZ : Hid (By w H #[.pointer (some ⟨R, 2, none⟩), .pointer (some ⟨R, 3, none⟩)] 133 (pr2 g n 0) u3 w2) := by rw [pr2_zero]; exact HK.out.turn hB2 hH0 hH
      clear hH hH0 hB2
      go_wp2_with fail
      go_loopw [3, 29] (fun bv iv wr => ∃ k : Nat, k ≤ 2 ∧ iv = .int .i64 k ∧ By w H #[.pointer (some ⟨R, 2, none⟩), .pointer (some ⟨R, 3, none⟩)] 133 (pr2 g n k) bv wr) (fun _ iv _ => 2 - (intOf iv).toNat)
      case atStart => exact ⟨0, by omega, rfl, HBZ.out⟩
      case round =>
        clear HBZ HK
        obtain ⟨k, hk2, rfl, hBY⟩ := hrel
        have HK : Hid (By w H #[.pointer (some ⟨R, 2, none⟩), .pointer (some ⟨R, 3, none⟩)] 133 (pr2 g n k) u3 wr) := hBY
        by_cases hlt2 : k < 2
        · obtain ⟨lv, c0, hsv, hll, hna, hle⟩ := HL.out wr k hBY.bel hlt2
          have z0 : wr.cell? ⟨H, k, none⟩ = some (.pointer (some ⟨R, of2 k, none⟩)) := by
            rw [blk_cell hBY.ptr]
            have : k = 0 ∨ k = 1 := by omega
            rcases this with rfl | rfl <;> rfl
          have HPR : Hid ((pr2 g n k).length ≤ 130) := pr2_len HPL.out HCL.out hk2
          have HST : Hid (pr2 g n (k + 1) = pr2 g n k ++ numsB (lsI n k)) := pr2_step hlt2
          generalize of2 k = o at c0 z0
          generalize lsI n k = L at hsv hll hna hle HST
          have HLE : Hid ((numsB L).length ≤ 50) := encAll_len4 hll
          have HSV : Hid (Sv .i64 wr lv L) := hsv
          have HLL : Hid (L.length ≤ 4) := hll
          have HNA : Hid (numsA L = (numsB L, 0)) := hna
          have HLX : Hid (∀ x ∈ L, x ≤ 256) := hle
          obtain ⟨la, lc, rfl⟩ := sv_form hsv
          clear hsv hll hna hle hBY
          go_wp2_with fail
          refine (nums_walk HSV.out (by have := HLL.out; omega) (fun x hx => by have := HLX.out x hx; omega)).mono ?_
          rintro e w3 ⟨u, rfl, hu, hB3⟩
          rw [HNA.out] at hu ⊢
          have HU : Hid (Sv .u8 w3 u (ib (numsB L))) := own_sv hu
          have HO2 : Hid (w3.ownsRow w.heap.size 5 1 u3 (pr2 g n k).length ((ib (pr2 g n k)).map (Value.int .u8))) := own_below HK.out.own hB3
          have HS2 : Hid (w.heap.size ≤ w3.heap.size) := Nat.le_trans HK.out.bel.size hB3.size
          have HB2 : Hid (Below wr.heap.size wr w3) := hB3
          clear hu hB3
          go_wp2_with (at_builtin; refine wpList_append_svat (by rfl) (.tmp 40) (.tmp 41) 121 (by rfl) w.heap.size 5 .u8 1 Try.underlying121 info_u8 _ _ _ (by rfl) HO2.out _ _ (by rfl) HU.out (by have := HPR.out; have := HLE.out; rw [ib_len]; simp only [maxLen]; omega) (by have := HPR.out; have := HLE.out; rw [ib_len]; omega) HS2.out ?_; intro v' w4 hown' hgrow hat)
          have HBN : Hid (By w H #[.pointer (some ⟨R, 2, none⟩), .pointer (some ⟨R, 3, none⟩)] 133 (pr2 g n (k + 1)) v' w4) := HK.out.step HB2.out HST.out hown' hgrow hat
          clear hown' hgrow hat
          go_wp2_with fail
          go_roundw
          case rel => exact ⟨k + 1, by omega, by go_num, HBN.out⟩
          case measure => simp [intOf]; omega
        · obtain rfl : k = 2 := by omega
          clear hBY
          go_wp2_with fail
          go_ret
          exact ⟨_, rfl, by rw [← pr2_two]; exact HK.out.own, HK.out.bel⟩
end

end Go.Proofs.Ytpndafieknddcaa
