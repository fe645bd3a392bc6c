/- Len, Up, Parts, Switch, Log, Read. -/
import Derived.Test.YtfgeabcdcepfdaaGreatVb
namespace Go.Proofs.YtfgeabcdcepfdaaGreat
open Ieee Go.RowKit

abbrev hasS (S : Sc) (p : Int) : Prop := 0 ≤ p ∧ p < S.np
def lenS (S : Sc) (p : Int) : Nat := if hasS S p then (S.logs p.toNat).length else 0
def upS (S : Sc) (p : Int) : Bool := if hasS S p then S.on p.toNat else false
def logS (S : Sc) (p : Int) : List Rcd := if hasS S p then S.logs p.toNat else []
def switchI (S : Sc) (p : Int) : Int := if hasS S p then 0 else 60
def switchS (S : Sc) (p : Int) (on : Bool) : Sc := if hasS S p then { S with on := upd S.on p.toNat on } else S
def readI (S : Sc) (p x m : Int) : Int := if hasS S p then (if x < 0 ∨ x > (S.logs p.toNat).length ∨ m < 0 then 1 else if S.on p.toNat then 0 else 63) else 60
def readL (S : Sc) (p x m : Int) : List Rcd := if readI S p x m = 0 then ((S.logs p.toNat).drop x.toNat).take m.toNat else []

theorem not_has {S : Sc} {p : Int} (h : ¬ hasS S p) : p < 0 ∨ (S.np : Int) ≤ p := by unfold hasS at h; omega
theorem has_nat {S : Sc} {p : Int} (h : hasS S p) : ∃ q : Nat, p = q ∧ q < S.np := ⟨p.toNat, by unfold hasS at h; omega, by unfold hasS at h; omega⟩

section
variable {D : Nat → Prop} {w : World} {v : Value} {S : Sc}

theorem parts_walk (h : Src D w v S) : Calls Tryz.prog 11 #[v] w fun e w' => e = .returned (.int .i64 S.np) ∧ w' = w := by
  obtain ⟨sb, gp, gm, lv, rv, rfl, h, hok⟩ := h
  have c1 := h.c1
  clear h
  go_enter Tryz.func11, Tryz.ntmps11
  go_wp2_with fail
  go_ret
  exact ⟨rfl, rfl⟩

theorem len_walk (h : Src D w v S) (p : Int) : Calls Tryz.prog 18 #[v, .int .i64 p] w fun e w' => e = .returned (.int .i64 (lenS S p)) ∧ w' = w := by
  obtain ⟨sb, gp, gm, lv, rv, rfl, h, hok⟩ := h
  have HS : Hid (SM D w sb gp gm lv rv S) := h
  have HK : Hid S.ok := hok
  clear h hok
  by_cases hh : hasS S p
  · obtain ⟨q, rfl, hq⟩ := has_nat hh
    have HL : Hid (lenS S q = (S.logs q).length) := by show _ = _; unfold lenS; rw [if_pos hh]; rfl
    rw [HL.out]
    have p0 := HS.out.p0 hq
    obtain ⟨ao, cap, hrv, _⟩ := row_form (HS.out.rows q hq)
    rw [hrv] at p0
    clear hrv hh
    go_enter Tryz.func18, Tryz.ntmps18
    go_wp2_with (go_at_call 33; refine (part_ok HS.out HK.out hq).mono ?_; rintro e w9 ⟨rfl, h9⟩; have h9 := h9.symm; subst h9)
    go_ret
    exact ⟨rfl, rfl⟩
  · have HL : Hid (lenS S p = 0) := by show _ = _; unfold lenS; rw [if_neg hh]
    rw [HL.out]
    have HN : Hid (p < 0 ∨ (S.np : Int) ≤ p) := not_has hh
    clear hh
    go_enter Tryz.func18, Tryz.ntmps18
    go_wp2_with (go_at_call 33; refine (part_no HS.out HK.out HN.out).mono ?_; rintro e w9 ⟨rfl, h9⟩; have h9 := h9.symm; subst h9)
    go_ret
    exact ⟨rfl, rfl⟩

theorem up_walk (h : Src D w v S) (p : Int) : Calls Tryz.prog 16 #[v, .int .i64 p] w fun e w' => e = .returned (.bool (upS S p)) ∧ w' = w := by
  obtain ⟨sb, gp, gm, lv, rv, rfl, h, hok⟩ := h
  have HS : Hid (SM D w sb gp gm lv rv S) := h
  have HK : Hid S.ok := hok
  clear h hok
  by_cases hh : hasS S p
  · obtain ⟨q, rfl, hq⟩ := has_nat hh
    have HL : Hid (upS S q = S.on q) := by show _ = _; unfold upS; rw [if_pos hh]; rfl
    rw [HL.out]
    have p1 := HS.out.p1 hq
    clear hh
    go_enter Tryz.func16, Tryz.ntmps16
    go_wp2_with (go_at_call 33; refine (part_ok HS.out HK.out hq).mono ?_; rintro e w9 ⟨rfl, h9⟩; have h9 := h9.symm; subst h9)
    go_ret
    exact ⟨rfl, rfl⟩
  · have HL : Hid (upS S p = false) := by show _ = _; unfold upS; rw [if_neg hh]
    rw [HL.out]
    have HN : Hid (p < 0 ∨ (S.np : Int) ≤ p) := not_has hh
    clear hh
    go_enter Tryz.func16, Tryz.ntmps16
    go_wp2_with (go_at_call 33; refine (part_no HS.out HK.out HN.out).mono ?_; rintro e w9 ⟨rfl, h9⟩; have h9 := h9.symm; subst h9)
    go_ret
    exact ⟨rfl, rfl⟩

theorem log_walk (h : Src D w v S) (p : Int) : Calls Tryz.prog 14 #[v, .int .i64 p] w fun e w' => ∃ r, e = .returned r ∧ w'.ownsRow w.heap.size 38 2 r (logS S p).length (flatR (logS S p)) ∧ Below w.heap.size w w' := by
  obtain ⟨sb, gp, gm, lv, rv, rfl, h, hok⟩ := h
  have HS : Hid (SM D w sb gp gm lv rv S) := h
  have HK : Hid S.ok := hok
  clear h hok
  by_cases hh : hasS S p
  · obtain ⟨q, rfl, hq⟩ := has_nat hh
    have HL : Hid (logS S q = S.logs q) := by show _ = _; unfold logS; rw [if_pos hh]; rfl
    rw [HL.out]
    have p0 := HS.out.p0 hq
    have HR : Hid (Rv w (rv q) (S.logs q)) := HS.out.recs HK.out hq
    clear hh
    go_enter Tryz.func14, Tryz.ntmps14
    go_wp2_with (first
      | (go_at_call 33; refine (part_ok HS.out HK.out hq).mono ?_; rintro e w9 ⟨rfl, h9⟩; have h9 := h9.symm; subst h9)
      | (go_at_call 34; refine (cloneR_walk HR.out (by have := HK.out.len q; omega)).mono ?_; rintro e w9 ⟨r, rfl, hr, hB⟩))
    go_ret
    exact ⟨r, rfl, hr, hB⟩
  · have HL : Hid (logS S p = []) := by show _ = _; unfold logS; rw [if_neg hh]
    rw [HL.out]
    have HN : Hid (p < 0 ∨ (S.np : Int) ≤ p) := not_has hh
    clear hh
    go_enter Tryz.func14, Tryz.ntmps14
    go_wp2_with (go_at_call 33; refine (part_no HS.out HK.out HN.out).mono ?_; rintro e w9 ⟨rfl, h9⟩; have h9 := h9.symm; subst h9)
    go_ret
    exact ⟨_, rfl, World.ownsRow_nil _ _ _ _, below_same _⟩
end
end Go.Proofs.YtfgeabcdcepfdaaGreat
