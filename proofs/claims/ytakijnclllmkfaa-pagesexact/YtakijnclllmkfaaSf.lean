/- The reference's Put. -/
import Derived.Test.YtakijnclllmkfaaSe
namespace Go.Proofs.Ytakijnclllmkfaa
open Go.RowKit

theorem LI.perm {tab t tk tk' : List Nat} {b B : Nat} (h : LI tab t tk b B) (hm : ∀ x, x ∈ tk ↔ x ∈ tk') : LI tab t tk' b B :=
  ⟨h.len, fun i hi => by rcases h.src i hi with q | q | q; exact .inl q; exact .inr (.inl q); exact .inr (.inr ((hm _).1 q)), fun x hx => h.tk2 x ((hm x).2 hx), h.dist, fun y h1 h2 => by rcases h.fr y h1 h2 with q | q; exact .inl q; exact .inr ((hm y).1 q), h.b1⟩

section
variable {A D : Nat → Prop} {w w' : World} {v dv tv lv : Value} {P P' : Bo} {S S' : Dk} {pb : Nat} {ps : List (Int × List Nat)}
set_option maxRecDepth 100000 in
theorem rput_nil9 : Calls Try.prog 17 #[.pointer none, lv] w fun e w' => e = .returned (.int .i64 2) ∧ w' = w := by
  go_enter Try.func17, Try.ntmps17
  go_wp2_with fail
  go_ret
  exact ⟨rfl, rfl⟩

set_option maxRecDepth 100000 in
theorem rput_small (h : MQ A D w pb tv dv P S) (hl : Tx A w lv ps) (hs : shutB P S = true ∨ faultI P.tab.length ps ≠ 0 ∨ ps = [] ∨ P.gen = 1099511627776) :
    Calls Try.prog 17 #[.pointer (some ⟨pb, 0, none⟩), lv] w fun e w' => Pt hdR 87 83 A w (.pointer (some ⟨pb, 0, none⟩)) dv P S ps e w' := by
  have HM : Hid (MQ A D w pb tv dv P S) := h
  have HL : Hid (Tx A w lv ps) := hl
  obtain ⟨lo, lc, rfl, hl1, hl2⟩ := hl.form
  cases hsh : shutB P S
  · have HSH : Hid (shutB P S = false) := hsh
    have hs2 : faultI P.tab.length ps ≠ 0 ∨ ps = [] ∨ P.gen = 1099511627776 := hs.resolve_left (by rw [hsh]; simp)
    obtain ⟨c, hc⟩ : ∃ c, c = faultI P.tab.length ps := ⟨_, rfl⟩
    have HC : Hid (faultI P.tab.length ps = c) := hc.symm
    clear h hl hs hsh hl1 hl2
    by_cases hfa : faultI P.tab.length ps ≠ 0
    · have HR : Hid (putO P S ps = (c, P, S)) := by show _ = _; rw [put_fault HSH.out hfa, HC.out]
      have hcb : (c != 0) = true := by rw [← hc] at hfa; simp [hfa]
      clear hs2 hfa hc
      go_enter Try.func17, Try.ntmps17
      go_wp2_with fail
      refine (rbdown_ok HM.out HSH.out).mono ?_
      rintro e w9 ⟨rfl, h9⟩
      have h9 := h9.symm
      subst h9
      go_wp2_with fail
      refine (rbad_walk HM.out HL.out).mono ?_
      rw [HC.out]
      rintro e w9 ⟨rfl, h9⟩
      have h9 := h9.symm
      subst h9
      go_wp2_with fail
      go_ret
      exact pt_mk HR.out HM.out (fun x hx => .inl hx) (Ch.refl _ _)
    · have HFA : Hid (faultI P.tab.length ps = 0) := Classical.not_not.1 hfa
      by_cases hp : ps = []
      · have HR : Hid (putO P S ps = (0, P, S)) := put_empty HSH.out hp
        have hp0 : (ps.length : Int) = 0 := by rw [hp]; rfl
        clear hs2 hfa hp hc HC
        go_enter Try.func17, Try.ntmps17
        go_wp2_with fail
        refine (rbdown_ok HM.out HSH.out).mono ?_
        rintro e w9 ⟨rfl, h9⟩
        have h9 := h9.symm
        subst h9
        go_wp2_with fail
        refine (rbad_walk HM.out HL.out).mono ?_
        rw [HFA.out]
        rintro e w9 ⟨rfl, h9⟩
        have h9 := h9.symm
        subst h9
        go_wp2_with fail
        go_ret
        exact pt_mk HR.out HM.out (fun x hx => .inl hx) (Ch.refl _ _)
      · have hg : P.gen = 1099511627776 := (hs2.resolve_left hfa).resolve_left hp
        have HR : Hid (putO P S ps = (92, P, S)) := put_room HSH.out HFA.out hp hg
        have c2 := mq2 HM.out
        rw [hg] at c2
        have hp0 : ((ps.length : Int) == 0) = false := by have := List.length_pos_iff.2 hp; simp; omega
        clear hs2 hfa hp hg hc HC
        go_enter Try.func17, Try.ntmps17
        go_wp2_with fail
        refine (rbdown_ok HM.out HSH.out).mono ?_
        rintro e w9 ⟨rfl, h9⟩
        have h9 := h9.symm
        subst h9
        go_wp2_with fail
        refine (rbad_walk HM.out HL.out).mono ?_
        rw [HFA.out]
        rintro e w9 ⟨rfl, h9⟩
        have h9 := h9.symm
        subst h9
        go_wp2_with fail
        go_ret
        exact pt_mk HR.out HM.out (fun x hx => .inl hx) (Ch.refl _ _)
  · have HSH : Hid (shutB P S = true) := hsh
    have HR : Hid (putO P S ps = (80, endB P, S)) := put_shut hsh
    clear h hl hs hsh hl1 hl2
    go_enter Try.func17, Try.ntmps17
    go_wp2_with fail
    refine (rbdown_shut HM.out HSH.out).mono ?_
    rintro e w1 ⟨rfl, hM1, hC1⟩
    have HM1 : Hid (MQ A D w1 pb tv dv (endB P) S) := hM1
    have HC1 : Hid (Ch A w w1) := hC1
    clear hM1 hC1
    go_wp2_with fail
    go_ret
    exact pt_mk HR.out HM1.out (fun x hx => .inl hx) HC1.out

end
end Go.Proofs.Ytakijnclllmkfaa
