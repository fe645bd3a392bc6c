/- The program's small functions over pairs: keys compared, a value put into a map, the sorted table of a map. -/
import Derived.Test.YtfcpooihihklaabKd
import Derived.Test.YtfcpooihihklaabGd
import Derived.Test.YtfcpooihihklaabSh
namespace Go.Proofs.Ytfcpooihihklaab
open Ieee Go.RowKit

theorem nan_u64 (a : Nat) (w : World) :
    Calls Try.prog 52 #[.int .u64 a] w fun e w' => e = .returned (.bool false) ∧ w' = w := by
  go_enter Try.func52, Try.ntmps52
  go_wp2
  go_ret
  exact ⟨ret_bool (by simp), rfl⟩

theorem compare_walk (a b : Nat) (w : World) :
    Calls Try.prog 43 #[.int .u64 a, .int .u64 b] w fun e w' => e = .returned (.int .i64 (cmpN a b)) ∧ w' = w := by
  by_cases h1 : a < b
  · have e : cmpN a b = -1 := if_pos h1
    rw [e]
    have h1' : (a : Int) < b := by omega
    go_enter Try.func43, Try.ntmps43
    go_wp2_with (go_at_call 52; refine (nan_u64 _ _).mono ?_; rintro e w' ⟨rfl, rfl⟩)
    go_ret
    exact ⟨rfl, rfl⟩
  by_cases h2 : b < a
  · have e : cmpN a b = 1 := by unfold cmpN; rw [if_neg h1, if_pos h2]
    rw [e]
    have h1' : ¬ ((a : Int) < b) := by omega
    have h2' : (b : Int) < a := by omega
    go_enter Try.func43, Try.ntmps43
    go_wp2_with (go_at_call 52; refine (nan_u64 _ _).mono ?_; rintro e w' ⟨rfl, rfl⟩)
    go_ret
    exact ⟨rfl, rfl⟩
  · have e : cmpN a b = 0 := by unfold cmpN; rw [if_neg h1, if_neg h2]
    rw [e]
    have h1' : ¬ ((a : Int) < b) := by omega
    have h2' : ¬ ((b : Int) < a) := by omega
    go_enter Try.func43, Try.ntmps43
    go_wp2_with (go_at_call 52; refine (nan_u64 _ _).mono ?_; rintro e w' ⟨rfl, rfl⟩)
    go_ret
    exact ⟨rfl, rfl⟩

theorem closure_walk (x y : Pr) (W : World) :
    Calls Try.prog 42 #[.agg #[.int .u64 x.k, .bool x.v.h, .int .u64 x.v.b], .agg #[.int .u64 y.k, .bool y.v.h, .int .u64 y.v.b]] W fun e w' => e = .returned (.int .i64 (cfP x y)) ∧ ∃ q os', w' = Sort.grow (W.drewN q) os' := by
  unfold cfP
  generalize hr : cmpN x.k y.k = r
  have hcon := fun W' => compare_walk x.k y.k W'
  rw [hr] at hcon
  clear hr
  go_enter Try.func42, Try.ntmps42
  go_wp2_with (go_at_call 43; refine (hcon _).mono ?_; rintro e w' ⟨rfl, rfl⟩)
  go_ret
  exact ⟨rfl, 0, _, by rw [Sort.alloc_eq_grow, Sort.alloc_eq_grow, Sort.grow_grow]; rfl⟩

theorem cmpLays [Inhabited Pr] (blk off size : Nat) (w : World) : CmpLays Try.prog 42 #[] encP 3 cfP blk off size w :=
  fun _ _ _ _ x y => closure_walk x y _

/-- The library's SortFunc over a row of pairs: what was there, sorted by key. -/
theorem sortFunc_walk {g cap : Nat} {m : List Pr} {w : World} (hM : Mq w g m) (hg : g < w.heap.size) (hl : m.length < 4611686018427387904) {t : List Pr} (rt : Rise t) (hp : m.Perm t) :
    Calls Try.prog 41 #[.slice (some ⟨g, 0, none⟩) m.length cap, .func (.func 42) #[] #[]] w fun e w' => e = .returned (.tuple #[]) ∧ Mq w' g t ∧ w.grownBy w' (some g) := by
  have eg : ∀ args w, (callFunc 42 args).run Try.prog w = .ok (.enter 42 args) w := enters_of Try.func42 (by kernel_rfl) rfl
  haveI : Inhabited Pr := ⟨⟨0, noV⟩⟩
  have hcon := AnyQ.slices_SortFunc lays6 3 Try.isAgg40 Try.sizeOf40 encP (fun _ => rfl) (fun x v hv => by simp [encP] at hv; rcases hv with rfl | rfl | rfl <;> rfl) cfP swoP 42 #[] g 0 cap m.toArray w eg (cmpLays g 0 _ w) (holds_of_mq hM) hg (by simpa using hl)
  refine hcon.mono ?_
  rintro e w' ⟨rfl, d', n, os, h1, h2, rfl⟩
  exact ⟨rfl, mq_sorted hM hg (by simpa using h1.1) (sorted_end rt hp h1 h2), grown_sortK d'⟩

theorem law_u : Maps.Keyed Try.prog 31 := Maps.int_keyed Try.underlying31

/-- Block b is a map of at most n entries: the table t. -/
def Mp (w : World) (b n : Nat) (t : List Pr) : Prop := w.ownsMap Try.prog 31 valElem b n (dT t)

theorem key_u {k : Nat} (hk : k < 18446744073709551616) : keyOf Try.prog 31 (.int .u64 k) = some (kL k) := by
  refine Maps.keyOf_int_mk Try.underlying31 ?_
  simp [Lit.wf, IntKind.min, IntKind.max, IntKind.signed, IntKind.bits]
  omega

theorem look_T {w : World} {b n : Nat} {t : List Pr} (h : Mp w b n t) {k : Nat} (hk : k < 18446744073709551616) :
    (Instr.lookup 68 (.map (some b)) (.int .u64 k) false).run Try.prog w = .ok (.agg #[.bool (getT k t).h, .int .u64 (getT k t).b]) w := by
  have hz : (zeroValue 33).run Try.prog w = .ok (valV noV) w := Try.zeroValue33 w
  obtain ⟨v, ps, hrun, hv⟩ := World.ownsMap.lookup h law_u Try.underlying68 hz (valElem_mk noV_ok) (key_u hk)
  obtain ⟨u, rfl, _, hu⟩ := valElem_inv hv
  rw [atKey_T] at hu
  simp only [Prod.mk.injEq] at hu
  have := dV_inj hu.1
  rw [this]
  exact hrun

theorem grown_of_below {w w' : World} (h : Below w.heap.size w w') : w.grownBy w' none := ⟨h.os, h.tape, h.output, h.size, fun i hi _ => h.block i hi⟩

theorem put_walk (kind : Int) {b n : Nat} {t : List Pr} {k : Nat} {v : Vl} (w : World) (hM : Mp w b n t) (hr : Rise t) (ho : okT t) (hn : n < maxLen) (hk : k < 18446744073709551616) (hv : v.ok) :
    Calls Try.prog 30 #[.int .i64 kind, .map (some b), .int .u64 k, .agg #[.bool v.h, .int .u64 v.b]] w fun e w' => e = .returned (.tuple #[]) ∧ Mp w' b (n + 1) (withT kind k v t) ∧ w.grownBy w' (some b) := by
  have HM : Hid (Mp w b n t) := hM
  have HR : Hid (Rise t) := hr
  have HO : Hid (okT t) := ho
  have HN : Hid (n < maxLen) := hn
  have HK : Hid (k < 18446744073709551616) := hk
  have HV : Hid v.ok := hv
  have hlk := look_T (World.ownsMap.alloc hM (Obj.cells #[.bool v.h, .int .u64 v.b] 33)) hk
  clear hM hr ho hn hk hv
  go_enter Try.func30, Try.ntmps30
  go_wp2_with (first
    | (go_at_call 9; refine (merge_walk kind (get_ok HO.out k) HV.out _).mono ?_; rintro e w2 ⟨rfl, hB⟩)
    | (at_mapUpdate; refine wpList_mapUpdate_own _ rfl _ _ _ 68 rfl 31 33 law_u Try.underlying68 valElem b n (dT t) rfl ((World.ownsMap.alloc HM.out _).kept (grown_of_below hB) (by simp)) HN.out _ _ (kL k) rfl rfl (key_u HK.out) (dV (mergeV kind (getT k t) v)) [] (valElem_mk (mergeV_ok kind (get_ok HO.out k) HV.out)) ?_; intro w3 hown3 hg3; go_frame))
  go_end0
  refine ⟨rfl, ?_, ?_⟩
  · rw [put_T HR.out] at hown3; exact hown3
  · exact (((World.grownBy_alloc w _ none).andThen (grown_of_below hB) (by simp)).but _).andThen hg3 (fun j hj => Or.inr hj)
end Go.Proofs.Ytfcpooihihklaab
