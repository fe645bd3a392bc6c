/- The sorted table of a map. -/
import Derived.Test.YtfcpooihihklaabKe
import Derived.Test.YtfcpooihihklaabKf
namespace Go.Proofs.Ytfcpooihihklaab
open Ieee Go.RowKit

theorem info_pair : (Try.prog.info? 40).map (fun i => (i.zero, i.size, i.bytes)) = some (some (.agg #[.int .u64 0, .bool false, .int .u64 0]), 3, 24) := by kernel_rfl

theorem qv_one (w : World) (p : Pr) (hp : p.ok) (t : TypeId) : Qv (w.alloc (Obj.cells #[.int .u64 p.k, .bool p.v.h, .int .u64 p.v.b] t)) (.slice (some ⟨w.heap.size, 0, none⟩) 1 1) [p] := by
  refine ⟨⟨_, 1, rfl, by simp, by simp [maxLen], by simp, fun i hi => ?_⟩, by simpa using hp⟩
  have : i = 0 := by simpa using hi
  subst this
  refine ⟨_, _, rfl, ?_, ?_, ?_⟩ <;> simp [go_sem]

theorem qv_at (w : World) (p : Pr) (hp : p.ok) (t : TypeId) (g : Nat) (hg : g = w.heap.size) : Qv (w.alloc (Obj.cells #[.int .u64 p.k, .bool p.v.h, .int .u64 p.v.b] t)) (.slice (some ⟨g, 0, none⟩) 1 1) [p] := by
  subst hg; exact qv_one w p hp t

/-- One step of a loop over a map: some pair of the table that was still to come. -/
theorem wpList_next_T {w : World} {ops : Array Oper} {rest : List Oper} {o : Oper} {a : Act} {Q : Exit → Act → World → Prop} (hg : o.guard = none) (it : Operand) (hop : o.op = Op.next it false)
    (b r n : Nat) (t : List Pr) (left : Lit → Bool) (cnt : Nat) (hit : a.eval it = .pointer (some ⟨r, 0, none⟩)) (h : w.ranges Try.prog 31 valElem b r n (dT t) left cnt) (rt : Rise t)
    (hDone : (∀ kl, left kl = false) → wpList Try.prog ops Q rest (a.put o.dst (.tuple #[.bool false])) w)
    (hMore : ∀ (p : Pr) (w' : World) (cnt' : Nat), p ∈ t → left (kL p.k) = true → w'.ranges Try.prog 31 valElem b r n (dT t) (fun z => left z && !z.sameKey (kL p.k)) cnt' → cnt' < cnt → w.grownBy w' (some r) → w'.heap.size = w.heap.size →
      (Instr.entry (.pointer (some ⟨r, 0, none⟩))).run Try.prog w' = .ok (.tuple #[.int .u64 p.k, .agg #[.bool p.v.h, .int .u64 p.v.b]]) w' →
      wpList Try.prog ops Q rest (a.put o.dst (.tuple #[.bool true, .int .u64 p.k, .agg #[.bool p.v.h, .int .u64 p.v.b]])) w') :
    wpList Try.prog ops Q (o :: rest) a w := by
  refine wpList_next_ranges w hg it hop 31 law_u valElem (fun x : Int => Value.int .u64 x) valV (fun key kl hkey => ?_) (fun v y hv => ?_) b r n (dT t) left cnt hit h (fun _ hl => hDone hl) (fun x c kl y w' cnt' hkey hlk hv hat hrg hlt hgr hsz hen => ?_)
  · obtain ⟨x, rfl, _⟩ := Maps.keyOf_int_inv Try.underlying31 hkey; exact ⟨x, rfl⟩
  · obtain ⟨u, rfl, _⟩ := valElem_inv hv; exact ⟨u, rfl⟩
  · obtain ⟨x', ex, rfl, hwx⟩ := Maps.keyOf_int_inv Try.underlying31 hkey
    cases ex
    obtain ⟨u, eu, _, rfl⟩ := valElem_inv hv
    have hcu : c = u := by
      unfold valV at eu
      simp at eu
      obtain ⟨ch, cb⟩ := c
      obtain ⟨uh, ub⟩ := u
      simp only at eu
      rw [eu.1, show cb = ub by omega]
    subst hcu
    have h0 : 0 ≤ x := by
      have : 0 ≤ x ∧ x ≤ 18446744073709551615 := by simpa [Lit.wf, IntKind.min, IntKind.max, IntKind.signed, IntKind.bits] using hwx
      omega
    obtain ⟨k, rfl⟩ : ∃ k : Nat, x = k := ⟨x.toNat, by omega⟩
    obtain ⟨p, hp, rfl⟩ := (has_T t k).1 (Maps.has_true_of_atKey hat)
    have hc : c = p.v := by
      have h1 := hat (dV noV)
      rw [show Lit.int .u64 (p.k : Int) = kL p.k from rfl, atKey_T, get_mem rt hp] at h1
      exact (dV_inj h1).symm
    subst hc
    exact hMore p w' cnt' hp hlk hrg hlt hgr hsz hen

/-- Where the loop over a map stands: the pairs that have come lie in the row g. -/
def Srt (w : World) (g r b n : Nat) (t : List Pr) (mv : Value) (wr : World) : Prop :=
  ∃ (left : Lit → Bool) (cnt : Nat) (m : List Pr), wr.ranges Try.prog 31 valElem b r n (dT t) left cnt ∧ m.Perm (t.filter fun q => !left (kL q.k)) ∧ m.length + cnt ≤ t.length ∧
    mv = .slice (some ⟨g, 0, none⟩) m.length t.length ∧ wr.ownsRow g 40 3 (.slice (some ⟨g, 0, none⟩) m.length t.length) m.length (flatQ m) ∧ Below w.heap.size w wr

theorem perm_end {t m : List Pr} {left : Lit → Bool} (h : m.Perm (t.filter fun q => !left (kL q.k))) (hl : ∀ kl, left kl = false) : m.Perm t := by
  have : t.filter (fun q => !left (kL q.k)) = t := List.filter_eq_self.2 fun q _ => by simp [hl]
  rw [this] at h; exact h
theorem perm_start (t : List Pr) : ([] : List Pr).Perm (t.filter fun q => !Maps.has (dT t) (kL q.k)) := by
  have : t.filter (fun q => !Maps.has (dT t) (kL q.k)) = [] := List.filter_eq_nil_iff.2 fun q hq => by simp [(has_T t q.k).2 ⟨q, hq, rfl⟩]
  rw [this]

set_option maxRecDepth 100000 in
set_option maxHeartbeats 2000000 in
theorem sorted_walk {b n : Nat} {t : List Pr} (w : World) (hM : Mp w b n t) (rt : Rise t) (ho : okT t) (hl : t.length * 24 ≤ 281474976710656) :
    Calls Try.prog 31 #[.map (some b)] w fun e w' => e = .returned (.slice (some ⟨w.heap.size, 0, none⟩) t.length t.length) ∧ Mq w' w.heap.size t ∧ Below w.heap.size w w' ∧ w.heap.size < w'.heap.size := by
  have HM : Hid (Mp w b n t) := hM
  have HBL : Hid (b < w.heap.size) := World.ownsMap.lt hM
  have HR : Hid (Rise t) := rt
  have HO : Hid (okT t) := ho
  have HL : Hid (t.length * 24 ≤ 281474976710656) := hl
  have HMX : Hid (t.length ≤ maxLen) := by show _ ≤ _; simp only [maxLen]; omega
  obtain ⟨i0, hi0, hz0, hz1, hz2⟩ := info_partsQ info_pair
  have HI0 : Hid (Try.prog.info? 40 = some i0) := hi0
  have HI1 : Hid (i0.zero = some (.agg #[.int .u64 0, .bool false, .int .u64 0])) := hz0
  have HI2 : Hid (i0.size = 3) := hz1
  have HI3 : Hid (i0.bytes = 24) := hz2
  have hln := World.ownsMap.len (w := w) hM Try.underlying68 3
  rw [size_T] at hln
  clear hM rt ho hl hi0 hz0 hz1 hz2
  go_enter Try.func31, Try.ntmps31
  go_wp2_with (first
    | (at_make; refine wpList_make_own _ (by rfl) _ _ 28 (by rfl) w.heap.size 40 i0 (.agg #[.int .u64 0, .bool false, .int .u64 0]) 3 Try.underlying28 HI0.out HI1.out HI2.out .i64 .i64 _ t.length (by rfl) (by rfl) (by rfl) (by rw [HI3.out]; have := HL.out; omega) HMX.out (Nat.le_refl _) ?_; intro w2 hown hgrow)
    | (at_range; refine wpList_range_own _ rfl _ 68 rfl 31 33 law_u Try.underlying68 valElem b n (dT t) rfl (World.ownsMap.kept HM.out hgrow (by simp)) ?_; intro w3 hrg0 hg3 hs3))
  go_frame
  have R0 : Srt w w.heap.size w2.heap.size b n t (.slice (some ⟨w.heap.size, 0, none⟩) 0 t.length) w3 :=
    ⟨_, _, [], hrg0, perm_start t, by rw [size_T]; simp, rfl, hown.kept hg3 (Or.inr (by simp [Value.ownBlock])), ((Below.refl _ _).grown hgrow (Nat.le_refl _) (by simp)).grown hg3 (Nat.le_of_lt (hown.lt w.heap.size rfl).2) (by simp)⟩
  have HGR : Hid (w.heap.size < w2.heap.size) := (hown.lt w.heap.size rfl).2
  clear hown hgrow hrg0 hg3 hs3 hln
  go_loopw [3] (fun mv wr => Srt w w.heap.size w2.heap.size b n t mv wr) (fun _ wr => wr.rangeLeft b w2.heap.size)
  case atStart => exact R0
  case round =>
    clear R0
    obtain ⟨left, cnt, m, hrg, hpm, hmc, rfl, hown, hB⟩ := hrel
    have HRG : Hid (wr.ranges Try.prog 31 valElem b w2.heap.size n (dT t) left cnt) := hrg
    have HPM : Hid (m.Perm (t.filter fun q => !left (kL q.k))) := hpm
    have HMC : Hid (m.length + cnt ≤ t.length) := hmc
    have HOW : Hid (wr.ownsRow w.heap.size 40 3 (.slice (some ⟨w.heap.size, 0, none⟩) m.length t.length) m.length (flatQ m)) := hown
    have HB : Hid (Below w.heap.size w wr) := hB
    clear hrg hpm hmc hown hB
    go_wp2_with (at_next; refine wpList_next_T (by rfl) _ rfl b w2.heap.size n t left cnt rfl HRG.out HR.out ?_ ?_)
    · intro hleft
      have HP : Hid (m.Perm t) := perm_end HPM.out hleft
      have HML : Hid (m.length = t.length) := HP.out.length_eq
      clear hleft
      go_wp2_with fail
      refine (sortFunc_walk (own_mq HOW.out) (HOW.out.lt w.heap.size rfl).2 (by have := HL.out; have := HML.out; omega) HR.out HP.out).mono ?_
      rintro e w5 ⟨rfl, hM5, hg5⟩
      go_wp2_with fail
      go_ret
      exact ⟨by rw [HML.out]; rfl, hM5, HB.out.grown hg5 HB.out.size (by simp), Nat.lt_of_lt_of_le (HOW.out.lt w.heap.size rfl).2 hg5.size⟩
    · intro p w4 cnt1 hp hlx hrg1 hlt hg1 hs1 hen
      have HP : Hid (p ∈ t) := hp
      have HLX : Hid (left (kL p.k) = true) := hlx
      have HRG1 : Hid (w4.ranges Try.prog 31 valElem b w2.heap.size n (dT t) (fun z => left z && !z.sameKey (kL p.k)) cnt1) := hrg1
      have HG1 : Hid (wr.grownBy w4 (some w2.heap.size)) := hg1
      have HLT : Hid (cnt1 < cnt) := hlt
      clear hp hlx hrg1 hlt hg1 hs1
      have HOW1 : Hid (w4.ownsRow w.heap.size 40 3 (.slice (some ⟨w.heap.size, 0, none⟩) m.length t.length) m.length (flatQ m)) := HOW.out.kept HG1.out (Or.inr (by have := HGR.out; simp [Value.ownBlock]; omega))
      have hfit : m.length + 1 ≤ t.length := by have := HMC.out; have := HLT.out; omega
      go_wp2_with (at_builtin; refine wpList_append_qv (by rfl) _ _ 28 (by rfl) w.heap.size 40 i0 Try.underlying28 HI0.out HI2.out w.heap.size m.length t.length m (by rfl) ((HOW1.out.alloc _).alloc _) _ [p] (by rfl) (qv_at _ p (HO.out p HP.out) _ _ (by simp)) (by simpa using hfit) ?_; intro w6 hown6 hgrow6)
      have hg6 : w4.grownBy w6 (some w.heap.size) := (((World.grownBy_alloc w4 _ none).andThen (World.grownBy_alloc _ _ none) (by simp)).but _).andThen hgrow6 (fun j hj => Or.inr hj)
      have hrg6 := HRG1.out.kept hg6 (by have := HBL.out; simp; omega) (by have := HGR.out; simp; omega)
      have R' : Srt w w.heap.size w2.heap.size b n t (.slice (some ⟨w.heap.size, 0, none⟩) (m.length + 1) t.length) w6 :=
        ⟨_, cnt1, m ++ [p], hrg6, left_step HR.out HP.out left HLX.out HPM.out, by have := HMC.out; have := HLT.out; simp; omega, by simp, by simpa using hown6,
          (HB.out.grown HG1.out HB.out.size (by have := HGR.out; simp; omega)).grown hg6 (Nat.le_trans HB.out.size HG1.out.size) (by simp)⟩
      have hms : w6.rangeLeft b w2.heap.size < wr.rangeLeft b w2.heap.size := by rw [hrg6.left_eq, HRG.out.left_eq]; exact HLT.out
      clear hown6 hgrow6 hg6 hrg6
      go_wp2_with fail
      go_roundw
      case rel => exact R'
      case measure => exact hms
end Go.Proofs.Ytfcpooihihklaab
