/- takeNum, TakeNums and its reference. -/
import Derived.Test.YtnnammlipfappaaWr

import Derived.Test.YtnnammlipfappaaWn

import Derived.Lib.Hide

namespace Go.Proofs.Ytnnammlipfappaa

open Go.RowKit

theorem t3_lit {r : Nat × Nat × Nat} {a b c : Nat} (h : r = (a, b, c)) : t3 r = .tuple #[.int .u64 a, .int .i64 b, .int .i64 c] := by subst h; rfl
theorem Bv.le_cap {w : World} {ao : Option Addr} {cap : Nat} {l : List Nat} (h : Bv w (.slice ao l.length cap) l) : l.length ≤ cap := by
  obtain ⟨⟨ao', cap', e, h1, _⟩, _⟩ := h
  simp only [Value.slice.injEq] at e
  obtain ⟨_, _, rfl⟩ := e
  rwa [ib_len] at h1




/-- One number of a list, read. -/
def tnum (l : List Nat) : Nat × Nat × Nat := match Wm.take l with
  | (x, n, 0) => if 4611686018427387904 < x then (0, 0, 4) else (x, n, 0)
  | (_, _, e) => (0, 0, e)


def t3i (r : Nat × Nat × Nat) : Value := .tuple #[.int .i64 (r.1 : Nat), .int .i64 (r.2.1 : Nat), .int .i64 (r.2.2 : Nat)]
theorem t3i_lit {r : Nat × Nat × Nat} {a b c : Nat} (h : r = (a, b, c)) : t3i r = .tuple #[.int .i64 a, .int .i64 b, .int .i64 c] := by subst h; rfl


theorem tnum_err {l : List Nat} {e : Nat} (h : Wm.take l = (0, 0, e)) (h34 : e = 3 ∨ e = 4) : tnum l = (0, 0, e) := by
  unfold tnum; rw [h]; rcases h34 with rfl | rfl <;> rfl
theorem tnum_big {l : List Nat} {x n : Nat} (h : Wm.take l = (x, n, 0)) (hb : 4611686018427387904 < x) : tnum l = (0, 0, 4) := by
  unfold tnum; rw [h]; simp only; rw [if_pos hb]
theorem tnum_ok {l : List Nat} {x n : Nat} (h : Wm.take l = (x, n, 0)) (hb : ¬ 4611686018427387904 < x) : tnum l = (x, n, 0) := by
  unfold tnum; rw [h]; simp only; rw [if_neg hb]


/-- What one number's reading says. -/
theorem tnum_form (l : List Nat) (hl : ∀ c ∈ l, c < 256) :
    (∃ e, tnum l = (0, 0, e) ∧ (e = 3 ∨ e = 4) ∧ ∀ k p (b : List Nat) acc, b.drop p = l → Wm.tnums (k + 1) b p acc = ([], 0, e)) ∨
    (∃ x n, tnum l = (x, n, 0) ∧ x ≤ 4611686018427387904 ∧ 1 ≤ n ∧ n ≤ l.length ∧ ∀ k p (b : List Nat) acc, b.drop p = l → Wm.tnums (k + 1) b p acc = Wm.tnums k b (p + n) (acc ++ [x])) := by
  rcases Wm.take_form l hl with ⟨e, he, h34⟩ | ⟨x, n, hx, _, h1, h2, _⟩
  · refine .inl ⟨e, tnum_err he h34, h34, fun k p b acc hb => ?_⟩
    rw [Wm.tnums, hb, he]
    rcases h34 with rfl | rfl <;> rfl
  · by_cases hb : 4611686018427387904 < x
    · refine .inl ⟨4, tnum_big hx hb, .inr rfl, fun k p b acc hd => ?_⟩
      rw [Wm.tnums, hd, hx]
      simp only
      rw [if_pos hb]
    · refine .inr ⟨x, n, tnum_ok hx hb, by omega, h1, h2, fun k p b acc hd => ?_⟩
      rw [Wm.tnums, hd, hx]
      simp only
      rw [if_neg hb]


set_option maxRecDepth 100000 in
set_option maxHeartbeats 1000000 in
theorem takenum_walk {w : World} {v : Value} {l : List Nat} (h : Bv w v l) :
    Calls Try.prog 76 #[v] w fun e w' => e = .returned (t3i (tnum l)) ∧ w' = w := by
  have HV : Hid (Bv w v l) := h
  obtain ⟨a0, c0, rfl⟩ := bv_form h
  clear h
  go_enter Try.func76, Try.ntmps76
  go_wp2_with fail
  refine (take_walk HV.out).mono ?_
  rintro e w1 ⟨he, rfl⟩
  rcases Wm.take_form l HV.out.2 with ⟨er, her, h34⟩ | ⟨x, n, htx, hx, hn1, hn2, henc⟩
  · rw [t3_lit her] at he
    subst he
    have HER : Hid (Wm.take l = (0, 0, er)) := her
    clear her
    rcases h34 with rfl | rfl
    · go_wp2_with fail
      go_ret3
      exact ⟨by rw [t3i_lit (tnum_err HER.out (.inl rfl))]; rfl, rfl⟩
    · go_wp2_with fail
      go_ret3
      exact ⟨by rw [t3i_lit (tnum_err HER.out (.inr rfl))]; rfl, rfl⟩
  · rw [t3_lit htx] at he
    subst he
    have HT : Hid (Wm.take l = (x, n, 0)) := htx
    clear htx henc hx hn1 hn2
    by_cases hb : (4611686018427387904 : Int) < (x : Int)
    · go_wp2_with fail
      go_ret3
      exact ⟨by rw [t3i_lit (tnum_big HT.out (by omega))]; rfl, rfl⟩
    · have hbb : decide ((4611686018427387904 : Int) < (x : Int)) = false := decide_eq_false hb
      have HB : Hid (¬ 4611686018427387904 < x) := by show ¬ _ < _; omega
      have hwr : IntKind.i64.wrap (x : Int) = (x : Int) := by rw [IntKind.wrap_i64]; omega
      clear hb
      go_wp2_with fail
      go_ret3
      exact ⟨by rw [t3i_lit (tnum_ok HT.out HB.out)]; rfl, rfl⟩


theorem sv_one_int (w : World) (e : TypeId) (x : Int) : Sv .i64 (w.alloc (.cells #[.int .i64 x] e)) (.slice (some ⟨w.heap.size, 0, none⟩) 1 1) [x] := sv_one .i64 w e x


theorem sv_form {k : IntKind} {w : World} {v : Value} {l : List Int} (h : Sv k w v l) : ∃ ao cap, v = .slice ao l.length cap := by
  obtain ⟨ao, cap, rfl, _⟩ := h
  exact ⟨ao, cap, rfl⟩


/-- What TakeNums leaves: r is its answer. -/
def NumsGot (r : List Nat × Nat × Nat) (w : World) (e : Ending) (w' : World) : Prop :=
  ∃ ao cap, e = .returned (.tuple #[.slice ao (ib r.1).length cap, .int .i64 (r.2.1 : Nat), .int .i64 (r.2.2 : Nat)]) ∧ w'.ownsRow w.heap.size 3 1 (.slice ao (ib r.1).length cap) r.1.length ((ib r.1).map (Value.int .i64)) ∧ Below w.heap.size w w'


theorem numsgot_none {r : List Nat × Nat × Nat} {w w' : World} {e : Nat} {c : Int} (h : r = ([], 0, e)) (hc : c = e) (hB : Below w.heap.size w w') : NumsGot r w (.returned (.tuple #[.slice none 0 0, .int .i64 0, .int .i64 c])) w' := by
  subst h hc
  exact ⟨none, 0, rfl, ⟨rfl, .inl ⟨rfl, rfl⟩⟩, hB⟩


theorem numsgot_some {r : List Nat × Nat × Nat} {w w' : World} {n p : Nat} {acc : List Nat} {v : Value} {c : Int} (h : r = (acc, p, 0)) (hown : w'.ownsRow w.heap.size 3 1 v n ((ib acc).map (Value.int .i64))) (hB : Below w.heap.size w w') (hc : c = p) :
    NumsGot r w (.returned (.tuple #[v, .int .i64 c, .int .i64 0])) w' := by
  subst h hc
  obtain ⟨ao, cap, rfl⟩ := sv_form (own_sv hown)
  have hn : n = acc.length := by have := own_len hown; rw [ib_len] at this; exact this
  subst hn
  exact ⟨ao, cap, rfl, hown, hB⟩


/-- The loop: k numbers of c have been read, p bytes are behind. -/
def TNRel (l : List Nat) (c : Nat) (r : List Nat × Nat × Nat) (H : Nat) (w : World) (pv v kv : Value) (kk : IntKind) (wr : World) : Prop :=
  ∃ (k p : Nat) (acc : List Nat), kv = .int kk k ∧ k ≤ c ∧ pv = .int .i64 p ∧ p ≤ l.length ∧ k ≤ p ∧ acc.length = k ∧ Wm.tnums (c - k) l p acc = r ∧
    wr.ownsRow H 3 1 v k ((ib acc).map (Value.int .i64)) ∧ Below H w wr


theorem tnrel_start {l : List Nat} {c p : Nat} {r : List Nat × Nat × Nat} {w : World} (kk : IntKind) (hp : p ≤ l.length) (h : Wm.tnums c l p [] = r) :
    TNRel l c r w.heap.size w (.int .i64 p) (.slice (some ⟨w.heap.size, 0, none⟩) 0 0) (.int kk 0) kk (w.alloc (.cells #[] 3)) :=
  ⟨0, p, [], rfl, Nat.zero_le _, rfl, hp, Nat.zero_le _, rfl, h, World.ownsRow_made w #[] 0 (Nat.le_refl _) (by simp [maxLen]) rfl, below_alloc w _⟩


theorem tnrel_step {l : List Nat} {c k p x n H : Nat} {r : List Nat × Nat × Nat} {acc : List Nat} {w wr w1 : World} {v v' : Value} (kk : IntKind) (hk : k < c) (hpn : p + n ≤ l.length) (hkp : k ≤ p) (hn : 1 ≤ n) (hacc : acc.length = k)
    (ht : Wm.tnums (c - k) l p acc = r) (hstep : ∀ j q (b : List Nat) a, b.drop q = l.drop p → Wm.tnums (j + 1) b q a = Wm.tnums j b (q + n) (a ++ [x])) (hbel : Below H w wr) (hH : H ≤ wr.heap.size) (o : Obj)
    (hown : wr.ownsRow H 3 1 v k ((ib acc).map (Value.int .i64))) (hown' : w1.ownsRow H 3 1 v' (k + 1) ((ib acc).map (Value.int .i64) ++ [(x : Int)].map (Value.int .i64))) (hg : (wr.alloc o).grownBy w1 v.ownBlock) :
    TNRel l c r H w (.int .i64 ((p : Int) + (n : Int))) v' (.int kk ((k : Int) + 1)) kk w1 := by
  refine ⟨k + 1, p + n, acc ++ [x], rfl, hk, by congr 1, hpn, by omega, by simp [hacc], ?_, ?_, hbel.trans (((below_alloc wr o).mono hH).trans (grown_below (hown.alloc o) hg (by simp; omega)))⟩
  · rw [← hstep (c - (k + 1)) p l acc rfl, ← ht]
    congr 1; omega
  · rw [ib_append, List.map_append]
    exact hown'


theorem Bv.cutFrom {w : World} {ao : Option Addr} {cap : Nat} {l : List Nat} (h : Bv w (.slice ao l.length cap) l) (p : Nat) (hp : p ≤ l.length) (hne : ¬ cap = p) :
    Bv w (.slice (ao.map fun a => a.add p) (l.length - p) (cap - p)) (l.drop p) := by
  have := h.cut p l.length hp (Nat.le_refl _) False (by simp [hne])
  have e : (l.drop p).take (l.length - p) = l.drop p := List.take_of_length_le (by rw [List.length_drop]; omega)
  rw [e] at this
  simpa using this


theorem Bv.cutEnd {w : World} {ao : Option Addr} {l : List Nat} {p : Nat} (hp : l.length ≤ p) : Bv w (.slice ao 0 0) (l.drop p) := by
  rw [List.drop_eq_nil_of_le hp]
  exact ⟨⟨ao, 0, rfl, Nat.le_refl _, by simp [maxLen], fun _ => rfl, fun i hi => by simp [ib] at hi⟩, by simp⟩


theorem takeNums_err {l : List Nat} {e : Nat} (most : Int) (h : Wm.take l = (0, 0, e)) (h34 : e = 3 ∨ e = 4) : Wm.takeNums l most = ([], 0, e) := by
  unfold Wm.takeNums; rw [h]; rcases h34 with rfl | rfl <;> rfl
theorem takeNums_long {l : List Nat} {c p : Nat} {most : Int} (h : Wm.take l = (c, p, 0)) (hm : most < (c : Int)) : Wm.takeNums l most = ([], 0, 6) := by
  unfold Wm.takeNums; rw [h]; simp only; rw [if_pos hm]
theorem takeNums_go {l : List Nat} {c p : Nat} {most : Int} (h : Wm.take l = (c, p, 0)) (hm : ¬ most < (c : Int)) : Wm.takeNums l most = Wm.tnums c l p [] := by
  unfold Wm.takeNums; rw [h]; simp only; rw [if_neg hm]


set_option maxRecDepth 100000 in
set_option maxHeartbeats 4000000 in
theorem takenums_walk {w : World} {v : Value} {l : List Nat} (most : Int) (h : Bv w v l) (hm : most ≤ 4) :
    Calls Try.prog 62 #[v, .int .i64 most] w (NumsGot (Wm.takeNums l most) w) := by
  have HV : Hid (Bv w v l) := h
  have HM : Hid (most ≤ 4) := hm
  have hle : (l.length : Int) ≤ 9223372036854775807 := by have h2 := h.len_le; simp only [maxLen] at h2; omega
  obtain ⟨r, hr⟩ : ∃ r, r = Wm.takeNums l most := ⟨_, rfl⟩
  have HR : Hid (r = Wm.takeNums l most) := hr
  rw [← hr]
  obtain ⟨a0, c0, rfl⟩ := bv_form h
  have hc0 : (l.length : Int) ≤ (c0 : Int) := by have := h.le_cap; omega
  clear h hm hr
  go_enter Try.func62, Try.ntmps62
  go_wp2_with fail
  refine (take_walk HV.out).mono ?_
  rintro e w1 ⟨he, rfl⟩
  rcases Wm.take_form l HV.out.2 with ⟨er, her, h34⟩ | ⟨c, p0, htx, hx, hn1, hn2, henc⟩
  · rw [t3_lit her] at he
    subst he
    have HER : Hid (Wm.take l = (0, 0, er)) := her
    clear her
    rcases h34 with rfl | rfl
    · go_wp2_with fail
      go_ret3
      exact numsgot_none (by rw [HR.out, takeNums_err most HER.out (.inl rfl)]) rfl (Below.refl _ _)
    · go_wp2_with fail
      go_ret3
      exact numsgot_none (by rw [HR.out, takeNums_err most HER.out (.inr rfl)]) rfl (Below.refl _ _)
  · rw [t3_lit htx] at he
    subst he
    have HT : Hid (Wm.take l = (c, p0, 0)) := htx
    have HP0 : Hid (p0 ≤ l.length) := hn2
    clear htx henc hx hn1 hn2
    by_cases hm0 : most < 0
    · go_wp2_with fail
      go_ret3
      exact numsgot_none (by rw [HR.out, takeNums_long HT.out (by omega)]) rfl (Below.refl _ _)
    · have hmw : IntKind.u64.wrap most = most := wrap_u64_id (by omega) (by have := HM.out; omega)
      by_cases hml : most < (c : Int)
      · go_wp2_with fail
        go_ret3
        exact numsgot_none (by rw [HR.out, takeNums_long HT.out (by omega)]) rfl (Below.refl _ _)
      · have hcw : IntKind.i64.wrap (c : Int) = (c : Int) := by have := HM.out; rw [IntKind.wrap_i64]; omega
        have HCL : Hid ((c : Int) < 9223372036854775808) := by have := HM.out; show _ < _; omega
        have HCM : Hid (c ≤ 4) := by have := HM.out; show _ ≤ _; omega
        have HST : Hid (TNRel l c r w1.heap.size w1 (.int .i64 p0) (.slice (some ⟨w1.heap.size, 0, none⟩) 0 0) (.int .i64 0) .i64 (w1.alloc (.cells #[] 3))) :=
          tnrel_start .i64 HP0.out (by rw [HR.out, takeNums_go HT.out (by omega)])
        have hmlb : decide (most < (c : Int)) = false := decide_eq_false hml
        have hm0b : decide (most < 0) = false := decide_eq_false hm0
        clear hml hm0
        go_wp2_with fail
        go_loopw [8, 10, 34] (fun pv v kv wr => TNRel l c r w1.heap.size w1 pv v kv .i64 wr) (fun _ _ kv _ => c - (intOf kv).toNat)
        case atStart => exact HST.out
        case round =>
          obtain ⟨k, p, acc, rfl, hk, rfl, hp, hkp, hacc, htn, hown, hbel⟩ := hrel
          have HTN : Hid (Wm.tnums (c - k) l p acc = r) := htn
          have HA : Hid (acc.length = k) := hacc
          have hH : w1.heap.size ≤ wr.heap.size := hbel.size
          have hpl : (p : Int) ≤ (l.length : Int) := by omega
          have HVr : Hid (Bv wr (.slice a0 l.length c0) l) := HV.out.below hbel
          clear htn hacc HST
          by_cases hlt : (k : Int) < (c : Int)
          · have hkl : (k : Int) + 1 ≤ 9223372036854775807 := by have := HCL.out; omega
            have HPN : Hid (p ≤ l.length) := hp
            have HKP : Hid (k ≤ p) := hkp
            have HKC : Hid (k < c) := by show k < c; omega
            rcases tnum_form (l.drop p) (fun d hd => HV.out.2 d (List.mem_of_mem_drop hd)) with ⟨er, her, h34, hst⟩ | ⟨x, n, htx, hx62, hn1, hn2, hst⟩
            · have HE : Hid (r = ([], 0, er)) := by
                show r = _
                rw [← HTN.out, ← hst (c - k - 1) p l acc rfl]; congr 1; have := HKC.out; omega
              have HER : Hid (tnum (l.drop p) = (0, 0, er)) := her
              clear hst her hp hkp hk
              by_cases hcp : c0 = p
              · have hlp : l.length = p := by omega
                have HLP : Hid (l.length ≤ p) := by show _ ≤ _; omega
                subst hcp
                go_wp2_with fail
                refine (takenum_walk (Bv.cutEnd (w := wr) (ao := a0) HLP.out)).mono ?_
                rintro e w3 ⟨he, rfl⟩
                rw [t3i_lit HER.out] at he
                subst he
                rcases h34 with rfl | rfl
                · go_wp2_with fail
                  go_ret3
                  exact numsgot_none HE.out rfl hbel
                · go_wp2_with fail
                  go_ret3
                  exact numsgot_none HE.out rfl hbel
              · go_wp2_with fail
                refine (takenum_walk (HVr.out.cutFrom p HPN.out hcp)).mono ?_
                rintro e w3 ⟨he, rfl⟩
                rw [t3i_lit HER.out] at he
                subst he
                rcases h34 with rfl | rfl
                · go_wp2_with fail
                  go_ret3
                  exact numsgot_none HE.out rfl hbel
                · go_wp2_with fail
                  go_ret3
                  exact numsgot_none HE.out rfl hbel
            · rw [List.length_drop] at hn2
              have HX : Hid (tnum (l.drop p) = (x, n, 0)) := htx
              have HS : Hid (∀ j q (b : List Nat) a, b.drop q = l.drop p → Wm.tnums (j + 1) b q a = Wm.tnums j b (q + n) (a ++ [x])) := hst
              have HN1 : Hid (1 ≤ n) := hn1
              have HN2 : Hid (p + n ≤ l.length) := by show _ ≤ _; omega
              have hpn : (p : Int) + (n : Int) ≤ 9223372036854775807 := by omega
              have hcp : ¬ c0 = p := by omega
              clear hst htx hn1 hn2 hx62 hp hkp hk
              go_wp2_with fail
              refine (takenum_walk (HVr.out.cutFrom p HPN.out hcp)).mono ?_
              rintro e w3 ⟨he, rfl⟩
              rw [t3i_lit HX.out] at he
              subst he
              have HBD : Hid ((k + 1) * 8 ≤ 140737488355328) := by show _ ≤ _; have := HKC.out; have := HCM.out; omega
              go_wp2_with (at_builtin; refine wpList_append_sv (by rfl) (.tmp 47) (.tmp 49) 37 (by rfl) w1.heap.size 3 .i64 8 Try.underlying37 info_i64 _ _ _ (by rfl) (hown.alloc _) _ [_] (by rfl) (sv_one .i64 _ _ _) (by have := HBD.out; simp [maxLen]; omega) (by have := HBD.out; simp; omega) (by simp; omega) ?_; intro v' w4 hown' hgrow)
              have R := tnrel_step .i64 HKC.out HN2.out HKP.out HN1.out HA.out HTN.out HS.out hbel hH _ hown hown' hgrow
              clear hown' hgrow
              go_wp2
              go_roundw
              case rel => exact R
              case measure => simp [intOf]; omega
          · obtain rfl : k = c := by omega
            have HO : Hid (wr.ownsRow w1.heap.size 3 1 u10 k ((ib acc).map (Value.int .i64))) := hown
            clear hown
            go_wp2_with fail
            go_ret3
            exact numsgot_some (by rw [← HTN.out, Nat.sub_self, Wm.tnums]) HO.out hbel rfl
end Go.Proofs.Ytnnammlipfappaa


