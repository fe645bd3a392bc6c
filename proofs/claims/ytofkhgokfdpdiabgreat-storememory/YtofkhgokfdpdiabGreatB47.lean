/- A row of jobs: what a store holds behind it. -/
import Derived.Test.YtofkhgokfdpdiabGreatB46
import Derived.Test.YtofkhgokfdpdiabGreatB02
import Derived.Test.YtofkhgokfdpdiabGreatB06
import Derived.Test.YtofkhgokfdpdiabGreatB01
import Derived.Test.YtofkhgokfdpdiabGreatB41
set_option maxRecDepth 100000
set_option maxHeartbeats 16000000
namespace Go.Proofs.YtofkhgokfdpdiabGreat
section
open Ieee Go.RowKit

structure SB (w : World) (b : Nat) (x y : Value) : Prop where
 c0 : w.cell? ⟨b, 0, none⟩ = some x
 c1 : w.cell? ⟨b, 1, none⟩ = some y
end
section
open Go.RowKit

theorem info_u64 : (Tryz.prog.info? 33).map (fun i => (i.zero, i.size, i.bytes)) = some (some (.int .u64 0), 1, 8) := by kernel_rfl
def keyL (l : List Pr) : List Int := l.map fun p => (p.k : Int)
theorem keyL_snoc (l : List Pr) {i : Nat} (hi : i < l.length) : keyL (l.take (i + 1)) = keyL (l.take i) ++ [(l[i].k : Int)] := by
 unfold keyL; rw [List.take_succ_eq_append_getElem hi, List.map_append]; rfl
def Ky (w : World) (l : List Pr) (v iv : Value) (wr : World) : Prop :=
 ∃ i : Nat, i ≤ l.length ∧ iv = .int .i64 i ∧ wr.ownsRow w.heap.size 33 1 v i ((keyL (l.take i)).map (Value.int .u64)) ∧ Below w.heap.size w wr
theorem ky_step {w wr w1 w2 : World} {l : List Pr} {v v' : Value} {i : Nat} {p : Pr} (hi : i < l.length) (hp : p = l[i]) (hB : Below w.heap.size w wr) (h1 : Below wr.heap.size wr w1)
  (hv : w1.ownsRow w.heap.size 33 1 v i ((keyL (l.take i)).map (Value.int .u64))) (hg : w1.grownBy w2 v.ownBlock) (ho : w2.ownsRow w.heap.size 33 1 v' (i + 1) ((keyL (l.take i)).map (Value.int .u64) ++ [(p.k : Int)].map (Value.int .u64))) :
  Ky w l v' (.int .i64 ((i : Int) + 1)) w2 := by
 have h2 := below_trans hB h1
 refine ⟨i + 1, hi, by simp, ?_, h2.grown hg h2.size (fun k hk => (hv.lt k hk).1)⟩
 rw [keyL_snoc l hi, ← hp, List.map_append]
 exact ho
theorem keys_walk {ao : Option Addr} {ca : Nat} {l : List Pr} {w : World} (hl : l.length ≤ 11728124029610) (ha : Ql w ao l) :
  Calls Tryz.prog 27 #[.slice ao l.length ca] w fun e w' => ∃ v, e = .returned v ∧ w'.ownsRow w.heap.size 33 1 v l.length ((keyL l).map (Value.int .u64)) ∧ Below w.heap.size w w' := by
 have hli : (l.length : Int) ≤ 11728124029610 := by omega
 have HA : Hid (Ql w ao l) := ha
 obtain ⟨i0, hi0, hz0, hz1, hz2⟩ := info_partsQ info_u64
 have HI0 : Hid (Tryz.prog.info? 33 = some i0) := hi0
 have HI1 : Hid (i0.zero = some (.int .u64 0)) := hz0
 have HI2 : Hid (i0.size = 1) := hz1
 have HI3 : Hid (i0.bytes = 8) := hz2
 clear ha hl hi0 hz0 hz1 hz2
 go_in
 go_wp2_with (at_make; refine wpList_make_own _ (by rfl) _ _ 30 (by rfl) w.heap.size 33 i0 (.int .u64 0) 1 Tryz.underlying30 HI0.out HI1.out HI2.out .i64 .i64 _ l.length (by rfl) (by rfl) (by rfl) (by rw [HI3.out]; omega) (by simp only [maxLen]; omega) (Nat.le_refl _) ?_; intro w2 hown hgrow)
 have R0 : Ky w l (.slice (some ⟨w.heap.size, 0, none⟩) 0 l.length) (.int .i64 0) w2 := ⟨0, Nat.zero_le _, rfl, hown, (Below.refl _ _).grown hgrow (Nat.le_refl _) (by simp)⟩
 clear hown hgrow
 go_loopw [3, 11] (fun v iv wr => Ky w l v iv wr) (fun _ iv _ => l.length - (intOf iv).toNat)
 case atStart => exact R0
 case round =>
  clear R0
  obtain ⟨i, hi, rfl, hown, hB⟩ := hrel
  have HOW := hidH hown
  have HB := hidH hB
  clear hown hB
  by_cases hlt : i < l.length
  ·obtain ⟨b, off, rfl, c0, c1, c2⟩ := HA.out.below HB.out i hlt
   obtain ⟨p, hpe⟩ : ∃ p, p = l[i] := ⟨_, rfl⟩
   rw [← hpe] at c0 c1 c2
   have HE : Hid (p = l[i]) := hpe
   clear hpe
   go_wp2_with (at_builtin; refine wpList_append_sv (by rfl) _ _ 30 (by rfl) w.heap.size 33 .u64 8 Tryz.underlying30 info_u64 _ _ _ (by rfl) ((HOW.out.alloc _).alloc _) _ [(p.k : Int)] (by rfl) (by simpa [go_sem] using sv_one .u64 (wr.alloc (Obj.cells #[.int .u64 p.k, .bool p.v.h, .int .u64 p.v.b] 60)) 33 p.k) (by simp [maxLen]; omega) (by simp; omega) (by have := HB.out.size; simp; omega) ?_; intro v' w4 hown' hgrow)
   have R' := ky_step hlt HE.out HB.out (below_trans (below_alloc wr (Obj.cells #[.int .u64 p.k, .bool p.v.h, .int .u64 p.v.b] 60)) (below_alloc _ (Obj.cells #[.int .u64 p.k] 33))) ((HOW.out.alloc _).alloc _) hgrow hown'
   clear hown' hgrow
   go_wp2_with fail
   go_roundw
   case rel => exact R'
   case measure => simp [intOf]; omega
  ·have e : i = l.length := by omega
   have HEND : Hid (wr.ownsRow w.heap.size 33 1 u3 l.length ((keyL l).map (Value.int .u64))) := by
    have := HOW.out
    rw [e, List.take_length] at this
    exact this
   clear e
   go_wp2_with fail
   go_ret
   exact ⟨_, rfl, HEND.out, HB.out⟩
end
section
open Go.RowKit

def rg40 : List Stp := [⟨11, 40, 0⟩]
theorem rg_check : checkB rg40 = true := by decide
theorem rg_run (r : Rcd) : runS rg40 r = (1, ⟨r.k % 40, canonW r.x⟩) := by
 unfold runS
 rw [rg_check, if_pos rfl]
 rfl
def ptT (k : Int) (recs : List Rcd) : List Pr := batchT rg40 k (recs.take 40)
def ptK (k : Int) (recs : List Rcd) (more : List Nat) : List Nat := uniU ((ptT k recs).map (·.k) ++ (more.take 16).map (· % 40))
theorem low_adds {k : Int} : ∀ (l t : List Pr), (∀ p ∈ l, p.k < 40) → (∀ p ∈ t, p.k < 40 ∧ fitV k p.v = p.v) → ∀ p ∈ addsT k t l, p.k < 40 ∧ fitV k p.v = p.v := by
 intro l
 induction l with
 | nil => intro t _ h; exact h
 | cons a r ih =>
  intro t hl ht
  rw [adds_cons]
  refine ih _ (fun p hp => hl p (by simp [hp])) (fun p hp => ?_)
  unfold withT at hp
  rcases put_mem hp with rfl | hp
  ·exact ⟨hl a (by simp), fit_merge k _ _⟩
  ·exact ht p hp
theorem pt_low {k : Int} {recs : List Rcd} : ∀ p ∈ ptT k recs, p.k < 40 ∧ fitV k p.v = p.v := by
 unfold ptT batchT
 refine low_adds _ _ (fun p hp => ?_) (by simp)
 unfold keptT at hp
 rw [List.mem_filterMap] at hp
 obtain ⟨r, _, e⟩ := hp
 rw [rg_run] at e
 simp at e
 rw [← e]
 exact Nat.mod_lt _ (by omega)
theorem pt_rise (k : Int) (recs : List Rcd) : Rise (ptT k recs) := rise_batch _ _ _
theorem pt_has {k : Int} (hk : knownB k = true) (recs : List Rcd) : hasT (ptT k recs) := has_batch hk _
theorem pt_ok {k : Int} {recs : List Rcd} (h : ∀ r ∈ recs, r.ok) : okT (ptT k recs) := ok_adds ok_nil (kept_ok (take_ok h 40))
theorem pt_len (k : Int) (recs : List Rcd) : (ptT k recs).length ≤ 40 := by
 have h1 : ((ptT k recs).map (·.k)).Nodup := by
  unfold List.Nodup
  rw [List.pairwise_map]
  exact (pt_rise k recs).imp (fun h => by omega)
 have := nodup_lt 40 _ h1 (fun x hx => by obtain ⟨p, hp, rfl⟩ := List.mem_map.1 hx; exact (pt_low p hp).1)
 simpa using this
theorem ris_of : ∀ {l : List Nat} {o : Option Nat}, RiseK l → (∀ j, o = some j → ∀ x ∈ l, j < x) → risE o l = true := by
 intro l
 induction l with
 | nil => intro o _ _; rfl
 | cons a r ih =>
  intro o h ho
  obtain ⟨h1, h2⟩ := List.pairwise_cons.1 h
  rw [risE, Bool.and_eq_true]
  refine ⟨?_, ih h2 (fun j hj x hx => by cases hj; exact h1 x hx)⟩
  cases o with
  | none => rfl
  | some j => exact decide_eq_true (ho j rfl a (by simp))
theorem uni_ris (l : List Nat) : risB (uniU l) = true := by
 have h := rise_uni l
 unfold risB
 exact ris_of h (by simp)
theorem rise_len {l : List Nat} {n : Nat} (h : RiseK l) (hl : ∀ x ∈ l, x < n) : l.length ≤ n := nodup_lt n l (h.imp (fun h => by omega)) hl
theorem ptK_low {k : Int} {recs : List Rcd} {more : List Nat} : ∀ x ∈ ptK k recs more, x < 40 := by
 intro x hx
 unfold ptK at hx
 rw [mem_uni, List.mem_append] at hx
 rcases hx with hx | hx
 ·obtain ⟨p, hp, rfl⟩ := List.mem_map.1 hx; exact (pt_low p hp).1
 ·obtain ⟨y, _, rfl⟩ := List.mem_map.1 hx; exact Nat.mod_lt _ (by omega)
theorem ptK_len (k : Int) (recs : List Rcd) (more : List Nat) : (ptK k recs more).length ≤ 64 := Nat.le_trans (rise_len (rise_uni _) ptK_low) (by omega)
theorem ptK_ris (k : Int) (recs : List Rcd) (more : List Nat) : risB (ptK k recs more) = true := uni_ris _
theorem ptK_ok (k : Int) (recs : List Rcd) (more : List Nat) : keysOk (ptK k recs more) := fun x hx => by have := ptK_low x hx; omega
theorem pt_ta {k : Int} (hk : knownB k = true) {recs : List Rcd} (h : ∀ r ∈ recs, r.ok) (b a : Int) (more : List Nat) : Ta k ⟨b, a, ptK k recs more⟩ (ptT k recs) :=
 ⟨pt_rise k recs, fun p hp => ⟨by show p.k ∈ ptK k recs more; unfold ptK; rw [mem_uni, List.mem_append]; exact .inl (List.mem_map.2 ⟨p, hp, rfl⟩), (pt_low p hp).1, (pt_ok h p hp).2, (pt_low p hp).2, pt_has hk recs p hp⟩⟩
def PtGot (k : Int) (recs : List Rcd) (more : List Nat) (w : World) (e : Ending) (w' : World) : Prop :=
 ∃ tv kv, e = .returned (.tuple #[tv, kv]) ∧ Qv w' tv (ptT k recs) ∧ (∀ x, tv.ownBlock = some x → w.heap.size ≤ x ∧ x < w'.heap.size) ∧ w'.ownsRow w.heap.size 33 1 kv (ptK k recs more).length ((ib (ptK k recs more)).map (Value.int .u64)) ∧ Below w.heap.size w w'
theorem rv_take {w : World} {ao : Option Addr} {n cap : Nat} {l : List Rcd} (h : Rv w (.slice ao n cap) l) {m : Nat} (hm : m ≤ n) : Rv w (.slice ao m cap) (l.take m) := by
 obtain ⟨⟨ao', cap', e, h1, h2, h3, h4⟩, h5⟩ := h
 cases e
 refine ⟨⟨ao, cap, by rw [List.length_take, Nat.min_eq_left hm], by rw [List.length_take]; omega, h2, h3, fun i hi => ?_⟩, fun r hr => h5 r (List.mem_of_mem_take hr)⟩
 obtain ⟨b, off, e1, e2⟩ := h4 i (by rw [List.length_take] at hi; omega)
 exact ⟨b, off, e1, by rw [List.getElem_take]; exact e2⟩
end
section
open Go.RowKit

theorem ov_one (w : World) : Ov (w.alloc (Obj.cells #[.int .i64 11, .int .i64 40, .float .f64 0] 74)) (.slice (some ⟨w.heap.size, 0, none⟩) 1 1) rg40 := by
 refine ⟨⟨_, 1, rfl, Nat.le_refl _, by simp [maxLen], by simp, fun i hi => ?_⟩, fun o ho => ?_⟩
 ·have h0 : i = 0 := by simp [rg40] at hi; omega
  subst h0
  exact ⟨w.heap.size, 0, rfl, by simp [go_sem, rg40], by simp [go_sem, rg40], by simp [go_sem, rg40]⟩
 ·simp [rg40] at ho
  subst ho
  exact ⟨by decide, by decide, by decide⟩
theorem keyL_ib (l : List Pr) : keyL l = ib (l.map (·.k)) := by simp [keyL, ib]
theorem kv_get {w : World} {ao : Option Addr} {n cap : Nat} {l : List Nat} (h : Kv w (.slice ao n cap) l) {i : Nat} (hi : i < l.length) : ∃ b off, ao = some ⟨b, off, none⟩ ∧ w.cell? ⟨b, off + i, none⟩ = some (.int .u64 (l[i] : Int)) := by
 obtain ⟨ao', cap', e, _, _, _, h4⟩ := h
 cases e
 obtain ⟨b, off, e1, e2⟩ := h4 i (by rw [ib_len]; exact hi)
 refine ⟨b, off, e1, ?_⟩
 rw [e2]
 simp [ib, hi]
def PtR (w3 : World) (more : List Nat) (lv iv : Value) (wr : World) : Prop :=
 ∃ i : Nat, iv = .int .i64 i ∧ i ≤ 16 ∧ i ≤ more.length ∧ wr.ownsRow w3.heap.size 33 1 lv i ((ib ((more.take i).map (· % 40))).map (Value.int .u64)) ∧ Below w3.heap.size w3 wr
theorem pt_step {w3 wr w5 : World} {more : List Nat} {i x : Nat} {u v : Value} (hl : i < more.length) (hx : x = more[i]) (h16 : i < 16) (hB : Below w3.heap.size w3 wr) (ho : wr.ownsRow w3.heap.size 33 1 u i ((ib ((more.take i).map (· % 40))).map (Value.int .u64)))
  (hown : w5.ownsRow w3.heap.size 33 1 v (i + [(x : Int) % 40].length) ((ib ((more.take i).map (· % 40))).map (Value.int .u64) ++ [(x : Int) % 40].map (Value.int .u64))) (hg : (wr.alloc (Obj.cells #[.int .u64 ((x : Int) % 40)] 33)).grownBy w5 u.ownBlock) :
  PtR w3 more v (.int .i64 ((i : Int) + 1)) w5 := by
 have h2 := below_trans hB (below_alloc wr (Obj.cells #[.int .u64 ((x : Int) % 40)] 33))
 refine ⟨i + 1, by simp, by omega, by omega, ?_, h2.grown hg h2.size (fun k hk => (ho.lt k hk).1)⟩
 rw [List.take_succ_eq_append_getElem hl, List.map_append, ib_append, List.map_append, ← hx]
 exact hown
theorem part_walk {k : Int} (hk : knownB k = true) {w : World} {rv mv : Value} {recs : List Rcd} {more : List Nat} (hr : Rv w rv recs) (hm : Kv w mv more) (f s : Bool) :
  Calls Tryz.prog 8 #[.int .i64 k, .agg #[rv, mv, .bool f, .bool s]] w (PtGot k recs more w) := by
 have HK : Hid (knownB k = true) := hk
 have HR : Hid (Rv w rv recs) := hr
 have HM : Hid (Kv w mv more) := hm
 obtain ⟨⟨ro, rc, rfl, r1, r2, r3, _⟩, _⟩ := hr
 obtain ⟨mo, mc, rfl, hml, hmm⟩ := kv_form hm
 obtain ⟨n, hn⟩ : ∃ n, n = recs.length := ⟨_, rfl⟩
 obtain ⟨q, hq⟩ : ∃ q, q = more.length := ⟨_, rfl⟩
 rw [← hn] at HR r1 ⊢
 rw [← hq] at HM hml ⊢
 have HN : Hid (n = recs.length) := hn
 have HQ : Hid (q = more.length) := hq
 have hni : (n : Int) ≤ 9223372036854775807 := by simp only [maxLen] at r2; omega
 have hqi : (q : Int) ≤ 9223372036854775807 := by simp only [maxLen] at hmm; omega
 have HRO : Hid (∀ r ∈ recs, r.ok) := HR.out.2
 have HRC : Hid (n ≤ rc ∧ rc ≤ maxLen) := ⟨r1, r2⟩
 clear hk hm hn hq r3 hml hmm r1 r2
 have HB0 : Hid (Below w.heap.size w (w.alloc (Obj.cells #[.slice ro n rc, .slice mo q mc, .bool f, .bool s] 40))) := below_alloc _ _
 have c1 : (w.alloc (Obj.cells #[.slice ro n rc, .slice mo q mc, .bool f, .bool s] 40)).cell? ⟨w.heap.size, 1, none⟩ = some (.slice mo q mc) := by simp [go_sem]
 have c0 : (w.alloc (Obj.cells #[.slice ro n rc, .slice mo q mc, .bool f, .bool s] 40)).cell? ⟨w.heap.size, 0, none⟩ = some (.slice ro n rc) := by simp [go_sem]
 go_in
 go_upto_region 1 with fail
 obtain ⟨N, hN⟩ : ∃ N, N = w.heap.size := ⟨_, rfl⟩
 have HNW : Hid (N = w.heap.size) := hN
 rw [← hN] at c0 c1 ⊢
 generalize w.alloc (Obj.cells #[.slice ro n rc, .slice mo q mc, .bool f, .bool s] 40) = w0 at HB0 c0 c1 ⊢
 have HR0 := hidH (HR.out.below HB0.out)
 have HM0 := hidH (HM.out.below HB0.out)
 clear hN HR HM
 go_upto_if 16 with fail
 go_cut [6] (fun v wx => wx = w0 ∧ ∃ z : Nat, v = .slice ro z rc ∧ Rv w0 (.slice ro z rc) (recs.take 40) ∧ z ≤ 40)
 case first =>
  by_cases h40 : 40 < n
  ·have h40i : (40 : Int) < (n : Int) := by omega
   have h40c : (40 : Int) ≤ (rc : Int) := by have := HRC.out; omega
   go_wp2_with fail
   go_meet
   exact ⟨rfl, 40, rfl, rv_take HR0.out (by omega), Nat.le_refl _⟩
  ·have h40i : ¬ (40 : Int) < (n : Int) := by omega
   go_wp2_with fail
   go_meet
   refine ⟨rfl, n, rfl, ?_, by omega⟩
   rw [List.take_of_length_le (by rw [← HN.out]; omega)]
   exact HR0.out
 case rest =>
  obtain ⟨hw, z, rfl, hz, hz40⟩ := hcut
  replace hw := hw.symm
  subst hw
  have HZ := hidH hz
  have HB1 : Hid (Below w0.heap.size w0 (w0.alloc (Obj.cells #[.int .i64 11, .int .i64 40, .float .f64 0] 74))) := below_alloc _ _
  have HOV : Hid (Ov (w0.alloc (Obj.cells #[.int .i64 11, .int .i64 40, .float .f64 0] 74)) (.slice (some ⟨w0.heap.size, 0, none⟩) 1 1) rg40) := ov_one w0
  clear hz hz40
  go_wp2_with fail
  refine (batch_good HOV.out (HZ.out.below HB1.out) rg_check HK.out (by rw [List.length_take]; omega) (by intro o ho; simp [rg40] at ho; subst ho; rfl)).mono ?_
  rintro e w3 ⟨g, rfl, hmq, hg1, hg2, hb3⟩
  obtain ⟨T, hT⟩ : ∃ T, T = batchT rg40 k (recs.take 40) := ⟨_, rfl⟩
  rw [← hT] at hmq ⊢
  have HTT : Hid (T = ptT k recs) := hT
  have HB3 := hidH (below_trans HB1.out hb3)
  have HMQ : Hid (Mq w3 g T) := hmq
  have HG : Hid (w0.heap.size ≤ g ∧ g < w3.heap.size) := ⟨Nat.le_trans HB1.out.size hg1, hg2⟩
  have HTL : Hid (T.length ≤ 40) := by rw [HTT.out]; exact pt_len k recs
  have HOKT : Hid (okT T) := by rw [HTT.out]; exact pt_ok HRO.out
  have c2 : w3.cell? ⟨N, 1, none⟩ = some (.slice mo q mc) := by rw [HB3.out.cell (p := ⟨N, 1, none⟩) (cell_lt c1)]; exact c1
  have HM3 := hidH (HM0.out.below HB3.out)
  have HWB := hidH (below_trans HB0.out HB3.out)
  obtain ⟨tl, htl⟩ : ∃ tl, tl = T.length := ⟨_, rfl⟩
  rw [← htl]
  have HTLE : Hid (tl = T.length) := htl
  clear hmq hg1 hg2 hb3 hT c1 c0 HZ HB1 HOV HM0 HR0 htl
  go_wp2_with fail
  go_loopw [10, 11] (fun lv iv wr => PtR w3 more lv iv wr) (fun _ iv _ => 16 - (intOf iv).toNat)
  case atStart => exact ⟨0, rfl, by omega, by omega, ⟨rfl, .inl ⟨rfl, rfl⟩⟩, Below.refl _ _⟩
  case round =>
   obtain ⟨i, rfl, hi16, hil, hown, hB⟩ := hrel
   have HOW := hidH hown
   have HB := hidH hB
   have c3 : wr.cell? ⟨N, 1, none⟩ = some (.slice mo q mc) := by rw [HB.out.cell (p := ⟨N, 1, none⟩) (cell_lt c2)]; exact c2
   clear hown hB
   by_cases hlt : i < q
   ·have hlti : (i : Int) < (q : Int) := by omega
    have hlt' : i < more.length := by rw [← HQ.out]; exact hlt
    by_cases h16 : i < 16
    ·have h16i : (i : Int) < 16 := by omega
     obtain ⟨x, hx⟩ : ∃ x, x = more[i]'(by rw [← HQ.out]; exact hlt) := ⟨_, rfl⟩
     have HX : Hid (x = more[i]'(by rw [← HQ.out]; exact hlt)) := hx
     obtain ⟨b, off, hmo, cx⟩ := kv_get (HM3.out.below HB.out) (show i < more.length by rw [← HQ.out]; exact hlt)
     subst hmo
     rw [← hx] at cx
     clear hx
     go_upto_region 8 with (at_builtin; refine wpList_append_sv (by rfl) _ _ 30 (by rfl) w3.heap.size 33 .u64 8 Tryz.underlying30 info_u64 _ _ _ (by rfl) (HOW.out.alloc _) _ [((x : Int) % 40)] (by rfl) (by simpa [go_sem] using sv_one .u64 wr 33 ((x : Int) % 40)) (by simp [maxLen]; omega) (by simp; omega) (by have := HB.out.size; simp; omega) ?_; intro v2 w5 hown' hgrow)
     have R' := pt_step hlt' HX.out h16 HB.out HOW.out hown' hgrow
     clear hown' hgrow
     go_wp2_with fail
     go_roundw
     case rel => exact R'
     case measure => simp [intOf]; omega
    ·have h16i : ¬ (i : Int) < 16 := by omega
     have HEND : Hid (wr.ownsRow w3.heap.size 33 1 u10 ((more.take 16).map (· % 40)).length ((ib ((more.take 16).map (· % 40))).map (Value.int .u64))) := by
      have h := HOW.out
      have e : i = 16 := by omega
      subst e
      rwa [List.length_map, List.length_take, Nat.min_eq_left hil]
     go_wp2_with fail
     have HQL : Hid (Ql wr (some ⟨g, 0, none⟩) T) := by
      have h := mq_qv (n := T.length) (HMQ.out.below HB.out HG.out.2) (Nat.le_refl _) (Nat.le_refl _) (by simp only [maxLen]; have := HTL.out; omega) HOKT.out
      rw [List.take_length] at h
      obtain ⟨⟨ao, cap, e, _, _, _, h⟩, _⟩ := h
      cases e
      exact h
     have HTLE2 : Hid (tl = T.length) := HTLE.out
     rw [HTLE2.out]
     refine (keys_walk (by have := HTL.out; omega) HQL.out).mono ?_
     rintro e w6 ⟨kv, rfl, hkv, hb6⟩
     have HKV : Hid (Kv w6 kv (T.map (·.k))) := by have h := own_sv hkv; rw [keyL_ib] at h; exact h
     have HMV : Hid (Kv w6 u10 ((more.take 16).map (· % 40))) := (own_sv HEND.out : Kv wr u10 _).below hb6
     have HB6 := hidH (below_trans HB.out hb6)
     obtain ⟨ka, kn, kc, rfl⟩ := sv_any HKV.out
     obtain ⟨la, ln, lc, rfl⟩ := sv_any HMV.out
     clear hkv hb6
     go_wp2_with fail
     refine (union_walk HKV.out HMV.out (by simp; have := HTL.out; omega)).mono ?_
     rintro e w7 ⟨uv, rfl, hu, hb7⟩
     obtain ⟨U, hU⟩ : ∃ U, U = uniU (T.map (·.k) ++ (more.take 16).map (· % 40)) := ⟨_, rfl⟩
     rw [← hU] at hu
     have HUU : Hid (U = ptK k recs more) := by rw [hU, HTT.out]; rfl
     have HU := hidH hu
     have HB7 := hidH (below_trans HB6.out hb7)
     obtain ⟨ua, uc, rfl⟩ := own_form8 hu
     clear hu hb7 hU
     go_wp2_with fail
     go_ret2
     refine ⟨.slice (some ⟨g, 0, none⟩) T.length T.length, .slice ua U.length uc, rfl, ?_, fun y hy => ?_, ?_, below_trans HWB.out HB7.out⟩
     ·rw [← HTT.out]
      have h := mq_qv (n := T.length) (cap := T.length) (HMQ.out.below HB7.out HG.out.2) (Nat.le_refl _) (Nat.le_refl _) (by simp only [maxLen]; have := HTL.out; omega) HOKT.out
      rwa [List.take_length] at h
     ·simp [Value.ownBlock] at hy; subst hy; exact ⟨Nat.le_trans HB0.out.size HG.out.1, Nat.lt_of_lt_of_le HG.out.2 HB7.out.size⟩
     ·rw [← HUU.out]
      exact own_baseC HU.out (Nat.le_trans HWB.out.size HB6.out.size)
   ·have hlti : ¬ (i : Int) < (q : Int) := by omega
    have HEND : Hid (wr.ownsRow w3.heap.size 33 1 u10 ((more.take 16).map (· % 40)).length ((ib ((more.take 16).map (· % 40))).map (Value.int .u64))) := by
     have h := HOW.out
     have e : i = more.length := by rw [← HQ.out] at hil ⊢; omega
     subst e
     rw [List.take_length] at h
     rwa [List.length_map, List.take_of_length_le hi16]
    go_wp2_with fail
    have HQL : Hid (Ql wr (some ⟨g, 0, none⟩) T) := by
     have h := mq_qv (n := T.length) (HMQ.out.below HB.out HG.out.2) (Nat.le_refl _) (Nat.le_refl _) (by simp only [maxLen]; have := HTL.out; omega) HOKT.out
     rw [List.take_length] at h
     obtain ⟨⟨ao, cap, e, _, _, _, h⟩, _⟩ := h
     cases e
     exact h
    have HTLE2 : Hid (tl = T.length) := HTLE.out
    rw [HTLE2.out]
    refine (keys_walk (by have := HTL.out; omega) HQL.out).mono ?_
    rintro e w6 ⟨kv, rfl, hkv, hb6⟩
    have HKV : Hid (Kv w6 kv (T.map (·.k))) := by have h := own_sv hkv; rw [keyL_ib] at h; exact h
    have HMV : Hid (Kv w6 u10 ((more.take 16).map (· % 40))) := (own_sv HEND.out : Kv wr u10 _).below hb6
    have HB6 := hidH (below_trans HB.out hb6)
    obtain ⟨ka, kn, kc, rfl⟩ := sv_any HKV.out
    obtain ⟨la, ln, lc, rfl⟩ := sv_any HMV.out
    clear hkv hb6
    go_wp2_with fail
    refine (union_walk HKV.out HMV.out (by simp; have := HTL.out; omega)).mono ?_
    rintro e w7 ⟨uv, rfl, hu, hb7⟩
    obtain ⟨U, hU⟩ : ∃ U, U = uniU (T.map (·.k) ++ (more.take 16).map (· % 40)) := ⟨_, rfl⟩
    rw [← hU] at hu
    have HUU : Hid (U = ptK k recs more) := by rw [hU, HTT.out]; rfl
    have HU := hidH hu
    have HB7 := hidH (below_trans HB6.out hb7)
    obtain ⟨ua, uc, rfl⟩ := own_form8 hu
    clear hu hb7 hU
    go_wp2_with fail
    go_ret2
    refine ⟨.slice (some ⟨g, 0, none⟩) T.length T.length, .slice ua U.length uc, rfl, ?_, fun y hy => ?_, ?_, below_trans HWB.out HB7.out⟩
    ·rw [← HTT.out]
     have h := mq_qv (n := T.length) (cap := T.length) (HMQ.out.below HB7.out HG.out.2) (Nat.le_refl _) (Nat.le_refl _) (by simp only [maxLen]; have := HTL.out; omega) HOKT.out
     rwa [List.take_length] at h
    ·simp [Value.ownBlock] at hy; subst hy; exact ⟨Nat.le_trans HB0.out.size HG.out.1, Nat.lt_of_lt_of_le HG.out.2 HB7.out.size⟩
    ·rw [← HUU.out]
     exact own_baseC HU.out (Nat.le_trans HWB.out.size HB6.out.size)
end
section
open Go.RowKit

structure Jb where
 r : List Rcd
 m : List Nat
 f : Bool
 s : Bool
def addF (k : Int) (F : Nat → Vl) (t : List Pr) : Nat → Vl := fun x => if (getT x t).h = true then mergeV k (F x) (getT x t) else F x
def jobF (k : Int) (F : Nat → Vl) (j : Jb) : Nat → Vl := if j.f = true then F else if j.s = true then F else addF k F (ptT k j.r)
def rowF (k : Int) (js : List Jb) : Nat → Vl := js.foldl (jobF k) (fun _ => noV)
def rowB (js : List Jb) : Nat := 1 + (js.filter (fun j => !j.f)).length
theorem rowF_snoc (k : Int) (js : List Jb) (j : Jb) : rowF k (js ++ [j]) = jobF k (rowF k js) j := by unfold rowF; rw [List.foldl_append]; rfl
theorem rowB_snoc (js : List Jb) (j : Jb) : rowB (js ++ [j]) = rowB js + (if j.f = true then 0 else 1) := by
 unfold rowB
 rw [List.filter_append, List.length_append]
 cases h : j.f <;> simp [h] <;> omega
theorem rowB_le (js : List Jb) : rowB js ≤ js.length + 1 := by
 unfold rowB
 have := List.length_filter_le (fun j : Jb => !j.f) js
 omega
theorem get_memS {t : List Pr} (h : Rise t) {p : Pr} (hp : p ∈ t) : getT p.k t = p.v := by
 induction t with
 | nil => simp at hp
 | cons a r ih =>
  obtain ⟨h1, h2⟩ := List.pairwise_cons.1 h
  rw [getT]
  rcases List.mem_cons.1 hp with rfl | hp
  ·rw [if_pos rfl]
  ·have := h1 p hp
   rw [if_neg (by omega)]
   exact ih h2 hp
theorem get_here {t : List Pr} {x : Nat} (h : (getT x t).h = true) : ∃ p ∈ t, p.k = x := by
 induction t with
 | nil => simp [getT, noV] at h
 | cons a r ih =>
  rw [getT] at h
  by_cases e : a.k = x
  ·exact ⟨a, by simp, e⟩
  ·rw [if_neg e] at h
   obtain ⟨p, hp, e⟩ := ih h
   exact ⟨p, by simp [hp], e⟩
def Done (k b : Int) (Ls : List (List Cl)) (t : List Pr) : Prop := ∀ p ∈ t, ∃ c, InS Ls c ∧ c.k = p.k ∧ c.n = b ∧ c.c = mergeV k c.p p.v
structure RW (A : Nat → Prop) (w : World) (sv dv : Value) (k : Int) (P : Bo) (S : Dk) (m : Mk) (Ls : List (List Cl)) (b : Int) (i : Nat) (F : Nat → Vl) : Prop where
 rs : RS A w sv dv k P S m Ls
 low : Low Ls
 val : ∀ x, shRes Ls x (b - 1) = F x
 mb : m.b = b ∨ m.b = b - 1
 ma : m.a ≤ i
 b1 : 1 ≤ b
 b2 : b ≤ i + 1
section

variable {A : Nat → Prop} {w w' : World} {sv dv : Value} {k : Int} {P : Bo} {S : Dk} {m : Mk} {Ls : List (List Cl)} {b a : Int} {i : Nat} {F : Nat → Vl} {ks : List Nat}

theorem RW.below (h : RW A w sv dv k P S m Ls b i F) (hb : Below w.heap.size w w') : RW A w' sv dv k P S m Ls b i F := ⟨h.rs.below hb, h.low, h.val, h.mb, h.ma, h.b1, h.b2⟩
def OpGot (A : Nat → Prop) (w : World) (sv dv : Value) (k : Int) (P : Bo) (S : Dk) (m : Mk) (F : Nat → Vl) (e : Ending) (w' : World) : Prop :=
 e = .returned (.int .i64 0) ∧ ∃ A' P' S' Ls', RS A' w' sv dv k P' S' m Ls' ∧ Low Ls' ∧ (∀ x n, m.b - 1 ≤ n → shRes Ls' x n = F x) ∧ (∀ x, A' x → A x ∨ w.heap.size ≤ x) ∧ Ch A w w' ∧ cntS P' S' ≤ cntS P S + 17 ∧ S'.bl.length = S.bl.length
theorem begin_row (h : RW A w sv dv k P S m Ls b i F) (hN : cntS P S < 1000000000) (hi : i < 1000) {kv : Value} (hk : Kv w kv ks) (ko : keysOk ks) (hkA : ∀ x, kv.ownBlock = some x → ¬ A x) (ha : (i : Int) < a) (ha2 : a ≤ 1099511627776) (hk64 : ks.length ≤ 64) (hr : risB ks = true) :
  Calls Tryz.prog 12 #[sv, .int .i64 b, .int .i64 a, kv] w (OpGot A w sv dv k P S ⟨b, a, ks⟩ F) := by
 have h1 := h.b1
 have h2 := h.b2
 have h3 := h.ma
 have hmb := h.mb
 refine (begin_open h.rs hN hk ko hkA (b := b) (a := a) (by omega) h1 (by omega) (by omega) ha2 hk64 hr (by omega)).mono ?_
 obtain ⟨_, _, g3, g4⟩ := beg_good (a := a) (ks := ks) h.rs.gk (b := b) (by omega) h1 (sound_beg h1 (by omega) (by omega) ha2 hk64 hr) ko
 rintro e w1 ⟨rfl, A', P', S', hrs, hA, hc, hcn, hbl, _⟩
 exact ⟨rfl, A', P', S', _, hrs, g4 h.low, fun x n hn => by rw [g3 x n hn]; exact h.val x, hA, hc, hcn, hbl⟩
def AyGot (A : Nat → Prop) (w : World) (sv dv : Value) (k : Int) (P : Bo) (S : Dk) (m : Mk) (F : Nat → Vl) (t : List Pr) (e : Ending) (w' : World) : Prop :=
 e = .returned (.int .i64 0) ∧ ∃ A' P' S' Ls', RS A' w' sv dv k P' S' m Ls' ∧ Low Ls' ∧ (∀ x, shRes Ls' x (m.b - 1) = F x) ∧ (∀ x, shRes Ls' x m.b = addF k F t x) ∧ Done k m.b Ls' t ∧ (∀ x, A' x → A x ∨ w.heap.size ≤ x) ∧ Ch A w w' ∧ cntS P' S' ≤ cntS P S + 17 ∧ S'.bl.length = S.bl.length
theorem apply_row (h : RS A w sv dv k P S m Ls) (low : Low Ls) (hv : ∀ x n, m.b - 1 ≤ n → shRes Ls x n = F x) (hN : cntS P S < 1000000000) {tv : Value} {t : List Pr} (hq : Qv w tv t) (hqA : ∀ x, tv.ownBlock = some x → ¬ A x) (h1 : 1 ≤ m.b) (ha : 1 ≤ m.a) (ht : Ta k m t) :
  Calls Tryz.prog 13 #[sv, .int .i64 m.b, .int .i64 m.a, tv] w (AyGot A w sv dv k P S m F t) := by
 obtain ⟨L2, e2, g2, l2, t1, t2, t3, t4, t5⟩ := app_all (k := k) (m := m) (b := m.b) rfl h1 t Ls h.gk low ht
 refine (apply_open h hN hq hqA h1 ha ht ⟨L2, e2, g2⟩).mono ?_
 rw [e2]
 rintro e w1 ⟨rfl, A', P', S', hrs, hA, hc, hcn, hbl, _⟩
 refine ⟨rfl, A', P', S', L2, hrs, l2, fun x => by rw [t2 x]; exact hv x _ (Int.le_refl _), fun x => ?_, t5, hA, hc, hcn, hbl⟩
 unfold addF
 split
 ·rename_i hx
  obtain ⟨p, hp, e⟩ := get_here hx
  subst e
  rw [t3 p hp, get_memS ht.1 hp, hv _ _ (Int.le_refl _)]
 ·rename_i hx
  rw [t1 x m.b (fun p hp e => hx ?_)]
  ·exact hv x _ (by omega)
  ·subst e
   rw [get_memS ht.1 hp]
   exact (ht.2 p hp).2.2.2.2
end

def Jl (w : World) (ao : Option Addr) (js : List Jb) : Prop :=
 ∀ i, (h : i < js.length) → ∃ b off rv mv, ao = some ⟨b, off, none⟩ ∧ w.cell? ⟨b, off + i * 4, none⟩ = some rv ∧ w.cell? ⟨b, off + i * 4 + 1, none⟩ = some mv ∧ w.cell? ⟨b, off + i * 4 + 2, none⟩ = some (.bool js[i].f) ∧ w.cell? ⟨b, off + i * 4 + 3, none⟩ = some (.bool js[i].s) ∧ Rv w rv js[i].r ∧ Kv w mv js[i].m
def Jv (w : World) (v : Value) (js : List Jb) : Prop := ∃ ao cap, v = .slice ao js.length cap ∧ js.length ≤ cap ∧ cap ≤ maxLen ∧ Jl w ao js
theorem Jl.below {w w' : World} {ao : Option Addr} {js : List Jb} (h : Jl w ao js) (hb : Below w.heap.size w w') : Jl w' ao js := by
 intro i hi
 obtain ⟨b, off, rv, mv, e, c0, c1, c2, c3, hr, hm⟩ := h i hi
 exact ⟨b, off, rv, mv, e, by rw [hb.cell (p := ⟨b, off + i * 4, none⟩) (cell_lt c0)]; exact c0, by rw [hb.cell (p := ⟨b, off + i * 4 + 1, none⟩) (cell_lt c1)]; exact c1, by rw [hb.cell (p := ⟨b, off + i * 4 + 2, none⟩) (cell_lt c2)]; exact c2, by rw [hb.cell (p := ⟨b, off + i * 4 + 3, none⟩) (cell_lt c3)]; exact c3, hr.below hb, hm.below hb⟩
theorem Jv.below {w w' : World} {v : Value} {js : List Jb} (h : Jv w v js) (hb : Below w.heap.size w w') : Jv w' v js := by
 obtain ⟨ao, cap, e, h1, h2, h3⟩ := h
 exact ⟨ao, cap, e, h1, h2, h3.below hb⟩
end
end Go.Proofs.YtofkhgokfdpdiabGreat
