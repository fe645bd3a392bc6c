/- From the walk to the row: jobs, slices of jobs, of keys among the arguments, opened. -/
import Derived.Test.YtofkhgokfdpdiaaGreatB09
import Derived.Test.YtofkhgokfdpdiaaGreatB47
import Derived.Test.YtofkhgokfdpdiaaGreatB06
import Derived.SizedLaws
set_option maxRecDepth 100000
set_option maxHeartbeats 16000000
namespace Go.Proofs.YtofkhgokfdpdiaaGreat
section
open Go.RowKit

theorem ov_one (w : World) : Ov (w.alloc (Obj.cells #[.int .i64 11, .int .i64 40, .float .f64 0] 138)) (.slice (some ⟨w.heap.size, 0, none⟩) 1 1) rg40 := by
 refine ⟨⟨_, 1, rfl, Nat.le_refl _, by simp [maxLen], by simp, fun i hi => ?_⟩, fun o ho => ?_⟩
 ·have h0 : i = 0 := by simp [rg40] at hi; omega
  subst h0
  exact ⟨w.heap.size, 0, rfl, by simp [go_sem, rg40], by simp [go_sem, rg40], by simp [go_sem, rg40]⟩
 ·simp [rg40] at ho
  subst ho
  exact ⟨by decide, by decide, by decide⟩
theorem keyL_ib (l : List Pr) : keyL l = ib (l.map (·.k)) := by simp [keyL, ib]
theorem kv_get {w : World} {ao : Option Addr} {n cap : Nat} {l : List Nat} (h : Kv w (.slice ao n cap) l) {i : Nat} (hi : i < l.length) : ∃ b off, ao = some ⟨b, off, none⟩ ∧ w.cell? ⟨b, off + i, none⟩ = some (.int .u64 (l[i] : Int)) := by
 obtain ⟨ao', cap', e, _, _, _, h4⟩ := h
 cases e
 obtain ⟨b, off, e1, e2⟩ := h4 i (by rw [ib_len]; exact hi)
 refine ⟨b, off, e1, ?_⟩
 rw [e2]
 simp [ib, hi]
def PtR (w3 : World) (more : List Nat) (lv iv : Value) (wr : World) : Prop :=
 ∃ i : Nat, iv = .int .i64 i ∧ i ≤ 16 ∧ i ≤ more.length ∧ wr.ownsRow w3.heap.size 37 1 lv i ((ib ((more.take i).map (· % 40))).map (Value.int .u64)) ∧ Below w3.heap.size w3 wr
theorem pt_step {w3 wr w5 : World} {more : List Nat} {i x : Nat} {u v : Value} (hl : i < more.length) (hx : x = more[i]) (h16 : i < 16) (hB : Below w3.heap.size w3 wr) (ho : wr.ownsRow w3.heap.size 37 1 u i ((ib ((more.take i).map (· % 40))).map (Value.int .u64)))
  (hown : w5.ownsRow w3.heap.size 37 1 v (i + [(x : Int) % 40].length) ((ib ((more.take i).map (· % 40))).map (Value.int .u64) ++ [(x : Int) % 40].map (Value.int .u64))) (hg : (wr.alloc (Obj.cells #[.int .u64 ((x : Int) % 40)] 37)).grownBy w5 u.ownBlock) :
  PtR w3 more v (.int .i64 ((i : Int) + 1)) w5 := by
 have h2 := below_trans hB (below_alloc wr (Obj.cells #[.int .u64 ((x : Int) % 40)] 37))
 refine ⟨i + 1, by simp, by omega, by omega, ?_, h2.grown hg h2.size (fun k hk => (ho.lt k hk).1)⟩
 rw [List.take_succ_eq_append_getElem hl, List.map_append, ib_append, List.map_append, ← hx]
 exact hown
theorem part_walk {k : Int} (hk : knownB k = true) {w : World} {rv mv : Value} {recs : List Rcd} {more : List Nat} (hr : Rv w rv recs) (hm : Kv w mv more) (f s : Bool) :
  Calls Tryz.prog 35 #[.int .i64 k, .agg #[rv, mv, .bool f, .bool s]] w (PtGot k recs more w) := by
 have HK : Hid (knownB k = true) := hk
 have HR : Hid (Rv w rv recs) := hr
 have HM : Hid (Kv w mv more) := hm
 obtain ⟨⟨ro, rc, rfl, r1, r2, r3, _⟩, _⟩ := hr
 obtain ⟨mo, mc, rfl, hml, hmm⟩ := kv_form hm
 obtain ⟨n, hn⟩ : ∃ n, n = recs.length := ⟨_, rfl⟩
 obtain ⟨q, hq⟩ : ∃ q, q = more.length := ⟨_, rfl⟩
 rw [← hn] at HR r1 ⊢
 rw [← hq] at HM hml ⊢
 have HN : Hid (n = recs.length) := hn
 have HQ : Hid (q = more.length) := hq
 have hni : (n : Int) ≤ 9223372036854775807 := by simp only [maxLen] at r2; omega
 have hqi : (q : Int) ≤ 9223372036854775807 := by simp only [maxLen] at hmm; omega
 have HRO : Hid (∀ r ∈ recs, r.ok) := HR.out.2
 have HRC : Hid (n ≤ rc ∧ rc ≤ maxLen) := ⟨r1, r2⟩
 clear hk hm hn hq r3 hml hmm r1 r2
 have HB0 : Hid (Below w.heap.size w (w.alloc (Obj.cells #[.slice ro n rc, .slice mo q mc, .bool f, .bool s] 65))) := below_alloc _ _
 have c1 : (w.alloc (Obj.cells #[.slice ro n rc, .slice mo q mc, .bool f, .bool s] 65)).cell? ⟨w.heap.size, 1, none⟩ = some (.slice mo q mc) := by simp [go_sem]
 have c0 : (w.alloc (Obj.cells #[.slice ro n rc, .slice mo q mc, .bool f, .bool s] 65)).cell? ⟨w.heap.size, 0, none⟩ = some (.slice ro n rc) := by simp [go_sem]
 go_in
 go_upto_region 1 with fail
 obtain ⟨N, hN⟩ : ∃ N, N = w.heap.size := ⟨_, rfl⟩
 have HNW : Hid (N = w.heap.size) := hN
 rw [← hN] at c0 c1 ⊢
 generalize w.alloc (Obj.cells #[.slice ro n rc, .slice mo q mc, .bool f, .bool s] 65) = w0 at HB0 c0 c1 ⊢
 have HR0 : Hid (Rv w0 (.slice ro n rc) recs) := HR.out.below HB0.out
 have HM0 : Hid (Kv w0 (.slice mo q mc) more) := HM.out.below HB0.out
 clear hN HR HM
 go_upto_if 16 with fail
 go_cut [6] (fun v wx => wx = w0 ∧ ∃ z : Nat, v = .slice ro z rc ∧ Rv w0 (.slice ro z rc) (recs.take 40) ∧ z ≤ 40)
 case first =>
  by_cases h40 : 40 < n
  ·have h40i : (40 : Int) < (n : Int) := by omega
   have h40c : (40 : Int) ≤ (rc : Int) := by have := HRC.out; omega
   go_wp2_with fail
   go_meet
   exact ⟨rfl, 40, rfl, rv_take HR0.out (by omega), Nat.le_refl _⟩
  ·have h40i : ¬ (40 : Int) < (n : Int) := by omega
   go_wp2_with fail
   go_meet
   refine ⟨rfl, n, rfl, ?_, by omega⟩
   rw [List.take_of_length_le (by rw [← HN.out]; omega)]
   exact HR0.out
 case rest =>
  obtain ⟨hw, z, rfl, hz, hz40⟩ := hcut
  replace hw := hw.symm
  subst hw
  have HZ : Hid (Rv w0 (.slice ro z rc) (recs.take 40)) := hz
  have HB1 : Hid (Below w0.heap.size w0 (w0.alloc (Obj.cells #[.int .i64 11, .int .i64 40, .float .f64 0] 138))) := below_alloc _ _
  have HOV : Hid (Ov (w0.alloc (Obj.cells #[.int .i64 11, .int .i64 40, .float .f64 0] 138)) (.slice (some ⟨w0.heap.size, 0, none⟩) 1 1) rg40) := ov_one w0
  clear hz hz40
  go_wp2_with fail
  refine (batch_good HOV.out (HZ.out.below HB1.out) rg_check HK.out (by rw [List.length_take]; omega)).mono ?_
  rintro e w3 ⟨g, rfl, hmq, hg1, hg2, hb3⟩
  obtain ⟨T, hT⟩ : ∃ T, T = batchT rg40 k (recs.take 40) := ⟨_, rfl⟩
  rw [← hT] at hmq ⊢
  have HTT : Hid (T = ptT k recs) := hT
  have HB3 : Hid (Below w0.heap.size w0 w3) := below_trans HB1.out hb3
  have HMQ : Hid (Mq w3 g T) := hmq
  have HG : Hid (w0.heap.size ≤ g ∧ g < w3.heap.size) := ⟨Nat.le_trans HB1.out.size hg1, hg2⟩
  have HTL : Hid (T.length ≤ 40) := by rw [HTT.out]; exact pt_len k recs
  have HOKT : Hid (okT T) := by rw [HTT.out]; exact pt_ok HRO.out
  have c2 : w3.cell? ⟨N, 1, none⟩ = some (.slice mo q mc) := by rw [HB3.out.cell (p := ⟨N, 1, none⟩) (cell_lt c1)]; exact c1
  have HM3 : Hid (Kv w3 (.slice mo q mc) more) := HM0.out.below HB3.out
  have HWB : Hid (Below w.heap.size w w3) := below_trans HB0.out HB3.out
  obtain ⟨tl, htl⟩ : ∃ tl, tl = T.length := ⟨_, rfl⟩
  rw [← htl]
  have HTLE : Hid (tl = T.length) := htl
  clear hmq hg1 hg2 hb3 hT c1 c0 HZ HB1 HOV HM0 HR0 htl
  go_wp2_with fail
  go_loopw [10, 11] (fun lv iv wr => PtR w3 more lv iv wr) (fun _ iv _ => 16 - (intOf iv).toNat)
  case atStart => exact ⟨0, rfl, by omega, by omega, ⟨rfl, .inl ⟨rfl, rfl⟩⟩, Below.refl _ _⟩
  case round =>
   obtain ⟨i, rfl, hi16, hil, hown, hB⟩ := hrel
   have HOW := hidH hown
   have HB : Hid (Below w3.heap.size w3 wr) := hB
   have c3 : wr.cell? ⟨N, 1, none⟩ = some (.slice mo q mc) := by rw [HB.out.cell (p := ⟨N, 1, none⟩) (cell_lt c2)]; exact c2
   clear hown hB
   by_cases hlt : i < q
   ·have hlti : (i : Int) < (q : Int) := by omega
    have hlt' : i < more.length := by rw [← HQ.out]; exact hlt
    by_cases h16 : i < 16
    ·have h16i : (i : Int) < 16 := by omega
     obtain ⟨x, hx⟩ : ∃ x, x = more[i]'(by rw [← HQ.out]; exact hlt) := ⟨_, rfl⟩
     have HX : Hid (x = more[i]'(by rw [← HQ.out]; exact hlt)) := hx
     obtain ⟨b, off, hmo, cx⟩ := kv_get (HM3.out.below HB.out) (show i < more.length by rw [← HQ.out]; exact hlt)
     subst hmo
     rw [← hx] at cx
     clear hx
     go_upto_region 8 with (at_builtin; refine wpList_append_sv (by rfl) _ _ 38 (by rfl) w3.heap.size 37 .u64 8 Tryz.underlying38 info_u64 _ _ _ (by rfl) (HOW.out.alloc _) _ [((x : Int) % 40)] (by rfl) (by simpa [go_sem] using sv_one .u64 wr 37 ((x : Int) % 40)) (by simp [maxLen]; omega) (by simp; omega) (by have := HB.out.size; simp; omega) ?_; intro v2 w5 hown' hgrow)
     have R' := pt_step hlt' HX.out h16 HB.out HOW.out hown' hgrow
     clear hown' hgrow
     go_wp2_with fail
     go_roundw
     case rel => exact R'
     case measure => simp [intOf]; omega
    ·have h16i : ¬ (i : Int) < 16 := by omega
     have HEND : Hid (wr.ownsRow w3.heap.size 37 1 u10 ((more.take 16).map (· % 40)).length ((ib ((more.take 16).map (· % 40))).map (Value.int .u64))) := by
      have h := HOW.out
      have e : i = 16 := by omega
      subst e
      rwa [List.length_map, List.length_take, Nat.min_eq_left hil]
     go_wp2_with fail
     have HQL : Hid (Ql wr (some ⟨g, 0, none⟩) T) := by
      have h := mq_qv (n := T.length) (HMQ.out.below HB.out HG.out.2) (Nat.le_refl _) (Nat.le_refl _) (by simp only [maxLen]; have := HTL.out; omega) HOKT.out
      rw [List.take_length] at h
      obtain ⟨⟨ao, cap, e, _, _, _, h⟩, _⟩ := h
      cases e
      exact h
     have HTLE2 : Hid (tl = T.length) := HTLE.out
     rw [HTLE2.out]
     refine (keys_walk (by have := HTL.out; omega) HQL.out).mono ?_
     rintro e w6 ⟨kv, rfl, hkv, hb6⟩
     have HKV : Hid (Kv w6 kv (T.map (·.k))) := by have h := own_sv hkv; rw [keyL_ib] at h; exact h
     have HMV : Hid (Kv w6 u10 ((more.take 16).map (· % 40))) := (own_sv HEND.out : Kv wr u10 _).below hb6
     have HB6 : Hid (Below w3.heap.size w3 w6) := below_trans HB.out hb6
     obtain ⟨ka, kn, kc, rfl⟩ := sv_any HKV.out
     obtain ⟨la, ln, lc, rfl⟩ := sv_any HMV.out
     clear hkv hb6
     go_wp2_with fail
     refine (union_walk HKV.out HMV.out (by simp; have := HTL.out; omega)).mono ?_
     rintro e w7 ⟨uv, rfl, hu, hb7⟩
     obtain ⟨U, hU⟩ : ∃ U, U = uniU (T.map (·.k) ++ (more.take 16).map (· % 40)) := ⟨_, rfl⟩
     rw [← hU] at hu
     have HUU : Hid (U = ptK k recs more) := by rw [hU, HTT.out]; rfl
     have HU := hidH hu
     have HB7 : Hid (Below w3.heap.size w3 w7) := below_trans HB6.out hb7
     obtain ⟨ua, uc, rfl⟩ := own_form8 hu
     clear hu hb7 hU
     go_wp2_with fail
     go_ret2
     refine ⟨.slice (some ⟨g, 0, none⟩) T.length T.length, .slice ua U.length uc, rfl, ?_, fun y hy => ?_, ?_, below_trans HWB.out HB7.out⟩
     ·rw [← HTT.out]
      have h := mq_qv (n := T.length) (cap := T.length) (HMQ.out.below HB7.out HG.out.2) (Nat.le_refl _) (Nat.le_refl _) (by simp only [maxLen]; have := HTL.out; omega) HOKT.out
      rwa [List.take_length] at h
     ·simp [Value.ownBlock] at hy; subst hy; exact ⟨Nat.le_trans HB0.out.size HG.out.1, Nat.lt_of_lt_of_le HG.out.2 HB7.out.size⟩
     ·rw [← HUU.out]
      exact own_baseC HU.out (Nat.le_trans HWB.out.size HB6.out.size)
   ·have hlti : ¬ (i : Int) < (q : Int) := by omega
    have HEND : Hid (wr.ownsRow w3.heap.size 37 1 u10 ((more.take 16).map (· % 40)).length ((ib ((more.take 16).map (· % 40))).map (Value.int .u64))) := by
     have h := HOW.out
     have e : i = more.length := by rw [← HQ.out] at hil ⊢; omega
     subst e
     rw [List.take_length] at h
     rwa [List.length_map, List.take_of_length_le hi16]
    go_wp2_with fail
    have HQL : Hid (Ql wr (some ⟨g, 0, none⟩) T) := by
     have h := mq_qv (n := T.length) (HMQ.out.below HB.out HG.out.2) (Nat.le_refl _) (Nat.le_refl _) (by simp only [maxLen]; have := HTL.out; omega) HOKT.out
     rw [List.take_length] at h
     obtain ⟨⟨ao, cap, e, _, _, _, h⟩, _⟩ := h
     cases e
     exact h
    have HTLE2 : Hid (tl = T.length) := HTLE.out
    rw [HTLE2.out]
    refine (keys_walk (by have := HTL.out; omega) HQL.out).mono ?_
    rintro e w6 ⟨kv, rfl, hkv, hb6⟩
    have HKV : Hid (Kv w6 kv (T.map (·.k))) := by have h := own_sv hkv; rw [keyL_ib] at h; exact h
    have HMV : Hid (Kv w6 u10 ((more.take 16).map (· % 40))) := (own_sv HEND.out : Kv wr u10 _).below hb6
    have HB6 : Hid (Below w3.heap.size w3 w6) := below_trans HB.out hb6
    obtain ⟨ka, kn, kc, rfl⟩ := sv_any HKV.out
    obtain ⟨la, ln, lc, rfl⟩ := sv_any HMV.out
    clear hkv hb6
    go_wp2_with fail
    refine (union_walk HKV.out HMV.out (by simp; have := HTL.out; omega)).mono ?_
    rintro e w7 ⟨uv, rfl, hu, hb7⟩
    obtain ⟨U, hU⟩ : ∃ U, U = uniU (T.map (·.k) ++ (more.take 16).map (· % 40)) := ⟨_, rfl⟩
    rw [← hU] at hu
    have HUU : Hid (U = ptK k recs more) := by rw [hU, HTT.out]; rfl
    have HU := hidH hu
    have HB7 : Hid (Below w3.heap.size w3 w7) := below_trans HB6.out hb7
    obtain ⟨ua, uc, rfl⟩ := own_form8 hu
    clear hu hb7 hU
    go_wp2_with fail
    go_ret2
    refine ⟨.slice (some ⟨g, 0, none⟩) T.length T.length, .slice ua U.length uc, rfl, ?_, fun y hy => ?_, ?_, below_trans HWB.out HB7.out⟩
    ·rw [← HTT.out]
     have h := mq_qv (n := T.length) (cap := T.length) (HMQ.out.below HB7.out HG.out.2) (Nat.le_refl _) (Nat.le_refl _) (by simp only [maxLen]; have := HTL.out; omega) HOKT.out
     rwa [List.take_length] at h
    ·simp [Value.ownBlock] at hy; subst hy; exact ⟨Nat.le_trans HB0.out.size HG.out.1, Nat.lt_of_lt_of_le HG.out.2 HB7.out.size⟩
    ·rw [← HUU.out]
     exact own_baseC HU.out (Nat.le_trans HWB.out.size HB6.out.size)
end
section
open Go.RowKit

structure Jb where
 r : List Rcd
 m : List Nat
 f : Bool
 s : Bool
def addF (k : Int) (F : Nat → Vl) (t : List Pr) : Nat → Vl := fun x => if (getT x t).h = true then mergeV k (F x) (getT x t) else F x
def jobF (k : Int) (F : Nat → Vl) (j : Jb) : Nat → Vl := if j.f = true then F else if j.s = true then F else addF k F (ptT k j.r)
def rowF (k : Int) (js : List Jb) : Nat → Vl := js.foldl (jobF k) (fun _ => noV)
def rowB (js : List Jb) : Nat := 1 + (js.filter (fun j => !j.f)).length
theorem rowF_snoc (k : Int) (js : List Jb) (j : Jb) : rowF k (js ++ [j]) = jobF k (rowF k js) j := by unfold rowF; rw [List.foldl_append]; rfl
theorem rowB_snoc (js : List Jb) (j : Jb) : rowB (js ++ [j]) = rowB js + (if j.f = true then 0 else 1) := by
 unfold rowB
 rw [List.filter_append, List.length_append]
 cases h : j.f <;> simp [h] <;> omega
theorem rowB_le (js : List Jb) : rowB js ≤ js.length + 1 := by
 unfold rowB
 have := List.length_filter_le (fun j : Jb => !j.f) js
 omega
theorem get_memS {t : List Pr} (h : Rise t) {p : Pr} (hp : p ∈ t) : getT p.k t = p.v := by
 induction t with
 | nil => simp at hp
 | cons a r ih =>
  obtain ⟨h1, h2⟩ := List.pairwise_cons.1 h
  rw [getT]
  rcases List.mem_cons.1 hp with rfl | hp
  ·rw [if_pos rfl]
  ·have := h1 p hp
   rw [if_neg (by omega)]
   exact ih h2 hp
theorem get_here {t : List Pr} {x : Nat} (h : (getT x t).h = true) : ∃ p ∈ t, p.k = x := by
 induction t with
 | nil => simp [getT, noV] at h
 | cons a r ih =>
  rw [getT] at h
  by_cases e : a.k = x
  ·exact ⟨a, by simp, e⟩
  ·rw [if_neg e] at h
   obtain ⟨p, hp, e⟩ := ih h
   exact ⟨p, by simp [hp], e⟩
def Done (k b : Int) (Ls : List (List Cl)) (t : List Pr) : Prop := ∀ p ∈ t, ∃ c, InS Ls c ∧ c.k = p.k ∧ c.n = b ∧ c.c = mergeV k c.p p.v
structure RW (A : Nat → Prop) (w : World) (sv dv : Value) (k : Int) (P : Bo) (S : Dk) (m : Mk) (Ls : List (List Cl)) (b : Int) (i : Nat) (F : Nat → Vl) : Prop where
 rs : RS A w sv dv k P S m Ls
 low : Low Ls
 val : ∀ x, shRes Ls x (b - 1) = F x
 mb : m.b = b ∨ m.b = b - 1
 ma : m.a ≤ i
 b1 : 1 ≤ b
 b2 : b ≤ i + 1
section

variable {A : Nat → Prop} {w w' : World} {sv dv : Value} {k : Int} {P : Bo} {S : Dk} {m : Mk} {Ls : List (List Cl)} {b a : Int} {i : Nat} {F : Nat → Vl} {ks : List Nat}

theorem RW.below (h : RW A w sv dv k P S m Ls b i F) (hb : Below w.heap.size w w') : RW A w' sv dv k P S m Ls b i F := ⟨h.rs.below hb, h.low, h.val, h.mb, h.ma, h.b1, h.b2⟩
def OpGot (A : Nat → Prop) (w : World) (sv dv : Value) (k : Int) (P : Bo) (S : Dk) (m : Mk) (F : Nat → Vl) (e : Ending) (w' : World) : Prop :=
 e = .returned (.int .i64 0) ∧ ∃ A' P' S' Ls', RS A' w' sv dv k P' S' m Ls' ∧ Low Ls' ∧ (∀ x n, m.b - 1 ≤ n → shRes Ls' x n = F x) ∧ (∀ x, A' x → A x ∨ w.heap.size ≤ x) ∧ Ch A w w' ∧ cntS P' S' ≤ cntS P S + 17 ∧ S'.bl.length = S.bl.length
theorem begin_row (h : RW A w sv dv k P S m Ls b i F) (hN : cntS P S < 1000000000) (hi : i < 1000) {kv : Value} (hk : Kv w kv ks) (ko : keysOk ks) (hkA : ∀ x, kv.ownBlock = some x → ¬ A x) (ha : (i : Int) < a) (ha2 : a ≤ 1099511627776) (hk64 : ks.length ≤ 64) (hr : risB ks = true) :
  Calls Tryz.prog 36 #[sv, .int .i64 b, .int .i64 a, kv] w (OpGot A w sv dv k P S ⟨b, a, ks⟩ F) := by
 have h1 := h.b1
 have h2 := h.b2
 have h3 := h.ma
 have hmb := h.mb
 refine (begin_open h.rs hN hk ko hkA (b := b) (a := a) (by omega) h1 (by omega) (by omega) ha2 hk64 hr (by omega)).mono ?_
 obtain ⟨_, _, g3, g4⟩ := beg_good (a := a) (ks := ks) h.rs.gk (b := b) (by omega) h1 (sound_beg h1 (by omega) (by omega) ha2 hk64 hr) ko
 rintro e w1 ⟨rfl, A', P', S', hrs, hA, hc, hcn, hbl, _⟩
 exact ⟨rfl, A', P', S', _, hrs, g4 h.low, fun x n hn => by rw [g3 x n hn]; exact h.val x, hA, hc, hcn, hbl⟩
def AyGot (A : Nat → Prop) (w : World) (sv dv : Value) (k : Int) (P : Bo) (S : Dk) (m : Mk) (F : Nat → Vl) (t : List Pr) (e : Ending) (w' : World) : Prop :=
 e = .returned (.int .i64 0) ∧ ∃ A' P' S' Ls', RS A' w' sv dv k P' S' m Ls' ∧ Low Ls' ∧ (∀ x, shRes Ls' x (m.b - 1) = F x) ∧ (∀ x, shRes Ls' x m.b = addF k F t x) ∧ Done k m.b Ls' t ∧ (∀ x, A' x → A x ∨ w.heap.size ≤ x) ∧ Ch A w w' ∧ cntS P' S' ≤ cntS P S + 17 ∧ S'.bl.length = S.bl.length
theorem apply_row (h : RS A w sv dv k P S m Ls) (low : Low Ls) (hv : ∀ x n, m.b - 1 ≤ n → shRes Ls x n = F x) (hN : cntS P S < 1000000000) {tv : Value} {t : List Pr} (hq : Qv w tv t) (hqA : ∀ x, tv.ownBlock = some x → ¬ A x) (h1 : 1 ≤ m.b) (ha : 1 ≤ m.a) (ht : Ta k m t) :
  Calls Tryz.prog 39 #[sv, .int .i64 m.b, .int .i64 m.a, tv] w (AyGot A w sv dv k P S m F t) := by
 obtain ⟨L2, e2, g2, l2, t1, t2, t3, t4, t5⟩ := app_all (k := k) (m := m) (b := m.b) rfl h1 t Ls h.gk low ht
 refine (apply_open h hN hq hqA h1 ha ht ⟨L2, e2, g2⟩).mono ?_
 rw [e2]
 rintro e w1 ⟨rfl, A', P', S', hrs, hA, hc, hcn, hbl, _⟩
 refine ⟨rfl, A', P', S', L2, hrs, l2, fun x => by rw [t2 x]; exact hv x _ (Int.le_refl _), fun x => ?_, t5, hA, hc, hcn, hbl⟩
 unfold addF
 split
 ·rename_i hx
  obtain ⟨p, hp, e⟩ := get_here hx
  subst e
  rw [t3 p hp, get_memS ht.1 hp, hv _ _ (Int.le_refl _)]
 ·rename_i hx
  rw [t1 x m.b (fun p hp e => hx ?_)]
  ·exact hv x _ (by omega)
  ·subst e
   rw [get_memS ht.1 hp]
   exact (ht.2 p hp).2.2.2.2
end

def Jl (w : World) (ao : Option Addr) (js : List Jb) : Prop :=
 ∀ i, (h : i < js.length) → ∃ b off rv mv, ao = some ⟨b, off, none⟩ ∧ w.cell? ⟨b, off + i * 4, none⟩ = some rv ∧ w.cell? ⟨b, off + i * 4 + 1, none⟩ = some mv ∧ w.cell? ⟨b, off + i * 4 + 2, none⟩ = some (.bool js[i].f) ∧ w.cell? ⟨b, off + i * 4 + 3, none⟩ = some (.bool js[i].s) ∧ Rv w rv js[i].r ∧ Kv w mv js[i].m
def Jv (w : World) (v : Value) (js : List Jb) : Prop := ∃ ao cap, v = .slice ao js.length cap ∧ js.length ≤ cap ∧ cap ≤ maxLen ∧ Jl w ao js
theorem Jl.below {w w' : World} {ao : Option Addr} {js : List Jb} (h : Jl w ao js) (hb : Below w.heap.size w w') : Jl w' ao js := by
 intro i hi
 obtain ⟨b, off, rv, mv, e, c0, c1, c2, c3, hr, hm⟩ := h i hi
 exact ⟨b, off, rv, mv, e, by rw [hb.cell (p := ⟨b, off + i * 4, none⟩) (cell_lt c0)]; exact c0, by rw [hb.cell (p := ⟨b, off + i * 4 + 1, none⟩) (cell_lt c1)]; exact c1, by rw [hb.cell (p := ⟨b, off + i * 4 + 2, none⟩) (cell_lt c2)]; exact c2, by rw [hb.cell (p := ⟨b, off + i * 4 + 3, none⟩) (cell_lt c3)]; exact c3, hr.below hb, hm.below hb⟩
theorem Jv.below {w w' : World} {v : Value} {js : List Jb} (h : Jv w v js) (hb : Below w.heap.size w w') : Jv w' v js := by
 obtain ⟨ao, cap, e, h1, h2, h3⟩ := h
 exact ⟨ao, cap, e, h1, h2, h3.below hb⟩
end
section
open Go.ChangeShapes Go.WideShapes Go.ChangeAt Go.RowKit

theorem cells_boolS : Tryz.prog.cellsOf 4 = 1 := by kernel_rfl
section

variable {H : Type} {enc : TypeId × Value → H} {W : World} {sp : Nat → Bool} {held : Bool} {base : Nat}

theorem cell_boolS {n : Nat} {v : Value} {x : DataW H × List MemPlace} (h : DataW.trod enc Tryz.prog W base sp held n 4 [v] = some x) : ∃ b : Bool, v = .bool b := by
 cases n with
 | zero => simp [DataW.trod] at h
 | succ n =>
  simp only [DataW.trod, Tryz.underlying4] at h
  cases v <;> simp at h
  exact ⟨_, rfl⟩
end

def Szd {H : Type} {α : Type} (d : DataW H) (l : List α) : Prop := (d = .nil ∧ l = []) ∨ ∃ elems spare, d = .slice elems spare ∧ elems.length = l.length
theorem core_rv {H : Type} {enc : TypeId × Value → H} {W : World} {cs : List Value} {fuel : Nat} {y : DataW H × List MemPlace} (hf : DataW.trod enc Tryz.prog W 0 (fun _ => true) true fuel 63 cs = some y) :
  ∃ (v : Value) (l : List Rcd), cs = [v] ∧ Rv W v l ∧ ((y.1 = .nil ∧ l = []) ∨ ∃ elems spare, y.1 = .slice elems spare ∧ elems.length = l.length) := by
 rcases Go.Deep.open_slice Tryz.underlying63 hf with ⟨hcs, hx⟩ | ⟨a, len, cap, m, n, D, Pl, hcs, _, hl, hm, hmm, hx, hel⟩
 ·subst hcs
  exact ⟨_, [], rfl, ⟨⟨none, 0, rfl, by simp, by simp [maxLen], by simp, fun i hi => by simp at hi⟩, by simp⟩, .inl ⟨by rw [hx], rfl⟩⟩
 ·subst hcs
  simp only [if_true] at hmm
  have each : ∀ i, ∃ o : Rcd, i < len → (W.cell? (a.add (i * 2)) = some (.int .u64 o.k) ∧ W.cell? (a.add (i * 2 + 1)) = some (.float .f64 o.x)) ∧ o.ok := by
   intro i
   by_cases hi : i < len
   ·obtain ⟨cs', h1, h2⟩ := hel i (by omega)
    rw [cells_rec] at h1
    obtain ⟨_, hlen, hcell⟩ := World.cells?_some h1
    obtain ⟨o, rfl, hok⟩ := cells_of_rec hlen h2
    have e0 := hcell 0 (by omega)
    have e1 := hcell 1 (by omega)
    rw [Go.Deep.add_add] at e0 e1
    exact ⟨o, fun _ => ⟨⟨by simpa using e0, by simpa using e1⟩, hok⟩⟩
   ·exact ⟨⟨0, 0⟩, fun h => absurd h hi⟩
  obtain ⟨X, hX⟩ : ∃ X : Nat → Rcd, ∀ i, i < len → (W.cell? (a.add (i * 2)) = some (.int .u64 (X i).k) ∧ W.cell? (a.add (i * 2 + 1)) = some (.float .f64 (X i).x)) ∧ (X i).ok := ⟨fun i => (each i).choose, fun i => (each i).choose_spec⟩
  clear each hel
  refine ⟨_, (List.range len).map X, rfl, ⟨⟨some a, cap, by simp, by simpa using hl, hm, by simp, ?_⟩, ?_⟩, .inr ⟨_, _, by rw [hx], by simp⟩⟩
  ·intro i hi
   simp at hi
   obtain ⟨⟨h0, _⟩, _⟩ := hX 0 (by omega)
   obtain ⟨⟨g0, g1⟩, _⟩ := hX i hi
   obtain ⟨b, off, spot⟩ := a
   have hs1 : spot = none := by simpa [Addr.add] using World.cell?_spot h0
   subst hs1
   rw [WideShapes.add_plain] at g0 g1
   exact ⟨b, off, rfl, by simpa using g0, by simpa [Nat.add_assoc] using g1⟩
  ·intro o ho
   simp only [List.mem_map, List.mem_range] at ho
   obtain ⟨i, hi, rfl⟩ := ho
   exact (hX i hi).2
theorem core_kv {H : Type} {enc : TypeId × Value → H} {W : World} {cs : List Value} {fuel : Nat} {y : DataW H × List MemPlace} (hf : DataW.trod enc Tryz.prog W 0 (fun _ => true) true fuel 38 cs = some y) :
  ∃ (v : Value) (l : List Nat), cs = [v] ∧ (Kv W v l ∧ keysOk l) ∧ Szd y.1 l := by
 rcases Go.Deep.open_slice Tryz.underlying38 hf with ⟨hcs, hx⟩ | ⟨a, len, cap, m, n, D, Pl, hcs, _, hl, hm, hmm, hx, hel⟩
 ·subst hcs
  exact ⟨_, [], rfl, ⟨⟨none, 0, rfl, Nat.le_refl _, by simp, by simp, fun i hi => absurd hi (by simp [ib])⟩, by intro x hx; simp at hx⟩, .inl ⟨by rw [hx], rfl⟩⟩
 ·subst hcs
  simp only [if_true] at hmm
  have each : ∀ i, ∃ x : Nat, i < len → W.cell? (a.add i) = some (.int .u64 x) ∧ x < 18446744073709551616 := by
   intro i
   by_cases hi : i < len
   ·obtain ⟨cs', h1, h2⟩ := hel i (by omega)
    rw [cells_u64] at h1
    obtain ⟨_, hlen, hcell⟩ := World.cells?_some h1
    match cs', hlen with
    | [c], _ =>
     obtain ⟨x, rfl, hx⟩ := cell_u64 h2
     have e0 := hcell 0 (by omega)
     rw [Go.Deep.add_add] at e0
     exact ⟨x, fun _ => ⟨by simpa using e0, hx⟩⟩
   ·exact ⟨0, fun h => absurd h hi⟩
  obtain ⟨X, hX⟩ : ∃ X : Nat → Nat, ∀ i, i < len → W.cell? (a.add i) = some (.int .u64 (X i)) ∧ X i < 18446744073709551616 := ⟨fun i => (each i).choose, fun i => (each i).choose_spec⟩
  clear each hel
  refine ⟨_, (List.range len).map X, rfl, ⟨⟨some a, cap, by simp [ib], by simpa [ib] using hl, hm, by simp, ?_⟩, ?_⟩, .inr ⟨_, _, by rw [hx], by simp⟩⟩
  ·intro i hi
   have hil : i < len := by simpa [ib] using hi
   obtain ⟨h0, _⟩ := hX 0 (by omega)
   obtain ⟨g0, _⟩ := hX i hil
   obtain ⟨b, off, spot⟩ := a
   have hs1 : spot = none := by simpa [Addr.add] using World.cell?_spot h0
   subst hs1
   rw [WideShapes.add_plain] at g0
   exact ⟨b, off, rfl, by rw [g0]; simp [ib, List.getElem?_range hil]⟩
  ·intro x hx
   simp only [List.mem_map, List.mem_range] at hx
   obtain ⟨i, hi, rfl⟩ := hx
   exact (hX i hi).2
theorem cells_jobS : Tryz.prog.cellsOf 65 = 4 := by kernel_rfl
theorem cells_recsS : Tryz.prog.cellsOf 63 = 1 := by kernel_rfl
theorem cells_keysS : Tryz.prog.cellsOf 38 = 1 := by kernel_rfl
theorem cells_of_job {H : Type} {enc : TypeId × Value → H} {W : World} {cs : List Value} {fuel : Nat} {y : DataW H × List MemPlace} (hl : cs.length = 4) (hf : DataW.trod enc Tryz.prog W 0 (fun _ => true) true fuel 65 cs = some y) :
  ∃ (rv mv : Value) (j : Jb), cs = [rv, mv, .bool j.f, .bool j.s] ∧ Rv W rv j.r ∧ Kv W mv j.m := by
 obtain ⟨y0, y1, y2, y3, m, hx, _, h0, h1, h2, h3⟩ := Go.Joins.trod_struct4 Tryz.underlying65 hf
 match cs, hl with
 | [c0, c1, c2, c3], _ =>
  simp only [cells_recsS, cells_keysS, cells_boolS, List.drop_zero, List.drop_succ_cons, List.take_succ_cons, List.take_zero] at h0 h1 h2 h3
  obtain ⟨rv, recs, e0, hr, _⟩ := core_rv h0
  obtain ⟨mv, more, e1, hm, _⟩ := core_kv h1
  obtain ⟨a, rfl⟩ := cell_boolS h2
  obtain ⟨b, rfl⟩ := cell_boolS h3
  simp only [List.cons.injEq, and_true] at e0 e1
  subst e0
  subst e1
  exact ⟨c0, c1, ⟨recs, more, a, b⟩, rfl, hr, hm.1⟩
theorem open_job13 {H : Type} {enc : TypeId × Value → H} {W : World} {v : Value} {d : DataW H} {p : List MemPlace} {base : Nat}
  (hv : Value.okWide Tryz.prog W .any base 65 v) (h : DataW.Trod enc Tryz.prog W 0 (fun _ => true) true 65 v d p) :
  ∃ (rv mv : Value) (j : Jb), v = .agg #[rv, mv, .bool j.f, .bool j.s] ∧ Rv W rv j.r ∧ Kv W mv j.m := by
 obtain ⟨cs, rfl, hsz⟩ := okWide_struct Tryz.underlying65 hv
 obtain ⟨fuel, hf⟩ := h
 have h4 : cs.size = 4 := by simpa [Value.cells, cells_jobS] using hsz
 obtain ⟨c0, c1, c2, c3, rfl⟩ := Go.Joins.array4 h4
 obtain ⟨rv, mv, j, e, hr, hm⟩ := cells_of_job (cs := [c0, c1, c2, c3]) rfl (by simpa [Value.cells] using hf)
 simp only [List.cons.injEq, and_true] at e
 obtain ⟨rfl, rfl, rfl, rfl⟩ := e
 exact ⟨c0, c1, j, rfl, hr, hm⟩
theorem open_jobs {H : Type} {enc : TypeId × Value → H} {W : World} {v : Value} {d : DataW H} {p : List MemPlace} {base : Nat}
  (hv : Value.okWide Tryz.prog W .any base 57 v) (h : DataW.Trod enc Tryz.prog W 0 (fun _ => true) true 57 v d p) :
  ∃ l : List Jb, Jv W v l := by
 obtain ⟨ao, len0, cap0, rfl⟩ := okWide_slice Tryz.underlying57 hv
 obtain ⟨fuel, hf⟩ := h
 rcases Go.Deep.open_slice Tryz.underlying57 hf with ⟨hcs, hx⟩ | ⟨a, len, cap, m, n, D, Pl, hcs, _, hl, hm, hmm, hx, hel⟩
 ·simp [Value.cells] at hcs
  obtain ⟨rfl, rfl, rfl⟩ := hcs
  exact ⟨[], none, 0, rfl, by simp, by simp [maxLen], fun i hi => by simp at hi⟩
 ·simp [Value.cells] at hcs
  obtain ⟨rfl, rfl, rfl⟩ := hcs
  simp only [if_true] at hmm
  have each : ∀ i, ∃ o : Value × Value × Jb, i < len0 → W.cell? (a.add (i * 4)) = some o.1 ∧ W.cell? (a.add (i * 4 + 1)) = some o.2.1 ∧ W.cell? (a.add (i * 4 + 2)) = some (.bool o.2.2.f) ∧ W.cell? (a.add (i * 4 + 3)) = some (.bool o.2.2.s) ∧ Rv W o.1 o.2.2.r ∧ Kv W o.2.1 o.2.2.m := by
   intro i
   by_cases hi : i < len0
   ·obtain ⟨cs', h1, h2⟩ := hel i (by omega)
    rw [cells_jobS] at h1
    obtain ⟨_, hlen, hcell⟩ := World.cells?_some h1
    obtain ⟨rv, mv, j, rfl, hr, hk⟩ := cells_of_job hlen h2
    have e0 := hcell 0 (by omega)
    have e1 := hcell 1 (by omega)
    have e2 := hcell 2 (by omega)
    have e3 := hcell 3 (by omega)
    rw [Go.Deep.add_add] at e0 e1 e2 e3
    exact ⟨⟨rv, mv, j⟩, fun _ => ⟨by simpa using e0, by simpa using e1, by simpa using e2, by simpa using e3, hr, hk⟩⟩
   ·exact ⟨⟨undef, undef, ⟨[], [], false, false⟩⟩, fun h => absurd h hi⟩
  obtain ⟨X, hX⟩ : ∃ X : Nat → Value × Value × Jb, ∀ i, i < len0 → W.cell? (a.add (i * 4)) = some (X i).1 ∧ W.cell? (a.add (i * 4 + 1)) = some (X i).2.1 ∧ W.cell? (a.add (i * 4 + 2)) = some (.bool (X i).2.2.f) ∧ W.cell? (a.add (i * 4 + 3)) = some (.bool (X i).2.2.s) ∧ Rv W (X i).1 (X i).2.2.r ∧ Kv W (X i).2.1 (X i).2.2.m := ⟨fun i => (each i).choose, fun i => (each i).choose_spec⟩
  clear each hel
  refine ⟨(List.range len0).map (fun i => (X i).2.2), some a, cap0, by simp, by simpa using hl, hm, ?_⟩
  intro i hi
  simp at hi
  obtain ⟨h0, _⟩ := hX 0 (by omega)
  obtain ⟨g0, g1, g2, g3, g4, g5⟩ := hX i hi
  obtain ⟨b, off, spot⟩ := a
  have hs1 : spot = none := by simpa [Addr.add] using World.cell?_spot h0
  subst hs1
  rw [WideShapes.add_plain] at g0 g1 g2 g3
  exact ⟨b, off, (X i).1, (X i).2.1, rfl, by simpa using g0, by simpa [Nat.add_assoc] using g1, by simpa [Nat.add_assoc] using g2, by simpa [Nat.add_assoc] using g3, by simpa using g4, by simpa using g5⟩
end
end Go.Proofs.YtofkhgokfdpdiaaGreat
