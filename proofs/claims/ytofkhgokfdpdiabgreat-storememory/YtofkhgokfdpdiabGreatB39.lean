/- Pages of cells as rising lists. Nothing is walked here. -/
import Derived.Test.YtofkhgokfdpdiabGreatB02
import Derived.Test.YtofkhgokfdpdiabGreatB35
import Derived.Test.YtofkhgokfdpdiabGreatB37
import Derived.Test.YtofkhgokfdpdiabGreatB38
set_option maxRecDepth 100000
set_option maxHeartbeats 16000000
namespace Go.Proofs.YtofkhgokfdpdiabGreat
section
open Go.RowKit

section

variable {A : Nat → Prop} {w w1 : World} {sv dv : Value} {k : Int} {P : Bo} {S : Dk} {sp : Nat}

def QyGot (A : Nat → Prop) (w : World) (sv dv : Value) (k : Int) (P : Bo) (S : Dk) (Ls : List (List Cl)) (key : Nat) (n : Int) (e : Ending) (w' : World) : Prop :=
 ∃ (c : Nat) (v : Vl) (S' : Dk), e = .returned (.tuple #[.agg #[.bool v.h, .int .u64 v.b], .int .i64 c]) ∧ ((shutB P S = true ∧ c = 80 ∧ v = noV) ∨ (shutB P S = false ∧ c = 0 ∧ v = shRes Ls key n)) ∧ ST A w' sv dv k (getB P S) S' ∧ Rdd 6 S S' ∧ Ch A w w'
theorem ch_two {D : Nat → Prop} {w0 w1 : World} {g : Nat} (h : Ch D w0 w1) (hg : D g ∨ w0.heap.size ≤ g) (a b : Value) : Ch D w0 ((w1.setCell ⟨g, 0, none⟩ a).setCell ⟨g, 1, none⟩ b) := by
 have s : ∀ {x : World} (i : Nat) (u : Value), Ch D w0 x → Ch D w0 (x.setCell ⟨g, i, none⟩ u) := fun i u hx => hx.trans (ch_set _ g i u) (fun y hy => by subst hy; exact hg)
 exact s _ _ (s _ _ h)
theorem ST.two (h : ST A w (.pointer (some ⟨sp, 0, none⟩)) dv k P S) {g : Nat} (hg : ¬ A g) (hp : sp ≠ g) (a b : Value) : ST A ((w.setCell ⟨g, 0, none⟩ a).setCell ⟨g, 1, none⟩ b) (.pointer (some ⟨sp, 0, none⟩)) dv k P S := by
 have s : ∀ {x : World} (i : Nat) (u : Value), ST A x (.pointer (some ⟨sp, 0, none⟩)) dv k P S → ST A (x.setCell ⟨g, i, none⟩ u) (.pointer (some ⟨sp, 0, none⟩)) dv k P S := fun i u hx => hx.setB (fun y _ hA e => by subst e; exact hg hA) (fun s e => by cases e; exact hp)
 exact s _ _ (s _ _ h)
theorem query_walk (h : ST A w sv dv k P S) {Ls : List (List Cl)} (hD : shutB P S = false → decP P S 6 = some Ls) (hrd : S.rd < 4611686018427387904) (key : Nat) (n : Int) :
  Calls Tryz.prog 22 #[sv, .int .u64 key, .int .i64 n] w (QyGot A w sv dv k P S Ls key n) := by
 have HD : Hid (shutB P S = false → decP P S 6 = some Ls) := hD
 have HRD := hidH hrd
 obtain ⟨sp, hsp, hsl, hsA⟩ := h.ptr
 subst hsp
 have HALW : Hid (∀ x, A x → x < w.heap.size) := fun x hx => h.lt hx
 have HSPW : Hid (sp < w.heap.size) := hsl
 have HB0 : Hid (Below w.heap.size w (w.alloc (Obj.cells #[.bool false, .int .u64 0] 58))) := below_alloc _ _
 have HT0 : Hid (ST A (w.alloc (Obj.cells #[.bool false, .int .u64 0] 58)) (.pointer (some ⟨sp, 0, none⟩)) dv k P S) := h.below HB0.out
 have HR0 : Hid ((w.alloc (Obj.cells #[.bool false, .int .u64 0] 58)).cell? ⟨w.heap.size, 0, none⟩ = some (.bool false) ∧ (w.alloc (Obj.cells #[.bool false, .int .u64 0] 58)).cell? ⟨w.heap.size, 1, none⟩ = some (.int .u64 0) ∧ ∀ j, (w.alloc (Obj.cells #[.bool false, .int .u64 0] 58)).frozen? ⟨w.heap.size, j, none⟩ = false) := ⟨by simp [go_sem], by simp [go_sem], by intro j; simp [go_sem]⟩
 clear h hD hrd hsl hsA
 go_in
 go_upto_region 1 with fail
 obtain ⟨R, hR⟩ : ∃ R, R = w.heap.size := ⟨_, rfl⟩
 rw [← hR] at HR0 ⊢
 have HR : Hid (R = w.heap.size) := hR
 clear hR
 generalize w.alloc (Obj.cells #[.bool false, .int .u64 0] 58) = w0 at HB0 HT0 HR0 ⊢
 have HNA : Hid (¬ A R) := fun e => by have h1 := HALW.out _ e; have h2 := HR.out; omega
 have HSR : Hid (sp ≠ R) := by have h1 := HSPW.out; have h2 := HR.out; show _ ≠ _; omega
 go_wp2_with fail
 refine (cells_walk HT0.out HRD.out).mono ?_
 rintro e w1 ⟨c, f, S1, rfl, hform, hfr, hcase, hst1, hrdd1, hch1⟩
 have HT1 := hidH hst1
 have HR1 : Hid (Rdd 6 S S1) := hrdd1
 have HC1 : Hid (Ch A w w1) := (Ch.of_below HB0.out).self hch1
 have HZ1 : Hid (w1.cell? ⟨R, 0, none⟩ = some (.bool false) ∧ w1.cell? ⟨R, 1, none⟩ = some (.int .u64 0) ∧ ∀ j, w1.frozen? ⟨R, j, none⟩ = false) := ⟨hch1.cell HR0.out.1 HNA.out, hch1.cell HR0.out.2.1 HNA.out, fun j => by
  have e := hch1.block R (cell_lt HR0.out.1) HNA.out
  have hz := HR0.out.2.2 j
  unfold World.frozen? at hz ⊢
  rw [e]; exact hz⟩
 have HCASE : Hid ((c = 80 ∧ shutB P S = true) ∨ (c = 0 ∧ shutB P S = false ∧ Ls.length = 6 ∧ ∀ j, j < 6 → Cv w1 (f j) (pgc Ls j))) := by
  rcases hcase with h | ⟨_, h1, h2⟩ | ⟨h1, h2, L', h3, h4⟩
  ·exact .inl h
  ·rw [HD.out h1] at h2; cases h2
  ·have e := HD.out h2
   rw [e] at h3
   cases h3
   exact .inr ⟨h1, h2, decP_len e, h4⟩
 obtain ⟨a0, n0, p0, e0⟩ := hform 0 (by omega)
 obtain ⟨a1, n1, p1, e1⟩ := hform 1 (by omega)
 obtain ⟨a2, n2, p2, e2⟩ := hform 2 (by omega)
 obtain ⟨a3, n3, p3, e3⟩ := hform 3 (by omega)
 obtain ⟨a4, n4, p4, e4⟩ := hform 4 (by omega)
 obtain ⟨a5, n5, p5, e5⟩ := hform 5 (by omega)
 have HE : Hid (f 0 = .slice a0 n0 p0 ∧ f 1 = .slice a1 n1 p1 ∧ f 2 = .slice a2 n2 p2 ∧ f 3 = .slice a3 n3 p3 ∧ f 4 = .slice a4 n4 p4 ∧ f 5 = .slice a5 n5 p5) := ⟨e0, e1, e2, e3, e4, e5⟩
 rw [e0, e1, e2, e3, e4, e5]
 clear hform hfr hcase hst1 hrdd1 hch1 e0 e1 e2 e3 e4 e5
 go_upto_region 2 with fail
 have HB2 : Hid (Below w1.heap.size w1 (w1.alloc (Obj.cells #[.slice a0 n0 p0, .slice a1 n1 p1, .slice a2 n2 p2, .slice a3 n3 p3, .slice a4 n4 p4, .slice a5 n5 p5] 83))) := below_alloc _ _
 have HSL : Hid (∀ L : List (List Cl), L.length = 6 → (∀ j, j < 6 → Cv w1 (f j) (pgc L j)) → SH (w1.alloc (Obj.cells #[.slice a0 n0 p0, .slice a1 n1 p1, .slice a2 n2 p2, .slice a3 n3 p3, .slice a4 n4 p4, .slice a5 n5 p5] 83)) w1.heap.size f L) := fun L h1 h2 => by
  have h := sh_lit w1 f h1 h2
  obtain ⟨e0, e1, e2, e3, e4, e5⟩ := HE.out
  rw [e0, e1, e2, e3, e4, e5] at h
  exact h
 obtain ⟨T8, hT8⟩ : ∃ T8, T8 = w1.heap.size := ⟨_, rfl⟩
 rw [← hT8] at HSL ⊢
 clear hT8
 generalize w1.alloc (Obj.cells #[.slice a0 n0 p0, .slice a1 n1 p1, .slice a2 n2 p2, .slice a3 n3 p3, .slice a4 n4 p4, .slice a5 n5 p5] 83) = w2 at HB2 HSL ⊢
 have HRL : Hid (R < w1.heap.size) := cell_lt HZ1.out.1
 have HZ2 : Hid (w2.cell? ⟨R, 0, none⟩ = some (.bool false) ∧ w2.cell? ⟨R, 1, none⟩ = some (.int .u64 0) ∧ ∀ j, w2.frozen? ⟨R, j, none⟩ = false) := ⟨by rw [HB2.out.cell (p := ⟨R, 0, none⟩) HRL.out]; exact HZ1.out.1, by rw [HB2.out.cell (p := ⟨R, 1, none⟩) HRL.out]; exact HZ1.out.2.1, fun j => by rw [HB2.out.frozen (p := ⟨R, j, none⟩) HRL.out]; exact HZ1.out.2.2 j⟩
 have HT2 := hidH (HT1.out.below HB2.out)
 have HC2 : Hid (Ch A w w2) := HC1.out.self (Ch.of_below HB2.out)
 rcases HCASE.out with ⟨rfl, h2⟩ | ⟨rfl, h2, h3, h4⟩
 ·have HS : Hid (shutB P S = true) := h2
  obtain ⟨r0, r1, rz⟩ := HZ2.out
  have z0 := rz 0
  have z1 := rz 1
  have HFIN : Hid _ := ch_two HC2.out (.inr (by rw [HR.out]; exact Nat.le_refl _)) (g := R) (.bool false) (.int .u64 0)
  have HTF : Hid _ := HT2.out.two HNA.out HSR.out (.bool false) (.int .u64 0)
  clear rz h2
  go_wp2_with fail
  (try simp only [Exit.inBlock, Exit.then])
  refine bodyPost_ret (v := .tuple #[.agg #[.bool false, .int .u64 0], .int .i64 80]) (by rw [results_cell_tmp rfl]; go_simp) rfl ?_
  exact ⟨80, noV, S1, rfl, .inl ⟨HS.out, rfl, rfl⟩, HTF.out, HR1.out, HFIN.out⟩
 ·have HS : Hid (shutB P S = false) := h2
  have HSH : Hid (SH w2 T8 f Ls) := HSL.out Ls h3 h4
  clear h2 h3 h4
  obtain ⟨v, hv⟩ : ∃ v, v = shRes Ls key n := ⟨_, rfl⟩
  have HVV : Hid (v = shRes Ls key n) := hv
  clear hv
  go_wp2_with fail
  refine (sresolve_walk HSH.out key n).mono ?_
  rw [← HVV.out]
  rintro e w3 ⟨rfl, hB3⟩
  have HRL2 : Hid (R < w2.heap.size) := cell_lt HZ2.out.1
  have r0 : w3.cell? ⟨R, 0, none⟩ = some (.bool false) := by rw [hB3.cell (p := ⟨R, 0, none⟩) HRL2.out]; exact HZ2.out.1
  have r1 : w3.cell? ⟨R, 1, none⟩ = some (.int .u64 0) := by rw [hB3.cell (p := ⟨R, 1, none⟩) HRL2.out]; exact HZ2.out.2.1
  have z0 : w3.frozen? ⟨R, 0, none⟩ = false := by rw [hB3.frozen (p := ⟨R, 0, none⟩) HRL2.out]; exact HZ2.out.2.2 0
  have z1 : w3.frozen? ⟨R, 1, none⟩ = false := by rw [hB3.frozen (p := ⟨R, 1, none⟩) HRL2.out]; exact HZ2.out.2.2 1
  have HFIN : Hid _ := ch_two (HC2.out.self (Ch.of_below hB3)) (.inr (by rw [HR.out]; exact Nat.le_refl _)) (g := R) (.bool v.h) (.int .u64 v.b)
  have HTF : Hid _ := (HT2.out.below hB3).two HNA.out HSR.out (.bool v.h) (.int .u64 v.b)
  clear hB3
  go_wp2_with fail
  (try simp only [Exit.inBlock, Exit.then])
  refine bodyPost_ret (v := .tuple #[.agg #[.bool v.h, .int .u64 v.b], .int .i64 0]) (by rw [results_cell_tmp rfl]; go_simp) rfl ?_
  exact ⟨0, v, S1, rfl, .inr ⟨HS.out, rfl, HVV.out⟩, HTF.out, HR1.out, HFIN.out⟩
end
end
section
open Go.RowKit

def pagesW (m : Mk) (Ls : List (List Cl)) : List (List Nat) := (encM m).1 :: Ls.map (fun l => (encode l).1)
structure Gd (m : Mk) (Ls : List (List Cl)) : Prop where
 snd : soundBM m = true
 ko : keysOk m.k
 pok : Pok Ls
 enc : ∀ i, i < 6 → (encode (pgc Ls i)).2 = 0
theorem bk_zero (m : Mk) (Ls : List (List Cl)) : bk (pagesW m Ls) 0 = (encM m).1 := rfl
theorem bk_succ (m : Mk) (Ls : List (List Cl)) (i : Nat) : bk (pagesW m Ls) (i + 1) = (encode (pgc Ls i)).1 := by
 unfold bk pagesW pgc
 simp only [List.getD_eq_getElem?_getD, List.getElem?_cons_succ, List.getElem?_map]
 cases Ls[i]? with
 | none => rfl
 | some l => rfl
theorem encAll_short : ∀ ks : List Nat, (Wm.encAll ks).length ≤ 10 * ks.length := by
 intro ks
 induction ks with
 | nil => simp [Wm.encAll]
 | cons k l ih =>
  have := Wm.enc_len k
  simp only [Wm.encAll, List.length_append, List.length_cons] at ih ⊢
  omega
theorem encM_short (m : Mk) : (encM m).1.length ≤ 1024 := by
 unfold encM
 split
 ·rename_i h
  have h1 := sound_parts h
  have h2 := Wm.enc_len m.b.toNat
  have h3 := Wm.enc_len m.a.toNat
  have h4 := Wm.enc_len m.k.length
  have h5 := encAll_short m.k
  show (bytesM m).length ≤ _
  unfold bytesM
  simp only [List.length_append]
  omega
 ·simp
theorem encM_ne {m : Mk} (h : soundBM m = true) : (encM m).1 ≠ [] := by
 unfold encM
 rw [if_pos h]
 have h2 := Wm.enc_len m.b.toNat
 intro e
 have : (bytesM m).length = 0 := by simp only at e; rw [e]; rfl
 unfold bytesM at this
 simp only [List.length_append] at this
 omega
section

variable {P : Bo} {S : Dk} {m m' : Mk} {Ls Ls' : List (List Cl)}

theorem hd_mark (g : Gd m Ls) (h : Iw P S (pagesW m Ls)) : decM (getL P S 0) = (m, 0) := by
 have h1 := h.get (p := 0) (by omega)
 rw [bk_zero] at h1
 rw [show ((0 : Nat) : Int) = 0 from rfl] at h1
 rw [h1]
 have h2 := formM_there g.snd g.ko []
 unfold encM
 rw [if_pos g.snd]
 simpa using h2
theorem hd_page (g : Gd m Ls) (h : Iw P S (pagesW m Ls)) {i : Nat} (hi : i < 6) : decode (getL P S (1 + (i : Int))) = (pgc Ls i, 0) := by
 have h1 := h.get (p := i + 1) (by omega)
 rw [bk_succ] at h1
 rw [show (1 + (i : Int)) = ((i + 1 : Nat) : Int) by omega, h1]
 exact form_there (g.enc i hi) (g.pok.2.1 i hi)
theorem hd_dec (g : Gd m Ls) (h : Iw P S (pagesW m Ls)) : ∀ k, k ≤ 6 → decP P S k = some (Ls.take k) := by
 intro k
 induction k with
 | zero => intro _; rfl
 | succ k ih =>
  intro hk
  have h1 := hd_page g h (i := k) (by omega)
  have hl : k < Ls.length := by rw [g.pok.1]; omega
  rw [decP_ok (ih (by omega)) (by rw [h1]), h1, List.take_succ_eq_append_getElem hl, pgc_get hl]
theorem hd_cells (g : Gd m Ls) (h : Iw P S (pagesW m Ls)) : decP P S 6 = some Ls := by
 have := hd_dec g h 6 (Nat.le_refl _)
 rwa [List.take_of_length_le (by rw [g.pok.1]; exact Nat.le_refl _)] at this
theorem chg_mem {old new : List (List Cl)} : ∀ {n : Nat} {q : Int × List Nat}, q ∈ chgL old new n ↔ ∃ i : Nat, i < n ∧ pgc new i ≠ pgc old i ∧ q = (1 + (i : Int), (encode (pgc new i)).1) := by
 intro n
 induction n with
 | zero => intro q; simp [chgL]
 | succ n ih =>
  intro q
  by_cases h : pgc new n = pgc old n
  ·rw [chg_same h, ih]
   constructor
   ·rintro ⟨i, a, b, c⟩; exact ⟨i, by omega, b, c⟩
   ·rintro ⟨i, a, b, c⟩
    refine ⟨i, ?_, b, c⟩
    have : i ≠ n := by rintro rfl; exact b h
    omega
  ·rw [chg_other h, List.mem_append, ih]
   constructor
   ·rintro (⟨i, a, b, c⟩ | e)
    ·exact ⟨i, by omega, b, c⟩
    ·simp at e; exact ⟨n, by omega, h, e⟩
   ·rintro ⟨i, a, b, c⟩
    by_cases e : i = n
    ·subst e; right; simp [c]
    ·left; exact ⟨i, by omega, b, c⟩
theorem chg_nodup (old new : List (List Cl)) : ∀ n : Nat, ((chgL old new n).map (·.1)).Nodup := by
 intro n
 induction n with
 | zero => simp [chgL]
 | succ n ih =>
  by_cases h : pgc new n = pgc old n
  ·rw [chg_same h]; exact ih
  ·rw [chg_other h, List.map_append, List.nodup_append]
   refine ⟨ih, by simp, fun a ha b hb => ?_⟩
   obtain ⟨q, hq, e⟩ := List.mem_map.1 ha
   obtain ⟨i, h1, h2, h3⟩ := chg_mem.1 hq
   simp at hb
   subst hb
   rw [← e, h3]
   show 1 + (i : Int) ≠ _
   omega
theorem chg_self (Ls : List (List Cl)) : ∀ n, chgL Ls Ls n = [] := by
 intro n
 induction n with
 | zero => rfl
 | succ n ih => rw [chg_same rfl, ih]
theorem bk_extS {a b : List (List Nat)} (hl : a.length = b.length) (h : ∀ p, p < a.length → bk a p = bk b p) : a = b := by
 refine List.ext_getElem hl (fun i h1 h2 => ?_)
 have := h i h1
 unfold bk at this
 simpa [h1, h2] using this
def chgM (Ls Ls' : List (List Cl)) (o : Option Mk) : List (Int × List Nat) := chgL Ls Ls' 6 ++ (match o with | none => [] | some m => [(0, (encM m).1)])
theorem chgM_lok (g : Gd m' Ls') (o : Option Mk) : Lok 7 (chgM Ls Ls' o) := by
 have h1 : ∀ q ∈ chgL Ls Ls' 6, 1 ≤ q.1 ∧ q.1 < 7 ∧ q.2.length ≤ 1024 := fun q hq => by
  obtain ⟨i, a, b, e⟩ := chg_mem.1 hq
  subst e
  refine ⟨by show 1 ≤ 1 + (i : Int); omega, by show 1 + (i : Int) < 7; omega, (form_len (g.enc i a)).1⟩
 cases o with
 | none =>
  unfold chgM
  simp only [List.append_nil]
  exact ⟨fun q hq => by have := h1 q hq; omega, chg_nodup _ _ 6, fun q hq => (h1 q hq).2.2⟩
 | some x =>
  unfold chgM
  refine ⟨fun q hq => ?_, ?_, fun q hq => ?_⟩
  ·rcases List.mem_append.1 hq with hq | hq
   ·have := h1 q hq; omega
   ·simp at hq; subst hq; simp
  ·rw [List.map_append, List.nodup_append]
   refine ⟨chg_nodup _ _ 6, by simp, fun a ha b hb => ?_⟩
   obtain ⟨q, hq, e⟩ := List.mem_map.1 ha
   simp at hb
   have := h1 q hq
   omega
  ·rcases List.mem_append.1 hq with hq | hq
   ·exact (h1 q hq).2.2
   ·simp at hq; subst hq; exact encM_short x
theorem chgM_with (hl : Ls.length = 6) (g : Gd m' Ls') (o : Option Mk) (ho : o = some m' ∨ (o = none ∧ m' = m)) : withL (pagesW m Ls) (chgM Ls Ls' o) = pagesW m' Ls' := by
 have hL := chgM_lok (Ls := Ls) g o
 have hlen : (pagesW m Ls).length = 7 := by unfold pagesW; simp [hl]
 have h0 : ∀ q ∈ chgM Ls Ls' o, 0 ≤ q.1 ∧ q.1.toNat < (pagesW m Ls).length := fun q hq => by have := hL.pg q hq; rw [hlen]; omega
 refine bk_extS (by rw [with_len, hlen]; unfold pagesW; simp [g.pok.1]) (fun p hp => ?_)
 rw [with_len, hlen] at hp
 cases p with
 | zero =>
  rcases ho with rfl | ⟨rfl, rfl⟩
  ·exact with_in (chgM Ls Ls' (some m')) (pagesW m Ls) (0, (encM m').1) (by unfold chgM; simp) h0 hL.nd
  ·rw [with_out _ _ (by rw [hlen]; omega) (fun q hq => (h0 q hq).1) ?_]
   ·rfl
   ·intro hm
    obtain ⟨q, hq, e⟩ := List.mem_map.1 hm
    unfold chgM at hq
    simp only [List.append_nil] at hq
    obtain ⟨i, a, b, c⟩ := chg_mem.1 hq
    rw [c] at e
    simp only at e
    omega
 | succ i =>
  by_cases h : pgc Ls' i = pgc Ls i
  ·rw [with_out _ _ (by rw [hlen]; omega) (fun q hq => (h0 q hq).1) ?_]
   ·rw [bk_succ, bk_succ, h]
   ·intro hm
    obtain ⟨q, hq, e⟩ := List.mem_map.1 hm
    unfold chgM at hq
    rcases List.mem_append.1 hq with hq | hq
    ·obtain ⟨j, a, b, c⟩ := chg_mem.1 hq
     rw [c] at e
     simp only at e
     have : j = i := by omega
     subst this
     exact b h
    ·rcases ho with rfl | ⟨rfl, rfl⟩
     ·simp at hq; subst hq; simp at e; omega
     ·simp at hq
  ·have := with_in (chgM Ls Ls' o) (pagesW m Ls) (1 + (i : Int), (encode (pgc Ls' i)).1) (by unfold chgM; rw [List.mem_append]; exact .inl (chg_mem.2 ⟨i, by omega, h, rfl⟩)) h0 hL.nd
   rw [bk_succ]
   rw [show (1 + (i : Int)).toNat = i + 1 by omega] at this
   exact this
def begS (Ls : List (List Cl)) (m : Mk) (b : Int) : List (List Cl) := if b = m.b then Ls.map (revL m.k m.b) else Ls
theorem begL_is (Ls : List (List Cl)) (m : Mk) (b a : Int) (ks : List Nat) : begL Ls m b a ks = chgM Ls (begS Ls m b) (some ⟨b, a, ks⟩) := by
 unfold begL tbL chgM begS
 split
 ·rfl
 ·rw [chg_self]
theorem apL_is (kind b : Int) (Ls : List (List Cl)) (l : List Pr) : apL kind b Ls l = chgM Ls (appA kind b Ls l).2 none := by
 unfold apL chgM
 simp
end
end
section
def SrtC (l : List Cl) : Prop := l.Pairwise (fun a b => a.k < b.k)
theorem ordE_iff : ∀ (l : List Cl) (o : Option Nat), ordE o l = true ↔ SrtC l ∧ ∀ j, o = some j → ∀ c ∈ l, j < c.k := by
 intro l
 induction l with
 | nil => intro o; simp [ordE, SrtC]
 | cons d r ih =>
  intro o
  rw [ordE, Bool.and_eq_true, ih]
  unfold SrtC
  rw [List.pairwise_cons]
  constructor
  ·rintro ⟨h1, h2, h3⟩
   refine ⟨⟨fun a ha => h3 d.k rfl a ha, h2⟩, fun j hj c hc => ?_⟩
   subst hj
   have h4 : j < d.k := of_decide_eq_true h1
   rcases List.mem_cons.1 hc with rfl | hc
   ·exact h4
   ·have := h3 d.k rfl c hc; omega
  ·rintro ⟨⟨h1, h2⟩, h3⟩
   refine ⟨?_, h2, fun j hj c hc => by cases hj; exact h1 c hc⟩
   cases o with
   | none => rfl
   | some j => exact decide_eq_true (h3 j rfl d (by simp))
theorem ordB_iff {l : List Cl} : ordB l = true ↔ SrtC l := by
 unfold ordB
 rw [ordE_iff]
 simp
theorem encE_iff : ∀ (l : List Cl) (o : Option Nat), encE o l = 0 ↔ ordE o l = true ∧ ∀ c ∈ l, writB c = true := by
 intro l
 induction l with
 | nil => intro o; simp [encE, ordE]
 | cons d r ih =>
  intro o
  rw [encE, ordE]
  cases h1 : folB o d.k
  ·simp
  ·cases h2 : writB d
   ·simp [h2]
   ·simp [ih, h2]
theorem encode_iff {l : List Cl} : (encode l).2 = 0 ↔ l.length ≤ 16 ∧ SrtC l ∧ ∀ c ∈ l, writB c = true := by
 constructor
 ·intro h
  rcases encode_zero h with ⟨rfl, _⟩ | ⟨_, h2, h3, _⟩
  ·simp [SrtC]
  ·have := (encE_iff l none).1 h3
   exact ⟨h2, ordB_iff.1 this.1, this.2⟩
 ·rintro ⟨h1, h2, h3⟩
  unfold encode
  rw [if_neg (by omega)]
  split
  ·rfl
  ·rw [if_pos ((encE_iff l none).2 ⟨ordB_iff.2 h2, h3⟩)]
theorem fnd_cut : ∀ {l : List Cl} {k : Nat}, SrtC l → (∀ c ∈ l.take (fndF l k), c.k < k) ∧ (∀ c ∈ l.drop (fndF l k), k ≤ c.k) := by
 intro l
 induction l with
 | nil => intro k _; simp
 | cons d r ih =>
  intro k h
  unfold SrtC at h
  rw [List.pairwise_cons] at h
  rw [fndF]
  split
  ·rename_i hd
   obtain ⟨h1, h2⟩ := ih (k := k) h.2
   refine ⟨fun c hc => ?_, fun c hc => h2 c (by simpa using hc)⟩
   rw [List.take_succ_cons, List.mem_cons] at hc
   rcases hc with rfl | hc
   ·exact hd
   ·exact h1 c hc
  ·refine ⟨by simp, fun c hc => ?_⟩
   simp at hc
   rcases hc with rfl | hc
   ·omega
   ·have := h.1 c hc; omega
theorem isK_iff {l : List Cl} {k : Nat} (h : SrtC l) : isK l (fndF l k) k = true ↔ ∃ c ∈ l, c.k = k := by
 constructor
 ·intro e
  obtain ⟨hi, e2⟩ := is_at e
  exact ⟨_, List.getElem_mem hi, e2⟩
 ·rintro ⟨c, hc, e⟩
  obtain ⟨h1, h2⟩ := fnd_cut (k := k) h
  rw [← List.take_append_drop (fndF l k) l, List.mem_append] at hc
  rcases hc with hc | hc
  ·have := h1 c hc; omega
  ·have hlt : fndF l k < l.length := by
    have := List.length_pos_of_mem hc
    simp only [List.length_drop] at this
    omega
   unfold isK
   rw [List.getElem?_eq_getElem hlt]
   refine decide_eq_true ?_
   rw [List.drop_eq_getElem_cons hlt] at hc
   rcases List.mem_cons.1 hc with e3 | hc
   ·rw [← e3]; exact e
   ·have hs : SrtC (l.drop (fndF l k)) := List.Pairwise.sublist (List.drop_sublist _ _) h
    rw [List.drop_eq_getElem_cons hlt] at hs
    have h4 := (List.pairwise_cons.1 hs).1 c hc
    have h5 := h2 l[fndF l k] (by rw [List.drop_eq_getElem_cons hlt]; exact List.mem_cons_self)
    omega
theorem srt_uniq {l : List Cl} (h : SrtC l) {c d : Cl} (hc : c ∈ l) (hd : d ∈ l) (e : c.k = d.k) : c = d := by
 induction l with
 | nil => simp at hc
 | cons a r ih =>
  obtain ⟨h1, h2⟩ := List.pairwise_cons.1 h
  rcases List.mem_cons.1 hc with q | q
  ·rcases List.mem_cons.1 hd with z | z
   ·rw [q, z]
   ·have := h1 d z; rw [q] at e; omega
  ·rcases List.mem_cons.1 hd with z | z
   ·have := h1 c q; rw [z] at e; omega
   ·exact ih h2 q z
theorem srt_mid {a b : List Cl} {c : Cl} (ha : SrtC a) (hb : SrtC b) (h1 : ∀ x ∈ a, x.k < c.k) (h2 : ∀ x ∈ b, c.k < x.k) : SrtC (a ++ ([c] ++ b)) := by
 unfold SrtC
 rw [List.pairwise_append]
 refine ⟨ha, ?_, fun x hx y hy => ?_⟩
 ·rw [List.singleton_append, List.pairwise_cons]; exact ⟨h2, hb⟩
 ·rw [List.singleton_append, List.mem_cons] at hy
  rcases hy with rfl | hy
  ·exact h1 x hx
  ·have := h1 x hx; have := h2 y hy; omega
theorem put_srt {l : List Cl} {c : Cl} (hs : SrtC l) (h : (∃ d ∈ l, d.k = c.k) ∨ l.length < 16) : ∃ r, putR l c = (r, 0) ∧ SrtC r ∧ (∀ x, x ∈ r ↔ x = c ∨ (x ∈ l ∧ x.k ≠ c.k)) := by
 obtain ⟨h1, h2⟩ := fnd_cut (k := c.k) hs
 have ht : SrtC (l.take (fndF l c.k)) := List.Pairwise.sublist (List.take_sublist _ _) hs
 unfold putR
 rw [if_neg (by rw [ordB_iff.2 hs]; simp)]
 by_cases hk : isK l (fndF l c.k) c.k = true
 ·rw [if_pos hk]
  obtain ⟨hi, e⟩ := is_at hk
  have hd : SrtC (l.drop (fndF l c.k)) := List.Pairwise.sublist (List.drop_sublist _ _) hs
  have hcut := List.take_append_drop (fndF l c.k) l
  rw [List.drop_eq_getElem_cons hi] at hd hcut
  obtain ⟨h3, h4⟩ := List.pairwise_cons.1 hd
  have h5 : ∀ x ∈ l.drop (fndF l c.k + 1), c.k < x.k := fun x hx => by have := h3 x hx; omega
  refine ⟨_, rfl, srt_mid ht h4 h1 h5, fun x => ?_⟩
  have hm : x ∈ l ↔ x ∈ l.take (fndF l c.k) ∨ x = l[fndF l c.k] ∨ x ∈ l.drop (fndF l c.k + 1) := by
   conv => lhs; rw [← hcut]
   rw [List.mem_append, List.mem_cons]
  rw [List.mem_append, List.mem_append, List.mem_singleton, hm]
  constructor
  ·rintro (q | q | q)
   ·exact .inr ⟨.inl q, by have := h1 x q; omega⟩
   ·exact .inl q
   ·exact .inr ⟨.inr (.inr q), by have := h5 x q; omega⟩
  ·rintro (q | ⟨q | q | q, n⟩)
   ·exact .inr (.inl q)
   ·exact .inl q
   ·subst q; exact absurd e n
   ·exact .inr (.inr q)
 ·rw [if_neg hk]
  have hn : ∀ d ∈ l, d.k ≠ c.k := fun d hd e => hk ((isK_iff hs).2 ⟨d, hd, e⟩)
  have hlt : l.length < 16 := by
   rcases h with ⟨d, hd, e⟩ | h
   ·exact absurd e (hn d hd)
   ·exact h
  rw [if_neg (by omega)]
  have hcut := List.take_append_drop (fndF l c.k) l
  have h5 : ∀ x ∈ l.drop (fndF l c.k), c.k < x.k := fun x hx => by
   have h6 := h2 x hx
   have h7 := hn x (List.mem_of_mem_drop hx)
   omega
  refine ⟨_, rfl, srt_mid ht (List.Pairwise.sublist (List.drop_sublist _ _) hs) h1 h5, fun x => ?_⟩
  have hm : x ∈ l ↔ x ∈ l.take (fndF l c.k) ∨ x ∈ l.drop (fndF l c.k) := by
   conv => lhs; rw [← hcut]
   rw [List.mem_append]
  rw [List.mem_append, List.mem_append, List.mem_singleton]
  constructor
  ·rintro (q | q | q)
   ·have := List.mem_of_mem_take q; exact .inr ⟨this, hn x this⟩
   ·exact .inl q
   ·have := List.mem_of_mem_drop q; exact .inr ⟨this, hn x this⟩
  ·rintro (q | ⟨q, n⟩)
   ·exact .inr (.inl q)
   ·rcases hm.1 q with q | q
    ·exact .inl q
    ·exact .inr (.inr q)
theorem find_srt {l : List Cl} {k : Nat} (hs : SrtC l) : findB l k = true ↔ ∃ c ∈ l, c.k = k := by
 rw [findB_ord (ordB_iff.2 hs)]; exact isK_iff hs
theorem find_is {l : List Cl} {c : Cl} (hs : SrtC l) (hc : c ∈ l) : l.getD (findI l c.k) zeroC = c := by
 obtain ⟨hi, e⟩ := find_at ((find_srt hs).2 ⟨c, hc, rfl⟩)
 rw [List.getD_eq_getElem?_getD, List.getElem?_eq_getElem hi]
 exact srt_uniq hs (List.getElem_mem hi) hc e
theorem nodup_lt : ∀ (n : Nat) (l : List Nat), l.Nodup → (∀ x ∈ l, x < n) → l.length ≤ n := by
 intro n
 induction n with
 | zero => intro l _ h; cases l with | nil => simp | cons a r => exact absurd (h a (by simp)) (by omega)
 | succ n ih =>
  intro l hn h
  by_cases hm : n ∈ l
  ·have h1 := ih (l.erase n) (hn.erase n) (fun x hx => by
    rw [hn.mem_erase_iff] at hx
    have := h x hx.2
    omega)
   have h2 := List.length_erase_of_mem hm
   omega
  ·have := ih l hn (fun x hx => by
    have h1 := h x hx
    have : x ≠ n := fun e => hm (e ▸ hx)
    omega)
   omega
end
end Go.Proofs.YtofkhgokfdpdiabGreat
