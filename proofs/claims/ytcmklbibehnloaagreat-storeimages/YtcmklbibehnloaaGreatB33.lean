/- What a shelf of cells answers behind Begin; a mark's own. Nothing is walked here. -/
import Derived.Test.YtcmklbibehnloaaGreatB32
set_option maxRecDepth 100000
set_option maxHeartbeats 16000000
namespace Go.Proofs.YtcmklbibehnloaaGreat
open Go.RowKit
section
def pagesW (m : Mk) (Ls : List (List Cl)) : List (List Nat) := (encM m).1 :: Ls.map (fun l => (encode l).1)
structure Gd (m : Mk) (Ls : List (List Cl)) : Prop where
 snd : soundBM m = true
 ko : keysOk m.k
 pok : Pok Ls
 enc : ∀ i, i < 6 → (encode (pgc Ls i)).2 = 0
theorem bk_zero (m : Mk) (Ls : List (List Cl)) : bk (pagesW m Ls) 0 = (encM m).1 := rfl
theorem bk_succ (m : Mk) (Ls : List (List Cl)) (i : Nat) : bk (pagesW m Ls) (i + 1) = (encode (pgc Ls i)).1 := by
 unfold bk pagesW pgc;simp only [List.getD_eq_getElem?_getD, List.getElem?_cons_succ, List.getElem?_map]
 cases Ls[i]? with
 | none => rfl
 | some l => rfl
theorem encAll_short : ∀ ks : List Nat, (Wm.encAll ks).length ≤ 10 * ks.length := by
 intro ks
 induction ks with
 | nil => simp [Wm.encAll]
 | cons k l ih =>
  have := Wm.enc_len k;simp only [Wm.encAll, List.length_append, List.length_cons] at ih ⊢;omega
theorem encM_short (m : Mk) : (encM m).1.length ≤ 1024 := by
 unfold encM
 split
 ·rename_i h
  have h1 := sound_parts h;have h2 := Wm.enc_len m.b.toNat;have h3 := Wm.enc_len m.a.toNat;have h4 := Wm.enc_len m.k.length;have h5 := encAll_short m.k;show (bytesM m).length ≤ _;unfold bytesM;simp only [List.length_append];omega
 ·simp
theorem encM_ne {m : Mk} (h : soundBM m = true) : (encM m).1 ≠ [] := by
 unfold encM;rw [if_pos h];have h2 := Wm.enc_len m.b.toNat;intro e;have : (bytesM m).length = 0 := by simp only at e; rw [e]; rfl
 unfold bytesM at this;simp only [List.length_append] at this;omega
section

variable {P : Bo} {S : Dk} {m m' : Mk} {Ls Ls' : List (List Cl)}

theorem hd_mark (g : Gd m Ls) (h : Iw P S (pagesW m Ls)) : decM (getL P S 0) = (m, 0) := by
 have h1 := h.get (p := 0) (by omega);rw [bk_zero] at h1;rw [show ((0 : Nat) : Int) = 0 from rfl] at h1;rw [h1];have h2 := formM_there g.snd g.ko [];unfold encM;rw [if_pos g.snd];simpa using h2
theorem hd_page (g : Gd m Ls) (h : Iw P S (pagesW m Ls)) {i : Nat} (hi : i < 6) : decode (getL P S (1 + (i : Int))) = (pgc Ls i, 0) := by
 have h1 := h.get (p := i + 1) (by omega);rw [bk_succ] at h1;rw [show (1 + (i : Int)) = ((i + 1 : Nat) : Int) by omega, h1];exact form_there (g.enc i hi) (g.pok.2.1 i hi)
theorem hd_dec (g : Gd m Ls) (h : Iw P S (pagesW m Ls)) : ∀ k, k ≤ 6 → decP P S k = some (Ls.take k) := by
 intro k
 induction k with
 | zero => intro _; rfl
 | succ k ih =>
  intro hk;have h1 := hd_page g h (i := k) (by omega);have hl : k < Ls.length := by rw [g.pok.1]; omega
  rw [decP_ok (ih (by omega)) (by rw [h1]), h1, List.take_succ_eq_append_getElem hl, pgc_get hl]
theorem hd_cells (g : Gd m Ls) (h : Iw P S (pagesW m Ls)) : decP P S 6 = some Ls := by
 have := hd_dec g h 6 (Nat.le_refl _);rwa [List.take_of_length_le (by rw [g.pok.1]; exact Nat.le_refl _)] at this
theorem chg_mem {old new : List (List Cl)} : ∀ {n : Nat} {q : Int × List Nat}, q ∈ chgL old new n ↔ ∃ i : Nat, i < n ∧ pgc new i ≠ pgc old i ∧ q = (1 + (i : Int), (encode (pgc new i)).1) := by
 intro n
 induction n with
 | zero => intro q; simp [chgL]
 | succ n ih =>
  intro q;by_cases h : pgc new n = pgc old n
  ·rw [chg_same h, ih];constructor
   ·rintro ⟨i, a, b, c⟩; exact ⟨i, by omega, b, c⟩
   ·rintro ⟨i, a, b, c⟩;refine ⟨i, ?_, b, c⟩;have : i ≠ n := by rintro rfl; exact b h
    omega
  ·rw [chg_other h, List.mem_append, ih];constructor
   ·rintro (⟨i, a, b, c⟩ | e)
    ·exact ⟨i, by omega, b, c⟩
    ·simp at e; exact ⟨n, by omega, h, e⟩
   ·rintro ⟨i, a, b, c⟩;by_cases e : i = n
    ·subst e; right; simp [c]
    ·left; exact ⟨i, by omega, b, c⟩
theorem chg_nodup (old new : List (List Cl)) : ∀ n : Nat, ((chgL old new n).map (·.1)).Nodup := by
 intro n
 induction n with
 | zero => simp [chgL]
 | succ n ih =>
  by_cases h : pgc new n = pgc old n
  ·rw [chg_same h]; exact ih
  ·rw [chg_other h, List.map_append, List.nodup_append];refine ⟨ih, by simp, fun a ha b hb => ?_⟩;obtain ⟨q, hq, e⟩ := List.mem_map.1 ha;obtain ⟨i, h1, h2, h3⟩ := chg_mem.1 hq;simp at hb;subst hb;rw [← e, h3];show 1 + (i : Int) ≠ _;omega
theorem chg_self (Ls : List (List Cl)) : ∀ n, chgL Ls Ls n = [] := by
 intro n
 induction n with
 | zero => rfl
 | succ n ih => rw [chg_same rfl, ih]
theorem bk_extS {a b : List (List Nat)} (hl : a.length = b.length) (h : ∀ p, p < a.length → bk a p = bk b p) : a = b := by
 refine List.ext_getElem hl (fun i h1 h2 => ?_);have := h i h1;unfold bk at this;simpa [h1, h2] using this
def chgM (Ls Ls' : List (List Cl)) (o : Option Mk) : List (Int × List Nat) := chgL Ls Ls' 6 ++ (match o with | none => [] | some m => [(0, (encM m).1)])
theorem chgM_lok (g : Gd m' Ls') (o : Option Mk) : Lok 7 (chgM Ls Ls' o) := by
 have h1 : ∀ q ∈ chgL Ls Ls' 6, 1 ≤ q.1 ∧ q.1 < 7 ∧ q.2.length ≤ 1024 := fun q hq => by
  obtain ⟨i, a, b, e⟩ := chg_mem.1 hq;subst e;refine ⟨by show 1 ≤ 1 + (i : Int); omega, by show 1 + (i : Int) < 7; omega, (form_len (g.enc i a)).1⟩
 cases o with
 | none =>
  unfold chgM;simp only [List.append_nil];exact ⟨fun q hq => by have := h1 q hq; omega, chg_nodup _ _ 6, fun q hq => (h1 q hq).2.2⟩
 | some x =>
  unfold chgM;refine ⟨fun q hq => ?_, ?_, fun q hq => ?_⟩
  ·rcases List.mem_append.1 hq with hq | hq
   ·have := h1 q hq; omega
   ·simp at hq; subst hq; simp
  ·rw [List.map_append, List.nodup_append];refine ⟨chg_nodup _ _ 6, by simp, fun a ha b hb => ?_⟩;obtain ⟨q, hq, e⟩ := List.mem_map.1 ha;simp at hb;have := h1 q hq;omega
  ·rcases List.mem_append.1 hq with hq | hq
   ·exact (h1 q hq).2.2
   ·simp at hq; subst hq; exact encM_short x
theorem chgM_with (hl : Ls.length = 6) (g : Gd m' Ls') (o : Option Mk) (ho : o = some m' ∨ (o = none ∧ m' = m)) : withL (pagesW m Ls) (chgM Ls Ls' o) = pagesW m' Ls' := by
 have hL := chgM_lok (Ls := Ls) g o;have hlen : (pagesW m Ls).length = 7 := by unfold pagesW; simp [hl]
 have h0 : ∀ q ∈ chgM Ls Ls' o, 0 ≤ q.1 ∧ q.1.toNat < (pagesW m Ls).length := fun q hq => by have := hL.pg q hq; rw [hlen]; omega
 refine bk_extS (by rw [with_len, hlen]; unfold pagesW; simp [g.pok.1]) fun p hp => ?_;rw [with_len, hlen] at hp
 cases p with
 | zero =>
  rcases ho with rfl | ⟨rfl, rfl⟩
  ·exact with_in (chgM Ls Ls' (some m')) (pagesW m Ls) (0, (encM m').1) (by unfold chgM; simp) h0 hL.nd
  ·rw [with_out _ _ (by rw [hlen]; omega) (fun q hq => (h0 q hq).1) ?_]
   ·rfl
   ·intro hm;obtain ⟨q, hq, e⟩ := List.mem_map.1 hm;unfold chgM at hq;simp only [List.append_nil] at hq;obtain ⟨i, a, b, c⟩ := chg_mem.1 hq;rw [c] at e;simp only at e;omega
 | succ i =>
  by_cases h : pgc Ls' i = pgc Ls i
  ·rw [with_out _ _ (by rw [hlen]; omega) (fun q hq => (h0 q hq).1) ?_]
   ·rw [bk_succ, bk_succ, h]
   ·intro hm;obtain ⟨q, hq, e⟩ := List.mem_map.1 hm;unfold chgM at hq;rcases List.mem_append.1 hq with hq | hq
    ·obtain ⟨j, a, b, c⟩ := chg_mem.1 hq;rw [c] at e;simp only at e;have : j = i := by omega
     subst this;exact b h
    ·rcases ho with rfl | ⟨rfl, rfl⟩
     ·simp at hq; subst hq; simp at e; omega
     ·simp at hq
  ·have := with_in (chgM Ls Ls' o) (pagesW m Ls) (1 + (i : Int), (encode (pgc Ls' i)).1) (by unfold chgM; rw [List.mem_append]; exact .inl (chg_mem.2 ⟨i, by omega, h, rfl⟩)) h0 hL.nd;rw [bk_succ];rw [show (1 + (i : Int)).toNat = i + 1 by omega] at this;exact this
def begS (Ls : List (List Cl)) (m : Mk) (b : Int) : List (List Cl) := if b = m.b then Ls.map (revL m.k m.b) else Ls
theorem begL_is (Ls : List (List Cl)) (m : Mk) (b a : Int) (ks : List Nat) : begL Ls m b a ks = chgM Ls (begS Ls m b) (some ⟨b, a, ks⟩) := by
 unfold begL tbL chgM begS
 split
 ·rfl
 ·rw [chg_self]
theorem apL_is (kind b : Int) (Ls : List (List Cl)) (l : List Pr) : apL kind b Ls l = chgM Ls (appA kind b Ls l).2 none := by
 unfold apL chgM;simp
end
end
def SrtC (l : List Cl) : Prop := l.Pairwise (fun a b => a.k < b.k)
theorem ordE_iff : ∀ (l : List Cl) (o : Option Nat), ordE o l = true ↔ SrtC l ∧ ∀ j, o = some j → ∀ c ∈ l, j < c.k := by
 intro l
 induction l with
 | nil => intro o; simp [ordE, SrtC]
 | cons d r ih =>
  intro o;rw [ordE, Bool.and_eq_true, ih];unfold SrtC;rw [List.pairwise_cons];constructor
  ·rintro ⟨h1, h2, h3⟩;refine ⟨⟨fun a ha => h3 d.k rfl a ha, h2⟩, fun j hj c hc => ?_⟩;subst hj;have h4 : j < d.k := of_decide_eq_true h1;rcases List.mem_cons.1 hc with rfl | hc
   ·exact h4
   ·have := h3 d.k rfl c hc; omega
  ·rintro ⟨⟨h1, h2⟩, h3⟩;refine ⟨?_, h2, fun j hj c hc => by cases hj; exact h1 c hc⟩
   cases o with
   | none => rfl
   | some j => exact decide_eq_true (h3 j rfl d (by simp))
theorem ordB_iff {l : List Cl} : ordB l = true ↔ SrtC l := by
 unfold ordB;rw [ordE_iff];simp
theorem encE_iff : ∀ (l : List Cl) (o : Option Nat), encE o l = 0 ↔ ordE o l = true ∧ ∀ c ∈ l, writB c = true := by
 intro l
 induction l with
 | nil => intro o; simp [encE, ordE]
 | cons d r ih =>
  intro o;rw [encE, ordE]
  cases h1 : folB o d.k
  ·simp
  ·cases h2 : writB d
   ·simp [h2]
   ·simp [ih, h2]
theorem encode_iff {l : List Cl} : (encode l).2 = 0 ↔ l.length ≤ 16 ∧ SrtC l ∧ ∀ c ∈ l, writB c = true := by
 constructor
 ·intro h;rcases encode_zero h with ⟨rfl, _⟩ | ⟨_, h2, h3, _⟩
  ·simp [SrtC]
  ·have := (encE_iff l none).1 h3;exact ⟨h2, ordB_iff.1 this.1, this.2⟩
 ·rintro ⟨h1, h2, h3⟩;unfold encode;rw [if_neg (by omega)]
  split
  ·rfl
  ·rw [if_pos ((encE_iff l none).2 ⟨ordB_iff.2 h2, h3⟩)]
theorem fnd_cut : ∀ {l : List Cl} {k : Nat}, SrtC l → (∀ c ∈ l.take (fndF l k), c.k < k) ∧ (∀ c ∈ l.drop (fndF l k), k ≤ c.k) := by
 intro l
 induction l with
 | nil => intro k _; simp
 | cons d r ih =>
  intro k h;unfold SrtC at h;rw [List.pairwise_cons] at h;rw [fndF]
  split
  ·rename_i hd
   obtain ⟨h1, h2⟩ := ih (k := k) h.2;refine ⟨fun c hc => ?_, fun c hc => h2 c (by simpa using hc)⟩;rw [List.take_succ_cons, List.mem_cons] at hc;rcases hc with rfl | hc
   ·exact hd
   ·exact h1 c hc
  ·refine ⟨by simp, fun c hc => ?_⟩;simp at hc;rcases hc with rfl | hc
   ·omega
   ·have := h.1 c hc; omega
theorem isK_iff {l : List Cl} {k : Nat} (h : SrtC l) : isK l (fndF l k) k = true ↔ ∃ c ∈ l, c.k = k := by
 constructor
 ·intro e;obtain ⟨hi, e2⟩ := is_at e;exact ⟨_, List.getElem_mem hi, e2⟩
 ·rintro ⟨c, hc, e⟩;obtain ⟨h1, h2⟩ := fnd_cut (k := k) h;rw [← List.take_append_drop (fndF l k) l, List.mem_append] at hc;rcases hc with hc | hc
  ·have := h1 c hc; omega
  ·have hlt : fndF l k < l.length := by
    have := List.length_pos_of_mem hc;simp only [List.length_drop] at this;omega
   unfold isK;rw [List.getElem?_eq_getElem hlt];refine decide_eq_true ?_;rw [List.drop_eq_getElem_cons hlt] at hc;rcases List.mem_cons.1 hc with e3 | hc
   ·rw [← e3]; exact e
   ·have hs : SrtC (l.drop (fndF l k)) := List.Pairwise.sublist (List.drop_sublist _ _) h;rw [List.drop_eq_getElem_cons hlt] at hs;have h4 := (List.pairwise_cons.1 hs).1 c hc;have h5 := h2 l[fndF l k] (by rw [List.drop_eq_getElem_cons hlt]; exact List.mem_cons_self);omega
theorem srt_uniq {l : List Cl} (h : SrtC l) {c d : Cl} (hc : c ∈ l) (hd : d ∈ l) (e : c.k = d.k) : c = d := by
 induction l with
 | nil => simp at hc
 | cons a r ih =>
  obtain ⟨h1, h2⟩ := List.pairwise_cons.1 h;rcases List.mem_cons.1 hc with q | q
  ·rcases List.mem_cons.1 hd with z | z
   ·rw [q, z]
   ·have := h1 d z; rw [q] at e; omega
  ·rcases List.mem_cons.1 hd with z | z
   ·have := h1 c q; rw [z] at e; omega
   ·exact ih h2 q z
theorem srt_mid {a b : List Cl} {c : Cl} (ha : SrtC a) (hb : SrtC b) (h1 : ∀ x ∈ a, x.k < c.k) (h2 : ∀ x ∈ b, c.k < x.k) : SrtC (a ++ ([c] ++ b)) := by
 unfold SrtC;rw [List.pairwise_append];refine ⟨ha, ?_, fun x hx y hy => ?_⟩
 ·rw [List.singleton_append, List.pairwise_cons]; exact ⟨h2, hb⟩
 ·rw [List.singleton_append, List.mem_cons] at hy;rcases hy with rfl | hy
  ·exact h1 x hx
  ·have := h1 x hx; have := h2 y hy; omega
theorem put_srt {l : List Cl} {c : Cl} (hs : SrtC l) (h : (∃ d ∈ l, d.k = c.k) ∨ l.length < 16) : ∃ r, putR l c = (r, 0) ∧ SrtC r ∧ (∀ x, x ∈ r ↔ x = c ∨ (x ∈ l ∧ x.k ≠ c.k)) := by
 obtain ⟨h1, h2⟩ := fnd_cut (k := c.k) hs;have ht : SrtC (l.take (fndF l c.k)) := List.Pairwise.sublist (List.take_sublist _ _) hs;unfold putR;rw [if_neg (by rw [ordB_iff.2 hs]; simp)];by_cases hk : isK l (fndF l c.k) c.k = true
 ·rw [if_pos hk];obtain ⟨hi, e⟩ := is_at hk;have hd : SrtC (l.drop (fndF l c.k)) := List.Pairwise.sublist (List.drop_sublist _ _) hs;have hcut := List.take_append_drop (fndF l c.k) l;rw [List.drop_eq_getElem_cons hi] at hd hcut;obtain ⟨h3, h4⟩ := List.pairwise_cons.1 hd;have h5 : ∀ x ∈ l.drop (fndF l c.k + 1), c.k < x.k := fun x hx => by have := h3 x hx; omega
  refine ⟨_, rfl, srt_mid ht h4 h1 h5, fun x => ?_⟩
  have hm : x ∈ l ↔ x ∈ l.take (fndF l c.k) ∨ x = l[fndF l c.k] ∨ x ∈ l.drop (fndF l c.k + 1) := by
   conv => lhs; rw [← hcut]
   rw [List.mem_append, List.mem_cons]
  rw [List.mem_append, List.mem_append, List.mem_singleton, hm];constructor
  ·rintro (q | q | q)
   ·exact .inr ⟨.inl q, by have := h1 x q; omega⟩
   ·exact .inl q
   ·exact .inr ⟨.inr (.inr q), by have := h5 x q; omega⟩
  ·rintro (q | ⟨q | q | q, n⟩)
   ·exact .inr (.inl q)
   ·exact .inl q
   ·subst q; exact absurd e n
   ·exact .inr (.inr q)
 ·rw [if_neg hk];have hn : ∀ d ∈ l, d.k ≠ c.k := fun d hd e => hk ((isK_iff hs).2 ⟨d, hd, e⟩)
  have hlt : l.length < 16 := by
   rcases h with ⟨d, hd, e⟩ | h
   ·exact absurd e (hn d hd)
   ·exact h
  rw [if_neg (by omega)];have hcut := List.take_append_drop (fndF l c.k) l
  have h5 : ∀ x ∈ l.drop (fndF l c.k), c.k < x.k := fun x hx => by
   have h6 := h2 x hx;have h7 := hn x (List.mem_of_mem_drop hx);omega
  refine ⟨_, rfl, srt_mid ht (List.Pairwise.sublist (List.drop_sublist _ _) hs) h1 h5, fun x => ?_⟩
  have hm : x ∈ l ↔ x ∈ l.take (fndF l c.k) ∨ x ∈ l.drop (fndF l c.k) := by
   conv => lhs; rw [← hcut]
   rw [List.mem_append]
  rw [List.mem_append, List.mem_append, List.mem_singleton];constructor
  ·rintro (q | q | q)
   ·have := List.mem_of_mem_take q; exact .inr ⟨this, hn x this⟩
   ·exact .inl q
   ·have := List.mem_of_mem_drop q; exact .inr ⟨this, hn x this⟩
  ·rintro (q | ⟨q, n⟩)
   ·exact .inr (.inl q)
   ·rcases hm.1 q with q | q
    ·exact .inl q
    ·exact .inr (.inr q)
theorem find_srt {l : List Cl} {k : Nat} (hs : SrtC l) : findB l k = true ↔ ∃ c ∈ l, c.k = k := by
 rw [findB_ord (ordB_iff.2 hs)]; exact isK_iff hs
theorem find_is {l : List Cl} {c : Cl} (hs : SrtC l) (hc : c ∈ l) : l.getD (findI l c.k) zeroC = c := by
 obtain ⟨hi, e⟩ := find_at ((find_srt hs).2 ⟨c, hc, rfl⟩);rw [List.getD_eq_getElem?_getD, List.getElem?_eq_getElem hi];exact srt_uniq hs (List.getElem_mem hi) hc e
theorem nodup_lt : ∀ (n : Nat) (l : List Nat), l.Nodup → (∀ x ∈ l, x < n) → l.length ≤ n := by
 intro n
 induction n with
 | zero => intro l _ h; cases l with | nil => simp | cons a r => exact absurd (h a (by simp)) (by omega)
 | succ n ih =>
  intro l hn h;by_cases hm : n ∈ l
  ·have h1 := ih (l.erase n) (hn.erase n) (fun x hx => by
    rw [hn.mem_erase_iff] at hx;have := h x hx.2;omega)
   have h2 := List.length_erase_of_mem hm;omega
  ·have := ih l hn (fun x hx => by
    have h1 := h x hx;have : x ≠ n := fun e => hm (e ▸ hx);omega)
   omega
section
def InS (Ls : List (List Cl)) (c : Cl) : Prop := ∃ i, i < 6 ∧ c ∈ pgc Ls i
structure Lk (Ls : List (List Cl)) : Prop where
 srt : ∀ i, i < 6 → SrtC (pgc Ls i)
 dis : ∀ i j c d, i < 6 → j < 6 → i ≠ j → c ∈ pgc Ls i → d ∈ pgc Ls j → c.k ≠ d.k
structure Gk (k : Int) (m : Mk) (Ls : List (List Cl)) : Prop where
 gd : Gd m Ls
 kn : knownB k = true
 dis : ∀ i j c d, i < 6 → j < 6 → i ≠ j → c ∈ pgc Ls i → d ∈ pgc Ls j → c.k ≠ d.k
 fit : ∀ c, InS Ls c → fitC k c = true
 ne : ∀ c, InS Ls c → empC c = false
 bes : ∀ c, InS Ls c → c.n < m.b ∨ (c.n = m.b ∧ c.k ∈ m.k)
def Low (Ls : List (List Cl)) : Prop := ∀ c, InS Ls c → c.k < 40
section

variable {k b a : Int} {m : Mk} {Ls : List (List Cl)} {c d : Cl} {i key : Nat} {n : Int} {v : Vl}

theorem Gk.lk (h : Gk k m Ls) : Lk Ls := ⟨fun i hi => (encode_iff.1 (h.gd.enc i hi)).2.1, h.dis⟩
theorem Lk.uniq (h : Lk Ls) (hc : InS Ls c) (hd : InS Ls d) (e : c.k = d.k) : c = d := by
 obtain ⟨i, hi, hc⟩ := hc;obtain ⟨j, hj, hd⟩ := hd;by_cases q : i = j
 ·subst q; exact srt_uniq (h.srt i hi) hc hd e
 ·exact absurd e (h.dis i j c d hi hj q hc hd)
theorem Lk.at (h : Lk Ls) (hc : InS Ls c) : ∃ i, i < 6 ∧ c ∈ pgc Ls i ∧ shAt Ls c.k = some i ∧ cellAt Ls i c.k = c := by
 obtain ⟨i, hi, hm⟩ := hc
 cases e : shAt Ls c.k with
 | none =>
  have := shG_none 6 0 e i (by omega) (by omega);rw [(find_srt (h.srt i hi)).2 ⟨c, hm, rfl⟩] at this
  cases this
 | some j =>
  obtain ⟨_, h2, h3⟩ := shG_lt 6 0 e;obtain ⟨d, hd, e2⟩ := (find_srt (h.srt j (by omega))).1 h3;have : d = c := h.uniq ⟨j, by omega, hd⟩ ⟨i, hi, hm⟩ e2;subst this;exact ⟨j, by omega, hd, rfl, find_is (h.srt j (by omega)) hd⟩
theorem Lk.none (h : Lk Ls) (hn : ∀ c, InS Ls c → c.k ≠ key) : shAt Ls key = none := by
 cases e : shAt Ls key with
 | none => rfl
 | some j =>
  obtain ⟨_, h2, h3⟩ := shG_lt 6 0 e;obtain ⟨d, hd, e2⟩ := (find_srt (h.srt j (by omega))).1 h3;exact absurd e2 (hn d ⟨j, by omega, hd⟩)
theorem Lk.res (h : Lk Ls) (hc : InS Ls c) (n : Int) : shRes Ls c.k n = resC c n := by
 obtain ⟨i, _, _, e1, e2⟩ := h.at hc;unfold shRes;rw [e1];show resC (cellAt Ls i c.k) n = _;rw [e2]
theorem Lk.res0 (h : Lk Ls) (hn : ∀ c, InS Ls c → c.k ≠ key) (n : Int) : shRes Ls key n = noV := by
 unfold shRes;rw [h.none hn]
theorem key_or (Ls : List (List Cl)) (key : Nat) : (∃ c, InS Ls c ∧ c.k = key) ∨ ∀ c, InS Ls c → c.k ≠ key := by
 by_cases h : ∃ c, InS Ls c ∧ c.k = key
 ·exact .inl h
 ·exact .inr fun c hc e => h ⟨c, hc, e⟩
theorem set_in (h : Lk Ls) (hl : Ls.length = 6) (hi : i < 6) (hp : (∃ d ∈ pgc Ls i, d.k = c.k) ∨ ((∀ d, InS Ls d → d.k ≠ c.k) ∧ (pgc Ls i).length < 16)) :
  ∃ r, putR (pgc Ls i) c = (r, 0) ∧ Lk (Ls.set i r) ∧ ∀ x, InS (Ls.set i r) x ↔ x = c ∨ (InS Ls x ∧ x.k ≠ c.k) := by
 obtain ⟨r, hr, hs, hm⟩ := put_srt (c := c) (h.srt i hi) (hp.imp id (·.2));have hpg : ∀ j, j < 6 → pgc (Ls.set i r) j = if i = j then r else pgc Ls j := fun j hj => pgc_set (by rw [hl]; exact hj)
 have hoth : ∀ j x, j < 6 → i ≠ j → x ∈ pgc Ls j → x.k ≠ c.k := fun j x hj hn hx => by
  rcases hp with ⟨d, hd, e⟩ | ⟨hp, _⟩
  ·rw [← e]; exact h.dis j i x d hj hi (Ne.symm hn) hx hd
  ·exact hp x ⟨j, hj, hx⟩
 refine ⟨r, hr, ⟨fun j hj => ?_, fun j1 j2 x y h1 h2 hn hx hy => ?_⟩, fun x => ?_⟩
 ·rw [hpg j hj]; split; exact hs; exact h.srt j hj
 ·rw [hpg j1 h1] at hx;rw [hpg j2 h2] at hy;by_cases e1 : i = j1
  ·rw [if_pos e1] at hx;have e2 : i ≠ j2 := by omega
   rw [if_neg e2] at hy;rcases (hm x).1 hx with rfl | ⟨hx, _⟩
   ·exact Ne.symm (hoth j2 y h2 e2 hy)
   ·exact h.dis i j2 x y hi h2 e2 hx hy
  ·rw [if_neg e1] at hx;by_cases e2 : i = j2
   ·rw [if_pos e2] at hy;rcases (hm y).1 hy with rfl | ⟨hy, _⟩
    ·exact hoth j1 x h1 e1 hx
    ·exact h.dis j1 i x y h1 hi (Ne.symm e1) hx hy
   ·rw [if_neg e2] at hy;exact h.dis j1 j2 x y h1 h2 hn hx hy
 ·constructor
  ·rintro ⟨j, hj, hx⟩;rw [hpg j hj] at hx;by_cases e : i = j
   ·rw [if_pos e] at hx;rcases (hm x).1 hx with q | ⟨q, z⟩
    ·exact .inl q
    ·exact .inr ⟨⟨i, hi, q⟩, z⟩
   ·rw [if_neg e] at hx;exact .inr ⟨⟨j, hj, hx⟩, hoth j x hj e hx⟩
  ·rintro (rfl | ⟨⟨j, hj, hx⟩, z⟩)
   ·exact ⟨i, hi, by rw [hpg i hi, if_pos rfl]; exact (hm x).2 (.inl rfl)⟩
   ·refine ⟨j, hj, ?_⟩;rw [hpg j hj]
    split
    ·rename_i e; subst e; exact (hm x).2 (.inr ⟨hx, z⟩)
    ·exact hx
theorem srt_keys {l : List Cl} (h : SrtC l) : (l.map (·.k)).Nodup := by
 unfold List.Nodup;rw [List.pairwise_map];exact h.imp (fun h => by omega)
theorem room_of (h : Lk Ls) (low : Low Ls) : ∃ i, shRoom Ls = some i ∧ i < 6 ∧ (pgc Ls i).length < 16 := by
 cases e : shRoom Ls with
 | some i =>
  obtain ⟨_, h2, h3⟩ := shG_lt 6 0 e;exact ⟨i, rfl, by omega, of_decide_eq_true h3⟩
 | none =>
  exfalso
  have hg : ∀ j, j < 6 → 16 ≤ (pgc Ls j).length := fun j hj => by
   have := shG_none 6 0 e j (by omega) (by omega);simp only [decide_eq_false_iff_not] at this;omega
  have hnd : ((pgc Ls 0).map (·.k) ++ ((pgc Ls 1).map (·.k) ++ (pgc Ls 2).map (·.k))).Nodup := by
   have hx : ∀ i j, i < 6 → j < 6 → i ≠ j → ∀ x ∈ (pgc Ls i).map (·.k), ∀ y ∈ (pgc Ls j).map (·.k), x ≠ y := fun i j hi hj hn x hx y hy => by
    obtain ⟨c, hc, rfl⟩ := List.mem_map.1 hx;obtain ⟨d, hd, rfl⟩ := List.mem_map.1 hy;exact h.dis i j c d hi hj hn hc hd
   rw [List.nodup_append, List.nodup_append];refine ⟨srt_keys (h.srt 0 (by omega)), ⟨srt_keys (h.srt 1 (by omega)), srt_keys (h.srt 2 (by omega)), hx 1 2 (by omega) (by omega) (by omega)⟩, fun x hx0 y hy => ?_⟩;rcases List.mem_append.1 hy with hy | hy
   ·exact hx 0 1 (by omega) (by omega) (by omega) x hx0 y hy
   ·exact hx 0 2 (by omega) (by omega) (by omega) x hx0 y hy
  have hlt := nodup_lt 40 _ hnd (fun x hx => by
   have hk : ∀ j, j < 6 → x ∈ (pgc Ls j).map (·.k) → x < 40 := fun j hj hx => by
    obtain ⟨c, hc, rfl⟩ := List.mem_map.1 hx;exact low c ⟨j, hj, hc⟩
   rcases List.mem_append.1 hx with hx | hx
   ·exact hk 0 (by omega) hx
   ·rcases List.mem_append.1 hx with hx | hx
    ·exact hk 1 (by omega) hx
    ·exact hk 2 (by omega) hx)
  simp only [List.length_append, List.length_map] at hlt;have h0 := hg 0 (by omega);have h1 := hg 1 (by omega);have h2 := hg 2 (by omega);omega
theorem eqV_iffS {x y : Vl} : eqV x y = true ↔ x = y := by
 obtain ⟨a, b⟩ := x;obtain ⟨c, d⟩ := y;simp [eqV]
theorem fitC_iff : fitC k c = true ↔ knownB k = true ∧ fitV k c.p = c.p ∧ fitV k c.c = c.c ∧ 0 ≤ c.n ∧ c.n ≤ 1099511627776 := by
 simp only [fitC, Bool.and_eq_true, eqV_iffS, decide_eq_true_eq, and_assoc]
theorem fit_plain (h : fitV k v = v) : plainB v = true := by
 unfold plainB
 cases hv : v.h
 ·unfold fitV at h;rw [if_pos hv] at h;rw [← h]; rfl
 ·rfl
theorem fit_writ (h : fitC k c = true) : writB c = true := by
 obtain ⟨_, h2, h3, h4, h5⟩ := fitC_iff.1 h;simp only [writB, Bool.and_eq_true, decide_eq_true_eq];exact ⟨⟨⟨h4, h5⟩, fit_plain h2⟩, fit_plain h3⟩
theorem merge_hasS (hv : v.h = true) (fv : fitV k v = v) (u : Vl) : (mergeV k u v).h = true := by
 unfold mergeV joinV;rw [fv]
 split
 ·exact hv
 ·split
  ·rename_i h; rw [hv] at h; cases h
  ·split
   ·rfl
   ·split <;> rfl
theorem app_one (g : Gk k m Ls) (low : Low Ls) (hm : m.b = b) (h1 : 1 ≤ b) (hk : key ∈ m.k) (hlow : key < 40) (hv : v.ok) (fv : fitV k v = v) (hh : v.h = true) :
  ∃ Ls', shApp k b Ls key v = (0, Ls') ∧ Gk k m Ls' ∧ Low Ls' ∧ (∀ x, x ≠ key → ∀ n, shRes Ls' x n = shRes Ls x n) ∧ shRes Ls' key (b - 1) = shRes Ls key (b - 1) ∧ shRes Ls' key b = mergeV k (shRes Ls key (b - 1)) v ∧
   (∀ c, InS Ls c → c.k ≠ key → InS Ls' c) ∧ ∃ c, InS Ls' c ∧ c.k = key ∧ c.n = b ∧ c.c = mergeV k c.p v := by
 have hL := g.lk;have hb40 : b ≤ 1099511627776 := by have := sound_parts g.gd.snd; omega
 have hpl : ∃ i c, shOne Ls key = some (i, c) ∧ i < 6 ∧ c.k = key ∧ fitC k c = true ∧ c.n ≤ b ∧ ((∃ d ∈ pgc Ls i, d.k = key) ∨ ((∀ d, InS Ls d → d.k ≠ key) ∧ (pgc Ls i).length < 16)) ∧ shRes Ls key (b - 1) = aheadC c b := by
  rcases key_or Ls key with ⟨c, hc, rfl⟩ | hn
  ·obtain ⟨i, hi, hci, e1, e2⟩ := hL.at hc;refine ⟨i, c, by unfold shOne; rw [e1]; simp only [e2], hi, rfl, g.fit c hc, ?_, .inl ⟨c, hci, rfl⟩, ?_⟩
   ·rcases g.bes c hc with q | q <;> omega
   ·rw [hL.res hc];unfold resC aheadC;by_cases q : c.n < b
    ·rw [if_pos q, if_pos (by omega)]
    ·rw [if_neg q, if_neg (by omega)]
  ·obtain ⟨i, e, hi, hlt⟩ := room_of hL low;refine ⟨i, ⟨key, noV, noV, 0⟩, by unfold shOne; rw [hL.none hn]; simp only [e], hi, rfl, fitC_iff.2 ⟨g.kn, rfl, rfl, by show (0 : Int) ≤ 0; decide, by show (0 : Int) ≤ 1099511627776; decide⟩, by show (0 : Int) ≤ b; omega, .inr ⟨hn, hlt⟩, ?_⟩;rw [hL.res0 hn];unfold aheadC
   split <;> rfl
 obtain ⟨i, c, ho, hi, hck, hcf, hcn, hpl, hres⟩ := hpl
 have hI : appI k c b = 0 := by
  unfold appI;rw [if_neg (by rw [g.kn]; simp; omega), if_neg (by omega)]
 obtain ⟨_, f1, f2, f3, f4⟩ := fitC_iff.1 hcf;have hah : fitV k (aheadC c b) = aheadC c b := by unfold aheadC; split; exact f2; exact f1
 have hC : appC k c b v = ⟨key, aheadC c b, mergeV k (aheadC c b) v, b⟩ := by unfold appC; rw [if_pos hI, hck]
 obtain ⟨c', hc'⟩ : ∃ c', c' = appC k c b v := ⟨_, rfl⟩;rw [hC] at hc';have hk' : c'.k = key := by rw [hc']
 obtain ⟨r, hr, hL', hin⟩ := set_in (c := c') hL g.gd.pok.1 hi (by rw [hk']; exact hpl)
 have hA : shApp k b Ls key v = (0, Ls.set i r) := by
  rw [app_good ho hI, hC, ← hc'];unfold shPut;rw [hr];rfl
 have hfit' : fitC k c' = true := fitC_iff.2 ⟨g.kn, by rw [hc']; exact hah, by rw [hc']; exact fit_merge k _ _, by rw [hc']; show 0 ≤ b; omega, by rw [hc']; exact hb40⟩;have hins : InS (Ls.set i r) c' := (hin c').2 (.inl rfl)
 have hpok : Pok (Ls.set i r) := by
  have := shApp_pok (kind := k) (b := b) (v := v) (k := key) g.gd.pok (by omega) hv (by omega) (by rw [hA]);rwa [hA] at this
 have hall : ∀ x, InS (Ls.set i r) x → fitC k x = true ∧ empC x = false ∧ (x.n < m.b ∨ (x.n = m.b ∧ x.k ∈ m.k)) ∧ x.k < 40 := fun x hx => by
  rcases (hin x).1 hx with rfl | ⟨hx, _⟩
  ·refine ⟨hfit', ?_, .inr ⟨by rw [hc']; exact hm.symm, by rw [hk']; exact hk⟩, by rw [hk']; exact hlow⟩;unfold empC;rw [hc'];simp only [merge_hasS hh fv];simp
  ·exact ⟨g.fit x hx, g.ne x hx, g.bes x hx, low x hx⟩
 refine ⟨_, hA, ⟨⟨g.gd.snd, g.gd.ko, hpok, fun j hj => encode_iff.2 ⟨hpok.2.2 j hj, hL'.srt j hj, fun x hx => fit_writ (hall x ⟨j, hj, hx⟩).1⟩⟩, g.kn, hL'.dis, fun x hx => (hall x hx).1, fun x hx => (hall x hx).2.1, fun x hx => (hall x hx).2.2.1⟩, fun x hx => (hall x hx).2.2.2, fun x hx n => ?_, ?_, ?_, fun x hx hn => (hin x).2 (.inr ⟨hx, by rw [hk']; exact hn⟩), c', hins, hk', by rw [hc'], by rw [hc']⟩
 ·rcases key_or Ls x with ⟨d, hd, rfl⟩ | hn
  ·rw [hL.res hd, hL'.res ((hin d).2 (.inr ⟨hd, by rw [hk']; exact hx⟩))]
  ·rw [hL.res0 hn, hL'.res0 (fun d hd => by
    rcases (hin d).1 hd with rfl | ⟨hd, _⟩
    ·rw [hk']; exact Ne.symm hx
    ·exact hn d hd)]
 ·rw [hres];have := hL'.res hins (b - 1);rw [hk'] at this;rw [this];unfold resC;rw [if_neg (by rw [hc']; show ¬ b ≤ b - 1; omega), hc']
 ·rw [hres];have := hL'.res hins b;rw [hk'] at this;rw [this];unfold resC;rw [if_pos (by rw [hc']; exact Int.le_refl _), hc']
def Ta (k : Int) (m : Mk) (t : List Pr) : Prop := Rise t ∧ ∀ p ∈ t, p.k ∈ m.k ∧ p.k < 40 ∧ p.v.ok ∧ fitV k p.v = p.v ∧ p.v.h = true
theorem app_all (hm : m.b = b) (h1 : 1 ≤ b) : ∀ (t : List Pr) (Ls : List (List Cl)), Gk k m Ls → Low Ls → Ta k m t →
  ∃ Ls', appA k b Ls t = (0, Ls') ∧ Gk k m Ls' ∧ Low Ls' ∧ (∀ x n, (∀ p ∈ t, p.k ≠ x) → shRes Ls' x n = shRes Ls x n) ∧ (∀ x, shRes Ls' x (b - 1) = shRes Ls x (b - 1)) ∧ (∀ p ∈ t, shRes Ls' p.k b = mergeV k (shRes Ls p.k (b - 1)) p.v) ∧
   (∀ c, InS Ls c → (∀ p ∈ t, p.k ≠ c.k) → InS Ls' c) ∧ ∀ p ∈ t, ∃ c, InS Ls' c ∧ c.k = p.k ∧ c.n = b ∧ c.c = mergeV k c.p p.v := by
 intro t
 induction t with
 | nil => intro Ls g low _; exact ⟨Ls, rfl, g, low, fun _ _ _ => rfl, fun _ => rfl, by simp, fun _ h _ => h, by simp⟩
 | cons p r ih =>
  intro Ls g low ht;obtain ⟨hr, hall⟩ := ht;obtain ⟨hr1, hr2⟩ := List.pairwise_cons.1 hr;obtain ⟨q1, q2, q3, q4, q5⟩ := hall p (by simp);obtain ⟨L1, e1, g1, l1, s1, s2, s3, s4, c0, s5, s6, s7, s8⟩ := app_one g low hm h1 q1 q2 q3 q4 q5;obtain ⟨L2, e2, g2, l2, t1, t2, t3, t4, t5⟩ := ih L1 g1 l1 ⟨hr2, fun x hx => hall x (by simp [hx])⟩;have hpr : ∀ x ∈ r, x.k ≠ p.k := fun x hx => by have := hr1 x hx; omega
  refine ⟨L2, ?_, g2, l2, fun x n hx => ?_, fun x => ?_, fun x hx => ?_, fun c hc hn => ?_, fun x hx => ?_⟩
  ·rw [appA, e1, if_neg (by simp)]; exact e2
  ·rw [t1 x n (fun y hy => hx y (by simp [hy])), s1 x (Ne.symm (hx p (by simp)))]
  ·rw [t2 x];by_cases e : x = p.k
   ·rw [e]; exact s2
   ·exact s1 x e _
  ·rcases List.mem_cons.1 hx with rfl | hx
   ·rw [t1 _ _ hpr]; exact s3
   ·rw [t3 x hx, s1 x.k (hpr x hx)]
  ·exact t4 c (s4 c hc (Ne.symm (hn p (by simp)))) (fun y hy => hn y (by simp [hy]))
  ·rcases List.mem_cons.1 hx with rfl | hx
   ·exact ⟨c0, t4 c0 s5 (fun y hy => by rw [s6]; exact hpr y hy), s6, s7, s8⟩
   ·exact t5 x hx
end
end
section
section

variable {k b a : Int} {m : Mk} {Ls : List (List Cl)} {c d : Cl} {i key : Nat} {n : Int} {v : Vl} {ks : List Nat}

theorem revP_k : (revP ks b c).k = c.k := by
 unfold revP revC
 split
 ·split <;> rfl
 ·rfl
theorem revL_mem {l : List Cl} : d ∈ revL ks b l ↔ ∃ c ∈ l, d = revP ks b c ∧ empC d = false := by
 unfold revL;rw [List.mem_filter, List.mem_map];constructor
 ·rintro ⟨⟨c, hc, e⟩, h⟩;exact ⟨c, hc, e.symm, by simpa using h⟩
 ·rintro ⟨c, hc, e, h⟩;exact ⟨⟨c, hc, e.symm⟩, by simp [h]⟩
theorem revL_srt {l : List Cl} (h : SrtC l) : SrtC (revL ks b l) := by
 unfold revL SrtC;refine List.Pairwise.filter _ ?_;rw [List.pairwise_map];exact h.imp (fun h => by rw [revP_k, revP_k]; exact h)
theorem rev_in (hl : Ls.length = 6) : InS (Ls.map (revL ks b)) d ↔ ∃ c, InS Ls c ∧ d = revP ks b c ∧ empC d = false := by
 constructor
 ·rintro ⟨i, hi, hd⟩;rw [pgc_map (by rw [hl]; exact hi), revL_mem] at hd;obtain ⟨c, hc, e⟩ := hd;exact ⟨c, ⟨i, hi, hc⟩, e⟩
 ·rintro ⟨c, ⟨i, hi, hc⟩, e⟩;exact ⟨i, hi, by rw [pgc_map (by rw [hl]; exact hi), revL_mem]; exact ⟨c, hc, e⟩⟩
theorem rev_one (g : Gk k m Ls) (hc : InS Ls c) (h1 : 1 ≤ m.b) : (c.n < m.b ∧ revP m.k m.b c = c) ∨ (c.n = m.b ∧ revP m.k m.b c = ⟨c.k, c.p, c.p, m.b - 1⟩) := by
 rcases g.bes c hc with q | ⟨q, hk⟩
 ·left;refine ⟨q, ?_⟩;unfold revP revC
  split
  ·rw [if_pos (by right; omega)]
  ·rfl
 ·right;refine ⟨q, ?_⟩;unfold revP revC;rw [if_pos hk, if_neg (by omega), q]
theorem beg_good (g : Gk k m Ls) (hb : b = m.b ∨ b = m.b + 1) (h1 : 1 ≤ b) (hs : soundBM ⟨b, a, ks⟩ = true) (ko : keysOk ks) :
  Gk k ⟨b, a, ks⟩ (begS Ls m b) ∧ (∀ c, InS (begS Ls m b) c → c.n < b) ∧ (∀ x n, b - 1 ≤ n → shRes (begS Ls m b) x n = shRes Ls x (b - 1)) ∧ (Low Ls → Low (begS Ls m b)) := by
 have hL := g.lk;have hl := g.gd.pok.1;by_cases e : b = m.b
 ·have hS : begS Ls m b = Ls.map (revL m.k m.b) := by unfold begS; rw [if_pos e]
  rw [hS];have hin : ∀ d, InS (Ls.map (revL m.k m.b)) d ↔ ∃ c, InS Ls c ∧ d = revP m.k m.b c ∧ empC d = false := fun d => rev_in hl
  have hall : ∀ d, InS (Ls.map (revL m.k m.b)) d → fitC k d = true ∧ empC d = false ∧ d.n < b := fun d hd => by
   obtain ⟨c, hc, e1, e2⟩ := (hin d).1 hd;obtain ⟨_, f1, f2, f3, f4⟩ := fitC_iff.1 (g.fit c hc);rcases rev_one g hc (by omega) with ⟨q, e3⟩ | ⟨q, e3⟩
   ·rw [e3] at e1;subst e1;exact ⟨g.fit d hc, e2, by omega⟩
   ·rw [e3] at e1;refine ⟨fitC_iff.2 ⟨g.kn, by rw [e1]; exact f1, by rw [e1]; exact f1, by rw [e1]; show 0 ≤ m.b - 1; omega, by rw [e1]; show m.b - 1 ≤ _; omega⟩, e2, by rw [e1]; show m.b - 1 < b; omega⟩
  have hL' : Lk (Ls.map (revL m.k m.b)) := by
   refine ⟨fun i hi => by rw [pgc_map (by rw [hl]; exact hi)]; exact revL_srt (hL.srt i hi), fun i j x y hi hj hn hx hy => ?_⟩;rw [pgc_map (by rw [hl]; exact hi), revL_mem] at hx;rw [pgc_map (by rw [hl]; exact hj), revL_mem] at hy;obtain ⟨c, hc, e1, _⟩ := hx;obtain ⟨d, hd, e2, _⟩ := hy;rw [e1, e2, revP_k, revP_k];exact hL.dis i j c d hi hj hn hc hd
  have hpok : Pok (Ls.map (revL m.k m.b)) := map_pok g.gd.pok;refine ⟨⟨⟨hs, ko, hpok, fun j hj => encode_iff.2 ⟨hpok.2.2 j hj, hL'.srt j hj, fun x hx => fit_writ (hall x ⟨j, hj, hx⟩).1⟩⟩, g.kn, hL'.dis, fun x hx => (hall x hx).1, fun x hx => (hall x hx).2.1, fun x hx => .inl (hall x hx).2.2⟩, fun x hx => (hall x hx).2.2, fun x n hn => ?_, fun low d hd => ?_⟩
  ·rcases key_or Ls x with ⟨c, hc, rfl⟩ | hno
   ·rw [hL.res hc];obtain ⟨_, f1, f2, f3, f4⟩ := fitC_iff.1 (g.fit c hc)
    have hval : (revP m.k m.b c).n ≤ b - 1 ∧ (revP m.k m.b c).c = resC c (b - 1) := by
     rcases rev_one g hc (by omega) with ⟨q, e3⟩ | ⟨q, e3⟩
     ·rw [e3]; exact ⟨by omega, by unfold resC; rw [if_pos (by omega)]⟩
     ·rw [e3]; exact ⟨by show m.b - 1 ≤ _; omega, by unfold resC; rw [if_neg (by omega)]⟩
    cases hem : empC (revP m.k m.b c)
    ·have hi := (hin _).2 ⟨c, hc, rfl, hem⟩;have := hL'.res hi n;rw [revP_k] at this;rw [this];unfold resC;rw [if_pos (by omega), hval.2];rfl
    ·rw [hL'.res0 (fun d hd => ?_), ← hval.2]
     ·rcases rev_one g hc (by omega) with ⟨q, e3⟩ | ⟨q, e3⟩
      ·rw [e3] at hem;rw [g.ne c hc] at hem
       cases hem
      ·rw [e3] at hem ⊢;have hp : c.p.h = false := by simpa [empC] using hem
       show noV = c.p;rw [← f1];unfold fitV;rw [if_pos hp]
     ·obtain ⟨y, hy, e1, e2⟩ := (hin d).1 hd;intro e4;rw [e1, revP_k] at e4;have : y = c := hL.uniq hy hc e4;subst this;rw [← e1, e2] at hem
      cases hem
   ·rw [hL.res0 hno, hL'.res0 (fun d hd => by
     obtain ⟨y, hy, e1, e2⟩ := (hin d).1 hd;rw [e1, revP_k];exact hno y hy)]
  ·obtain ⟨y, hy, e1, e2⟩ := (hin d).1 hd;rw [e1, revP_k];exact low y hy
 ·have hS : begS Ls m b = Ls := by unfold begS; rw [if_neg e]
  rw [hS];have hlt : ∀ c, InS Ls c → c.n < b := fun c hc => by rcases g.bes c hc with q | q <;> omega
  refine ⟨⟨⟨hs, ko, g.gd.pok, g.gd.enc⟩, g.kn, g.dis, g.fit, g.ne, fun c hc => .inl (hlt c hc)⟩, hlt, fun x n hn => ?_, id⟩;rcases key_or Ls x with ⟨c, hc, rfl⟩ | hno
  ·have := hlt c hc;rw [hL.res hc, hL.res hc];unfold resC;rw [if_pos (by omega), if_pos (by omega)]
  ·rw [hL.res0 hno, hL.res0 hno]
theorem jud_up {mb ma : Int} (h1 : 1 ≤ b) (ha : 1 ≤ a) (hm : mb < b ∨ (b = mb ∧ ma < a)) : judI mb ma b a = 131 := by
 have hc : cmpA b a mb ma = 1 := by
  unfold cmpA cmpIM;by_cases e : b = mb
  ·rw [if_pos e, if_neg (by omega), if_pos (by omega)]
  ·rw [if_neg e, if_neg (by omega), if_pos (by omega)]
 unfold judI;rw [if_neg (by omega), hc]; rfl
theorem jud_eq (h1 : 1 ≤ b) (ha : 1 ≤ a) : judI b a b a = 0 := by
 have hc : cmpA b a b a = 0 := by
  unfold cmpA cmpIM;rw [if_pos rfl, if_neg (by omega), if_neg (by omega)]
 unfold judI;rw [if_neg (by omega), hc]; rfl
theorem beg_none {m : Mk} (h1 : 1 ≤ b) (hb : b ≤ 1099511627776) (ha : 1 ≤ a) (ha2 : a ≤ 1099511627776) (hk : ks.length ≤ 64) (hr : risB ks = true) (hm : m.b < b ∨ (b = m.b ∧ m.a < a)) (hb1 : b ≤ m.b + 1) : begE m b a ks = none := by
 have hj : judI m.b m.a b a ≠ 130 ∧ judI m.b m.a b a ≠ 0 := by rw [jud_up h1 ha hm]; decide
 refine beg_open ?_ hj.1 hj.2 (by omega);rintro (q | q | q)
 ·simp [cntdB] at q; omega
 ·omega
 ·rw [hr] at q; cases q
theorem sound_beg (h1 : 1 ≤ b) (hb : b ≤ 1099511627776) (ha : 1 ≤ a) (ha2 : a ≤ 1099511627776) (hk : ks.length ≤ 64) (hr : risB ks = true) : soundBM ⟨b, a, ks⟩ = true := by
 simp only [soundBM, cntB, Bool.and_eq_true, decide_eq_true_eq];refine ⟨⟨by omega, hb⟩, ⟨by omega, ha2⟩, ?_⟩;rw [if_neg (by omega)];simp [hk, hr]
end
end
end Go.Proofs.YtcmklbibehnloaaGreat
