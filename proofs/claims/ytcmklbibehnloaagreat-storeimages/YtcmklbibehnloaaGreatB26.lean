/- Contracts of Has, Judge, the program's and the reference's; the reference's Compare. -/
import Derived.Test.YtcmklbibehnloaaGreatB24
import Derived.Test.YtcmklbibehnloaaGreatB17
set_option maxRecDepth 100000
set_option maxHeartbeats 16000000
namespace Go.Proofs.YtcmklbibehnloaaGreat
open Go.RowKit
section
def shOne (Ls : List (List Cl)) (k : Nat) : Option (Nat × Cl) := match shAt Ls k with
 | some i => some (i, cellAt Ls i k)
 | none => match shRoom Ls with
  | some i => some (i, ⟨k, noV, noV, 0⟩)
  | none => none
def shPut (Ls : List (List Cl)) (i : Nat) (c : Cl) : Int × List (List Cl) := (((putR (pgc Ls i) c).2 : Nat), Ls.set i (putR (pgc Ls i) c).1)
def shApp (kind b : Int) (Ls : List (List Cl)) (k : Nat) (v : Vl) : Int × List (List Cl) := match shOne Ls k with
 | none => (92, Ls)
 | some (i, c) => if appI kind c b ≠ 0 then (appI kind c b, Ls) else shPut Ls i (appC kind c b v)
theorem app_none {kind b : Int} {Ls : List (List Cl)} {k : Nat} {v : Vl} (h : shOne Ls k = none) : shApp kind b Ls k v = (92, Ls) := by simp [shApp, h]
theorem app_bad {kind b : Int} {Ls : List (List Cl)} {k i : Nat} {v : Vl} {c : Cl} (h : shOne Ls k = some (i, c)) (ha : appI kind c b ≠ 0) : shApp kind b Ls k v = (appI kind c b, Ls) := by simp [shApp, h, ha]
theorem app_good {kind b : Int} {Ls : List (List Cl)} {k i : Nat} {v : Vl} {c : Cl} (h : shOne Ls k = some (i, c)) (ha : appI kind c b = 0) : shApp kind b Ls k v = shPut Ls i (appC kind c b v) := by simp [shApp, h, ha]
def Fresh (w : World) (f g : Nat → Value) : Prop := ∀ i, i < 6 → ∀ x, (g i).ownBlock = some x → (f i).ownBlock = some x ∨ w.heap.size ≤ x
theorem Fresh.refl (w : World) (f : Nat → Value) : Fresh w f f := fun _ _ _ h => .inl h
def AppGot (Q : Nat) (f : Nat → Value) (r : Int × List (List Cl)) (w : World) (e : Ending) (w' : World) : Prop :=
 e = .returned (.int .i64 r.1) ∧ (∃ g, SH w' Q g r.2 ∧ Fresh w f g) ∧ Ch (fun x => x = Q) w w'
structure QB (w : World) (b k : Nat) (v : Vl) : Prop where
 c0 : w.cell? ⟨b, 0, none⟩ = some (.int .u64 k)
 c1 : w.cell? ⟨b, 1, none⟩ = some (.bool v.h)
 c2 : w.cell? ⟨b, 2, none⟩ = some (.int .u64 v.b)
theorem QB.keep {w w' : World} {b k : Nat} {v : Vl} (h : QB w b k v) (hb : Below w.heap.size w w') : QB w' b k v :=
 ⟨by rw [hb.cell (p := ⟨b, 0, none⟩) (cell_lt h.c0)]; exact h.c0, by rw [hb.cell (p := ⟨b, 1, none⟩) (cell_lt h.c1)]; exact h.c1, by rw [hb.cell (p := ⟨b, 2, none⟩) (cell_lt h.c2)]; exact h.c2⟩
theorem QB.ch {D : Nat → Prop} {w w' : World} {b k : Nat} {v : Vl} (h : QB w b k v) (hc : Ch D w w') (hd : ¬ D b) : QB w' b k v := ⟨hc.cell h.c0 hd, hc.cell h.c1 hd, hc.cell h.c2 hd⟩
theorem qb_new (w : World) (k : Nat) (v : Vl) : QB (w.alloc (Obj.cells #[.int .u64 k, .bool v.h, .int .u64 v.b] 62)) w.heap.size k v := by
 constructor <;> simp [go_sem]
section

variable {w : World} {Q : Nat} {f : Nat → Value} {Ls : List (List Cl)}

theorem sapply_walk (h : SH w Q f Ls) (hok : ∀ i, i < 6 → ∀ c ∈ pgc Ls i, c.okB) (hle : ∀ i, i < 6 → (pgc Ls i).length ≤ 16) (kind b : Int) {k : Nat} {v : Vl} (hv : v.ok) :
  Calls Tryz.prog 75 #[.pointer (some ⟨Q, 0, none⟩), .int .i64 kind, .int .i64 b, .agg #[.int .u64 k, .bool v.h, .int .u64 v.b]] w (AppGot Q f (shApp kind b Ls k v) w) := by
 have HOK := hidH hok;have HLE := hidH hle;have HV : Hid v.ok := hv;have HW : Hid (SH w Q f Ls) := h;have HQW : Hid (Q < w.heap.size) := h.lt;have H0 : Hid (SH (w.alloc (Obj.cells #[.int .u64 k, .bool v.h, .int .u64 v.b] 62)) Q f Ls) := h.below (below_alloc _ _);have HQ0 : Hid _ := qb_new w k v;have HB0 : Hid _ := below_alloc w (Obj.cells #[.int .u64 k, .bool v.h, .int .u64 v.b] 62);clear h hok hle hv;go_in;go_upto_region 1 with fail
 generalize hN : w.heap.size = N at HQ0 HQW ⊢;have HN : Hid (w.heap.size = N) := hN;clear hN;generalize w.alloc (Obj.cells #[.int .u64 k, .bool v.h, .int .u64 v.b] 62) = w0 at H0 HQ0 HB0 ⊢;have q0 := HQ0.out.c0;go_wp2_with fail;refine (find_walkS H0.out k).mono ?_;rintro e w1 ⟨i, c, t, rfl, hfind, hB1⟩;have HF : Hid ((shAt Ls k = some i ∧ i < 6 ∧ t = true ∧ c = cellAt Ls i k ∧ c ∈ pgc Ls i ∧ c.k = k) ∨ (shAt Ls k = none ∧ i = 0 ∧ t = false ∧ c = zeroC)) := hfind;have H1 : Hid (SH w1 Q f Ls) := H0.out.below hB1;have HQ1 : Hid (QB w1 N k v) := HQ0.out.keep hB1;have HB1 := hidH (below_trans HB0.out hB1);clear hfind hB1 H0 HQ0 HB0 q0;go_upto_region 2 with fail
 have H2 : Hid (SH (w1.alloc (Obj.cells #[.int .u64 c.k, .bool c.p.h, .int .u64 c.p.b, .bool c.c.h, .int .u64 c.c.b, .int .i64 c.n] 114)) Q f Ls) := H1.out.below (below_alloc _ _);have HQ2 : Hid (QB (w1.alloc (Obj.cells #[.int .u64 c.k, .bool c.p.h, .int .u64 c.p.b, .bool c.c.h, .int .u64 c.c.b, .int .i64 c.n] 114)) N k v) := HQ1.out.keep (below_alloc _ _);have HB2 : Hid (Below w.heap.size w (w1.alloc (Obj.cells #[.int .u64 c.k, .bool c.p.h, .int .u64 c.p.b, .bool c.c.h, .int .u64 c.c.b, .int .i64 c.n] 114))) := below_trans HB1.out (below_alloc _ _);have HC2 : Hid _ := cb_new w1 c;have HMN : Hid (N < w1.heap.size) := cell_lt HQ1.out.c0;have HMQ : Hid (¬ w1.heap.size = Q) := by have h1 := HQW.out; have h2 := HMN.out; show ¬ _; omega
 generalize hM : w1.heap.size = M at HC2 HMN HMQ ⊢;clear hM H1 HQ1 HB1;generalize w1.alloc (Obj.cells #[.int .u64 c.k, .bool c.p.h, .int .u64 c.p.b, .bool c.c.h, .int .u64 c.c.b, .int .i64 c.n] 114) = w2 at H2 HQ2 HB2 HC2 ⊢;go_upto_if 22 with fail;go_cut [9, 11] (fun av tv wx => ∃ (a : Nat) (t' : Bool) (d : Cl), av = .int .i64 a ∧ tv = .bool t' ∧ ((t' = true ∧ a < 6 ∧ shOne Ls k = some (a, d) ∧ d.ok) ∨ (t' = false ∧ shOne Ls k = none)) ∧ CB wx M d ∧ QB wx N k v ∧ Below w.heap.size w wx)
 case first =>
  rcases HF.out with ⟨h1, h2, rfl, h4, h5, h6⟩ | ⟨h1, rfl, rfl, rfl⟩
  ·have HO : Hid (shOne Ls k = some (i, c)) := by show _ = _; unfold shOne; rw [h1, h4]
   have HD : Hid c.ok := by have := HOK.out i h2 c h5; exact ⟨this.2.1, this.2.2.1⟩
   clear h1 h4 h5 h6;go_wp2_with fail;go_meet;exact ⟨i, true, c, rfl, rfl, .inl ⟨rfl, h2, HO.out, HD.out⟩, HC2.out, HQ2.out, HB2.out⟩
  ·go_wp2_with fail;refine (room_walk H2.out).mono ?_;rintro e w3 ⟨rfl, hw3⟩;replace hw3 := hw3.symm;subst hw3;obtain ⟨c0, c1, c2, c3, c4, c5, zz⟩ := HC2.out;have y0 := zz 0;have y1 := zz 1;have y2 := zz 2;have y3 := zz 3;have y4 := zz 4;have y5 := zz 5;have q0 := HQ2.out.c0;have HCN : Hid (CB _ M ⟨k, noV, noV, 0⟩) := HC2.out.set ⟨k, noV, noV, 0⟩;clear zz;obtain ⟨o, ho⟩ : ∃ o, o = shRoom Ls := ⟨_, rfl⟩;rw [← ho];have HO : Hid (shOne Ls k = o.map fun a => (a, ⟨k, noV, noV, 0⟩)) := by show _ = _; unfold shOne; rw [h1, ← ho]; cases o <;> rfl
   have HR : Hid (∀ a, o = some a → a < 6) := fun a e => by
    rw [e] at ho;have h := shG_lt 6 0 ho.symm;omega
   have HBS : Hid _ := below_six HB2.out (show w.heap.size ≤ M by have h1 := HN.out; have h2 := HMN.out; omega) (.int .u64 k) (.bool false) (.int .u64 0) (.bool false) (.int .u64 0) (.int .i64 0)
   have HQS : Hid (∀ a b c d e f, QB ((((((w2.setCell ⟨M, 0, none⟩ a).setCell ⟨M, 1, none⟩ b).setCell ⟨M, 2, none⟩ c).setCell ⟨M, 3, none⟩ d).setCell ⟨M, 4, none⟩ e).setCell ⟨M, 5, none⟩ f) N k v) := fun a b c d e f => by
    have s : ∀ {x : World} (i : Nat) (u : Value), QB x N k v → QB (x.setCell ⟨M, i, none⟩ u) N k v := fun i u hx => hx.ch (ch_set _ M i u) (by have := HMN.out; omega);exact s _ _ (s _ _ (s _ _ (s _ _ (s _ _ (s _ _ HQ2.out)))))
   clear h1 ho
   cases o with
   | none =>
    go_wp2_with fail;go_meet;exact ⟨0, false, ⟨k, noV, noV, 0⟩, rfl, rfl, .inr ⟨rfl, HO.out⟩, HCN.out, HQS.out _ _ _ _ _ _, HBS.out⟩
   | some a =>
    go_wp2_with fail;go_meet;exact ⟨a, true, ⟨k, noV, noV, 0⟩, rfl, rfl, .inl ⟨rfl, HR.out a rfl, HO.out, ⟨by show (0 : Nat) < _; omega, by show (0 : Nat) < _; omega⟩⟩, HCN.out, HQS.out _ _ _ _ _ _, HBS.out⟩
 case rest =>
  obtain ⟨a, t', d, rfl, rfl, hd, hcb, hqb, hbw⟩ := hcut;have HD : Hid ((t' = true ∧ a < 6 ∧ shOne Ls k = some (a, d) ∧ d.ok) ∨ (t' = false ∧ shOne Ls k = none)) := hd;have HC3 : Hid (CB wc M d) := hcb;have HQ3 : Hid (QB wc N k v) := hqb;have HB3 := hidH hbw;clear hd hcb hqb hbw H2 HQ2 HB2 HC2 HF;rcases HD.out with ⟨rfl, h1, h2, h3⟩ | ⟨rfl, h2⟩;rotate_left
  ·have HR : Hid (shApp kind b Ls k v = (92, Ls)) := app_none h2;clear h2;go_wp2_with fail;go_ret;rw [HR.out];exact ⟨rfl, ⟨f, HW.out.below HB3.out, Fresh.refl _ _⟩, Ch.of_below HB3.out⟩
  ·have HO : Hid (shOne Ls k = some (a, d)) := h2;have HDO : Hid d.ok := h3;have HA6 : Hid (a < 6) := h1;obtain ⟨c0, c1, c2, c3, c4, c5, zz⟩ := HC3.out;have q1 := HQ3.out.c1;have q2 := HQ3.out.c2;clear h1 h2 h3 zz;go_wp2_with fail;refine (apply_walk kind HDO.out b HV.out _).mono ?_;rintro e w3 ⟨rfl, hB3⟩;obtain ⟨E, hE⟩ : ∃ E, E = appC kind d b v := ⟨_, rfl⟩;obtain ⟨I, hI⟩ : ∃ I, I = appI kind d b := ⟨_, rfl⟩;rw [← hE, ← hI];have HE : Hid (E = appC kind d b v) := hE;have HI : Hid (I = appI kind d b) := hI;have HC4 : Hid (CB w3 M d) := HC3.out.keep hB3;have HB4' := hidH (below_trans HB3.out hB3);clear hE hI hB3 c0 c1 c2 c3 c4 c5 q1 q2 HC3 HQ3 HB3;have HCE : Hid (CB _ M E) := HC4.out.set E;have HBE : Hid _ := below_six HB4'.out (show w.heap.size ≤ M by have h1 := HN.out; have h2 := HMN.out; omega) (.int .u64 E.k) (.bool E.p.h) (.int .u64 E.p.b) (.bool E.c.h) (.int .u64 E.c.b) (.int .i64 E.n);obtain ⟨c0, c1, c2, c3, c4, c5, zz⟩ := HC4.out;have y0 := zz 0;have y1 := zz 1;have y2 := zz 2;have y3 := zz 3;have y4 := zz 4;have y5 := zz 5;clear zz;go_upto_region 8 with fail
   generalize ((((((w3.setCell ⟨M, 0, none⟩ (.int .u64 E.k)).setCell ⟨M, 1, none⟩ (.bool E.p.h)).setCell ⟨M, 2, none⟩ (.int .u64 E.p.b)).setCell ⟨M, 3, none⟩ (.bool E.c.h)).setCell ⟨M, 4, none⟩ (.int .u64 E.c.b)).setCell ⟨M, 5, none⟩ (.int .i64 E.n)) = w4 at HCE HBE ⊢;clear c0 c1 c2 c3 c4 c5 y0 y1 y2 y3 y4 y5 HC4 HB4';have HB4 : Hid (Below w.heap.size w w4) := HBE.out;by_cases hI : I = 0;rotate_left
   ·have HR : Hid (shApp kind b Ls k v = (I, Ls)) := by show _ = _; rw [HI.out]; exact app_bad HO.out (by rw [← HI.out]; exact hI)
    have hIi : (I != 0) = true := by rw [bne_iff_ne]; exact hI
    clear hI;go_wp2_with fail;go_ret;rw [HR.out];exact ⟨rfl, ⟨f, HW.out.below HB4.out, Fresh.refl _ _⟩, Ch.of_below HB4.out⟩
   ·subst hI;have HR : Hid (shApp kind b Ls k v = shPut Ls a E) := by show _ = _; rw [HE.out]; exact app_good HO.out HI.out.symm
    have HS4 : Hid (SH w4 Q f Ls) := HW.out.below HB4.out;obtain ⟨fa, fc, hfa⟩ := HS4.out.form HA6.out;have m0 := HS4.out.c a HA6.out;rw [hfa] at m0;have HCVA : Hid (Cv w4.drew (.slice fa (pgc Ls a).length fc) (pgc Ls a)) := by have := (HS4.out.cv a HA6.out).below (below_drewN w4 1); rw [hfa] at this; exact this
    have HSZ : Hid (((pgc Ls a).length + 1) * 48 ≤ 140737488355328) := by show _ ≤ _; have := HLE.out a HA6.out; omega
    have ha6 : (a : Int) < 6 := by have := HA6.out; omega
    have ha6n : a < 6 := HA6.out;obtain ⟨pn, hpn⟩ : ∃ pn, pn = (pgc Ls a).length := ⟨_, rfl⟩;rw [← hpn] at m0 HCVA;have c0 : ∀ wx, Ch (fun x => x = Q) w4 wx → wx.cell? ⟨M, 0, none⟩ = some (.int .u64 E.k) := fun wx h => h.cell HCE.out.c0 HMQ.out;have c1 : ∀ wx, Ch (fun x => x = Q) w4 wx → wx.cell? ⟨M, 1, none⟩ = some (.bool E.p.h) := fun wx h => h.cell HCE.out.c1 HMQ.out;have c2 : ∀ wx, Ch (fun x => x = Q) w4 wx → wx.cell? ⟨M, 2, none⟩ = some (.int .u64 E.p.b) := fun wx h => h.cell HCE.out.c2 HMQ.out;have c3 : ∀ wx, Ch (fun x => x = Q) w4 wx → wx.cell? ⟨M, 3, none⟩ = some (.bool E.c.h) := fun wx h => h.cell HCE.out.c3 HMQ.out;have c4 : ∀ wx, Ch (fun x => x = Q) w4 wx → wx.cell? ⟨M, 4, none⟩ = some (.int .u64 E.c.b) := fun wx h => h.cell HCE.out.c4 HMQ.out;have c5 : ∀ wx, Ch (fun x => x = Q) w4 wx → wx.cell? ⟨M, 5, none⟩ = some (.int .i64 E.n) := fun wx h => h.cell HCE.out.c5 HMQ.out;clear hpn hfa;go_wp2_with fail;refine wp_region_noPanic ?_;refine wp_region_held_drew (S := fun wx => Ch (fun x => x = Q) w4 wx) (by kernel_rfl) ?_ fun hHeld => ?_
    ·exact Ch.of_below ((Below.refl _ _).drew)
    refine tkS 0 46 rfl hHeld ?_;refine tkS 1 47 rfl hHeld ?_;refine tkS 2 48 rfl hHeld ?_;refine tkS 3 49 rfl hHeld ?_;refine tkS 4 50 rfl hHeld ?_;refine tkS 5 51 rfl hHeld ?_;refine tkS 7 53 rfl hHeld ?_;refine tkS 12 57 rfl hHeld ?_;refine rdH 6 52 rfl fun K hK => ?_;go_simp;refine hK.out _ _ ?_ fun hHeld => ?_
    ·exact Ch.of_below ((Below.refl _ _).drew)
    clear hK K;try simp only [Act.put, zz]
    refine rdH 8 54 rfl fun K hK => ?_;go_simp;refine (put_walk11 HCVA.out E HSZ.out).mono ?_;rintro e9 w5 ⟨v5, rfl, ho5, hB5⟩;have HV5 : Hid (Cv w5 v5 (putR (pgc Ls a) E).1) := (own_cv ho5).1;have HP5 : Hid (∀ x, v5.ownBlock = some x → w.heap.size ≤ x) := fun x hx => by have h1 := (ho5.lt x hx).1; have h2 := HB4.out.size; have h3 : w4.drew.heap.size = w4.heap.size := rfl; omega
    have HB5 := hidH (below_trans HB4.out (below_trans (below_drewN w4 1) hB5));have HC5 : Hid (Ch (fun x => x = Q) w4 w5) := Ch.of_below (below_trans (below_drewN w4 1) hB5);have HS5 : Hid (SH w5 Q f Ls) := HW.out.below HB5.out;have m5 := HS5.out.c a HA6.out;have z5 := HS5.out.z a;obtain ⟨va, vn, vcap, hvv⟩ : ∃ x y z, v5 = .slice x y z := by obtain ⟨x, y, z⟩ := HV5.out.form; exact ⟨x, _, y, z⟩
    subst hvv;clear ho5 hB5;refine hK.out _ _ ?_ fun hHeld => ?_
    ·exact HC5.out
    clear hK K;try simp only [Act.put, zz]
    refine tkS 9 45 rfl hHeld ?_;refine tkS 10 55 rfl hHeld ?_;refine tkS 11 56 rfl hHeld ?_;refine tkS 13 58 rfl hHeld ?_;refine wpAnyH_ready (rs := [14]) (by kernel_rfl) (by simp) ?_;refine AllReadyH.cons (o := ⟨none, _, _, _, _, _⟩) rfl (fun K hK => ?_) AllReadyH.nil;go_simp;refine hK.out _ _ ?_ fun hHeld => ?_
    ·exact (HC5.out.self (ch_set w5 Q a _))
    clear hK K;try simp only [Act.put, zz]
    refine tkS 15 12 rfl hHeld ?_;refine wpAnyH_done (by kernel_rfl) ?_ _;refine NoPanic.normal ?_;go_wp2_with fail;go_ret;rw [HR.out];refine ⟨rfl, ⟨upd f a (.slice va vn vcap), HS5.out.set HA6.out HV5.out, fun j hj x hx => ?_⟩, ?_⟩
    ·unfold upd at hx;by_cases q : a = j
     ·rw [if_pos q] at hx; exact .inr (HP5.out x hx)
     ·rw [if_neg q] at hx; exact .inl hx
    ·exact (Ch.of_below HB5.out).self (ch_set w5 Q a _)
end
end
theorem index_some (l : List Nat) (x b off cap : Nat) (w : World) (hl : l.length ≤ maxLen) (hc : ∀ i, (hi : i < l.length) → w.cell? ⟨b, off + i, none⟩ = some (.int .u64 (l[i] : Nat))) :
  Calls Tryz.prog 214 #[.slice (some ⟨b, off, none⟩) l.length cap, .int .u64 x] w fun e w' => (∃ r : Int, e = .returned (.int .i64 r) ∧ ((0 ≤ r ∧ x ∈ l) ∨ (r = -1 ∧ x ∉ l))) ∧ w' = w := by
 unfold maxLen at hl;have hli : (l.length : Int) ≤ 9223372036854775807 := by omega
 have HC : Hid (∀ i, (hi : i < l.length) → w.cell? ⟨b, off + i, none⟩ = some (.int .u64 (l[i] : Nat))) := hc;clear hc hl;go_in;go_wp2_with fail;go_loop [8] (fun iv => ∃ i : Nat, iv = .int .i64 i ∧ i ≤ l.length ∧ ∀ j, (hj : j < l.length) → j < i → l[j] ≠ x) (fun iv => l.length - (intOf iv).toNat)
 case atStart => exact ⟨0, rfl, by omega, fun j hj h => by omega⟩
 case round =>
  obtain ⟨i, rfl, hil, hno⟩ := hrel;have HNO := hidH hno;clear hno;by_cases hlt : i < l.length
  ·have hlti : (i : Int) < (l.length : Int) := by omega
   have m0 := HC.out i hlt;obtain ⟨y, hy⟩ : ∃ y, l[i] = y := ⟨_, rfl⟩;rw [hy] at m0;have HY : Hid (l[i] = y) := hy;clear hy;by_cases he : x = y
   ·have heb : ((x : Int) == (y : Int)) = true := by simp [he]
    have HM : Hid (x ∈ l) := by rw [he, ← HY.out]; exact List.getElem_mem _
    clear he;go_wp2_with fail;go_ret;exact ⟨⟨_, rfl, .inl ⟨by omega, HM.out⟩⟩, rfl⟩
   ·have heb : ((x : Int) == (y : Int)) = false := by rw [beq_eq_false_iff_ne]; omega
    have HNX : Hid (∀ j, (hj : j < l.length) → j < i + 1 → l[j] ≠ x) := fun j hj hji => by
     rcases Nat.lt_or_ge j i with q | q
     ·exact HNO.out j hj q
     ·obtain rfl : j = i := by omega
      rw [HY.out]; exact fun e => he e.symm
    clear he;go_wp2_with fail;go_round
    case rel => exact ⟨i + 1, by go_num, hlt, HNX.out⟩
    case measure => simp [intOf]; omega
  ·have hlti : ¬ (i : Int) < (l.length : Int) := by omega
   have HM : Hid (x ∉ l) := fun hx => by
    obtain ⟨j, hj, e⟩ := List.mem_iff_getElem.1 hx;exact HNO.out j hj (by omega) e
   go_wp2_with fail;go_ret;exact ⟨⟨_, rfl, .inr ⟨rfl, HM.out⟩⟩, rfl⟩
theorem index_none (x : Nat) (ao : Option Addr) (cap : Nat) (w : World) :
  Calls Tryz.prog 214 #[.slice ao 0 cap, .int .u64 x] w fun e w' => (∃ r : Int, e = .returned (.int .i64 r) ∧ ((0 ≤ r ∧ x ∈ ([] : List Nat)) ∨ (r = -1 ∧ x ∉ ([] : List Nat)))) ∧ w' = w := by
 go_in;go_wp2;refine wp_loop_rounds 1 ?_;rw [rounds_succ];go_wp2;go_ret;exact ⟨⟨_, rfl, .inr ⟨rfl, by simp⟩⟩, rfl⟩
theorem index_walkM {w : World} {v : Value} {l : List Nat} (h : Kv w v l) (x : Nat) :
  Calls Tryz.prog 214 #[v, .int .u64 x] w fun e w' => (∃ r : Int, e = .returned (.int .i64 r) ∧ ((0 ≤ r ∧ x ∈ l) ∨ (r = -1 ∧ x ∉ l))) ∧ w' = w := by
 rcases kv_cases h with ⟨rfl, ao, cap, rfl⟩ | ⟨b, off, cap, rfl, hp, h1, h2, h3⟩
 ·exact index_none x ao cap w
 ·exact index_some l x b off cap w (by omega) h3
theorem contains_walkM {w : World} {v : Value} {l : List Nat} (h : Kv w v l) (x : Nat) :
  Calls Tryz.prog 186 #[v, .int .u64 x] w fun e w' => e = .returned (.bool (decide (x ∈ l))) ∧ w' = w := by
 have HV : Hid (Kv w v l) := h;clear h;by_cases hx : x ∈ l
 ·rw [decide_eq_true hx];have HX : Hid (x ∈ l) := hx;clear hx;go_in;go_wp2_with fail;refine (index_walkM HV.out x).mono ?_;rintro e w2 ⟨⟨r, rfl, hr⟩, rfl⟩;have hr0 : 0 ≤ r := by rcases hr with ⟨q, _⟩ | ⟨_, q⟩; exact q; exact absurd HX.out q
  clear hr;go_wp2_with fail;go_ret;exact ⟨rfl, rfl⟩
 ·rw [decide_eq_false hx];have HX : Hid (x ∉ l) := hx;clear hx;go_in;go_wp2_with fail;refine (index_walkM HV.out x).mono ?_;rintro e w2 ⟨⟨r, rfl, hr⟩, rfl⟩;have hr0 : r = -1 := by rcases hr with ⟨_, q⟩ | ⟨q, _⟩; exact absurd q HX.out; exact q
  subst hr0;clear hr;go_wp2_with fail;go_ret;exact ⟨rfl, rfl⟩
theorem has_walkM {w : World} {v : Value} {k : List Nat} (h : Kv w v k) (b a : Int) (x : Nat) :
  Calls Tryz.prog 140 #[.agg #[.int .i64 b, .int .i64 a, v], .int .u64 x] w fun e w' => e = .returned (.bool (decide (x ∈ k))) ∧ Below w.heap.size w w' := by
 have HB : Hid (Below w.heap.size w (w.alloc (Obj.cells #[.int .i64 b, .int .i64 a, v] 65))) := below_alloc _ _;have HV : Hid (Kv (w.alloc (Obj.cells #[.int .i64 b, .int .i64 a, v] 65)) v k) := h.below (below_alloc _ _);clear h;go_in;go_wp2_with fail;refine (contains_walkM HV.out x).mono ?_;rintro e w2 ⟨rfl, hw2⟩;replace hw2 := hw2.symm;subst hw2;go_wp2_with fail;go_ret;exact ⟨rfl, HB.out⟩
theorem rhas_some (l : List Nat) (x kb off cap : Nat) (b a : Int) (w : World) (hl : l.length ≤ maxLen) (hc : ∀ i, (hi : i < l.length) → w.cell? ⟨kb, off + i, none⟩ = some (.int .u64 (l[i] : Nat))) :
  Calls Tryz.prog 116 #[.agg #[.int .i64 b, .int .i64 a, .slice (some ⟨kb, off, none⟩) l.length cap], .int .u64 x] w fun e w' => e = .returned (.bool (decide (x ∈ l))) ∧ Below w.heap.size w w' := by
 unfold maxLen at hl;have hli : (l.length : Int) ≤ 9223372036854775807 := by omega
 have HC : Hid (∀ i, (hi : i < l.length) → (w.alloc (Obj.cells #[.int .i64 b, .int .i64 a, .slice (some ⟨kb, off, none⟩) l.length cap] 65)).cell? ⟨kb, off + i, none⟩ = some (.int .u64 (l[i] : Nat))) := fun i hi => by rw [(below_alloc w _).cell (p := ⟨kb, off + i, none⟩) (cell_lt (hc i hi))]; exact hc i hi
 have HB : Hid (Below w.heap.size w (w.alloc (Obj.cells #[.int .i64 b, .int .i64 a, .slice (some ⟨kb, off, none⟩) l.length cap] 65))) := below_alloc _ _;clear hc hl;go_in;go_wp2_with fail;go_loop [5] (fun iv => ∃ i : Nat, iv = .int .i64 i ∧ i ≤ l.length ∧ ∀ j, (hj : j < l.length) → j < i → l[j] ≠ x) (fun iv => l.length - (intOf iv).toNat)
 case atStart => exact ⟨0, rfl, by omega, fun j hj h => by omega⟩
 case round =>
  obtain ⟨i, rfl, hil, hno⟩ := hrel;have HNO := hidH hno;clear hno;by_cases hlt : i < l.length
  ·have hlti : (i : Int) < (l.length : Int) := by omega
   have m0 := HC.out i hlt;obtain ⟨y, hy⟩ : ∃ y, l[i] = y := ⟨_, rfl⟩;rw [hy] at m0;have HY : Hid (l[i] = y) := hy;clear hy;by_cases he : y = x
   ·have heb : ((y : Int) == (x : Int)) = true := by simp [he]
    have HM : Hid (decide (x ∈ l) = true) := decide_eq_true (by rw [← he, ← HY.out]; exact List.getElem_mem _);clear he;go_wp2_with fail;go_ret;exact ⟨by rw [HM.out]; rfl, HB.out⟩
   ·have heb : ((y : Int) == (x : Int)) = false := by rw [beq_eq_false_iff_ne]; omega
    have HNX : Hid (∀ j, (hj : j < l.length) → j < i + 1 → l[j] ≠ x) := fun j hj hji => by
     rcases Nat.lt_or_ge j i with q | q
     ·exact HNO.out j hj q
     ·obtain rfl : j = i := by omega
      rw [HY.out]; exact he
    clear he;go_wp2_with fail;go_round
    case rel => exact ⟨i + 1, by go_num, hlt, HNX.out⟩
    case measure => simp [intOf]; omega
  ·have hlti : ¬ (i : Int) < (l.length : Int) := by omega
   have HM : Hid (decide (x ∈ l) = false) := decide_eq_false fun hx => by
    obtain ⟨j, hj, e⟩ := List.mem_iff_getElem.1 hx;exact HNO.out j hj (by omega) e
   go_wp2_with fail;go_ret;exact ⟨by rw [HM.out]; rfl, HB.out⟩
theorem rhas_none (x : Nat) (ao : Option Addr) (cap : Nat) (b a : Int) (w : World) :
  Calls Tryz.prog 116 #[.agg #[.int .i64 b, .int .i64 a, .slice ao 0 cap], .int .u64 x] w fun e w' => e = .returned (.bool (decide (x ∈ ([] : List Nat)))) ∧ Below w.heap.size w w' := by
 have HM : Hid (decide (x ∈ ([] : List Nat)) = false) := by simp [Hid]
 go_in;go_wp2_with fail;refine wp_loop_rounds 1 ?_;rw [rounds_succ];go_wp2_with fail;go_ret;exact ⟨by rw [HM.out]; rfl, below_alloc _ _⟩
theorem rhas_walk {w : World} {v : Value} {k : List Nat} (h : Kv w v k) (b a : Int) (x : Nat) :
  Calls Tryz.prog 116 #[.agg #[.int .i64 b, .int .i64 a, v], .int .u64 x] w fun e w' => e = .returned (.bool (decide (x ∈ k))) ∧ Below w.heap.size w w' := by
 rcases kv_cases h with ⟨rfl, ao, cap, rfl⟩ | ⟨kb, off, cap, rfl, hp, h1, h2, h3⟩
 ·exact rhas_none x ao cap b a w
 ·exact rhas_some k x kb off cap b a w (by omega) h3
def judE (c : Int) : Nat := if c < 0 then 130 else if 0 < c then 131 else 0
def judI (mb ma b a : Int) : Nat := if b < 1 ∨ a < 1 then 1 else judE (cmpA b a mb ma)
theorem cmpI_cases (x y : Int) : (x < y ∧ cmpIM x y = -1) ∨ (y < x ∧ cmpIM x y = 1) ∨ (x = y ∧ cmpIM x y = 0) := by
 unfold cmpIM;by_cases h1 : x < y
 ·exact .inl ⟨h1, if_pos h1⟩
 ·by_cases h2 : y < x
  ·exact .inr (.inl ⟨h2, by rw [if_neg h1, if_pos h2]⟩)
  ·exact .inr (.inr ⟨by omega, by rw [if_neg h1, if_neg h2]⟩)
theorem cmpA_cases (b a ob oa : Int) : ((b < ob ∨ b = ob ∧ a < oa) ∧ cmpA b a ob oa = -1) ∨ ((ob < b ∨ b = ob ∧ oa < a) ∧ cmpA b a ob oa = 1) ∨ (b = ob ∧ a = oa ∧ cmpA b a ob oa = 0) := by
 unfold cmpA;by_cases h : b = ob
 ·rw [if_pos h];rcases cmpI_cases a oa with ⟨h1, h2⟩ | ⟨h1, h2⟩ | ⟨h1, h2⟩
  ·exact .inl ⟨.inr ⟨h, h1⟩, h2⟩
  ·exact .inr (.inl ⟨.inr ⟨h, h1⟩, h2⟩)
  ·exact .inr (.inr ⟨h, h1, h2⟩)
 ·rw [if_neg h];rcases cmpI_cases b ob with ⟨h1, h2⟩ | ⟨h1, h2⟩ | ⟨h1, h2⟩
  ·exact .inl ⟨.inl h1, h2⟩
  ·exact .inr (.inl ⟨.inl h1, h2⟩)
  ·exact absurd h1 h
theorem judge_walk {v : Value} (mb ma b a : Int) (w : World) :
  Calls Tryz.prog 70 #[.agg #[.int .i64 mb, .int .i64 ma, v], .int .i64 b, .int .i64 a] w fun e w' => e = .returned (.int .i64 (judI mb ma b a : Nat)) ∧ Below w.heap.size w w' := by
 have HB : Hid (Below w.heap.size w (w.alloc (Obj.cells #[.int .i64 mb, .int .i64 ma, v] 65))) := below_alloc _ _;by_cases h1 : b < 1
 ·have e : judI mb ma b a = 1 := if_pos (.inl h1);rw [e];go_in;go_wp2_with fail;go_ret;exact ⟨rfl, HB.out⟩
 ·by_cases h2 : a < 1
  ·have e : judI mb ma b a = 1 := if_pos (.inr h2);rw [e];go_in;go_wp2_with fail;go_ret;exact ⟨rfl, HB.out⟩
  ·have e : judI mb ma b a = judE (cmpA b a mb ma) := if_neg (by omega);rw [e];rcases cmpA_cases b a mb ma with ⟨e1, hc⟩ | ⟨e1, hc⟩ | ⟨e1, e2, hc⟩
   ·rw [hc, show judE (-1) = 130 from rfl];clear e;go_in;go_wp2_with fail;refine (mcmp_walk b a mb ma _).mono ?_;rw [hc];rintro e w2 ⟨rfl, hw2⟩;replace hw2 := hw2.symm;subst hw2;go_wp2_with fail;go_ret;exact ⟨rfl, HB.out⟩
   ·rw [hc, show judE 1 = 131 from rfl];clear e e1;go_in;go_wp2_with fail;refine (mcmp_walk b a mb ma _).mono ?_;rw [hc];rintro e w2 ⟨rfl, hw2⟩;replace hw2 := hw2.symm;subst hw2;go_wp2_with fail;go_ret;exact ⟨rfl, HB.out⟩
   ·rw [hc, show judE 0 = 0 from rfl];clear e e1 e2;go_in;go_wp2_with fail;refine (mcmp_walk b a mb ma _).mono ?_;rw [hc];rintro e w2 ⟨rfl, hw2⟩;replace hw2 := hw2.symm;subst hw2;go_wp2_with fail;go_ret;exact ⟨rfl, HB.out⟩
end Go.Proofs.YtcmklbibehnloaaGreat
