/- Save. -/
import Derived.Test.YtmpdjobllpigpaaQJh
namespace Go.Proofs.Ytmpdjobllpigpaa

open Ieee Go.RowKit



def savB (J : Jn) (n : Nt) : List Nat := bytN (J.g + 1) n
def savW (J : Jn) (S : Dk) (n : Nt) : Int := writeI S ((1 : Int) - J.h) (savB J n)
def savI (J : Jn) (S : Dk) (q : Int) (n : Nt) : Int := if J.o = true ∨ S.down = true then 80 else if rgtB n q = false then 1 else if folB n J.n = false then 7 else if J.g = 1099511627776 then 92 else savW J S n
def savJ (J : Jn) (S : Dk) (q : Int) (n : Nt) : Jn := if J.o = true ∨ S.down = true then { J with o := true } else if rgtB n q = false then J else if folB n J.n = false then J else if J.g = 1099511627776 then J else if savW J S n = 0 then ⟨J.g + 1, n, 1 - J.h, false⟩ else { J with o := savW J S n == 80 }
def savS (J : Jn) (S : Dk) (q : Int) (n : Nt) : Dk := if J.o = true ∨ S.down = true then S else if rgtB n q = false then S else if folB n J.n = false then S else if J.g = 1099511627776 then S else writeS S ((1 : Int) - J.h) (savB J n)
/-- What Save answers. -/
def SvGot (D K : Nat → Prop) (v dv : Value) (q : Int) (J : Jn) (S : Dk) (n : Nt) (w : World) (e : Ending) (w' : World) : Prop := e = .returned (.int .i64 (savI J S q n)) ∧ (∃ D' K' : Nat → Prop, JS D' K' w' v dv q (savJ J S q n) (savS J S q n) ∧ (∀ x, D' x → D x ∨ w.heap.size ≤ x) ∧ ∀ x, K' x → K x ∨ w.heap.size ≤ x) ∧ Ch (fun x => D x ∨ K x) w w'
theorem jsave_nil {w : World} {nb na : Int} {pv cv : Value} : Calls Try.prog 67 #[.pointer none, .agg #[.int .i64 nb, pv, cv, .int .i64 na]] w fun e w' => e = .returned (.int .i64 2) ∧ Below w.heap.size w w' := by
  go_enter Try.func67, Try.ntmps67
  go_wp2_with fail
  go_ret
  exact ⟨rfl, below_alloc _ _⟩
section

variable {D K : Nat → Prop} {w w' w0 w1 : World} {v dv pv cv : Value} {q : Int} {J : Jn} {S : Dk} {n : Nt} {jb : Nat}

theorem sv_same {c : Int} (h : JS D K w v dv q J S) (hI : savI J S q n = c) (hJ : savJ J S q n = J) (hS : savS J S q n = S) (hb : Below w.heap.size w w') : SvGot D K v dv q J S n w (.returned (.int .i64 c)) w' :=
  ⟨by rw [hI], ⟨D, K, by rw [hJ, hS]; exact h.below hb, fun x hx => .inl hx, fun x hx => .inl hx⟩, Ch.of_below hb⟩
/-- The journal's own block is turned. -/
theorem JM.turn {p' c' pv' cv' : Value} {J' : Jn} (h : JM K w jb pv' cv' dv q J) (hw : w'.heap[jb]? = some (.cells (jC J' p' c' dv) 109 (0, 0))) (hk : ∀ x, x ≠ jb → w'.heap[x]? = w.heap[x]?) (hs : w'.heap.size = w.heap.size) (hp : OwN 0 w p' J'.n.p) (hc : OwN 0 w c' J'.n.c) (np : ∀ x, p'.ownBlock = some x → x ≠ jb) (nc : ∀ x, c'.ownBlock = some x → x ≠ jb) (hok : J'.ok q) :
    JM (fun x => K x ∨ p'.ownBlock = some x ∨ c'.ownBlock = some x) w' jb p' c' dv q J' :=
  ⟨hw, row_keep hp fun x hx => hk x (np x hx), row_keep hc fun x hx => hk x (nc x hx), .inl h.kj, fun x hx => ⟨.inr (.inl hx), np x hx⟩, fun x hx => ⟨.inr (.inr hx), nc x hx⟩, fun x hx => by
    rw [hs]
    rcases hx with hx | hx | hx
    · exact h.kl x hx
    · exact (hp.lt x hx).2
    · exact (hc.lt x hx).2, hok⟩
theorem Jn.ok_o (h : J.ok q) (o : Bool) : ({ J with o := o } : Jn).ok q := ⟨h.g1, h.g2, h.r, h.q4, h.h1⟩
/-- The journal is ended, or not. -/
theorem JM.setO {pv' cv' : Value} (h : JM K w jb pv' cv' dv q J) (o : Bool) : JM K (w.setCell ⟨jb, 7, none⟩ (.bool o)) jb pv' cv' dv q { J with o := o } := by
  have hk : ∀ x, x ≠ jb → (w.setCell ⟨jb, 7, none⟩ (.bool o)).heap[x]? = w.heap[x]? := fun x hx => set_other _ _ hx
  refine ⟨by rw [set_row h.head]; rfl, row_keep h.lp fun x hx => hk x (h.kp x hx).2, row_keep h.lc fun x hx => hk x (h.kc x hx).2, h.kj, h.kp, h.kc, fun x hx => ?_, Jn.ok_o h.ok o⟩
  have := h.kl x hx
  simpa [go_sem] using this
theorem sv_over {pv' cv' : Value} {sb : Nat} {D' : Nat → Prop} {S' : Dk} {c : Int} {o : Bool} (hj : JM K w1 jb pv' cv' dv q J) (hd : Dsk 86 D' w1 dv S') (hap : ∀ x, K x → ¬ D' x) (hD : ∀ x, D' x → D x ∨ w.heap.size ≤ x) (hC : Ch (fun x => D x ∨ K x) w w1) (hI : savI J S q n = c) (hJ : savJ J S q n = { J with o := o }) (hS : savS J S q n = S') (_hsb : dv = .pointer (some ⟨sb, 0, none⟩)) :
    SvGot D K (.pointer (some ⟨jb, 0, none⟩)) dv q J S n w (.returned (.int .i64 c)) (w1.setCell ⟨jb, 7, none⟩ (.bool o)) := by
  have hch : Ch (fun x => x = jb) w1 (w1.setCell ⟨jb, 7, none⟩ (.bool o)) := Ch.of_grown (grown_set w1 jb 7 _) (fun x hx => by cases hx; rfl)
  refine ⟨by rw [hI], ⟨D', K, ?_, hD, fun x hx => .inl hx⟩, hC.trans hch (fun x hx => .inl (.inr (hx ▸ hj.kj)))⟩
  rw [hJ, hS]
  exact ⟨hd.ch hch (fun x hx e => hap jb hj.kj (e ▸ hx)), ⟨jb, pv', cv', rfl, hj.setO o⟩, hap⟩
theorem sv_more {e : Ending} {w2 : World} (h : SvGot D K v dv q J S n w e w1) (hb : Below w1.heap.size w1 w2) : SvGot D K v dv q J S n w e w2 := by
  obtain ⟨h1, ⟨D', K', h2, h3, h4⟩, h5⟩ := h
  exact ⟨h1, ⟨D', K', h2.below hb, h3, h4⟩, h5.trans (Ch.of_below (D := fun x => D x ∨ K x) hb) (fun x hx => .inl hx)⟩
/-- What the making of the next entry leaves. -/
def Ne (w1 : World) (g : Int) (n : Nt) (ev : Value) (W : World) : Prop := ∃ (E : Nat) (pa ca : Option Addr) (pc cc : Nat), ev = .pointer (some ⟨E, 0, none⟩) ∧ W.heap[E]? = some (.cells #[.int .i64 g, .int .i64 n.b, .slice pa n.p.length pc, .slice ca n.c.length cc, .int .i64 n.a] 107 (0, 0)) ∧ OwN w1.heap.size W (.slice pa n.p.length pc) n.p ∧ OwN w1.heap.size W (.slice ca n.c.length cc) n.c ∧ w1.heap.size ≤ E ∧ Below w1.heap.size w1 W
theorem ne_new {w9 : World} {g : Int} {pa ca : Option Addr} {pc cc : Nat} (hS : Below w1.heap.size w1 w9) (h1 : OwN w1.heap.size w9 (.slice pa n.p.length pc) n.p) (h2 : OwN w1.heap.size w9 (.slice ca n.c.length cc) n.c) : Ne w1 g n (.pointer (some ⟨w9.heap.size, 0, none⟩)) (w9.alloc (Obj.cells #[.int .i64 g, .int .i64 n.b, .slice pa n.p.length pc, .slice ca n.c.length cc, .int .i64 n.a] 107)) :=
  ⟨_, pa, ca, pc, cc, rfl, alloc_at rfl, own_below h1 (below_alloc _ _), own_below h2 (below_alloc _ _), hS.size, below_trans hS (below_alloc _ _)⟩
theorem ne_old {w9 : World} {g : Int} {pa ca : Option Addr} {pc cc : Nat} (hS : Below w1.heap.size w1 w9) (hz : w9.heap[w1.heap.size]? = some (.cells #[.int .i64 0, .int .i64 0, .slice none 0 0, .slice none 0 0, .int .i64 0] 107 (0, 0))) (h1 : OwN (w1.heap.size + 1) w9 (.slice pa n.p.length pc) n.p) (h2 : OwN (w1.heap.size + 1) w9 (.slice ca n.c.length cc) n.c) :
    Ne w1 g n (.pointer (some ⟨w1.heap.size, 0, none⟩)) (((((w9.setCell ⟨w1.heap.size, 0, none⟩ (.int .i64 g)).setCell ⟨w1.heap.size, 1, none⟩ (.int .i64 n.b)).setCell ⟨w1.heap.size, 2, none⟩ (.slice pa n.p.length pc)).setCell ⟨w1.heap.size, 3, none⟩ (.slice ca n.c.length cc)).setCell ⟨w1.heap.size, 4, none⟩ (.int .i64 n.a)) := by
  have hg := grown_set5 w9 w1.heap.size (.int .i64 g) (.int .i64 n.b) (.slice pa n.p.length pc) (.slice ca n.c.length cc) (.int .i64 n.a)
  have hk : ∀ x, x < w9.heap.size → x ≠ w1.heap.size → (((((w9.setCell ⟨w1.heap.size, 0, none⟩ (.int .i64 g)).setCell ⟨w1.heap.size, 1, none⟩ (.int .i64 n.b)).setCell ⟨w1.heap.size, 2, none⟩ (.slice pa n.p.length pc)).setCell ⟨w1.heap.size, 3, none⟩ (.slice ca n.c.length cc)).setCell ⟨w1.heap.size, 4, none⟩ (.int .i64 n.a)).heap[x]? = w9.heap[x]? := fun x hx hn => hg.block x hx (fun e => hn (by simpa using e))
  refine ⟨_, pa, ca, pc, cc, rfl, by rw [set_row (set_row (set_row (set_row (set_row hz _ _) _ _) _ _) _ _)]; rfl, ?_, ?_, Nat.le_refl _, hS.grown hg hS.size (fun x hx => by cases hx; omega)⟩
  · refine own_base (row_keep h1 fun x hx => hk x (h1.lt x hx).2 ?_) (by omega)
    have := (h1.lt x hx).1; omega
  · refine own_base (row_keep h2 fun x hx => hk x (h2.lt x hx).2 ?_) (by omega)
    have := (h2.lt x hx).1; omega
theorem sv_yes {pv' cv' : Value} {sb : Nat} {D' : Nat → Prop} {S' : Dk} {pa ca : Option Addr} {pc cc : Nat} (hj : JM K w1 jb pv' cv' dv q J) (hd : Dsk 86 D' w1 dv S') (hap : ∀ x, K x → ¬ D' x) (hD : ∀ x, D' x → D x ∨ w.heap.size ≤ x) (hC : Ch (fun x => D x ∨ K x) w w1) (hI : savI J S q n = 0) (hJ : savJ J S q n = ⟨J.g + 1, n, 1 - J.h, false⟩) (hS : savS J S q n = S') (ho : J.o = false) (_hsb : dv = .pointer (some ⟨sb, 0, none⟩)) (hok : (⟨J.g + 1, n, 1 - J.h, false⟩ : Jn).ok q)
    (h1 : OwN w.heap.size w1 (.slice pa n.p.length pc) n.p) (h2 : OwN w.heap.size w1 (.slice ca n.c.length cc) n.c) (n1 : ∀ x, (Value.slice pa n.p.length pc).ownBlock = some x → ¬ D' x) (n2 : ∀ x, (Value.slice ca n.c.length cc).ownBlock = some x → ¬ D' x) (hjb : jb < w.heap.size) :
    SvGot D K (.pointer (some ⟨jb, 0, none⟩)) dv q J S n w (.returned (.int .i64 0)) ((((((w1.setCell ⟨jb, 0, none⟩ (.int .i64 ((J.g : Int) + 1))).setCell ⟨jb, 1, none⟩ (.int .i64 n.b)).setCell ⟨jb, 2, none⟩ (.slice pa n.p.length pc)).setCell ⟨jb, 3, none⟩ (.slice ca n.c.length cc)).setCell ⟨jb, 4, none⟩ (.int .i64 n.a)).setCell ⟨jb, 6, none⟩ (.int .i64 (1 - (J.h : Int)))) := by
  have hg := grown_trans (grown_set5 w1 jb (.int .i64 ((J.g : Int) + 1)) (.int .i64 n.b) (.slice pa n.p.length pc) (.slice ca n.c.length cc) (.int .i64 n.a)) (grown_set _ jb 6 (.int .i64 (1 - (J.h : Int))))
  have hch := Ch.of_grown (D := fun x => x = jb) hg (fun x hx => by cases hx; rfl)
  have hh1 := hj.ok.h1
  refine ⟨by rw [hI], ⟨D', fun x => K x ∨ (Value.slice pa n.p.length pc).ownBlock = some x ∨ (Value.slice ca n.c.length cc).ownBlock = some x, ?_, hD, fun x hx => ?_⟩, hC.trans hch (fun x hx => .inl (.inr (hx ▸ hj.kj)))⟩
  · rw [hJ, hS]
    refine ⟨hd.ch hch (fun x hx e => hap jb hj.kj (e ▸ hx)), ⟨jb, _, _, rfl, hj.turn ?_ (fun x hx => ?_) (by simp [go_sem]) (own_base h1 (Nat.zero_le _)) (own_base h2 (Nat.zero_le _)) (fun x hx e => ?_) (fun x hx e => ?_) hok⟩, fun x hx => ?_⟩
    · rw [set_row (set_row (set_row (set_row (set_row (set_row hj.head _ _) _ _) _ _) _ _) _ _)]
      have e1 : ((J.g : Int) + 1) = ((J.g + 1 : Nat) : Int) := by omega
      have e2 : (1 - (J.h : Int)) = ((1 - J.h : Nat) : Int) := by omega
      rw [e1, e2]
      show some (Obj.cells #[_, _, _, _, _, dv, _, Value.bool J.o] _ _) = _
      rw [ho]
      rfl
    · rw [set_other _ _ hx, set_other _ _ hx, set_other _ _ hx, set_other _ _ hx, set_other _ _ hx, set_other _ _ hx]
    · have := (h1.lt x hx).1; omega
    · have := (h2.lt x hx).1; omega
    · rcases hx with hx | hx | hx
      · exact hap x hx
      · exact n1 x hx
      · exact n2 x hx
  · rcases hx with hx | hx | hx
    · exact .inl hx
    · exact .inr (h1.lt x hx).1
    · exact .inr (h2.lt x hx).1
theorem zero_ent {w2 w9 : World} {T : TypeId} (h : Below (w2.drew.alloc (Obj.cells #[.int .i64 0, .int .i64 0, .slice none 0 0, .slice none 0 0, .int .i64 0] T)).heap.size (w2.drew.alloc (Obj.cells #[.int .i64 0, .int .i64 0, .slice none 0 0, .slice none 0 0, .int .i64 0] T)) w9) : w9.heap[w2.heap.size]? = some (.cells #[.int .i64 0, .int .i64 0, .slice none 0 0, .slice none 0 0, .int .i64 0] T (0, 0)) :=
 by
  have h0 := alloc_at (w := w2.drew) (o := Obj.cells #[.int .i64 0, .int .i64 0, .slice none 0 0, .slice none 0 0, .int .i64 0] T) (k := w2.heap.size) rfl
  exact blk_below h0 h
theorem zero_own {w2 w9 : World} {o : Obj} {e n : Nat} {v : Value} {xs : List Value} (h : w9.ownsRow (w2.drew.alloc o).heap.size e 1 v n xs) : w9.ownsRow (w2.heap.size + 1) e 1 v n xs := own_base h (by rw [alloc_size]; exact Nat.le_refl _)


set_option maxRecDepth 100000 in
set_option maxHeartbeats 8000000 in
theorem jsave_walk (h : JS D K w v dv q J S) (hp : Nv w pv n.p) (hc : Nv w cv n.c) (hnb : -9223372036854775808 ≤ n.b ∧ n.b < 9223372036854775808) (hwr : S.wr < 9223372036854775800) :
    Calls Try.prog 67 #[v, .agg #[.int .i64 n.b, pv, cv, .int .i64 n.a]] w (SvGot D K v dv q J S n w) := by
  have HJS : Hid (JS D K w v dv q J S) := h
  have HWR : Hid (S.wr < 9223372036854775800) := hwr
  have HNB : Hid (-9223372036854775808 ≤ n.b ∧ n.b < 9223372036854775808) := hnb
  obtain ⟨hd, ⟨jb, jp, jc, rfl, hj⟩, hap⟩ := h
  have hd2 := hd
  obtain ⟨sb, gp, cap, rfl, _, _⟩ := hd2
  have HAP : Hid (∀ x, K x → ¬ D x) := hap
  obtain ⟨⟨po, pc, rfl, _⟩, _⟩ := hj.np
  obtain ⟨⟨co, cc, rfl, _⟩, _⟩ := hj.nc
  obtain ⟨⟨np, npc, rfl, _⟩, _⟩ := (show Nv w pv n.p from hp)
  obtain ⟨⟨nc, ncc, rfl, _⟩, _⟩ := (show Nv w cv n.c from hc)
  obtain ⟨w0, hw0⟩ : ∃ w0, w0 = w.alloc (Obj.cells #[.int .i64 n.b, .slice np n.p.length npc, .slice nc n.c.length ncc, .int .i64 n.a] 40) := ⟨_, rfl⟩
  have HW0 : Hid (w0 = w.alloc (Obj.cells #[.int .i64 n.b, .slice np n.p.length npc, .slice nc n.c.length ncc, .int .i64 n.a] 40)) := hw0
  have HB0 : Hid (Below w.heap.size w w0) := by show Below _ _ _; rw [hw0]; exact below_alloc _ _
  have HJ0 : Hid (JM K w0 jb (.slice po J.n.p.length pc) (.slice co J.n.c.length cc) (.pointer (some ⟨sb, 0, none⟩)) q J) := hj.keep (fun x hx => HB0.out.block x (hj.kl x hx)) HB0.out.size
  have HD0 : Hid (Dsk 86 D w0 (.pointer (some ⟨sb, 0, none⟩)) S) := hd.below HB0.out
  have HN0 : Hid (w0.heap[w.heap.size]? = some (.cells #[.int .i64 n.b, .slice np n.p.length npc, .slice nc n.c.length ncc, .int .i64 n.a] 40 (0, 0))) := by show _ = _; rw [hw0]; exact alloc_at rfl
  have HP : Hid (Nv w0 (.slice np n.p.length npc) n.p) := hp.below HB0.out
  have HC : Hid (Nv w0 (.slice nc n.c.length ncc) n.c) := hc.below HB0.out
  have hjl : jb < w.heap.size := hj.kl _ hj.kj
  have hjn : ¬ jb = w.heap.size := by omega
  have HJL : Hid (jb < w.heap.size) := hjl
  have c7 : w.cell? ⟨jb, 7, none⟩ = some (.bool J.o) := by rw [hj.cell]; rfl
  have c5 : w.cell? ⟨jb, 5, none⟩ = some (.pointer (some ⟨sb, 0, none⟩)) := by rw [hj.cell]; rfl
  have f7 : w0.frozen? ⟨jb, 7, none⟩ = false := HJ0.out.soft 7
  have HCH0 : Hid (Ch (fun x => D x ∨ K x) w w0) := Ch.of_below HB0.out
  have HOK : Hid (J.ok q) := hj.ok
  have HJW : Hid (JM K w jb (.slice po J.n.p.length pc) (.slice co J.n.c.length cc) (.pointer (some ⟨sb, 0, none⟩)) q J) := hj
  clear hp hc hnb hwr hw0 hj hd hap
  cases ho : J.o
  rotate_left
  · have HA : Hid (SvGot D K (.pointer (some ⟨jb, 0, none⟩)) (.pointer (some ⟨sb, 0, none⟩)) q J S n w (.returned (.int .i64 80)) (w.setCell ⟨jb, 7, none⟩ (.bool true))) := sv_over HJW.out HJS.out.d HAP.out (fun x hx => .inl hx) (Ch.refl _ _) (by unfold savI; rw [if_pos (.inl ho)]) (by unfold savJ; rw [if_pos (.inl ho)]) (by unfold savS; rw [if_pos (.inl ho)]) rfl
    have f7b : w.frozen? ⟨jb, 7, none⟩ = false := by have := HJ0.out.soft 7; rwa [HB0.out.frozen (p := ⟨jb, 7, none⟩) hjl] at this
    rw [ho] at c7
    clear ho
    go_enter Try.func67, Try.ntmps67
    go_wp2_with fail
    go_ret
    exact sv_more HA.out (below_alloc _ _)
  rw [ho] at c7
  have HOO : Hid (J.o = false) := ho
  clear ho
  cases hdn : S.down
  rotate_left
  · have HA : Hid (SvGot D K (.pointer (some ⟨jb, 0, none⟩)) (.pointer (some ⟨sb, 0, none⟩)) q J S n w (.returned (.int .i64 80)) (w0.setCell ⟨jb, 7, none⟩ (.bool true))) := sv_over HJ0.out HD0.out HAP.out (fun x hx => .inl hx) HCH0.out (by unfold savI; rw [if_pos (.inr hdn)]) (by unfold savJ; rw [if_pos (.inr hdn)]) (by unfold savS; rw [if_pos (.inr hdn)]) rfl
    have g7 : w0.cell? ⟨jb, 7, none⟩ = some (.bool J.o) := by rw [HJ0.out.cell]; rfl
    have HDN : Hid (S.down = true) := hdn
    clear hdn
    go_enter Try.func67, Try.ntmps67
    go_wp2_with fail
    rw [← HW0.out]
    refine (down_walk HD0.out).mono ?_
    rintro e w9 ⟨rfl, h9⟩
    replace h9 := h9.symm
    subst h9
    rw [HDN.out]
    go_wp2_with fail
    go_ret
    exact HA.out
  have HDN : Hid (S.down = false) := hdn
  have HN1 : Hid (¬ (J.o = true ∨ S.down = true)) := by show ¬ _; rw [HOO.out, hdn]; simp
  clear hdn
  have HIF : Hid (savI J S q n = if rgtB n q = false then 1 else if folB n J.n = false then 7 else if J.g = 1099511627776 then 92 else savW J S n) := if_neg HN1.out
  have HJF : Hid (savJ J S q n = if rgtB n q = false then J else if folB n J.n = false then J else if J.g = 1099511627776 then J else if savW J S n = 0 then ⟨J.g + 1, n, 1 - J.h, false⟩ else { J with o := savW J S n == 80 }) := if_neg HN1.out
  have HSF : Hid (savS J S q n = if rgtB n q = false then S else if folB n J.n = false then S else if J.g = 1099511627776 then S else writeS S ((1 : Int) - J.h) (savB J n)) := if_neg HN1.out
  have HQ4 : Hid (q ≤ 4) := HOK.out.q4
  have HQL : Hid (((J.n.c.length : Nat) : Int) = q) := HOK.out.r.lc
  have HNL : Hid (w.heap.size < w0.heap.size) := blk_lt HN0.out
  have HJL0 : Hid (jb < w0.heap.size) := HJ0.out.kl _ HJ0.out.kj
  have n0 : ∀ wx, Below w0.heap.size w0 wx → wx.cell? ⟨w.heap.size, 0, none⟩ = some (.int .i64 n.b) := fun wx hb => by rw [hb.cell (p := ⟨w.heap.size, 0, none⟩) HNL.out, blk_cell HN0.out]; rfl
  have n1 : ∀ wx, Below w0.heap.size w0 wx → wx.cell? ⟨w.heap.size, 1, none⟩ = some (.slice np n.p.length npc) := fun wx hb => by rw [hb.cell (p := ⟨w.heap.size, 1, none⟩) HNL.out, blk_cell HN0.out]; rfl
  have n2 : ∀ wx, Below w0.heap.size w0 wx → wx.cell? ⟨w.heap.size, 2, none⟩ = some (.slice nc n.c.length ncc) := fun wx hb => by rw [hb.cell (p := ⟨w.heap.size, 2, none⟩) HNL.out, blk_cell HN0.out]; rfl
  have n3 : ∀ wx, Below w0.heap.size w0 wx → wx.cell? ⟨w.heap.size, 3, none⟩ = some (.int .i64 n.a) := fun wx hb => by rw [hb.cell (p := ⟨w.heap.size, 3, none⟩) HNL.out, blk_cell HN0.out]; rfl
  have m0 : ∀ wx, Below w0.heap.size w0 wx → wx.cell? ⟨jb, 0, none⟩ = some (.int .i64 J.g) := fun wx hb => by rw [hb.cell (p := ⟨jb, 0, none⟩) HJL0.out, HJ0.out.cell]; rfl
  have m1 : ∀ wx, Below w0.heap.size w0 wx → wx.cell? ⟨jb, 1, none⟩ = some (.int .i64 J.n.b) := fun wx hb => by rw [hb.cell (p := ⟨jb, 1, none⟩) HJL0.out, HJ0.out.cell]; rfl
  have m2 : ∀ wx, Below w0.heap.size w0 wx → wx.cell? ⟨jb, 2, none⟩ = some (.slice po J.n.p.length pc) := fun wx hb => by rw [hb.cell (p := ⟨jb, 2, none⟩) HJL0.out, HJ0.out.cell]; rfl
  have m3 : ∀ wx, Below w0.heap.size w0 wx → wx.cell? ⟨jb, 3, none⟩ = some (.slice co J.n.c.length cc) := fun wx hb => by rw [hb.cell (p := ⟨jb, 3, none⟩) HJL0.out, HJ0.out.cell]; rfl
  have m4 : ∀ wx, Below w0.heap.size w0 wx → wx.cell? ⟨jb, 4, none⟩ = some (.int .i64 J.n.a) := fun wx hb => by rw [hb.cell (p := ⟨jb, 4, none⟩) HJL0.out, HJ0.out.cell]; rfl
  have m5 : ∀ wx, Below w0.heap.size w0 wx → wx.cell? ⟨jb, 5, none⟩ = some (.pointer (some ⟨sb, 0, none⟩)) := fun wx hb => by rw [hb.cell (p := ⟨jb, 5, none⟩) HJL0.out, HJ0.out.cell]; rfl
  have m6 : ∀ wx, Below w0.heap.size w0 wx → wx.cell? ⟨jb, 6, none⟩ = some (.int .i64 J.h) := fun wx hb => by rw [hb.cell (p := ⟨jb, 6, none⟩) HJL0.out, HJ0.out.cell]; rfl
  go_enter Try.func67, Try.ntmps67
  go_wp2_with fail
  rw [← HW0.out]
  refine (down_walk HD0.out).mono ?_
  rintro e w9 ⟨rfl, h9⟩
  replace h9 := h9.symm
  subst h9
  rw [HDN.out]
  clear c7 c5 hjl hjn f7
  go_wp2_with fail
  refine wp_region_noPanic ?_
  refine wp_region_held_drew (S := fun wx => Below w0.heap.size w0 wx) (by kernel_rfl) ?_ (fun hHeld => ?_)
  · exact below_drewN w0 1
  refine wpAnyH_take (i := 0) (oi := ⟨some 24, _, _, _, _, _⟩) (v := ?_) rfl (by kernel_rfl) (by kernel_rfl) (by kernel_rfl) (fun _ _ _ h => h) (Or.inl ⟨by rfl, ?_⟩) hHeld ?_
  rotate_left
  · intro w hSw; (try dsimp only at hSw); go_simp; all_goals (with_reducible rfl)
  try simp only [Act.put, List.setIfInBounds_toArray, List.set_cons_zero, List.set_cons_succ]
  refine wpAnyH_take (i := 1) (oi := ⟨some 25, _, _, _, _, _⟩) (v := ?_) rfl (by kernel_rfl) (by kernel_rfl) (by kernel_rfl) (fun _ _ _ h => h) (Or.inl ⟨by rfl, ?_⟩) hHeld ?_
  rotate_left
  · intro w hSw; (try dsimp only at hSw); go_simp; all_goals (with_reducible rfl)
  try simp only [Act.put, List.setIfInBounds_toArray, List.set_cons_zero, List.set_cons_succ]
  refine wpAnyH_take (i := 2) (oi := ⟨some 26, _, _, _, _, _⟩) (v := ?_) rfl (by kernel_rfl) (by kernel_rfl) (by kernel_rfl) (fun _ _ _ h => h) (Or.inl ⟨by rfl, ?_⟩) hHeld ?_
  rotate_left
  · intro w hSw; (try dsimp only at hSw); go_simp; all_goals (with_reducible rfl)
  try simp only [Act.put, List.setIfInBounds_toArray, List.set_cons_zero, List.set_cons_succ]
  refine wpAnyH_take (i := 3) (oi := ⟨some 27, _, _, _, _, _⟩) (v := ?_) rfl (by kernel_rfl) (by kernel_rfl) (by kernel_rfl) (fun _ _ _ h => h) (Or.inl ⟨by rfl, ?_⟩) hHeld ?_
  rotate_left
  · intro w hSw; (try dsimp only at hSw); go_simp; all_goals (with_reducible rfl)
  try simp only [Act.put, List.setIfInBounds_toArray, List.set_cons_zero, List.set_cons_succ]
  refine wpAnyH_take (i := 4) (oi := ⟨some 28, _, _, _, _, _⟩) (v := ?_) rfl (by kernel_rfl) (by kernel_rfl) (by kernel_rfl) (fun _ _ _ h => h) (Or.inl ⟨by rfl, ?_⟩) hHeld ?_
  rotate_left
  · intro w hSw; (try dsimp only at hSw); go_simp; all_goals (with_reducible rfl)
  try simp only [Act.put, List.setIfInBounds_toArray, List.set_cons_zero, List.set_cons_succ]
  refine wpAnyH_take (i := 5) (oi := ⟨some 29, _, _, _, _, _⟩) (v := ?_) rfl (by kernel_rfl) (by kernel_rfl) (by kernel_rfl) (fun _ _ _ h => h) (Or.inl ⟨by rfl, ?_⟩) hHeld ?_
  rotate_left
  · intro w hSw; (try dsimp only at hSw); go_simp; all_goals (with_reducible rfl)
  try simp only [Act.put, List.setIfInBounds_toArray, List.set_cons_zero, List.set_cons_succ]
  refine wpAnyH_take (i := 6) (oi := ⟨some 30, _, _, _, _, _⟩) (v := ?_) rfl (by kernel_rfl) (by kernel_rfl) (by kernel_rfl) (fun _ _ _ h => h) (Or.inl ⟨by rfl, ?_⟩) hHeld ?_
  rotate_left
  · intro w hSw; (try dsimp only at hSw); go_simp; all_goals (with_reducible rfl)
  try simp only [Act.put, List.setIfInBounds_toArray, List.set_cons_zero, List.set_cons_succ]
  refine wpAnyH_take (i := 7) (oi := ⟨some 31, _, _, _, _, _⟩) (v := ?_) rfl (by kernel_rfl) (by kernel_rfl) (by kernel_rfl) (fun _ _ _ h => h) (Or.inl ⟨by rfl, ?_⟩) hHeld ?_
  rotate_left
  · intro w hSw; (try dsimp only at hSw); go_simp; all_goals (with_reducible rfl)
  try simp only [Act.put, List.setIfInBounds_toArray, List.set_cons_zero, List.set_cons_succ]
  refine wpAnyH_take (i := 8) (oi := ⟨some 32, _, _, _, _, _⟩) (v := ?_) rfl (by kernel_rfl) (by kernel_rfl) (by kernel_rfl) (fun _ _ _ h => h) (Or.inl ⟨by rfl, ?_⟩) hHeld ?_
  rotate_left
  · intro w hSw; (try dsimp only at hSw); go_simp; all_goals (with_reducible rfl)
  try simp only [Act.put, List.setIfInBounds_toArray, List.set_cons_zero, List.set_cons_succ]
  refine wpAnyH_ready (rs := [9]) (by kernel_rfl) (by simp) ?_
  refine AllReadyH.cons (o := ⟨some 33, _, _, _, _, _⟩) rfl (fun K hK => ?_) AllReadyH.nil
  go_simp
  rw [HQL.out]
  refine (jright_walk (n := n) (HP.out.below (below_drewN w0 1)) (HC.out.below (below_drewN w0 1)) HNB.out HQ4.out).mono ?_
  rintro e w1 ⟨rfl, hB1⟩
  have HB1 : Hid (Below w0.heap.size w0 w1) := below_trans (below_drewN w0 1) hB1
  clear hB1
  refine hK.out _ _ ?_ (fun hHeld => ?_)
  · exact HB1.out
  clear hK K
  try simp only [Act.put, List.setIfInBounds_toArray, List.set_cons_zero, List.set_cons_succ]
  refine wpAnyH_take (i := 10) (oi := ⟨some 34, _, _, _, _, _⟩) (v := ?_) rfl (by kernel_rfl) (by kernel_rfl) (by kernel_rfl) (fun _ _ _ h => h) (Or.inl ⟨by rfl, ?_⟩) hHeld ?_
  rotate_left
  · intro w hSw; (try dsimp only at hSw); go_simp; all_goals (with_reducible rfl)
  try simp only [Act.put, List.setIfInBounds_toArray, List.set_cons_zero, List.set_cons_succ]
  refine wpAnyH_done (by kernel_rfl) ?_ _
  refine NoPanic.normal ?_
  cases hrg : rgtB n q
  · have HA : Hid (∀ wx, Below w0.heap.size w0 wx → SvGot D K (.pointer (some ⟨jb, 0, none⟩)) (.pointer (some ⟨sb, 0, none⟩)) q J S n w (.returned (.int .i64 1)) wx) := fun wx hb => sv_same HJS.out (by rw [HIF.out, if_pos hrg]) (by rw [HJF.out, if_pos hrg]) (by rw [HSF.out, if_pos hrg]) (below_trans HB0.out hb)
    clear hrg
    go_wp2_with fail
    go_ret
    exact HA.out _ HB1.out
  have HRG : Hid (Rgt n q) := Rgt.of hrg
  have HIF2 : Hid (savI J S q n = if folB n J.n = false then 7 else if J.g = 1099511627776 then 92 else savW J S n) := by show _ = _; rw [HIF.out, if_neg (by rw [hrg]; simp)]
  have HJF2 : Hid (savJ J S q n = if folB n J.n = false then J else if J.g = 1099511627776 then J else if savW J S n = 0 then ⟨J.g + 1, n, 1 - J.h, false⟩ else { J with o := savW J S n == 80 }) := by show _ = _; rw [HJF.out, if_neg (by rw [hrg]; simp)]
  have HSF2 : Hid (savS J S q n = if folB n J.n = false then S else if J.g = 1099511627776 then S else writeS S ((1 : Int) - J.h) (savB J n)) := by show _ = _; rw [HSF.out, if_neg (by rw [hrg]; simp)]
  clear hrg HIF HJF HSF
  go_wp2_with fail
  refine wp_region_noPanic ?_
  refine wp_region_held_drew (S := fun wx => Below w0.heap.size w0 wx) (by kernel_rfl) ?_ (fun hHeld => ?_)
  · exact below_trans HB1.out (below_drewN w1 1)
  refine wpAnyH_take (i := 0) (oi := ⟨some 35, _, _, _, _, _⟩) (v := ?_) rfl (by kernel_rfl) (by kernel_rfl) (by kernel_rfl) (fun _ _ _ h => h) (Or.inl ⟨by rfl, ?_⟩) hHeld ?_
  rotate_left
  · intro w hSw; (try dsimp only at hSw); go_simp; all_goals (with_reducible rfl)
  try simp only [Act.put, List.setIfInBounds_toArray, List.set_cons_zero, List.set_cons_succ]
  refine wpAnyH_take (i := 1) (oi := ⟨some 36, _, _, _, _, _⟩) (v := ?_) rfl (by kernel_rfl) (by kernel_rfl) (by kernel_rfl) (fun _ _ _ h => h) (Or.inl ⟨by rfl, ?_⟩) hHeld ?_
  rotate_left
  · intro w hSw; (try dsimp only at hSw); go_simp; all_goals (with_reducible rfl)
  try simp only [Act.put, List.setIfInBounds_toArray, List.set_cons_zero, List.set_cons_succ]
  refine wpAnyH_take (i := 2) (oi := ⟨some 37, _, _, _, _, _⟩) (v := ?_) rfl (by kernel_rfl) (by kernel_rfl) (by kernel_rfl) (fun _ _ _ h => h) (Or.inl ⟨by rfl, ?_⟩) hHeld ?_
  rotate_left
  · intro w hSw; (try dsimp only at hSw); go_simp; all_goals (with_reducible rfl)
  try simp only [Act.put, List.setIfInBounds_toArray, List.set_cons_zero, List.set_cons_succ]
  refine wpAnyH_take (i := 3) (oi := ⟨some 38, _, _, _, _, _⟩) (v := ?_) rfl (by kernel_rfl) (by kernel_rfl) (by kernel_rfl) (fun _ _ _ h => h) (Or.inl ⟨by rfl, ?_⟩) hHeld ?_
  rotate_left
  · intro w hSw; (try dsimp only at hSw); go_simp; all_goals (with_reducible rfl)
  try simp only [Act.put, List.setIfInBounds_toArray, List.set_cons_zero, List.set_cons_succ]
  refine wpAnyH_take (i := 4) (oi := ⟨some 39, _, _, _, _, _⟩) (v := ?_) rfl (by kernel_rfl) (by kernel_rfl) (by kernel_rfl) (fun _ _ _ h => h) (Or.inl ⟨by rfl, ?_⟩) hHeld ?_
  rotate_left
  · intro w hSw; (try dsimp only at hSw); go_simp; all_goals (with_reducible rfl)
  try simp only [Act.put, List.setIfInBounds_toArray, List.set_cons_zero, List.set_cons_succ]
  refine wpAnyH_take (i := 5) (oi := ⟨some 40, _, _, _, _, _⟩) (v := ?_) rfl (by kernel_rfl) (by kernel_rfl) (by kernel_rfl) (fun _ _ _ h => h) (Or.inl ⟨by rfl, ?_⟩) hHeld ?_
  rotate_left
  · intro w hSw; (try dsimp only at hSw); go_simp; all_goals (with_reducible rfl)
  try simp only [Act.put, List.setIfInBounds_toArray, List.set_cons_zero, List.set_cons_succ]
  refine wpAnyH_ready (rs := [6]) (by kernel_rfl) (by simp) ?_
  refine AllReadyH.cons (o := ⟨some 41, _, _, _, _, _⟩) rfl (fun K hK => ?_) AllReadyH.nil
  go_simp
  refine (jfol_walk (n := n) (h := J.n) (HP.out.below (below_trans HB1.out (below_drewN w1 1))) (HC.out.below (below_trans HB1.out (below_drewN w1 1))) (HJ0.out.np.below (below_trans HB1.out (below_drewN w1 1))) (HJ0.out.nc.below (below_trans HB1.out (below_drewN w1 1))) (by have := HOK.out.r.b1; omega) HOK.out.r.b0).mono ?_
  rintro e w2 ⟨rfl, hB2⟩
  have HB2 : Hid (Below w0.heap.size w0 w2) := below_trans HB1.out (below_trans (below_drewN w1 1) hB2)
  clear hB2
  refine hK.out _ _ ?_ (fun hHeld => ?_)
  · exact HB2.out
  clear hK K
  try simp only [Act.put, List.setIfInBounds_toArray, List.set_cons_zero, List.set_cons_succ]
  refine wpAnyH_take (i := 7) (oi := ⟨some 42, _, _, _, _, _⟩) (v := ?_) rfl (by kernel_rfl) (by kernel_rfl) (by kernel_rfl) (fun _ _ _ h => h) (Or.inl ⟨by rfl, ?_⟩) hHeld ?_
  rotate_left
  · intro w hSw; (try dsimp only at hSw); go_simp; all_goals (with_reducible rfl)
  try simp only [Act.put, List.setIfInBounds_toArray, List.set_cons_zero, List.set_cons_succ]
  refine wpAnyH_done (by kernel_rfl) ?_ _
  refine NoPanic.normal ?_
  cases hfl : folB n J.n
  · have HA : Hid (∀ wx, Below w0.heap.size w0 wx → SvGot D K (.pointer (some ⟨jb, 0, none⟩)) (.pointer (some ⟨sb, 0, none⟩)) q J S n w (.returned (.int .i64 7)) wx) := fun wx hb => sv_same HJS.out (by rw [HIF2.out, if_pos hfl]) (by rw [HJF2.out, if_pos hfl]) (by rw [HSF2.out, if_pos hfl]) (below_trans HB0.out hb)
    clear hfl
    go_wp2_with fail
    go_ret
    exact HA.out _ HB2.out
  have HIF3 : Hid (savI J S q n = if J.g = 1099511627776 then 92 else savW J S n) := by show _ = _; rw [HIF2.out, if_neg (by rw [hfl]; simp)]
  have HJF3 : Hid (savJ J S q n = if J.g = 1099511627776 then J else if savW J S n = 0 then ⟨J.g + 1, n, 1 - J.h, false⟩ else { J with o := savW J S n == 80 }) := by show _ = _; rw [HJF2.out, if_neg (by rw [hfl]; simp)]
  have HSF3 : Hid (savS J S q n = if J.g = 1099511627776 then S else writeS S ((1 : Int) - J.h) (savB J n)) := by show _ = _; rw [HSF2.out, if_neg (by rw [hfl]; simp)]
  clear hfl HIF2 HJF2 HSF2
  have k0 := m0 w2 HB2.out
  by_cases hg40 : J.g = 1099511627776
  · have HA : Hid (∀ wx, Below w0.heap.size w0 wx → SvGot D K (.pointer (some ⟨jb, 0, none⟩)) (.pointer (some ⟨sb, 0, none⟩)) q J S n w (.returned (.int .i64 92)) wx) := fun wx hb => sv_same HJS.out (by rw [HIF3.out, if_pos hg40]) (by rw [HJF3.out, if_pos hg40]) (by rw [HSF3.out, if_pos hg40]) (below_trans HB0.out hb)
    have hgb : ((J.g : Int) == 1099511627776) = true := by rw [beq_iff_eq]; omega
    clear hg40
    go_wp2_with fail
    go_ret
    exact HA.out _ HB2.out
  have HIF4 : Hid (savI J S q n = savW J S n) := by show _ = _; rw [HIF3.out, if_neg hg40]
  have HJF4 : Hid (savJ J S q n = if savW J S n = 0 then ⟨J.g + 1, n, 1 - J.h, false⟩ else { J with o := savW J S n == 80 }) := by show _ = _; rw [HJF3.out, if_neg hg40]
  have HSF4 : Hid (savS J S q n = writeS S ((1 : Int) - J.h) (savB J n)) := by show _ = _; rw [HSF3.out, if_neg hg40]
  have hgb : ((J.g : Int) == 1099511627776) = false := by rw [beq_eq_false_iff_ne]; omega
  have HG40 : Hid (J.g < 1099511627776) := by have := HOK.out.g2; show _ < _; omega
  have HH1 : Hid (J.h ≤ 1) := HOK.out.h1
  have r1 : IntKind.i64.wrap ((J.g : Int) + 1) = (J.g : Int) + 1 := wrapU (by omega) (by have := HOK.out.g2; omega)
  have r2 : IntKind.i64.wrap (1 - (J.h : Int)) = 1 - (J.h : Int) := wrapU (by have := HH1.out; omega) (by omega)
  have HPL : Hid (n.p.length * 8 ≤ 140737488355328) := rgt_p8 HRG.out HQ4.out
  have HCL : Hid (n.c.length * 8 ≤ 140737488355328) := rgt_c8 HRG.out HQ4.out
  clear hg40 HIF3 HJF3 HSF3
  have n0 := fun wx (hb : Below w2.heap.size w2 wx) => n0 wx (below_trans HB2.out hb)
  have n1 := fun wx (hb : Below w2.heap.size w2 wx) => n1 wx (below_trans HB2.out hb)
  have n2 := fun wx (hb : Below w2.heap.size w2 wx) => n2 wx (below_trans HB2.out hb)
  have n3 := fun wx (hb : Below w2.heap.size w2 wx) => n3 wx (below_trans HB2.out hb)
  have m0 := fun wx (hb : Below w2.heap.size w2 wx) => m0 wx (below_trans HB2.out hb)
  have m6 := fun wx (hb : Below w2.heap.size w2 wx) => m6 wx (below_trans HB2.out hb)
  go_wp2_with fail
  go_cut [5, 6] (fun ev hv wx => hv = .int .i64 (1 - (J.h : Int)) ∧ Ne w2 ((J.g : Int) + 1) n ev wx)
  case first =>
    refine wp_region_noPanic ?_
    refine wp_region_held_drew (S := fun wx => Below w2.heap.size w2 wx) (by kernel_rfl) ?_ (fun hHeld => ?_)
    · exact (below_drewN w2 1)
    refine wpAnyH_take (i := 0) (oi := ⟨some 49, _, _, _, _, _⟩) (v := ?_) rfl (by kernel_rfl) (by kernel_rfl) (by kernel_rfl) (fun _ _ _ h => h) (Or.inl ⟨by rfl, ?_⟩) hHeld ?_
    rotate_left
    · intro w hSw; (try dsimp only at hSw); go_simp; all_goals (with_reducible rfl)
    try simp only [Act.put, List.setIfInBounds_toArray, List.set_cons_zero, List.set_cons_succ]
    refine wpAnyH_take (i := 1) (oi := ⟨some 50, _, _, _, _, _⟩) (v := ?_) rfl (by kernel_rfl) (by kernel_rfl) (by kernel_rfl) (fun _ _ _ h => h) (Or.inl ⟨by rfl, ?_⟩) hHeld ?_
    rotate_left
    · intro w hSw; (try dsimp only at hSw); go_simp; all_goals (with_reducible rfl)
    try simp only [Act.put, List.setIfInBounds_toArray, List.set_cons_zero, List.set_cons_succ]
    refine wpAnyH_take (i := 2) (oi := ⟨some 51, _, _, _, _, _⟩) (v := ?_) rfl (by kernel_rfl) (by kernel_rfl) (by kernel_rfl) (fun _ _ _ h => h) (Or.inl ⟨by rfl, ?_⟩) hHeld ?_
    rotate_left
    · intro w hSw; (try dsimp only at hSw); go_simp; all_goals (with_reducible rfl)
    try simp only [Act.put, List.setIfInBounds_toArray, List.set_cons_zero, List.set_cons_succ]
    refine wpAnyH_take (i := 3) (oi := ⟨some 52, _, _, _, _, _⟩) (v := ?_) rfl (by kernel_rfl) (by kernel_rfl) (by kernel_rfl) (fun _ _ _ h => h) (Or.inl ⟨by rfl, ?_⟩) hHeld ?_
    rotate_left
    · intro w hSw; (try dsimp only at hSw); go_simp; all_goals (with_reducible rfl)
    try simp only [Act.put, List.setIfInBounds_toArray, List.set_cons_zero, List.set_cons_succ]
    refine wpAnyH_take (i := 4) (oi := ⟨some 53, _, _, _, _, _⟩) (v := ?_) rfl (by kernel_rfl) (by kernel_rfl) (by kernel_rfl) (fun _ _ _ h => h) (Or.inl ⟨by rfl, ?_⟩) hHeld ?_
    rotate_left
    · intro w hSw; (try dsimp only at hSw); go_simp; all_goals (with_reducible rfl)
    try simp only [Act.put, List.setIfInBounds_toArray, List.set_cons_zero, List.set_cons_succ]
    refine wpAnyH_take (i := 5) (oi := ⟨some 54, _, _, _, _, _⟩) (v := ?_) rfl (by kernel_rfl) (by kernel_rfl) (by kernel_rfl) (fun _ _ _ h => h) (Or.inl ⟨by rfl, ?_⟩) hHeld ?_
    rotate_left
    · intro w hSw; (try dsimp only at hSw); go_simp; all_goals (with_reducible rfl)
    try simp only [Act.put, List.setIfInBounds_toArray, List.set_cons_zero, List.set_cons_succ]
    refine wpAnyH_take (i := 6) (oi := ⟨some 55, _, _, _, _, _⟩) (v := ?_) rfl (by kernel_rfl) (by kernel_rfl) (by kernel_rfl) (fun _ _ _ h => h) (Or.inl ⟨by rfl, ?_⟩) hHeld ?_
    rotate_left
    · intro w hSw; (try dsimp only at hSw); go_simp; all_goals (with_reducible rfl)
    try simp only [Act.put, List.setIfInBounds_toArray, List.set_cons_zero, List.set_cons_succ]
    refine wpAnyH_take (i := 9) (oi := ⟨some 58, _, _, _, _, _⟩) (v := ?_) rfl (by kernel_rfl) (by kernel_rfl) (by kernel_rfl) (fun _ _ _ h => h) (Or.inl ⟨by rfl, ?_⟩) hHeld ?_
    rotate_left
    · intro w hSw; (try dsimp only at hSw); go_simp; all_goals (with_reducible rfl)
    try simp only [Act.put, List.setIfInBounds_toArray, List.set_cons_zero, List.set_cons_succ]
    refine wpAnyH_take (i := 10) (oi := ⟨some 59, _, _, _, _, _⟩) (v := ?_) rfl (by kernel_rfl) (by kernel_rfl) (by kernel_rfl) (fun _ _ _ h => h) (Or.inl ⟨by rfl, ?_⟩) hHeld ?_
    rotate_left
    · intro w hSw; (try dsimp only at hSw); go_simp; all_goals (with_reducible rfl)
    try simp only [Act.put, List.setIfInBounds_toArray, List.set_cons_zero, List.set_cons_succ]
    refine wpAnyH_take (i := 11) (oi := ⟨some 60, _, _, _, _, _⟩) (v := ?_) rfl (by kernel_rfl) (by kernel_rfl) (by kernel_rfl) (fun _ _ _ h => h) (Or.inl ⟨by rfl, ?_⟩) hHeld ?_
    rotate_left
    · intro w hSw; (try dsimp only at hSw); go_simp; all_goals (with_reducible rfl)
    try simp only [Act.put, List.setIfInBounds_toArray, List.set_cons_zero, List.set_cons_succ]
    refine wpAnyH_take (i := 12) (oi := ⟨some 61, _, _, _, _, _⟩) (v := ?_) rfl (by kernel_rfl) (by kernel_rfl) (by kernel_rfl) (fun _ _ _ h => h) (Or.inl ⟨by rfl, ?_⟩) hHeld ?_
    rotate_left
    · intro w hSw; (try dsimp only at hSw); go_simp; all_goals (with_reducible rfl)
    try simp only [Act.put, List.setIfInBounds_toArray, List.set_cons_zero, List.set_cons_succ]
    refine wpAnyH_take (i := 13) (oi := ⟨some 62, _, _, _, _, _⟩) (v := ?_) rfl (by kernel_rfl) (by kernel_rfl) (by kernel_rfl) (fun _ _ _ h => h) (Or.inl ⟨by rfl, ?_⟩) hHeld ?_
    rotate_left
    · intro w hSw; (try dsimp only at hSw); go_simp; all_goals (with_reducible rfl)
    try simp only [Act.put, List.setIfInBounds_toArray, List.set_cons_zero, List.set_cons_succ]
    refine wpAnyH_ready (rs := [7, 14]) (by kernel_rfl) (by simp) ?_
    refine AllReadyH.cons (o := ⟨some 56, _, _, _, _, _⟩) rfl (fun K hK => ?_) (AllReadyH.cons (o := ⟨some 5, _, _, _, _, _⟩) rfl (fun K hK => ?_) AllReadyH.nil)
    · go_simp
      refine (jcopied_walk (n := n) ((HP.out.below HB2.out).below hHeld) ((HC.out.below HB2.out).below hHeld) HPL.out HCL.out).mono ?_
      rintro e w9 ⟨pa, pc9, ca, cc9, rfl, ho1, ho2, hB9⟩
      have hS9 : Below w2.heap.size w2 w9 := below_trans hHeld hB9
      have ho1 := own_base ho1 hHeld.size
      have ho2 := own_base ho2 hHeld.size
      clear hB9 hHeld
      go_simp
      refine hK.out _ _ ?_ (fun hHeld => ?_)
      · exact hS9
      clear hK K
      try simp only [Act.put, List.setIfInBounds_toArray, List.set_cons_zero, List.set_cons_succ]
      refine wpAnyH_take (i := 8) (oi := ⟨some 57, _, _, _, _, _⟩) (v := ?_) rfl (by kernel_rfl) (by kernel_rfl) (by kernel_rfl) (fun _ _ _ h => h) (Or.inl ⟨by rfl, ?_⟩) hHeld ?_
      rotate_left
      · intro w hSw; (try dsimp only at hSw); go_simp; all_goals (with_reducible rfl)
      try simp only [Act.put, List.setIfInBounds_toArray, List.set_cons_zero, List.set_cons_succ]
      refine wpAnyH_ready (rs := [14]) (by kernel_rfl) (by simp) ?_
      refine AllReadyH.cons (o := ⟨some 5, _, _, _, _, _⟩) rfl (fun K hK => ?_) AllReadyH.nil
      go_simp
      refine hK.out _ _ ?_ (fun hHeld => ?_)
      · exact (by first | exact hHeld.alloc hHeld.size _ | exact (below_alloc _ _).drew)
      clear hK K
      try simp only [Act.put, List.setIfInBounds_toArray, List.set_cons_zero, List.set_cons_succ]
      refine wpAnyH_ready (rs := [15]) (by kernel_rfl) (by simp) ?_
      refine AllReadyH.cons (o := ⟨none, _, _, _, _, _⟩) rfl (fun K hK => ?_) AllReadyH.nil
      go_simp
      refine hK.out _ _ ?_ (fun hHeld => ?_)
      · exact hS9.alloc hS9.size _
      clear hK K
      try simp only [Act.put, List.setIfInBounds_toArray, List.set_cons_zero, List.set_cons_succ]
      refine wpAnyH_take (i := 16) (oi := ⟨some 6, _, _, _, _, _⟩) (v := ?_) rfl (by kernel_rfl) (by kernel_rfl) (by kernel_rfl) (fun _ _ _ h => h) (Or.inl ⟨by rfl, ?_⟩) hHeld ?_
      rotate_left
      · intro w hSw; (try dsimp only at hSw); go_simp; all_goals (with_reducible rfl)
      try simp only [Act.put, List.setIfInBounds_toArray, List.set_cons_zero, List.set_cons_succ]
      refine wpAnyH_done (by kernel_rfl) ?_ _
      refine NoPanic.normal ?_
      go_wp2_with fail
      go_meet
      exact ⟨rfl, ne_new hS9 ho1 ho2⟩
    · go_simp
      refine hK.out _ _ ?_ (fun hHeld => ?_)
      · exact (by first | exact hHeld.alloc hHeld.size _ | exact (below_alloc _ _).drew)
      clear hK K
      try simp only [Act.put, List.setIfInBounds_toArray, List.set_cons_zero, List.set_cons_succ]
      refine wpAnyH_ready (rs := [7]) (by kernel_rfl) (by simp) ?_
      refine AllReadyH.cons (o := ⟨some 56, _, _, _, _, _⟩) rfl (fun K hK => ?_) AllReadyH.nil
      go_simp
      refine (jcopied_walk (n := n) ((HP.out.below HB2.out).below hHeld) ((HC.out.below HB2.out).below hHeld) HPL.out HCL.out).mono ?_
      rintro e w9 ⟨pa, pc9, ca, cc9, rfl, ho1, ho2, hB9⟩
      have hS9 : Below w2.heap.size w2 w9 := below_trans hHeld hB9
      have hz9 := zero_ent hB9
      have hzb := hz9
      have z0 : w9.cell? ⟨w2.heap.size, 0, none⟩ = some (.int .i64 0) := by rw [blk_cell hz9]; rfl
      have z1 : w9.cell? ⟨w2.heap.size, 1, none⟩ = some (.int .i64 0) := by rw [blk_cell hz9]; rfl
      have z2 : w9.cell? ⟨w2.heap.size, 2, none⟩ = some (.slice none 0 0) := by rw [blk_cell hz9]; rfl
      have z3 : w9.cell? ⟨w2.heap.size, 3, none⟩ = some (.slice none 0 0) := by rw [blk_cell hz9]; rfl
      have z4 : w9.cell? ⟨w2.heap.size, 4, none⟩ = some (.int .i64 0) := by rw [blk_cell hz9]; rfl
      have y0 : w9.frozen? ⟨w2.heap.size, 0, none⟩ = false := blk_soft hz9 0
      have y1 : w9.frozen? ⟨w2.heap.size, 1, none⟩ = false := blk_soft hz9 1
      have y2 : w9.frozen? ⟨w2.heap.size, 2, none⟩ = false := blk_soft hz9 2
      have y3 : w9.frozen? ⟨w2.heap.size, 3, none⟩ = false := blk_soft hz9 3
      have y4 : w9.frozen? ⟨w2.heap.size, 4, none⟩ = false := blk_soft hz9 4
      have ho1 := zero_own ho1
      have ho2 := zero_own ho2
      clear hB9 hHeld hz9
      go_simp
      refine hK.out _ _ ?_ (fun hHeld => ?_)
      · exact hS9
      clear hK K
      try simp only [Act.put, List.setIfInBounds_toArray, List.set_cons_zero, List.set_cons_succ]
      refine wpAnyH_take (i := 8) (oi := ⟨some 57, _, _, _, _, _⟩) (v := ?_) rfl (by kernel_rfl) (by kernel_rfl) (by kernel_rfl) (fun _ _ _ h => h) (Or.inl ⟨by rfl, ?_⟩) hHeld ?_
      rotate_left
      · intro w hSw; (try dsimp only at hSw); go_simp; all_goals (with_reducible rfl)
      try simp only [Act.put, List.setIfInBounds_toArray, List.set_cons_zero, List.set_cons_succ]
      refine wpAnyH_ready (rs := [15]) (by kernel_rfl) (by simp) ?_
      refine AllReadyH.cons (o := ⟨none, _, _, _, _, _⟩) rfl (fun K hK => ?_) AllReadyH.nil
      go_simp
      refine hK.out _ _ ?_ (fun hHeld => ?_)
      · exact hS9.grown (grown_set5 _ _ _ _ _ _ _) hS9.size (fun x hx => by cases hx; omega)
      clear hK K
      try simp only [Act.put, List.setIfInBounds_toArray, List.set_cons_zero, List.set_cons_succ]
      refine wpAnyH_take (i := 16) (oi := ⟨some 6, _, _, _, _, _⟩) (v := ?_) rfl (by kernel_rfl) (by kernel_rfl) (by kernel_rfl) (fun _ _ _ h => h) (Or.inl ⟨by rfl, ?_⟩) hHeld ?_
      rotate_left
      · intro w hSw; (try dsimp only at hSw); go_simp; all_goals (with_reducible rfl)
      try simp only [Act.put, List.setIfInBounds_toArray, List.set_cons_zero, List.set_cons_succ]
      refine wpAnyH_done (by kernel_rfl) ?_ _
      refine NoPanic.normal ?_
      go_wp2_with fail
      go_meet
      exact ⟨rfl, ne_old hS9 hzb ho1 ho2⟩
  case rest =>
    obtain ⟨rfl, E, pa, ca, pc9, cc9, rfl, hE, ho1, ho2, hEb, hB3⟩ := hcut
    obtain ⟨w3, hw3⟩ : ∃ w3, w3 = wc := ⟨_, rfl⟩
    subst hw3
    have HE : Hid (w3.heap[E]? = some (.cells #[.int .i64 ((J.g : Int) + 1), .int .i64 n.b, .slice pa n.p.length pc9, .slice ca n.c.length cc9, .int .i64 n.a] 107 (0, 0))) := hE
    have HO1 : Hid (OwN w2.heap.size w3 (.slice pa n.p.length pc9) n.p) := ho1
    have HO2 : Hid (OwN w2.heap.size w3 (.slice ca n.c.length cc9) n.c) := ho2
    have HEB : Hid (w2.heap.size ≤ E) := hEb
    have HB3 : Hid (Below w0.heap.size w0 w3) := below_trans HB2.out hB3
    have HB23 : Hid (Below w2.heap.size w2 w3) := hB3
    have HJ3 : Hid (JM K w3 jb (.slice po J.n.p.length pc) (.slice co J.n.c.length cc) (.pointer (some ⟨sb, 0, none⟩)) q J) := HJ0.out.keep (fun x hx => HB3.out.block x (HJ0.out.kl x hx)) HB3.out.size
    have HD3 : Hid (Dsk 86 D w3 (.pointer (some ⟨sb, 0, none⟩)) S) := HD0.out.below HB3.out
    have HJD : Hid (¬ D jb) := HAP.out jb HJ0.out.kj
    have HKD : Hid (∀ wx, Ch D w3 wx → wx.cell? ⟨jb, 5, none⟩ = some (.pointer (some ⟨sb, 0, none⟩))) := fun wx hc => by
      rw [World.cell?_of_block (w := w3) (a := ⟨jb, 5, none⟩) (hc.block jb (HJ3.out.kl _ HJ3.out.kj) HJD.out), HJ3.out.cell]; rfl
    clear hE ho1 ho2 hEb hB3 n0 n1 n2 n3 m0 m1 m2 m3 m4 m5 m6 k0
    go_wp2_with fail
    refine wp_region_noPanic ?_
    refine wp_region_held_drew (S := fun wx => wx.cell? ⟨jb, 5, none⟩ = some (.pointer (some ⟨sb, 0, none⟩))) (by kernel_rfl) ?_ (fun hHeld => ?_)
    · exact (HKD.out _ (Ch.of_below (below_drewN w3 1)))
    refine wpAnyH_take (i := 0) (oi := ⟨some 63, _, _, _, _, _⟩) (v := ?_) rfl (by kernel_rfl) (by kernel_rfl) (by kernel_rfl) (fun _ _ _ h => h) (Or.inl ⟨by rfl, ?_⟩) hHeld ?_
    rotate_left
    · intro w hSw; (try dsimp only at hSw); go_simp; all_goals (with_reducible rfl)
    try simp only [Act.put, List.setIfInBounds_toArray, List.set_cons_zero, List.set_cons_succ]
    refine wpAnyH_take (i := 1) (oi := ⟨some 64, _, _, _, _, _⟩) (v := ?_) rfl (by kernel_rfl) (by kernel_rfl) (by kernel_rfl) (fun _ _ _ h => h) (Or.inl ⟨by rfl, ?_⟩) hHeld ?_
    rotate_left
    · intro w hSw; (try dsimp only at hSw); go_simp; all_goals (with_reducible rfl)
    try simp only [Act.put, List.setIfInBounds_toArray, List.set_cons_zero, List.set_cons_succ]
    refine wpAnyH_take (i := 2) (oi := ⟨some 65, _, _, _, _, _⟩) (v := ?_) rfl (by kernel_rfl) (by kernel_rfl) (by kernel_rfl) (fun _ _ _ h => h) (Or.inl ⟨by rfl, ?_⟩) hHeld ?_
    rotate_left
    · intro w hSw; (try dsimp only at hSw); go_simp; all_goals (with_reducible rfl)
    try simp only [Act.put, List.setIfInBounds_toArray, List.set_cons_zero, List.set_cons_succ]
    refine wpAnyH_take (i := 3) (oi := ⟨some 66, _, _, _, _, _⟩) (v := ?_) rfl (by kernel_rfl) (by kernel_rfl) (by kernel_rfl) (fun _ _ _ h => h) (Or.inl ⟨by rfl, ?_⟩) hHeld ?_
    rotate_left
    · intro w hSw; (try dsimp only at hSw); go_simp; all_goals (with_reducible rfl)
    try simp only [Act.put, List.setIfInBounds_toArray, List.set_cons_zero, List.set_cons_succ]
    refine wpAnyH_take (i := 4) (oi := ⟨some 67, _, _, _, _, _⟩) (v := ?_) rfl (by kernel_rfl) (by kernel_rfl) (by kernel_rfl) (fun _ _ _ h => h) (Or.inl ⟨by rfl, ?_⟩) hHeld ?_
    rotate_left
    · intro w hSw; (try dsimp only at hSw); go_simp; all_goals (with_reducible rfl)
    try simp only [Act.put, List.setIfInBounds_toArray, List.set_cons_zero, List.set_cons_succ]
    refine wpAnyH_ready (rs := [5]) (by kernel_rfl) (by simp) ?_
    refine AllReadyH.cons (o := ⟨some 68, _, _, _, _, _⟩) rfl (fun K hK => ?_) AllReadyH.nil
    go_simp
    refine (bytes_walk (R := E) (g := J.g + 1) (n := n) (q := q) (by have := HE.out; push_cast; exact this) ((own_nv HO1.out (rgt_p64 HRG.out)).below (below_drewN w3 1)) ((own_nv HO2.out (rgt_c64 HRG.out)).below (below_drewN w3 1)) (by have := HG40.out; omega) HRG.out HQ4.out).mono ?_
    rintro e w4 ⟨bv, rfl, hbo, hB4⟩
    have HBV : Hid (Bv w4 bv (savB J n)) := own_bv hbo (bytN_lt (by have := HG40.out; omega) HRG.out HQ4.out)
    have HB34 : Hid (Below w3.heap.size w3 w4) := below_trans (below_drewN w3 1) hB4
    clear hbo hB4
    refine hK.out _ _ ?_ (fun hHeld => ?_)
    · exact (HKD.out _ (Ch.of_below HB34.out))
    clear hK K
    try simp only [Act.put, List.setIfInBounds_toArray, List.set_cons_zero, List.set_cons_succ]
    refine wpAnyH_ready (rs := [6]) (by kernel_rfl) (by simp) ?_
    refine AllReadyH.cons (o := ⟨some 69, _, _, _, _, _⟩) rfl (fun K hK => ?_) AllReadyH.nil
    go_simp
    refine (write_walk (HD3.out.below HB34.out) (1 - (J.h : Int)) HBV.out (by have := HWR.out; omega)).mono ?_
    rintro e w5 ⟨rfl, ⟨D1, hD1, hDD⟩, hC5⟩
    have HD1 : Hid (Dsk 86 D1 w5 (.pointer (some ⟨sb, 0, none⟩)) (writeS S ((1 : Int) - J.h) (savB J n))) := hD1
    have HDD : Hid (∀ x, D1 x → D x ∨ w4.heap.size ≤ x) := hDD
    have HC35 : Hid (Ch D w3 w5) := (Ch.of_below (D := D) HB34.out).trans hC5 (fun x hx => .inl hx)
    clear hD1 hDD hC5
    refine hK.out _ _ ?_ (fun hHeld => ?_)
    · exact (HKD.out _ HC35.out)
    clear hK K
    try simp only [Act.put, List.setIfInBounds_toArray, List.set_cons_zero, List.set_cons_succ]
    refine wpAnyH_take (i := 7) (oi := ⟨some 7, _, _, _, _, _⟩) (v := ?_) rfl (by kernel_rfl) (by kernel_rfl) (by kernel_rfl) (fun _ _ _ h => h) (Or.inl ⟨by rfl, ?_⟩) hHeld ?_
    rotate_left
    · intro w hSw; (try dsimp only at hSw); go_simp; all_goals (with_reducible rfl)
    try simp only [Act.put, List.setIfInBounds_toArray, List.set_cons_zero, List.set_cons_succ]
    refine wpAnyH_done (by kernel_rfl) ?_ _
    refine NoPanic.normal ?_
    have HCW : Hid (Ch (fun x => D x ∨ K x) w w5) := (HCH0.out.trans (Ch.of_below (D := fun x => D x ∨ K x) HB3.out) (fun x hx => .inl hx)).trans HC35.out (fun x hx => .inl (.inl hx))
    have HNK : Hid (∀ x, x < w3.heap.size → ¬ D x → ¬ D1 x ∧ w5.heap[x]? = w3.heap[x]?) := fun x hx hn => ⟨fun h => by
      rcases HDD.out x h with h | h
      · exact hn h
      · have := HB34.out.size; omega, HC35.out.block x hx hn⟩
    have HDW : Hid (∀ x, D1 x → D x ∨ w.heap.size ≤ x) := fun x hx => (HDD.out x hx).imp id fun h => by have h1 := HB34.out.size; have h2 := HB3.out.size; have h3 := HB0.out.size; omega
    have HAP1 : Hid (∀ x, K x → ¬ D1 x) := fun x hx => (HNK.out x (HJ3.out.kl x hx) (HAP.out x hx)).1
    have HJ5 : Hid (JM K w5 jb (.slice po J.n.p.length pc) (.slice co J.n.c.length cc) (.pointer (some ⟨sb, 0, none⟩)) q J) := HJ3.out.keep (fun x hx => (HNK.out x (HJ3.out.kl x hx) (HAP.out x hx)).2) HC35.out.size
    have HWD : Hid (writeI S (1 - (J.h : Int)) (savB J n) = savW J S n) := rfl
    rw [HWD.out]
    by_cases hi : savW J S n = 0
    rotate_left
    · have HA : Hid (SvGot D K (.pointer (some ⟨jb, 0, none⟩)) (.pointer (some ⟨sb, 0, none⟩)) q J S n w (.returned (.int .i64 (savW J S n))) (w5.setCell ⟨jb, 7, none⟩ (.bool (savW J S n == 80)))) := sv_over HJ5.out HD1.out HAP1.out HDW.out HCW.out HIF4.out (by rw [HJF4.out, if_neg hi]) HSF4.out rfl
      have c7 : w5.cell? ⟨jb, 7, none⟩ = some (.bool J.o) := by rw [HJ5.out.cell]; rfl
      have f7 : w5.frozen? ⟨jb, 7, none⟩ = false := HJ5.out.soft 7
      obtain ⟨c, hc⟩ : ∃ c, c = savW J S n := ⟨_, rfl⟩
      rw [← hc] at HA hi ⊢
      have hne : (c != 0) = true := by simp [hi]
      clear hc hi
      go_wp2_with fail
      go_ret
      exact HA.out
    have HEL : Hid (E < w3.heap.size) := blk_lt HE.out
    have HED : Hid (∀ x, w.heap.size ≤ x → ¬ D x) := fun x hx h => by have := HJS.out.d.lt h; omega
    have HW2 : Hid (w.heap.size ≤ w2.heap.size) := Nat.le_trans HB0.out.size HB2.out.size
    have hE5 : w5.heap[E]? = some (.cells #[.int .i64 ((J.g : Int) + 1), .int .i64 n.b, .slice pa n.p.length pc9, .slice ca n.c.length cc9, .int .i64 n.a] 107 (0, 0)) := by rw [(HNK.out E HEL.out (HED.out E (Nat.le_trans HW2.out HEB.out))).2]; exact HE.out
    have HO15 : Hid (OwN w.heap.size w5 (.slice pa n.p.length pc9) n.p) := own_base (row_keep HO1.out fun x hx => (HNK.out x (HO1.out.lt x hx).2 (HED.out x (Nat.le_trans HW2.out (HO1.out.lt x hx).1))).2) HW2.out
    have HO25 : Hid (OwN w.heap.size w5 (.slice ca n.c.length cc9) n.c) := own_base (row_keep HO2.out fun x hx => (HNK.out x (HO2.out.lt x hx).2 (HED.out x (Nat.le_trans HW2.out (HO2.out.lt x hx).1))).2) HW2.out
    have HA : Hid (SvGot D K (.pointer (some ⟨jb, 0, none⟩)) (.pointer (some ⟨sb, 0, none⟩)) q J S n w (.returned (.int .i64 0)) _) := sv_yes HJ5.out HD1.out HAP1.out HDW.out HCW.out (HIF4.out.trans hi) (by rw [HJF4.out, if_pos hi]) HSF4.out HOO.out rfl ⟨by show 1 ≤ J.g + 1; omega, by have := HG40.out; show J.g + 1 ≤ _; omega, HRG.out, HQ4.out, by show 1 - J.h ≤ 1; omega⟩ HO15.out HO25.out (fun x hx => (HNK.out x (HO1.out.lt x hx).2 (HED.out x (Nat.le_trans HW2.out (HO1.out.lt x hx).1))).1) (fun x hx => (HNK.out x (HO2.out.lt x hx).2 (HED.out x (Nat.le_trans HW2.out (HO2.out.lt x hx).1))).1) HJL.out
    rw [hi]
    have hne : ¬ jb = E := by have := HJL.out; have := HEB.out; have := HW2.out; omega
    clear hi
    have e0 : w5.cell? ⟨E, 0, none⟩ = some (.int .i64 ((J.g : Int) + 1)) := by rw [blk_cell hE5]; rfl
    have e1 : w5.cell? ⟨E, 1, none⟩ = some (.int .i64 n.b) := by rw [blk_cell hE5]; rfl
    have e2 : w5.cell? ⟨E, 2, none⟩ = some (.slice pa n.p.length pc9) := by rw [blk_cell hE5]; rfl
    have e3 : w5.cell? ⟨E, 3, none⟩ = some (.slice ca n.c.length cc9) := by rw [blk_cell hE5]; rfl
    have e4 : w5.cell? ⟨E, 4, none⟩ = some (.int .i64 n.a) := by rw [blk_cell hE5]; rfl
    have c0 : w5.cell? ⟨jb, 0, none⟩ = some (.int .i64 J.g) := by rw [HJ5.out.cell]; rfl
    have f0 : w5.frozen? ⟨jb, 0, none⟩ = false := HJ5.out.soft 0
    have c1 : w5.cell? ⟨jb, 1, none⟩ = some (.int .i64 J.n.b) := by rw [HJ5.out.cell]; rfl
    have f1 : w5.frozen? ⟨jb, 1, none⟩ = false := HJ5.out.soft 1
    have c2 : w5.cell? ⟨jb, 2, none⟩ = some (.slice po J.n.p.length pc) := by rw [HJ5.out.cell]; rfl
    have f2 : w5.frozen? ⟨jb, 2, none⟩ = false := HJ5.out.soft 2
    have c3 : w5.cell? ⟨jb, 3, none⟩ = some (.slice co J.n.c.length cc) := by rw [HJ5.out.cell]; rfl
    have f3 : w5.frozen? ⟨jb, 3, none⟩ = false := HJ5.out.soft 3
    have c4 : w5.cell? ⟨jb, 4, none⟩ = some (.int .i64 J.n.a) := by rw [HJ5.out.cell]; rfl
    have f4 : w5.frozen? ⟨jb, 4, none⟩ = false := HJ5.out.soft 4
    have c6 : w5.cell? ⟨jb, 6, none⟩ = some (.int .i64 J.h) := by rw [HJ5.out.cell]; rfl
    have f6 : w5.frozen? ⟨jb, 6, none⟩ = false := HJ5.out.soft 6
    clear hE5
    go_wp2_with fail
    go_ret
    exact HA.out
end

end Go.Proofs.Ytmpdjobllpigpaa
