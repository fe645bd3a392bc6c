/- Get; what is wrong with a list of writes. -/
import Derived.Test.YtcmklbibehnloaaGreatB18
set_option maxRecDepth 100000
set_option maxHeartbeats 16000000
namespace Go.Proofs.YtcmklbibehnloaaGreat
open Go.RowKit
section
def Tk (w : World) (b : List Nat) (B : Nat) (e : Ending) (w' : World) : Prop :=
 (rootOf b B = none → e = .returned (.tuple #[.agg #[.int .u64 0, .slice none 0 0], .bool false])) ∧
 (∀ g t, rootOf b B = some (g, t) → ∃ ao cap, e = .returned (.tuple #[.agg #[.int .u64 g, .slice ao t.length cap], .bool true]) ∧ Tw w' (.slice ao t.length cap) t ∧ ∀ x, (Value.slice ao t.length cap).ownBlock = some x → w.heap.size ≤ x) ∧
 Below w.heap.size w w'
theorem tk_no {w w' : World} {b : List Nat} {B : Nat} (h : rootOf b B = none) (hB : Below w.heap.size w w') : Tk w b B (.returned (.tuple #[.agg #[.int .u64 0, .slice none 0 0], .bool false])) w' :=
 ⟨fun _ => rfl, fun g t e => (by rw [h] at e; cases e), hB⟩
theorem tk_yes {w w' : World} {b t : List Nat} {B g : Nat} {ao : Option Addr} {cap : Nat} (h : rootOf b B = some (g, t)) (hT : Tw w' (.slice ao t.length cap) t) (hn : ∀ x, (Value.slice ao t.length cap).ownBlock = some x → w.heap.size ≤ x) (hB : Below w.heap.size w w') :
  Tk w b B (.returned (.tuple #[.agg #[.int .u64 g, .slice ao t.length cap], .bool true])) w' :=
 ⟨fun e => (by rw [h] at e; cases e), fun g' t' e => (by rw [h] at e; simp only [Option.some.injEq, Prod.mk.injEq] at e; obtain ⟨rfl, rfl⟩ := e; exact ⟨ao, cap, rfl, hT, hn⟩), hB⟩
structure Rc (w : World) (wx : World) : Prop where
 below : Below w.heap.size w wx
 z : ∀ j, j < 2 → (∃ u, wx.cell? ⟨w.heap.size, j, none⟩ = some u) ∧ wx.frozen? ⟨w.heap.size, j, none⟩ = false
 lt : w.heap.size < wx.heap.size
theorem Rc.go {w wx w' : World} (h : Rc w wx) (hb : Below wx.heap.size wx w') : Rc w w' := by
 refine ⟨below_trans h.below hb, fun j hj => ?_, Nat.lt_of_lt_of_le h.lt hb.size⟩;obtain ⟨⟨u, h1⟩, h2⟩ := h.z j hj;exact ⟨⟨u, by rw [hb.cell (p := ⟨w.heap.size, j, none⟩) (cell_lt h1)]; exact h1⟩, by rw [hb.frozen (p := ⟨w.heap.size, j, none⟩) (cell_lt h1)]; exact h2⟩
theorem Rc.two {w wx : World} (h : Rc w wx) (a b : Value) : Below w.heap.size w ((wx.setCell ⟨w.heap.size, 0, none⟩ a).setCell ⟨w.heap.size, 1, none⟩ b) :=
 (h.below.setCell (p := ⟨w.heap.size, 0, none⟩) (by simp) _).setCell (p := ⟨w.heap.size, 1, none⟩) (by simp) _
theorem Tw.ch {w w' : World} {ao : Option Addr} {n cap : Nat} {t : List Nat} (h : Tw w (.slice ao n cap) t) (hk : ∀ x, (Value.slice ao n cap).ownBlock = some x → w'.heap[x]? = w.heap[x]?) : Tw w' (.slice ao n cap) t := by
 obtain ⟨ao', cap', e, h1, h2, h3, h4⟩ := h;simp only [Value.slice.injEq] at e;obtain ⟨e1, e2, e3⟩ := e;subst e1 e3;refine ⟨ao, cap, by rw [e2], h1, h2, h3, fun i hi => ?_⟩;obtain ⟨b, off, rfl, c⟩ := h4 i hi;exact ⟨b, off, rfl, by rw [World.cell?_of_block (w := w) (a := ⟨b, off + i, none⟩) (hk b rfl)]; exact c⟩
theorem troot_walk {w : World} {v : Value} {b : List Nat} (h : Bv w v b) (hl : b.length ≤ 1024) {B : Nat} (hB : B ≤ 64) :
  Calls Tryz.prog 95 #[v, .int .i64 B] w fun e w' => Tk w b B e w' := by
 obtain ⟨w0, hw0⟩ : ∃ w0, w0 = w.alloc (Obj.cells #[.int .u64 0, .slice none 0 0] 131) := ⟨_, rfl⟩;have HW0 : Hid (w0 = w.alloc (Obj.cells #[.int .u64 0, .slice none 0 0] 131)) := hw0
 have HR0 : Hid (Rc w w0) := by
  refine ⟨by rw [hw0]; exact below_alloc _ _, fun j hj => ?_, by rw [hw0]; simp⟩;have hj2 : j = 0 ∨ j = 1 := by omega
  rcases hj2 with rfl | rfl <;> (rw [hw0]; constructor <;> simp [go_sem])
 have HV : Hid (Bv w0 v b) := h.below HR0.out.below;have HL : Hid (b.length ≤ 1024) := hl;have HBB : Hid (B ≤ 64) := hB;obtain ⟨bo, bc, rfl, hb1, hb2⟩ := bv_formD h;have hbl : (b.length : Int) ≤ 1024 := by omega
 have hbc : (b.length : Int) ≤ (bc : Int) := by omega
 have HBC : Hid (b.length ≤ bc) := hb1;obtain ⟨⟨u0, z0⟩, f0⟩ := HR0.out.z 0 (by omega);obtain ⟨⟨u1, z1⟩, f1⟩ := HR0.out.z 1 (by omega);rcases Wm.take_form b h.2 with ⟨er, her, h34⟩ | ⟨g, p, htx, hx, hn1, hn2, henc⟩
 ·have HER : Hid (Wm.take b = (0, 0, er)) := her;have HNO : Hid (rootOf b B = none) := root_take her h34;clear h hw0 hl hB hb1 hb2 her;rcases h34 with rfl | rfl
  all_goals
   go_in;go_wp2_with fail;rw [← HW0.out];refine (take_walk HV.out).mono ?_;rintro e w1 ⟨he, h9⟩;have h9 := h9.symm;subst h9;rw [t3_lit HER.out] at he;subst he;go_wp2_with fail
   (try simp only [Exit.inBlock, Exit.then])
   refine bodyPost_ret (v := .tuple #[.agg #[.int .u64 0, .slice none 0 0], .bool false]) (by rw [results_cell_tmp rfl]; go_simp) rfl ?_;exact tk_no HNO.out (HR0.out.two _ _)
 ·have HT : Hid (Wm.take b = (g, p, 0)) := htx;have HP : Hid (p ≤ b.length) := hn2;have hpi : (p : Int) ≤ (b.length : Int) := by omega
  have HBY : Hid (∀ c ∈ b, c < 256) := h.2;clear h hw0 hl hB hb1 hb2 htx henc hx hn1 hn2;by_cases hg1 : (g : Int) < 1
  ·have HNO : Hid (rootOf b B = none) := root_gen HT.out (.inl (by omega));go_in;go_wp2_with fail;rw [← HW0.out];refine (take_walk HV.out).mono ?_;rintro e w1 ⟨he, h9⟩;have h9 := h9.symm;subst h9;rw [t3_lit HT.out] at he;subst he;go_wp2_with fail
   (try simp only [Exit.inBlock, Exit.then])
   refine bodyPost_ret (v := .tuple #[.agg #[.int .u64 0, .slice none 0 0], .bool false]) (by rw [results_cell_tmp rfl]; go_simp) rfl ?_;exact tk_no HNO.out (HR0.out.two _ _)
  ·have hg1i : 1 ≤ (g : Int) := by omega
   have hgd1 : decide ((g : Int) < 1) = false := decide_eq_false hg1;clear hg1;by_cases hg2 : (1099511627776 : Int) < (g : Int)
   ·have HNO : Hid (rootOf b B = none) := root_gen HT.out (.inr (by omega));go_in;go_wp2_with fail;rw [← HW0.out];refine (take_walk HV.out).mono ?_;rintro e w1 ⟨he, h9⟩;have h9 := h9.symm;subst h9;rw [t3_lit HT.out] at he;subst he;go_wp2_with fail
    (try simp only [Exit.inBlock, Exit.then])
    refine bodyPost_ret (v := .tuple #[.agg #[.int .u64 0, .slice none 0 0], .bool false]) (by rw [results_cell_tmp rfl]; go_simp) rfl ?_;exact tk_no HNO.out (HR0.out.two _ _)
   ·have HG : Hid (1 ≤ g ∧ g ≤ 1099511627776) := ⟨by omega, by omega⟩;have hgd2 : decide ((1099511627776 : Int) < (g : Int)) = false := decide_eq_false hg2;clear hg2;obtain ⟨t, n, er, hnn⟩ : ∃ t n er, Wm.takeNums (b.drop p) 8 = (t, n, er) := ⟨_, _, _, rfl⟩;have HN : Hid (Wm.takeNums (b.drop p) 8 = (t, n, er)) := hnn;have HDL : Hid ((b.drop p).length * 8 ≤ 140737488355328) := by show _ ≤ _; rw [List.length_drop]; have := HL.out; omega
    clear hnn z0 z1 f0 f1;by_cases hcp : bc = p
    ·have HLP : Hid (b.length ≤ p) := by show _ ≤ _; have := HBC.out; omega
     have HCP : Hid (bc = p) := hcp
     have h3 : er = 3 := by
      have hh := HN.out;rw [List.drop_eq_nil_of_le HLP.out] at hh;have : Wm.takeNums [] 8 = ([], 0, 3) := rfl;rw [this] at hh;simp only [Prod.mk.injEq] at hh;exact hh.2.2.symm
     subst h3;have HNO : Hid (rootOf b B = none) := root_nums HT.out HN.out (by omega);clear hcp;go_in;go_wp2_with fail;rw [← HW0.out];refine (take_walk HV.out).mono ?_;rintro e w1 ⟨he, h9⟩;have h9 := h9.symm;subst h9;rw [t3_lit HT.out] at he;subst he;have hcp := HCP.out;have hbp : b.length = p := by have := HLP.out; omega
     clear HCP;subst hcp;go_wp2_with fail;refine (takenums_walk 8 (Bv.cutEnd (ao := bo) HLP.out) HDL.out (by omega)).mono ?_;rw [HN.out];rintro e w2 ⟨ao, cap, rfl, hS, hB2, hnw⟩;simp only at hS hnw ⊢;have HR2 : Hid (Rc w w2) := HR0.out.go hB2;obtain ⟨⟨u0, z0⟩, f0⟩ := HR2.out.z 0 (by omega);obtain ⟨⟨u1, z1⟩, f1⟩ := HR2.out.z 1 (by omega);clear hS hnw hB2;go_wp2_with fail
     (try simp only [Exit.inBlock, Exit.then])
     refine bodyPost_ret (v := .tuple #[.agg #[.int .u64 0, .slice none 0 0], .bool false]) (by rw [results_cell_tmp rfl]; go_simp) rfl ?_;exact tk_no HNO.out (HR2.out.two _ _)
    ·by_cases he0 : er = 0
     ·subst he0;have HNF : Hid (n ≤ (b.drop p).length ∧ t.length ≤ 8) := nums_fit (fun c hc => HBY.out c (List.mem_of_mem_drop hc)) HN.out;have hpn : (p : Int) + (n : Int) ≤ (b.length : Int) := by have h1 := HNF.out.1; rw [List.length_drop] at h1; omega
      by_cases hln : p + n = b.length
      ·have hlb : ((p : Int) + (n : Int) != (b.length : Int)) = false := by simp; omega
       have HLN : Hid (p + n = b.length) := hln;clear hln
       cases htb : tabBP t B
       ·have HTB : Hid (tabBP t B = false) := htb;have HNO : Hid (rootOf b B = none) := root_tab HT.out HN.out htb;clear htb;go_in;go_wp2_with fail;rw [← HW0.out];refine (take_walk HV.out).mono ?_;rintro e w1 ⟨he, h9⟩;have h9 := h9.symm;subst h9;rw [t3_lit HT.out] at he;subst he;go_wp2_with fail;refine (takenums_walk 8 (HV.out.cutFrom p HP.out hcp) HDL.out (by omega)).mono ?_;rw [HN.out];rintro e w2 ⟨ao, cap, rfl, hS, hB2, hnw⟩;simp only [ib_len] at hS hnw ⊢;have HS : Hid (Tw w2 (.slice ao t.length cap) t) := hS;have HR2 : Hid (Rc w w2) := HR0.out.go hB2;obtain ⟨⟨u0, z0⟩, f0⟩ := HR2.out.z 0 (by omega);obtain ⟨⟨u1, z1⟩, f1⟩ := HR2.out.z 1 (by omega);clear hS hnw hB2;go_wp2_with fail;refine (are_walk HS.out (by have := HNF.out.2; omega) HBB.out).mono ?_;rw [HTB.out];rintro e w3 ⟨rfl, h9⟩;have h9 := h9.symm;subst h9;go_wp2_with fail
        (try simp only [Exit.inBlock, Exit.then])
        refine bodyPost_ret (v := .tuple #[.agg #[.int .u64 0, .slice none 0 0], .bool false]) (by rw [results_cell_tmp rfl]; go_simp) rfl ?_;exact tk_no HNO.out (HR2.out.two _ _)
       ·have HTB : Hid (tabBP t B = true) := htb;have HYE : Hid (rootOf b B = some (g, t)) := root_some HT.out HG.out.1 HG.out.2 HN.out HLN.out htb;clear htb;go_in;go_wp2_with fail;rw [← HW0.out];refine (take_walk HV.out).mono ?_;rintro e w1 ⟨he, h9⟩;have h9 := h9.symm;subst h9;rw [t3_lit HT.out] at he;subst he;go_wp2_with fail;refine (takenums_walk 8 (HV.out.cutFrom p HP.out hcp) HDL.out (by omega)).mono ?_;rw [HN.out];rintro e w2 ⟨ao, cap, rfl, hS, hB2, hnw⟩;simp only [ib_len] at hS hnw ⊢;have HS : Hid (Tw w2 (.slice ao t.length cap) t) := hS;have HNW : Hid (∀ x, (Value.slice ao t.length cap).ownBlock = some x → w.heap.size < x) := fun x hx => Nat.lt_of_lt_of_le HR0.out.lt (hnw x hx);have HR2 : Hid (Rc w w2) := HR0.out.go hB2;obtain ⟨⟨u0, z0⟩, f0⟩ := HR2.out.z 0 (by omega);obtain ⟨⟨u1, z1⟩, f1⟩ := HR2.out.z 1 (by omega);clear hS hnw hB2;go_wp2_with fail;refine (are_walk HS.out (by have := HNF.out.2; omega) HBB.out).mono ?_;rw [HTB.out];rintro e w3 ⟨rfl, h9⟩;have h9 := h9.symm;subst h9;go_wp2_with fail
        (try simp only [Exit.inBlock, Exit.then])
        refine bodyPost_ret (v := .tuple #[.agg #[.int .u64 g, .slice ao t.length cap], .bool true]) (by rw [results_cell_tmp rfl]; go_simp) rfl ?_;refine tk_yes HYE.out (HS.out.ch (fun x hx => ?_)) (fun x hx => Nat.le_of_lt (HNW.out x hx)) (HR2.out.two _ _);have hne : x ≠ w.heap.size := by have := HNW.out x hx; omega
        rw [set_other 1 _ hne, set_other 0 _ hne]
      ·have hlb : ((p : Int) + (n : Int) != (b.length : Int)) = true := by simp; omega
       have HNO : Hid (rootOf b B = none) := root_len HT.out HN.out hln;clear hln;go_in;go_wp2_with fail;rw [← HW0.out];refine (take_walk HV.out).mono ?_;rintro e w1 ⟨he, h9⟩;have h9 := h9.symm;subst h9;rw [t3_lit HT.out] at he;subst he;go_wp2_with fail;refine (takenums_walk 8 (HV.out.cutFrom p HP.out hcp) HDL.out (by omega)).mono ?_;rw [HN.out];rintro e w2 ⟨ao, cap, rfl, hS, hB2, hnw⟩;simp only [ib_len] at hS hnw ⊢;have HR2 : Hid (Rc w w2) := HR0.out.go hB2;obtain ⟨⟨u0, z0⟩, f0⟩ := HR2.out.z 0 (by omega);obtain ⟨⟨u1, z1⟩, f1⟩ := HR2.out.z 1 (by omega);clear hS hnw hB2;go_wp2_with fail
       (try simp only [Exit.inBlock, Exit.then])
       refine bodyPost_ret (v := .tuple #[.agg #[.int .u64 0, .slice none 0 0], .bool false]) (by rw [results_cell_tmp rfl]; go_simp) rfl ?_;exact tk_no HNO.out (HR2.out.two _ _)
     ·have heb : ((er : Int) != 0) = true := by simp; omega
      have hei : ¬ (er : Int) = 0 := by omega
      have HNO : Hid (rootOf b B = none) := root_nums HT.out HN.out he0;clear he0;go_in;go_wp2_with fail;rw [← HW0.out];refine (take_walk HV.out).mono ?_;rintro e w1 ⟨he, h9⟩;have h9 := h9.symm;subst h9;rw [t3_lit HT.out] at he;subst he;go_wp2_with fail;refine (takenums_walk 8 (HV.out.cutFrom p HP.out hcp) HDL.out (by omega)).mono ?_;rw [HN.out];rintro e w2 ⟨ao, cap, rfl, hS, hB2, hnw⟩;simp only [ib_len] at hS hnw ⊢;have HR2 : Hid (Rc w w2) := HR0.out.go hB2;obtain ⟨⟨u0, z0⟩, f0⟩ := HR2.out.z 0 (by omega);obtain ⟨⟨u1, z1⟩, f1⟩ := HR2.out.z 1 (by omega);clear hS hnw hB2;go_wp2_with fail
      (try simp only [Exit.inBlock, Exit.then])
      refine bodyPost_ret (v := .tuple #[.agg #[.int .u64 0, .slice none 0 0], .bool false]) (by rw [results_cell_tmp rfl]; go_simp) rfl ?_;exact tk_no HNO.out (HR2.out.two _ _)
section

variable {T : TypeId} {D : Nat → Prop} {w : World} {v bv : Value} {S : Dk} {b : List Nat}

def Wl (T : TypeId) (D : Nat → Prop) (w : World) (v : Value) (S : Dk) (w' : World) : Prop := (∃ D' : Nat → Prop, Dsk T D' w' v S ∧ ∀ x, D' x → D x ∨ w.heap.size ≤ x) ∧ Ch D w w'
theorem wr_ok (h : Dsk 92 D w v S) (i : Int) (hb : Bv w bv b) (hwr : S.wr < 9223372036854775807) (hI : writeI S i b = 0) :
  Calls Tryz.prog 86 #[v, .int .i64 i, bv] w fun e w' => e = .returned (.tuple #[]) ∧ Wl 92 D w v (writeS S i b) w' := by
 have HD := hidH h;have HB : Hid (Bv w bv b) := hb;have HW := hidH hwr;have HI : Hid (writeI S i b = 0) := hI;clear h hb hwr hI;go_in;go_wp2_with fail;refine (write_walk HD.out i HB.out HW.out).mono ?_;rintro e w1 ⟨rfl, hD, hC⟩;rw [HI.out];go_wp2_with fail;refine bodyPost_end (results_none rfl _ _ _) rfl ?_;exact ⟨rfl, hD, hC⟩
theorem wr_bad (h : Dsk 92 D w v S) (i : Int) (hb : Bv w bv b) (hwr : S.wr < 9223372036854775807) (hI : writeI S i b ≠ 0) :
  Calls Tryz.prog 86 #[v, .int .i64 i, bv] w fun e w' => (∃ u pv, e = .panicked [{ v := .iface u pv, recovered := false }]) ∧ Wl 92 D w v (writeS S i b) w' := by
 have HD := hidH h;have HB : Hid (Bv w bv b) := hb;have HW := hidH hwr;obtain ⟨q, hq⟩ : ∃ q, q = writeI S i b := ⟨_, rfl⟩;have HI : Hid (q = writeI S i b) := hq;rw [← hq] at hI;have hqb : (q != 0) = true := by simpa using hI
 clear h hb hwr hq;go_in;go_wp2_with fail;refine (write_walk HD.out i HB.out HW.out).mono ?_;rintro e w1 ⟨rfl, hD, hC⟩;rw [← HI.out];go_wp2_with fail;exact ⟨rfl, ⟨_, _, rfl⟩, hD, hC⟩
end
end
section
structure Bo where
 gen : Nat
 tab : List Nat
 home : Nat
 over : Bool
structure Bo.ok (P : Bo) (B : Nat) : Prop where
 g1 : 1 ≤ P.gen
 g40 : P.gen ≤ 1099511627776
 n8 : P.tab.length ≤ 8
 tok : Tok P.tab B
 h2 : P.home ≤ 1
def hdP (tv dv : Value) (P : Bo) : Array Value := #[.int .u64 P.gen, tv, dv, .int .i64 P.home, .bool P.over]
def hdR (tv dv : Value) (P : Bo) : Array Value := #[dv, tv, .int .i64 P.gen, .int .i64 P.home, .bool P.over]
structure BM (F : Value → Value → Bo → Array Value) (TB TD : TypeId) (A D : Nat → Prop) (w : World) (pb : Nat) (tv dv : Value) (P : Bo) (S : Dk) : Prop where
 head : w.heap[pb]? = some (.cells (F tv dv P) TB (0, 0))
 tab : Tw w tv P.tab
 dsk : Dsk TD D w dv S
 sub : ∀ x, D x → A x
 ab : A pb
 nb : ¬ D pb
 at' : ∀ x, tv.ownBlock = some x → A x ∧ ¬ D x ∧ x ≠ pb
 al : ∀ x, A x → x < w.heap.size
 ok : P.ok S.bl.length
def Bk (F : Value → Value → Bo → Array Value) (TB TD : TypeId) (A : Nat → Prop) (w : World) (v dv : Value) (P : Bo) (S : Dk) : Prop := ∃ D pb tv, v = .pointer (some ⟨pb, 0, none⟩) ∧ BM F TB TD A D w pb tv dv P S
section

variable {F : Value → Value → Bo → Array Value} {TB TD : TypeId} {A A' D : Nat → Prop} {w w' : World} {v dv tv : Value} {P P' : Bo} {S S' : Dk} {pb : Nat}

theorem Tw.keep {t : List Nat} (h : Tw w tv t) (hk : ∀ x, tv.ownBlock = some x → w'.heap[x]? = w.heap[x]?) : Tw w' tv t := by
 obtain ⟨ao, cap, rfl, h1, h2⟩ := h.form;exact h.ch hk
theorem BM.keep (h : BM F TB TD A D w pb tv dv P S) (hk : ∀ x, A x → w'.heap[x]? = w.heap[x]?) (hs : w.heap.size ≤ w'.heap.size) : BM F TB TD A D w' pb tv dv P S :=
 ⟨by rw [hk _ h.ab]; exact h.head, h.tab.keep (fun x hx => hk x (h.at' x hx).1), h.dsk.keep (fun x hx => hk x (h.sub x hx)) hs, h.sub, h.ab, h.nb, h.at', fun x hx => Nat.lt_of_lt_of_le (h.al x hx) hs, h.ok⟩
theorem BM.below (h : BM F TB TD A D w pb tv dv P S) (hb : Below w.heap.size w w') : BM F TB TD A D w' pb tv dv P S := h.keep (fun x hx => hb.block x (h.al x hx)) hb.size
theorem Bk.lt (h : Bk F TB TD A w v dv P S) {x : Nat} (hx : A x) : x < w.heap.size := by
 obtain ⟨D, pb, tv, e, h⟩ := h; exact h.al x hx
theorem Bk.good (h : Bk F TB TD A w v dv P S) : P.ok S.bl.length := by
 obtain ⟨D, pb, tv, e, h⟩ := h; exact h.ok
theorem Bk.keep (h : Bk F TB TD A w v dv P S) (hk : ∀ x, A x → w'.heap[x]? = w.heap[x]?) (hs : w.heap.size ≤ w'.heap.size) : Bk F TB TD A w' v dv P S := by
 obtain ⟨D, pb, tv, e, h⟩ := h; exact ⟨D, pb, tv, e, h.keep hk hs⟩
theorem Bk.below (h : Bk F TB TD A w v dv P S) (hb : Below w.heap.size w w') : Bk F TB TD A w' v dv P S := h.keep (fun x hx => hb.block x (h.lt hx)) hb.size
theorem Bk.ch {E : Nat → Prop} (h : Bk F TB TD A w v dv P S) (hc : Ch E w w') (hE : ∀ x, A x → ¬ E x) : Bk F TB TD A w' v dv P S := h.keep (fun x hx => hc.block x (h.lt hx) (hE x hx)) hc.size
theorem BM.redisk {D' : Nat → Prop} (h : BM F TB TD A D w pb tv dv P S) (hd : Dsk TD D' w' dv S') (hx : ∀ x, D' x → D x ∨ w.heap.size ≤ x) (hc : Ch D w w') (hb : S'.bl.length = S.bl.length) : BM F TB TD (fun x => A x ∨ D' x) D' w' pb tv dv P S' := by
 have hpb := h.al pb h.ab;refine ⟨by rw [hc.block pb hpb h.nb]; exact h.head, h.tab.keep (fun x hx => hc.block x (h.al x (h.at' x hx).1) (h.at' x hx).2.1), hd, fun x hx => .inr hx, .inl h.ab, fun e => ?_, fun x hx' => ⟨.inl (h.at' x hx').1, fun e => ?_, (h.at' x hx').2.2⟩, fun x hx' => ?_, by rw [hb]; exact h.ok⟩
 ·rcases hx pb e with q | q
  ·exact h.nb q
  ·omega
 ·rcases hx x e with q | q
  ·exact (h.at' x hx').2.1 q
  ·have := h.al x (h.at' x hx').1; omega
 ·rcases hx' with q | q
  ·exact Nat.lt_of_lt_of_le (h.al x q) hc.size
  ·exact hd.lt q
theorem BM.mono (h : BM F TB TD A D w pb tv dv P S) (ha : ∀ x, A x → A' x) (hl : ∀ x, A' x → x < w.heap.size) : BM F TB TD A' D w pb tv dv P S :=
 ⟨h.head, h.tab, h.dsk, fun x hx => ha x (h.sub x hx), ha _ h.ab, h.nb, fun x hx => ⟨ha x (h.at' x hx).1, (h.at' x hx).2⟩, hl, h.ok⟩
theorem BM.chA (h : BM F TB TD A D w pb tv dv P S) (hc : Ch D w w') : Ch A w w' := ⟨hc.os, hc.tape, hc.output, hc.size, fun k hk hn => hc.block k hk (fun e => hn (h.sub k e))⟩
theorem Bk.disk (h : Bk F TB TD A w v dv P S) : ∃ D, Dsk TD D w dv S ∧ (∀ x, D x → A x) ∧ ∀ D' w' S', Dsk TD D' w' dv S' → (∀ x, D' x → D x ∨ w.heap.size ≤ x) → Ch D w w' → S'.bl.length = S.bl.length → Bk F TB TD (fun x => A x ∨ D' x) w' v dv P S' := by
 obtain ⟨D, pb, tv, e, h⟩ := h;exact ⟨D, h.dsk, h.sub, fun D' w' S' hd hx hc hb => ⟨D', pb, tv, e, h.redisk hd hx hc hb⟩⟩
theorem BM.cell (h : BM F TB TD A D w pb tv dv P S) (i : Nat) : w.cell? ⟨pb, i, none⟩ = (F tv dv P)[i]? := cell_of_row w pb i _ _ (0, 0) h.head
theorem BM.soft (h : BM F TB TD A D w pb tv dv P S) (i : Nat) : w.frozen? ⟨pb, i, none⟩ = false := by simp [World.frozen?, h.head]
theorem BM.put (h : BM F TB TD A D w pb tv dv P S) (i : Nat) (u : Value) (hc : (F tv dv P).setIfInBounds i u = F tv dv P') (ho : P'.tab = P.tab) (hk : P'.ok S.bl.length) : BM F TB TD A D (w.setCell ⟨pb, i, none⟩ u) pb tv dv P' S := by
 refine ⟨by rw [set_row h.head, hc], ?_, ?_, h.sub, h.ab, h.nb, h.at', fun x hx => by have := h.al x hx; simpa [go_sem] using this, hk⟩
 ·rw [ho]; exact h.tab.keep (fun x hx => set_other i u (h.at' x hx).2.2)
 ·exact h.dsk.keep (fun x hx => set_other i u (fun e => h.nb (e ▸ hx))) (by simp)
theorem BM.chput (h : BM F TB TD A D w pb tv dv P S) (i : Nat) (u : Value) : Ch A w (w.setCell ⟨pb, i, none⟩ u) := Ch.of_grown (grown_set w pb i u) (fun x hx => by cases hx; exact h.ab)
end

abbrev BP := Bk hdP 135 92
abbrev BQ := Bk hdR 147 94
abbrev MP := BM hdP 135 92
abbrev MQ := BM hdR 147 94
section

variable {A D : Nat → Prop} {w w' : World} {v dv tv : Value} {P P' : Bo} {S S' : Dk} {pb : Nat}

theorem mp0 (h : MP A D w pb tv dv P S) : w.cell? ⟨pb, 0, none⟩ = some (.int .u64 P.gen) := by rw [h.cell]; rfl
theorem mp1 (h : MP A D w pb tv dv P S) : w.cell? ⟨pb, 1, none⟩ = some tv := by rw [h.cell]; rfl
theorem mp2 (h : MP A D w pb tv dv P S) : w.cell? ⟨pb, 2, none⟩ = some dv := by rw [h.cell]; rfl
theorem mp3 (h : MP A D w pb tv dv P S) : w.cell? ⟨pb, 3, none⟩ = some (.int .i64 P.home) := by rw [h.cell]; rfl
theorem mp4 (h : MP A D w pb tv dv P S) : w.cell? ⟨pb, 4, none⟩ = some (.bool P.over) := by rw [h.cell]; rfl
theorem mq0 (h : MQ A D w pb tv dv P S) : w.cell? ⟨pb, 0, none⟩ = some dv := by rw [h.cell]; rfl
theorem mq1 (h : MQ A D w pb tv dv P S) : w.cell? ⟨pb, 1, none⟩ = some tv := by rw [h.cell]; rfl
theorem mq4 (h : MQ A D w pb tv dv P S) : w.cell? ⟨pb, 4, none⟩ = some (.bool P.over) := by rw [h.cell]; rfl
def endB (P : Bo) : Bo := { P with over := true }
theorem ok_end {B : Nat} (h : P.ok B) : (endB P).ok B := ⟨h.g1, h.g40, h.n8, h.tok, h.h2⟩
theorem mp_end (h : MP A D w pb tv dv P S) : MP A D (w.setCell ⟨pb, 4, none⟩ (.bool true)) pb tv dv (endB P) S := h.put 4 _ rfl rfl (ok_end h.ok)
theorem mq_end (h : MQ A D w pb tv dv P S) : MQ A D (w.setCell ⟨pb, 4, none⟩ (.bool true)) pb tv dv (endB P) S := h.put 4 _ rfl rfl (ok_end h.ok)
def shutB (P : Bo) (S : Dk) : Bool := P.over || S.down
theorem prefuses_ok (h : MP A D w pb tv dv P S) (hs : shutB P S = false) : Calls Tryz.prog 88 #[.pointer (some ⟨pb, 0, none⟩)] w fun e w' => e = .returned (.int .i64 0) ∧ w' = w := by
 have HD : Hid (Dsk 92 D w dv S) := h.dsk;have c2 := mp2 h;have c4 := mp4 h;have hs' := hs;unfold shutB at hs';rw [Bool.or_eq_false_iff] at hs';rw [hs'.1] at c4;have HDN : Hid (S.down = false) := hs'.2;clear h hs hs';go_in;go_wp2_with fail;refine (down_walk HD.out).mono ?_;rintro e w1 ⟨rfl, h9⟩;have h9 := h9.symm;subst h9;rw [HDN.out];go_wp2_with fail;go_ret;exact ⟨rfl, rfl⟩
theorem prefuses_shut (h : MP A D w pb tv dv P S) (hs : shutB P S = true) : Calls Tryz.prog 88 #[.pointer (some ⟨pb, 0, none⟩)] w fun e w' => e = .returned (.int .i64 80) ∧ MP A D w' pb tv dv (endB P) S ∧ Ch A w w' := by
 have HD : Hid (Dsk 92 D w dv S) := h.dsk;have HE : Hid (MP A D (w.setCell ⟨pb, 4, none⟩ (.bool true)) pb tv dv (endB P) S) := mp_end h;have HC : Hid (Ch A w (w.setCell ⟨pb, 4, none⟩ (.bool true))) := h.chput _ _;have c2 := mp2 h;have c4 := mp4 h;have f4 := h.soft 4
 cases ho : P.over
 ·rw [ho] at c4;have HDN : Hid (S.down = true) := by unfold shutB at hs; rw [ho, Bool.false_or] at hs; exact hs
  clear h hs ho;go_in;go_wp2_with fail;refine (down_walk HD.out).mono ?_;rintro e w1 ⟨rfl, h9⟩;have h9 := h9.symm;subst h9;rw [HDN.out];go_wp2_with fail;go_ret;exact ⟨rfl, HE.out, HC.out⟩
 ·rw [ho] at c4;clear h hs ho;go_in;go_wp2_with fail;go_ret;exact ⟨rfl, HE.out, HC.out⟩
def usedN (t : List Nat) : Nat := (t.filter (fun x => x != 0)).length
theorem used_take {t : List Nat} {k : Nat} (h : k < t.length) : usedN (t.take (k + 1)) = usedN (t.take k) + (if tn t k = 0 then 0 else 1) := by
 unfold usedN;rw [List.take_succ_eq_append_getElem h, List.filter_append, List.length_append, tn_at h];by_cases e : t[k] = 0
 ·rw [if_pos e]; simp [e]
 ·rw [if_neg e]; simp [e]
theorem used_le (t : List Nat) : usedN t ≤ t.length := List.length_filter_le _ _
theorem pages_walk (h : BP A w v dv P S) : Calls Tryz.prog 44 #[v] w fun e w' => e = .returned (.int .i64 P.tab.length) ∧ w' = w := by
 obtain ⟨D, pb, tv, rfl, h⟩ := h;have c1 := mp1 h;obtain ⟨ao, cap, rfl, h1, h2⟩ := h.tab.form;clear h h1 h2;go_in;go_wp2_with fail;go_ret;exact ⟨rfl, rfl⟩
theorem ended_walk (h : BP A w v dv P S) : Calls Tryz.prog 81 #[v] w fun e w' => e = .returned (.bool P.over) ∧ w' = w := by
 obtain ⟨D, pb, tv, rfl, h⟩ := h;have c4 := mp4 h;clear h;go_in;go_wp2_with fail;go_ret;exact ⟨rfl, rfl⟩
theorem used_walk (h : BP A w v dv P S) : Calls Tryz.prog 80 #[v] w fun e w' => e = .returned (.int .i64 (usedN P.tab)) ∧ w' = w := by
 obtain ⟨D, pb, tv, rfl, h⟩ := h;have c1 := mp1 h;have HT : Hid (Tw w tv P.tab) := h.tab;obtain ⟨t, ht⟩ : ∃ t, t = P.tab := ⟨_, rfl⟩;have h8 := h.ok.n8;rw [← ht] at HT h8 ⊢;obtain ⟨ao, cap, rfl, h1, h2⟩ := HT.out.form;have hli : (t.length : Int) ≤ 8 := by omega
 clear h h1 h2 ht;go_in;go_wp2_with fail;go_loop [3, 14] (fun uv iv => ∃ k : Nat, k ≤ t.length ∧ iv = .int .i64 k ∧ uv = .int .i64 (usedN (t.take k))) (fun _ iv => t.length - (intOf iv).toNat)
 case atStart => exact ⟨0, Nat.zero_le _, rfl, rfl⟩
 case round =>
  obtain ⟨k, hk, rfl, rfl⟩ := hrel;by_cases hlt : k < t.length
  ·obtain ⟨b, off, rfl, hc⟩ := HT.out.at hlt;have HU : Hid (usedN (t.take (k + 1)) = usedN (t.take k) + (if tn t k = 0 then 0 else 1)) := used_take hlt;obtain ⟨y, hy⟩ : ∃ y, y = tn t k := ⟨_, rfl⟩;rw [← hy] at hc HU;have hul : usedN (t.take k) ≤ 8 := Nat.le_trans (used_le _) (by rw [List.length_take]; omega);obtain ⟨q, hq⟩ : ∃ q, q = usedN (t.take k) := ⟨_, rfl⟩;rw [← hq] at HU hul ⊢;clear hy hq;by_cases h0 : y = 0
   ·rw [if_pos h0] at HU;subst h0;go_wp2_with fail;go_round
    case rel => exact ⟨k + 1, hlt, by simp, by rw [HU.out]; rfl⟩
    case measure => simp [intOf]; omega
   ·rw [if_neg h0] at HU;have hyb : ((y : Int) != 0) = true := by simp; omega
    clear h0;go_wp2_with fail;go_round
    case rel => exact ⟨k + 1, hlt, by simp, by rw [HU.out]; simp⟩
    case measure => simp [intOf]; omega
  ·have hkt : t.take k = t := List.take_of_length_le (by omega);have HK : Hid (t.take k = t) := hkt;have hlti : ¬ (k : Int) < (t.length : Int) := by omega
   clear hkt;go_wp2_with fail;go_ret;exact ⟨by rw [HK.out]; rfl, rfl⟩
end
end
section
def getI (P : Bo) (S : Dk) (p : Int) : Int := if shutB P S = true then 80 else if hasB P.tab.length p = false then 91 else if tn P.tab p.toNat = 0 then 0 else refI S (tn P.tab p.toNat)
def getL (P : Bo) (S : Dk) (p : Int) : List Nat := if shutB P S = true then [] else if hasB P.tab.length p = false then [] else if tn P.tab p.toNat = 0 then [] else readL S (tn P.tab p.toNat)
def getS (P : Bo) (S : Dk) (p : Int) : Dk := if shutB P S = true then S else if hasB P.tab.length p = false then S else if tn P.tab p.toNat = 0 then S else readS S (tn P.tab p.toNat)
def getB (P : Bo) (S : Dk) : Bo := if shutB P S = true then endB P else P
theorem has_of {n : Nat} {p : Int} (h : hasB n p = true) : 0 ≤ p ∧ p < (n : Int) := of_decide_eq_true h
theorem read_len {S : Dk} {i : Int} : (readS S i).bl.length = S.bl.length := by unfold readS; split <;> rfl
theorem read_bl {S : Dk} {i : Int} : (readS S i).bl = S.bl := by unfold readS; split <;> rfl
section

variable {F : Value → Value → Bo → Array Value} {TB TD : TypeId} {A D : Nat → Prop} {w w' : World} {v dv tv : Value} {P P' : Bo} {S S' : Dk} {pb : Nat}

def Gt (F : Value → Value → Bo → Array Value) (TB TD : TypeId) (A : Nat → Prop) (w : World) (v dv : Value) (P : Bo) (S : Dk) (p : Int) (e : Ending) (w' : World) : Prop :=
 ∃ r, e = .returned (.tuple #[r, .int .i64 (getI P S p)]) ∧ w'.ownsRow w.heap.size 5 1 r (getL P S p).length (cb (getL P S p)) ∧ Bk F TB TD A w' v dv (getB P S) (getS P S p) ∧ Ch A w w'
theorem gt_shut {p : Int} (hs : shutB P S = true) (h : BM F TB TD A D w' pb tv dv (endB P) S) (hc : Ch A w w') : Gt F TB TD A w (.pointer (some ⟨pb, 0, none⟩)) dv P S p (.returned (.tuple #[.slice none 0 0, .int .i64 80])) w' := by
 refine ⟨_, by unfold getI; rw [if_pos hs], ?_, ?_, hc⟩
 ·unfold getL; rw [if_pos hs]; exact World.ownsRow_nil _ _ _ _
 ·unfold getS getB; rw [if_pos hs, if_pos hs]; exact ⟨D, pb, tv, rfl, h⟩
theorem gt_page {p : Int} (hs : shutB P S = false) (hp : hasB P.tab.length p = false) (h : BM F TB TD A D w' pb tv dv P S) (hc : Ch A w w') : Gt F TB TD A w (.pointer (some ⟨pb, 0, none⟩)) dv P S p (.returned (.tuple #[.slice none 0 0, .int .i64 91])) w' := by
 have hs' : ¬ shutB P S = true := by rw [hs]; simp
 refine ⟨_, by unfold getI; rw [if_neg hs', if_pos hp], ?_, ?_, hc⟩
 ·unfold getL; rw [if_neg hs', if_pos hp]; exact World.ownsRow_nil _ _ _ _
 ·unfold getS getB; rw [if_neg hs', if_neg hs', if_pos hp]; exact ⟨D, pb, tv, rfl, h⟩
theorem gt_none {p : Int} (hs : shutB P S = false) (hp : hasB P.tab.length p = true) (h0 : tn P.tab p.toNat = 0) (h : BM F TB TD A D w' pb tv dv P S) (hc : Ch A w w') : Gt F TB TD A w (.pointer (some ⟨pb, 0, none⟩)) dv P S p (.returned (.tuple #[.slice none 0 0, .int .i64 0])) w' := by
 have hs' : ¬ shutB P S = true := by rw [hs]; simp
 have hp' : ¬ hasB P.tab.length p = false := by rw [hp]; simp
 refine ⟨_, by unfold getI; rw [if_neg hs', if_neg hp', if_pos h0], ?_, ?_, hc⟩
 ·unfold getL; rw [if_neg hs', if_neg hp', if_pos h0]; exact World.ownsRow_nil _ _ _ _
 ·unfold getS getB; rw [if_neg hs', if_neg hs', if_neg hp', if_pos h0]; exact ⟨D, pb, tv, rfl, h⟩
theorem BM.reread (h : BM F TB TD A D w pb tv dv P S) (hd : Dsk TD D w' dv S') (hc : Ch D w w') (hb : S'.bl.length = S.bl.length) : BM F TB TD A D w' pb tv dv P S' :=
 (h.redisk hd (fun _ hx => .inl hx) hc hb).mono (A' := A) (fun x hx => by rcases hx with q | q; exact q; exact h.sub x q) (fun x hx => Nat.lt_of_lt_of_le (h.al x hx) hc.size)
theorem gt_read {p : Int} {k : Nat} {w1 : World} {r : Value} (hs : shutB P S = false) (hp : hasB P.tab.length p = true) (hk : k = tn P.tab p.toNat) (h0 : k ≠ 0) (h : BM F TB TD A D w1 pb tv dv P S) (hB : Below w.heap.size w w1)
  (ho : w'.ownsRow w1.heap.size 5 1 r (readL S k).length (cb (readL S k))) (hd : Dsk TD D w' dv (readS S k)) (hc : Ch D w1 w') : Gt F TB TD A w (.pointer (some ⟨pb, 0, none⟩)) dv P S p (.returned (.tuple #[r, .int .i64 (refI S k)])) w' := by
 have hs' : ¬ shutB P S = true := by rw [hs]; simp
 have hp' : ¬ hasB P.tab.length p = false := by rw [hp]; simp
 subst hk;refine ⟨_, by unfold getI; rw [if_neg hs', if_neg hp', if_neg h0], ?_, ?_, ?_⟩
 ·unfold getL; rw [if_neg hs', if_neg hp', if_neg h0]; exact own_base ho hB.size
 ·unfold getS getB; rw [if_neg hs', if_neg hs', if_neg hp', if_neg h0]; exact ⟨D, pb, tv, rfl, h.reread hd hc read_len⟩
 ·exact (Ch.of_below (D := A) hB).trans (h.chA hc) (fun _ hx => .inl hx)
end

section

variable {A D : Nat → Prop} {w w' : World} {v dv tv : Value} {P P' : Bo} {S S' : Dk} {pb : Nat}

theorem get_walk (h : BP A w v dv P S) (p : Int) (hrd : S.rd < 9223372036854775807) : Calls Tryz.prog 146 #[v, .int .i64 p] w fun e w' => Gt hdP 135 92 A w v dv P S p e w' := by
 obtain ⟨D, pb, tv, rfl, h⟩ := h;have HM := hidH h;have HRD := hidH hrd
 cases hs : shutB P S
 ·have HS : Hid (shutB P S = false) := hs;have c0 := mp0 h;have c1 := mp1 h;have HT : Hid (Tw w tv P.tab) := h.tab
  cases hp : hasB P.tab.length p
  ·have HP : Hid (hasB P.tab.length p = false) := hp;clear h hs hp hrd;go_in;go_wp2_with fail;refine (prefuses_ok HM.out HS.out).mono ?_;rintro e w9 ⟨rfl, h9⟩;have h9 := h9.symm;subst h9;go_wp2_with fail;refine (has_walk P.gen HT.out p).mono ?_;rw [HP.out];rintro e w1 ⟨rfl, hB1⟩;have HB1 := hidH hB1;clear hB1;go_wp2_with fail;go_ret2;exact gt_page HS.out HP.out (HM.out.below HB1.out) (Ch.of_below HB1.out)
  ·have HP : Hid (hasB P.tab.length p = true) := hp;obtain ⟨hp0, hp1⟩ := has_of hp;obtain ⟨n, rfl⟩ : ∃ n : Nat, p = n := ⟨p.toNat, by omega⟩;obtain ⟨ao, cap, rfl, hc1, hc2⟩ := h.tab.form;obtain ⟨b, off, rfl, hc⟩ := h.tab.at (i := n) (by omega);obtain ⟨t, ht⟩ : ∃ t, t = P.tab := ⟨_, rfl⟩;rw [← ht] at c1 hc hp1 HP;rw [← ht] at HT;have HTP : Hid (t = P.tab) := ht;obtain ⟨y, hy⟩ : ∃ y, y = tn t n := ⟨_, rfl⟩;rw [← hy] at hc;have HY : Hid (y = tn t n) := hy;have hni : (n : Int) < (t.length : Int) := by omega
   have hbD : ¬ D b := (h.at' b (by simp [Value.ownBlock])).2.1;have hpD := h.nb;have hbl := cell_lt hc;have hpl := h.al pb h.ab;have c2 := mp2 h;have HD : Hid (Dsk 92 D w dv S) := h.dsk;have HSZ : Hid (pb < w.heap.size ∧ b < w.heap.size) := ⟨hpl, hbl⟩;have HND : Hid (¬ D pb ∧ ¬ D b) := ⟨hpD, hbD⟩;have h8 : t.length ≤ 8 := by rw [ht]; exact h.ok.n8
   have hti : (t.length : Int) ≤ 8 := by omega
   clear h hs hp hp0 hc1 hc2 ht hy hbD hpD hbl hpl hrd h8;by_cases hy0 : y = 0
   ·have HY0 : Hid (y = 0) := hy0;have hyb : ((y : Int) == 0) = true := by simp [hy0]
    clear hy0;go_in;go_wp2_with fail;refine (prefuses_ok HM.out HS.out).mono ?_;rintro e w9 ⟨rfl, h9⟩;have h9 := h9.symm;subst h9;go_wp2_with fail;refine (has_walk P.gen HT.out n).mono ?_;rw [HP.out];rintro e w1 ⟨rfl, hB1⟩;have HB1 := hidH hB1;have d1 : w1.cell? ⟨pb, 1, none⟩ = some (.slice (some ⟨b, off, none⟩) t.length cap) := by rw [hB1.cell (p := ⟨pb, 1, none⟩) HSZ.out.1]; exact c1
    have d2 : w1.cell? ⟨b, off + n, none⟩ = some (.int .i64 y) := by rw [hB1.cell (p := ⟨b, off + n, none⟩) HSZ.out.2]; exact hc
    clear hB1;go_wp2_with fail;go_ret2;exact gt_none HS.out (by rw [← HTP.out]; exact HP.out) (by rw [← HTP.out, Int.toNat_natCast, ← HY.out]; exact HY0.out) (HM.out.below HB1.out) (Ch.of_below HB1.out)
   ·have HY0 : Hid (y ≠ 0) := hy0;have hyb : ((y : Int) == 0) = false := by simp; omega
    clear hy0;go_in;go_wp2_with fail;refine (prefuses_ok HM.out HS.out).mono ?_;rintro e w9 ⟨rfl, h9⟩;have h9 := h9.symm;subst h9;go_wp2_with fail;refine (has_walk P.gen HT.out n).mono ?_;rw [HP.out];rintro e w1 ⟨rfl, hB1⟩;have HB1 := hidH hB1;have d1 : w1.cell? ⟨pb, 1, none⟩ = some (.slice (some ⟨b, off, none⟩) t.length cap) := by rw [hB1.cell (p := ⟨pb, 1, none⟩) HSZ.out.1]; exact c1
    have d2 : w1.cell? ⟨b, off + n, none⟩ = some (.int .i64 y) := by rw [hB1.cell (p := ⟨b, off + n, none⟩) HSZ.out.2]; exact hc
    have j1 : ∀ wx, Ch D w1 wx → wx.cell? ⟨pb, 1, none⟩ = some (.slice (some ⟨b, off, none⟩) t.length cap) := fun wx hx => by rw [World.cell?_of_block (w := w1) (a := ⟨pb, 1, none⟩) (hx.block pb (cell_lt d1) HND.out.1)]; exact d1
    have j2 : ∀ wx, Ch D w1 wx → wx.cell? ⟨b, off + n, none⟩ = some (.int .i64 y) := fun wx hx => by rw [World.cell?_of_block (w := w1) (a := ⟨b, off + n, none⟩) (hx.block b (cell_lt d2) HND.out.2)]; exact d2
    have j3 : ∀ wx, Ch D w1 wx → wx.cell? ⟨pb, 2, none⟩ = some dv := fun wx hx => by rw [World.cell?_of_block (w := w1) (a := ⟨pb, 2, none⟩) (hx.block pb (cell_lt d1) HND.out.1), hB1.cell (p := ⟨pb, 2, none⟩) HSZ.out.1]; exact c2
    have HD1 := hidH (HD.out.below hB1);have hSd : Ch D w1 w1.drew := Ch.of_below (below_drewN _ _);clear hB1;go_wp2_with fail
    go_region_held3 (fun wx => Ch D w1 wx) (first | assumption)
     (first
      | (go_at_call 94; refine (read_walk (HD1.out.below (below_drewN _ _)) y HRD.out).mono ?_; rintro e w3 ⟨r, rfl, ho, hD3, hC3⟩; have hS3 : Ch D w1 w3 := Ch.self (by assumption) hC3))
    all_goals go_wp2_with fail
    all_goals go_ret2
    all_goals exact gt_read HS.out (by rw [← HTP.out]; exact HP.out) (by rw [← HTP.out, Int.toNat_natCast]; exact HY.out) HY0.out (HM.out.below HB1.out) HB1.out ho hD3 hS3
 ·have HS : Hid (shutB P S = true) := hs;clear h hs hrd;go_in;go_wp2_with fail;refine (prefuses_shut HM.out HS.out).mono ?_;rintro e w1 ⟨rfl, hM1, hC1⟩;go_wp2_with fail;go_ret2;exact gt_shut HS.out hM1 hC1
end
end
end Go.Proofs.YtcmklbibehnloaaGreat
