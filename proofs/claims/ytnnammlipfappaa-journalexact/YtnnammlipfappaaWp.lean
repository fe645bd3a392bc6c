/- Put and the reference's Put: the number's bytes, in a row of the call's own. -/
import Derived.Test.YtnnammlipfappaaWb

import Derived.Laws.BitsAllLaws

namespace Go.Proofs.Ytnnammlipfappaa

open Go.RowKit



theorem info_u8 : (Try.prog.info? 5).map (fun i => (i.zero, i.size, i.bytes)) = some (some (.int .u8 0), 1, 1) := by kernel_rfl
theorem info_i64 : (Try.prog.info? 3).map (fun i => (i.zero, i.size, i.bytes)) = some (some (.int .i64 0), 1, 8) := by kernel_rfl


theorem or128_fin : ∀ a : Fin 256, (a.val ||| 128) = a.val % 128 + 128 := by decide +kernel


theorem or128 (y : Nat) : bits .or .u8 ((y : Int) % 256) 128 = (y : Int) % 128 + 128 := by
  have h := u8_or_nat (y % 256) 128 (by omega) (by omega)
  have e := or128_fin ⟨y % 256, by omega⟩
  simp only at e
  rw [e] at h
  have e2 : ((y % 256 : Nat) : Int) = (y : Int) % 256 := by omega
  rw [e2] at h
  rw [show ((128 : Nat) : Int) = 128 from rfl] at h
  rw [h]
  omega


theorem wrap_u64_id {z : Int} (h0 : 0 ≤ z) (h1 : z < 18446744073709551616) : IntKind.u64.wrap z = z := by
  rw [IntKind.wrap_u64]; omega


/-- Put's loop: what has been written, and what is left. -/
def PutRel (x H : Nat) (w : World) (xv v : Value) (wr : World) : Prop :=
  ∃ (y k : Nat) (done : List Nat), xv = .int .u64 y ∧ y ≤ x ∧ y < 128 ^ (k + 1) ∧ done ++ Wm.encF k y = Wm.enc x ∧ done.length + k = 9 ∧
    wr.ownsRow H 5 1 v done.length ((ib done).map (Value.int .u8)) ∧ Below H w wr


theorem putrel_start (x : Nat) (hx : x < 18446744073709551616) (w : World) :
    PutRel x w.heap.size w (.int .u64 x) (.slice (some ⟨w.heap.size, 0, none⟩) 0 0) (w.alloc (.cells #[] 5)) :=
  ⟨x, 9, [], rfl, Nat.le_refl _, Nat.lt_of_lt_of_le hx (by decide), rfl, rfl, World.ownsRow_made w #[] 0 (Nat.le_refl _) (by simp [maxLen]) rfl, below_alloc w _⟩


theorem putrel_step {x H y k : Nat} {done : List Nat} {w wr w1 : World} {v v' : Value} {c : Int} (hge : (128 : Int) ≤ y) (hyx : y ≤ x) (hk : y < 128 ^ (k + 1)) (henc : done ++ Wm.encF k y = Wm.enc x) (hlen : done.length + k = 9)
    (hbel : Below H w wr) (hH : H ≤ wr.heap.size) (o : Obj) (hown : wr.ownsRow H 5 1 v done.length ((ib done).map (Value.int .u8)))
    (hown' : w1.ownsRow H 5 1 v' (done.length + 1) ((ib done).map (Value.int .u8) ++ [c].map (Value.int .u8))) (hg : (wr.alloc o).grownBy w1 v.ownBlock) (hc : c = (y : Int) % 128 + 128) :
    PutRel x H w (.int .u64 ((y : Int) / 128)) v' w1 := by
  cases k with
  | zero => simp at hk; omega
  | succ k =>
    refine ⟨y / 128, k, done ++ [y % 128 + 128], ?_, by omega, ?_, ?_, by simp; omega, ?_, ?_⟩
    · congr 1
    · rw [Nat.pow_succ] at hk; omega
    · rw [← henc]
      conv => rhs; rw [Wm.encF, if_neg (by omega)]
      simp
    · subst hc
      have e : (ib (done ++ [y % 128 + 128])) = ib done ++ [(y : Int) % 128 + 128] := by simp [ib]
      rw [e]
      simpa using hown'
    · exact hbel.trans (((below_alloc wr o).mono hH).trans (grown_below (hown.alloc o) hg (by simp; omega)))


theorem putrel_done {x H y k : Nat} {done : List Nat} {w wr w1 : World} {v v' : Value} {c : Int} (hge : (y : Int) < 128) (henc : done ++ Wm.encF k y = Wm.enc x)
    (hbel : Below H w wr) (hH : H ≤ wr.heap.size) (o : Obj) (hown : wr.ownsRow H 5 1 v done.length ((ib done).map (Value.int .u8)))
    (hown' : w1.ownsRow H 5 1 v' (done.length + 1) ((ib done).map (Value.int .u8) ++ [c].map (Value.int .u8))) (hg : (wr.alloc o).grownBy w1 v.ownBlock) (hc : c = (y : Int)) :
    w1.ownsRow H 5 1 v' (Wm.enc x).length ((ib (Wm.enc x)).map (Value.int .u8)) ∧ Below H w w1 := by
  have e : Wm.encF k y = [y] := by
    cases k with
    | zero => rfl
    | succ k => rw [Wm.encF, if_pos (by omega)]
  rw [e] at henc
  refine ⟨?_, hbel.trans (((below_alloc wr o).mono hH).trans (grown_below (hown.alloc o) hg (by simp; omega)))⟩
  rw [← henc]
  subst hc
  simpa [ib] using hown'


theorem sv_one (k : IntKind) (w : World) (e : TypeId) (c : Int) : Sv k (w.alloc (.cells #[.int k c] e)) (.slice (some ⟨w.heap.size, 0, none⟩) 1 1) [c] := sv_lit k w e [c] (by simp [maxLen])


set_option maxHeartbeats 1000000 in
theorem put_walk (x : Nat) (hx : x < 18446744073709551616) (w : World) :
    Calls Try.prog 58 #[.int .u64 x] w fun e w' => ∃ v, e = .returned v ∧ w'.ownsRow w.heap.size 5 1 v (Wm.enc x).length ((ib (Wm.enc x)).map (Value.int .u8)) ∧ Below w.heap.size w w' := by
  have hst := putrel_start x hx w
  have HST : Hid (PutRel x w.heap.size w (.int .u64 x) (.slice (some ⟨w.heap.size, 0, none⟩) 0 0) (w.alloc (.cells #[] 5))) := hst
  clear hst hx
  go_enter Try.func58, Try.ntmps58
  go_wp2
  go_loopw [0, 3] (fun xv v wr => PutRel x w.heap.size w xv v wr) (fun xv _ _ => (intOf xv).toNat)
  case atStart => exact HST.out
  case round =>
    obtain ⟨y, k, done, rfl, hyx, hk, henc, hlen, hown, hbel⟩ := hrel
    have HY : Hid (y ≤ x) := hyx
    have HK : Hid (y < 128 ^ (k + 1)) := hk
    have HE : Hid (done ++ Wm.encF k y = Wm.enc x) := henc
    have HL : Hid (done.length + k = 9) := hlen
    have hH : w.heap.size ≤ wr.heap.size := hbel.size
    have hor := or128 y
    clear hyx hk henc hlen HST
    by_cases hge : (128 : Int) ≤ (y : Int)
    · go_wp2_with (at_builtin; refine wpList_append_sv (by rfl) (.tmp 7) (.tmp 11) 57 (by rfl) w.heap.size 5 .u8 1 Try.underlying57 info_u8 _ _ _ (by rfl) (hown.alloc _) _ [_] (by rfl) (sv_one .u8 _ _ _) (by simp [maxLen]; have := HL.out; omega) (by simp; have := HL.out; omega) (by simp; omega) ?_; intro v' w1 hown' hgrow)
      have R := putrel_step hge HY.out HK.out HE.out HL.out hbel hH _ hown hown' hgrow rfl
      clear hown' hgrow
      go_wp2
      go_roundw
      case rel => exact R
      case measure => simp [intOf]; omega
    · go_wp2_with (at_builtin; refine wpList_append_sv (by rfl) (.tmp 15) (.tmp 18) 57 (by rfl) w.heap.size 5 .u8 1 Try.underlying57 info_u8 _ _ _ (by rfl) (hown.alloc _) _ [_] (by rfl) (sv_one .u8 _ _ _) (by simp [maxLen]; have := HL.out; omega) (by simp; have := HL.out; omega) (by simp; omega) ?_; intro v' w1 hown' hgrow)
      have R := putrel_done hge HE.out hbel hH _ hown hown' hgrow (by omega)
      clear hown' hgrow
      go_wp2
      go_ret
      exact ⟨_, rfl, R⟩


set_option maxHeartbeats 1000000 in
theorem rput_walk (x : Nat) (hx : x < 18446744073709551616) (w : World) :
    Calls Try.prog 64 #[.int .u64 x] w fun e w' => ∃ v, e = .returned v ∧ w'.ownsRow w.heap.size 5 1 v (Wm.enc x).length ((ib (Wm.enc x)).map (Value.int .u8)) ∧ Below w.heap.size w w' := by
  have hst := putrel_start x hx w
  have HST : Hid (PutRel x w.heap.size w (.int .u64 x) (.slice (some ⟨w.heap.size, 0, none⟩) 0 0) (w.alloc (.cells #[] 5))) := hst
  have HX : Hid (x < 18446744073709551616) := hx
  clear hst hx
  go_enter Try.func64, Try.ntmps64
  go_wp2
  go_loopw [0, 3] (fun xv v wr => PutRel x w.heap.size w xv v wr) (fun xv _ _ => (intOf xv).toNat)
  case atStart => exact HST.out
  case round =>
    obtain ⟨y, k, done, rfl, hyx, hk, henc, hlen, hown, hbel⟩ := hrel
    have HY : Hid (y ≤ x) := hyx
    have HK : Hid (y < 128 ^ (k + 1)) := hk
    have HE : Hid (done ++ Wm.encF k y = Wm.enc x) := henc
    have HL : Hid (done.length + k = 9) := hlen
    have hH : w.heap.size ≤ wr.heap.size := hbel.size
    have hwr : IntKind.u64.wrap ((y : Int) / 128) = (y : Int) / 128 := wrap_u64_id (by omega) (by have := HX.out; omega)
    clear hyx hk henc hlen HST
    by_cases hge : (128 : Int) ≤ (y : Int)
    · go_wp2_with (at_builtin; refine wpList_append_sv (by rfl) (.tmp 7) (.tmp 12) 57 (by rfl) w.heap.size 5 .u8 1 Try.underlying57 info_u8 _ _ _ (by rfl) (hown.alloc _) _ [_] (by rfl) (sv_one .u8 _ _ _) (by simp [maxLen]; have := HL.out; omega) (by simp; have := HL.out; omega) (by simp; omega) ?_; intro v' w1 hown' hgrow)
      have R := putrel_step hge HY.out HK.out HE.out HL.out hbel hH _ hown hown' hgrow rfl
      clear hown' hgrow
      go_wp2
      go_roundw
      case rel => exact R
      case measure => simp [intOf]; omega
    · go_wp2_with (at_builtin; refine wpList_append_sv (by rfl) (.tmp 16) (.tmp 19) 57 (by rfl) w.heap.size 5 .u8 1 Try.underlying57 info_u8 _ _ _ (by rfl) (hown.alloc _) _ [_] (by rfl) (sv_one .u8 _ _ _) (by simp [maxLen]; have := HL.out; omega) (by simp; have := HL.out; omega) (by simp; omega) ?_; intro v' w1 hown' hgrow)
      have R := putrel_done hge HE.out hbel hH _ hown hown' hgrow (by omega)
      clear hown' hgrow
      go_wp2
      go_ret
      exact ⟨_, rfl, R⟩
end Go.Proofs.Ytnnammlipfappaa


