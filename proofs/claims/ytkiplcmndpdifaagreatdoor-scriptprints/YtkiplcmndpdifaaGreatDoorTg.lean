/- The law's bare, walked. Printed by gen_tg21.py. -/
import Derived.Test.YtkiplcmndpdifaaGreatDoorTf

namespace Go.Proofs.YtkiplcmndpdifaaGreatDoor

open Go.RowKit



theorem get_mk {T : Bs} {t : ByteArray} {a : Nat} {d : UInt8} (ht : t = ⟨T.toArray⟩) (hd : T[a]? = some d) (h : a < t.size) : t[a]'h = d := by
  subst ht
  obtain ⟨h1, h2⟩ := List.getElem?_eq_some_iff.1 hd
  show T.toArray[a] = d
  simpa using h2


theorem skip_head {T : Bs} {a i : Nat} {d : UInt8} (h : a < i) (hd : T[a]? = some d) : skipB ((T.drop a).take (i - a)) = (d == 35) := by
  obtain ⟨h1, h2⟩ := List.getElem?_eq_some_iff.1 hd
  rw [List.drop_eq_getElem_cons h1, h2, show i - a = (i - a - 1) + 1 by omega, List.take_succ_cons]
  rfl


theorem ext_mid {T : Bs} {a i : Nat} : (⟨T.toArray⟩ : ByteArray).extract a i = ⟨((T.drop a).take (i - a)).toArray⟩ := by
  rw [Lib.extract_eq]


end Go.Proofs.YtkiplcmndpdifaaGreatDoor


