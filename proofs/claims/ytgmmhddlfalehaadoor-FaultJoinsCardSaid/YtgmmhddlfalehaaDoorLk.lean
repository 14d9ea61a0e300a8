/- fault: Find -/
import Derived.Test.YtgmmhddlfalehaaDoorLj
namespace Go.Proofs.YtgmmhddlfalehaaDoor
set_option linter.unusedVariables false
set_option linter.unusedSimpArgs false
open Go.ChangeShapes Go.WideShapes Go.ChangeAt Go.RowKit

theorem ba_neL {a b : ByteArray} (h : ¬ a = b) : (a.toList == b.toList) = false := by
  rw [ByteArray.toList_eq, ByteArray.toList_eq]
  exact beq_eq_false_iff_ne.2 (fun e => h (bytes_inj e))
theorem ba_eqL (a : ByteArray) : (a.toList == a.toList) = true := beq_self_eq_true _
def findV (o : ByteArray) (s : Option Er) (T : Er) : Option Er × Bool := if T.op? = some o then (some T, true) else (s, s.isSome)
/-- The first Fault of an op. -/
def firstF (o : ByteArray) (l : List Er) : Option Er := l.find? fun T => decide (T.op? = some o)
theorem run_findV (o : ByteArray) : ∀ (l : List Er), runV (findV o) none l = firstF o l
  | [] => rfl
  | T :: l => by
    show (if (findV o none T).2 = true then (findV o none T).1 else runV (findV o) (findV o none T).1 l) = (T :: l).find? fun T => decide (T.op? = some o)
    rw [List.find?_cons]
    unfold findV
    by_cases h : T.op? = some o
    · rw [if_pos h, decide_eq_true h]; rfl
    · rw [if_neg h, decide_eq_false h]
      simp only [Option.isSome_none, Bool.false_eq_true, if_false]
      exact run_findV o l
/-- What Find's variable holds. -/
def FndP (W0 : World) (s : Option Er) (p : Value) : Prop := (s = none ∧ p = .pointer none) ∨ ∃ T F, s = some T ∧ p = .pointer (some ⟨F, 0, none⟩) ∧ ErT W0 T (.iface 29 (ptrV F))
def FindI (P1 P2 : Nat) (o : ByteArray) (W0 : World) (s : Option Er) (w : World) : Prop := w.heap[P1]? = some (.cells #[.string o] 9 (0, 0)) ∧ ∃ p, w.heap[P2]? = some (.cells #[p] 29 (0, 0)) ∧ FndP W0 s p
theorem findI_oth {P1 P2 : Nat} {o : ByteArray} {W0 : World} {s : Option Er} {a b : World} {T : Nat → Prop} (h : FindI P1 P2 o W0 s a) (K : Kx T a b) (hT : OthV a T) : FindI P1 P2 o W0 s b := by
  obtain ⟨h1, p, h2, h3⟩ := h
  exact ⟨blk_oth h1 (by decide) K hT, p, blk_oth h2 (by decide) K hT, h3⟩
theorem fndP_some {W0 : World} {s : Option Er} {p : Value} (h : FndP W0 s p) : (s.isSome = false ∧ p = .pointer none) ∨ (s.isSome = true ∧ ∃ F, p = .pointer (some ⟨F, 0, none⟩)) := by
  rcases h with ⟨rfl, rfl⟩ | ⟨T, F, rfl, rfl, -⟩
  · exact Or.inl ⟨rfl, rfl⟩
  · exact Or.inr ⟨rfl, F, rfl⟩
theorem vfr_drew {W0 w w' : World} (h : VFr W0 w w') : VFr W0 w w'.drew := by
  obtain ⟨S, K, hS⟩ := h
  exact ⟨S, K.drew, hS⟩
theorem gr_drewI {P1 P2 : Nat} {o : ByteArray} {W0 w w' : World} {s : Option Er} (h : FindI P1 P2 o W0 s w') (g : VFr W0 w w') : FindI P1 P2 o W0 s w'.drew ∧ VFr W0 w w'.drew := ⟨h, vfr_drew g⟩
/-- What Find answers. -/
def FndA (W0 : World) (s : Option Er) (e : Ending) : Prop := ∃ p, e = .returned (.tuple #[p, .bool s.isSome]) ∧ FndP W0 s p
end Go.Proofs.YtgmmhddlfalehaaDoor
