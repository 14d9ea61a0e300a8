/- DiskAgain -/
import Derived.Test.YtcalleofndokaaaDoorDi
namespace Go.Proofs.YtcalleofndokaaaDoor
set_option linter.unusedVariables false
set_option linter.unusedSimpArgs false
open Go.ChangeShapes Go.WideShapes Go.ChangeAt Go.RowKit Go.Maps

theorem c_RoundK (z : Int) (m : Nat) (hm : 0 < m) (hm2 : m ≤ 1000000) (h : -9223372036854775808 ≤ z ∧ z ≤ 9223372036854775807) (w : World) :
    Calls Tryd.prog 12 #[.int .i64 z, .int .i64 (m : Nat)] w fun e w' => ∃ k : Nat, k < m ∧ e = .returned (.int .i64 (k : Nat)) ∧ Gr w w' := by
  refine (c_RoundE z h.1 h.2 m hm hm2 w).mono ?_
  rintro e w' ⟨rfl, g⟩
  have h1 := Int.emod_nonneg z (show (m : Int) ≠ 0 by omega)
  have h2 := Int.emod_lt_of_pos z (show (0 : Int) < m by omega)
  exact ⟨(z % m).toNat, by omega, by rw [Int.toNat_of_nonneg h1], g⟩
/-- A disk that nobody cuts. -/
structure Plain (d : Dk) (n i : Nat) : Prop where
  n : d.n = n
  on : d.off = false
  cut : d.cut = false
  ops : d.ops = i
theorem plain_on {d : Dk} {n i : Nat} (h : Plain d n i) : d.on := ⟨h.on, fun e => by rw [h.cut] at e; cases e⟩
theorem plain_wr {d : Dk} {n i : Nat} (h : Plain d n i) (k : Nat) (L : List UInt8) : Plain (d.opd.wr k L) n (i + 1) :=
  ⟨h.n, h.on, h.cut, by show d.ops + 1 = i + 1; rw [h.ops]⟩
theorem plain_new (n : Nat) (L : List UInt8) : Plain (dk0 n L) n 0 := ⟨rfl, rfl, rfl, rfl⟩
theorem crG_none (n : Nat) (L : List UInt8) (f : Nat → Nat) : crG (dk0 n L) f (dk0 n L).ord.length = L := rfl
theorem crM_all (j : Nat) : crM [true] (-1) j = 2 := by
  unfold crM
  rw [if_neg (by omega), if_pos]
  refine ⟨by decide, ?_⟩
  rw [List.length_singleton, Nat.mod_one]
  rfl
/-- All kept is all written. -/
theorem crG_all {d : Dk} (h : d.ok) {k : Nat} (hk : k < d.n) : sec (crG d (crM [true] (-1)) d.ord.length) k = d.read k := by
  obtain ⟨h1, h2⟩ := crG_sec h (crM [true] (-1)) d.ord.length (Nat.le_refl _) k hk
  unfold Dk.read
  by_cases hin : k ∈ d.ord
  · rw [if_pos hin]
    obtain ⟨j, hj, e⟩ := List.getElem_of_mem hin
    rw [h1 j hj (by rw [List.getD_eq_getElem?_getD, List.getElem?_eq_getElem hj]; exact e), crM_all]
    rfl
  · rw [if_neg hin]
    refine h2 fun j hj e => hin ?_
    rw [← e]
    exact (ord_at h hj).1
theorem lawD_ops {W w : World} {p : Nat} {d : Dk} (h : LawD W w p d) : Calls Tryd.prog 32 #[.pointer (some ⟨p, 0, none⟩)] w fun e w' => e = .returned (.int .i64 (d.ops : Nat)) ∧ Gr w w' := by
  obtain ⟨q, bm, M, h1, h2⟩ := h; exact d_ops w h1
theorem lawD_off {W w : World} {p : Nat} {d : Dk} (h : LawD W w p d) : Calls Tryd.prog 29 #[.pointer (some ⟨p, 0, none⟩)] w fun e w' => e = .returned (.bool d.off) ∧ Gr w w' := by
  obtain ⟨q, bm, M, h1, h2⟩ := h; exact d_off w h1
theorem intsR_form {w : World} {v : Value} {L : List Int} (h : IntsR w v L) : ∃ ad cap, v = .slice ad L.length cap := by
  obtain ⟨ad, cap, _, _, e, _⟩ := h; exact ⟨ad, cap, e⟩
theorem bools_form {w : World} {v : Value} {L : List Bool} (h : Bools w v L) : ∃ ad cap, v = .slice ad L.length cap := by
  obtain ⟨ad, cap, _, _, e, _⟩ := h; exact ⟨ad, cap, e⟩
end Go.Proofs.YtcalleofndokaaaDoor
