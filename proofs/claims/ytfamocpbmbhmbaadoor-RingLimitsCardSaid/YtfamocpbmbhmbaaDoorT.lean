/- wide's division and its decimal text. -/
import Derived.Test.YtfamocpbmbhmbaaDoorD
import Derived.Deep.LoopGhost
namespace Go.Proofs.YtfamocpbmbhmbaaDoor
set_option linter.unusedVariables false
open Go.ChangeShapes Go.WideShapes Go.ChangeAt Go.RowKit

theorem divVal {ah al b : Nat} (hb : 1 ≤ b) (h1 : Wd ah) (h2 : Wd al) (h3 : Wd b) :
    val ah al / b = val (ah / b) (val (ah % b) al / b) ∧ val ah al % b = val (ah % b) al % b ∧ val (ah % b) al / b < 18446744073709551616 := by
  have hlt : ah % b < b := Nat.mod_lt _ hb
  have e : val ah al = b * (ah / b * 18446744073709551616) + val (ah % b) al := by
    unfold val
    have := Nat.div_add_mod ah b
    conv => lhs; rw [← this, Nat.add_mul, Nat.mul_assoc]
    omega
  have hq : val (ah % b) al / b < 18446744073709551616 := by
    rw [Nat.div_lt_iff_lt_mul hb]
    unfold val Wd at *
    have : (ah % b + 1) * 18446744073709551616 ≤ b * 18446744073709551616 := Nat.mul_le_mul_right _ hlt
    omega
  refine ⟨?_, ?_, hq⟩
  · rw [e, Nat.mul_add_div hb]
    rfl
  · rw [e, Nat.mul_add_mod]

/-- A number below ten to the 19th, in nineteen places. -/
def pad19 (r : Nat) : List UInt8 := List.replicate (19 - Lib.nDigits r) 48 ++ Lib.decDigits r
theorem nDig_le {r k : Nat} (hk : 1 ≤ k) (h : r < 10 ^ k) : Lib.nDigits r ≤ k := by
  induction k generalizing r with
  | zero => omega
  | succ k ih =>
    by_cases h10 : r < 10
    · rw [Lib.nDigits_small h10]; omega
    · rw [Lib.nDigits_big h10]
      have hk1 : 1 ≤ k := by
        rcases Nat.eq_zero_or_pos k with rfl | g
        · simp at h; omega
        · exact g
      have := ih (r := r / 10) hk1 (by rw [Nat.pow_succ] at h; omega)
      omega
theorem dg_mod {u j k : Nat} (h : j < k) : Lib.dg (u % 10 ^ k) j = Lib.dg u j := by
  unfold Lib.dg
  have : u % 10 ^ k / 10 ^ j % 10 = u / 10 ^ j % 10 := by
    obtain ⟨d, rfl⟩ : ∃ d, k = j + 1 + d := ⟨k - (j + 1), by omega⟩
    rw [Nat.pow_add, Nat.pow_succ, Nat.mul_assoc, Nat.mod_mul_right_div_self, Nat.mod_mul_right_mod]
  rw [this]
theorem dg_small {u j : Nat} (h : u < 10 ^ j) : Lib.dg u j = 48 := by
  unfold Lib.dg
  rw [Nat.div_eq_of_lt h]
  rfl
theorem dg_div {u k j : Nat} : Lib.dg (u / 10 ^ k) j = Lib.dg u (k + j) := by
  unfold Lib.dg
  rw [Nat.div_div_eq_div_mul, ← Nat.pow_add]
theorem pad19_eq (r : Nat) (h : r < 10 ^ 19) : pad19 r = (List.range 19).map fun t => Lib.dg r (18 - t) := by
  have hn := nDig_le (by omega) h
  have h1 := Lib.nDigits_pos r
  unfold pad19
  refine List.ext_getElem (by simp [Lib.decDigits_length]; omega) fun i hi1 hi2 => ?_
  simp at hi2
  rw [List.getElem_append]
  split
  · rename_i hlt
    simp at hlt ⊢
    have := Nat.pow_le_pow_right (n := 10) (by omega) (show Lib.nDigits r ≤ 18 - i by omega)
    rw [dg_small (Nat.lt_of_lt_of_le (Lib.lt_pow_nDigits r) this)]
  · rename_i hge
    simp at hge
    have he := Lib.decDigits_eq r
    simp only [he, List.getElem_map, List.getElem_range, List.length_replicate]
    congr 1
    omega
/-- The digits of a number are those of its higher part, then its lower nineteen. -/
theorem digits_split (n : Nat) (h : 10 ^ 19 ≤ n) : Lib.decDigits n = Lib.decDigits (n / 10 ^ 19) ++ pad19 (n % 10 ^ 19) := by
  have hlt : n % 10 ^ 19 < 10 ^ 19 := Nat.mod_lt _ (by omega)
  have hnd : ∀ k n : Nat, 10 ^ k ≤ n → Lib.nDigits n = Lib.nDigits (n / 10 ^ k) + k := by
    intro k
    induction k with
    | zero => intro n _; simp
    | succ k ih =>
      intro n hn
      have h10 : ¬ n < 10 := by
        have := Nat.one_le_two_pow (n := k)
        have h1 : 10 ^ 1 ≤ 10 ^ (k + 1) := Nat.pow_le_pow_right (by omega) (by omega)
        omega
      rw [Lib.nDigits_big h10, ih (n / 10) (by rw [Nat.pow_succ] at hn; omega), Nat.div_div_eq_div_mul, Nat.pow_succ, Nat.mul_comm 10]
      omega
  have hN := hnd 19 n h
  rw [pad19_eq _ hlt, Lib.decDigits_eq n, Lib.decDigits_eq (n / 10 ^ 19), hN]
  generalize Lib.nDigits (n / 10 ^ 19) = m
  refine List.ext_getElem (by simp) fun i hi1 hi2 => ?_
  simp at hi1 hi2
  rw [List.getElem_append]
  split
  · rename_i hl
    simp at hl
    simp only [List.getElem_map, List.getElem_range]
    rw [dg_div]
    congr 1
    omega
  · rename_i hl
    simp at hl
    simp only [List.getElem_map, List.getElem_range, List.length_map, List.length_range]
    rw [dg_mod (by omega)]
    congr 1
    omega

theorem ba_append (a b : List UInt8) : (⟨a.toArray⟩ : ByteArray) ++ ⟨b.toArray⟩ = ⟨(a ++ b).toArray⟩ := by
  apply ByteArray.ext
  simp
/-- What holds at the head of Text's loop: what is left in the cells, what stands in the tail. -/
def TextRel (B N : Nat) (W : World) (k : Nat) (tail : Value) (wr : World) : Prop :=
  ∃ (h l : Nat) (T : List UInt8), Wd h ∧ Wd l ∧ h ≤ k ∧ Lib.decDigits N = Lib.decDigits (val h l) ++ T ∧ T.length ≤ 1000 ∧ tail = .string ⟨T.toArray⟩ ∧
    wr.cell? ⟨B, 0, none⟩ = some (.int .u64 h) ∧ wr.cell? ⟨B, 1, none⟩ = some (.int .u64 l) ∧ wr.frozen? ⟨B, 0, none⟩ = false ∧ wr.frozen? ⟨B, 1, none⟩ = false ∧ B < wr.heap.size ∧ Gr W wr

end Go.Proofs.YtfamocpbmbhmbaaDoor
