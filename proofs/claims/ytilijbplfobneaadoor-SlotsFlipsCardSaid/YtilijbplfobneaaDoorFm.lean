/- a check sum tells one byte turned: plain facts -/
import Derived.Test.YtilijbplfobneaaDoorFa
namespace Go.Proofs.YtilijbplfobneaaDoor.Cr
set_option linter.unusedVariables false

theorem xor0 {a b : Nat} (e : a ^^^ b = 0) : a = b := by
  have h := congrArg (· ^^^ b) e
  simpa [Nat.xor_assoc] using h
theorem tab_top : ∀ k, k < 16 → tab k < 268435456 → k = 0 := by decide +kernel
theorem st_zero {x : Nat} (h : x < 4294967296) (e : st x = 0) : x = 0 := by
  unfold st at e
  have e1 : x / 16 = tab (x % 16) := xor0 e
  have h1 := tab_top (x % 16) (Nat.mod_lt _ (by decide)) (by omega)
  rw [h1, show tab 0 = 0 from rfl] at e1
  omega
theorem st_inj {a b : Nat} (ha : a < 4294967296) (hb : b < 4294967296) (e : st a = st b) : a = b := by
  have h : st (a ^^^ b) = 0 := by rw [st_lin, e, Nat.xor_self]
  exact xor0 (st_zero (xor_lt ha hb) h)
theorem xor_right_inj' {a b c : Nat} (e : a ^^^ c = b ^^^ c) : a = b := by
  have h := congrArg (· ^^^ c) e
  simpa [Nat.xor_assoc] using h
theorem stB_both {r s c d : Nat} (hr : r < 4294967296) (hs : s < 4294967296) (hc : c < 256) (hd : d < 256) (e : stB r c = stB s d) : r ^^^ c = s ^^^ d := by
  unfold stB at e
  have h1 : r ^^^ c < 4294967296 := xor_lt hr (by omega)
  have h2 : s ^^^ d < 4294967296 := xor_lt hs (by omega)
  exact st_inj h1 h2 (st_inj (st_lt h1) (st_lt h2) e)
theorem crc_inj (L : List UInt8) : ∀ r s, r < 4294967296 → s < 4294967296 → crc r L = crc s L → r = s := by
  induction L with
  | nil => intro r s _ _ e; exact e
  | cons c L ih =>
    intro r s hr hs e
    have hc := UInt8.toNat_lt c
    exact xor_right_inj' (stB_both hr hs hc hc (ih _ _ (stB_lt hr hc) (stB_lt hs hc) e))
theorem crc_set (x : UInt8) (L : List UInt8) : ∀ r i, r < 4294967296 → (h : i < L.length) → crc r (L.set i x) = crc r L → x = L[i] := by
  induction L with
  | nil => intro r i _ h; exact absurd h (by simp)
  | cons c L ih =>
    intro r i hr h e
    have hc := UInt8.toNat_lt c
    have hx := UInt8.toNat_lt x
    cases i with
    | zero =>
      have e2 : stB r x.toNat = stB r c.toNat := crc_inj L _ _ (stB_lt hr hx) (stB_lt hr hc) e
      have e3 := stB_both hr hr hx hc e2
      rw [Nat.xor_comm r, Nat.xor_comm r] at e3
      exact UInt8.toNat_inj.1 (xor_right_inj' e3)
    | succ i =>
      exact ih (stB r c.toNat) i (stB_lt hr hc) (by simpa using h) e
/-- A byte turned turns the sum. -/
theorem sum_set (x : UInt8) (L : List UInt8) (i : Nat) (h : i < L.length) (e : sum (L.set i x) = sum L) : x = L[i] := by
  unfold sum at e
  rw [Nat.xor_comm, Nat.xor_comm 4294967295] at e
  exact crc_set x L _ i (by decide) h (xor_right_inj' e)
end Go.Proofs.YtilijbplfobneaaDoor.Cr
