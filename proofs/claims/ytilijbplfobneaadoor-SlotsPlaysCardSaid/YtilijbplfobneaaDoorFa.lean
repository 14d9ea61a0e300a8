/- a check sum: plain facts -/
namespace Go.Proofs.YtilijbplfobneaaDoor.Cr
set_option linter.unusedVariables false

def tabL : List Nat := [0, 498536548, 997073096, 651767980, 1994146192, 1802195444, 1303535960, 1342533948, 3988292384, 4027552580, 3604390888, 3412177804, 2607071920, 2262029012, 2685067896, 3183342108]
def tab (k : Nat) : Nat := tabL.getD k 0
/-- Half a byte's step of the register. -/
def st (r : Nat) : Nat := (r / 16) ^^^ tab (r % 16)
/-- A byte's. -/
def stB (r c : Nat) : Nat := st (st (r ^^^ c))
def crc (r : Nat) (L : List UInt8) : Nat := L.foldl (fun r c => stB r c.toNat) r
def sum (L : List UInt8) : Nat := 4294967295 ^^^ crc 4294967295 L
theorem tab_lin : ∀ a, a < 16 → ∀ b, b < 16 → tab (a ^^^ b) = tab a ^^^ tab b := by decide +kernel
theorem tab_lt : ∀ a, a < 16 → tab a < 4294967296 := by decide +kernel
theorem st_lin (a b : Nat) : st (a ^^^ b) = st a ^^^ st b := by
  unfold st
  have e1 : (a ^^^ b) / 16 = a / 16 ^^^ b / 16 := by
    have := Nat.shiftRight_xor_distrib (a := a) (b := b) (i := 4)
    simpa [Nat.shiftRight_eq_div_pow] using this
  have e2 : (a ^^^ b) % 16 = a % 16 ^^^ b % 16 := by
    have := Nat.xor_mod_two_pow (a := a) (b := b) (n := 4)
    simpa using this
  rw [e1, e2, tab_lin _ (Nat.mod_lt _ (by decide)) _ (Nat.mod_lt _ (by decide))]
  ac_rfl
theorem xor_lt {a b : Nat} (ha : a < 4294967296) (hb : b < 4294967296) : a ^^^ b < 4294967296 := Nat.xor_lt_two_pow (n := 32) ha hb
theorem st_lt {r : Nat} (h : r < 4294967296) : st r < 4294967296 := xor_lt (by omega) (tab_lt _ (Nat.mod_lt _ (by decide)))
theorem stB_lt {r c : Nat} (h : r < 4294967296) (hc : c < 256) : stB r c < 4294967296 := st_lt (st_lt (xor_lt h (by omega)))
theorem crc_lt (L : List UInt8) : ∀ r, r < 4294967296 → crc r L < 4294967296 := by
  induction L with
  | nil => intro r h; exact h
  | cons c L ih => intro r h; exact ih _ (stB_lt h (UInt8.toNat_lt c))
theorem crc_snoc (r : Nat) (L : List UInt8) (c : UInt8) : crc r (L ++ [c]) = stB (crc r L) c.toNat := by unfold crc; rw [List.foldl_append]; rfl
theorem crc_take (L : List UInt8) (r i : Nat) (h : i < L.length) : crc r (L.take (i + 1)) = stB (crc r (L.take i)) (L.getD i 0).toNat := by
  rw [List.take_succ_eq_append_getElem h, crc_snoc, List.getD_eq_getElem?_getD, List.getElem?_eq_getElem h]; rfl
theorem stB_lin (a b c d : Nat) : stB (a ^^^ b) (c ^^^ d) = stB a c ^^^ stB b d := by
  unfold stB
  rw [← st_lin, ← st_lin, show a ^^^ b ^^^ (c ^^^ d) = (a ^^^ c) ^^^ (b ^^^ d) by ac_rfl]
/-- Three rows put over each other. -/
def over3 (A B C : List UInt8) : List UInt8 := List.zipWith (· ^^^ ·) (List.zipWith (· ^^^ ·) A B) C
theorem crc_over : ∀ (A B C : List UInt8) (r s t : Nat), A.length = B.length → A.length = C.length → crc (r ^^^ s ^^^ t) (over3 A B C) = crc r A ^^^ crc s B ^^^ crc t C := by
  intro A
  induction A with
  | nil =>
    intro B C r s t h1 h2
    obtain rfl := List.eq_nil_of_length_eq_zero h1.symm
    obtain rfl := List.eq_nil_of_length_eq_zero h2.symm
    rfl
  | cons a A ih =>
    intro B C r s t h1 h2
    match B, C, h1, h2 with
    | b :: B, c :: C, h1, h2 =>
      show crc (stB (r ^^^ s ^^^ t) (a ^^^ b ^^^ c).toNat) (over3 A B C) = crc (stB r a.toNat) A ^^^ crc (stB s b.toNat) B ^^^ crc (stB t c.toNat) C
      rw [UInt8.toNat_xor, UInt8.toNat_xor, stB_lin, stB_lin]
      exact ih B C _ _ _ (by simpa using h1) (by simpa using h2)
theorem sum_over (A B C : List UInt8) (h1 : A.length = B.length) (h2 : A.length = C.length) : sum (over3 A B C) = sum A ^^^ sum B ^^^ sum C := by
  unfold sum
  have h := crc_over A B C 4294967295 4294967295 4294967295 h1 h2
  rw [show (4294967295 ^^^ 4294967295 ^^^ 4294967295 : Nat) = 4294967295 from by decide] at h
  rw [h]
  have e : (4294967295 : Nat) = 4294967295 ^^^ 4294967295 ^^^ 4294967295 := by decide
  conv => lhs; rw [e]
  ac_rfl
theorem sum_lt (L : List UInt8) : sum L < 4294967296 := xor_lt (by decide) (crc_lt L _ (by decide))
end Go.Proofs.YtilijbplfobneaaDoor.Cr
