/- enc: reading numbers with a sign -/
import Derived.Test.YtmcbanplpgooeaaDoorEg
namespace Go.Proofs.YtmcbanplpgooeaaDoor
set_option linter.unusedVariables false
open Go.ChangeShapes Go.WideShapes Go.ChangeAt Go.RowKit

/-- The number with a sign of one without. -/
def si (v : Nat) : Int := if v % 2 = 1 then -((v / 2 : Nat) : Int) - 1 else ((v / 2 : Nat) : Int)
theorem xori0 (a : Nat) (ha : a < 9223372036854775808) : bits BinOp.xor IntKind.i64 (a : Int) 0 = (a : Int) := by
  have h1 : (BitVec.ofInt 64 (a : Int)).toNat = a := by
    rw [BitVec.ofInt_natCast, BitVec.toNat_ofNat]; exact Nat.mod_eq_of_lt (by omega)
  show IntKind.i64.wrap ((BitVec.ofInt 64 (a : Int) ^^^ BitVec.ofInt 64 (0 : Int)).toNat : Int) = _
  rw [BitVec.toNat_xor, h1, show (BitVec.ofInt 64 (0 : Int)).toNat = 0 from rfl, Nat.xor_zero, IntKind.wrap_i64]
  omega
theorem xori1 (a : Nat) (ha : a < 9223372036854775808) : bits BinOp.xor IntKind.i64 (a : Int) (-1) = -(a : Int) - 1 := by
  show IntKind.i64.wrap ((BitVec.ofInt 64 (a : Int) ^^^ BitVec.ofInt 64 (-1 : Int)).toNat : Int) = _
  rw [show BitVec.ofInt 64 (-1 : Int) = BitVec.allOnes 64 from rfl, BitVec.xor_allOnes, BitVec.toNat_not, BitVec.ofInt_natCast, BitVec.toNat_ofNat, IntKind.wrap_i64]
  omega
theorem and1w (v : Nat) (hv : Wd v) : bits BinOp.and IntKind.u64 (v : Int) 1 = ((v % 2 : Nat) : Int) := by
  have e := (bits_nat .u64 64 (by decide) (fun n h0 h1 => by rw [IntKind.wrap_u64]; omega) v 1 (by unfold Wd at hv; omega) (by omega)).1
  rw [show v &&& 1 = v % 2 from Nat.and_two_pow_sub_one_eq_mod v 1] at e
  exact e
set_option maxHeartbeats 4000000 in
set_option maxRecDepth 100000 in
theorem c_Unsigned (n cap : Nat) (f : Nat → Nat) (ad : Option Addr) (B off : Nat) (hA : 0 < n → ad = some ⟨B, off, none⟩) (W : World) (hn : n ≤ 100000) (hcap : n ≤ cap) (hf : ∀ j, j < n → f j < 256) (hR : ∀ j, j < n → W.cell? ⟨B, off + j, none⟩ = some (.int .u8 (f j))) :
    Calls Tryd.prog 178 #[.slice ad n cap] W fun e w' => e = .returned (.tuple #[.int .i64 (si (Ec.uv f n 10 0 0).1), .int .i64 (Ec.uv f n 10 0 0).2, .bool (decide (0 < (Ec.uv f n 10 0 0).2))]) ∧ Gr W w' := by
  have A := c_Unvarint n cap f ad B off hA W hn hcap hf hR
  have ww := Ec.uv_wd f n 10 0 0 (by decide)
  obtain ⟨v, ev⟩ : ∃ v, v = (Ec.uv f n 10 0 0).1 := ⟨_, rfl⟩
  obtain ⟨s, es⟩ : ∃ s, s = (Ec.uv f n 10 0 0).2 := ⟨_, rfl⟩
  rw [← ev, ← es] at A ww
  rw [← ev, ← es]
  have hs : s ≤ 10 := by omega
  have hv : Wd v := ww.1
  have HA := Lib.hid A
  clear A ww ev es hA hR hf
  obtain ⟨h, eh⟩ : ∃ h, h = v / 2 := ⟨_, rfl⟩
  obtain ⟨b, eb⟩ : ∃ b, b = v % 2 := ⟨_, rfl⟩
  have hh : h < 9223372036854775808 := by unfold Wd at hv; omega
  have c1 : (v : Int) / 2 = (h : Int) := by omega
  have c2 : IntKind.i64.wrap (h : Int) = h := by rw [IntKind.wrap_i64]; omega
  have c3 : bits BinOp.and IntKind.u64 (v : Int) 1 = (b : Int) := by rw [and1w v hv, eb]
  have hb : b = 0 ∨ b = 1 := by omega
  obtain ⟨g, eg⟩ : ∃ g : Int, g = -(b : Int) := ⟨_, rfl⟩
  have c4 : IntKind.i64.wrap (b : Int) = b := by rw [IntKind.wrap_i64]; omega
  have c5 : IntKind.i64.wrap (-(b : Int)) = g := by rw [IntKind.wrap_i64]; omega
  have c5b : -(b : Int) = g := eg.symm
  have c5c : wrap64 g = g := by first | (unfold wrap64; omega) | (show IntKind.i64.wrap g = g; rw [IntKind.wrap_i64]; omega)
  have c6 : bits BinOp.xor IntKind.i64 (h : Int) g = si v := by
    unfold si
    rcases hb with h0 | h0
    · rw [if_neg (by omega), eg, h0]; show bits BinOp.xor IntKind.i64 (h : Int) 0 = _; rw [xori0 h hh, eh]
    · rw [if_pos (by omega), eg, h0]; show bits BinOp.xor IntKind.i64 (h : Int) (-1) = _; rw [xori1 h hh, eh]
  obtain ⟨q, eq⟩ : ∃ q, q = si v := ⟨_, rfl⟩
  rw [← eq] at c6
  rw [← eq]
  clear eq eh eb eg hb
  go_enter Tryd.func178, Tryd.ntmps178
  go_wp2_with (first | (go_at_call 177; (with_reducible refine HA.out.mono ?_); rintro e w2 ⟨rfl, gz⟩))
  go_ret3
  exact ⟨rfl, gz⟩
end Go.Proofs.YtmcbanplpgooeaaDoor
