/- frame: AppendWord -/
import Derived.Test.YtilijbplfobneaaDoorFb
import Derived.Test.YtilijbplfobneaaDoorEa
namespace Go.Proofs.YtilijbplfobneaaDoor
set_option linter.unusedVariables false
open Go.ChangeShapes Go.WideShapes Go.ChangeAt Go.RowKit

/-- A number's four bytes. -/
def wd (v : Nat) : List UInt8 := [UInt8.ofNat (v % 256), UInt8.ofNat (v / 256 % 256), UInt8.ofNat (v / 65536 % 256), UInt8.ofNat (v / 16777216 % 256)]
theorem own_append {w : World} {base : Nat} {v : Value} {L M : List UInt8} (m : Nat) (hm : m = M.length) (h : w.ownsRow base 5 1 v (L.length + m) (L.map bv ++ M.map bv)) : Own w base v (L ++ M) := by
  subst hm
  unfold Own
  rw [List.length_append, List.map_append]
  exact h
set_option maxHeartbeats 4000000 in
set_option maxRecDepth 100000 in
theorem c_AppendWord (L : List UInt8) (b : Value) (v base : Nat) (hv : v < 4294967296) (W : World) (hL : L.length ≤ 1000000) (hb : base ≤ W.heap.size) (hO : Own W base b L) :
    Calls Tryd.prog 56 #[b, .int .u32 v] W fun e w' => ∃ b', e = .returned b' ∧ Own w' base b' (L ++ wd v) ∧ Grown W w' b b' := by
  obtain ⟨i0, hi0, hz0, hz1, hz2⟩ := info_parts (P := Tryd.prog) (e := 5) (z := .int .u8 0) (size := 1) (bytes := 1) (by kernel_rfl)
  have HI := Lib.hid hi0
  have HZ0 := Lib.hid hz0
  have HZ1 := Lib.hid hz1
  have HZ2 := Lib.hid hz2
  obtain ⟨b0, e0⟩ : ∃ q, q = v % 256 := ⟨_, rfl⟩
  obtain ⟨q1, e1⟩ : ∃ q, q = v / 256 := ⟨_, rfl⟩
  obtain ⟨b1, e2⟩ : ∃ q, q = q1 % 256 := ⟨_, rfl⟩
  obtain ⟨q2, e3⟩ : ∃ q, q = v / 65536 := ⟨_, rfl⟩
  obtain ⟨b2, e4⟩ : ∃ q, q = q2 % 256 := ⟨_, rfl⟩
  obtain ⟨q3, e5⟩ : ∃ q, q = v / 16777216 := ⟨_, rfl⟩
  obtain ⟨b3, e6⟩ : ∃ q, q = q3 % 256 := ⟨_, rfl⟩
  have hw : (wd v).map bv = [.int .u8 (b0 : Int), .int .u8 (b1 : Int), .int .u8 (b2 : Int), .int .u8 (b3 : Int)] := by
    rw [e6, e5, e4, e3, e2, e1, e0]
    show [bv _, bv _, bv _, bv _] = _
    rw [byte_eq (by omega), byte_eq (by omega), byte_eq (by omega), byte_eq (by omega)]
  have HW := Lib.hid hw
  have HO := Lib.hid hO
  have c0 : (v : Int) % 256 = (b0 : Int) := by omega
  have c0b : IntKind.u8.wrap (v : Int) = (b0 : Int) := by rw [wraps_u8', ← e0]
  have c1 : (v : Int) / 2 ^ 8 = (q1 : Int) := by rw [show ((2 : Int) ^ 8) = 256 from rfl]; omega
  have c1b : (v : Int) / 256 = (q1 : Int) := by omega
  have c1c : (v : Int) / 2 ^ min 8 64 = (q1 : Int) := c1
  have c1d : (q1 : Int) % 256 = (b1 : Int) := by omega
  have c1e : IntKind.u8.wrap (q1 : Int) = (b1 : Int) := by rw [wraps_u8', ← e2]
  have c2 : (v : Int) / 2 ^ 16 = (q2 : Int) := by rw [show ((2 : Int) ^ 16) = 65536 from rfl]; omega
  have c2b : (v : Int) / 65536 = (q2 : Int) := by omega
  have c2c : (v : Int) / 2 ^ min 16 64 = (q2 : Int) := c2
  have c2d : (q2 : Int) % 256 = (b2 : Int) := by omega
  have c2e : IntKind.u8.wrap (q2 : Int) = (b2 : Int) := by rw [wraps_u8', ← e4]
  have c3 : (v : Int) / 2 ^ 24 = (q3 : Int) := by rw [show ((2 : Int) ^ 24) = 16777216 from rfl]; omega
  have c3b : (v : Int) / 16777216 = (q3 : Int) := by omega
  have c3c : (v : Int) / 2 ^ min 24 64 = (q3 : Int) := c3
  have c3d : (q3 : Int) % 256 = (b3 : Int) := by omega
  have c3e : IntKind.u8.wrap (q3 : Int) = (b3 : Int) := by rw [wraps_u8', ← e6]
  clear hi0 hz0 hz1 hz2 hw hO e0 e1 e2 e3 e4 e5 e6
  go_enter Tryd.func56, Tryd.ntmps56
  go_wp2_with (first | (at_builtin; (refine wpList_append_own2 _ rfl (.tmp 5) (.tmp 17) 35 rfl base 5 i0 (.int .u8 0) 1 1 Tryd.underlying35 HI.out HZ0.out HZ1.out HZ2.out rfl (by decide) b L.length (L.map bv) rfl (World.ownsRow.alloc HO.out _) ⟨W.heap.size, 0, none⟩ 4 4 [.int .u8 (b0 : Int), .int .u8 (b1 : Int), .int .u8 (b2 : Int), .int .u8 (b3 : Int)] rfl rfl (cells_new _ _ _ _ rfl) (by intro u hu; (simp at hu); rcases hu with h | h | h | h <;> subst h <;> rfl) (by unfold maxLen; omega) (by omega) (by simp; omega) ?_); intro v1 w2 own2 grow2))
  go_ret
  refine ⟨_, rfl, own_append 4 rfl (by rw [HW.out]; exact own2), ((Grown.refl _ _).alloc _).trans grow2⟩
end Go.Proofs.YtilijbplfobneaaDoor
