/- disk: New, Read, op -/
import Derived.Test.YtapfecmdfoobcaaGreatDoorDb
namespace Go.Proofs.YtapfecmdfoobcaaGreatDoor
set_option linter.unusedVariables false
set_option linter.unusedSimpArgs false
open Go.ChangeShapes Go.WideShapes Go.ChangeAt Go.RowKit Go.Maps

/-- A new disk. -/
def dk0 (n : Nat) (L : List UInt8) : Dk := ⟨n, L, [], fun _ => [], 0, false, 0, false⟩
theorem dk0_ok {n : Nat} {L : List UInt8} (h1 : 1 ≤ n) (h2 : n ≤ 8192) (hl : L.length = n * 64) : (dk0 n L).ok where
  n1 := h1
  n2 := h2
  len := hl
  nodup := List.nodup_nil
  lt := fun k hk => absurd hk List.not_mem_nil
  sz := fun k hk => absurd hk List.not_mem_nil
  ops := Nat.zero_le _
  left := fun _ => ⟨Int.le_refl _, Int.le_refl _⟩
  lft := Lib.hid ⟨by show (-9223372036854775808 : Int) ≤ 0; decide, by show (0 : Int) ≤ 9223372036854775807; decide⟩
theorem d_faultNew (op : ByteArray) (id k : Int) (W : World) : Calls Tryz.prog 26 #[.string op, .int .i64 id, .iface 60 (.int .i64 k)] W fun e w' => ∃ B, e = .returned (.iface 63 (.pointer (some ⟨B, 0, none⟩))) ∧ FaultAt w' B op id k ∧ Gr W w' := by
  go_enter Tryz.func26, Tryz.ntmps26
  go_wp2_with fail
  go_ret
  exact ⟨_, rfl, ⟨by go_simp, by go_simp, by go_simp⟩, by go_grown⟩
section
variable {p g bm : Nat} {M : Option Nat} {d : Dk}
theorem read_len (H : d.ok) {k : Nat} (hk : k < d.n) : (d.read k).length = 64 := by
  unfold Dk.read
  split
  · exact H.sz k (by assumption)
  · unfold sec; rw [List.length_take, List.length_drop, H.len]; omega
theorem KI : Keyed Tryz.prog 3 := int_keyed Tryz.underlying3
theorem zeroB (w : World) : (zeroValue 69).run Tryz.prog w = .ok (.slice none 0 0) w := by kernel_rfl
theorem ik_wf {k : Nat} (h : k < 1000000) : (Lit.int .i64 (k : Int)).wf = true := WalkArith.wf_i64 (by omega)
theorem ik_of {k : Nat} (h : k < 1000000) : keyOf Tryz.prog 3 (.int .i64 (k : Int)) = some (ik k) := keyOf_int_mk Tryz.underlying3 (ik_wf h)
abbrev readS : ByteArray := ⟨#[114, 101, 97, 100]⟩
abbrev writeS : ByteArray := ⟨#[119, 114, 105, 116, 101]⟩
abbrev syncS : ByteArray := ⟨#[115, 121, 110, 99]⟩
end
end Go.Proofs.YtapfecmdfoobcaaGreatDoor
