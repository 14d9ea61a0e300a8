/- enc: the document's Unvarint -/
import Derived.Test.YtmcbanplpgooeaaDoorEd
import Derived.Test.YtmcbanplpgooeaaDoorEe
namespace Go.Proofs.YtmcbanplpgooeaaDoor
set_option linter.unusedVariables false
open Go.ChangeShapes Go.WideShapes Go.ChangeAt Go.RowKit

theorem step_word (acc c i : Nat) (ha : Wd acc) (hc : c < 256) : bits BinOp.or IntKind.u64 (acc : Int) (IntKind.u64.wrap (IntKind.u64.wrap (bits BinOp.and IntKind.u8 (c : Int) 127) * 2 ^ (7 * i))) = ((Ec.stp acc c i : Nat) : Int) := by
  have e := (bits_nat .u8 8 (by decide) (fun n h0 h1 => wraps_u8 n h0 h1) c 127 (by omega) (by omega)).1
  rw [show c &&& 127 = c % 128 from Nat.and_two_pow_sub_one_eq_mod c 7] at e
  have e' : bits BinOp.and IntKind.u8 (c : Int) 127 = ((c % 128 : Nat) : Int) := e
  rw [e', show IntKind.u64.wrap ((c % 128 : Nat) : Int) = ((c % 128 : Nat) : Int) by rw [IntKind.wrap_u64]; omega]
  have e2 : IntKind.u64.wrap (((c % 128 : Nat) : Int) * 2 ^ (7 * i)) = (((c % 128) * 2 ^ (7 * i) % 18446744073709551616 : Nat) : Int) := by
    rw [show ((c % 128 : Nat) : Int) * 2 ^ (7 * i) = ((c % 128 * 2 ^ (7 * i) : Nat) : Int) by rw [Int.natCast_mul, Int.natCast_pow]; rfl, IntKind.wrap_u64]
    exact (Int.natCast_emod _ _).symm
  rw [e2]
  unfold Wd at ha
  exact (bits_nat .u64 64 (by decide) (fun n h0 h1 => by rw [IntKind.wrap_u64]; omega) acc _ (by omega) (by omega)).2
set_option maxHeartbeats 4000000 in
set_option maxRecDepth 100000 in
theorem c_rUnvarint (n cap : Nat) (f : Nat → Nat) (ad : Option Addr) (B off : Nat) (hA : 0 < n → ad = some ⟨B, off, none⟩) (W : World) (hn : n ≤ 100000) (hf : ∀ j, j < n → f j < 256) (hR : ∀ j, j < n → W.cell? ⟨B, off + j, none⟩ = some (.int .u8 (f j))) :
    Calls Tryd.prog 132 #[.slice ad n cap] W fun e w' => e = .returned (.tuple #[.int .u64 (Ec.uv f n 10 0 0).1, .int .i64 (Ec.uv f n 10 0 0).2]) ∧ Gr W w' := by
  have HR := Lib.hid hR
  have HF := Lib.hid hf
  have HAD := Lib.hid hA
  clear hR hf hA
  go_enter Tryd.func132, Tryd.ntmps132
  go_wp2_with fail
  go_loopg [4, 5] 11 (fun k x y wr => ∃ (i acc : Nat), x = .int .u64 acc ∧ y = .int .i64 i ∧ i + k = 11 ∧ i ≤ 10 ∧ Wd acc ∧ Ec.uv f n 10 0 0 = Ec.uv f n (10 - i) i acc ∧ Gr W wr)
  case atStart => exact ⟨0, 0, rfl, rfl, rfl, by omega, by unfold Wd; omega, rfl, by go_grown⟩
  case round =>
    obtain ⟨i, acc, rfl, rfl, hk, hi, hw, hE, gwr⟩ := hrel
    have HE := Lib.hid hE
    have HW := Lib.hid hw
    clear hE hw
    by_cases hin : i < n
    · have t1 : decide ((i : Int) < (n : Int)) = true := decide_eq_true (by omega)
      have t2 : (i : Int) < (n : Int) := by omega
      by_cases h10 : i < 10
      · have t3 : decide ((i : Int) < 10) = true := decide_eq_true (by omega)
        have t4 : (i : Int) < 10 := by omega
        have cc := cell_gr gwr (HR.out i hin)
        have c256 := HF.out i hin
        obtain rfl := HAD.out (by omega)
        have u0 := Ec.uv_bad f n (10 - i) i acc
        have u1 := Ec.uv_last f n (9 - i) i acc hin
        have u2 := Ec.uv_more f n (9 - i) i acc hin
        rw [show 9 - i + 1 = 10 - i by omega] at u1 u2
        obtain ⟨c, ec⟩ : ∃ c, c = f i := ⟨_, rfl⟩
        rw [← ec] at cc c256 u0 u1 u2
        have HU := Lib.hid (And.intro u0 (And.intro u1 u2))
        clear u0 u1 u2 ec HR HF HAD
        have sw := step_word acc c i HW.out c256
        have ws := Ec.stp_wd (c := c) (i := i) HW.out
        obtain ⟨z, ez⟩ : ∃ z, z = Ec.stp acc c i := ⟨_, rfl⟩
        rw [← ez] at sw ws HU
        have HZ := Lib.hid ws
        clear ws ez
        have sw9 : i = 9 → bits BinOp.or IntKind.u64 (acc : Int) (IntKind.u64.wrap (IntKind.u64.wrap (bits BinOp.and IntKind.u8 (c : Int) 127) * 9223372036854775808)) = (z : Int) := by
          intro e
          rw [← sw, e]
          rfl
        have cc9 : i = 9 → wr.cell? ⟨B, off + 9, none⟩ = some (.int .u8 c) := by
          intro e
          rw [← e]
          exact cc
        by_cases i9 : i = 9
        · have sw9' := sw9 i9
          have cc9' := cc9 i9
          clear sw9 cc9
          have b1 : ((i : Int) == 9) = true := by simp; omega
          go_wp2_with fail
          all_goals (first
            | (go_ret2; (first | exact ⟨by rw [HE.out, HU.out.1 (by omega)]; rfl, gwr⟩ | exact ⟨by rw [HE.out, HU.out.2.1 (by omega) (by omega)]; rfl, gwr⟩ | exact ⟨by rw [HE.out, HU.out.2.1 (by omega) (by omega)]; simp; omega, gwr⟩))
            | (go_roundg (11 - (i + 1)); (case measure => omega); (case rel => exact ⟨i + 1, z, rfl, by go_num, by omega, by omega, HZ.out, by rw [HE.out, HU.out.2.2 (by omega) (by omega), show 10 - (i + 1) = 9 - i by omega], gwr⟩))
            | fail)
        · have b1 : ((i : Int) == 9) = false := by simp; omega
          clear sw9 cc9
          go_wp2_with fail
          all_goals (first
            | (go_ret2; (first | exact ⟨by rw [HE.out, HU.out.1 (by omega)]; rfl, gwr⟩ | exact ⟨by rw [HE.out, HU.out.2.1 (by omega) (by omega)]; rfl, gwr⟩ | exact ⟨by rw [HE.out, HU.out.2.1 (by omega) (by omega)]; simp; omega, gwr⟩))
            | (go_roundg (11 - (i + 1)); (case measure => omega); (case rel => exact ⟨i + 1, z, rfl, by go_num, by omega, by omega, HZ.out, by rw [HE.out, HU.out.2.2 (by omega) (by omega), show 10 - (i + 1) = 9 - i by omega], gwr⟩))
            | fail)
      · have t3 : decide ((i : Int) < 10) = false := decide_eq_false (by omega)
        have t4 : ¬ (i : Int) < 10 := by omega
        have e10 : 10 - i = 0 := by omega
        go_wp2_with fail
        go_ret2
        exact ⟨by rw [HE.out, e10]; rfl, gwr⟩
    · have t1 : decide ((i : Int) < (n : Int)) = false := decide_eq_false (by omega)
      have t2 : ¬ (i : Int) < (n : Int) := by omega
      have eu := Ec.uv_end f n (10 - i) i acc hin
      go_wp2_with fail
      go_ret2
      exact ⟨by rw [HE.out, eu]; rfl, gwr⟩
end Go.Proofs.YtmcbanplpgooeaaDoor
