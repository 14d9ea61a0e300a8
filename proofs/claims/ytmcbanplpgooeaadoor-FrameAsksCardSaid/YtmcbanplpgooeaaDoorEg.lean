/- enc: Unvarint -/
import Derived.Test.YtmcbanplpgooeaaDoorEf
namespace Go.Proofs.YtmcbanplpgooeaaDoor
set_option linter.unusedVariables false
open Go.ChangeShapes Go.WideShapes Go.ChangeAt Go.RowKit

set_option maxHeartbeats 4000000 in
set_option maxRecDepth 100000 in
theorem c_Unvarint (n cap : Nat) (f : Nat → Nat) (ad : Option Addr) (B off : Nat) (hA : 0 < n → ad = some ⟨B, off, none⟩) (W : World) (hn : n ≤ 100000) (hcap : n ≤ cap) (hf : ∀ j, j < n → f j < 256) (hR : ∀ j, j < n → W.cell? ⟨B, off + j, none⟩ = some (.int .u8 (f j))) :
    Calls Tryd.prog 177 #[.slice ad n cap] W fun e w' => e = .returned (.tuple #[.int .u64 (Ec.uv f n 10 0 0).1, .int .i64 (Ec.uv f n 10 0 0).2]) ∧ Gr W w' := by
  have HR := Lib.hid hR
  have HF := Lib.hid hf
  have HAD := Lib.hid hA
  clear hR hf hA
  obtain ⟨m, em⟩ : ∃ m, m = min n 10 := ⟨_, rfl⟩
  have hm : min (n : Int) 10 = (m : Int) := by omega
  have hmc : (m : Int) ≤ (cap : Int) := by omega
  have hmc2 : m ≤ cap := by omega
  have hmn : m ≤ n := by omega
  have hm0 : (0 : Int) ≤ (m : Int) := by omega
  have HM := Lib.hid em
  clear em
  go_enter Tryd.func177, Tryd.ntmps177
  go_wp2_with fail
  go_loopg [2, 12] 11 (fun k x y wr => ∃ (i acc : Nat), x = .int .u64 acc ∧ y = .int .i64 i ∧ i + k = 11 ∧ i ≤ 10 ∧ Wd acc ∧ Ec.uv f n 10 0 0 = Ec.uv f n (10 - i) i acc ∧ Gr W wr)
  case atStart => exact ⟨0, 0, rfl, rfl, rfl, by omega, by unfold Wd; omega, rfl, by go_grown⟩
  case round =>
    obtain ⟨i, acc, rfl, rfl, hk, hi, hw, hE, gwr⟩ := hrel
    have HE := Lib.hid hE
    have HW := Lib.hid hw
    clear hE hw
    by_cases him : i < m
    · have t1 : decide ((i : Int) < (m : Int)) = true := decide_eq_true (by omega)
      have t2 : (i : Int) < (m : Int) := by omega
      have hin : i < n := by omega
      have h10 : i < 10 := by have := HM.out; omega
      · have t3 : True := trivial
        have cc := cell_gr gwr (HR.out i hin)
        have c256 := HF.out i hin
        obtain rfl := HAD.out (by omega)
        have u0 := Ec.uv_bad f n (10 - i) i acc
        have u1 := Ec.uv_last f n (9 - i) i acc hin
        have u2 := Ec.uv_more f n (9 - i) i acc hin
        rw [show 9 - i + 1 = 10 - i by omega] at u1 u2
        obtain ⟨c, ec⟩ : ∃ c, c = f i := ⟨_, rfl⟩
        rw [← ec] at cc c256 u0 u1 u2
        have HU := Lib.hid (And.intro u0 (And.intro u1 u2))
        clear u0 u1 u2 ec HR HF HAD
        have sw := step_word acc c i HW.out c256
        have ws := Ec.stp_wd (c := c) (i := i) HW.out
        obtain ⟨z, ez⟩ : ∃ z, z = Ec.stp acc c i := ⟨_, rfl⟩
        rw [← ez] at sw ws HU
        have HZ := Lib.hid ws
        clear ws ez
        have sw9 : i = 9 → bits BinOp.or IntKind.u64 (acc : Int) (IntKind.u64.wrap (IntKind.u64.wrap (bits BinOp.and IntKind.u8 (c : Int) 127) * 9223372036854775808)) = (z : Int) := by
          intro e
          rw [← sw, e]
          rfl
        have cc9 : i = 9 → wr.cell? ⟨B, off + 9, none⟩ = some (.int .u8 c) := by
          intro e
          rw [← e]
          exact cc
        have bz : ((c : Int) == 0) = true → c = 0 := fun e => by simp at e; omega
        have bn : ((c : Int) == 0) = false → c ≠ 0 := fun e => by simp at e; omega
        have HB := Lib.hid (And.intro bz bn)
        clear bz bn
        by_cases i9 : i = 9
        · have sw9' := sw9 i9
          have cc9' := cc9 i9
          clear sw9 cc9
          have b1 : ((i : Int) == 9) = true := by simp; omega
          go_wp2_with fail
          all_goals (try (have q0 := HB.out.1 ‹((c : Int) == 0) = true›))
          all_goals (try (have q1 := HB.out.2 ‹((c : Int) == 0) = false›))
          all_goals (first
            | (go_ret2; (first | exact ⟨by rw [HE.out, HU.out.1 (by omega)]; rfl, gwr⟩ | exact ⟨by rw [HE.out, HU.out.2.1 (by omega) (by omega)]; rfl, gwr⟩ | exact ⟨by rw [HE.out, HU.out.2.1 (by omega) (by omega)]; simp; omega, gwr⟩))
            | (go_roundg (11 - (i + 1)); (case measure => omega); (case rel => exact ⟨i + 1, z, rfl, by go_num, by omega, by omega, HZ.out, by rw [HE.out, HU.out.2.2 (by omega) (by omega), show 10 - (i + 1) = 9 - i by omega], gwr⟩))
            | fail)
        · have b1 : ((i : Int) == 9) = false := by simp; omega
          clear sw9 cc9
          go_wp2_with fail
          all_goals (try (have q0 := HB.out.1 ‹((c : Int) == 0) = true›))
          all_goals (try (have q1 := HB.out.2 ‹((c : Int) == 0) = false›))
          all_goals (first
            | (go_ret2; (first | exact ⟨by rw [HE.out, HU.out.1 (by omega)]; rfl, gwr⟩ | exact ⟨by rw [HE.out, HU.out.2.1 (by omega) (by omega)]; rfl, gwr⟩ | exact ⟨by rw [HE.out, HU.out.2.1 (by omega) (by omega)]; simp; omega, gwr⟩))
            | (go_roundg (11 - (i + 1)); (case measure => omega); (case rel => exact ⟨i + 1, z, rfl, by go_num, by omega, by omega, HZ.out, by rw [HE.out, HU.out.2.2 (by omega) (by omega), show 10 - (i + 1) = 9 - i by omega], gwr⟩))
            | fail)
    · have t1 : decide ((i : Int) < (m : Int)) = false := decide_eq_false (by omega)
      have t2 : ¬ (i : Int) < (m : Int) := by omega
      have eu : Ec.uv f n (10 - i) i acc = (0, 0) := by
        by_cases hin : i < n
        · have e10 : 10 - i = 0 := by have := HM.out; omega
          rw [e10]; rfl
        · exact Ec.uv_end f n (10 - i) i acc hin
      go_wp2_with fail
      go_ret2
      exact ⟨by rw [HE.out, eu]; rfl, gwr⟩
end Go.Proofs.YtmcbanplpgooeaaDoor
