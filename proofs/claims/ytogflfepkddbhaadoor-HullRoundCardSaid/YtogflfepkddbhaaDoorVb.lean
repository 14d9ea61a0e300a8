/- the document's own Times, CompareProducts, CompareDist -/
import Derived.Test.YtogflfepkddbhaaDoorVa
import Derived.Test.YtogflfepkddbhaaDoorH
namespace Go.Proofs.YtogflfepkddbhaaDoor
set_option linter.unusedVariables false
open Go.ChangeShapes Go.WideShapes Go.ChangeAt Go.RowKit

/-- The product of a number of four words of 32 bits and one of two, and its words. -/
theorem c_times42 (a0 a1 a2 a3 b0 b1 : Nat) (h0 : Hw a0) (h1 : Hw a1) (h2 : Hw a2) (h3 : Hw a3) (g0 : Hw b0) (g1 : Hw b1) : ∃ z0 z1 z2 z3 z4 z5 : Nat, Hw z0 ∧ Hw z1 ∧ Hw z2 ∧ Hw z3 ∧ Hw z4 ∧ Hw z5 ∧
    (a0 + a1 * 4294967296 + (a2 + a3 * 4294967296) * 18446744073709551616) * (b0 + b1 * 4294967296) = (z0 + z1 * 4294967296) + (z2 + z3 * 4294967296) * 18446744073709551616 + (z4 + z5 * 4294967296) * 340282366920938463463374607431768211456 ∧
    ∀ (A B ca cb : Nat) (w : World), A < w.heap.size → B < w.heap.size → w.cell? ⟨A, 0, none⟩ = some (.int .u64 a0) → w.cell? ⟨A, 1, none⟩ = some (.int .u64 a1) → w.cell? ⟨A, 2, none⟩ = some (.int .u64 a2) → w.cell? ⟨A, 3, none⟩ = some (.int .u64 a3) → w.cell? ⟨B, 0, none⟩ = some (.int .u64 b0) → w.cell? ⟨B, 1, none⟩ = some (.int .u64 b1) →
    Calls Tryd.prog 86 #[.slice (some ⟨A, 0, none⟩) 4 ca, .slice (some ⟨B, 0, none⟩) 2 cb] w fun e w' => ∃ O, e = .returned (.slice (some ⟨O, 0, none⟩) 6 6) ∧ w'.cell? ⟨O, 0, none⟩ = some (.int .u64 z0) ∧ w'.cell? ⟨O, 1, none⟩ = some (.int .u64 z1) ∧ w'.cell? ⟨O, 2, none⟩ = some (.int .u64 z2) ∧ w'.cell? ⟨O, 3, none⟩ = some (.int .u64 z3) ∧ w'.cell? ⟨O, 4, none⟩ = some (.int .u64 z4) ∧ w'.cell? ⟨O, 5, none⟩ = some (.int .u64 z5) ∧ Gr w w' := by
  have q00 := hw_mul h0 g0
  obtain ⟨p00, e00⟩ : ∃ p, p = a0 * b0 := ⟨_, rfl⟩
  have q01 := hw_mul h0 g1
  obtain ⟨p01, e01⟩ : ∃ p, p = a0 * b1 := ⟨_, rfl⟩
  have q10 := hw_mul h1 g0
  obtain ⟨p10, e10⟩ : ∃ p, p = a1 * b0 := ⟨_, rfl⟩
  have q11 := hw_mul h1 g1
  obtain ⟨p11, e11⟩ : ∃ p, p = a1 * b1 := ⟨_, rfl⟩
  have q20 := hw_mul h2 g0
  obtain ⟨p20, e20⟩ : ∃ p, p = a2 * b0 := ⟨_, rfl⟩
  have q21 := hw_mul h2 g1
  obtain ⟨p21, e21⟩ : ∃ p, p = a2 * b1 := ⟨_, rfl⟩
  have q30 := hw_mul h3 g0
  obtain ⟨p30, e30⟩ : ∃ p, p = a3 * b0 := ⟨_, rfl⟩
  have q31 := hw_mul h3 g1
  obtain ⟨p31, e31⟩ : ∃ p, p = a3 * b1 := ⟨_, rfl⟩
  have eP : (a0 + a1 * 4294967296 + (a2 + a3 * 4294967296) * 18446744073709551616) * (b0 + b1 * 4294967296) = p00 + (p01 + p10) * 4294967296 + (p11 + p20) * 18446744073709551616 + (p21 + p30) * 79228162514264337593543950336 + p31 * 340282366920938463463374607431768211456 := by
    rw [e00, e01, e10, e11, e20, e21, e30, e31]; grind
  rw [eP]
  have m00 : IntKind.u64.wrap ((a0 : Int) * (b0 : Int)) = (p00 : Int) := by rw [← Int.natCast_mul, ← e00]; exact IntWalk.u64_in _ (by omega)
  rw [← e00] at q00
  have m01 : IntKind.u64.wrap ((a0 : Int) * (b1 : Int)) = (p01 : Int) := by rw [← Int.natCast_mul, ← e01]; exact IntWalk.u64_in _ (by omega)
  rw [← e01] at q01
  have m10 : IntKind.u64.wrap ((a1 : Int) * (b0 : Int)) = (p10 : Int) := by rw [← Int.natCast_mul, ← e10]; exact IntWalk.u64_in _ (by omega)
  rw [← e10] at q10
  have m11 : IntKind.u64.wrap ((a1 : Int) * (b1 : Int)) = (p11 : Int) := by rw [← Int.natCast_mul, ← e11]; exact IntWalk.u64_in _ (by omega)
  rw [← e11] at q11
  have m20 : IntKind.u64.wrap ((a2 : Int) * (b0 : Int)) = (p20 : Int) := by rw [← Int.natCast_mul, ← e20]; exact IntWalk.u64_in _ (by omega)
  rw [← e20] at q20
  have m21 : IntKind.u64.wrap ((a2 : Int) * (b1 : Int)) = (p21 : Int) := by rw [← Int.natCast_mul, ← e21]; exact IntWalk.u64_in _ (by omega)
  rw [← e21] at q21
  have m30 : IntKind.u64.wrap ((a3 : Int) * (b0 : Int)) = (p30 : Int) := by rw [← Int.natCast_mul, ← e30]; exact IntWalk.u64_in _ (by omega)
  rw [← e30] at q30
  have m31 : IntKind.u64.wrap ((a3 : Int) * (b1 : Int)) = (p31 : Int) := by rw [← Int.natCast_mul, ← e31]; exact IntWalk.u64_in _ (by omega)
  rw [← e31] at q31
  clear eP e00 e01 e10 e11 e20 e21 e30 e31 h0 h1 h2 h3 g0 g1
  obtain ⟨o00, do00⟩ : ∃ x, x = p00 % 4294967296 := ⟨_, rfl⟩
  obtain ⟨c00, dc00⟩ : ∃ x, x = p00 / 4294967296 := ⟨_, rfl⟩
  obtain ⟨v01, dv01⟩ : ∃ x, x = p01 + c00 := ⟨_, rfl⟩
  obtain ⟨o01, do01⟩ : ∃ x, x = v01 % 4294967296 := ⟨_, rfl⟩
  obtain ⟨c01, dc01⟩ : ∃ x, x = v01 / 4294967296 := ⟨_, rfl⟩
  obtain ⟨t10, dt10⟩ : ∃ x, x = p10 + o01 := ⟨_, rfl⟩
  obtain ⟨o10, do10⟩ : ∃ x, x = t10 % 4294967296 := ⟨_, rfl⟩
  obtain ⟨c10, dc10⟩ : ∃ x, x = t10 / 4294967296 := ⟨_, rfl⟩
  obtain ⟨t11, dt11⟩ : ∃ x, x = p11 + c01 := ⟨_, rfl⟩
  obtain ⟨v11, dv11⟩ : ∃ x, x = t11 + c10 := ⟨_, rfl⟩
  obtain ⟨o11, do11⟩ : ∃ x, x = v11 % 4294967296 := ⟨_, rfl⟩
  obtain ⟨c11, dc11⟩ : ∃ x, x = v11 / 4294967296 := ⟨_, rfl⟩
  obtain ⟨t20, dt20⟩ : ∃ x, x = p20 + o11 := ⟨_, rfl⟩
  obtain ⟨o20, do20⟩ : ∃ x, x = t20 % 4294967296 := ⟨_, rfl⟩
  obtain ⟨c20, dc20⟩ : ∃ x, x = t20 / 4294967296 := ⟨_, rfl⟩
  obtain ⟨t21, dt21⟩ : ∃ x, x = p21 + c11 := ⟨_, rfl⟩
  obtain ⟨v21, dv21⟩ : ∃ x, x = t21 + c20 := ⟨_, rfl⟩
  obtain ⟨o21, do21⟩ : ∃ x, x = v21 % 4294967296 := ⟨_, rfl⟩
  obtain ⟨c21, dc21⟩ : ∃ x, x = v21 / 4294967296 := ⟨_, rfl⟩
  obtain ⟨t30, dt30⟩ : ∃ x, x = p30 + o21 := ⟨_, rfl⟩
  obtain ⟨o30, do30⟩ : ∃ x, x = t30 % 4294967296 := ⟨_, rfl⟩
  obtain ⟨c30, dc30⟩ : ∃ x, x = t30 / 4294967296 := ⟨_, rfl⟩
  obtain ⟨t31, dt31⟩ : ∃ x, x = p31 + c21 := ⟨_, rfl⟩
  obtain ⟨v31, dv31⟩ : ∃ x, x = t31 + c30 := ⟨_, rfl⟩
  obtain ⟨o31, do31⟩ : ∃ x, x = v31 % 4294967296 := ⟨_, rfl⟩
  obtain ⟨c31, dc31⟩ : ∃ x, x = v31 / 4294967296 := ⟨_, rfl⟩
  have bo00 : o00 < 4294967296 := by omega
  have bv00 : p00 < 18446744073709551616 := by omega
  have bc00 : c00 < 4294967296 := by omega
  have bo01 : o01 < 4294967296 := by omega
  have bv01 : v01 < 18446744073709551616 := by omega
  have bc01 : c01 < 4294967296 := by omega
  have bo10 : o10 < 4294967296 := by omega
  have bv10 : t10 < 18446744073709551616 := by omega
  have bc10 : c10 < 4294967296 := by omega
  have bt10 : t10 < 18446744073709551616 := by omega
  have bo11 : o11 < 4294967296 := by omega
  have bv11 : v11 < 18446744073709551616 := by omega
  have bc11 : c11 < 4294967296 := by omega
  have bt11 : t11 < 18446744073709551616 := by omega
  have bo20 : o20 < 4294967296 := by omega
  have bv20 : t20 < 18446744073709551616 := by omega
  have bc20 : c20 < 4294967296 := by omega
  have bt20 : t20 < 18446744073709551616 := by omega
  have bo21 : o21 < 4294967296 := by omega
  have bv21 : v21 < 18446744073709551616 := by omega
  have bc21 : c21 < 4294967296 := by omega
  have bt21 : t21 < 18446744073709551616 := by omega
  have bo30 : o30 < 4294967296 := by omega
  have bv30 : t30 < 18446744073709551616 := by omega
  have bc30 : c30 < 4294967296 := by omega
  have bt30 : t30 < 18446744073709551616 := by omega
  have bo31 : o31 < 4294967296 := by omega
  have bv31 : v31 < 18446744073709551616 := by omega
  have bc31 : c31 < 4294967296 := by omega
  have bt31 : t31 < 18446744073709551616 := by omega
  refine ⟨o00, o10, o20, o30, o31, c31, by unfold Hw; omega, by unfold Hw; omega, by unfold Hw; omega, by unfold Hw; omega, by unfold Hw; omega, by unfold Hw; omega, by omega, fun A B ca cb w hA hB k0 k1 k2 k3 k4 k5 => ?_⟩
  exact times42_walk a0 a1 a2 a3 b0 b1 p00 o00 c00 p01 v01 o01 c01 p10 t10 o10 c10 p11 t11 v11 o11 c11 p20 t20 o20 c20 p21 t21 v21 o21 c21 p30 t30 o30 c30 p31 t31 v31 o31 c31 A B ca cb w hA hB k0 k1 k2 k3 k4 k5 m00 (IntWalk.u64_in _ (by omega)) (by rw [mask32 _ (by unfold Wd; omega), do00]) (by omega) m01 (IntWalk.u64_in _ (by omega)) (by rw [← Int.natCast_add, ← dv01]; exact IntWalk.u64_in _ (by omega)) (by rw [mask32 _ (by unfold Wd; omega), do01]) (by omega) m10 (by rw [← Int.natCast_add, ← dt10]; exact IntWalk.u64_in _ (by omega)) (IntWalk.u64_in _ (by omega)) (by rw [mask32 _ (by unfold Wd; omega), do10]) (by omega) m11 (by rw [← Int.natCast_add, ← dt11]; exact IntWalk.u64_in _ (by omega)) (by rw [← Int.natCast_add, ← dv11]; exact IntWalk.u64_in _ (by omega)) (by rw [mask32 _ (by unfold Wd; omega), do11]) (by omega) m20 (by rw [← Int.natCast_add, ← dt20]; exact IntWalk.u64_in _ (by omega)) (IntWalk.u64_in _ (by omega)) (by rw [mask32 _ (by unfold Wd; omega), do20]) (by omega) m21 (by rw [← Int.natCast_add, ← dt21]; exact IntWalk.u64_in _ (by omega)) (by rw [← Int.natCast_add, ← dv21]; exact IntWalk.u64_in _ (by omega)) (by rw [mask32 _ (by unfold Wd; omega), do21]) (by omega) m30 (by rw [← Int.natCast_add, ← dt30]; exact IntWalk.u64_in _ (by omega)) (IntWalk.u64_in _ (by omega)) (by rw [mask32 _ (by unfold Wd; omega), do30]) (by omega) m31 (by rw [← Int.natCast_add, ← dt31]; exact IntWalk.u64_in _ (by omega)) (by rw [← Int.natCast_add, ← dv31]; exact IntWalk.u64_in _ (by omega)) (by rw [mask32 _ (by unfold Wd; omega), do31]) (by omega)

theorem words2 (x y : Nat) (hx : Wd x) (hy : Wd y) : ∃ a0 a1 a2 a3 : Nat, Hw a0 ∧ Hw a1 ∧ Hw a2 ∧ Hw a3 ∧ x = a0 + a1 * 4294967296 ∧ y = a2 + a3 * 4294967296 ∧
    ∀ b w, b < w.heap.size → w.cell? ⟨b, 0, none⟩ = some (.int .u64 x) → w.cell? ⟨b, 1, none⟩ = some (.int .u64 y) →
    Calls Tryd.prog 87 #[.slice (some ⟨b, 0, none⟩) 2 2] w fun e w' => ∃ B cap, e = .returned (.slice (some ⟨B, 0, none⟩) 4 cap) ∧ w.heap.size ≤ B ∧ w'.cell? ⟨B, 0, none⟩ = some (.int .u64 a0) ∧ w'.cell? ⟨B, 1, none⟩ = some (.int .u64 a1) ∧ w'.cell? ⟨B, 2, none⟩ = some (.int .u64 a2) ∧ w'.cell? ⟨B, 3, none⟩ = some (.int .u64 a3) ∧ Gr w w' :=
  ⟨x % 4294967296, x / 4294967296, y % 4294967296, y / 4294967296, by unfold Hw; omega, by unfold Hw Wd at *; omega, by unfold Hw; omega, by unfold Hw Wd at *; omega, by omega, by omega, fun b w hb k0 k1 => words2_walk x y _ _ _ _ b w (mask32 x hx) (by omega) (mask32 y hy) (by omega) hb k0 k1⟩
theorem words1 (x : Nat) (hx : Wd x) : ∃ a0 a1 : Nat, Hw a0 ∧ Hw a1 ∧ x = a0 + a1 * 4294967296 ∧
    ∀ b w, b < w.heap.size → w.cell? ⟨b, 0, none⟩ = some (.int .u64 x) →
    Calls Tryd.prog 87 #[.slice (some ⟨b, 0, none⟩) 1 1] w fun e w' => ∃ B cap, e = .returned (.slice (some ⟨B, 0, none⟩) 2 cap) ∧ w.heap.size ≤ B ∧ w'.cell? ⟨B, 0, none⟩ = some (.int .u64 a0) ∧ w'.cell? ⟨B, 1, none⟩ = some (.int .u64 a1) ∧ Gr w w' :=
  ⟨x % 4294967296, x / 4294967296, by unfold Hw; omega, by unfold Hw Wd at *; omega, by omega, fun b w hb k0 => c_words1 x hx b w hb k0⟩
set_option maxHeartbeats 2000000 in
set_option maxRecDepth 100000 in
theorem rtimes_core (h l d a0 a1 a2 a3 b0 b1 z0 z1 z2 z3 z4 z5 t u v : Nat) (W : World)
    (A1 : ∀ b w, b < w.heap.size → w.cell? ⟨b, 0, none⟩ = some (.int .u64 l) → w.cell? ⟨b, 1, none⟩ = some (.int .u64 h) →
      Calls Tryd.prog 87 #[.slice (some ⟨b, 0, none⟩) 2 2] w fun e w' => ∃ B cap, e = .returned (.slice (some ⟨B, 0, none⟩) 4 cap) ∧ w.heap.size ≤ B ∧ w'.cell? ⟨B, 0, none⟩ = some (.int .u64 a0) ∧ w'.cell? ⟨B, 1, none⟩ = some (.int .u64 a1) ∧ w'.cell? ⟨B, 2, none⟩ = some (.int .u64 a2) ∧ w'.cell? ⟨B, 3, none⟩ = some (.int .u64 a3) ∧ Gr w w')
    (A2 : ∀ b w, b < w.heap.size → w.cell? ⟨b, 0, none⟩ = some (.int .u64 d) →
      Calls Tryd.prog 87 #[.slice (some ⟨b, 0, none⟩) 1 1] w fun e w' => ∃ B cap, e = .returned (.slice (some ⟨B, 0, none⟩) 2 cap) ∧ w.heap.size ≤ B ∧ w'.cell? ⟨B, 0, none⟩ = some (.int .u64 b0) ∧ w'.cell? ⟨B, 1, none⟩ = some (.int .u64 b1) ∧ Gr w w')
    (A3 : ∀ (A B ca cb : Nat) (w : World), A < w.heap.size → B < w.heap.size → w.cell? ⟨A, 0, none⟩ = some (.int .u64 a0) → w.cell? ⟨A, 1, none⟩ = some (.int .u64 a1) → w.cell? ⟨A, 2, none⟩ = some (.int .u64 a2) → w.cell? ⟨A, 3, none⟩ = some (.int .u64 a3) → w.cell? ⟨B, 0, none⟩ = some (.int .u64 b0) → w.cell? ⟨B, 1, none⟩ = some (.int .u64 b1) →
      Calls Tryd.prog 86 #[.slice (some ⟨A, 0, none⟩) 4 ca, .slice (some ⟨B, 0, none⟩) 2 cb] w fun e w' => ∃ O, e = .returned (.slice (some ⟨O, 0, none⟩) 6 6) ∧ w'.cell? ⟨O, 0, none⟩ = some (.int .u64 z0) ∧ w'.cell? ⟨O, 1, none⟩ = some (.int .u64 z1) ∧ w'.cell? ⟨O, 2, none⟩ = some (.int .u64 z2) ∧ w'.cell? ⟨O, 3, none⟩ = some (.int .u64 z3) ∧ w'.cell? ⟨O, 4, none⟩ = some (.int .u64 z4) ∧ w'.cell? ⟨O, 5, none⟩ = some (.int .u64 z5) ∧ Gr w w')
    (A4 : ∀ O w, w.cell? ⟨O, 0, none⟩ = some (.int .u64 z0) → w.cell? ⟨O, 1, none⟩ = some (.int .u64 z1) → Calls Tryd.prog 88 #[.slice (some ⟨O, 0, none⟩) 6 6, .int .i64 0] w fun e w' => e = .returned (.int .u64 (v : Int)) ∧ Gr w w')
    (A5 : ∀ O w, w.cell? ⟨O, 2, none⟩ = some (.int .u64 z2) → w.cell? ⟨O, 3, none⟩ = some (.int .u64 z3) → Calls Tryd.prog 88 #[.slice (some ⟨O, 0, none⟩) 6 6, .int .i64 1] w fun e w' => e = .returned (.int .u64 (u : Int)) ∧ Gr w w')
    (A6 : ∀ O w, w.cell? ⟨O, 4, none⟩ = some (.int .u64 z4) → w.cell? ⟨O, 5, none⟩ = some (.int .u64 z5) → Calls Tryd.prog 88 #[.slice (some ⟨O, 0, none⟩) 6 6, .int .i64 2] w fun e w' => e = .returned (.int .u64 (t : Int)) ∧ Gr w w') :
    Calls Tryd.prog 60 #[.agg #[.int .u64 h, .int .u64 l], .int .u64 d] W fun e w' => e = .returned (.tuple #[.int .u64 t, .agg #[.int .u64 u, .int .u64 v]]) ∧ Gr W w' := by
  have H1 := Lib.hid A1
  have H2 := Lib.hid A2
  have H3 := Lib.hid A3
  have H4 := Lib.hid A4
  have H5 := Lib.hid A5
  have H6 := Lib.hid A6
  clear A1 A2 A3 A4 A5 A6
  go_enter Tryd.func60, Tryd.ntmps60
  go_wp2_with fail
  go_at_call 87
  refine (H1.out _ _ (by simp) (by go_simp) (by go_simp)).mono ?_
  rintro e w1 ⟨A, ca, rfl, hA, ka0, ka1, ka2, ka3, h1⟩
  have gw1 : Gr W w1 := Gr.trans (by go_grown) h1
  have s0 : w1.cell? ⟨W.heap.size, 0, none⟩ = some (.int .u64 h) := cell_gr h1 (by go_simp)
  have s1 : w1.cell? ⟨W.heap.size, 1, none⟩ = some (.int .u64 l) := cell_gr h1 (by go_simp)
  have r0 : w1.cell? ⟨W.heap.size + 1, 0, none⟩ = some (.int .u64 0) := cell_gr h1 (by go_simp)
  have r1 : w1.cell? ⟨W.heap.size + 1, 1, none⟩ = some (.int .u64 0) := cell_gr h1 (by go_simp)
  have f0 : w1.frozen? ⟨W.heap.size + 1, 0, none⟩ = false := frozen_gr (v := .int .u64 0) h1 (by go_simp) (by go_simp)
  have f1 : w1.frozen? ⟨W.heap.size + 1, 1, none⟩ = false := frozen_gr (v := .int .u64 0) h1 (by go_simp) (by go_simp)
  have zs := World.block_lt_of_cell? _ _ s0
  have zr := World.block_lt_of_cell? _ _ r0
  have zA := World.block_lt_of_cell? _ _ ka0
  clear h1 hA
  go_wp2_with fail
  go_at_call 87
  refine (H2.out _ _ (by simp) (by go_simp)).mono ?_
  rintro e w2 ⟨B, cb, rfl, hB, kb0, kb1, h2⟩
  have h2' : Gr w1 w2 := Gr.trans (by go_grown) h2
  have gw2 : Gr W w2 := Gr.trans gw1 h2'
  have f0' := frozen_gr h2' r0 f0
  have f1' := frozen_gr h2' r1 f1
  replace r0 := cell_gr h2' r0
  replace r1 := cell_gr h2' r1
  replace ka0 := cell_gr h2' ka0
  replace ka1 := cell_gr h2' ka1
  replace ka2 := cell_gr h2' ka2
  replace ka3 := cell_gr h2' ka3
  clear f0 f1 zr zA zs s0 s1
  have zr := World.block_lt_of_cell? _ _ r0
  have zA := World.block_lt_of_cell? _ _ ka0
  have zB := World.block_lt_of_cell? _ _ kb0
  clear h2 hB h2' gw1
  go_wp2_with fail
  go_at_call 86
  refine (H3.out _ _ _ _ _ zA zB ka0 ka1 ka2 ka3 kb0 kb1).mono ?_
  rintro e w3 ⟨O, rfl, k0, k1, k2, k3, k4, k5, h3⟩
  have f0 := frozen_gr h3 r0 f0'
  have f1 := frozen_gr h3 r1 f1'
  replace r0 := cell_gr h3 r0
  replace r1 := cell_gr h3 r1
  have gw3 : Gr W w3 := Gr.trans gw2 h3
  clear f0' f1' zr zA zB ka0 ka1 ka2 ka3 kb0 kb1 h3 gw2
  have zr := World.block_lt_of_cell? _ _ r0
  have zO := World.block_lt_of_cell? _ _ k0
  go_wp2_with fail
  go_at_call 88
  refine ((H6.out _ _ (by go_simp) (by go_simp))).mono ?_
  rintro e w4 ⟨rfl, hw4⟩
  have cw4_0_0 : w4.cell? ⟨W.heap.size + 1, 0, none⟩ = some (.int .u64 0) := cell_gr hw4 (by go_simp)
  have fw4_0_0 : w4.frozen? ⟨W.heap.size + 1, 0, none⟩ = false := frozen_gr (v := .int .u64 0) hw4 (by go_simp) (by go_simp)
  have cw4_0_1 : w4.cell? ⟨W.heap.size + 1, 1, none⟩ = some (.int .u64 0) := cell_gr hw4 (by go_simp)
  have fw4_0_1 : w4.frozen? ⟨W.heap.size + 1, 1, none⟩ = false := frozen_gr (v := .int .u64 0) hw4 (by go_simp) (by go_simp)
  have zw4_0 : W.heap.size + 1 < w4.heap.size := World.block_lt_of_cell? _ _ cw4_0_0
  have cw4_1_0 : w4.cell? ⟨O, 0, none⟩ = some (.int .u64 z0) := cell_gr hw4 (by go_simp)
  have cw4_1_1 : w4.cell? ⟨O, 1, none⟩ = some (.int .u64 z1) := cell_gr hw4 (by go_simp)
  have cw4_1_2 : w4.cell? ⟨O, 2, none⟩ = some (.int .u64 z2) := cell_gr hw4 (by go_simp)
  have cw4_1_3 : w4.cell? ⟨O, 3, none⟩ = some (.int .u64 z3) := cell_gr hw4 (by go_simp)
  have cw4_1_4 : w4.cell? ⟨O, 4, none⟩ = some (.int .u64 z4) := cell_gr hw4 (by go_simp)
  have cw4_1_5 : w4.cell? ⟨O, 5, none⟩ = some (.int .u64 z5) := cell_gr hw4 (by go_simp)
  have zw4_1 : O < w4.heap.size := World.block_lt_of_cell? _ _ cw4_1_0
  have gw4 : Gr W w4 := Gr.trans (by have gg := gw3; have gs := gg.size; go_grown) hw4
  clear hw4 gw3
  go_wp2_with fail
  go_at_call 88
  refine ((H5.out _ _ (by go_simp) (by go_simp))).mono ?_
  rintro e w5 ⟨rfl, hw5⟩
  have cw5_0_0 : w5.cell? ⟨W.heap.size + 1, 0, none⟩ = some (.int .u64 0) := cell_gr hw5 (by go_simp)
  have fw5_0_0 : w5.frozen? ⟨W.heap.size + 1, 0, none⟩ = false := frozen_gr (v := .int .u64 0) hw5 (by go_simp) (by go_simp)
  have cw5_0_1 : w5.cell? ⟨W.heap.size + 1, 1, none⟩ = some (.int .u64 0) := cell_gr hw5 (by go_simp)
  have fw5_0_1 : w5.frozen? ⟨W.heap.size + 1, 1, none⟩ = false := frozen_gr (v := .int .u64 0) hw5 (by go_simp) (by go_simp)
  have zw5_0 : W.heap.size + 1 < w5.heap.size := World.block_lt_of_cell? _ _ cw5_0_0
  have cw5_1_0 : w5.cell? ⟨O, 0, none⟩ = some (.int .u64 z0) := cell_gr hw5 (by go_simp)
  have cw5_1_1 : w5.cell? ⟨O, 1, none⟩ = some (.int .u64 z1) := cell_gr hw5 (by go_simp)
  have cw5_1_2 : w5.cell? ⟨O, 2, none⟩ = some (.int .u64 z2) := cell_gr hw5 (by go_simp)
  have cw5_1_3 : w5.cell? ⟨O, 3, none⟩ = some (.int .u64 z3) := cell_gr hw5 (by go_simp)
  have cw5_1_4 : w5.cell? ⟨O, 4, none⟩ = some (.int .u64 z4) := cell_gr hw5 (by go_simp)
  have cw5_1_5 : w5.cell? ⟨O, 5, none⟩ = some (.int .u64 z5) := cell_gr hw5 (by go_simp)
  have zw5_1 : O < w5.heap.size := World.block_lt_of_cell? _ _ cw5_1_0
  have gw5 : Gr W w5 := Gr.trans (by have gg := gw4; have gs := gg.size; go_grown) hw5
  clear hw5 gw4 zw4_0 cw4_0_0 fw4_0_0 cw4_0_1 fw4_0_1 zw4_1 cw4_1_0 cw4_1_1 cw4_1_2 cw4_1_3 cw4_1_4 cw4_1_5
  go_wp2_with fail
  go_at_call 88
  refine ((H4.out _ _ (by go_simp) (by go_simp))).mono ?_
  rintro e w6 ⟨rfl, hw6⟩
  have cw6_0_0 : w6.cell? ⟨W.heap.size + 1, 0, none⟩ = some (.int .u64 0) := cell_gr hw6 (by go_simp)
  have fw6_0_0 : w6.frozen? ⟨W.heap.size + 1, 0, none⟩ = false := frozen_gr (v := .int .u64 0) hw6 (by go_simp) (by go_simp)
  have cw6_0_1 : w6.cell? ⟨W.heap.size + 1, 1, none⟩ = some (.int .u64 0) := cell_gr hw6 (by go_simp)
  have fw6_0_1 : w6.frozen? ⟨W.heap.size + 1, 1, none⟩ = false := frozen_gr (v := .int .u64 0) hw6 (by go_simp) (by go_simp)
  have zw6_0 : W.heap.size + 1 < w6.heap.size := World.block_lt_of_cell? _ _ cw6_0_0
  have cw6_1_0 : w6.cell? ⟨O, 0, none⟩ = some (.int .u64 z0) := cell_gr hw6 (by go_simp)
  have cw6_1_1 : w6.cell? ⟨O, 1, none⟩ = some (.int .u64 z1) := cell_gr hw6 (by go_simp)
  have cw6_1_2 : w6.cell? ⟨O, 2, none⟩ = some (.int .u64 z2) := cell_gr hw6 (by go_simp)
  have cw6_1_3 : w6.cell? ⟨O, 3, none⟩ = some (.int .u64 z3) := cell_gr hw6 (by go_simp)
  have cw6_1_4 : w6.cell? ⟨O, 4, none⟩ = some (.int .u64 z4) := cell_gr hw6 (by go_simp)
  have cw6_1_5 : w6.cell? ⟨O, 5, none⟩ = some (.int .u64 z5) := cell_gr hw6 (by go_simp)
  have zw6_1 : O < w6.heap.size := World.block_lt_of_cell? _ _ cw6_1_0
  have gw6 : Gr W w6 := Gr.trans (by have gg := gw5; have gs := gg.size; go_grown) hw6
  clear hw6 gw5 zw5_0 cw5_0_0 fw5_0_0 cw5_0_1 fw5_0_1 zw5_1 cw5_1_0 cw5_1_1 cw5_1_2 cw5_1_3 cw5_1_4 cw5_1_5
  go_wp2_with fail
  refine bodyPost_ret (v := .tuple #[.int .u64 t, .agg #[.int .u64 u, .int .u64 v]]) (by simp [results, Tryd.results60, go_sem, *]) rfl ⟨rfl, by have gg := gw6; have gs := gg.size; go_grown⟩
theorem c_rTimes (h l d : Nat) (h1 : Wd h) (h2 : Wd l) (h3 : Wd d) (w : World) :
    Calls Tryd.prog 60 #[.agg #[.int .u64 h, .int .u64 l], .int .u64 d] w fun e w' => e = .returned (.tuple #[.int .u64 ((val h l * d / 18446744073709551616 / 18446744073709551616 : Nat) : Int), .agg #[.int .u64 ((val h l * d / 18446744073709551616 % 18446744073709551616 : Nat) : Int), .int .u64 ((val h l * d % 18446744073709551616 : Nat) : Int)]]) ∧ Gr w w' := by
  obtain ⟨a0, a1, a2, a3, p0, p1, p2, p3, el, eh, A1⟩ := words2 l h h2 h1
  obtain ⟨b0, b1, q0, q1, ed, A2⟩ := words1 d h3
  obtain ⟨z0, z1, z2, z3, z4, z5, g0, g1, g2, g3, g4, g5, eq, A3⟩ := c_times42 a0 a1 a2 a3 b0 b1 p0 p1 p2 p3 q0 q1
  have ev : val h l * d = (z0 + z1 * 4294967296) + (z2 + z3 * 4294967296) * 18446744073709551616 + (z4 + z5 * 4294967296) * 340282366920938463463374607431768211456 := by
    rw [← eq, ← el, ← eh, ← ed]
    unfold val
    rw [Nat.add_comm]
  have J0 := fun O w k0 k1 => c_join0 O 6 6 z0 z1 w (by omega) g0 g1 k0 k1
  have J1 := fun O w k0 k1 => c_join1 O 6 6 z2 z3 w (by omega) g2 g3 k0 k1
  have J2 := fun O w k0 k1 => c_join2 O 6 6 z4 z5 w (by omega) g4 g5 k0 k1
  rw [ev]
  unfold Hw at g0 g1 g2 g3 g4 g5
  obtain ⟨v, hv⟩ : ∃ v, v = z0 + z1 * 4294967296 := ⟨_, rfl⟩
  obtain ⟨u, hu⟩ : ∃ v, v = z2 + z3 * 4294967296 := ⟨_, rfl⟩
  obtain ⟨t, ht⟩ : ∃ v, v = z4 + z5 * 4294967296 := ⟨_, rfl⟩
  rw [← hv] at J0
  rw [← hu] at J1
  rw [← ht] at J2
  rw [← hv, ← hu, ← ht]
  have b1' : v < 18446744073709551616 := by omega
  have b2' : u < 18446744073709551616 := by omega
  rw [show (v + u * 18446744073709551616 + t * 340282366920938463463374607431768211456) / 18446744073709551616 / 18446744073709551616 = t by omega,
    show (v + u * 18446744073709551616 + t * 340282366920938463463374607431768211456) / 18446744073709551616 % 18446744073709551616 = u by omega,
    show (v + u * 18446744073709551616 + t * 340282366920938463463374607431768211456) % 18446744073709551616 = v by omega]
  exact rtimes_core h l d a0 a1 a2 a3 b0 b1 z0 z1 z2 z3 z4 z5 t u v w A1 A2 A3 J0 J1 J2
set_option maxHeartbeats 2000000 in
set_option maxRecDepth 100000 in
theorem rprods_core (ah al ad bh bl bd p xh xl q yh yl : Nat) (k r : Int) (W : World)
    (hc : (decide (p < q) = true ∧ r = -1) ∨ (decide (p < q) = false ∧ decide (q < p) = true ∧ r = 1) ∨ (decide (p < q) = false ∧ decide (q < p) = false ∧ r = k))
    (A1 : ∀ w, Calls Tryd.prog 60 #[.agg #[.int .u64 ah, .int .u64 al], .int .u64 ad] w fun e w' => e = .returned (.tuple #[.int .u64 p, .agg #[.int .u64 xh, .int .u64 xl]]) ∧ Gr w w')
    (A2 : ∀ w, Calls Tryd.prog 60 #[.agg #[.int .u64 bh, .int .u64 bl], .int .u64 bd] w fun e w' => e = .returned (.tuple #[.int .u64 q, .agg #[.int .u64 yh, .int .u64 yl]]) ∧ Gr w w')
    (A3 : ∀ w, Calls Tryd.prog 61 #[.agg #[.int .u64 xh, .int .u64 xl], .agg #[.int .u64 yh, .int .u64 yl]] w fun e w' => e = .returned (.int .i64 k) ∧ Gr w w') :
    Calls Tryd.prog 41 #[.agg #[.int .u64 ah, .int .u64 al], .int .u64 ad, .agg #[.int .u64 bh, .int .u64 bl], .int .u64 bd] W fun e w' => e = .returned (.int .i64 r) ∧ Gr W w' := by
  have H1 := Lib.hid A1
  have H2 := Lib.hid A2
  have H3 := Lib.hid A3
  clear A1 A2 A3
  rcases hc with ⟨c1, rfl⟩ | ⟨c1, c2, rfl⟩ | ⟨c1, c2, rfl⟩
  · go_enter Tryd.func41, Tryd.ntmps41
    go_wp2_with fail
    go_at_call 60
    refine ((H1.out _)).mono ?_
    rintro e w1 ⟨rfl, hw1⟩
    have cw1_0_0 : w1.cell? ⟨W.heap.size, 0, none⟩ = some (.int .u64 ah) := cell_gr hw1 (by go_simp)
    have cw1_0_1 : w1.cell? ⟨W.heap.size, 1, none⟩ = some (.int .u64 al) := cell_gr hw1 (by go_simp)
    have zw1_0 : W.heap.size < w1.heap.size := World.block_lt_of_cell? _ _ cw1_0_0
    have cw1_1_0 : w1.cell? ⟨W.heap.size + 1, 0, none⟩ = some (.int .u64 bh) := cell_gr hw1 (by go_simp)
    have fw1_1_0 : w1.frozen? ⟨W.heap.size + 1, 0, none⟩ = false := frozen_gr (v := .int .u64 bh) hw1 (by go_simp) (by go_simp)
    have cw1_1_1 : w1.cell? ⟨W.heap.size + 1, 1, none⟩ = some (.int .u64 bl) := cell_gr hw1 (by go_simp)
    have fw1_1_1 : w1.frozen? ⟨W.heap.size + 1, 1, none⟩ = false := frozen_gr (v := .int .u64 bl) hw1 (by go_simp) (by go_simp)
    have zw1_1 : W.heap.size + 1 < w1.heap.size := World.block_lt_of_cell? _ _ cw1_1_0
    have gw1 : Gr W w1 := Gr.trans (by go_grown) hw1
    clear hw1
    go_wp2_with fail
    go_at_call 60
    refine ((H2.out _)).mono ?_
    rintro e w2 ⟨rfl, hw2⟩
    have cw2_0_0 : w2.cell? ⟨W.heap.size, 0, none⟩ = some (.int .u64 ah) := cell_gr hw2 (by go_simp)
    have cw2_0_1 : w2.cell? ⟨W.heap.size, 1, none⟩ = some (.int .u64 al) := cell_gr hw2 (by go_simp)
    have zw2_0 : W.heap.size < w2.heap.size := World.block_lt_of_cell? _ _ cw2_0_0
    have cw2_1_0 : w2.cell? ⟨W.heap.size + 1, 0, none⟩ = some (.int .u64 bh) := cell_gr hw2 (by go_simp)
    have fw2_1_0 : w2.frozen? ⟨W.heap.size + 1, 0, none⟩ = false := frozen_gr (v := .int .u64 bh) hw2 (by go_simp) (by go_simp)
    have cw2_1_1 : w2.cell? ⟨W.heap.size + 1, 1, none⟩ = some (.int .u64 bl) := cell_gr hw2 (by go_simp)
    have fw2_1_1 : w2.frozen? ⟨W.heap.size + 1, 1, none⟩ = false := frozen_gr (v := .int .u64 bl) hw2 (by go_simp) (by go_simp)
    have zw2_1 : W.heap.size + 1 < w2.heap.size := World.block_lt_of_cell? _ _ cw2_1_0
    have cw2_2_0 : w2.cell? ⟨w1.heap.size, 0, none⟩ = some (.int .u64 xh) := cell_gr hw2 (by go_simp)
    have cw2_2_1 : w2.cell? ⟨w1.heap.size, 1, none⟩ = some (.int .u64 xl) := cell_gr hw2 (by go_simp)
    have zw2_2 : w1.heap.size < w2.heap.size := World.block_lt_of_cell? _ _ cw2_2_0
    have gw2 : Gr W w2 := Gr.trans (by have gg := gw1; have gs := gg.size; go_grown) hw2
    clear hw2 gw1 zw1_0 cw1_0_0 cw1_0_1 zw1_1 cw1_1_0 fw1_1_0 cw1_1_1 fw1_1_1
    go_wp2_with fail
    go_ret
    exact ⟨rfl, by have gg := gw2; have gs := gg.size; go_grown⟩
  · go_enter Tryd.func41, Tryd.ntmps41
    go_wp2_with fail
    go_at_call 60
    refine ((H1.out _)).mono ?_
    rintro e w1 ⟨rfl, hw1⟩
    have cw1_0_0 : w1.cell? ⟨W.heap.size, 0, none⟩ = some (.int .u64 ah) := cell_gr hw1 (by go_simp)
    have cw1_0_1 : w1.cell? ⟨W.heap.size, 1, none⟩ = some (.int .u64 al) := cell_gr hw1 (by go_simp)
    have zw1_0 : W.heap.size < w1.heap.size := World.block_lt_of_cell? _ _ cw1_0_0
    have cw1_1_0 : w1.cell? ⟨W.heap.size + 1, 0, none⟩ = some (.int .u64 bh) := cell_gr hw1 (by go_simp)
    have fw1_1_0 : w1.frozen? ⟨W.heap.size + 1, 0, none⟩ = false := frozen_gr (v := .int .u64 bh) hw1 (by go_simp) (by go_simp)
    have cw1_1_1 : w1.cell? ⟨W.heap.size + 1, 1, none⟩ = some (.int .u64 bl) := cell_gr hw1 (by go_simp)
    have fw1_1_1 : w1.frozen? ⟨W.heap.size + 1, 1, none⟩ = false := frozen_gr (v := .int .u64 bl) hw1 (by go_simp) (by go_simp)
    have zw1_1 : W.heap.size + 1 < w1.heap.size := World.block_lt_of_cell? _ _ cw1_1_0
    have gw1 : Gr W w1 := Gr.trans (by go_grown) hw1
    clear hw1
    go_wp2_with fail
    go_at_call 60
    refine ((H2.out _)).mono ?_
    rintro e w2 ⟨rfl, hw2⟩
    have cw2_0_0 : w2.cell? ⟨W.heap.size, 0, none⟩ = some (.int .u64 ah) := cell_gr hw2 (by go_simp)
    have cw2_0_1 : w2.cell? ⟨W.heap.size, 1, none⟩ = some (.int .u64 al) := cell_gr hw2 (by go_simp)
    have zw2_0 : W.heap.size < w2.heap.size := World.block_lt_of_cell? _ _ cw2_0_0
    have cw2_1_0 : w2.cell? ⟨W.heap.size + 1, 0, none⟩ = some (.int .u64 bh) := cell_gr hw2 (by go_simp)
    have fw2_1_0 : w2.frozen? ⟨W.heap.size + 1, 0, none⟩ = false := frozen_gr (v := .int .u64 bh) hw2 (by go_simp) (by go_simp)
    have cw2_1_1 : w2.cell? ⟨W.heap.size + 1, 1, none⟩ = some (.int .u64 bl) := cell_gr hw2 (by go_simp)
    have fw2_1_1 : w2.frozen? ⟨W.heap.size + 1, 1, none⟩ = false := frozen_gr (v := .int .u64 bl) hw2 (by go_simp) (by go_simp)
    have zw2_1 : W.heap.size + 1 < w2.heap.size := World.block_lt_of_cell? _ _ cw2_1_0
    have cw2_2_0 : w2.cell? ⟨w1.heap.size, 0, none⟩ = some (.int .u64 xh) := cell_gr hw2 (by go_simp)
    have cw2_2_1 : w2.cell? ⟨w1.heap.size, 1, none⟩ = some (.int .u64 xl) := cell_gr hw2 (by go_simp)
    have zw2_2 : w1.heap.size < w2.heap.size := World.block_lt_of_cell? _ _ cw2_2_0
    have gw2 : Gr W w2 := Gr.trans (by have gg := gw1; have gs := gg.size; go_grown) hw2
    clear hw2 gw1 zw1_0 cw1_0_0 cw1_0_1 zw1_1 cw1_1_0 fw1_1_0 cw1_1_1 fw1_1_1
    go_wp2_with fail
    go_ret
    exact ⟨rfl, by have gg := gw2; have gs := gg.size; go_grown⟩
  · go_enter Tryd.func41, Tryd.ntmps41
    go_wp2_with fail
    go_at_call 60
    refine ((H1.out _)).mono ?_
    rintro e w1 ⟨rfl, hw1⟩
    have cw1_0_0 : w1.cell? ⟨W.heap.size, 0, none⟩ = some (.int .u64 ah) := cell_gr hw1 (by go_simp)
    have cw1_0_1 : w1.cell? ⟨W.heap.size, 1, none⟩ = some (.int .u64 al) := cell_gr hw1 (by go_simp)
    have zw1_0 : W.heap.size < w1.heap.size := World.block_lt_of_cell? _ _ cw1_0_0
    have cw1_1_0 : w1.cell? ⟨W.heap.size + 1, 0, none⟩ = some (.int .u64 bh) := cell_gr hw1 (by go_simp)
    have fw1_1_0 : w1.frozen? ⟨W.heap.size + 1, 0, none⟩ = false := frozen_gr (v := .int .u64 bh) hw1 (by go_simp) (by go_simp)
    have cw1_1_1 : w1.cell? ⟨W.heap.size + 1, 1, none⟩ = some (.int .u64 bl) := cell_gr hw1 (by go_simp)
    have fw1_1_1 : w1.frozen? ⟨W.heap.size + 1, 1, none⟩ = false := frozen_gr (v := .int .u64 bl) hw1 (by go_simp) (by go_simp)
    have zw1_1 : W.heap.size + 1 < w1.heap.size := World.block_lt_of_cell? _ _ cw1_1_0
    have gw1 : Gr W w1 := Gr.trans (by go_grown) hw1
    clear hw1
    go_wp2_with fail
    go_at_call 60
    refine ((H2.out _)).mono ?_
    rintro e w2 ⟨rfl, hw2⟩
    have cw2_0_0 : w2.cell? ⟨W.heap.size, 0, none⟩ = some (.int .u64 ah) := cell_gr hw2 (by go_simp)
    have cw2_0_1 : w2.cell? ⟨W.heap.size, 1, none⟩ = some (.int .u64 al) := cell_gr hw2 (by go_simp)
    have zw2_0 : W.heap.size < w2.heap.size := World.block_lt_of_cell? _ _ cw2_0_0
    have cw2_1_0 : w2.cell? ⟨W.heap.size + 1, 0, none⟩ = some (.int .u64 bh) := cell_gr hw2 (by go_simp)
    have fw2_1_0 : w2.frozen? ⟨W.heap.size + 1, 0, none⟩ = false := frozen_gr (v := .int .u64 bh) hw2 (by go_simp) (by go_simp)
    have cw2_1_1 : w2.cell? ⟨W.heap.size + 1, 1, none⟩ = some (.int .u64 bl) := cell_gr hw2 (by go_simp)
    have fw2_1_1 : w2.frozen? ⟨W.heap.size + 1, 1, none⟩ = false := frozen_gr (v := .int .u64 bl) hw2 (by go_simp) (by go_simp)
    have zw2_1 : W.heap.size + 1 < w2.heap.size := World.block_lt_of_cell? _ _ cw2_1_0
    have cw2_2_0 : w2.cell? ⟨w1.heap.size, 0, none⟩ = some (.int .u64 xh) := cell_gr hw2 (by go_simp)
    have cw2_2_1 : w2.cell? ⟨w1.heap.size, 1, none⟩ = some (.int .u64 xl) := cell_gr hw2 (by go_simp)
    have zw2_2 : w1.heap.size < w2.heap.size := World.block_lt_of_cell? _ _ cw2_2_0
    have gw2 : Gr W w2 := Gr.trans (by have gg := gw1; have gs := gg.size; go_grown) hw2
    clear hw2 gw1 zw1_0 cw1_0_0 cw1_0_1 zw1_1 cw1_1_0 fw1_1_0 cw1_1_1 fw1_1_1
    go_wp2_with fail
    go_at_call 61
    refine ((H3.out _)).mono ?_
    rintro e w3 ⟨rfl, hw3⟩
    have cw3_0_0 : w3.cell? ⟨W.heap.size, 0, none⟩ = some (.int .u64 ah) := cell_gr hw3 (by go_simp)
    have cw3_0_1 : w3.cell? ⟨W.heap.size, 1, none⟩ = some (.int .u64 al) := cell_gr hw3 (by go_simp)
    have zw3_0 : W.heap.size < w3.heap.size := World.block_lt_of_cell? _ _ cw3_0_0
    have cw3_1_0 : w3.cell? ⟨W.heap.size + 1, 0, none⟩ = some (.int .u64 bh) := cell_gr hw3 (by go_simp)
    have fw3_1_0 : w3.frozen? ⟨W.heap.size + 1, 0, none⟩ = false := frozen_gr (v := .int .u64 bh) hw3 (by go_simp) (by go_simp)
    have cw3_1_1 : w3.cell? ⟨W.heap.size + 1, 1, none⟩ = some (.int .u64 bl) := cell_gr hw3 (by go_simp)
    have fw3_1_1 : w3.frozen? ⟨W.heap.size + 1, 1, none⟩ = false := frozen_gr (v := .int .u64 bl) hw3 (by go_simp) (by go_simp)
    have zw3_1 : W.heap.size + 1 < w3.heap.size := World.block_lt_of_cell? _ _ cw3_1_0
    have cw3_2_0 : w3.cell? ⟨w1.heap.size, 0, none⟩ = some (.int .u64 xh) := cell_gr hw3 (by go_simp)
    have cw3_2_1 : w3.cell? ⟨w1.heap.size, 1, none⟩ = some (.int .u64 xl) := cell_gr hw3 (by go_simp)
    have zw3_2 : w1.heap.size < w3.heap.size := World.block_lt_of_cell? _ _ cw3_2_0
    have gw3 : Gr W w3 := Gr.trans (by have gg := gw2; have gs := gg.size; go_grown) hw3
    clear hw3 gw2 zw2_0 cw2_0_0 cw2_0_1 zw2_1 cw2_1_0 fw2_1_0 cw2_1_1 fw2_1_1 zw2_2 cw2_2_0 cw2_2_1
    go_wp2_with fail
    go_ret
    exact ⟨rfl, gw3⟩
theorem c_rCompareProducts (ah al ad bh bl bd : Nat) (h1 : Wd ah) (h2 : Wd al) (h3 : Wd ad) (h4 : Wd bh) (h5 : Wd bl) (h6 : Wd bd) (W : World) :
    Calls Tryd.prog 41 #[.agg #[.int .u64 ah, .int .u64 al], .int .u64 ad, .agg #[.int .u64 bh, .int .u64 bl], .int .u64 bd] W fun e w' => e = .returned (.int .i64 (cmpN (val ah al * ad) (val bh bl * bd))) ∧ Gr W w' := by
  refine rprods_core ah al ad bh bl bd _ _ _ _ _ _ _ _ W ?_ (c_rTimes ah al ad h1 h2 h3) (c_rTimes bh bl bd h4 h5 h6) (c_rCompare _ _ _ _ (by unfold Wd; omega) (by unfold Wd; omega) (by unfold Wd; omega) (by unfold Wd; omega))
  generalize val ah al * ad = x
  generalize val bh bl * bd = y
  have ex : x = x / 18446744073709551616 / 18446744073709551616 * 340282366920938463463374607431768211456 + val (x / 18446744073709551616 % 18446744073709551616) (x % 18446744073709551616) := by unfold val; omega
  have ey : y = y / 18446744073709551616 / 18446744073709551616 * 340282366920938463463374607431768211456 + val (y / 18446744073709551616 % 18446744073709551616) (y % 18446744073709551616) := by unfold val; omega
  have bx : val (x / 18446744073709551616 % 18446744073709551616) (x % 18446744073709551616) < 340282366920938463463374607431768211456 := by unfold val; omega
  have by' : val (y / 18446744073709551616 % 18446744073709551616) (y % 18446744073709551616) < 340282366920938463463374607431768211456 := by unfold val; omega
  generalize x / 18446744073709551616 / 18446744073709551616 = p at *
  generalize y / 18446744073709551616 / 18446744073709551616 = q at *
  generalize val (x / 18446744073709551616 % 18446744073709551616) (x % 18446744073709551616) = u at *
  generalize val (y / 18446744073709551616 % 18446744073709551616) (y % 18446744073709551616) = v at *
  rcases Nat.lt_trichotomy p q with h | h | h
  · exact Or.inl ⟨decide_eq_true h, cmpN_lt (by omega)⟩
  · refine Or.inr (Or.inr ⟨decide_eq_false (by omega), decide_eq_false (by omega), ?_⟩)
    subst h
    rcases Nat.lt_trichotomy u v with g | g | g
    · rw [cmpN_lt g, cmpN_lt (by omega)]
    · rw [cmpN_eq g, cmpN_eq (by omega)]
    · rw [cmpN_gt g, cmpN_gt (by omega)]
  · exact Or.inr (Or.inl ⟨decide_eq_false (by omega), decide_eq_true h, cmpN_gt (by omega)⟩)
end Go.Proofs.YtogflfepkddbhaaDoor
