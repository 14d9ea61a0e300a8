/- frame: Word -/
import Derived.Test.YtilijbplfobneaaDoorFc
import Derived.Test.YtilijbplfobneaaDoorEa
import Derived.Test.YtilijbplfobneaaDoorEt
import Derived.OwnWalk
import Derived.Lib.SlBytesConst
import Derived.Deep.RegionWith
namespace Go.Proofs.YtilijbplfobneaaDoor
set_option linter.unusedVariables false
open Go.ChangeShapes Go.WideShapes Go.ChangeAt Go.RowKit

def wv (L : List UInt8) : Nat := rb L 0 + 256 * rb L 1 + 65536 * rb L 2 + 16777216 * rb L 3
theorem wv_lt (L : List UInt8) : wv L < 4294967296 := by
  have h0 := rb_lt L 0
  have h1 := rb_lt L 1
  have h2 := rb_lt L 2
  have h3 := rb_lt L 3
  unfold wv; omega
theorem wv_wd (v : Nat) (hv : v < 4294967296) (M : List UInt8) : wv (wd v ++ M) = v := by
  have e : ∀ x, x < 256 → (UInt8.ofNat x).toNat = x := fun x h => by rw [UInt8.toNat_ofNat']; omega
  show (UInt8.ofNat (v % 256)).toNat + 256 * (UInt8.ofNat (v / 256 % 256)).toNat + 65536 * (UInt8.ofNat (v / 65536 % 256)).toNat + 16777216 * (UInt8.ofNat (v / 16777216 % 256)).toNat = v
  rw [e _ (by omega), e _ (by omega), e _ (by omega), e _ (by omega)]
  omega
theorem or32 {a b c : Nat} (k : Nat) (hk : k ≤ 24) (ha : a < 2 ^ k) (hb : b < 256) (hc : c = a + 2 ^ k * b) : bits BinOp.or IntKind.u32 (a : Int) ((2 ^ k * b : Nat) : Int) = (c : Int) := by
  have hp : 2 ^ k ≤ 2 ^ 24 := Nat.pow_le_pow_right (by decide) hk
  have hq : 2 ^ k * b ≤ 2 ^ k * 255 := Nat.mul_le_mul_left _ (by omega)
  have hr : 2 ^ k * 255 ≤ 2 ^ 24 * 255 := Nat.mul_le_mul_right _ hp
  have h24 : (2 : Nat) ^ 24 = 16777216 := rfl
  have h1 : (BitVec.ofInt 32 (a : Int)).toNat = a := by rw [BitVec.ofInt_natCast, BitVec.toNat_ofNat]; exact Nat.mod_eq_of_lt (by omega)
  have h2 : (BitVec.ofInt 32 ((2 ^ k * b : Nat) : Int)).toNat = 2 ^ k * b := by rw [BitVec.ofInt_natCast, BitVec.toNat_ofNat]; exact Nat.mod_eq_of_lt (by omega)
  show IntKind.u32.wrap ((BitVec.ofInt 32 (a : Int) ||| BitVec.ofInt 32 ((2 ^ k * b : Nat) : Int)).toNat : Int) = _
  rw [BitVec.toNat_or, h1, h2, wrap_u32, Nat.or_comm, ← Nat.two_pow_add_eq_or_of_lt ha, Nat.add_comm, ← hc]
  omega
set_option maxHeartbeats 4000000 in
set_option maxRecDepth 100000 in
theorem c_Word {L : List UInt8} {v : Value} (W : World) (h : Row W v L) (hl : 4 ≤ L.length) (hl2 : L.length ≤ 1000000000) :
    Calls Tryd.prog 83 #[v] W fun e w' => e = .returned (.int .u32 (wv L : Nat)) ∧ Gr W w' := by
  obtain ⟨ad, cap, B, off, rfl, h1, h2, h3, h4⟩ := h
  obtain ⟨n, en⟩ : ∃ n, n = L.length := ⟨_, rfl⟩
  obtain rfl := h3 (by omega)
  have k0 := h4 0 (by omega)
  have k1 := h4 1 (by omega)
  have k2 := h4 2 (by omega)
  have k3 := h4 3 (by omega)
  rw [rb_at L (by omega)] at k0 k1 k2 k3
  rw [Nat.add_zero] at k0
  obtain ⟨r, er⟩ : ∃ r, r = wv L := ⟨_, rfl⟩
  have hr : r < 4294967296 := by rw [er]; exact wv_lt L
  have b0 := rb_lt L 0
  have b1 := rb_lt L 1
  have b2 := rb_lt L 2
  have b3 := rb_lt L 3
  rw [← er]
  unfold wv at er
  obtain ⟨x0, e0⟩ : ∃ x, x = rb L 0 := ⟨_, rfl⟩
  obtain ⟨x1, e1⟩ : ∃ x, x = rb L 1 := ⟨_, rfl⟩
  obtain ⟨x2, e2⟩ : ∃ x, x = rb L 2 := ⟨_, rfl⟩
  obtain ⟨x3, e3⟩ : ∃ x, x = rb L 3 := ⟨_, rfl⟩
  rw [← e0] at k0 b0 er
  rw [← e1] at k1 b1 er
  rw [← e2] at k2 b2 er
  rw [← e3] at k3 b3 er
  obtain ⟨y1, f1⟩ : ∃ y, y = 2 ^ 8 * x1 := ⟨_, rfl⟩
  obtain ⟨y2, f2⟩ : ∃ y, y = 2 ^ 16 * x2 := ⟨_, rfl⟩
  obtain ⟨y3, f3⟩ : ∃ y, y = 2 ^ 24 * x3 := ⟨_, rfl⟩
  obtain ⟨s1, g1⟩ : ∃ y, y = x0 + 2 ^ 8 * x1 := ⟨_, rfl⟩
  obtain ⟨s2, g2⟩ : ∃ y, y = s1 + 2 ^ 16 * x2 := ⟨_, rfl⟩
  have q8 : (2 : Nat) ^ 8 = 256 := rfl
  have q16 : (2 : Nat) ^ 16 = 65536 := rfl
  have q24 : (2 : Nat) ^ 24 = 16777216 := rfl
  have o1 : bits BinOp.or IntKind.u32 (x0 : Int) (y1 : Int) = (s1 : Int) := by rw [f1]; exact or32 8 (by decide) (by omega) b1 g1
  have o2 : bits BinOp.or IntKind.u32 (s1 : Int) (y2 : Int) = (s2 : Int) := by rw [f2]; exact or32 16 (by decide) (by omega) b2 g2
  have o3 : bits BinOp.or IntKind.u32 (s2 : Int) (y3 : Int) = (r : Int) := by rw [f3]; exact or32 24 (by decide) (by omega) b3 (by omega)
  have p1 : (x1 : Int) * 2 ^ 8 = (y1 : Int) := by rw [show ((2 : Int) ^ 8) = 256 from rfl]; omega
  have p2 : (x2 : Int) * 2 ^ 16 = (y2 : Int) := by rw [show ((2 : Int) ^ 16) = 65536 from rfl]; omega
  have p3 : (x3 : Int) * 2 ^ 24 = (y3 : Int) := by rw [show ((2 : Int) ^ 24) = 16777216 from rfl]; omega
  have p1b : (x1 : Int) * 256 = (y1 : Int) := by omega
  have p2b : (x2 : Int) * 65536 = (y2 : Int) := by omega
  have p3b : (x3 : Int) * 16777216 = (y3 : Int) := by omega
  have wr : ∀ z : Nat, z < 4294967296 → IntKind.u32.wrap (z : Int) = (z : Int) ∧ (z : Int) % 4294967296 = (z : Int) := fun z hz => by rw [wrap_u32]; omega
  obtain ⟨wa, wa'⟩ := wr x0 (by omega)
  obtain ⟨wb, wb'⟩ := wr x1 (by omega)
  obtain ⟨wc, wc'⟩ := wr x2 (by omega)
  obtain ⟨wd1, wd1'⟩ := wr x3 (by omega)
  obtain ⟨we, we'⟩ := wr y1 (by omega)
  obtain ⟨wf, wf'⟩ := wr y2 (by omega)
  obtain ⟨wg, wg'⟩ := wr y3 (by omega)
  have hn4 : (3 : Int) < (n : Int) := by omega
  have hn3 : (2 : Int) < (n : Int) := by omega
  have hn2 : (1 : Int) < (n : Int) := by omega
  have hn1 : (0 : Int) < (n : Int) := by omega
  rw [← en] at h1 ⊢
  clear h4 h3 wr f1 f2 f3 g1 g2 er e0 e1 e2 e3 b0 b1 b2 b3 hl hl2 en q8 q16 q24
  go_enter Tryd.func83, Tryd.ntmps83
  go_wp2_with fail
  refine wp_region_spread (by kernel_rfl) (by kernel_rfl) ?_
  try simp only [List.append]
  repeat (first | go_big_quiet_skip | (go_big_quiet_want; go_big_quiet_op; (first | go_big_quiet_on | (apply Exists.intro; refine ⟨fun _ => ?_, ?_⟩; (· fail); go_big_quiet_on))))
  refine wpQuiet_nil ?_
  intro wr hr
  obtain ⟨mr, rfl⟩ := hr
  go_wp2_with fail
  go_ret
  exact ⟨rfl, gr_spread _ _⟩
end Go.Proofs.YtilijbplfobneaaDoor
