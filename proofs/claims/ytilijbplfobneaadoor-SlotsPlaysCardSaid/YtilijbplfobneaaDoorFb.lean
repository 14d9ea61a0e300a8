/- frame: Sum -/
import Derived.Test.YtilijbplfobneaaDoorFa
import Derived.Test.YtilijbplfobneaaDoorEa
import Derived.Lib.LaidTab
namespace Go.Proofs.YtilijbplfobneaaDoor
set_option linter.unusedVariables false
open Go.ChangeShapes Go.WideShapes Go.ChangeAt Go.RowKit

/-- The program's table lies as the text lays it. -/
def FT (W : World) : Prop := Lib.TabIs Tryd.prog W "pergola/frame.table" .u32 (Cr.tabL.map fun n : Nat => (n : Int))
theorem ft_gr {w w' : World} (h : FT w) (g : Gr w w') : FT w' := tab_below h g
theorem ft_cell {W : World} (h : FT W) (i : Nat) (hi : i < 16) : W.cell? ⟨1, i, none⟩ = some (.int .u32 (Cr.tab i)) := by
  have := Lib.TabIs.cell h (g := 1) (by kernel_rfl) i (by simpa [Cr.tabL] using hi)
  rw [this]
  congr 2
  unfold Cr.tab
  have key : ∀ i, i < 16 → (Cr.tabL.map fun n : Nat => (n : Int)).getD i 0 = ((Cr.tabL.getD i 0 : Nat) : Int) := by decide +kernel
  exact key i hi
theorem wrap_u32 (z : Int) : IntKind.u32.wrap z = z % 4294967296 := rfl
theorem xor32 {a b : Nat} (ha : a < 4294967296) (hb : b < 4294967296) : bits BinOp.xor IntKind.u32 (a : Int) (b : Int) = ((a ^^^ b : Nat) : Int) := by
  have h1 : (BitVec.ofInt 32 (a : Int)).toNat = a := by rw [BitVec.ofInt_natCast, BitVec.toNat_ofNat]; exact Nat.mod_eq_of_lt (by omega)
  have h2 : (BitVec.ofInt 32 (b : Int)).toNat = b := by rw [BitVec.ofInt_natCast, BitVec.toNat_ofNat]; exact Nat.mod_eq_of_lt (by omega)
  show IntKind.u32.wrap ((BitVec.ofInt 32 (a : Int) ^^^ BitVec.ofInt 32 (b : Int)).toNat : Int) = _
  rw [BitVec.toNat_xor, h1, h2, wrap_u32]
  have := Cr.xor_lt ha hb
  omega
theorem and15 {a : Nat} (ha : a < 4294967296) : bits BinOp.and IntKind.u32 (a : Int) 15 = ((a % 16 : Nat) : Int) := by
  have e := (bits_nat .u32 32 (by decide) (fun n h0 h1 => by rw [wrap_u32]; omega) a 15 (by omega) (by omega)).1
  rw [show a &&& 15 = a % 16 from Nat.and_two_pow_sub_one_eq_mod a 4] at e
  exact e
set_option maxHeartbeats 4000000 in
set_option maxRecDepth 100000 in
theorem c_Sum {L : List UInt8} {v : Value} (W : World) (hF : FT W) (h : Row W v L) (hl : L.length ≤ 1000000000) :
    Calls Tryd.prog 58 #[v] W fun e w' => e = .returned (.int .u32 (Cr.sum L : Nat)) ∧ Gr W w' := by
  obtain ⟨ad, cap, B, off, rfl, h1, h2, h3, h4⟩ := h
  obtain ⟨n, en⟩ : ∃ n, n = L.length := ⟨_, rfl⟩
  have HX := Lib.hid (And.intro h3 (And.intro h4 (And.intro hF en)))
  rw [← en] at h1 hl ⊢
  clear h3 h4 hF en
  go_enter Tryd.func58, Tryd.ntmps58
  go_wp2_with fail
  go_loopg [3, 8] n (fun k x y wr => ∃ i r : Nat, x = .int .u32 r ∧ y = .int .i64 i ∧ i ≤ n ∧ k = n - i ∧ r = Cr.crc 4294967295 (L.take i) ∧ Gr W wr)
  case atStart => exact ⟨0, 4294967295, rfl, rfl, Nat.zero_le _, by omega, rfl, Below.refl _ _⟩
  case round =>
    obtain ⟨i, r, rfl, rfl, hi, hk, hr, hg⟩ := hrel
    have hrl : r < 4294967296 := by rw [hr]; exact Cr.crc_lt _ _ (by decide)
    have HR := Lib.hid hr
    clear hr
    by_cases h : i < n
    · have ti : decide ((i : Int) < (n : Int)) = true := decide_eq_true (by omega)
      have ti2 : decide (i < n) = true := decide_eq_true h
      have ti3 : (i : Int) < (n : Int) := by omega
      have hn := HX.out.2.2.2
      have hiL : i < L.length := by omega
      obtain rfl := HX.out.1 (by omega)
      have c0 := cell_gr hg (HX.out.2.1 i hiL)
      rw [rb_at L hiL] at c0
      obtain ⟨c, ec⟩ : ∃ c, c = rb L i := ⟨_, rfl⟩
      have hc : c < 256 := by rw [ec]; exact rb_lt L i
      rw [← ec] at c0
      obtain ⟨x, ex⟩ : ∃ x, x = r ^^^ c := ⟨_, rfl⟩
      have hx : x < 4294967296 := by rw [ex]; exact Cr.xor_lt hrl (by omega)
      obtain ⟨q1, eq1⟩ : ∃ q, q = x / 16 := ⟨_, rfl⟩
      obtain ⟨m1, em1⟩ : ∃ m, m = x % 16 := ⟨_, rfl⟩
      have hm1 : m1 < 16 := by omega
      have hq1 : q1 < 4294967296 := by omega
      have htb1 := Cr.tab_lt m1 hm1
      obtain ⟨tb1, etb1⟩ : ∃ t, t = Cr.tab m1 := ⟨_, rfl⟩
      obtain ⟨y, ey⟩ : ∃ y, y = q1 ^^^ tb1 := ⟨_, rfl⟩
      rw [← etb1] at htb1
      have hy : y < 4294967296 := by rw [ey]; exact Cr.xor_lt hq1 htb1
      obtain ⟨q2, eq2⟩ : ∃ q, q = y / 16 := ⟨_, rfl⟩
      obtain ⟨m2, em2⟩ : ∃ m, m = y % 16 := ⟨_, rfl⟩
      have hm2 : m2 < 16 := by omega
      have hq2 : q2 < 4294967296 := by omega
      have htb2 := Cr.tab_lt m2 hm2
      obtain ⟨tb2, etb2⟩ : ∃ t, t = Cr.tab m2 := ⟨_, rfl⟩
      obtain ⟨z, ez⟩ : ∃ z, z = q2 ^^^ tb2 := ⟨_, rfl⟩
      rw [← etb2] at htb2
      have k1 := ft_cell (ft_gr HX.out.2.2.1 hg) m1 hm1
      have k2 := ft_cell (ft_gr HX.out.2.2.1 hg) m2 hm2
      rw [← etb1] at k1
      rw [← etb2] at k2
      have hz : z = Cr.stB r c := by rw [ez, eq2, etb2, em2, ey, eq1, etb1, em1, ex]; rfl
      have hnext : z = Cr.crc 4294967295 (L.take (i + 1)) := by rw [hz, Cr.crc_take L _ i hiL, ← HR.out, ec]; rfl
      have HN := Lib.hid hnext
      have f1 : bits BinOp.xor IntKind.u32 (r : Int) (c : Int) = (x : Int) := by rw [xor32 hrl (by omega), ex]
      have f2 : (x : Int) / 16 = (q1 : Int) := by omega
      have f2b : (x : Int) / 2 ^ 4 = (q1 : Int) := by rw [show ((2 : Int) ^ 4) = 16 from rfl]; omega
      have f2c : (x : Int) / 2 ^ min 4 64 = (q1 : Int) := f2b
      have f2d : x / 16 = q1 := eq1.symm
      have f3 : bits BinOp.and IntKind.u32 (x : Int) 15 = (m1 : Int) := by rw [and15 hx, em1]
      have f4 : bits BinOp.xor IntKind.u32 (q1 : Int) (tb1 : Int) = (y : Int) := by rw [xor32 hq1 htb1, ey]
      have f5 : (y : Int) / 16 = (q2 : Int) := by omega
      have f5b : (y : Int) / 2 ^ 4 = (q2 : Int) := by rw [show ((2 : Int) ^ 4) = 16 from rfl]; omega
      have f5c : (y : Int) / 2 ^ min 4 64 = (q2 : Int) := f5b
      have f5d : y / 16 = q2 := eq2.symm
      have f6 : bits BinOp.and IntKind.u32 (y : Int) 15 = (m2 : Int) := by rw [and15 hy, em2]
      have f7 : bits BinOp.xor IntKind.u32 (q2 : Int) (tb2 : Int) = (z : Int) := by rw [xor32 hq2 htb2, ez]
      have f8 : (c : Int) % 4294967296 = (c : Int) := by omega
      have f9 : IntKind.u32.wrap (c : Int) = (c : Int) := by rw [wrap_u32]; omega
      have s1 : (m1 : Int) < 16 := by omega
      have s2 : (m2 : Int) < 16 := by omega
      have hmm : n - (i + 1) < gk := by omega
      have hi1 : i + 1 ≤ n := h
      clear hz hnext ex eq1 em1 etb1 ey eq2 em2 etb2 ez ec hn hk
      go_wp2_with fail
      go_roundg (n - (i + 1))
      case measure => exact hmm
      case rel => exact ⟨i + 1, z, rfl, by go_num, hi1, rfl, HN.out, hg⟩
    · obtain rfl : i = n := by omega
      have ti : decide ((i : Int) < (i : Int)) = false := decide_eq_false (by omega)
      have ti2 : decide (i < i) = false := decide_eq_false (by omega)
      obtain ⟨s, es⟩ : ∃ s, s = 4294967295 ^^^ r := ⟨_, rfl⟩
      have hs : Cr.sum L = s := by
        rw [es, HR.out, HX.out.2.2.2, List.take_of_length_le (Nat.le_refl _)]; rfl
      have g1 : bits BinOp.xor IntKind.u32 IntKind.u32.max (r : Int) = (s : Int) := by
        rw [es]; exact xor32 (a := 4294967295) (by decide) hrl
      have g2 : bits BinOp.xor IntKind.u32 (if IntKind.u32.signed = true then -1 else IntKind.u32.max) (r : Int) = (s : Int) := g1
      have HS := Lib.hid hs
      clear hs es
      go_wp2_with fail
      go_ret
      refine ⟨?_, hg⟩
      rw [HS.out]
      rfl
end Go.Proofs.YtilijbplfobneaaDoor
