/- the document's frames: the sum bit by bit, a number's bytes -/
import Derived.Test.YtilijbplfobneaaDoorFi
import Derived.Test.YtilijbplfobneaaDoorFh
import Derived.Test.YtilijbplfobneaaDoorRi
import Derived.Deep.RegionWith
import Derived.Test.YtilijbplfobneaaDoorFa
namespace Go.Proofs.YtilijbplfobneaaDoor.Cr
set_option linter.unusedVariables false
def bs (r : Nat) : Nat := if r % 2 = 1 then (r / 2) ^^^ 3988292384 else r / 2
def bsN : Nat → Nat → Nat
  | 0, r => r
  | k + 1, r => bs (bsN k r)
theorem bs_lin (a b : Nat) : bs (a ^^^ b) = bs a ^^^ bs b := by
  have e1 : (a ^^^ b) / 2 = a / 2 ^^^ b / 2 := by
    have := Nat.shiftRight_xor_distrib (a := a) (b := b) (i := 1)
    simpa [Nat.shiftRight_eq_div_pow] using this
  have e2 : (a ^^^ b) % 2 = a % 2 ^^^ b % 2 := by
    have := Nat.xor_mod_two_pow (a := a) (b := b) (n := 1)
    simpa using this
  unfold bs
  rw [e1, e2]
  have ha : a % 2 = 0 ∨ a % 2 = 1 := by omega
  have hb : b % 2 = 0 ∨ b % 2 = 1 := by omega
  rcases ha with ha | ha <;> rcases hb with hb | hb <;> rw [ha, hb]
  · rfl
  · rw [if_pos (by decide), if_neg (by decide), if_pos rfl]; ac_rfl
  · rw [if_pos (by decide), if_pos rfl, if_neg (by decide)]; ac_rfl
  · rw [if_neg (by decide), if_pos rfl, if_pos rfl]
    have : ∀ x y p : Nat, x ^^^ p ^^^ (y ^^^ p) = x ^^^ y := fun x y p => by
      rw [show x ^^^ p ^^^ (y ^^^ p) = x ^^^ y ^^^ (p ^^^ p) by ac_rfl, Nat.xor_self, Nat.xor_zero]
    rw [this]
theorem bsN_lin (a b : Nat) : ∀ k, bsN k (a ^^^ b) = bsN k a ^^^ bsN k b := by
  intro k
  induction k with
  | zero => rfl
  | succ k ih => simp only [bsN]; rw [ih, bs_lin]
theorem bs_even (a : Nat) : bs (2 * a) = a := by unfold bs; rw [if_neg (by omega)]; omega
theorem bsN_16 (q : Nat) : bsN 4 (16 * q) = q := by
  simp only [bsN]
  rw [show 16 * q = 2 * (8 * q) by omega, bs_even, show 8 * q = 2 * (4 * q) by omega, bs_even, show 4 * q = 2 * (2 * q) by omega, bs_even, bs_even]
theorem bsN_tab : ∀ m, m < 16 → bsN 4 m = tab m := by decide +kernel
theorem split16 (r : Nat) : r = (16 * (r / 16)) ^^^ (r % 16) := by
  have h := Nat.two_pow_add_eq_or_of_lt (i := 4) (b := r % 16) (Nat.mod_lt _ (by decide)) (r / 16)
  have h0 : (2 ^ 4 * (r / 16)) &&& (r % 16) = 0 := by
    apply Nat.eq_of_testBit_eq
    intro i
    rw [Nat.testBit_and, Nat.zero_testBit]
    by_cases hi : i < 4
    · rw [Nat.testBit_two_pow_mul]
      simp [show ¬ 4 ≤ i by omega]
    · have : (r % 16).testBit i = false := by
        apply Nat.testBit_lt_two_pow
        have h1 : r % 16 < 2 ^ 4 := Nat.mod_lt _ (by decide)
        exact Nat.lt_of_lt_of_le h1 (Nat.pow_le_pow_right (by decide) (by omega))
      rw [this, Bool.and_false]
  have e : r = 2 ^ 4 * (r / 16) + r % 16 := by have := Nat.div_add_mod r 16; omega
  have hx : 2 ^ 4 * (r / 16) ||| r % 16 = (2 ^ 4 * (r / 16)) ^^^ (r % 16) := by
    apply Nat.eq_of_testBit_eq
    intro i
    have h1 := congrArg (Nat.testBit · i) h0
    simp only [Nat.testBit_and, Nat.zero_testBit] at h1
    rw [Nat.testBit_or, Nat.testBit_xor]
    generalize (2 ^ 4 * (r / 16)).testBit i = x at *
    generalize (r % 16).testBit i = y at *
    cases x <;> cases y <;> first | rfl | cases h1
  rw [hx] at h
  show r = (2 ^ 4 * (r / 16)) ^^^ (r % 16)
  rw [← h]
  exact e
theorem bs_st (r : Nat) : bsN 4 r = st r := by
  unfold st
  have e := bsN_lin (16 * (r / 16)) (r % 16) 4
  rw [← split16, bsN_16, bsN_tab _ (Nat.mod_lt _ (by decide))] at e
  exact e
theorem bsN_add (k r : Nat) : bsN (k + 4) r = bsN k (bsN 4 r) := by
  induction k with
  | zero => rfl
  | succ k ih => show bs (bsN (k + 4) r) = bs (bsN k (bsN 4 r)); rw [ih]
theorem bs8 (r : Nat) : bsN 8 r = st (st r) := by rw [bsN_add 4 r, bs_st, bs_st]
theorem bs_lt {r : Nat} (h : r < 4294967296) : bs r < 4294967296 := by
  unfold bs
  split
  · exact Nat.xor_lt_two_pow (n := 32) (by omega) (by decide)
  · omega
theorem bsN_lt {r : Nat} (h : r < 4294967296) : ∀ k, bsN k r < 4294967296 := by
  intro k
  induction k with
  | zero => exact h
  | succ k ih => exact bs_lt ih
theorem bs_one {r : Nat} (h : r % 2 = 1) : bs r = (r / 2) ^^^ 3988292384 := by unfold bs; rw [if_pos h]
theorem bs_zero {r : Nat} (h : r % 2 = 0) : bs r = r / 2 := by unfold bs; rw [if_neg (by omega)]
end Go.Proofs.YtilijbplfobneaaDoor.Cr
namespace Go.Proofs.YtilijbplfobneaaDoor
set_option linter.unusedVariables false
open Go.ChangeShapes Go.WideShapes Go.ChangeAt Go.RowKit

theorem and1 {a : Nat} (ha : a < 4294967296) : bits BinOp.and IntKind.u32 (a : Int) 1 = ((a % 2 : Nat) : Int) := by
  have e := (bits_nat .u32 32 (by decide) (fun n h0 h1 => by rw [wrap_u32]; omega) a 1 (by omega) (by omega)).1
  rw [Nat.and_one_is_mod] at e
  exact e
set_option maxHeartbeats 4000000 in
set_option maxRecDepth 100000 in
theorem c_rSum {L : List UInt8} {v : Value} (W : World) (h : Row W v L) (hl : L.length ≤ 1000000000) :
    Calls Tryd.prog 86 #[v] W fun e w' => e = .returned (.int .u32 (Cr.sum L : Nat)) ∧ Gr W w' := by
  obtain ⟨ad, cap, B, off, rfl, h1, h2, h3, h4⟩ := h
  obtain ⟨n, en⟩ : ∃ n, n = L.length := ⟨_, rfl⟩
  have HX := Lib.hid (And.intro h3 (And.intro h4 en))
  rw [← en] at h1 hl ⊢
  clear h3 h4 en
  go_enter Tryd.func86, Tryd.ntmps86
  go_wp2_with fail
  go_loopg [3, 4] n (fun k x y wr => ∃ i r : Nat, x = .int .u32 r ∧ y = .int .i64 i ∧ i ≤ n ∧ k = n - i ∧ r = Cr.crc 4294967295 (L.take i) ∧ Gr W wr)
  case atStart => exact ⟨0, 4294967295, rfl, rfl, Nat.zero_le _, by omega, rfl, Below.refl _ _⟩
  case round =>
    obtain ⟨i, r, rfl, rfl, hi, hk, hr, hg⟩ := hrel
    have hrl : r < 4294967296 := by rw [hr]; exact Cr.crc_lt _ _ (by decide)
    have HR := Lib.hid hr
    clear hr
    by_cases h : i < n
    · have ti : decide ((i : Int) < (n : Int)) = true := decide_eq_true (by omega)
      have ti2 : decide (i < n) = true := decide_eq_true h
      have ti3 : (i : Int) < (n : Int) := by omega
      have hn := HX.out.2.2
      have hiL : i < L.length := by omega
      obtain rfl := HX.out.1 (by omega)
      have c0 := cell_gr hg (HX.out.2.1 i hiL)
      rw [rb_at L hiL] at c0
      obtain ⟨c, ec⟩ : ∃ c, c = rb L i := ⟨_, rfl⟩
      have hc : c < 256 := by rw [ec]; exact rb_lt L i
      rw [← ec] at c0
      obtain ⟨x, ex⟩ : ∃ x, x = r ^^^ c := ⟨_, rfl⟩
      have hx : x < 4294967296 := by rw [ex]; exact Cr.xor_lt hrl (by omega)
      have hz : Cr.bsN 8 x = Cr.crc 4294967295 (L.take (i + 1)) := by rw [Cr.bs8, ex, Cr.crc_take L _ i hiL, ← HR.out, ec]; rfl
      have f1 : bits BinOp.xor IntKind.u32 (r : Int) (c : Int) = (x : Int) := by rw [xor32 hrl (by omega), ex]
      have f8 : (c : Int) % 4294967296 = (c : Int) := by omega
      have f9 : IntKind.u32.wrap (c : Int) = (c : Int) := by rw [wrap_u32]; omega
      have HN := Lib.hid (And.intro hz hx)
      have hmm : n - (i + 1) < gk := by omega
      have hi1 : i + 1 ≤ n := h
      clear hz ex hx hn hk ec
      go_wp2_with fail
      obtain ⟨wo, rfl⟩ : ∃ wo : World, wo = wr := ⟨_, rfl⟩
      go_loopg [3, 5] 8 (fun k u y wr => ∃ j r' : Nat, u = .int .u32 r' ∧ y = .int .i64 j ∧ j ≤ 8 ∧ k = 8 - j ∧ r' = Cr.bsN j x ∧ Gr W wr)
      case atStart => exact ⟨0, x, rfl, rfl, by omega, by omega, rfl, hg⟩
      case round =>
        obtain ⟨j, r', rfl, rfl, hj, hk2, hr', hg2⟩ := hrel
        have hrl' : r' < 4294967296 := by rw [hr']; exact Cr.bsN_lt HN.out.2 _
        have HR' := Lib.hid hr'
        clear hr'
        by_cases h8 : j < 8
        · have tj : decide ((j : Int) < 8) = true := decide_eq_true (by omega)
          have tj2 : (j : Int) < 8 := by omega
          obtain ⟨q, eq⟩ : ∃ q, q = r' / 2 := ⟨_, rfl⟩
          have g1 : (r' : Int) / 2 = (q : Int) := by omega
          have g2 : (r' : Int) / 2 ^ 1 = (q : Int) := by rw [show ((2 : Int) ^ 1) = 2 from rfl]; omega
          have g3 : (r' : Int) / 2 ^ min 1 64 = (q : Int) := g2
          have g4 : r' / 2 = q := eq.symm
          have hmm2 : 8 - (j + 1) < gk := by omega
          by_cases hb : r' % 2 = 1
          · have a1 : bits BinOp.and IntKind.u32 (r' : Int) 1 = 1 := by rw [and1 hrl', hb]; rfl
            obtain ⟨y, ey⟩ : ∃ y, y = q ^^^ 3988292384 := ⟨_, rfl⟩
            have a2 : bits BinOp.xor IntKind.u32 (q : Int) 3988292384 = (y : Int) := by rw [ey]; exact xor32 (b := 3988292384) (by omega) (by decide)
            have hnx : y = Cr.bsN (j + 1) x := by show y = Cr.bs (Cr.bsN j x); rw [← HR'.out, Cr.bs_one hb, ey, eq]
            have HN2 := Lib.hid hnx
            clear ey eq hb hnx hk2
            go_wp2_with fail
            go_roundg (8 - (j + 1))
            case measure => exact hmm2
            case rel => exact ⟨j + 1, y, rfl, by go_num, by omega, rfl, HN2.out, hg2⟩
          · have hb0 : r' % 2 = 0 := by omega
            have a1 : bits BinOp.and IntKind.u32 (r' : Int) 1 = 0 := by rw [and1 hrl', hb0]; rfl
            have hnx : q = Cr.bsN (j + 1) x := by show q = Cr.bs (Cr.bsN j x); rw [← HR'.out, Cr.bs_zero hb0, eq]
            have HN2 := Lib.hid hnx
            clear eq hb hb0 hnx hk2
            go_wp2_with fail
            go_roundg (8 - (j + 1))
            case measure => exact hmm2
            case rel => exact ⟨j + 1, q, rfl, by go_num, by omega, rfl, HN2.out, hg2⟩
        · obtain rfl : j = 8 := by omega
          have tj : decide (((8 : Nat) : Int) < 8) = false := decide_eq_false (by omega)
          have tj3 : ((8 : Nat) : Int) = 8 := rfl
          clear h8 hk2
          go_wp2_with fail
          go_roundg (n - (i + 1))
          case measure => exact hmm
          case rel => exact ⟨i + 1, r', rfl, by go_num, hi1, rfl, by rw [HR'.out]; exact HN.out.1, hg2⟩
    · obtain rfl : i = n := by omega
      have ti : decide ((i : Int) < (i : Int)) = false := decide_eq_false (by omega)
      have ti2 : decide (i < i) = false := decide_eq_false (by omega)
      obtain ⟨s, es⟩ : ∃ s, s = 4294967295 ^^^ r := ⟨_, rfl⟩
      have hs : Cr.sum L = s := by
        rw [es, HR.out, HX.out.2.2, List.take_of_length_le (Nat.le_refl _)]; rfl
      have g1 : bits BinOp.xor IntKind.u32 IntKind.u32.max (r : Int) = (s : Int) := by
        rw [es]; exact xor32 (a := 4294967295) (by decide) hrl
      have g2 : bits BinOp.xor IntKind.u32 (if IntKind.u32.signed = true then -1 else IntKind.u32.max) (r : Int) = (s : Int) := g1
      have HS := Lib.hid hs
      clear hs es
      go_wp2_with fail
      go_ret
      refine ⟨?_, hg⟩
      rw [HS.out]
      rfl
end Go.Proofs.YtilijbplfobneaaDoor
