/- math/bits.Div64 at every divisor that is greater than the higher word. -/
import Derived.Deep.CutBlock
import Derived.Test.YthjhhnolkiejpaaDoorW
import Derived.Test.YthjhhnolkiejpaaDoorM
import Derived.Deep.DeepCutAuto
namespace Go.Proofs.YthjhhnolkiejpaaDoor
set_option linter.unusedVariables false
open Go.ChangeShapes Go.WideShapes Go.ChangeAt Go.RowKit

/-- One digit's guess, lowered till it is the digit: the relation of both loops. -/
def DigRel (u yn1 Q : Nat) (q r : Value) : Prop := ∃ a b : Nat, q = .int .u64 a ∧ r = .int .u64 b ∧ a * yn1 + b = u ∧ Q ≤ a ∧ b < 4294967296

set_option maxHeartbeats 4000000 in
set_option maxRecDepth 100000 in
theorem d_main (hi lo y s Y yn1 yn0 u v un1 un0 g1 r1 Q1 t g0 r0 Q0 R0 : Nat) (h0 : 1 ≤ hi) (hy : hi < y) (hyw : y ≤ 18446744073709551615) (hl : lo ≤ 18446744073709551615) (hs : s ≤ 63) (w : World)
    (hz : ∀ W, Calls Tryd.prog 90 #[.int .u64 y] W fun e w' => e = .returned (.int .i64 s) ∧ W = w')
    (hY : IntKind.u64.wrap ((y : Int) * 2 ^ s) = (Y : Int)) (hYl : Y ≤ 18446744073709551615) (h1 : (Y : Int) / 4294967296 = (yn1 : Int)) (hyn : 2147483648 ≤ yn1) (hyn1 : yn1 < 4294967296) (hyn0 : yn0 < 4294967296) (hYe : yn1 * 4294967296 + yn0 = Y)
    (hA : bits BinOp.and IntKind.u64 (Y : Int) 4294967295 = (yn0 : Int))
    (hO : bits BinOp.or IntKind.u64 (IntKind.u64.wrap ((hi : Int) * 2 ^ s)) ((lo : Int) / 2 ^ (64 - s)) = (u : Int)) (hu : u < Y)
    (hL : IntKind.u64.wrap ((lo : Int) * 2 ^ s) = (v : Int)) (hL1 : (v : Int) / 4294967296 = (un1 : Int)) (hL0 : bits BinOp.and IntKind.u64 (v : Int) 4294967295 = (un0 : Int)) (hun1 : un1 < 4294967296) (hun0 : un0 < 4294967296) (hvl : v ≤ 18446744073709551615)
    (hg1 : (u : Int) / (yn1 : Int) = (g1 : Int)) (hr1 : IntKind.u64.wrap ((u : Int) - IntKind.u64.wrap ((g1 : Int) * (yn1 : Int))) = (r1 : Int)) (hgr1 : g1 * yn1 + r1 = u) (hr1l : r1 < yn1) (hQ1 : Q1 = (u * 4294967296 + un1) / (yn1 * 4294967296 + yn0)) (hQg1 : Q1 ≤ g1)
    (ht : IntKind.u64.wrap (IntKind.u64.wrap (IntKind.u64.wrap ((u : Int) * 4294967296) + (un1 : Int)) - IntKind.u64.wrap ((Q1 : Int) * (Y : Int))) = (t : Int)) (htl : t < Y)
    (hg0 : (t : Int) / (yn1 : Int) = (g0 : Int)) (hr0 : IntKind.u64.wrap ((t : Int) - IntKind.u64.wrap ((g0 : Int) * (yn1 : Int))) = (r0 : Int)) (hgr0 : g0 * yn1 + r0 = t) (hr0l : r0 < yn1) (hQ0 : Q0 = (t * 4294967296 + un0) / (yn1 * 4294967296 + yn0)) (hQg0 : Q0 ≤ g0)
    (hR : IntKind.u64.wrap (IntKind.u64.wrap (IntKind.u64.wrap ((t : Int) * 4294967296) + (un0 : Int)) - IntKind.u64.wrap ((Q0 : Int) * (Y : Int))) = (R0 : Int)) (hQ1l : Q1 < 4294967296) (hQ0l : Q0 < 4294967296) (hg1l : g1 ≤ 18446744073709551615) (hg0l : g0 ≤ 18446744073709551615) (hul : u ≤ 18446744073709551615) (htl2 : t ≤ 18446744073709551615) (hR0l : R0 ≤ 18446744073709551615) :
    Calls Tryd.prog 70 #[.int .u64 hi, .int .u64 lo, .int .u64 y] w fun e w' => e = .returned (.tuple #[.int .u64 ((Q1 : Int) * 4294967296 + (Q0 : Int)), .int .u64 ((R0 : Int) / 2 ^ s)]) ∧ w = w' := by
  have HZ := Lib.hid hz
  have HYe := Lib.hid hYe
  have Hgr1 := Lib.hid hgr1
  have Hgr0 := Lib.hid hgr0
  have HQ1 := Lib.hid hQ1
  have HQ0 := Lib.hid hQ0
  clear hz hYe hgr1 hgr0 hQ1 hQ0
  go_enter Tryd.func70, Tryd.ntmps70
  go_upto_block 0 with (go_at_call 90; refine (HZ.out _).mono ?_; rintro e w' ⟨rfl, rfl⟩)
  go_cut [15] (fun c wx => c = .int .u64 Q1 ∧ w = wx)
  case first =>
    go_wp2_with fail
    go_loop [15, 16] (fun c d => DigRel u yn1 Q1 c d) (fun c _ => (intOf c).toNat)
    case atStart => exact ⟨g1, r1, rfl, rfl, Hgr1.out, hQg1, by omega⟩
    case round =>
      obtain ⟨a, b, rfl, rfl, hab, hQa, hb⟩ := hrel
      have hau : a ≤ u := by
        have h1 : a * 1 ≤ a * yn1 := Nat.mul_le_mul_left a (by omega)
        omega
      have Hab := Lib.hid hab
      clear hab
      by_cases hA4 : (4294967296 : Int) ≤ (a : Int)
      · have hqa : Q1 < a := by
          have := Kn.gt (yn0 := yn0) Hab.out hun1 (by have := HYe.out; omega) (Or.inl (by omega))
          rw [← HQ1.out] at this
          exact this
        have HPOS := Lib.hid (Nat.le_sub_one_of_lt hqa)
        have ha1 : (1 : Int) ≤ (a : Int) := by omega
        clear hqa
        have hnext : (a - 1) * yn1 + (b + yn1) = u := by
          have h1 := Hab.out
          have h2 : a * yn1 = (a - 1) * yn1 + yn1 := by rw [← Nat.succ_mul]; congr 1; omega
          omega
        obtain ⟨c, hc⟩ : ∃ c : Nat, c = b + yn1 := ⟨_, rfl⟩
        have hci : (b : Int) + (yn1 : Int) = (c : Int) := by omega
        have hcl : c < 8589934592 := by omega
        rw [← hc] at hnext
        clear hc
        by_cases hb2 : (c : Int) < 4294967296
        · have HN := Lib.hid hnext
          clear hnext
          have hd2 : decide ((4294967296 : Int) ≤ (c : Int)) = false := decide_eq_false (by omega)
          go_wp2
          go_round
          case rel => exact ⟨a - 1, c, by go_num, by go_num, HN.out, HPOS.out, by omega⟩
          case measure => simp [intOf]; omega
        · have hd2 : decide ((4294967296 : Int) ≤ (c : Int)) = true := decide_eq_true (by omega)
          have hfin := Kn.eq_break (yn0 := yn0) hnext hun1 (by have := HYe.out; omega) hyn0 (by rw [← HQ1.out]; exact HPOS.out) (by omega)
          rw [← HQ1.out] at hfin
          have HF := Lib.hid hfin
          clear hfin hnext
          go_wp2
          go_meet
          exact ⟨by have := HF.out; go_num, rfl⟩
      · obtain ⟨p, hp⟩ : ∃ p : Nat, p = a * yn0 := ⟨_, rfl⟩
        have hpl : p ≤ 4294967295 * 4294967295 := by rw [hp]; exact Nat.mul_le_mul (by omega) (by omega)
        have hpi : (a : Int) * (yn0 : Int) = (p : Int) := by rw [hp]; simp
        have HP := Lib.hid hp
        clear hp
        have hA5 : decide ((4294967296 : Int) ≤ (a : Int)) = false := decide_eq_false hA4
        by_cases hgt : (4294967296 : Int) * (b : Int) + (un1 : Int) < (p : Int)
        · have hgt2 : decide ((4294967296 : Int) * (b : Int) + (un1 : Int) < (p : Int)) = true := decide_eq_true hgt
          have hqa : Q1 < a := by
            have := Kn.gt (yn0 := yn0) Hab.out hun1 (by have := HYe.out; omega) (Or.inr (by rw [← HP.out]; omega))
            rw [← HQ1.out] at this
            exact this
          have HPOS := Lib.hid (Nat.le_sub_one_of_lt hqa)
          have ha1 : (1 : Int) ≤ (a : Int) := by omega
          clear hqa
          have hnext : (a - 1) * yn1 + (b + yn1) = u := by
            have h1 := Hab.out
            have h2 : a * yn1 = (a - 1) * yn1 + yn1 := by rw [← Nat.succ_mul]; congr 1; omega
            omega
          obtain ⟨c, hc⟩ : ∃ c : Nat, c = b + yn1 := ⟨_, rfl⟩
          have hci : (b : Int) + (yn1 : Int) = (c : Int) := by omega
          have hcl : c < 8589934592 := by omega
          rw [← hc] at hnext
          clear hc
          by_cases hb2 : (c : Int) < 4294967296
          · have HN := Lib.hid hnext
            clear hnext
            have hd2 : decide ((4294967296 : Int) ≤ (c : Int)) = false := decide_eq_false (by omega)
            go_wp2
            go_round
            case rel => exact ⟨a - 1, c, by go_num, by go_num, HN.out, HPOS.out, by omega⟩
            case measure => simp [intOf]; omega
          · have hd2 : decide ((4294967296 : Int) ≤ (c : Int)) = true := decide_eq_true (by omega)
            have hfin := Kn.eq_break (yn0 := yn0) hnext hun1 (by have := HYe.out; omega) hyn0 (by rw [← HQ1.out]; exact HPOS.out) (by omega)
            rw [← HQ1.out] at hfin
            have HF := Lib.hid hfin
            clear hfin hnext
            go_wp2
            go_meet
            exact ⟨by have := HF.out; go_num, rfl⟩
        · have hfin := Kn.eq (yn0 := yn0) Hab.out hun1 (by have := HYe.out; omega) (by rw [← HQ1.out]; exact hQa) (by rw [← HP.out]; omega)
          rw [← HQ1.out] at hfin
          have HF := Lib.hid hfin
          clear hfin
          go_wp2
          go_meet
          exact ⟨by have := HF.out; go_num, rfl⟩
  case rest =>
    obtain ⟨rfl, rfl⟩ := hcut
    go_upto_block 2 with fail
    go_cut [18] (fun c wx => c = .int .u64 Q0 ∧ w = wx)
    case first =>
      go_wp2_with fail
      go_loop [18, 16] (fun c d => DigRel t yn1 Q0 c d) (fun c _ => (intOf c).toNat)
      case atStart => exact ⟨g0, r0, rfl, rfl, Hgr0.out, hQg0, by omega⟩
      case round =>
        obtain ⟨a, b, rfl, rfl, hab, hQa, hb⟩ := hrel
        have hau : a ≤ t := by
          have h1 : a * 1 ≤ a * yn1 := Nat.mul_le_mul_left a (by omega)
          omega
        have Hab := Lib.hid hab
        clear hab
        by_cases hA4 : (4294967296 : Int) ≤ (a : Int)
        · have hqa : Q0 < a := by
            have := Kn.gt (yn0 := yn0) Hab.out hun0 (by have := HYe.out; omega) (Or.inl (by omega))
            rw [← HQ0.out] at this
            exact this
          have HPOS := Lib.hid (Nat.le_sub_one_of_lt hqa)
          have ha1 : (1 : Int) ≤ (a : Int) := by omega
          clear hqa
          have hnext : (a - 1) * yn1 + (b + yn1) = t := by
            have h1 := Hab.out
            have h2 : a * yn1 = (a - 1) * yn1 + yn1 := by rw [← Nat.succ_mul]; congr 1; omega
            omega
          obtain ⟨c, hc⟩ : ∃ c : Nat, c = b + yn1 := ⟨_, rfl⟩
          have hci : (b : Int) + (yn1 : Int) = (c : Int) := by omega
          have hcl : c < 8589934592 := by omega
          rw [← hc] at hnext
          clear hc
          by_cases hb2 : (c : Int) < 4294967296
          · have HN := Lib.hid hnext
            clear hnext
            have hd2 : decide ((4294967296 : Int) ≤ (c : Int)) = false := decide_eq_false (by omega)
            go_wp2
            go_round
            case rel => exact ⟨a - 1, c, by go_num, by go_num, HN.out, HPOS.out, by omega⟩
            case measure => simp [intOf]; omega
          · have hd2 : decide ((4294967296 : Int) ≤ (c : Int)) = true := decide_eq_true (by omega)
            have hfin := Kn.eq_break (yn0 := yn0) hnext hun0 (by have := HYe.out; omega) hyn0 (by rw [← HQ0.out]; exact HPOS.out) (by omega)
            rw [← HQ0.out] at hfin
            have HF := Lib.hid hfin
            clear hfin hnext
            go_wp2
            go_meet
            exact ⟨by have := HF.out; go_num, rfl⟩
        · obtain ⟨p, hp⟩ : ∃ p : Nat, p = a * yn0 := ⟨_, rfl⟩
          have hpl : p ≤ 4294967295 * 4294967295 := by rw [hp]; exact Nat.mul_le_mul (by omega) (by omega)
          have hpi : (a : Int) * (yn0 : Int) = (p : Int) := by rw [hp]; simp
          have HP := Lib.hid hp
          clear hp
          have hA5 : decide ((4294967296 : Int) ≤ (a : Int)) = false := decide_eq_false hA4
          by_cases hgt : (4294967296 : Int) * (b : Int) + (un0 : Int) < (p : Int)
          · have hgt2 : decide ((4294967296 : Int) * (b : Int) + (un0 : Int) < (p : Int)) = true := decide_eq_true hgt
            have hqa : Q0 < a := by
              have := Kn.gt (yn0 := yn0) Hab.out hun0 (by have := HYe.out; omega) (Or.inr (by rw [← HP.out]; omega))
              rw [← HQ0.out] at this
              exact this
            have HPOS := Lib.hid (Nat.le_sub_one_of_lt hqa)
            have ha1 : (1 : Int) ≤ (a : Int) := by omega
            clear hqa
            have hnext : (a - 1) * yn1 + (b + yn1) = t := by
              have h1 := Hab.out
              have h2 : a * yn1 = (a - 1) * yn1 + yn1 := by rw [← Nat.succ_mul]; congr 1; omega
              omega
            obtain ⟨c, hc⟩ : ∃ c : Nat, c = b + yn1 := ⟨_, rfl⟩
            have hci : (b : Int) + (yn1 : Int) = (c : Int) := by omega
            have hcl : c < 8589934592 := by omega
            rw [← hc] at hnext
            clear hc
            by_cases hb2 : (c : Int) < 4294967296
            · have HN := Lib.hid hnext
              clear hnext
              have hd2 : decide ((4294967296 : Int) ≤ (c : Int)) = false := decide_eq_false (by omega)
              go_wp2
              go_round
              case rel => exact ⟨a - 1, c, by go_num, by go_num, HN.out, HPOS.out, by omega⟩
              case measure => simp [intOf]; omega
            · have hd2 : decide ((4294967296 : Int) ≤ (c : Int)) = true := decide_eq_true (by omega)
              have hfin := Kn.eq_break (yn0 := yn0) hnext hun0 (by have := HYe.out; omega) hyn0 (by rw [← HQ0.out]; exact HPOS.out) (by omega)
              rw [← HQ0.out] at hfin
              have HF := Lib.hid hfin
              clear hfin hnext
              go_wp2
              go_meet
              exact ⟨by have := HF.out; go_num, rfl⟩
          · have hfin := Kn.eq (yn0 := yn0) Hab.out hun0 (by have := HYe.out; omega) (by rw [← HQ0.out]; exact hQa) (by rw [← HP.out]; omega)
            rw [← HQ0.out] at hfin
            have HF := Lib.hid hfin
            clear hfin
            go_wp2
            go_meet
            exact ⟨by have := HF.out; go_num, rfl⟩
    case rest =>
      obtain ⟨rfl, rfl⟩ := hcut
      go_wp2
      go_ret2
      exact ⟨rfl, rfl⟩

/-- The divisor's leading noughts, struck by a shift. -/
theorem norm {y : Nat} (h1 : 1 ≤ y) (h : Wd y) : ∃ s : Nat, s ≤ 63 ∧ 64 - (Lib.bitLen y : Int) = (s : Int) ∧ 9223372036854775808 ≤ y * 2 ^ s ∧ y * 2 ^ s < 18446744073709551616 := by
  obtain ⟨b1, b2, b3⟩ := Lib.bitLenAux_bounds 64 y h (by omega)
  have hb : Lib.bitLenAux 64 y ≤ 64 := by
    rcases Nat.lt_or_ge 64 (Lib.bitLenAux 64 y) with g | g
    · exfalso
      have := Nat.pow_le_pow_right (n := 2) (by omega) (show 64 ≤ Lib.bitLenAux 64 y - 1 by omega)
      unfold Wd at h
      omega
    · exact g
  obtain ⟨k, hk⟩ : ∃ k, k = Lib.bitLenAux 64 y := ⟨_, rfl⟩
  have hbl : Lib.bitLen y = k := by rw [hk]; rfl
  rw [← hk] at b1 b2 b3 hb
  refine ⟨64 - k, by omega, by rw [hbl]; omega, ?_, ?_⟩
  · have h2 : 2 ^ (k - 1) * 2 ^ (64 - k) ≤ y * 2 ^ (64 - k) := Nat.mul_le_mul_right _ b2
    rw [← Nat.pow_add, show k - 1 + (64 - k) = 63 by omega] at h2
    exact h2
  · have h2 : y * 2 ^ (64 - k) < 2 ^ k * 2 ^ (64 - k) := Nat.mul_lt_mul_of_pos_right b3 (Nat.two_pow_pos _)
    rw [← Nat.pow_add, show k + (64 - k) = 64 by omega] at h2
    exact h2

theorem d_zero (lo y : Nat) (h1 : 1 ≤ y) (hyw : Wd y) (hl : Wd lo) (w : World) :
    Calls Tryd.prog 70 #[.int .u64 0, .int .u64 lo, .int .u64 y] w fun e w' => e = .returned (.tuple #[.int .u64 ((lo / y : Nat) : Int), .int .u64 ((lo % y : Nat) : Int)]) ∧ Gr w w' := by
  unfold Wd at hyw hl
  have hd0 : (((y : Nat) : Int) == 0) = false := by simp; omega
  have hd1 : decide ((y : Int) ≤ 0) = false := decide_eq_false (by omega)
  have hq : lo / y ≤ 18446744073709551615 := Nat.le_trans (Nat.div_le_self _ _) (by omega)
  have hr : lo % y ≤ 18446744073709551615 := Nat.le_trans (Nat.mod_le _ _) (by omega)
  go_enter Tryd.func70, Tryd.ntmps70
  go_wp2
  go_quiet (fail)
  go_wp2
  go_ret2
  have e1 : IntKind.u64.wrap ((lo : Int) / (y : Int)) = ((lo / y : Nat) : Int) := by rw [← Int.natCast_ediv]; generalize lo / y = k at hq; exact IntWalk.u64_in _ (by omega)
  refine ⟨?_, Gr.drewN (Below.refl _ _) _⟩
  show Ending.returned (.tuple #[.int .u64 (IntKind.u64.wrap ((lo : Int) / (y : Int))), .int .u64 ((lo : Int) % (y : Int))]) = _
  rw [e1, ← Int.natCast_emod]

/-- Div64, whatever the higher word below the divisor. -/
theorem c_Div64 (hi lo y : Nat) (hy : hi < y) (hyw : Wd y) (hl : Wd lo) (w : World) :
    Calls Tryd.prog 70 #[.int .u64 hi, .int .u64 lo, .int .u64 y] w fun e w' => e = .returned (.tuple #[.int .u64 ((val hi lo / y : Nat) : Int), .int .u64 ((val hi lo % y : Nat) : Int)]) ∧ Gr w w' := by
  rcases Nat.eq_zero_or_pos hi with rfl | hpos
  · have e : val 0 lo = lo := by unfold val; omega
    rw [e]
    exact d_zero lo y hy hyw hl w
  · have hy1 : 1 ≤ y := by omega
    obtain ⟨s, hs, hlz, hn1, hn2⟩ := norm hy1 hyw
    obtain ⟨Y, hY⟩ : ∃ Y, Y = y * 2 ^ s := ⟨_, rfl⟩
    obtain ⟨u, hu⟩ : ∃ u, u = hi * 2 ^ s + lo / 2 ^ (64 - s) := ⟨_, rfl⟩
    obtain ⟨v, hv⟩ : ∃ v, v = lo * 2 ^ s % 18446744073709551616 := ⟨_, rfl⟩
    have hsp := Kn.split (hi := hi) hs hl
    rw [← hu, ← hv] at hsp
    have hlo : lo / 2 ^ (64 - s) < 2 ^ s := by
      rw [Nat.div_lt_iff_lt_mul (Nat.two_pow_pos _), ← Nat.pow_add, show s + (64 - s) = 64 by omega]
      exact hl
    have huY : u < Y := by
      have h1 : hi * 2 ^ s + 2 ^ s ≤ y * 2 ^ s := by rw [← Nat.succ_mul]; exact Nat.mul_le_mul_right _ hy
      omega
    rw [← hY] at hn1 hn2
    have hvl : v < 18446744073709551616 := by rw [hv]; exact Nat.mod_lt _ (by omega)
    obtain ⟨yn1, hyn1⟩ : ∃ yn1, yn1 = Y / 4294967296 := ⟨_, rfl⟩
    obtain ⟨yn0, hyn0⟩ : ∃ yn0, yn0 = Y % 4294967296 := ⟨_, rfl⟩
    obtain ⟨un1, hun1⟩ : ∃ un1, un1 = v / 4294967296 := ⟨_, rfl⟩
    obtain ⟨un0, hun0⟩ : ∃ un0, un0 = v % 4294967296 := ⟨_, rfl⟩
    have hYe : yn1 * 4294967296 + yn0 = Y := by omega
    obtain ⟨Q1, hQ1⟩ : ∃ Q1, Q1 = (u * 4294967296 + un1) / (yn1 * 4294967296 + yn0) := ⟨_, rfl⟩
    obtain ⟨t, ht⟩ : ∃ t, t = (u * 4294967296 + un1) % (yn1 * 4294967296 + yn0) := ⟨_, rfl⟩
    obtain ⟨Q0, hQ0⟩ : ∃ Q0, Q0 = (t * 4294967296 + un0) / (yn1 * 4294967296 + yn0) := ⟨_, rfl⟩
    obtain ⟨R0, hR0⟩ : ∃ R0, R0 = (t * 4294967296 + un0) % (yn1 * 4294967296 + yn0) := ⟨_, rfl⟩
    have htl : t < Y := by rw [ht, hYe]; exact Nat.mod_lt _ (by omega)
    have hRl : R0 < Y := by rw [hR0, hYe]; exact Nat.mod_lt _ (by omega)
    have E1 : u * 4294967296 + un1 = Q1 * Y + t := by
      have := Nat.div_add_mod (u * 4294967296 + un1) (yn1 * 4294967296 + yn0)
      rw [← hQ1, ← ht, hYe, Nat.mul_comm] at this
      exact this.symm
    have E0 : t * 4294967296 + un0 = Q0 * Y + R0 := by
      have := Nat.div_add_mod (t * 4294967296 + un0) (yn1 * 4294967296 + yn0)
      rw [← hQ0, ← hR0, hYe, Nat.mul_comm] at this
      exact this.symm
    have hsum : val hi lo * 2 ^ s = (u * 4294967296 + un1) * 4294967296 + un0 := by
      refine hsp.trans ?_
      rw [Nat.add_mul, Nat.mul_assoc]
      have h2 : v = un1 * 4294967296 + un0 := by rw [hun1, hun0, Nat.mul_comm]; exact (Nat.div_add_mod v 4294967296).symm
      rw [Nat.add_assoc, ← h2]
    obtain ⟨W1, W2⟩ := Kn.whole (Nat.two_pow_pos s) hY hsum E1 E0 hRl
    have hQ1l : Q1 < 4294967296 := by
      rw [hQ1, hYe, Nat.div_lt_iff_lt_mul (by omega)]
      omega
    have hQ0l : Q0 < 4294967296 := by
      rw [hQ0, hYe, Nat.div_lt_iff_lt_mul (by omega)]
      omega
    have hfin : R0 / 2 ^ s = val hi lo % y := by
      rw [← W2, Nat.mul_div_cancel _ (Nat.two_pow_pos s)]
    have g1 := Nat.div_add_mod u yn1
    have g0 := Nat.div_add_mod t yn1
    have hyp : 0 < yn1 := by omega
    have hpow : ((2 : Int) ^ s) = ((2 ^ s : Nat) : Int) := by simp
    have hpow2 : ((2 : Int) ^ (64 - s)) = ((2 ^ (64 - s) : Nat) : Int) := by simp
    have hhi : hi * 2 ^ s < 18446744073709551616 := Nat.lt_of_le_of_lt (by rw [hu]; exact Nat.le_add_right _ _) (Nat.lt_trans huY hn2)
    have main := d_main hi lo y s Y yn1 yn0 u v un1 un0 (u / yn1) (u % yn1) Q1 t (t / yn1) (t % yn1) Q0 R0 hpos hy (by unfold Wd at hyw; omega) (by unfold Wd at hl; omega) hs w
      (fun W => by
        refine (Tryd.bits_LeadingZeros64 (y : Int) W (by omega) (by unfold Wd at hyw; omega)).mono ?_
        rintro e w' ⟨rfl, rfl⟩
        refine ⟨?_, rfl⟩
        rw [Int.toNat_natCast, hlz])
      (by rw [hpow, ← Int.natCast_mul, ← hY]; exact IntWalk.u64_in _ (by omega)) (by omega) (by omega) (by omega) (by omega) (by omega) hYe
      (by have := bits_and_u64_nat Y 4294967295 (by omega) (by omega); rw [show ((4294967295 : Nat) : Int) = 4294967295 from rfl] at this; rw [this, hyn0]; congr 1; exact Nat.and_two_pow_sub_one_eq_mod Y 32)
      (by
        have h1 : IntKind.u64.wrap ((hi : Int) * 2 ^ s) = ((hi * 2 ^ s : Nat) : Int) := by rw [hpow, ← Int.natCast_mul]; exact IntWalk.u64_in _ (by omega)
        rw [h1, hpow2, ← Int.natCast_ediv, bits_or_u64_nat _ _ hhi (Nat.lt_of_le_of_lt (Nat.div_le_self _ _) hl), Kn.shifted hs hl, hu])
      huY
      (by rw [hpow, ← Int.natCast_mul, IntKind.wrap_u64, hv]; omega)
      (by omega)
      (by have := bits_and_u64_nat v 4294967295 hvl (by omega); rw [show ((4294967295 : Nat) : Int) = 4294967295 from rfl] at this; rw [this, hun0]; congr 1; exact Nat.and_two_pow_sub_one_eq_mod v 32)
      (by omega) (by omega) (by omega)
      (by rw [Int.natCast_ediv])
      (by rw [Nat.mul_comm] at g1; rw [← Int.natCast_mul, IntKind.wrap_u64, IntKind.wrap_u64]; omega)
      (by rw [Nat.mul_comm]; exact g1) (Nat.mod_lt _ hyp) hQ1 (by rw [hQ1]; exact Kn.first hyp (by omega))
      (Kn.rest_wrap E1 (by omega)) htl
      (by rw [Int.natCast_ediv])
      (by rw [Nat.mul_comm] at g0; rw [← Int.natCast_mul, IntKind.wrap_u64, IntKind.wrap_u64]; omega)
      (by rw [Nat.mul_comm]; exact g0) (Nat.mod_lt _ hyp) hQ0 (by rw [hQ0]; exact Kn.first hyp (by omega))
      (Kn.rest_wrap E0 (by omega)) hQ1l hQ0l (Nat.le_trans (Nat.div_le_self _ _) (by omega)) (Nat.le_trans (Nat.div_le_self _ _) (by omega)) (by omega) (by omega) (by omega)
    refine main.mono ?_
    rintro e w' ⟨rfl, rfl⟩
    refine ⟨?_, Below.refl _ _⟩
    rw [W1, ← hfin, hpow, ← Int.natCast_ediv, Int.natCast_add, Int.natCast_mul]
    rfl
end Go.Proofs.YthjhhnolkiejpaaDoor
