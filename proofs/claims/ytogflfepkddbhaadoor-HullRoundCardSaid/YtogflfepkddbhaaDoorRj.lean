/- the walk of WideSquares; the walks of WideOver, WideOrder, WideSquares; ratio: what its functions answer; the document's own long division, bit by bit; the document's own long division: the walk; the document's own products: words; the document's own products; the document's own squares, and fractions over one; the document's own Lowest -/
import Derived.Test.YtogflfepkddbhaaDoorK
import Derived.Test.YtogflfepkddbhaaDoorH
namespace Go.Proofs.YtogflfepkddbhaaDoor
set_option linter.unusedVariables false
open Go.ChangeShapes Go.WideShapes Go.ChangeAt Go.RowKit

theorem c_Abs (n : Int) (h : -9223372036854775808 ≤ n ∧ n ≤ 9223372036854775807) (w : World) :
    Calls Tryd.prog 85 #[.int .i64 n] w fun e w' => e = .returned (.int .u64 (n.natAbs : Int)) ∧ w' = w := by
  by_cases hn : n < 0
  · have e : (n.natAbs : Int) = -n := by omega
    rw [e]
    have e1 : IntKind.u64.wrap (-(n + 1)) = -(n + 1) := IntWalk.u64_in _ (by omega)
    have e2 : IntKind.u64.wrap (-(n + 1) + 1) = -n := by rw [show -(n + 1) + 1 = -n by omega]; exact IntWalk.u64_in _ (by omega)
    go_enter Tryd.func85, Tryd.ntmps85
    go_wp2
    go_ret
    exact ⟨rfl, rfl⟩
  · have e : (n.natAbs : Int) = n := by omega
    rw [e]
    have e1 : IntKind.u64.wrap n = n := IntWalk.u64_in _ (by omega)
    go_enter Tryd.func85, Tryd.ntmps85
    go_wp2
    go_ret
    exact ⟨rfl, rfl⟩
theorem sq_lt {x y : Nat} : x * x < y * y ↔ x < y := by
  constructor
  · intro h
    rcases Nat.lt_or_ge x y with g | g
    · exact g
    · exact absurd (Nat.mul_le_mul g g) (by omega)
  · intro h
    exact Nat.mul_lt_mul'' h h
end Go.Proofs.YtogflfepkddbhaaDoor
namespace Go.Proofs.YtogflfepkddbhaaDoor
set_option linter.unusedVariables false
open Go.ChangeShapes Go.WideShapes Go.ChangeAt Go.RowKit

theorem val_zero (n : Nat) : val 0 n = n := by unfold val; omega
/-- All digits turned. -/
theorem xor_all (b : Nat) (h : Wd b) : bits BinOp.xor IntKind.u64 IntKind.u64.max (b : Int) = ((18446744073709551615 - b : Nat) : Int) := by
  have e := bits_xor_u64_nat 18446744073709551615 b (by omega) h
  have hm : IntKind.u64.max = ((18446744073709551615 : Nat) : Int) := rfl
  rw [hm, e]
  congr 1
  have h1 : (BitVec.allOnes 64 ^^^ BitVec.ofNat 64 b).toNat = 18446744073709551615 ^^^ b := by
    rw [BitVec.toNat_xor, BitVec.toNat_ofNat, Nat.mod_eq_of_lt h]
    rfl
  have h2 : (~~~ (BitVec.ofNat 64 b)).toNat = 18446744073709551615 - b := by
    rw [BitVec.toNat_not, BitVec.toNat_ofNat, Nat.mod_eq_of_lt h]
  rw [← h1, ← h2, BitVec.not_def]

end Go.Proofs.YtogflfepkddbhaaDoor
namespace Go.Proofs.YtogflfepkddbhaaDoor
set_option linter.unusedVariables false
open Go.ChangeShapes Go.WideShapes Go.ChangeAt Go.RowKit

theorem c_Or (a b : Int) (W : World) : ∀ B w, B < w.heap.size → w.cell? ⟨B, 0, none⟩ = some (.int .i64 a) → w.cell? ⟨B, 1, none⟩ = some (.int .i64 b) →
    Calls Tryd.prog 28 #[.slice (some ⟨B, 0, none⟩) 2 2] w fun e w' => e = .returned (.int .i64 (if a = 0 then b else a)) ∧ Gr w w' := by
  intro B w hB k0 k1
  go_enter Tryd.func28, Tryd.ntmps28
  go_wp2_with fail
  go_loopg [8] 2 (fun k v wr => ∃ i : Nat, i + k = 2 ∧ v = .int .i64 i ∧ (1 ≤ i → a = 0) ∧ (2 ≤ i → b = 0) ∧ Gr w wr)
  case atStart => exact ⟨0, by omega, rfl, by omega, by omega, Gr.of_eq rfl⟩
  case round =>
    obtain ⟨i, hk, rfl, p1, p2, hg⟩ := hrel
    rcases (by omega : i = 0 ∨ i = 1 ∨ i = 2) with rfl | rfl | rfl
    · have c0 := cell_gr hg k0
      by_cases ha : a = 0
      · subst ha
        go_wp2_with fail
        go_roundg 1
        case measure => omega
        case rel => exact ⟨1, by omega, rfl, by simp, by simp, hg⟩
      · have e : (a == 0) = false := by simpa using ha
        have e2 : (a != 0) = true := by simpa using ha
        go_wp2_with fail
        go_ret
        exact ⟨rfl, hg⟩
    · have c0 := cell_gr hg k1
      obtain rfl := p1 (by omega)
      by_cases hb : b = 0
      · subst hb
        go_wp2_with fail
        go_roundg 0
        case measure => omega
        case rel => exact ⟨2, by omega, rfl, by simp, by simp, hg⟩
      · have e : (b == 0) = false := by simpa using hb
        have e2 : (b != 0) = true := by simpa using hb
        go_wp2_with fail
        go_ret
        exact ⟨rfl, hg⟩
    · obtain rfl := p1 (by omega)
      obtain rfl := p2 (by omega)
      go_wp2_with fail
      go_ret
      exact ⟨by simp, hg⟩

/-- The two words of a number. -/
theorem val_split (n : Nat) (h : n < 340282366920938463463374607431768211456) : val (n / 18446744073709551616) (n % 18446744073709551616) = n ∧ Wd (n / 18446744073709551616) ∧ Wd (n % 18446744073709551616) := by
  unfold val Wd; omega
/-- The denominator that is left. -/
def lowD (n d : Nat) : Nat := d / Nat.gcd d (n % d)
/-- The numerator that is left. -/
def lowN (n d : Nat) : Nat := n / Nat.gcd d (n % d)
end Go.Proofs.YtogflfepkddbhaaDoor
namespace Go.Proofs.YtogflfepkddbhaaDoor
set_option linter.unusedVariables false
open Go.ChangeShapes Go.WideShapes Go.ChangeAt Go.RowKit

/-- What holds at the head of Div's loop: k bits are to come. -/
def DivRel (R : Nat) (h l d : Nat) (W : World) (k : Nat) (rv iv : Value) (wr : World) : Prop :=
  ∃ (qh ql r : Nat), k ≤ 128 ∧ Wd qh ∧ Wd ql ∧ r < d ∧ rv = .int .u64 r ∧ iv = .int .i64 ((k : Int) - 1) ∧ val qh ql = val h l / 2 ^ k / d * 2 ^ k ∧ r = val h l / 2 ^ k % d ∧
    wr.cell? ⟨R, 0, none⟩ = some (.int .u64 h) ∧ wr.cell? ⟨R, 1, none⟩ = some (.int .u64 l) ∧ wr.cell? ⟨R + 1, 0, none⟩ = some (.int .u64 0) ∧ wr.cell? ⟨R + 1, 1, none⟩ = some (.int .u64 0) ∧ wr.frozen? ⟨R + 1, 0, none⟩ = false ∧ wr.frozen? ⟨R + 1, 1, none⟩ = false ∧
    wr.cell? ⟨R + 1 + 1, 0, none⟩ = some (.int .u64 qh) ∧ wr.cell? ⟨R + 1 + 1, 1, none⟩ = some (.int .u64 ql) ∧ wr.frozen? ⟨R + 1 + 1, 0, none⟩ = false ∧ wr.frozen? ⟨R + 1 + 1, 1, none⟩ = false ∧ Gr W wr
theorem and_one (x : Nat) (h : Wd x) : bits BinOp.and IntKind.u64 (x : Int) 1 = ((x % 2 : Nat) : Int) := by
  have e := bits_and_u64_nat x 1 h (by omega)
  rw [Nat.and_one_is_mod] at e
  exact e
theorem or_bit (m b : Nat) (h : Wd m) (hb : b < 2) (hm : m % 2 = 0) : bits BinOp.or IntKind.u64 (m : Int) (b : Int) = ((m + b : Nat) : Int) := by
  have e := bits_or_u64_nat m b h (by omega)
  have e2 := Nat.two_pow_add_eq_or_of_lt (i := 1) (b := b) (by omega) (m / 2)
  rw [show 2 ^ 1 * (m / 2) = m by omega] at e2
  rw [← e2] at e
  exact e
/-- One bit more. -/
theorem div_step {T d B : Nat} (hd : 1 ≤ d) (hB : B < 2) : (2 * T + B) / d = 2 * (T / d) + (if d ≤ 2 * (T % d) + B then 1 else 0) ∧ (2 * T + B) % d = 2 * (T % d) + B - (if d ≤ 2 * (T % d) + B then d else 0) := by
  have h1 := Nat.div_add_mod T d
  have h2 := Nat.mod_lt T (show 0 < d by omega)
  generalize T / d = Q at *
  generalize T % d = r at *
  have e : 2 * T + B = d * (2 * Q) + (2 * r + B) := by
    rw [← h1, Nat.mul_left_comm d 2 Q]; omega
  rw [e, Nat.mul_add_div (by omega), Nat.mul_add_mod]
  split
  · rename_i h
    have a : (2 * r + B) / d = 1 := by
      rw [Nat.div_eq_iff (by omega)]; omega
    have b : (2 * r + B) % d = 2 * r + B - d := by
      rw [Nat.mod_eq_sub_mod h, Nat.mod_eq_of_lt (by omega)]
    rw [a, b]; omega
  · rename_i h
    rw [Nat.div_eq_of_lt (by omega), Nat.mod_eq_of_lt (by omega)]; omega
theorem two_steps (N k : Nat) : N / 2 ^ k = 2 * (N / 2 ^ (k + 1)) + N / 2 ^ k % 2 := by
  rw [Nat.pow_succ, ← Nat.div_div_eq_div_mul]
  omega
theorem bit_high (h l j : Nat) (hl : Wd l) : val h l / 2 ^ (j + 64) = h / 2 ^ j := by
  rw [Nat.add_comm, Nat.pow_add, ← Nat.div_div_eq_div_mul]
  congr 1
  unfold val Wd at *
  omega
theorem bit_low (h l i : Nat) (hi : i < 64) : val h l / 2 ^ i % 2 = l / 2 ^ i % 2 := by
  obtain ⟨s, hs⟩ : ∃ s, 64 = i + 1 + s := ⟨63 - i, by omega⟩
  have e : val h l = 2 ^ i * (2 * (h * 2 ^ s)) + l := by
    unfold val
    rw [show (18446744073709551616 : Nat) = 2 ^ 64 from rfl, hs, Nat.pow_add, Nat.pow_succ]
    grind
  rw [e, Nat.mul_add_div (Nat.two_pow_pos i)]
  omega
theorem or_pow (a j s : Nat) (e : a = s * 2 ^ (j + 1)) : a ||| 2 ^ j = a + 2 ^ j := by
  have h := Nat.two_pow_add_eq_or_of_lt (i := j + 1) (b := 2 ^ j) (Nat.pow_lt_pow_right (by omega) (by omega)) s
  rw [Nat.mul_comm] at h
  rw [e, ← h]
/-- The quotient's words, where j + 65 bits are to come. -/
theorem quo_high {qh ql Q j : Nat} (hql : Wd ql) (e : val qh ql = Q * 2 ^ (j + 64 + 1)) : ql = 0 ∧ qh = Q * 2 ^ (j + 1) := by
  have e2 : Q * 2 ^ (j + 64 + 1) = Q * 2 ^ (j + 1) * 18446744073709551616 := by
    rw [show (18446744073709551616 : Nat) = 2 ^ 64 from rfl, Nat.mul_assoc, ← Nat.pow_add]
  rw [e2] at e
  generalize Q * 2 ^ (j + 1) = z at *
  unfold val Wd at *
  omega
theorem quo_low {qh ql Q i : Nat} (hi : i < 64) (e : val qh ql = Q * 2 ^ (i + 1)) : ∃ s, ql = s * 2 ^ (i + 1) := by
  obtain ⟨s, hs⟩ : ∃ s, 64 = i + 1 + s := ⟨63 - i, by omega⟩
  have d1 : 2 ^ (i + 1) ∣ val qh ql := ⟨Q, by rw [e, Nat.mul_comm]⟩
  have d2 : 2 ^ (i + 1) ∣ qh * 18446744073709551616 := by
    rw [show (18446744073709551616 : Nat) = 2 ^ 64 from rfl, hs, Nat.pow_add (2) (i + 1) s]
    exact ⟨qh * 2 ^ s, by grind⟩
  obtain ⟨c, hc⟩ := (Nat.dvd_add_right d2).1 (show 2 ^ (i + 1) ∣ qh * 18446744073709551616 + ql from d1)
  exact ⟨c, by rw [hc, Nat.mul_comm]⟩
theorem or_u64 (a p : Nat) (ha : Wd a) (hp : Wd p) (h : a ||| p = a + p) : bits BinOp.or IntKind.u64 (a : Int) (p : Int) = ((a + p : Nat) : Int) := by
  have e := bits_or_u64_nat a p ha hp
  rw [h] at e
  exact e
end Go.Proofs.YtogflfepkddbhaaDoor
namespace Go.Proofs.YtogflfepkddbhaaDoor
set_option linter.unusedVariables false
open Go.ChangeShapes Go.WideShapes Go.ChangeAt Go.RowKit

set_option maxHeartbeats 4000000 in
set_option maxRecDepth 100000 in
theorem c_rDiv (h l d : Nat) (h1 : Wd h) (h2 : Wd l) (h3 : Wd d) (hd : 1 ≤ d) (w : World) :
    Calls Tryd.prog 56 #[.agg #[.int .u64 h, .int .u64 l], .int .u64 d] w fun e w' => e = .returned (.tuple #[.agg #[.int .u64 ((val h l / d / 18446744073709551616 : Nat) : Int), .int .u64 ((val h l / d % 18446744073709551616 : Nat) : Int)], .int .u64 ((val h l % d : Nat) : Int)]) ∧ Gr w w' := by
  obtain ⟨A1, eA1⟩ : ∃ a, a = val h l / d / 18446744073709551616 := ⟨_, rfl⟩
  obtain ⟨A2, eA2⟩ : ∃ a, a = val h l / d % 18446744073709551616 := ⟨_, rfl⟩
  obtain ⟨A3, eA3⟩ : ∃ a, a = val h l % d := ⟨_, rfl⟩
  rw [← eA1, ← eA2, ← eA3]
  have HA := Lib.hid (And.intro eA1 (And.intro eA2 eA3))
  clear eA1 eA2 eA3
  go_enter Tryd.func56, Tryd.ntmps56
  go_wp2_with fail
  go_loopg [7, 8] 128 (fun k rv iv wr => DivRel w.heap.size h l d w k rv iv wr)
  case atStart =>
    have hz : val h l / 2 ^ 128 = 0 := Nat.div_eq_of_lt (by unfold val Wd at *; omega)
    exact ⟨0, 0, 0, by omega, by unfold Wd; omega, by unfold Wd; omega, by omega, rfl, rfl, by rw [hz, Nat.zero_div]; rfl, by rw [hz, Nat.zero_mod], by go_simp, by go_simp, by go_simp, by go_simp, by go_simp, by go_simp, by go_simp, by go_simp, by go_simp, by go_simp, by go_grown⟩
  case round =>
    obtain ⟨qh, ql, r, hk, wqh, wql, hr, rfl, rfl, eq, er, p0, p1, z0, z1, zf0, zf1, c0, c1, f0, f1, gwr⟩ := hrel
    have za := World.block_lt_of_cell? _ _ p0
    have zb := World.block_lt_of_cell? _ _ z0
    have zc := World.block_lt_of_cell? _ _ c0
    rcases Nat.eq_zero_or_pos gk with rfl | hpos
    · rw [Nat.pow_zero, Nat.div_one] at eq er
      rw [Nat.mul_one] at eq
      have v1 : qh = A1 := by rw [HA.out.1, ← eq]; unfold val Wd at *; omega
      have v2 : ql = A2 := by rw [HA.out.2.1, ← eq]; unfold val Wd at *; omega
      have v3 : r = A3 := by rw [HA.out.2.2]; exact er
      have HV := Lib.hid (And.intro v1 (And.intro v2 v3))
      clear v1 v2 v3 er eq hr
      rw [show (((0 : Nat) : Int) - 1) = -1 from rfl]
      go_wp2_with fail
      refine bodyPost_ret (v := .tuple #[.agg #[.int .u64 qh, .int .u64 ql], .int .u64 r]) (by simp [results, Tryd.results56, go_sem, *]) rfl ⟨by rw [HV.out.1, HV.out.2.1, HV.out.2.2], by have gg := gwr; have gs := gg.size; go_grown⟩
    obtain ⟨i, rfl⟩ : ∃ i, gk = i + 1 := ⟨gk - 1, by omega⟩
    rw [show (((i + 1 : Nat) : Int) - 1) = (i : Int) by omega]
    by_cases hz : 64 ≤ i
    · obtain ⟨j, ej⟩ : ∃ j, i = j + 64 := ⟨i - 64, by omega⟩
      obtain ⟨x, ex⟩ : ∃ x, x = h / 2 ^ j := ⟨_, rfl⟩
      have hxw : Wd x := Nat.lt_of_le_of_lt (by rw [ex]; exact Nat.div_le_self _ _) h1
      have hij : (i : Int) - 64 = (j : Int) := by omega
      have hij2 : wrap64 ((i : Int) - 64) = (j : Int) := by rw [hij]; exact IntWalk.wrap64_in _ (by omega)
      have t2 : decide ((64 : Int) ≤ (i : Int)) = true := decide_eq_true (by omega)
      have t3 : decide (64 ≤ i) = true := decide_eq_true (by omega)
      have t5 : (64 : Int) ≤ (i : Int) := by omega
      have t6 : 64 ≤ i := by omega
      have t7 : (0 : Int) ≤ (j : Int) := by omega
      have q1' : (h : Int) / 2 ^ j = (x : Int) := by rw [ex]; norm_cast
      have q1 : (h : Int) / 2 ^ min j 64 = (x : Int) := by rw [Nat.min_eq_left (by omega)]; exact q1'
      have eN : val h l / 2 ^ i = x := by rw [ej, ex]; exact bit_high h l j h2
      obtain ⟨B, eB⟩ : ∃ B, B = x % 2 := ⟨_, rfl⟩
      have eb : B = val h l / 2 ^ i % 2 := by rw [eN]; exact eB
      obtain ⟨eql, eqh⟩ := quo_high wql (by rw [← ej]; exact eq)
      obtain ⟨P, eP⟩ : ∃ P, P = 2 ^ j := ⟨_, rfl⟩
      have hPw : Wd P := by rw [eP]; exact Nat.lt_of_lt_of_le (Nat.pow_lt_pow_right (by omega) (show j < 64 by omega)) (by decide)
      have u1 : (2 : Int) ^ min j 64 = (P : Int) := by rw [Nat.min_eq_left (by omega), eP]; norm_cast
      have u2 : (2 : Int) ^ j = (P : Int) := by rw [eP]; norm_cast
      have q1p : (h : Int) / (P : Int) = (x : Int) := by rw [← u2]; exact q1'
      have u3 : IntKind.u64.wrap (P : Int) = (P : Int) := IntWalk.u64_in _ (by unfold Wd at hPw; omega)
      have u4 : bits BinOp.or IntKind.u64 (qh : Int) (P : Int) = ((qh + P : Nat) : Int) := or_u64 qh P wqh hPw (by rw [eP]; exact or_pow qh j _ eqh)
      obtain ⟨q', eq'⟩ : ∃ q, q = qh + P := ⟨_, rfl⟩
      rw [← eq'] at u4
      obtain ⟨top, etop⟩ : ∃ B, B = r / 9223372036854775808 := ⟨_, rfl⟩
      obtain ⟨m, em⟩ : ∃ m, m = r * 2 % 18446744073709551616 := ⟨_, rfl⟩
      obtain ⟨R1, eR⟩ : ∃ R, R = m + B := ⟨_, rfl⟩
      have hrw : Wd r := Nat.lt_trans hr h3
      have hB2 : B < 2 := by omega
      have t1 : decide ((0 : Int) ≤ (i : Int)) = true := decide_eq_true (by omega)
      have t4 : (0 : Int) ≤ (i : Int) := by omega
      have q2 : bits BinOp.and IntKind.u64 (x : Int) 1 = (B : Int) := by rw [eB]; exact and_one x hxw
      have q3 : (r : Int) / 9223372036854775808 = (top : Int) := by rw [etop]; omega
      have q4 : IntKind.u64.wrap ((r : Int) * 2) = (m : Int) := by rw [IntKind.wrap_u64, em]; omega
      have q5 : bits BinOp.or IntKind.u64 (m : Int) (B : Int) = (R1 : Int) := by rw [eR]; exact or_bit m B (by unfold Wd; omega) hB2 (by omega)
      have st := div_step (T := val h l / 2 ^ (i + 1)) (d := d) (B := B) hd hB2
      have tw := two_steps (val h l) i
      rw [← eb] at tw
      rw [← tw, ← er] at st
      rw [← er] at *
      have hs : ∀ c, val h l / 2 ^ i / d = 2 * (val h l / 2 ^ (i + 1) / d) + c → val qh ql + c * 2 ^ i = val h l / 2 ^ i / d * 2 ^ i := fun c hc => by
        rw [hc, eq, Nat.pow_succ]; grind
      by_cases hge : d ≤ 2 * r + B
      · rw [if_pos hge, if_pos hge] at st
        obtain ⟨r2, er2⟩ : ∃ r2, r2 = 2 * r + B - d := ⟨_, rfl⟩
        rw [← er2] at st
        have q9 : IntKind.u64.wrap ((R1 : Int) - (d : Int)) = (r2 : Int) := by rw [IntKind.wrap_u64]; unfold Wd at *; omega
        have hr2 : r2 < d := by omega
        have hv : val q' ql = val h l / 2 ^ i / d * 2 ^ i := by
          rw [← hs 1 st.1, eq', eP, ej, Nat.pow_add]
          unfold val
          rw [show (2 : Nat) ^ 64 = 18446744073709551616 from rfl]; grind
        have hq'w : Wd q' := by
          have a : val h l / 2 ^ i / d * 2 ^ i ≤ val h l := Nat.le_trans (Nat.mul_le_mul_right _ (Nat.div_le_self _ _)) (Nat.div_mul_le_self _ _)
          rw [← hv] at a
          unfold val Wd at *; omega
        have htb : (top = 1 ∧ ((top : Int) == 1) = true) ∨ (((top : Int) == 1) = false ∧ decide ((d : Int) ≤ (R1 : Int)) = true ∧ decide (d ≤ R1) = true) := by
          by_cases ht : top = 1
          · left; exact ⟨ht, by simp [ht]⟩
          · right; refine ⟨by simp; omega, decide_eq_true ?_, decide_eq_true ?_⟩ <;> unfold Wd at * <;> omega
        have HV := Lib.hid (And.intro hv (And.intro st.2 hr2))
        have HW := Lib.hid hq'w
        clear hv hq'w st hs hge er2 hr2 tw eb eB ex etop em eR eq er hxw hrw hB2 eP eq' hPw eN eql eqh ej
        rcases htb with ⟨-, y1⟩ | ⟨y1, y2, y3⟩
        all_goals
          go_wp2_with fail
          refine Hd.wp_region_tail 7 (by kernel_rfl) (by kernel_rfl) ?_
          intro KQ hKQ
          repeat (first | (refine Hd.wpG_skip (by decide) rfl ?_; simp only [Act.put, List.setIfInBounds_toArray, List.set_cons_zero, List.set_cons_succ]) | (refine Hd.wpG_want (by decide) rfl ?_; apply Exists.intro; refine ⟨?_, ?_⟩; (· intro wx gx; (obtain ⟨mx, rfl⟩ := gx); all_goals (apply Hd.gAt_of_quiet; intro K hK; go_big_quiet_op; first | exact hK _ rfl | (apply Exists.intro; refine ⟨fun _ => ?_, ?_⟩; (· fail); exact hK _ rfl))); try simp only [Act.put, List.setIfInBounds_toArray, List.set_cons_zero, List.set_cons_succ]))
          refine Hd.wpG_nil (hKQ _ ?_)
          clear hKQ KQ
          intro w1 hhw1
          have hw1 := Hd.gr_of_spread hhw1
          have cw1_0_0 : w1.cell? ⟨w.heap.size, 0, none⟩ = some (.int .u64 h) := cell_gr hw1 (by go_simp)
          have cw1_0_1 : w1.cell? ⟨w.heap.size, 1, none⟩ = some (.int .u64 l) := cell_gr hw1 (by go_simp)
          have zw1_0 : w.heap.size < w1.heap.size := World.block_lt_of_cell? _ _ cw1_0_0
          have cw1_1_0 : w1.cell? ⟨w.heap.size + 1, 0, none⟩ = some (.int .u64 0) := cell_gr hw1 (by go_simp)
          have fw1_1_0 : w1.frozen? ⟨w.heap.size + 1, 0, none⟩ = false := frozen_gr (v := .int .u64 0) hw1 (by go_simp) (by go_simp)
          have cw1_1_1 : w1.cell? ⟨w.heap.size + 1, 1, none⟩ = some (.int .u64 0) := cell_gr hw1 (by go_simp)
          have fw1_1_1 : w1.frozen? ⟨w.heap.size + 1, 1, none⟩ = false := frozen_gr (v := .int .u64 0) hw1 (by go_simp) (by go_simp)
          have zw1_1 : w.heap.size + 1 < w1.heap.size := World.block_lt_of_cell? _ _ cw1_1_0
          have cw1_2_0 : w1.cell? ⟨w.heap.size + 1 + 1, 0, none⟩ = some (.int .u64 qh) := cell_gr hw1 (by go_simp)
          have fw1_2_0 : w1.frozen? ⟨w.heap.size + 1 + 1, 0, none⟩ = false := frozen_gr (v := .int .u64 qh) hw1 (by go_simp) (by go_simp)
          have cw1_2_1 : w1.cell? ⟨w.heap.size + 1 + 1, 1, none⟩ = some (.int .u64 ql) := cell_gr hw1 (by go_simp)
          have fw1_2_1 : w1.frozen? ⟨w.heap.size + 1 + 1, 1, none⟩ = false := frozen_gr (v := .int .u64 ql) hw1 (by go_simp) (by go_simp)
          have zw1_2 : w.heap.size + 1 + 1 < w1.heap.size := World.block_lt_of_cell? _ _ cw1_2_0
          have gw1 : Gr w w1 := Gr.trans (by have gg := gwr; have gs := gg.size; go_grown) hw1
          clear hw1 hhw1 gwr
          go_wp2_with fail
          go_roundg i
          case measure => omega
          case rel => exact ⟨q', ql, r2, by omega, HW.out, wql, HV.out.2.2, by go_simp, by first | rfl | (congr 1; omega), HV.out.1, HV.out.2.1.symm, by go_simp, by go_simp, by go_simp, by go_simp, by go_simp, by go_simp, by go_simp, by go_simp, by go_simp, by go_simp, by have gg := gw1; have gs := gg.size; go_grown⟩
      · rw [if_neg hge, if_neg hge] at st
        have y1 : ((top : Int) == 1) = false := by simp; unfold Wd at *; omega
        have y2 : decide ((d : Int) ≤ (R1 : Int)) = false := decide_eq_false (by unfold Wd at *; omega)
        have y3 : decide (d ≤ R1) = false := decide_eq_false (by unfold Wd at *; omega)
        have hv : val qh ql = val h l / 2 ^ i / d * 2 ^ i := by rw [← hs 0 st.1]; omega
        have hr1 : R1 < d := by unfold Wd at *; omega
        have er1 : R1 = val h l / 2 ^ i % d := by rw [st.2]; unfold Wd at *; omega
        have HV := Lib.hid (And.intro hv (And.intro er1 hr1))
        clear hv er1 hr1 st hs hge tw eb eB ex etop em eR eq er hxw hrw hB2 eP eq' hPw eN eql eqh ej
        go_wp2_with fail
        go_roundg i
        case measure => omega
        case rel => exact ⟨qh, ql, R1, by omega, wqh, wql, HV.out.2.2, by go_simp, by first | rfl | (congr 1; omega), HV.out.1, HV.out.2.1, by go_simp, by go_simp, by go_simp, by go_simp, by go_simp, by go_simp, by go_simp, by go_simp, by go_simp, by go_simp, gwr⟩
    · obtain ⟨x, ex⟩ : ∃ x, x = l / 2 ^ i := ⟨_, rfl⟩
      have hxw : Wd x := Nat.lt_of_le_of_lt (by rw [ex]; exact Nat.div_le_self _ _) h2
      have t2 : decide ((64 : Int) ≤ (i : Int)) = false := decide_eq_false (by omega)
      have t3 : decide (64 ≤ i) = false := decide_eq_false (by omega)
      have t5 : ¬ (64 : Int) ≤ (i : Int) := by omega
      have t6 : ¬ 64 ≤ i := by omega
      have q1' : (l : Int) / 2 ^ i = (x : Int) := by rw [ex]; norm_cast
      have q1 : (l : Int) / 2 ^ min i 64 = (x : Int) := by rw [Nat.min_eq_left (by omega)]; exact q1'
      obtain ⟨B, eB⟩ : ∃ B, B = x % 2 := ⟨_, rfl⟩
      have eb : B = val h l / 2 ^ i % 2 := by rw [eB, ex]; exact (bit_low h l i (by omega)).symm
      obtain ⟨sq, esq⟩ := quo_low (by omega) eq
      obtain ⟨P, eP⟩ : ∃ P, P = 2 ^ i := ⟨_, rfl⟩
      have hPw : Wd P := by rw [eP]; exact Nat.lt_of_lt_of_le (Nat.pow_lt_pow_right (by omega) (show i < 64 by omega)) (by decide)
      have u1 : (2 : Int) ^ min i 64 = (P : Int) := by rw [Nat.min_eq_left (by omega), eP]; norm_cast
      have u2 : (2 : Int) ^ i = (P : Int) := by rw [eP]; norm_cast
      have q1p : (l : Int) / (P : Int) = (x : Int) := by rw [← u2]; exact q1'
      have u3 : IntKind.u64.wrap (P : Int) = (P : Int) := IntWalk.u64_in _ (by unfold Wd at hPw; omega)
      have u4 : bits BinOp.or IntKind.u64 (ql : Int) (P : Int) = ((ql + P : Nat) : Int) := or_u64 ql P wql hPw (by rw [eP]; exact or_pow ql i _ esq)
      obtain ⟨q', eq'⟩ : ∃ q, q = ql + P := ⟨_, rfl⟩
      rw [← eq'] at u4
      obtain ⟨top, etop⟩ : ∃ B, B = r / 9223372036854775808 := ⟨_, rfl⟩
      obtain ⟨m, em⟩ : ∃ m, m = r * 2 % 18446744073709551616 := ⟨_, rfl⟩
      obtain ⟨R1, eR⟩ : ∃ R, R = m + B := ⟨_, rfl⟩
      have hrw : Wd r := Nat.lt_trans hr h3
      have hB2 : B < 2 := by omega
      have t1 : decide ((0 : Int) ≤ (i : Int)) = true := decide_eq_true (by omega)
      have t4 : (0 : Int) ≤ (i : Int) := by omega
      have q2 : bits BinOp.and IntKind.u64 (x : Int) 1 = (B : Int) := by rw [eB]; exact and_one x hxw
      have q3 : (r : Int) / 9223372036854775808 = (top : Int) := by rw [etop]; omega
      have q4 : IntKind.u64.wrap ((r : Int) * 2) = (m : Int) := by rw [IntKind.wrap_u64, em]; omega
      have q5 : bits BinOp.or IntKind.u64 (m : Int) (B : Int) = (R1 : Int) := by rw [eR]; exact or_bit m B (by unfold Wd; omega) hB2 (by omega)
      have st := div_step (T := val h l / 2 ^ (i + 1)) (d := d) (B := B) hd hB2
      have tw := two_steps (val h l) i
      rw [← eb] at tw
      rw [← tw, ← er] at st
      rw [← er] at *
      have hs : ∀ c, val h l / 2 ^ i / d = 2 * (val h l / 2 ^ (i + 1) / d) + c → val qh ql + c * 2 ^ i = val h l / 2 ^ i / d * 2 ^ i := fun c hc => by
        rw [hc, eq, Nat.pow_succ]; grind
      by_cases hge : d ≤ 2 * r + B
      · rw [if_pos hge, if_pos hge] at st
        obtain ⟨r2, er2⟩ : ∃ r2, r2 = 2 * r + B - d := ⟨_, rfl⟩
        rw [← er2] at st
        have q9 : IntKind.u64.wrap ((R1 : Int) - (d : Int)) = (r2 : Int) := by rw [IntKind.wrap_u64]; unfold Wd at *; omega
        have hr2 : r2 < d := by omega
        have hv : val qh q' = val h l / 2 ^ i / d * 2 ^ i := by
          rw [← hs 1 st.1, eq', eP]
          unfold val; omega
        have hq'w : Wd q' := by
          have d1 : sq * 2 ^ (i + 1) < 2 ^ (i + 1) * 2 ^ (63 - i) := by
            rw [← esq, ← Nat.pow_add, show i + 1 + (63 - i) = 64 by omega]; exact wql
          have d2 : sq < 2 ^ (63 - i) := Nat.lt_of_mul_lt_mul_left (a := 2 ^ (i + 1)) (by rw [Nat.mul_comm]; exact d1)
          have d3 : (sq + 1) * 2 ^ (i + 1) ≤ 2 ^ (63 - i) * 2 ^ (i + 1) := Nat.mul_le_mul_right _ d2
          rw [← Nat.pow_add, show 63 - i + (i + 1) = 64 by omega, Nat.add_mul, ← esq, Nat.pow_succ] at d3
          have d4 : 0 < 2 ^ i := Nat.two_pow_pos i
          rw [eq', eP]
          unfold Wd
          rw [show (2 : Nat) ^ 64 = 18446744073709551616 from rfl] at d3
          omega
        have htb : (top = 1 ∧ ((top : Int) == 1) = true) ∨ (((top : Int) == 1) = false ∧ decide ((d : Int) ≤ (R1 : Int)) = true ∧ decide (d ≤ R1) = true) := by
          by_cases ht : top = 1
          · left; exact ⟨ht, by simp [ht]⟩
          · right; refine ⟨by simp; omega, decide_eq_true ?_, decide_eq_true ?_⟩ <;> unfold Wd at * <;> omega
        have HV := Lib.hid (And.intro hv (And.intro st.2 hr2))
        have HW := Lib.hid hq'w
        clear hv hq'w st hs hge er2 hr2 tw eb eB ex etop em eR eq er hxw hrw hB2 eP eq' hPw esq
        rcases htb with ⟨-, y1⟩ | ⟨y1, y2, y3⟩
        all_goals
          go_wp2_with fail
          refine Hd.wp_region_tail 6 (by kernel_rfl) (by kernel_rfl) ?_
          intro KQ hKQ
          repeat (first | (refine Hd.wpG_skip (by decide) rfl ?_; simp only [Act.put, List.setIfInBounds_toArray, List.set_cons_zero, List.set_cons_succ]) | (refine Hd.wpG_want (by decide) rfl ?_; apply Exists.intro; refine ⟨?_, ?_⟩; (· intro wx gx; (obtain ⟨mx, rfl⟩ := gx); all_goals (apply Hd.gAt_of_quiet; intro K hK; go_big_quiet_op; first | exact hK _ rfl | (apply Exists.intro; refine ⟨fun _ => ?_, ?_⟩; (· fail); exact hK _ rfl))); try simp only [Act.put, List.setIfInBounds_toArray, List.set_cons_zero, List.set_cons_succ]))
          refine Hd.wpG_nil (hKQ _ ?_)
          clear hKQ KQ
          intro w1 hhw1
          have hw1 := Hd.gr_of_spread hhw1
          have cw1_0_0 : w1.cell? ⟨w.heap.size, 0, none⟩ = some (.int .u64 h) := cell_gr hw1 (by go_simp)
          have cw1_0_1 : w1.cell? ⟨w.heap.size, 1, none⟩ = some (.int .u64 l) := cell_gr hw1 (by go_simp)
          have zw1_0 : w.heap.size < w1.heap.size := World.block_lt_of_cell? _ _ cw1_0_0
          have cw1_1_0 : w1.cell? ⟨w.heap.size + 1, 0, none⟩ = some (.int .u64 0) := cell_gr hw1 (by go_simp)
          have fw1_1_0 : w1.frozen? ⟨w.heap.size + 1, 0, none⟩ = false := frozen_gr (v := .int .u64 0) hw1 (by go_simp) (by go_simp)
          have cw1_1_1 : w1.cell? ⟨w.heap.size + 1, 1, none⟩ = some (.int .u64 0) := cell_gr hw1 (by go_simp)
          have fw1_1_1 : w1.frozen? ⟨w.heap.size + 1, 1, none⟩ = false := frozen_gr (v := .int .u64 0) hw1 (by go_simp) (by go_simp)
          have zw1_1 : w.heap.size + 1 < w1.heap.size := World.block_lt_of_cell? _ _ cw1_1_0
          have cw1_2_0 : w1.cell? ⟨w.heap.size + 1 + 1, 0, none⟩ = some (.int .u64 qh) := cell_gr hw1 (by go_simp)
          have fw1_2_0 : w1.frozen? ⟨w.heap.size + 1 + 1, 0, none⟩ = false := frozen_gr (v := .int .u64 qh) hw1 (by go_simp) (by go_simp)
          have cw1_2_1 : w1.cell? ⟨w.heap.size + 1 + 1, 1, none⟩ = some (.int .u64 ql) := cell_gr hw1 (by go_simp)
          have fw1_2_1 : w1.frozen? ⟨w.heap.size + 1 + 1, 1, none⟩ = false := frozen_gr (v := .int .u64 ql) hw1 (by go_simp) (by go_simp)
          have zw1_2 : w.heap.size + 1 + 1 < w1.heap.size := World.block_lt_of_cell? _ _ cw1_2_0
          have gw1 : Gr w w1 := Gr.trans (by have gg := gwr; have gs := gg.size; go_grown) hw1
          clear hw1 hhw1 gwr
          go_wp2_with fail
          go_roundg i
          case measure => omega
          case rel => exact ⟨qh, q', r2, by omega, wqh, HW.out, HV.out.2.2, by go_simp, by first | rfl | (congr 1; omega), HV.out.1, HV.out.2.1.symm, by go_simp, by go_simp, by go_simp, by go_simp, by go_simp, by go_simp, by go_simp, by go_simp, by go_simp, by go_simp, by have gg := gw1; have gs := gg.size; go_grown⟩
      · rw [if_neg hge, if_neg hge] at st
        have y1 : ((top : Int) == 1) = false := by simp; unfold Wd at *; omega
        have y2 : decide ((d : Int) ≤ (R1 : Int)) = false := decide_eq_false (by unfold Wd at *; omega)
        have y3 : decide (d ≤ R1) = false := decide_eq_false (by unfold Wd at *; omega)
        have hv : val qh ql = val h l / 2 ^ i / d * 2 ^ i := by rw [← hs 0 st.1]; omega
        have hr1 : R1 < d := by unfold Wd at *; omega
        have er1 : R1 = val h l / 2 ^ i % d := by rw [st.2]; unfold Wd at *; omega
        have HV := Lib.hid (And.intro hv (And.intro er1 hr1))
        clear hv er1 hr1 st hs hge tw eb eB ex etop em eR eq er hxw hrw hB2 eP eq' hPw esq
        go_wp2_with fail
        go_roundg i
        case measure => omega
        case rel => exact ⟨qh, ql, R1, by omega, wqh, wql, HV.out.2.2, by go_simp, by first | rfl | (congr 1; omega), HV.out.1, HV.out.2.1, by go_simp, by go_simp, by go_simp, by go_simp, by go_simp, by go_simp, by go_simp, by go_simp, by go_simp, by go_simp, gwr⟩
end Go.Proofs.YtogflfepkddbhaaDoor
namespace Go.Proofs.YtogflfepkddbhaaDoor
set_option linter.unusedVariables false
open Go.ChangeShapes Go.WideShapes Go.ChangeAt Go.RowKit

set_option maxHeartbeats 1000000 in
set_option maxRecDepth 100000 in
theorem c_words1 (a : Nat) (ha : Wd a) (b : Nat) (w : World) (hb : b < w.heap.size) (k0 : w.cell? ⟨b, 0, none⟩ = some (.int .u64 a)) :
    Calls Tryd.prog 87 #[.slice (some ⟨b, 0, none⟩) 1 1] w fun e w' => ∃ B cap, e = .returned (.slice (some ⟨B, 0, none⟩) 2 cap) ∧ w.heap.size ≤ B ∧ w'.cell? ⟨B, 0, none⟩ = some (.int .u64 ((a % 4294967296 : Nat) : Int)) ∧ w'.cell? ⟨B, 1, none⟩ = some (.int .u64 ((a / 4294967296 : Nat) : Int)) ∧ Gr w w' := by
  go_enter Tryd.func87, Tryd.ntmps87
  have q1 : bits BinOp.and IntKind.u64 (a : Int) 4294967295 = ((a % 4294967296 : Nat) : Int) := by
    have e := bits_and_u64_nat a 4294967295 ha (by omega)
    rw [show (4294967295 : Nat) = 2 ^ 32 - 1 from rfl, Nat.and_two_pow_sub_one_eq_mod] at e
    exact e
  have q2 : (a : Int) / 4294967296 = ((a / 4294967296 : Nat) : Int) := by omega
  obtain ⟨lo, elo⟩ : ∃ x, x = a % 4294967296 := ⟨_, rfl⟩
  obtain ⟨hi, ehi⟩ : ∃ x, x = a / 4294967296 := ⟨_, rfl⟩
  rw [← elo] at q1 ⊢
  rw [← ehi] at q2 ⊢
  clear elo ehi
  go_wp2_with fail
  refine wp_loop_rounds 2 ?_
  rw [rounds_succ]
  go_wp2_with fail
  let Rc : World → Prop := fun w' => Gr w w'
  refine Hd.wp_region_head 12 11 Rc Rc (fun v w' => Rc w' ∧ ∃ B, v = .slice (some ⟨B, 0, none⟩) 2 2 ∧ w.heap.size ≤ B ∧ w'.cell? ⟨B, 0, none⟩ = some (.int .u64 lo) ∧ w'.cell? ⟨B, 1, none⟩ = some (.int .u64 hi)) (by kernel_rfl) (by simp only [List.getElem?_toArray, List.getElem?_cons_succ, List.getElem?_cons_zero] <;> rfl) (by kernel_rfl) (by intro cs b h; cases h) ?_ ?_ ?_ ?_ ?_ ?_
  · intro a b h g; exact Gr.trans h g
  · rintro v a b ⟨h, B, e, hB, c0, c1⟩ g
    exact ⟨Gr.trans h g, B, e, hB, cell_gr g c0, cell_gr g c1⟩
  · intro a h; exact h
  · intro v a h; exact h.1
  · show Gr _ _
    go_grown
  · intro KQ hKQ
    repeat (first | (refine Hd.wpG_skip (by decide) rfl ?_; simp only [Act.put, List.setIfInBounds_toArray, List.set_cons_zero, List.set_cons_succ]) | (refine Hd.wpG_want (by decide) rfl ?_; apply Exists.intro; refine ⟨?_, ?_⟩; (· intro wx gx; (have gx0 := cell_gr gx k0; clear gx); all_goals (apply Hd.gAt_of_quiet; intro K hK; go_big_quiet_op; first | exact hK _ rfl | (apply Exists.intro; refine ⟨fun _ => ?_, ?_⟩; (· (fail)); exact hK _ rfl))); try simp only [Act.put, List.setIfInBounds_toArray, List.set_cons_zero, List.set_cons_succ]))
    refine Hd.wpG_k (by decide) ?_ ?_
    · rintro w' gx
      unfold Oper.wp
      go_simp
      change Gr w w' at gx
      have gs := gx.size
      exact ⟨(show Gr w _ by go_grown), gs⟩
    refine Hd.wpG_nil (hKQ _ ?_)
    clear hKQ KQ
    rintro v w1 ⟨gx, B, rfl, hB, b0, b1⟩
    change Gr w w1 at gx
    clear Rc
    have zB := World.block_lt_of_cell? _ _ b0
    go_wp2_with fail
    rw [rounds_succ]
    go_wp2_with fail
    go_ret
    have gs := gx.size
    refine ⟨_, _, rfl, gs, by simp [World.cell?_alloc_new]; rw [Array.getElem?_append_left (by simp)]; rfl, by simp [World.cell?_alloc_new]; rw [Array.getElem?_append_left (by simp)]; rfl, by go_grown⟩
theorem make4 (w : World) : (Instr.makeSlice 126 (.int .i64 4) (.int .i64 4)).run Tryd.prog w = .ok (.slice (some ⟨w.heap.size, 0, none⟩) 4 4) (w.alloc (.cells #[.int .u64 0, .int .u64 0, .int .u64 0, .int .u64 0] 35)) := by kernel_rfl
theorem mask32 (v : Nat) (h : Wd v) : bits BinOp.and IntKind.u64 (v : Int) 4294967295 = ((v % 4294967296 : Nat) : Int) := by
  have e := bits_and_u64_nat v 4294967295 h (by omega)
  rw [show (4294967295 : Nat) = 2 ^ 32 - 1 from rfl, Nat.and_two_pow_sub_one_eq_mod] at e
  exact e
/-- A word of 32 bits. -/
def Hw (a : Nat) : Prop := a < 4294967296
theorem hw_mul {a b : Nat} (ha : Hw a) (hb : Hw b) : a * b ≤ 4294967295 * 4294967295 := Nat.mul_le_mul (by unfold Hw at ha; omega) (by unfold Hw at hb; omega)
set_option maxHeartbeats 2000000 in
set_option maxRecDepth 100000 in
theorem times22_walk (a0 a1 b0 b1 p00 p01 p10 p11 v01 v10 t11 v11 o0 c00 o1 c01 o1' c10 o2 c11 : Nat) (A B ca cb : Nat) (w : World) (hA : A < w.heap.size) (hB : B < w.heap.size)
    (ka0 : w.cell? ⟨A, 0, none⟩ = some (.int .u64 a0)) (ka1 : w.cell? ⟨A, 1, none⟩ = some (.int .u64 a1)) (kb0 : w.cell? ⟨B, 0, none⟩ = some (.int .u64 b0)) (kb1 : w.cell? ⟨B, 1, none⟩ = some (.int .u64 b1))
    (m00 : IntKind.u64.wrap ((a0 : Int) * (b0 : Int)) = (p00 : Int)) (m01 : IntKind.u64.wrap ((a0 : Int) * (b1 : Int)) = (p01 : Int)) (m10 : IntKind.u64.wrap ((a1 : Int) * (b0 : Int)) = (p10 : Int)) (m11 : IntKind.u64.wrap ((a1 : Int) * (b1 : Int)) = (p11 : Int))
    (n00 : IntKind.u64.wrap (p00 : Int) = (p00 : Int)) (n01 : IntKind.u64.wrap (p01 : Int) = (p01 : Int)) (n10 : IntKind.u64.wrap (v10 : Int) = (v10 : Int))
    (s01 : IntKind.u64.wrap ((p01 : Int) + (c00 : Int)) = (v01 : Int)) (s10 : IntKind.u64.wrap ((p10 : Int) + (o1 : Int)) = (v10 : Int)) (s11 : IntKind.u64.wrap ((p11 : Int) + (c01 : Int)) = (t11 : Int)) (r11 : IntKind.u64.wrap ((t11 : Int) + (c10 : Int)) = (v11 : Int))
    (x00 : bits BinOp.and IntKind.u64 (p00 : Int) 4294967295 = (o0 : Int)) (x01 : bits BinOp.and IntKind.u64 (v01 : Int) 4294967295 = (o1 : Int)) (x10 : bits BinOp.and IntKind.u64 (v10 : Int) 4294967295 = (o1' : Int)) (x11 : bits BinOp.and IntKind.u64 (v11 : Int) 4294967295 = (o2 : Int))
    (y00 : (p00 : Int) / 4294967296 = (c00 : Int)) (y01 : (v01 : Int) / 4294967296 = (c01 : Int)) (y10 : (v10 : Int) / 4294967296 = (c10 : Int)) (y11 : (v11 : Int) / 4294967296 = (c11 : Int)) :
    Calls Tryd.prog 86 #[.slice (some ⟨A, 0, none⟩) 2 ca, .slice (some ⟨B, 0, none⟩) 2 cb] w fun e w' => ∃ O, e = .returned (.slice (some ⟨O, 0, none⟩) 4 4) ∧ w'.cell? ⟨O, 0, none⟩ = some (.int .u64 o0) ∧ w'.cell? ⟨O, 1, none⟩ = some (.int .u64 o1') ∧ w'.cell? ⟨O, 2, none⟩ = some (.int .u64 o2) ∧ w'.cell? ⟨O, 3, none⟩ = some (.int .u64 c11) ∧ Gr w w' := by
  have hm := make4
  go_enter Tryd.func86, Tryd.ntmps86
  go_wp2_with fail
  refine wp_loop_rounds 3 ?_
  rw [rounds_succ]
  go_wp2_with fail
  refine wp_loop_rounds 3 ?_
  rw [rounds_succ]
  go_wp2_with fail
  generalize hhw0 : (w.alloc (.cells #[.int .u64 0, .int .u64 0, .int .u64 0, .int .u64 0] 35)) = w0
  have cw0_0_0 : w0.cell? ⟨A, 0, none⟩ = some (.int .u64 a0) := by subst hhw0; go_simp
  have cw0_0_1 : w0.cell? ⟨A, 1, none⟩ = some (.int .u64 a1) := by subst hhw0; go_simp
  have zw0_0 : A < w0.heap.size := World.block_lt_of_cell? _ _ cw0_0_0
  have cw0_1_0 : w0.cell? ⟨B, 0, none⟩ = some (.int .u64 b0) := by subst hhw0; go_simp
  have cw0_1_1 : w0.cell? ⟨B, 1, none⟩ = some (.int .u64 b1) := by subst hhw0; go_simp
  have zw0_1 : B < w0.heap.size := World.block_lt_of_cell? _ _ cw0_1_0
  have cw0_2_0 : w0.cell? ⟨w.heap.size, 0, none⟩ = some (.int .u64 0) := by subst hhw0; go_simp
  have fw0_2_0 : w0.frozen? ⟨w.heap.size, 0, none⟩ = false := by subst hhw0; go_simp
  have cw0_2_1 : w0.cell? ⟨w.heap.size, 1, none⟩ = some (.int .u64 0) := by subst hhw0; go_simp
  have fw0_2_1 : w0.frozen? ⟨w.heap.size, 1, none⟩ = false := by subst hhw0; go_simp
  have cw0_2_2 : w0.cell? ⟨w.heap.size, 2, none⟩ = some (.int .u64 0) := by subst hhw0; go_simp
  have fw0_2_2 : w0.frozen? ⟨w.heap.size, 2, none⟩ = false := by subst hhw0; go_simp
  have cw0_2_3 : w0.cell? ⟨w.heap.size, 3, none⟩ = some (.int .u64 0) := by subst hhw0; go_simp
  have fw0_2_3 : w0.frozen? ⟨w.heap.size, 3, none⟩ = false := by subst hhw0; go_simp
  have zw0_2 : w.heap.size < w0.heap.size := World.block_lt_of_cell? _ _ cw0_2_0
  have gw0 : Gr w w0 := by subst hhw0; go_grown
  clear hhw0
  go_wp2_with fail
  refine Hd.wp_region_tail 18 (by kernel_rfl) (by kernel_rfl) ?_
  intro KQ hKQ
  repeat (first | (refine Hd.wpG_skip (by decide) rfl ?_; simp only [Act.put, List.setIfInBounds_toArray, List.set_cons_zero, List.set_cons_succ]) | (refine Hd.wpG_want (by decide) rfl ?_; apply Exists.intro; refine ⟨?_, ?_⟩; (· intro wx gx; (obtain ⟨mx, rfl⟩ := gx); all_goals (apply Hd.gAt_of_quiet; intro K hK; go_big_quiet_op; first | exact hK _ rfl | (apply Exists.intro; refine ⟨fun _ => ?_, ?_⟩; (· fail); exact hK _ rfl))); try simp only [Act.put, List.setIfInBounds_toArray, List.set_cons_zero, List.set_cons_succ]))
  refine Hd.wpG_nil (hKQ _ ?_)
  clear hKQ KQ
  intro w1 hhw1
  have hw1 := Hd.gr_of_spread hhw1
  have cw1_0_0 : w1.cell? ⟨A, 0, none⟩ = some (.int .u64 a0) := cell_gr hw1 (by go_simp)
  have cw1_0_1 : w1.cell? ⟨A, 1, none⟩ = some (.int .u64 a1) := cell_gr hw1 (by go_simp)
  have zw1_0 : A < w1.heap.size := World.block_lt_of_cell? _ _ cw1_0_0
  have cw1_1_0 : w1.cell? ⟨B, 0, none⟩ = some (.int .u64 b0) := cell_gr hw1 (by go_simp)
  have cw1_1_1 : w1.cell? ⟨B, 1, none⟩ = some (.int .u64 b1) := cell_gr hw1 (by go_simp)
  have zw1_1 : B < w1.heap.size := World.block_lt_of_cell? _ _ cw1_1_0
  have cw1_2_0 : w1.cell? ⟨w.heap.size, 0, none⟩ = some (.int .u64 0) := cell_gr hw1 (by go_simp)
  have fw1_2_0 : w1.frozen? ⟨w.heap.size, 0, none⟩ = false := frozen_gr (v := .int .u64 0) hw1 (by go_simp) (by go_simp)
  have cw1_2_1 : w1.cell? ⟨w.heap.size, 1, none⟩ = some (.int .u64 0) := cell_gr hw1 (by go_simp)
  have fw1_2_1 : w1.frozen? ⟨w.heap.size, 1, none⟩ = false := frozen_gr (v := .int .u64 0) hw1 (by go_simp) (by go_simp)
  have cw1_2_2 : w1.cell? ⟨w.heap.size, 2, none⟩ = some (.int .u64 0) := cell_gr hw1 (by go_simp)
  have fw1_2_2 : w1.frozen? ⟨w.heap.size, 2, none⟩ = false := frozen_gr (v := .int .u64 0) hw1 (by go_simp) (by go_simp)
  have cw1_2_3 : w1.cell? ⟨w.heap.size, 3, none⟩ = some (.int .u64 0) := cell_gr hw1 (by go_simp)
  have fw1_2_3 : w1.frozen? ⟨w.heap.size, 3, none⟩ = false := frozen_gr (v := .int .u64 0) hw1 (by go_simp) (by go_simp)
  have zw1_2 : w.heap.size < w1.heap.size := World.block_lt_of_cell? _ _ cw1_2_0
  have gw1 : Gr w w1 := Gr.trans (by have gg := gw0; have gs := gg.size; go_grown) hw1
  clear hw1 hhw1 gw0 zw0_0 cw0_0_0 cw0_0_1 zw0_1 cw0_1_0 cw0_1_1 zw0_2 cw0_2_0 fw0_2_0 cw0_2_1 fw0_2_1 cw0_2_2 fw0_2_2 cw0_2_3 fw0_2_3
  go_wp2_with fail
  rw [rounds_succ]
  go_wp2_with fail
  generalize hhw2 : (w1.setCell ⟨w.heap.size, 0, none⟩ (.int .u64 o0)) = w2
  have cw2_0_0 : w2.cell? ⟨A, 0, none⟩ = some (.int .u64 a0) := by subst hhw2; go_simp
  have cw2_0_1 : w2.cell? ⟨A, 1, none⟩ = some (.int .u64 a1) := by subst hhw2; go_simp
  have zw2_0 : A < w2.heap.size := World.block_lt_of_cell? _ _ cw2_0_0
  have cw2_1_0 : w2.cell? ⟨B, 0, none⟩ = some (.int .u64 b0) := by subst hhw2; go_simp
  have cw2_1_1 : w2.cell? ⟨B, 1, none⟩ = some (.int .u64 b1) := by subst hhw2; go_simp
  have zw2_1 : B < w2.heap.size := World.block_lt_of_cell? _ _ cw2_1_0
  have cw2_2_0 : w2.cell? ⟨w.heap.size, 0, none⟩ = some (.int .u64 o0) := by subst hhw2; go_simp
  have fw2_2_0 : w2.frozen? ⟨w.heap.size, 0, none⟩ = false := by subst hhw2; go_simp
  have cw2_2_1 : w2.cell? ⟨w.heap.size, 1, none⟩ = some (.int .u64 0) := by subst hhw2; go_simp
  have fw2_2_1 : w2.frozen? ⟨w.heap.size, 1, none⟩ = false := by subst hhw2; go_simp
  have cw2_2_2 : w2.cell? ⟨w.heap.size, 2, none⟩ = some (.int .u64 0) := by subst hhw2; go_simp
  have fw2_2_2 : w2.frozen? ⟨w.heap.size, 2, none⟩ = false := by subst hhw2; go_simp
  have cw2_2_3 : w2.cell? ⟨w.heap.size, 3, none⟩ = some (.int .u64 0) := by subst hhw2; go_simp
  have fw2_2_3 : w2.frozen? ⟨w.heap.size, 3, none⟩ = false := by subst hhw2; go_simp
  have zw2_2 : w.heap.size < w2.heap.size := World.block_lt_of_cell? _ _ cw2_2_0
  have gw2 : Gr w w2 := by subst hhw2; have gg := gw1; have gs := gg.size; go_grown
  clear hhw2 gw1 zw1_0 cw1_0_0 cw1_0_1 zw1_1 cw1_1_0 cw1_1_1 zw1_2 cw1_2_0 fw1_2_0 cw1_2_1 fw1_2_1 cw1_2_2 fw1_2_2 cw1_2_3 fw1_2_3
  go_wp2_with fail
  refine Hd.wp_region_tail 18 (by kernel_rfl) (by kernel_rfl) ?_
  intro KQ hKQ
  repeat (first | (refine Hd.wpG_skip (by decide) rfl ?_; simp only [Act.put, List.setIfInBounds_toArray, List.set_cons_zero, List.set_cons_succ]) | (refine Hd.wpG_want (by decide) rfl ?_; apply Exists.intro; refine ⟨?_, ?_⟩; (· intro wx gx; (obtain ⟨mx, rfl⟩ := gx); all_goals (apply Hd.gAt_of_quiet; intro K hK; go_big_quiet_op; first | exact hK _ rfl | (apply Exists.intro; refine ⟨fun _ => ?_, ?_⟩; (· fail); exact hK _ rfl))); try simp only [Act.put, List.setIfInBounds_toArray, List.set_cons_zero, List.set_cons_succ]))
  refine Hd.wpG_nil (hKQ _ ?_)
  clear hKQ KQ
  intro w3 hhw3
  have hw3 := Hd.gr_of_spread hhw3
  have cw3_0_0 : w3.cell? ⟨A, 0, none⟩ = some (.int .u64 a0) := cell_gr hw3 (by go_simp)
  have cw3_0_1 : w3.cell? ⟨A, 1, none⟩ = some (.int .u64 a1) := cell_gr hw3 (by go_simp)
  have zw3_0 : A < w3.heap.size := World.block_lt_of_cell? _ _ cw3_0_0
  have cw3_1_0 : w3.cell? ⟨B, 0, none⟩ = some (.int .u64 b0) := cell_gr hw3 (by go_simp)
  have cw3_1_1 : w3.cell? ⟨B, 1, none⟩ = some (.int .u64 b1) := cell_gr hw3 (by go_simp)
  have zw3_1 : B < w3.heap.size := World.block_lt_of_cell? _ _ cw3_1_0
  have cw3_2_0 : w3.cell? ⟨w.heap.size, 0, none⟩ = some (.int .u64 o0) := cell_gr hw3 (by go_simp)
  have fw3_2_0 : w3.frozen? ⟨w.heap.size, 0, none⟩ = false := frozen_gr (v := .int .u64 o0) hw3 (by go_simp) (by go_simp)
  have cw3_2_1 : w3.cell? ⟨w.heap.size, 1, none⟩ = some (.int .u64 0) := cell_gr hw3 (by go_simp)
  have fw3_2_1 : w3.frozen? ⟨w.heap.size, 1, none⟩ = false := frozen_gr (v := .int .u64 0) hw3 (by go_simp) (by go_simp)
  have cw3_2_2 : w3.cell? ⟨w.heap.size, 2, none⟩ = some (.int .u64 0) := cell_gr hw3 (by go_simp)
  have fw3_2_2 : w3.frozen? ⟨w.heap.size, 2, none⟩ = false := frozen_gr (v := .int .u64 0) hw3 (by go_simp) (by go_simp)
  have cw3_2_3 : w3.cell? ⟨w.heap.size, 3, none⟩ = some (.int .u64 0) := cell_gr hw3 (by go_simp)
  have fw3_2_3 : w3.frozen? ⟨w.heap.size, 3, none⟩ = false := frozen_gr (v := .int .u64 0) hw3 (by go_simp) (by go_simp)
  have zw3_2 : w.heap.size < w3.heap.size := World.block_lt_of_cell? _ _ cw3_2_0
  have gw3 : Gr w w3 := Gr.trans (by have gg := gw2; have gs := gg.size; go_grown) hw3
  clear hw3 hhw3 gw2 zw2_0 cw2_0_0 cw2_0_1 zw2_1 cw2_1_0 cw2_1_1 zw2_2 cw2_2_0 fw2_2_0 cw2_2_1 fw2_2_1 cw2_2_2 fw2_2_2 cw2_2_3 fw2_2_3
  go_wp2_with fail
  rw [rounds_succ]
  go_wp2_with fail
  generalize hhw4 : (w3.setCell ⟨w.heap.size, 1, none⟩ (.int .u64 o1)) = w4
  have cw4_0_0 : w4.cell? ⟨A, 0, none⟩ = some (.int .u64 a0) := by subst hhw4; go_simp
  have cw4_0_1 : w4.cell? ⟨A, 1, none⟩ = some (.int .u64 a1) := by subst hhw4; go_simp
  have zw4_0 : A < w4.heap.size := World.block_lt_of_cell? _ _ cw4_0_0
  have cw4_1_0 : w4.cell? ⟨B, 0, none⟩ = some (.int .u64 b0) := by subst hhw4; go_simp
  have cw4_1_1 : w4.cell? ⟨B, 1, none⟩ = some (.int .u64 b1) := by subst hhw4; go_simp
  have zw4_1 : B < w4.heap.size := World.block_lt_of_cell? _ _ cw4_1_0
  have cw4_2_0 : w4.cell? ⟨w.heap.size, 0, none⟩ = some (.int .u64 o0) := by subst hhw4; go_simp
  have fw4_2_0 : w4.frozen? ⟨w.heap.size, 0, none⟩ = false := by subst hhw4; go_simp
  have cw4_2_1 : w4.cell? ⟨w.heap.size, 1, none⟩ = some (.int .u64 o1) := by subst hhw4; go_simp
  have fw4_2_1 : w4.frozen? ⟨w.heap.size, 1, none⟩ = false := by subst hhw4; go_simp
  have cw4_2_2 : w4.cell? ⟨w.heap.size, 2, none⟩ = some (.int .u64 0) := by subst hhw4; go_simp
  have fw4_2_2 : w4.frozen? ⟨w.heap.size, 2, none⟩ = false := by subst hhw4; go_simp
  have cw4_2_3 : w4.cell? ⟨w.heap.size, 3, none⟩ = some (.int .u64 0) := by subst hhw4; go_simp
  have fw4_2_3 : w4.frozen? ⟨w.heap.size, 3, none⟩ = false := by subst hhw4; go_simp
  have zw4_2 : w.heap.size < w4.heap.size := World.block_lt_of_cell? _ _ cw4_2_0
  have gw4 : Gr w w4 := by subst hhw4; have gg := gw3; have gs := gg.size; go_grown
  clear hhw4 gw3 zw3_0 cw3_0_0 cw3_0_1 zw3_1 cw3_1_0 cw3_1_1 zw3_2 cw3_2_0 fw3_2_0 cw3_2_1 fw3_2_1 cw3_2_2 fw3_2_2 cw3_2_3 fw3_2_3
  go_wp2_with fail
  rw [rounds_succ]
  go_wp2_with fail
  generalize hhw5 : (w4.setCell ⟨w.heap.size, 2, none⟩ (.int .u64 c01)) = w5
  have cw5_0_0 : w5.cell? ⟨A, 0, none⟩ = some (.int .u64 a0) := by subst hhw5; go_simp
  have cw5_0_1 : w5.cell? ⟨A, 1, none⟩ = some (.int .u64 a1) := by subst hhw5; go_simp
  have zw5_0 : A < w5.heap.size := World.block_lt_of_cell? _ _ cw5_0_0
  have cw5_1_0 : w5.cell? ⟨B, 0, none⟩ = some (.int .u64 b0) := by subst hhw5; go_simp
  have cw5_1_1 : w5.cell? ⟨B, 1, none⟩ = some (.int .u64 b1) := by subst hhw5; go_simp
  have zw5_1 : B < w5.heap.size := World.block_lt_of_cell? _ _ cw5_1_0
  have cw5_2_0 : w5.cell? ⟨w.heap.size, 0, none⟩ = some (.int .u64 o0) := by subst hhw5; go_simp
  have fw5_2_0 : w5.frozen? ⟨w.heap.size, 0, none⟩ = false := by subst hhw5; go_simp
  have cw5_2_1 : w5.cell? ⟨w.heap.size, 1, none⟩ = some (.int .u64 o1) := by subst hhw5; go_simp
  have fw5_2_1 : w5.frozen? ⟨w.heap.size, 1, none⟩ = false := by subst hhw5; go_simp
  have cw5_2_2 : w5.cell? ⟨w.heap.size, 2, none⟩ = some (.int .u64 c01) := by subst hhw5; go_simp
  have fw5_2_2 : w5.frozen? ⟨w.heap.size, 2, none⟩ = false := by subst hhw5; go_simp
  have cw5_2_3 : w5.cell? ⟨w.heap.size, 3, none⟩ = some (.int .u64 0) := by subst hhw5; go_simp
  have fw5_2_3 : w5.frozen? ⟨w.heap.size, 3, none⟩ = false := by subst hhw5; go_simp
  have zw5_2 : w.heap.size < w5.heap.size := World.block_lt_of_cell? _ _ cw5_2_0
  have gw5 : Gr w w5 := by subst hhw5; have gg := gw4; have gs := gg.size; go_grown
  clear hhw5 gw4 zw4_0 cw4_0_0 cw4_0_1 zw4_1 cw4_1_0 cw4_1_1 zw4_2 cw4_2_0 fw4_2_0 cw4_2_1 fw4_2_1 cw4_2_2 fw4_2_2 cw4_2_3 fw4_2_3
  refine wp_loop_rounds 3 ?_
  rw [rounds_succ]
  go_wp2_with fail
  refine Hd.wp_region_tail 18 (by kernel_rfl) (by kernel_rfl) ?_
  intro KQ hKQ
  repeat (first | (refine Hd.wpG_skip (by decide) rfl ?_; simp only [Act.put, List.setIfInBounds_toArray, List.set_cons_zero, List.set_cons_succ]) | (refine Hd.wpG_want (by decide) rfl ?_; apply Exists.intro; refine ⟨?_, ?_⟩; (· intro wx gx; (obtain ⟨mx, rfl⟩ := gx); all_goals (apply Hd.gAt_of_quiet; intro K hK; go_big_quiet_op; first | exact hK _ rfl | (apply Exists.intro; refine ⟨fun _ => ?_, ?_⟩; (· fail); exact hK _ rfl))); try simp only [Act.put, List.setIfInBounds_toArray, List.set_cons_zero, List.set_cons_succ]))
  refine Hd.wpG_nil (hKQ _ ?_)
  clear hKQ KQ
  intro w6 hhw6
  have hw6 := Hd.gr_of_spread hhw6
  have cw6_0_0 : w6.cell? ⟨A, 0, none⟩ = some (.int .u64 a0) := cell_gr hw6 (by go_simp)
  have cw6_0_1 : w6.cell? ⟨A, 1, none⟩ = some (.int .u64 a1) := cell_gr hw6 (by go_simp)
  have zw6_0 : A < w6.heap.size := World.block_lt_of_cell? _ _ cw6_0_0
  have cw6_1_0 : w6.cell? ⟨B, 0, none⟩ = some (.int .u64 b0) := cell_gr hw6 (by go_simp)
  have cw6_1_1 : w6.cell? ⟨B, 1, none⟩ = some (.int .u64 b1) := cell_gr hw6 (by go_simp)
  have zw6_1 : B < w6.heap.size := World.block_lt_of_cell? _ _ cw6_1_0
  have cw6_2_0 : w6.cell? ⟨w.heap.size, 0, none⟩ = some (.int .u64 o0) := cell_gr hw6 (by go_simp)
  have fw6_2_0 : w6.frozen? ⟨w.heap.size, 0, none⟩ = false := frozen_gr (v := .int .u64 o0) hw6 (by go_simp) (by go_simp)
  have cw6_2_1 : w6.cell? ⟨w.heap.size, 1, none⟩ = some (.int .u64 o1) := cell_gr hw6 (by go_simp)
  have fw6_2_1 : w6.frozen? ⟨w.heap.size, 1, none⟩ = false := frozen_gr (v := .int .u64 o1) hw6 (by go_simp) (by go_simp)
  have cw6_2_2 : w6.cell? ⟨w.heap.size, 2, none⟩ = some (.int .u64 c01) := cell_gr hw6 (by go_simp)
  have fw6_2_2 : w6.frozen? ⟨w.heap.size, 2, none⟩ = false := frozen_gr (v := .int .u64 c01) hw6 (by go_simp) (by go_simp)
  have cw6_2_3 : w6.cell? ⟨w.heap.size, 3, none⟩ = some (.int .u64 0) := cell_gr hw6 (by go_simp)
  have fw6_2_3 : w6.frozen? ⟨w.heap.size, 3, none⟩ = false := frozen_gr (v := .int .u64 0) hw6 (by go_simp) (by go_simp)
  have zw6_2 : w.heap.size < w6.heap.size := World.block_lt_of_cell? _ _ cw6_2_0
  have gw6 : Gr w w6 := Gr.trans (by have gg := gw5; have gs := gg.size; go_grown) hw6
  clear hw6 hhw6 gw5 zw5_0 cw5_0_0 cw5_0_1 zw5_1 cw5_1_0 cw5_1_1 zw5_2 cw5_2_0 fw5_2_0 cw5_2_1 fw5_2_1 cw5_2_2 fw5_2_2 cw5_2_3 fw5_2_3
  go_wp2_with fail
  rw [rounds_succ]
  go_wp2_with fail
  generalize hhw7 : (w6.setCell ⟨w.heap.size, 1, none⟩ (.int .u64 o1')) = w7
  have cw7_0_0 : w7.cell? ⟨A, 0, none⟩ = some (.int .u64 a0) := by subst hhw7; go_simp
  have cw7_0_1 : w7.cell? ⟨A, 1, none⟩ = some (.int .u64 a1) := by subst hhw7; go_simp
  have zw7_0 : A < w7.heap.size := World.block_lt_of_cell? _ _ cw7_0_0
  have cw7_1_0 : w7.cell? ⟨B, 0, none⟩ = some (.int .u64 b0) := by subst hhw7; go_simp
  have cw7_1_1 : w7.cell? ⟨B, 1, none⟩ = some (.int .u64 b1) := by subst hhw7; go_simp
  have zw7_1 : B < w7.heap.size := World.block_lt_of_cell? _ _ cw7_1_0
  have cw7_2_0 : w7.cell? ⟨w.heap.size, 0, none⟩ = some (.int .u64 o0) := by subst hhw7; go_simp
  have fw7_2_0 : w7.frozen? ⟨w.heap.size, 0, none⟩ = false := by subst hhw7; go_simp
  have cw7_2_1 : w7.cell? ⟨w.heap.size, 1, none⟩ = some (.int .u64 o1') := by subst hhw7; go_simp
  have fw7_2_1 : w7.frozen? ⟨w.heap.size, 1, none⟩ = false := by subst hhw7; go_simp
  have cw7_2_2 : w7.cell? ⟨w.heap.size, 2, none⟩ = some (.int .u64 c01) := by subst hhw7; go_simp
  have fw7_2_2 : w7.frozen? ⟨w.heap.size, 2, none⟩ = false := by subst hhw7; go_simp
  have cw7_2_3 : w7.cell? ⟨w.heap.size, 3, none⟩ = some (.int .u64 0) := by subst hhw7; go_simp
  have fw7_2_3 : w7.frozen? ⟨w.heap.size, 3, none⟩ = false := by subst hhw7; go_simp
  have zw7_2 : w.heap.size < w7.heap.size := World.block_lt_of_cell? _ _ cw7_2_0
  have gw7 : Gr w w7 := by subst hhw7; have gg := gw6; have gs := gg.size; go_grown
  clear hhw7 gw6 zw6_0 cw6_0_0 cw6_0_1 zw6_1 cw6_1_0 cw6_1_1 zw6_2 cw6_2_0 fw6_2_0 cw6_2_1 fw6_2_1 cw6_2_2 fw6_2_2 cw6_2_3 fw6_2_3
  go_wp2_with fail
  refine Hd.wp_region_tail 18 (by kernel_rfl) (by kernel_rfl) ?_
  intro KQ hKQ
  repeat (first | (refine Hd.wpG_skip (by decide) rfl ?_; simp only [Act.put, List.setIfInBounds_toArray, List.set_cons_zero, List.set_cons_succ]) | (refine Hd.wpG_want (by decide) rfl ?_; apply Exists.intro; refine ⟨?_, ?_⟩; (· intro wx gx; (obtain ⟨mx, rfl⟩ := gx); all_goals (apply Hd.gAt_of_quiet; intro K hK; go_big_quiet_op; first | exact hK _ rfl | (apply Exists.intro; refine ⟨fun _ => ?_, ?_⟩; (· fail); exact hK _ rfl))); try simp only [Act.put, List.setIfInBounds_toArray, List.set_cons_zero, List.set_cons_succ]))
  refine Hd.wpG_nil (hKQ _ ?_)
  clear hKQ KQ
  intro w8 hhw8
  have hw8 := Hd.gr_of_spread hhw8
  have cw8_0_0 : w8.cell? ⟨A, 0, none⟩ = some (.int .u64 a0) := cell_gr hw8 (by go_simp)
  have cw8_0_1 : w8.cell? ⟨A, 1, none⟩ = some (.int .u64 a1) := cell_gr hw8 (by go_simp)
  have zw8_0 : A < w8.heap.size := World.block_lt_of_cell? _ _ cw8_0_0
  have cw8_1_0 : w8.cell? ⟨B, 0, none⟩ = some (.int .u64 b0) := cell_gr hw8 (by go_simp)
  have cw8_1_1 : w8.cell? ⟨B, 1, none⟩ = some (.int .u64 b1) := cell_gr hw8 (by go_simp)
  have zw8_1 : B < w8.heap.size := World.block_lt_of_cell? _ _ cw8_1_0
  have cw8_2_0 : w8.cell? ⟨w.heap.size, 0, none⟩ = some (.int .u64 o0) := cell_gr hw8 (by go_simp)
  have fw8_2_0 : w8.frozen? ⟨w.heap.size, 0, none⟩ = false := frozen_gr (v := .int .u64 o0) hw8 (by go_simp) (by go_simp)
  have cw8_2_1 : w8.cell? ⟨w.heap.size, 1, none⟩ = some (.int .u64 o1') := cell_gr hw8 (by go_simp)
  have fw8_2_1 : w8.frozen? ⟨w.heap.size, 1, none⟩ = false := frozen_gr (v := .int .u64 o1') hw8 (by go_simp) (by go_simp)
  have cw8_2_2 : w8.cell? ⟨w.heap.size, 2, none⟩ = some (.int .u64 c01) := cell_gr hw8 (by go_simp)
  have fw8_2_2 : w8.frozen? ⟨w.heap.size, 2, none⟩ = false := frozen_gr (v := .int .u64 c01) hw8 (by go_simp) (by go_simp)
  have cw8_2_3 : w8.cell? ⟨w.heap.size, 3, none⟩ = some (.int .u64 0) := cell_gr hw8 (by go_simp)
  have fw8_2_3 : w8.frozen? ⟨w.heap.size, 3, none⟩ = false := frozen_gr (v := .int .u64 0) hw8 (by go_simp) (by go_simp)
  have zw8_2 : w.heap.size < w8.heap.size := World.block_lt_of_cell? _ _ cw8_2_0
  have gw8 : Gr w w8 := Gr.trans (by have gg := gw7; have gs := gg.size; go_grown) hw8
  clear hw8 hhw8 gw7 zw7_0 cw7_0_0 cw7_0_1 zw7_1 cw7_1_0 cw7_1_1 zw7_2 cw7_2_0 fw7_2_0 cw7_2_1 fw7_2_1 cw7_2_2 fw7_2_2 cw7_2_3 fw7_2_3
  go_wp2_with fail
  rw [rounds_succ]
  go_wp2_with fail
  generalize hhw9 : (w8.setCell ⟨w.heap.size, 2, none⟩ (.int .u64 o2)) = w9
  have cw9_0_0 : w9.cell? ⟨A, 0, none⟩ = some (.int .u64 a0) := by subst hhw9; go_simp
  have cw9_0_1 : w9.cell? ⟨A, 1, none⟩ = some (.int .u64 a1) := by subst hhw9; go_simp
  have zw9_0 : A < w9.heap.size := World.block_lt_of_cell? _ _ cw9_0_0
  have cw9_1_0 : w9.cell? ⟨B, 0, none⟩ = some (.int .u64 b0) := by subst hhw9; go_simp
  have cw9_1_1 : w9.cell? ⟨B, 1, none⟩ = some (.int .u64 b1) := by subst hhw9; go_simp
  have zw9_1 : B < w9.heap.size := World.block_lt_of_cell? _ _ cw9_1_0
  have cw9_2_0 : w9.cell? ⟨w.heap.size, 0, none⟩ = some (.int .u64 o0) := by subst hhw9; go_simp
  have fw9_2_0 : w9.frozen? ⟨w.heap.size, 0, none⟩ = false := by subst hhw9; go_simp
  have cw9_2_1 : w9.cell? ⟨w.heap.size, 1, none⟩ = some (.int .u64 o1') := by subst hhw9; go_simp
  have fw9_2_1 : w9.frozen? ⟨w.heap.size, 1, none⟩ = false := by subst hhw9; go_simp
  have cw9_2_2 : w9.cell? ⟨w.heap.size, 2, none⟩ = some (.int .u64 o2) := by subst hhw9; go_simp
  have fw9_2_2 : w9.frozen? ⟨w.heap.size, 2, none⟩ = false := by subst hhw9; go_simp
  have cw9_2_3 : w9.cell? ⟨w.heap.size, 3, none⟩ = some (.int .u64 0) := by subst hhw9; go_simp
  have fw9_2_3 : w9.frozen? ⟨w.heap.size, 3, none⟩ = false := by subst hhw9; go_simp
  have zw9_2 : w.heap.size < w9.heap.size := World.block_lt_of_cell? _ _ cw9_2_0
  have gw9 : Gr w w9 := by subst hhw9; have gg := gw8; have gs := gg.size; go_grown
  clear hhw9 gw8 zw8_0 cw8_0_0 cw8_0_1 zw8_1 cw8_1_0 cw8_1_1 zw8_2 cw8_2_0 fw8_2_0 cw8_2_1 fw8_2_1 cw8_2_2 fw8_2_2 cw8_2_3 fw8_2_3
  go_wp2_with fail
  rw [rounds_succ]
  go_wp2_with fail
  generalize hhw10 : (w9.setCell ⟨w.heap.size, 3, none⟩ (.int .u64 c11)) = w10
  have cw10_0_0 : w10.cell? ⟨A, 0, none⟩ = some (.int .u64 a0) := by subst hhw10; go_simp
  have cw10_0_1 : w10.cell? ⟨A, 1, none⟩ = some (.int .u64 a1) := by subst hhw10; go_simp
  have zw10_0 : A < w10.heap.size := World.block_lt_of_cell? _ _ cw10_0_0
  have cw10_1_0 : w10.cell? ⟨B, 0, none⟩ = some (.int .u64 b0) := by subst hhw10; go_simp
  have cw10_1_1 : w10.cell? ⟨B, 1, none⟩ = some (.int .u64 b1) := by subst hhw10; go_simp
  have zw10_1 : B < w10.heap.size := World.block_lt_of_cell? _ _ cw10_1_0
  have cw10_2_0 : w10.cell? ⟨w.heap.size, 0, none⟩ = some (.int .u64 o0) := by subst hhw10; go_simp
  have fw10_2_0 : w10.frozen? ⟨w.heap.size, 0, none⟩ = false := by subst hhw10; go_simp
  have cw10_2_1 : w10.cell? ⟨w.heap.size, 1, none⟩ = some (.int .u64 o1') := by subst hhw10; go_simp
  have fw10_2_1 : w10.frozen? ⟨w.heap.size, 1, none⟩ = false := by subst hhw10; go_simp
  have cw10_2_2 : w10.cell? ⟨w.heap.size, 2, none⟩ = some (.int .u64 o2) := by subst hhw10; go_simp
  have fw10_2_2 : w10.frozen? ⟨w.heap.size, 2, none⟩ = false := by subst hhw10; go_simp
  have cw10_2_3 : w10.cell? ⟨w.heap.size, 3, none⟩ = some (.int .u64 c11) := by subst hhw10; go_simp
  have fw10_2_3 : w10.frozen? ⟨w.heap.size, 3, none⟩ = false := by subst hhw10; go_simp
  have zw10_2 : w.heap.size < w10.heap.size := World.block_lt_of_cell? _ _ cw10_2_0
  have gw10 : Gr w w10 := by subst hhw10; have gg := gw9; have gs := gg.size; go_grown
  clear hhw10 gw9 zw9_0 cw9_0_0 cw9_0_1 zw9_1 cw9_1_0 cw9_1_1 zw9_2 cw9_2_0 fw9_2_0 cw9_2_1 fw9_2_1 cw9_2_2 fw9_2_2 cw9_2_3 fw9_2_3
  go_wp2_with fail
  go_ret
  exact ⟨w.heap.size, rfl, by go_simp, by go_simp, by go_simp, by go_simp, gw10⟩
end Go.Proofs.YtogflfepkddbhaaDoor
namespace Go.Proofs.YtogflfepkddbhaaDoor
set_option linter.unusedVariables false
open Go.ChangeShapes Go.WideShapes Go.ChangeAt Go.RowKit

theorem or_words (x y : Nat) (hx : Hw x) (hy : Hw y) : bits BinOp.or IntKind.u64 (x : Int) ((y * 4294967296 : Nat) : Int) = ((x + y * 4294967296 : Nat) : Int) := by
  refine or_u64 x (y * 4294967296) (by unfold Hw at hx; unfold Wd; omega) (by unfold Hw at hy; unfold Wd; omega) ?_
  have h := Nat.two_pow_add_eq_or_of_lt (i := 32) (b := x) (by unfold Hw at hx; omega) y
  rw [show 2 ^ 32 * y = y * 4294967296 by omega] at h
  rw [Nat.or_comm, ← h, Nat.add_comm]
set_option maxRecDepth 100000 in
theorem c_join0 (O n cap x y : Nat) (w : World) (hn : (2 : Int) ≤ (n : Int)) (hx : Hw x) (hy : Hw y) (k0 : w.cell? ⟨O, 0, none⟩ = some (.int .u64 x)) (k1 : w.cell? ⟨O, 1, none⟩ = some (.int .u64 y)) :
    Calls Tryd.prog 88 #[.slice (some ⟨O, 0, none⟩) n cap, .int .i64 0] w fun e w' => e = .returned (.int .u64 ((x + y * 4294967296 : Nat) : Int)) ∧ Gr w w' := by
  have q1 : IntKind.u64.wrap ((y : Int) * 4294967296) = ((y * 4294967296 : Nat) : Int) := by
    rw [IntKind.wrap_u64]; unfold Hw at hy; omega
  have q2 := or_words x y hx hy
  obtain ⟨z, hz⟩ : ∃ z, z = y * 4294967296 := ⟨_, rfl⟩
  obtain ⟨s, hs⟩ : ∃ s, s = x + y * 4294967296 := ⟨_, rfl⟩
  rw [← hs, ← hz] at q2
  rw [← hz] at q1
  rw [← hs]
  clear hs hz hx hy
  have l0 : (0 : Int) < (n : Int) := by omega
  have l1 : (1 : Int) < (n : Int) := by omega
  have l2 : 0 < n := by omega
  have l3 : 1 < n := by omega
  clear hn
  go_enter Tryd.func88, Tryd.ntmps88
  go_wp2_with fail
  refine wp_region_spread (by kernel_rfl) (by kernel_rfl) ?_
  try simp only [List.append]
  repeat (first | go_big_quiet_skip | (go_big_quiet_want; go_big_quiet_op; (first | go_big_quiet_on | (apply Exists.intro; refine ⟨fun _ => ?_, ?_⟩; (· fail); go_big_quiet_on))))
  refine wpQuiet_nil ?_
  intro wr hr
  obtain ⟨mr, rfl⟩ := hr
  go_wp2_with fail
  go_ret
  exact ⟨rfl, Gr.trans (by go_grown) (gr_spread _ _)⟩
set_option maxRecDepth 100000 in
theorem c_join1 (O n cap x y : Nat) (w : World) (hn : (4 : Int) ≤ (n : Int)) (hx : Hw x) (hy : Hw y) (k0 : w.cell? ⟨O, 2, none⟩ = some (.int .u64 x)) (k1 : w.cell? ⟨O, 3, none⟩ = some (.int .u64 y)) :
    Calls Tryd.prog 88 #[.slice (some ⟨O, 0, none⟩) n cap, .int .i64 1] w fun e w' => e = .returned (.int .u64 ((x + y * 4294967296 : Nat) : Int)) ∧ Gr w w' := by
  have q1 : IntKind.u64.wrap ((y : Int) * 4294967296) = ((y * 4294967296 : Nat) : Int) := by
    rw [IntKind.wrap_u64]; unfold Hw at hy; omega
  have q2 := or_words x y hx hy
  obtain ⟨z, hz⟩ : ∃ z, z = y * 4294967296 := ⟨_, rfl⟩
  obtain ⟨s, hs⟩ : ∃ s, s = x + y * 4294967296 := ⟨_, rfl⟩
  rw [← hs, ← hz] at q2
  rw [← hz] at q1
  rw [← hs]
  clear hs hz hx hy
  have l0 : (2 : Int) < (n : Int) := by omega
  have l1 : (3 : Int) < (n : Int) := by omega
  have l2 : 2 < n := by omega
  have l3 : 3 < n := by omega
  clear hn
  go_enter Tryd.func88, Tryd.ntmps88
  go_wp2_with fail
  refine wp_region_spread (by kernel_rfl) (by kernel_rfl) ?_
  try simp only [List.append]
  repeat (first | go_big_quiet_skip | (go_big_quiet_want; go_big_quiet_op; (first | go_big_quiet_on | (apply Exists.intro; refine ⟨fun _ => ?_, ?_⟩; (· fail); go_big_quiet_on))))
  refine wpQuiet_nil ?_
  intro wr hr
  obtain ⟨mr, rfl⟩ := hr
  go_wp2_with fail
  go_ret
  exact ⟨rfl, Gr.trans (by go_grown) (gr_spread _ _)⟩
set_option maxRecDepth 100000 in
theorem c_join2 (O n cap x y : Nat) (w : World) (hn : (6 : Int) ≤ (n : Int)) (hx : Hw x) (hy : Hw y) (k0 : w.cell? ⟨O, 4, none⟩ = some (.int .u64 x)) (k1 : w.cell? ⟨O, 5, none⟩ = some (.int .u64 y)) :
    Calls Tryd.prog 88 #[.slice (some ⟨O, 0, none⟩) n cap, .int .i64 2] w fun e w' => e = .returned (.int .u64 ((x + y * 4294967296 : Nat) : Int)) ∧ Gr w w' := by
  have q1 : IntKind.u64.wrap ((y : Int) * 4294967296) = ((y * 4294967296 : Nat) : Int) := by
    rw [IntKind.wrap_u64]; unfold Hw at hy; omega
  have q2 := or_words x y hx hy
  obtain ⟨z, hz⟩ : ∃ z, z = y * 4294967296 := ⟨_, rfl⟩
  obtain ⟨s, hs⟩ : ∃ s, s = x + y * 4294967296 := ⟨_, rfl⟩
  rw [← hs, ← hz] at q2
  rw [← hz] at q1
  rw [← hs]
  clear hs hz hx hy
  have l0 : (4 : Int) < (n : Int) := by omega
  have l1 : (5 : Int) < (n : Int) := by omega
  have l2 : 4 < n := by omega
  have l3 : 5 < n := by omega
  clear hn
  go_enter Tryd.func88, Tryd.ntmps88
  go_wp2_with fail
  refine wp_region_spread (by kernel_rfl) (by kernel_rfl) ?_
  try simp only [List.append]
  repeat (first | go_big_quiet_skip | (go_big_quiet_want; go_big_quiet_op; (first | go_big_quiet_on | (apply Exists.intro; refine ⟨fun _ => ?_, ?_⟩; (· fail); go_big_quiet_on))))
  refine wpQuiet_nil ?_
  intro wr hr
  obtain ⟨mr, rfl⟩ := hr
  go_wp2_with fail
  go_ret
  exact ⟨rfl, Gr.trans (by go_grown) (gr_spread _ _)⟩

/-- The product of two numbers of two words of 32 bits, and its words. -/
theorem c_times22 (a0 a1 b0 b1 : Nat) (h1 : Hw a0) (h2 : Hw a1) (h3 : Hw b0) (h4 : Hw b1) : ∃ o0 o1 o2 o3 : Nat, Hw o0 ∧ Hw o1 ∧ Hw o2 ∧ Hw o3 ∧
    (a0 + a1 * 4294967296) * (b0 + b1 * 4294967296) = (o0 + o1 * 4294967296) + (o2 + o3 * 4294967296) * 18446744073709551616 ∧
    ∀ (A B ca cb : Nat) (w : World), A < w.heap.size → B < w.heap.size → w.cell? ⟨A, 0, none⟩ = some (.int .u64 a0) → w.cell? ⟨A, 1, none⟩ = some (.int .u64 a1) → w.cell? ⟨B, 0, none⟩ = some (.int .u64 b0) → w.cell? ⟨B, 1, none⟩ = some (.int .u64 b1) →
    Calls Tryd.prog 86 #[.slice (some ⟨A, 0, none⟩) 2 ca, .slice (some ⟨B, 0, none⟩) 2 cb] w fun e w' => ∃ O, e = .returned (.slice (some ⟨O, 0, none⟩) 4 4) ∧ w'.cell? ⟨O, 0, none⟩ = some (.int .u64 o0) ∧ w'.cell? ⟨O, 1, none⟩ = some (.int .u64 o1) ∧ w'.cell? ⟨O, 2, none⟩ = some (.int .u64 o2) ∧ w'.cell? ⟨O, 3, none⟩ = some (.int .u64 o3) ∧ Gr w w' := by
  have b00 := hw_mul h1 h3
  have b01 := hw_mul h1 h4
  have b10 := hw_mul h2 h3
  have b11 := hw_mul h2 h4
  obtain ⟨p00, e00⟩ : ∃ p, p = a0 * b0 := ⟨_, rfl⟩
  obtain ⟨p01, e01⟩ : ∃ p, p = a0 * b1 := ⟨_, rfl⟩
  obtain ⟨p10, e10⟩ : ∃ p, p = a1 * b0 := ⟨_, rfl⟩
  obtain ⟨p11, e11⟩ : ∃ p, p = a1 * b1 := ⟨_, rfl⟩
  have eP : (a0 + a1 * 4294967296) * (b0 + b1 * 4294967296) = p00 + (p01 + p10) * 4294967296 + p11 * 18446744073709551616 := by
    rw [e00, e01, e10, e11]; grind
  rw [eP]
  have m00 : IntKind.u64.wrap ((a0 : Int) * (b0 : Int)) = (p00 : Int) := by rw [← Int.natCast_mul, ← e00]; exact IntWalk.u64_in _ (by omega)
  have m01 : IntKind.u64.wrap ((a0 : Int) * (b1 : Int)) = (p01 : Int) := by rw [← Int.natCast_mul, ← e01]; exact IntWalk.u64_in _ (by omega)
  have m10 : IntKind.u64.wrap ((a1 : Int) * (b0 : Int)) = (p10 : Int) := by rw [← Int.natCast_mul, ← e10]; exact IntWalk.u64_in _ (by omega)
  have m11 : IntKind.u64.wrap ((a1 : Int) * (b1 : Int)) = (p11 : Int) := by rw [← Int.natCast_mul, ← e11]; exact IntWalk.u64_in _ (by omega)
  rw [← e00] at b00
  rw [← e01] at b01
  rw [← e10] at b10
  rw [← e11] at b11
  clear eP e00 e01 e10 e11 h1 h2 h3 h4
  obtain ⟨c00, ec00⟩ : ∃ c, c = p00 / 4294967296 := ⟨_, rfl⟩
  obtain ⟨v01, ev01⟩ : ∃ v, v = p01 + c00 := ⟨_, rfl⟩
  obtain ⟨o1, eo1⟩ : ∃ v, v = v01 % 4294967296 := ⟨_, rfl⟩
  obtain ⟨c01, ec01⟩ : ∃ v, v = v01 / 4294967296 := ⟨_, rfl⟩
  obtain ⟨v10, ev10⟩ : ∃ v, v = p10 + o1 := ⟨_, rfl⟩
  obtain ⟨c10, ec10⟩ : ∃ v, v = v10 / 4294967296 := ⟨_, rfl⟩
  obtain ⟨t11, et11⟩ : ∃ v, v = p11 + c01 := ⟨_, rfl⟩
  obtain ⟨v11, ev11⟩ : ∃ v, v = t11 + c10 := ⟨_, rfl⟩
  refine ⟨p00 % 4294967296, v10 % 4294967296, v11 % 4294967296, v11 / 4294967296, by unfold Hw; omega, by unfold Hw; omega, by unfold Hw; omega, by unfold Hw; omega, by omega, fun A B ca cb w hA hB k1 k2 k3 k4 => ?_⟩
  exact times22_walk a0 a1 b0 b1 p00 p01 p10 p11 v01 v10 t11 v11 _ c00 o1 c01 _ c10 _ _ A B ca cb w hA hB k1 k2 k3 k4 m00 m01 m10 m11
    (IntWalk.u64_in _ (by omega)) (IntWalk.u64_in _ (by omega)) (IntWalk.u64_in _ (by omega))
    (by rw [← Int.natCast_add, ← ev01]; exact IntWalk.u64_in _ (by omega)) (by rw [← Int.natCast_add, ← ev10]; exact IntWalk.u64_in _ (by omega)) (by rw [← Int.natCast_add, ← et11]; exact IntWalk.u64_in _ (by omega)) (by rw [← Int.natCast_add, ← ev11]; exact IntWalk.u64_in _ (by omega))
    (mask32 _ (by unfold Wd; omega)) (by rw [mask32 _ (by unfold Wd; omega), eo1]) (mask32 _ (by unfold Wd; omega)) (mask32 _ (by unfold Wd; omega))
    (by omega) (by omega) (by omega) (by omega)

set_option maxHeartbeats 1000000 in
set_option maxRecDepth 100000 in
theorem c_rMul (a b : Nat) (ha : Wd a) (hb : Wd b) (w : World) :
    Calls Tryd.prog 84 #[.int .u64 a, .int .u64 b] w fun e w' => e = .returned (.agg #[.int .u64 (a * b / 18446744073709551616 : Nat), .int .u64 (a * b % 18446744073709551616 : Nat)]) ∧ Gr w w' := by
  obtain ⟨o0, o1, o2, o3, g0, g1, g2, g3, eq, T⟩ := c_times22 (a % 4294967296) (a / 4294967296) (b % 4294967296) (b / 4294967296) (by unfold Hw; omega) (by unfold Hw Wd at *; omega) (by unfold Hw; omega) (by unfold Hw Wd at *; omega)
  rw [show a % 4294967296 + a / 4294967296 * 4294967296 = a by omega, show b % 4294967296 + b / 4294967296 * 4294967296 = b by omega] at eq
  obtain ⟨hi, ehi⟩ : ∃ x, x = a * b / 18446744073709551616 := ⟨_, rfl⟩
  obtain ⟨lo, elo⟩ : ∃ x, x = a * b % 18446744073709551616 := ⟨_, rfl⟩
  have e1 : o2 + o3 * 4294967296 = hi := by rw [ehi, eq]; unfold Hw at *; omega
  have e2 : o0 + o1 * 4294967296 = lo := by rw [elo, eq]; unfold Hw at *; omega
  rw [← ehi, ← elo]
  have W1 := c_words1 a ha
  have W2 := c_words1 b hb
  have J0 := fun O w k0 k1 => c_join0 O 4 4 o0 o1 w (by omega) g0 g1 k0 k1
  have J1 := fun O w k0 k1 => c_join1 O 4 4 o2 o3 w (by omega) g2 g3 k0 k1
  rw [e2] at J0
  rw [e1] at J1
  have H1 := Lib.hid W1
  have H2 := Lib.hid W2
  have H3 := Lib.hid T
  have H4 := Lib.hid J0
  have H5 := Lib.hid J1
  obtain ⟨a0, ea0⟩ : ∃ x, x = a % 4294967296 := ⟨_, rfl⟩
  obtain ⟨a1, ea1⟩ : ∃ x, x = a / 4294967296 := ⟨_, rfl⟩
  obtain ⟨b0, eb0⟩ : ∃ x, x = b % 4294967296 := ⟨_, rfl⟩
  obtain ⟨b1, eb1⟩ : ∃ x, x = b / 4294967296 := ⟨_, rfl⟩
  rw [← ea0, ← ea1] at H1
  rw [← eb0, ← eb1] at H2
  rw [← ea0, ← ea1, ← eb0, ← eb1] at H3
  clear W1 W2 T J0 J1 e1 e2 ehi elo eq g0 g1 g2 g3 ea0 ea1 eb0 eb1 ha hb
  go_enter Tryd.func84, Tryd.ntmps84
  go_wp2_with fail
  go_at_call 87
  refine (H1.out _ _ (by simp) (by go_simp)).mono ?_
  rintro e w1 ⟨A, ca, rfl, hA, ka0, ka1, h1⟩
  have r0 : w1.cell? ⟨w.heap.size, 0, none⟩ = some (.int .u64 0) := cell_gr h1 (by go_simp)
  have r1 : w1.cell? ⟨w.heap.size, 1, none⟩ = some (.int .u64 0) := cell_gr h1 (by go_simp)
  have f0 : w1.frozen? ⟨w.heap.size, 0, none⟩ = false := frozen_gr (v := .int .u64 0) h1 (by go_simp) (by go_simp)
  have f1 : w1.frozen? ⟨w.heap.size, 1, none⟩ = false := frozen_gr (v := .int .u64 0) h1 (by go_simp) (by go_simp)
  have zr := World.block_lt_of_cell? _ _ r0
  have zA := World.block_lt_of_cell? _ _ ka0
  have gw1 : Gr w w1 := Gr.trans (by go_grown) h1
  clear h1 hA
  go_wp2_with fail
  go_at_call 87
  refine (H2.out _ _ (by simp) (by go_simp)).mono ?_
  rintro e w2 ⟨B, cb, rfl, hB, kb0, kb1, h2⟩
  have h2' : Gr w1 w2 := Gr.trans (by go_grown) h2
  have gw2 : Gr w w2 := Gr.trans gw1 h2'
  have f0' := frozen_gr h2' r0 f0
  have f1' := frozen_gr h2' r1 f1
  replace r0 := cell_gr h2' r0
  replace r1 := cell_gr h2' r1
  replace ka0 := cell_gr h2' ka0
  replace ka1 := cell_gr h2' ka1
  clear f0 f1 zr zA
  have zr := World.block_lt_of_cell? _ _ r0
  have zA := World.block_lt_of_cell? _ _ ka0
  have zB := World.block_lt_of_cell? _ _ kb0
  clear h2 hB h2' gw1
  go_wp2_with fail
  go_at_call 86
  refine (H3.out _ _ _ _ _ zA zB ka0 ka1 kb0 kb1).mono ?_
  rintro e w3 ⟨O, rfl, k0, k1, k2, k3, h3⟩
  have f0 := frozen_gr h3 r0 f0'
  have f1 := frozen_gr h3 r1 f1'
  replace r0 := cell_gr h3 r0
  replace r1 := cell_gr h3 r1
  have gw3 : Gr w w3 := Gr.trans gw2 h3
  clear f0' f1' zr zA zB ka0 ka1 kb0 kb1 h3 gw2
  have zr := World.block_lt_of_cell? _ _ r0
  have zO := World.block_lt_of_cell? _ _ k0
  go_wp2_with fail
  go_at_call 88
  refine ((H5.out _ _ (by go_simp) (by go_simp))).mono ?_
  rintro e w4 ⟨rfl, hw4⟩
  have cw4_0_0 : w4.cell? ⟨w.heap.size, 0, none⟩ = some (.int .u64 0) := cell_gr hw4 (by go_simp)
  have fw4_0_0 : w4.frozen? ⟨w.heap.size, 0, none⟩ = false := frozen_gr (v := .int .u64 0) hw4 (by go_simp) (by go_simp)
  have cw4_0_1 : w4.cell? ⟨w.heap.size, 1, none⟩ = some (.int .u64 0) := cell_gr hw4 (by go_simp)
  have fw4_0_1 : w4.frozen? ⟨w.heap.size, 1, none⟩ = false := frozen_gr (v := .int .u64 0) hw4 (by go_simp) (by go_simp)
  have zw4_0 : w.heap.size < w4.heap.size := World.block_lt_of_cell? _ _ cw4_0_0
  have cw4_1_0 : w4.cell? ⟨O, 0, none⟩ = some (.int .u64 o0) := cell_gr hw4 (by go_simp)
  have cw4_1_1 : w4.cell? ⟨O, 1, none⟩ = some (.int .u64 o1) := cell_gr hw4 (by go_simp)
  have cw4_1_2 : w4.cell? ⟨O, 2, none⟩ = some (.int .u64 o2) := cell_gr hw4 (by go_simp)
  have cw4_1_3 : w4.cell? ⟨O, 3, none⟩ = some (.int .u64 o3) := cell_gr hw4 (by go_simp)
  have zw4_1 : O < w4.heap.size := World.block_lt_of_cell? _ _ cw4_1_0
  have gw4 : Gr w w4 := Gr.trans (by have gg := gw3; have gs := gg.size; go_grown) hw4
  clear hw4 gw3
  go_wp2_with fail
  go_at_call 88
  refine ((H4.out _ _ (by go_simp) (by go_simp))).mono ?_
  rintro e w5 ⟨rfl, hw5⟩
  have cw5_0_0 : w5.cell? ⟨w.heap.size, 0, none⟩ = some (.int .u64 0) := cell_gr hw5 (by go_simp)
  have fw5_0_0 : w5.frozen? ⟨w.heap.size, 0, none⟩ = false := frozen_gr (v := .int .u64 0) hw5 (by go_simp) (by go_simp)
  have cw5_0_1 : w5.cell? ⟨w.heap.size, 1, none⟩ = some (.int .u64 0) := cell_gr hw5 (by go_simp)
  have fw5_0_1 : w5.frozen? ⟨w.heap.size, 1, none⟩ = false := frozen_gr (v := .int .u64 0) hw5 (by go_simp) (by go_simp)
  have zw5_0 : w.heap.size < w5.heap.size := World.block_lt_of_cell? _ _ cw5_0_0
  have cw5_1_0 : w5.cell? ⟨O, 0, none⟩ = some (.int .u64 o0) := cell_gr hw5 (by go_simp)
  have cw5_1_1 : w5.cell? ⟨O, 1, none⟩ = some (.int .u64 o1) := cell_gr hw5 (by go_simp)
  have cw5_1_2 : w5.cell? ⟨O, 2, none⟩ = some (.int .u64 o2) := cell_gr hw5 (by go_simp)
  have cw5_1_3 : w5.cell? ⟨O, 3, none⟩ = some (.int .u64 o3) := cell_gr hw5 (by go_simp)
  have zw5_1 : O < w5.heap.size := World.block_lt_of_cell? _ _ cw5_1_0
  have gw5 : Gr w w5 := Gr.trans (by have gg := gw4; have gs := gg.size; go_grown) hw5
  clear hw5 gw4 zw4_0 cw4_0_0 fw4_0_0 cw4_0_1 fw4_0_1 zw4_1 cw4_1_0 cw4_1_1 cw4_1_2 cw4_1_3
  go_wp2_with fail
  refine bodyPost_ret (v := .agg #[.int .u64 hi, .int .u64 lo]) (by simp [results, Tryd.results84, go_sem, *]) rfl ⟨rfl, by have gg := gw5; have gs := gg.size; go_grown⟩
end Go.Proofs.YtogflfepkddbhaaDoor
namespace Go.Proofs.YtogflfepkddbhaaDoor
set_option linter.unusedVariables false
open Go.ChangeShapes Go.WideShapes Go.ChangeAt Go.RowKit

set_option maxRecDepth 100000 in
theorem c_rSquare (n : Int) (h : -9223372036854775808 ≤ n ∧ n ≤ 9223372036854775807) (w : World) :
    Calls Tryd.prog 59 #[.int .i64 n] w fun e w' => e = .returned (.agg #[.int .u64 (n.natAbs * n.natAbs / 18446744073709551616 : Nat), .int .u64 (n.natAbs * n.natAbs % 18446744073709551616 : Nat)]) ∧ Gr w w' := by
  have A1 : ∀ w, Calls Tryd.prog 85 #[.int .i64 n] w fun e w' => e = .returned (.int .u64 (n.natAbs : Int)) ∧ Gr w w' := fun w => (c_Abs n h w).mono fun e w' ⟨h1, h2⟩ => ⟨h1, Gr.of_eq h2⟩
  have A2 := c_rMul n.natAbs n.natAbs (by unfold Wd; omega) (by unfold Wd; omega)
  generalize n.natAbs * n.natAbs / 18446744073709551616 = hi at *
  generalize n.natAbs * n.natAbs % 18446744073709551616 = lo at *
  generalize n.natAbs = x at *
  have H1 := Lib.hid A1
  have H2 := Lib.hid A2
  clear A1 A2 h
  go_enter Tryd.func59, Tryd.ntmps59
  go_wp2_with fail
  go_at_call 85
  refine ((H1.out _)).mono ?_
  rintro e w1 ⟨rfl, hw1⟩
  have cw1_0_0 : w1.cell? ⟨w.heap.size, 0, none⟩ = some (.int .u64 0) := cell_gr hw1 (by go_simp)
  have fw1_0_0 : w1.frozen? ⟨w.heap.size, 0, none⟩ = false := frozen_gr (v := .int .u64 0) hw1 (by go_simp) (by go_simp)
  have cw1_0_1 : w1.cell? ⟨w.heap.size, 1, none⟩ = some (.int .u64 0) := cell_gr hw1 (by go_simp)
  have fw1_0_1 : w1.frozen? ⟨w.heap.size, 1, none⟩ = false := frozen_gr (v := .int .u64 0) hw1 (by go_simp) (by go_simp)
  have zw1_0 : w.heap.size < w1.heap.size := World.block_lt_of_cell? _ _ cw1_0_0
  have gw1 : Gr w w1 := Gr.trans (by go_grown) hw1
  clear hw1
  go_wp2_with fail
  go_at_call 85
  refine ((H1.out _)).mono ?_
  rintro e w2 ⟨rfl, hw2⟩
  have cw2_0_0 : w2.cell? ⟨w.heap.size, 0, none⟩ = some (.int .u64 0) := cell_gr hw2 (by go_simp)
  have fw2_0_0 : w2.frozen? ⟨w.heap.size, 0, none⟩ = false := frozen_gr (v := .int .u64 0) hw2 (by go_simp) (by go_simp)
  have cw2_0_1 : w2.cell? ⟨w.heap.size, 1, none⟩ = some (.int .u64 0) := cell_gr hw2 (by go_simp)
  have fw2_0_1 : w2.frozen? ⟨w.heap.size, 1, none⟩ = false := frozen_gr (v := .int .u64 0) hw2 (by go_simp) (by go_simp)
  have zw2_0 : w.heap.size < w2.heap.size := World.block_lt_of_cell? _ _ cw2_0_0
  have gw2 : Gr w w2 := Gr.trans (by have gg := gw1; have gs := gg.size; go_grown) hw2
  clear hw2 gw1 zw1_0 cw1_0_0 fw1_0_0 cw1_0_1 fw1_0_1
  go_wp2_with fail
  go_at_call 84
  refine ((H2.out _)).mono ?_
  rintro e w3 ⟨rfl, hw3⟩
  have cw3_0_0 : w3.cell? ⟨w.heap.size, 0, none⟩ = some (.int .u64 0) := cell_gr hw3 (by go_simp)
  have fw3_0_0 : w3.frozen? ⟨w.heap.size, 0, none⟩ = false := frozen_gr (v := .int .u64 0) hw3 (by go_simp) (by go_simp)
  have cw3_0_1 : w3.cell? ⟨w.heap.size, 1, none⟩ = some (.int .u64 0) := cell_gr hw3 (by go_simp)
  have fw3_0_1 : w3.frozen? ⟨w.heap.size, 1, none⟩ = false := frozen_gr (v := .int .u64 0) hw3 (by go_simp) (by go_simp)
  have zw3_0 : w.heap.size < w3.heap.size := World.block_lt_of_cell? _ _ cw3_0_0
  have gw3 : Gr w w3 := Gr.trans (by have gg := gw2; have gs := gg.size; go_grown) hw3
  clear hw3 gw2 zw2_0 cw2_0_0 fw2_0_0 cw2_0_1 fw2_0_1
  go_wp2_with fail
  refine bodyPost_ret (v := .agg #[.int .u64 hi, .int .u64 lo]) (by simp [results, Tryd.results59, go_sem, *]) rfl ⟨rfl, by have gg := gw3; have gs := gg.size; go_grown⟩
theorem c_gcd10 (w : World) : Calls Tryd.prog 57 #[.int .u64 1, .int .u64 0] w fun e w' => e = .returned (.int .u64 1) ∧ Gr w w' := by
  go_enter Tryd.func57, Tryd.ntmps57
  go_wp2_with fail
  refine wp_loop_rounds 1 ?_
  rw [rounds_succ]
  go_wp2_with fail
  go_ret
  exact ⟨rfl, by go_grown⟩
theorem c_rDiv1 (h l : Nat) (h1 : Wd h) (h2 : Wd l) (w : World) : Calls Tryd.prog 56 #[.agg #[.int .u64 h, .int .u64 l], .int .u64 1] w fun e w' => e = .returned (.tuple #[.agg #[.int .u64 h, .int .u64 l], .int .u64 0]) ∧ Gr w w' := by
  have D := c_rDiv h l 1 h1 h2 (by unfold Wd; omega) (by omega) w
  rw [Nat.div_one, Nat.mod_one, show val h l / 18446744073709551616 = h by unfold val Wd at *; omega, show val h l % 18446744073709551616 = l by unfold val Wd at *; omega] at D
  exact D
set_option maxHeartbeats 1000000 in
set_option maxRecDepth 100000 in
theorem c_Lowest1 (h l : Nat) (h1 : Wd h) (h2 : Wd l) (w : World) : Calls Tryd.prog 38 #[.agg #[.int .u64 h, .int .u64 l], .int .u64 1] w fun e w' => e = .returned (.agg #[.int .u64 h, .int .u64 l, .int .u64 1]) ∧ Gr w w' := by
  have H1 := Lib.hid (c_rDiv1 h l h1 h2)
  clear h1 h2
  go_enter Tryd.func38, Tryd.ntmps38
  go_wp2_with fail
  go_at_call 56
  refine ((H1.out _)).mono ?_
  rintro e w1 ⟨rfl, hw1⟩
  have cw1_0_0 : w1.cell? ⟨w.heap.size, 0, none⟩ = some (.int .u64 h) := cell_gr hw1 (by go_simp)
  have fw1_0_0 : w1.frozen? ⟨w.heap.size, 0, none⟩ = false := frozen_gr (v := .int .u64 h) hw1 (by go_simp) (by go_simp)
  have cw1_0_1 : w1.cell? ⟨w.heap.size, 1, none⟩ = some (.int .u64 l) := cell_gr hw1 (by go_simp)
  have fw1_0_1 : w1.frozen? ⟨w.heap.size, 1, none⟩ = false := frozen_gr (v := .int .u64 l) hw1 (by go_simp) (by go_simp)
  have zw1_0 : w.heap.size < w1.heap.size := World.block_lt_of_cell? _ _ cw1_0_0
  have cw1_1_0 : w1.cell? ⟨w.heap.size + 1, 0, none⟩ = some (.int .u64 0) := cell_gr hw1 (by go_simp)
  have fw1_1_0 : w1.frozen? ⟨w.heap.size + 1, 0, none⟩ = false := frozen_gr (v := .int .u64 0) hw1 (by go_simp) (by go_simp)
  have cw1_1_1 : w1.cell? ⟨w.heap.size + 1, 1, none⟩ = some (.int .u64 0) := cell_gr hw1 (by go_simp)
  have fw1_1_1 : w1.frozen? ⟨w.heap.size + 1, 1, none⟩ = false := frozen_gr (v := .int .u64 0) hw1 (by go_simp) (by go_simp)
  have cw1_1_2 : w1.cell? ⟨w.heap.size + 1, 2, none⟩ = some (.int .u64 0) := cell_gr hw1 (by go_simp)
  have fw1_1_2 : w1.frozen? ⟨w.heap.size + 1, 2, none⟩ = false := frozen_gr (v := .int .u64 0) hw1 (by go_simp) (by go_simp)
  have zw1_1 : w.heap.size + 1 < w1.heap.size := World.block_lt_of_cell? _ _ cw1_1_0
  have gw1 : Gr w w1 := Gr.trans (by go_grown) hw1
  clear hw1
  go_wp2_with fail
  go_at_call 57
  refine ((c_gcd10 _)).mono ?_
  rintro e w2 ⟨rfl, hw2⟩
  have cw2_0_0 : w2.cell? ⟨w.heap.size, 0, none⟩ = some (.int .u64 h) := cell_gr hw2 (by go_simp)
  have fw2_0_0 : w2.frozen? ⟨w.heap.size, 0, none⟩ = false := frozen_gr (v := .int .u64 h) hw2 (by go_simp) (by go_simp)
  have cw2_0_1 : w2.cell? ⟨w.heap.size, 1, none⟩ = some (.int .u64 l) := cell_gr hw2 (by go_simp)
  have fw2_0_1 : w2.frozen? ⟨w.heap.size, 1, none⟩ = false := frozen_gr (v := .int .u64 l) hw2 (by go_simp) (by go_simp)
  have zw2_0 : w.heap.size < w2.heap.size := World.block_lt_of_cell? _ _ cw2_0_0
  have cw2_1_0 : w2.cell? ⟨w.heap.size + 1, 0, none⟩ = some (.int .u64 0) := cell_gr hw2 (by go_simp)
  have fw2_1_0 : w2.frozen? ⟨w.heap.size + 1, 0, none⟩ = false := frozen_gr (v := .int .u64 0) hw2 (by go_simp) (by go_simp)
  have cw2_1_1 : w2.cell? ⟨w.heap.size + 1, 1, none⟩ = some (.int .u64 0) := cell_gr hw2 (by go_simp)
  have fw2_1_1 : w2.frozen? ⟨w.heap.size + 1, 1, none⟩ = false := frozen_gr (v := .int .u64 0) hw2 (by go_simp) (by go_simp)
  have cw2_1_2 : w2.cell? ⟨w.heap.size + 1, 2, none⟩ = some (.int .u64 0) := cell_gr hw2 (by go_simp)
  have fw2_1_2 : w2.frozen? ⟨w.heap.size + 1, 2, none⟩ = false := frozen_gr (v := .int .u64 0) hw2 (by go_simp) (by go_simp)
  have zw2_1 : w.heap.size + 1 < w2.heap.size := World.block_lt_of_cell? _ _ cw2_1_0
  have gw2 : Gr w w2 := Gr.trans (by have gg := gw1; have gs := gg.size; go_grown) hw2
  clear hw2 gw1 zw1_0 cw1_0_0 fw1_0_0 cw1_0_1 fw1_0_1 zw1_1 cw1_1_0 fw1_1_0 cw1_1_1 fw1_1_1 cw1_1_2 fw1_1_2
  go_wp2_with fail
  go_at_call 56
  refine ((H1.out _)).mono ?_
  rintro e w3 ⟨rfl, hw3⟩
  have cw3_0_0 : w3.cell? ⟨w.heap.size, 0, none⟩ = some (.int .u64 h) := cell_gr hw3 (by go_simp)
  have fw3_0_0 : w3.frozen? ⟨w.heap.size, 0, none⟩ = false := frozen_gr (v := .int .u64 h) hw3 (by go_simp) (by go_simp)
  have cw3_0_1 : w3.cell? ⟨w.heap.size, 1, none⟩ = some (.int .u64 l) := cell_gr hw3 (by go_simp)
  have fw3_0_1 : w3.frozen? ⟨w.heap.size, 1, none⟩ = false := frozen_gr (v := .int .u64 l) hw3 (by go_simp) (by go_simp)
  have zw3_0 : w.heap.size < w3.heap.size := World.block_lt_of_cell? _ _ cw3_0_0
  have cw3_1_0 : w3.cell? ⟨w.heap.size + 1, 0, none⟩ = some (.int .u64 0) := cell_gr hw3 (by go_simp)
  have fw3_1_0 : w3.frozen? ⟨w.heap.size + 1, 0, none⟩ = false := frozen_gr (v := .int .u64 0) hw3 (by go_simp) (by go_simp)
  have cw3_1_1 : w3.cell? ⟨w.heap.size + 1, 1, none⟩ = some (.int .u64 0) := cell_gr hw3 (by go_simp)
  have fw3_1_1 : w3.frozen? ⟨w.heap.size + 1, 1, none⟩ = false := frozen_gr (v := .int .u64 0) hw3 (by go_simp) (by go_simp)
  have cw3_1_2 : w3.cell? ⟨w.heap.size + 1, 2, none⟩ = some (.int .u64 0) := cell_gr hw3 (by go_simp)
  have fw3_1_2 : w3.frozen? ⟨w.heap.size + 1, 2, none⟩ = false := frozen_gr (v := .int .u64 0) hw3 (by go_simp) (by go_simp)
  have zw3_1 : w.heap.size + 1 < w3.heap.size := World.block_lt_of_cell? _ _ cw3_1_0
  have gw3 : Gr w w3 := Gr.trans (by have gg := gw2; have gs := gg.size; go_grown) hw3
  clear hw3 gw2 zw2_0 cw2_0_0 fw2_0_0 cw2_0_1 fw2_0_1 zw2_1 cw2_1_0 fw2_1_0 cw2_1_1 fw2_1_1 cw2_1_2 fw2_1_2
  go_wp2_with fail
  generalize hhw4 : (w3.alloc (.cells #[.int .u64 h, .int .u64 l] 65)) = w4
  have cw4_0_0 : w4.cell? ⟨w.heap.size, 0, none⟩ = some (.int .u64 h) := by subst hhw4; go_simp
  have fw4_0_0 : w4.frozen? ⟨w.heap.size, 0, none⟩ = false := by subst hhw4; go_simp
  have cw4_0_1 : w4.cell? ⟨w.heap.size, 1, none⟩ = some (.int .u64 l) := by subst hhw4; go_simp
  have fw4_0_1 : w4.frozen? ⟨w.heap.size, 1, none⟩ = false := by subst hhw4; go_simp
  have zw4_0 : w.heap.size < w4.heap.size := World.block_lt_of_cell? _ _ cw4_0_0
  have cw4_1_0 : w4.cell? ⟨w.heap.size + 1, 0, none⟩ = some (.int .u64 0) := by subst hhw4; go_simp
  have fw4_1_0 : w4.frozen? ⟨w.heap.size + 1, 0, none⟩ = false := by subst hhw4; go_simp
  have cw4_1_1 : w4.cell? ⟨w.heap.size + 1, 1, none⟩ = some (.int .u64 0) := by subst hhw4; go_simp
  have fw4_1_1 : w4.frozen? ⟨w.heap.size + 1, 1, none⟩ = false := by subst hhw4; go_simp
  have cw4_1_2 : w4.cell? ⟨w.heap.size + 1, 2, none⟩ = some (.int .u64 0) := by subst hhw4; go_simp
  have fw4_1_2 : w4.frozen? ⟨w.heap.size + 1, 2, none⟩ = false := by subst hhw4; go_simp
  have zw4_1 : w.heap.size + 1 < w4.heap.size := World.block_lt_of_cell? _ _ cw4_1_0
  have cw4_2_0 : w4.cell? ⟨w3.heap.size, 0, none⟩ = some (.int .u64 h) := by subst hhw4; go_simp
  have cw4_2_1 : w4.cell? ⟨w3.heap.size, 1, none⟩ = some (.int .u64 l) := by subst hhw4; go_simp
  have zw4_2 : w3.heap.size < w4.heap.size := World.block_lt_of_cell? _ _ cw4_2_0
  have gw4 : Gr w w4 := by subst hhw4; have gg := gw3; have gs := gg.size; go_grown
  clear hhw4 gw3 zw3_0 cw3_0_0 fw3_0_0 cw3_0_1 fw3_0_1 zw3_1 cw3_1_0 fw3_1_0 cw3_1_1 fw3_1_1 cw3_1_2 fw3_1_2
  go_wp2_with fail
  refine Hd.wp_region_tail 8 (by kernel_rfl) (by kernel_rfl) ?_
  intro KQ hKQ
  repeat (first | (refine Hd.wpG_skip (by decide) rfl ?_; simp only [Act.put, List.setIfInBounds_toArray, List.set_cons_zero, List.set_cons_succ]) | (refine Hd.wpG_want (by decide) rfl ?_; apply Exists.intro; refine ⟨?_, ?_⟩; (· intro wx gx; (obtain ⟨mx, rfl⟩ := gx); all_goals (apply Hd.gAt_of_quiet; intro K hK; go_big_quiet_op; first | exact hK _ rfl | (apply Exists.intro; refine ⟨fun _ => ?_, ?_⟩; (· fail); exact hK _ rfl))); try simp only [Act.put, List.setIfInBounds_toArray, List.set_cons_zero, List.set_cons_succ]))
  refine Hd.wpG_nil (hKQ _ ?_)
  clear hKQ KQ
  intro w5 hhw5
  have hw5 := Hd.gr_of_spread hhw5
  have cw5_0_0 : w5.cell? ⟨w.heap.size, 0, none⟩ = some (.int .u64 h) := cell_gr hw5 (by go_simp)
  have fw5_0_0 : w5.frozen? ⟨w.heap.size, 0, none⟩ = false := frozen_gr (v := .int .u64 h) hw5 (by go_simp) (by go_simp)
  have cw5_0_1 : w5.cell? ⟨w.heap.size, 1, none⟩ = some (.int .u64 l) := cell_gr hw5 (by go_simp)
  have fw5_0_1 : w5.frozen? ⟨w.heap.size, 1, none⟩ = false := frozen_gr (v := .int .u64 l) hw5 (by go_simp) (by go_simp)
  have zw5_0 : w.heap.size < w5.heap.size := World.block_lt_of_cell? _ _ cw5_0_0
  have cw5_1_0 : w5.cell? ⟨w.heap.size + 1, 0, none⟩ = some (.int .u64 0) := cell_gr hw5 (by go_simp)
  have fw5_1_0 : w5.frozen? ⟨w.heap.size + 1, 0, none⟩ = false := frozen_gr (v := .int .u64 0) hw5 (by go_simp) (by go_simp)
  have cw5_1_1 : w5.cell? ⟨w.heap.size + 1, 1, none⟩ = some (.int .u64 0) := cell_gr hw5 (by go_simp)
  have fw5_1_1 : w5.frozen? ⟨w.heap.size + 1, 1, none⟩ = false := frozen_gr (v := .int .u64 0) hw5 (by go_simp) (by go_simp)
  have cw5_1_2 : w5.cell? ⟨w.heap.size + 1, 2, none⟩ = some (.int .u64 0) := cell_gr hw5 (by go_simp)
  have fw5_1_2 : w5.frozen? ⟨w.heap.size + 1, 2, none⟩ = false := frozen_gr (v := .int .u64 0) hw5 (by go_simp) (by go_simp)
  have zw5_1 : w.heap.size + 1 < w5.heap.size := World.block_lt_of_cell? _ _ cw5_1_0
  have cw5_2_0 : w5.cell? ⟨w3.heap.size, 0, none⟩ = some (.int .u64 h) := cell_gr hw5 (by go_simp)
  have cw5_2_1 : w5.cell? ⟨w3.heap.size, 1, none⟩ = some (.int .u64 l) := cell_gr hw5 (by go_simp)
  have zw5_2 : w3.heap.size < w5.heap.size := World.block_lt_of_cell? _ _ cw5_2_0
  have gw5 : Gr w w5 := Gr.trans (by have gg := gw4; have gs := gg.size; go_grown) hw5
  clear hw5 hhw5 gw4 zw4_0 cw4_0_0 fw4_0_0 cw4_0_1 fw4_0_1 zw4_1 cw4_1_0 fw4_1_0 cw4_1_1 fw4_1_1 cw4_1_2 fw4_1_2 zw4_2 cw4_2_0 cw4_2_1
  go_wp2_with fail
  refine bodyPost_ret (v := .agg #[.int .u64 h, .int .u64 l, .int .u64 1]) (by simp [results, Tryd.results38, go_sem, *]) rfl ⟨rfl, by have gg := gw5; have gs := gg.size; go_grown⟩
end Go.Proofs.YtogflfepkddbhaaDoor
namespace Go.Proofs.YtogflfepkddbhaaDoor
set_option linter.unusedVariables false
open Go.ChangeShapes Go.WideShapes Go.ChangeAt Go.RowKit

theorem c_rgcd (a b : Nat) (ha : Wd a) (hb : Wd b) (w : World) :
    Calls Tryd.prog 57 #[.int .u64 a, .int .u64 b] w fun e w' => e = .returned (.int .u64 (Nat.gcd a b : Nat)) ∧ Gr w w' := by
  go_enter Tryd.func57, Tryd.ntmps57
  go_wp2_with fail
  go_loopg [0, 1] b (fun k v0 v1 wr => ∃ x y : Nat, Wd x ∧ Wd y ∧ y ≤ k ∧ v0 = .int .u64 x ∧ v1 = .int .u64 y ∧ Nat.gcd x y = Nat.gcd a b ∧ Gr w wr)
  case atStart => exact ⟨a, b, ha, hb, Nat.le_refl _, rfl, rfl, rfl, Gr.of_eq rfl⟩
  case round =>
    obtain ⟨x, y, hx, hy, hk, rfl, rfl, hgcd, hg⟩ := hrel
    by_cases h0 : y = 0
    · subst h0
      rw [Nat.gcd_zero_right] at hgcd
      have HG := Lib.hid hgcd
      clear hgcd
      go_wp2_with fail
      go_ret
      exact ⟨by rw [← HG.out]; rfl, hg⟩
    · have e : decide ((0 : Int) < (y : Int)) = true := decide_eq_true (by omega)
      have e2 : decide (0 < y) = true := decide_eq_true (by omega)
      have e3 : ¬ (y : Int) = 0 := by omega
      have hgc : Nat.gcd y (x % y) = Nat.gcd a b := by rw [← hgcd, Nat.gcd_comm, ← Nat.gcd_rec, Nat.gcd_comm]
      have hlt : x % y < y := Nat.mod_lt _ (by omega)
      obtain ⟨z, hz⟩ : ∃ z, z = x % y := ⟨_, rfl⟩
      rw [← hz] at hgc hlt
      have t1 : (x : Int).tmod (y : Int) = (z : Int) := by rw [hz]; rfl
      have t2 : IntKind.u64.wrap (z : Int) = (z : Int) := IntWalk.u64_in _ (by unfold Wd at hy; omega)
      have HG := Lib.hid hgc
      clear hgcd hgc hz
      go_wp2_with fail
      refine wp_region_spread (by kernel_rfl) (by kernel_rfl) ?_
      try simp only [List.append]
      repeat (first | go_big_quiet_skip | (go_big_quiet_want; go_big_quiet_op; (first | go_big_quiet_on | (apply Exists.intro; refine ⟨fun _ => ?_, ?_⟩; (· fail); go_big_quiet_on))))
      refine wpQuiet_nil ?_
      intro wr hr
      obtain ⟨mr, rfl⟩ := hr
      go_wp2_with fail
      go_roundg z
      case measure => omega
      case rel => exact ⟨y, z, hy, by unfold Wd at *; omega, Nat.le_refl _, rfl, rfl, HG.out, Gr.trans hg (gr_spread _ _)⟩
set_option maxHeartbeats 1000000 in
set_option maxRecDepth 100000 in
theorem lowest_core (h l d qh ql g qd q2h q2l r r2 : Nat) (W : World) (g1 : ((g : Int) == 0) = false) (g3 : ¬ (g : Int) = 0)
    (t1 : (d : Int).tdiv (g : Int) = (qd : Int)) (t2 : IntKind.u64.wrap (qd : Int) = (qd : Int))
    (A1 : ∀ w, Calls Tryd.prog 56 #[.agg #[.int .u64 h, .int .u64 l], .int .u64 d] w fun e w' => e = .returned (.tuple #[.agg #[.int .u64 q2h, .int .u64 q2l], .int .u64 r]) ∧ Gr w w')
    (A2 : ∀ w, Calls Tryd.prog 57 #[.int .u64 d, .int .u64 r] w fun e w' => e = .returned (.int .u64 g) ∧ Gr w w')
    (A3 : ∀ w, Calls Tryd.prog 56 #[.agg #[.int .u64 h, .int .u64 l], .int .u64 g] w fun e w' => e = .returned (.tuple #[.agg #[.int .u64 qh, .int .u64 ql], .int .u64 r2]) ∧ Gr w w') :
    Calls Tryd.prog 38 #[.agg #[.int .u64 h, .int .u64 l], .int .u64 d] W fun e w' => e = .returned (.agg #[.int .u64 qh, .int .u64 ql, .int .u64 qd]) ∧ Gr W w' := by
  have H1 := Lib.hid A1
  have H2 := Lib.hid A2
  have H3 := Lib.hid A3
  clear A1 A2 A3
  go_enter Tryd.func38, Tryd.ntmps38
  go_wp2_with fail
  go_at_call 56
  refine ((H1.out _)).mono ?_
  rintro e w1 ⟨rfl, hw1⟩
  have cw1_0_0 : w1.cell? ⟨W.heap.size, 0, none⟩ = some (.int .u64 h) := cell_gr hw1 (by go_simp)
  have cw1_0_1 : w1.cell? ⟨W.heap.size, 1, none⟩ = some (.int .u64 l) := cell_gr hw1 (by go_simp)
  have zw1_0 : W.heap.size < w1.heap.size := World.block_lt_of_cell? _ _ cw1_0_0
  have cw1_1_0 : w1.cell? ⟨W.heap.size + 1, 0, none⟩ = some (.int .u64 0) := cell_gr hw1 (by go_simp)
  have fw1_1_0 : w1.frozen? ⟨W.heap.size + 1, 0, none⟩ = false := frozen_gr (v := .int .u64 0) hw1 (by go_simp) (by go_simp)
  have cw1_1_1 : w1.cell? ⟨W.heap.size + 1, 1, none⟩ = some (.int .u64 0) := cell_gr hw1 (by go_simp)
  have fw1_1_1 : w1.frozen? ⟨W.heap.size + 1, 1, none⟩ = false := frozen_gr (v := .int .u64 0) hw1 (by go_simp) (by go_simp)
  have cw1_1_2 : w1.cell? ⟨W.heap.size + 1, 2, none⟩ = some (.int .u64 0) := cell_gr hw1 (by go_simp)
  have fw1_1_2 : w1.frozen? ⟨W.heap.size + 1, 2, none⟩ = false := frozen_gr (v := .int .u64 0) hw1 (by go_simp) (by go_simp)
  have zw1_1 : W.heap.size + 1 < w1.heap.size := World.block_lt_of_cell? _ _ cw1_1_0
  have gw1 : Gr W w1 := Gr.trans (by go_grown) hw1
  clear hw1
  go_wp2_with fail
  go_at_call 57
  refine ((H2.out _)).mono ?_
  rintro e w2 ⟨rfl, hw2⟩
  have cw2_0_0 : w2.cell? ⟨W.heap.size, 0, none⟩ = some (.int .u64 h) := cell_gr hw2 (by go_simp)
  have cw2_0_1 : w2.cell? ⟨W.heap.size, 1, none⟩ = some (.int .u64 l) := cell_gr hw2 (by go_simp)
  have zw2_0 : W.heap.size < w2.heap.size := World.block_lt_of_cell? _ _ cw2_0_0
  have cw2_1_0 : w2.cell? ⟨W.heap.size + 1, 0, none⟩ = some (.int .u64 0) := cell_gr hw2 (by go_simp)
  have fw2_1_0 : w2.frozen? ⟨W.heap.size + 1, 0, none⟩ = false := frozen_gr (v := .int .u64 0) hw2 (by go_simp) (by go_simp)
  have cw2_1_1 : w2.cell? ⟨W.heap.size + 1, 1, none⟩ = some (.int .u64 0) := cell_gr hw2 (by go_simp)
  have fw2_1_1 : w2.frozen? ⟨W.heap.size + 1, 1, none⟩ = false := frozen_gr (v := .int .u64 0) hw2 (by go_simp) (by go_simp)
  have cw2_1_2 : w2.cell? ⟨W.heap.size + 1, 2, none⟩ = some (.int .u64 0) := cell_gr hw2 (by go_simp)
  have fw2_1_2 : w2.frozen? ⟨W.heap.size + 1, 2, none⟩ = false := frozen_gr (v := .int .u64 0) hw2 (by go_simp) (by go_simp)
  have zw2_1 : W.heap.size + 1 < w2.heap.size := World.block_lt_of_cell? _ _ cw2_1_0
  have gw2 : Gr W w2 := Gr.trans (by have gg := gw1; have gs := gg.size; go_grown) hw2
  clear hw2 gw1 zw1_0 cw1_0_0 cw1_0_1 zw1_1 cw1_1_0 fw1_1_0 cw1_1_1 fw1_1_1 cw1_1_2 fw1_1_2
  go_wp2_with fail
  go_at_call 56
  refine ((H3.out _)).mono ?_
  rintro e w3 ⟨rfl, hw3⟩
  have cw3_0_0 : w3.cell? ⟨W.heap.size, 0, none⟩ = some (.int .u64 h) := cell_gr hw3 (by go_simp)
  have cw3_0_1 : w3.cell? ⟨W.heap.size, 1, none⟩ = some (.int .u64 l) := cell_gr hw3 (by go_simp)
  have zw3_0 : W.heap.size < w3.heap.size := World.block_lt_of_cell? _ _ cw3_0_0
  have cw3_1_0 : w3.cell? ⟨W.heap.size + 1, 0, none⟩ = some (.int .u64 0) := cell_gr hw3 (by go_simp)
  have fw3_1_0 : w3.frozen? ⟨W.heap.size + 1, 0, none⟩ = false := frozen_gr (v := .int .u64 0) hw3 (by go_simp) (by go_simp)
  have cw3_1_1 : w3.cell? ⟨W.heap.size + 1, 1, none⟩ = some (.int .u64 0) := cell_gr hw3 (by go_simp)
  have fw3_1_1 : w3.frozen? ⟨W.heap.size + 1, 1, none⟩ = false := frozen_gr (v := .int .u64 0) hw3 (by go_simp) (by go_simp)
  have cw3_1_2 : w3.cell? ⟨W.heap.size + 1, 2, none⟩ = some (.int .u64 0) := cell_gr hw3 (by go_simp)
  have fw3_1_2 : w3.frozen? ⟨W.heap.size + 1, 2, none⟩ = false := frozen_gr (v := .int .u64 0) hw3 (by go_simp) (by go_simp)
  have zw3_1 : W.heap.size + 1 < w3.heap.size := World.block_lt_of_cell? _ _ cw3_1_0
  have gw3 : Gr W w3 := Gr.trans (by have gg := gw2; have gs := gg.size; go_grown) hw3
  clear hw3 gw2 zw2_0 cw2_0_0 cw2_0_1 zw2_1 cw2_1_0 fw2_1_0 cw2_1_1 fw2_1_1 cw2_1_2 fw2_1_2
  go_wp2_with fail
  generalize hhw4 : (w3.alloc (.cells #[.int .u64 qh, .int .u64 ql] 65)) = w4
  have cw4_0_0 : w4.cell? ⟨W.heap.size, 0, none⟩ = some (.int .u64 h) := by subst hhw4; go_simp
  have cw4_0_1 : w4.cell? ⟨W.heap.size, 1, none⟩ = some (.int .u64 l) := by subst hhw4; go_simp
  have zw4_0 : W.heap.size < w4.heap.size := World.block_lt_of_cell? _ _ cw4_0_0
  have cw4_1_0 : w4.cell? ⟨W.heap.size + 1, 0, none⟩ = some (.int .u64 0) := by subst hhw4; go_simp
  have fw4_1_0 : w4.frozen? ⟨W.heap.size + 1, 0, none⟩ = false := by subst hhw4; go_simp
  have cw4_1_1 : w4.cell? ⟨W.heap.size + 1, 1, none⟩ = some (.int .u64 0) := by subst hhw4; go_simp
  have fw4_1_1 : w4.frozen? ⟨W.heap.size + 1, 1, none⟩ = false := by subst hhw4; go_simp
  have cw4_1_2 : w4.cell? ⟨W.heap.size + 1, 2, none⟩ = some (.int .u64 0) := by subst hhw4; go_simp
  have fw4_1_2 : w4.frozen? ⟨W.heap.size + 1, 2, none⟩ = false := by subst hhw4; go_simp
  have zw4_1 : W.heap.size + 1 < w4.heap.size := World.block_lt_of_cell? _ _ cw4_1_0
  have cw4_2_0 : w4.cell? ⟨w3.heap.size, 0, none⟩ = some (.int .u64 qh) := by subst hhw4; go_simp
  have cw4_2_1 : w4.cell? ⟨w3.heap.size, 1, none⟩ = some (.int .u64 ql) := by subst hhw4; go_simp
  have zw4_2 : w3.heap.size < w4.heap.size := World.block_lt_of_cell? _ _ cw4_2_0
  have gw4 : Gr W w4 := by subst hhw4; have gg := gw3; have gs := gg.size; go_grown
  clear hhw4 gw3 zw3_0 cw3_0_0 cw3_0_1 zw3_1 cw3_1_0 fw3_1_0 cw3_1_1 fw3_1_1 cw3_1_2 fw3_1_2
  go_wp2_with fail
  refine Hd.wp_region_tail 8 (by kernel_rfl) (by kernel_rfl) ?_
  intro KQ hKQ
  repeat (first | (refine Hd.wpG_skip (by decide) rfl ?_; simp only [Act.put, List.setIfInBounds_toArray, List.set_cons_zero, List.set_cons_succ]) | (refine Hd.wpG_want (by decide) rfl ?_; apply Exists.intro; refine ⟨?_, ?_⟩; (· intro wx gx; (obtain ⟨mx, rfl⟩ := gx); all_goals (apply Hd.gAt_of_quiet; intro K hK; go_big_quiet_op; first | exact hK _ rfl | (apply Exists.intro; refine ⟨fun _ => ?_, ?_⟩; (· fail); exact hK _ rfl))); try simp only [Act.put, List.setIfInBounds_toArray, List.set_cons_zero, List.set_cons_succ]))
  refine Hd.wpG_nil (hKQ _ ?_)
  clear hKQ KQ
  intro w5 hhw5
  have hw5 := Hd.gr_of_spread hhw5
  have cw5_0_0 : w5.cell? ⟨W.heap.size, 0, none⟩ = some (.int .u64 h) := cell_gr hw5 (by go_simp)
  have cw5_0_1 : w5.cell? ⟨W.heap.size, 1, none⟩ = some (.int .u64 l) := cell_gr hw5 (by go_simp)
  have zw5_0 : W.heap.size < w5.heap.size := World.block_lt_of_cell? _ _ cw5_0_0
  have cw5_1_0 : w5.cell? ⟨W.heap.size + 1, 0, none⟩ = some (.int .u64 0) := cell_gr hw5 (by go_simp)
  have fw5_1_0 : w5.frozen? ⟨W.heap.size + 1, 0, none⟩ = false := frozen_gr (v := .int .u64 0) hw5 (by go_simp) (by go_simp)
  have cw5_1_1 : w5.cell? ⟨W.heap.size + 1, 1, none⟩ = some (.int .u64 0) := cell_gr hw5 (by go_simp)
  have fw5_1_1 : w5.frozen? ⟨W.heap.size + 1, 1, none⟩ = false := frozen_gr (v := .int .u64 0) hw5 (by go_simp) (by go_simp)
  have cw5_1_2 : w5.cell? ⟨W.heap.size + 1, 2, none⟩ = some (.int .u64 0) := cell_gr hw5 (by go_simp)
  have fw5_1_2 : w5.frozen? ⟨W.heap.size + 1, 2, none⟩ = false := frozen_gr (v := .int .u64 0) hw5 (by go_simp) (by go_simp)
  have zw5_1 : W.heap.size + 1 < w5.heap.size := World.block_lt_of_cell? _ _ cw5_1_0
  have cw5_2_0 : w5.cell? ⟨w3.heap.size, 0, none⟩ = some (.int .u64 qh) := cell_gr hw5 (by go_simp)
  have cw5_2_1 : w5.cell? ⟨w3.heap.size, 1, none⟩ = some (.int .u64 ql) := cell_gr hw5 (by go_simp)
  have zw5_2 : w3.heap.size < w5.heap.size := World.block_lt_of_cell? _ _ cw5_2_0
  have gw5 : Gr W w5 := Gr.trans (by have gg := gw4; have gs := gg.size; go_grown) hw5
  clear hw5 hhw5 gw4 zw4_0 cw4_0_0 cw4_0_1 zw4_1 cw4_1_0 fw4_1_0 cw4_1_1 fw4_1_1 cw4_1_2 fw4_1_2 zw4_2 cw4_2_0 cw4_2_1
  go_wp2_with fail
  refine bodyPost_ret (v := .agg #[.int .u64 qh, .int .u64 ql, .int .u64 qd]) (by simp [results, Tryd.results38, go_sem, *]) rfl ⟨rfl, by have gg := gw5; have gs := gg.size; go_grown⟩
theorem c_Lowest (h l d : Nat) (h1 : Wd h) (h2 : Wd l) (h3 : Wd d) (hd : d ≠ 0) (w : World) :
    Calls Tryd.prog 38 #[.agg #[.int .u64 h, .int .u64 l], .int .u64 d] w fun e w' => e = .returned (.agg #[.int .u64 ((lowN (val h l) d / 18446744073709551616 : Nat) : Int), .int .u64 ((lowN (val h l) d % 18446744073709551616 : Nat) : Int), .int .u64 ((lowD (val h l) d : Nat) : Int)]) ∧ Gr w w' := by
  have hr : val h l % d < d := Nat.mod_lt _ (by omega)
  have hrw : Wd (val h l % d) := by unfold Wd at *; omega
  have A1 := c_rDiv h l d h1 h2 h3 (by omega)
  have A2 := c_rgcd d (val h l % d) h3 hrw
  have hgl : Nat.gcd d (val h l % d) ≤ d := Nat.le_of_dvd (by omega) (Nat.gcd_dvd_left _ _)
  have hgp : 0 < Nat.gcd d (val h l % d) := Nat.gcd_pos_of_pos_left _ (by omega)
  unfold lowN lowD
  generalize Nat.gcd d (val h l % d) = g at *
  have A3 := c_rDiv h l g h1 h2 (by unfold Wd at *; omega) hgp
  have hq : d / g ≤ d := Nat.div_le_self _ _
  exact lowest_core h l d _ _ g (d / g) _ _ _ _ w (by simp; omega) (by omega) rfl (IntWalk.u64_in _ ⟨Int.natCast_nonneg _, by unfold Wd at *; omega⟩) A1 A2 A3
end Go.Proofs.YtogflfepkddbhaaDoor
