/- PlaneCovers -/
import Derived.Test.YthjhhnolkiejpaaPr
import Derived.Test.YthjhhnolkiejpaaPn
import Derived.Test.YthjhhnolkiejpaaVd
namespace Go.Proofs.Ythjhhnolkiejpaa
set_option linter.unusedVariables false
open Go.ChangeShapes Go.WideShapes Go.ChangeAt Go.RowKit

/-- One of the first k is x. -/
def anyEq (A : Nat → Int) (x : Int) : Nat → Bool
  | 0 => false
  | k + 1 => anyEq A x k || (A k == x)
theorem accMin_le (A : Nat → Int) (n : Nat) : ∀ k, k < n → accMin A n ≤ A k := by
  induction n with
  | zero => intro k hk; omega
  | succ n ih =>
    intro k hk
    have h := min_le (accMin A n) (A n)
    show minZ (accMin A n) (A n) ≤ A k
    rcases Nat.lt_succ_iff_lt_or_eq.1 hk with g | rfl
    · have := ih k g; omega
    · omega
theorem accMax_ge (A : Nat → Int) (n : Nat) : ∀ k, k < n → A k ≤ accMax A n := by
  induction n with
  | zero => intro k hk; omega
  | succ n ih =>
    intro k hk
    show A k ≤ maxZ (accMax A n) (A n)
    have h : accMax A n ≤ maxZ (accMax A n) (A n) ∧ A n ≤ maxZ (accMax A n) (A n) := by unfold maxZ; split <;> omega
    rcases Nat.lt_succ_iff_lt_or_eq.1 hk with g | rfl
    · have := ih k g; omega
    · omega
theorem accMin_one (A : Nat → Int) (n : Nat) (hn : 1 ≤ n) : ∃ k, k < n ∧ accMin A n = A k := by
  induction n with
  | zero => omega
  | succ n ih =>
    have h := min_le (accMin A n) (A n)
    rcases h.2.2 with g | g
    · rcases Nat.eq_zero_or_pos n with rfl | hp
      · exact ⟨0, by omega, g⟩
      · obtain ⟨k, hk, e⟩ := ih hp
        exact ⟨k, by omega, g.trans e⟩
    · exact ⟨n, by omega, g⟩
theorem accMax_one (A : Nat → Int) (n : Nat) (hn : 1 ≤ n) : ∃ k, k < n ∧ accMax A n = A k := by
  induction n with
  | zero => omega
  | succ n ih =>
    have h : maxZ (accMax A n) (A n) = accMax A n ∨ maxZ (accMax A n) (A n) = A n := by unfold maxZ; split <;> simp
    rcases h with g | g
    · rcases Nat.eq_zero_or_pos n with rfl | hp
      · exact ⟨0, by omega, g⟩
      · obtain ⟨k, hk, e⟩ := ih hp
        exact ⟨k, by omega, g.trans e⟩
    · exact ⟨n, by omega, g⟩
theorem anyEq_of {A : Nat → Int} {x : Int} {n k : Nat} (hk : k < n) (e : A k = x) : anyEq A x n = true := by
  induction n with
  | zero => omega
  | succ n ih =>
    show (anyEq A x n || (A n == x)) = true
    rcases Nat.lt_succ_iff_lt_or_eq.1 hk with g | rfl
    · rw [ih g]; rfl
    · rw [e]; simp
theorem acc_box {A B C D : Nat → Int} {n : Nat} (hn : 1 ≤ n) (h : allBox A B C D n = true) : boxB (accMin A n) (accMin B n) (accMax C n) (accMax D n) = true := by
  rw [allBox_iff] at h
  have near : ∀ k, k < n → (nearB (A k) (B k) = true ∧ nearB (C k) (D k) = true) ∧ A k ≤ C k ∧ B k ≤ D k := fun k hk => boxB_iff.1 (h k hk)
  obtain ⟨k1, h1, e1⟩ := accMin_one A n hn
  obtain ⟨k2, h2, e2⟩ := accMin_one B n hn
  obtain ⟨k3, h3, e3⟩ := accMax_one C n hn
  obtain ⟨k4, h4, e4⟩ := accMax_one D n hn
  have n1 := nearB_iff.1 (near k1 h1).1.1
  have n2 := nearB_iff.1 (near k2 h2).1.1
  have n3 := nearB_iff.1 (near k3 h3).1.2
  have n4 := nearB_iff.1 (near k4 h4).1.2
  have l1 := accMin_le A n 0 (by omega)
  have l2 := accMin_le B n 0 (by omega)
  have l3 := accMax_ge C n 0 (by omega)
  have l4 := accMax_ge D n 0 (by omega)
  have b0 := (near 0 (by omega)).2
  rw [boxB_iff, nearB_iff, nearB_iff]
  omega
theorem bey_mono {lo hi lo' hi' v : Int} (h : lo ≤ hi) (h1 : lo' ≤ lo) (h2 : hi ≤ hi') : 0 ≤ beyZ lo' hi' v ∧ beyZ lo' hi' v ≤ beyZ lo hi v := by
  unfold beyZ
  split <;> split <;> (try split) <;> (try split) <;> omega
theorem distZ_mono {a b c d a' b' c' d' px py : Int} (h : a ≤ c ∧ b ≤ d) (h1 : a' ≤ a) (h2 : b' ≤ b) (h3 : c ≤ c') (h4 : d ≤ d') : distZ a' b' c' d' px py ≤ distZ a b c d px py := by
  have m1 := bey_mono (v := px) h.1 h1 h3
  have m2 := bey_mono (v := py) h.2 h2 h4
  unfold distZ
  have p1 := Int.mul_le_mul m1.2 m1.2 m1.1 (by omega)
  have p2 := Int.mul_le_mul m2.2 m2.2 m2.1 (by omega)
  omega
set_option maxHeartbeats 4000000 in
set_option maxRecDepth 100000 in
theorem covers_out (a : Option Addr) (n cap : Nat) (px py : Int) (q : Bool) (W : World)
    (hc : (((n : Int) == 0) = true ∧ (n == 0) = true) ∨ (((n : Int) == 0) = false ∧ (n == 0) = false ∧ decide ((100 : Int) < (n : Int)) = true ∧ decide (100 < n) = true) ∨ (((n : Int) == 0) = false ∧ (n == 0) = false ∧ decide ((100 : Int) < (n : Int)) = false ∧ decide (100 < n) = false ∧ q = false))
    (A1 : ∀ w, Calls Try.prog 14 #[.agg #[.int .i64 px, .int .i64 py]] w fun e w' => e = .returned (.bool q) ∧ Gr w w') :
    Calls Try.prog 3 #[.slice a n cap, .agg #[.int .i64 px, .int .i64 py]] W fun e w' => e = .returned (.bool true) ∧ Gr W w' := by
  have H1 := Lib.hid A1
  clear A1
  rcases hc with ⟨c1, c2⟩ | ⟨c1, c2, c3, c4⟩ | ⟨c1, c2, c3, c4, rfl⟩
  · go_enter Try.func3, Try.ntmps3
    go_wp2_with fail
    go_at_call 15
    refine ((p_awake _)).mono ?_
    rintro e w1 ⟨rfl, hw1⟩
    have cw1_0_0 : w1.cell? ⟨W.heap.size, 0, none⟩ = some (.int .i64 px) := cell_gr hw1 (by go_simp)
    have cw1_0_1 : w1.cell? ⟨W.heap.size, 1, none⟩ = some (.int .i64 py) := cell_gr hw1 (by go_simp)
    have zw1_0 : W.heap.size < w1.heap.size := World.block_lt_of_cell? _ _ cw1_0_0
    have gw1 : Gr W w1 := Gr.trans (by go_grown) hw1
    clear hw1
    go_wp2_with fail
    go_ret
    exact ⟨rfl, by go_grown⟩
  · go_enter Try.func3, Try.ntmps3
    go_wp2_with fail
    go_at_call 15
    refine ((p_awake _)).mono ?_
    rintro e w1 ⟨rfl, hw1⟩
    have cw1_0_0 : w1.cell? ⟨W.heap.size, 0, none⟩ = some (.int .i64 px) := cell_gr hw1 (by go_simp)
    have cw1_0_1 : w1.cell? ⟨W.heap.size, 1, none⟩ = some (.int .i64 py) := cell_gr hw1 (by go_simp)
    have zw1_0 : W.heap.size < w1.heap.size := World.block_lt_of_cell? _ _ cw1_0_0
    have gw1 : Gr W w1 := Gr.trans (by go_grown) hw1
    clear hw1
    go_wp2_with fail
    go_ret
    exact ⟨rfl, by go_grown⟩
  · go_enter Try.func3, Try.ntmps3
    go_wp2_with fail
    go_at_call 14
    refine ((H1.out _)).mono ?_
    rintro e w1 ⟨rfl, hw1⟩
    have cw1_0_0 : w1.cell? ⟨W.heap.size, 0, none⟩ = some (.int .i64 px) := cell_gr hw1 (by go_simp)
    have cw1_0_1 : w1.cell? ⟨W.heap.size, 1, none⟩ = some (.int .i64 py) := cell_gr hw1 (by go_simp)
    have zw1_0 : W.heap.size < w1.heap.size := World.block_lt_of_cell? _ _ cw1_0_0
    have gw1 : Gr W w1 := Gr.trans (by go_grown) hw1
    clear hw1
    go_wp2_with fail
    go_at_call 15
    refine ((p_awake _)).mono ?_
    rintro e w2 ⟨rfl, hw2⟩
    have cw2_0_0 : w2.cell? ⟨W.heap.size, 0, none⟩ = some (.int .i64 px) := cell_gr hw2 (by go_simp)
    have cw2_0_1 : w2.cell? ⟨W.heap.size, 1, none⟩ = some (.int .i64 py) := cell_gr hw2 (by go_simp)
    have zw2_0 : W.heap.size < w2.heap.size := World.block_lt_of_cell? _ _ cw2_0_0
    have gw2 : Gr W w2 := Gr.trans (by have gg := gw1; have gs := gg.size; go_grown) hw2
    clear hw2 gw1 zw1_0 cw1_0_0 cw1_0_1
    go_wp2_with fail
    go_ret
    exact ⟨rfl, by go_grown⟩
set_option maxHeartbeats 4000000 in
set_option maxRecDepth 100000 in
theorem covers_err (a : Option Addr) (n cap : Nat) (px py x1 x2 x3 x4 z : Int) (W : World)
    (c1 : ((n : Int) == 0) = false) (c2 : (n == 0) = false) (c3 : decide ((100 : Int) < (n : Int)) = false) (c4 : decide (100 < n) = false)
    (A1 : ∀ w, Calls Try.prog 14 #[.agg #[.int .i64 px, .int .i64 py]] w fun e w' => e = .returned (.bool true) ∧ Gr w w')
    (A2 : ∀ w, Gr W w → Calls Try.prog 16 #[.slice a n cap] w fun e w' => e = .returned (.tuple #[.agg #[.int .i64 x1, .int .i64 x2, .int .i64 x3, .int .i64 x4], .iface 56 (.int .i64 z)]) ∧ Gr w w') :
    Calls Try.prog 3 #[.slice a n cap, .agg #[.int .i64 px, .int .i64 py]] W fun e w' => e = .returned (.bool true) ∧ Gr W w' := by
  have H1 := Lib.hid A1
  have H2 := Lib.hid A2
  clear A1 A2
  go_enter Try.func3, Try.ntmps3
  go_wp2_with fail
  go_at_call 14
  refine ((H1.out _)).mono ?_
  rintro e w1 ⟨rfl, hw1⟩
  have cw1_0_0 : w1.cell? ⟨W.heap.size, 0, none⟩ = some (.int .i64 px) := cell_gr hw1 (by go_simp)
  have cw1_0_1 : w1.cell? ⟨W.heap.size, 1, none⟩ = some (.int .i64 py) := cell_gr hw1 (by go_simp)
  have zw1_0 : W.heap.size < w1.heap.size := World.block_lt_of_cell? _ _ cw1_0_0
  have gw1 : Gr W w1 := Gr.trans (by go_grown) hw1
  clear hw1
  go_wp2_with fail
  go_at_call 16
  refine ((H2.out _ gw1)).mono ?_
  rintro e w2 ⟨rfl, hw2⟩
  have cw2_0_0 : w2.cell? ⟨W.heap.size, 0, none⟩ = some (.int .i64 px) := cell_gr hw2 (by go_simp)
  have cw2_0_1 : w2.cell? ⟨W.heap.size, 1, none⟩ = some (.int .i64 py) := cell_gr hw2 (by go_simp)
  have zw2_0 : W.heap.size < w2.heap.size := World.block_lt_of_cell? _ _ cw2_0_0
  have gw2 : Gr W w2 := Gr.trans (by have gg := gw1; have gs := gg.size; go_grown) hw2
  clear hw2 gw1 zw1_0 cw1_0_0 cw1_0_1
  go_wp2_with fail
  go_at_call 15
  refine ((p_awake _)).mono ?_
  rintro e w3 ⟨rfl, hw3⟩
  have cw3_0_0 : w3.cell? ⟨W.heap.size, 0, none⟩ = some (.int .i64 px) := cell_gr hw3 (by go_simp)
  have cw3_0_1 : w3.cell? ⟨W.heap.size, 1, none⟩ = some (.int .i64 py) := cell_gr hw3 (by go_simp)
  have zw3_0 : W.heap.size < w3.heap.size := World.block_lt_of_cell? _ _ cw3_0_0
  have gw3 : Gr W w3 := Gr.trans (by have gg := gw2; have gs := gg.size; go_grown) hw3
  clear hw3 gw2 zw2_0 cw2_0_0 cw2_0_1
  go_wp2_with fail
  go_ret
  exact ⟨rfl, by go_grown⟩
set_option maxHeartbeats 8000000 in
set_option maxRecDepth 100000 in
theorem covers_in (b off n cap : Nat) (A B C D : Nat → Int) (px py m1 m2 m3 m4 : Int) (W : World) (hn100 : n ≤ 100) (hblt : b < W.heap.size)
    (c1 : ((n : Int) == 0) = false) (c2 : (n == 0) = false) (c3 : decide ((100 : Int) < (n : Int)) = false) (c4 : decide (100 < n) = false)
    (hc : ∀ k, k < n → W.cell? ⟨b, off + k * 4, none⟩ = some (.int .i64 (A k)) ∧ W.cell? ⟨b, off + k * 4 + 1, none⟩ = some (.int .i64 (B k)) ∧ W.cell? ⟨b, off + k * 4 + 2, none⟩ = some (.int .i64 (C k)) ∧ W.cell? ⟨b, off + k * 4 + 3, none⟩ = some (.int .i64 (D k)))
    (A1 : ∀ w, Calls Try.prog 14 #[.agg #[.int .i64 px, .int .i64 py]] w fun e w' => e = .returned (.bool true) ∧ Gr w w')
    (A2 : ∀ w, Gr W w → Calls Try.prog 16 #[.slice (some ⟨b, off, none⟩) n cap] w fun e w' => e = .returned (.tuple #[.agg #[.int .i64 m1, .int .i64 m2, .int .i64 m3, .int .i64 m4], .nilIface]) ∧ Gr w w')
    (S1 : ∀ i, i < n → ∀ w, Calls Try.prog 17 #[.agg #[.int .i64 (A i), .int .i64 (B i), .int .i64 (C i), .int .i64 (D i)], .agg #[.int .i64 m1, .int .i64 m2, .int .i64 m3, .int .i64 m4]] w fun e w' => e = .returned (.bool true) ∧ Gr w w')
    (S2 : ∀ i, i < n → ∀ w, Calls Try.prog 18 #[.agg #[.int .i64 (A i), .int .i64 (B i), .int .i64 (C i), .int .i64 (D i)], .agg #[.int .i64 m1, .int .i64 m2, .int .i64 m3, .int .i64 m4]] w fun e w' => e = .returned (.bool true) ∧ Gr w w')
    (S3 : ∀ i, i < n → ∃ h, (∀ w, Calls Try.prog 19 #[.agg #[.int .i64 (A i), .int .i64 (B i), .int .i64 (C i), .int .i64 (D i)], .agg #[.int .i64 px, .int .i64 py]] w fun e w' => e = .returned (.bool h) ∧ Gr w w') ∧ (h = true → ∀ w, Calls Try.prog 19 #[.agg #[.int .i64 m1, .int .i64 m2, .int .i64 m3, .int .i64 m4], .agg #[.int .i64 px, .int .i64 py]] w fun e w' => e = .returned (.bool true) ∧ Gr w w'))
    (S4 : ∃ s : Nat, (∀ w, Calls Try.prog 21 #[.agg #[.int .i64 m1, .int .i64 m2, .int .i64 m3, .int .i64 m4], .agg #[.int .i64 px, .int .i64 py]] w fun e w' => e = .returned (.agg #[.int .u64 0, .int .u64 s, .int .u64 1]) ∧ Gr w w') ∧ ∀ i, i < n → ∃ t k, (∀ w, Calls Try.prog 21 #[.agg #[.int .i64 (A i), .int .i64 (B i), .int .i64 (C i), .int .i64 (D i)], .agg #[.int .i64 px, .int .i64 py]] w fun e w' => e = .returned (.agg #[.int .u64 0, .int .u64 t, .int .u64 1]) ∧ Gr w w') ∧ (∀ w, Calls Try.prog 20 #[.agg #[.int .u64 0, .int .u64 s, .int .u64 1], .agg #[.int .u64 0, .int .u64 t, .int .u64 1]] w fun e w' => e = .returned (.int .i64 k) ∧ Gr w w') ∧ decide (0 < k) = false)
    (z1 : anyEq A m1 n = true) (z2 : anyEq B m2 n = true) (z3 : anyEq C m3 n = true) (z4 : anyEq D m4 n = true) :
    Calls Try.prog 3 #[.slice (some ⟨b, off, none⟩) n cap, .agg #[.int .i64 px, .int .i64 py]] W fun e w' => e = .returned (.bool true) ∧ Gr W w' := by
  obtain ⟨s, S4, S5⟩ := S4
  have H1 := Lib.hid A1
  have H2 := Lib.hid A2
  clear A1 A2
  have HS1 := Lib.hid S1
  have HS2 := Lib.hid S2
  have HS3 := Lib.hid S3
  have HS4 := Lib.hid S4
  have HS5 := Lib.hid S5
  have HC := Lib.hid hc
  have HZ := Lib.hid (And.intro z1 (And.intro z2 (And.intro z3 z4)))
  clear S1 S2 S3 S4 S5 hc z1 z2 z3 z4
  go_enter Try.func3, Try.ntmps3
  go_wp2_with fail
  go_at_call 14
  refine ((H1.out _)).mono ?_
  rintro e w1 ⟨rfl, hw1⟩
  have cw1_0_0 : w1.cell? ⟨W.heap.size, 0, none⟩ = some (.int .i64 px) := cell_gr hw1 (by go_simp)
  have cw1_0_1 : w1.cell? ⟨W.heap.size, 1, none⟩ = some (.int .i64 py) := cell_gr hw1 (by go_simp)
  have zw1_0 : W.heap.size < w1.heap.size := World.block_lt_of_cell? _ _ cw1_0_0
  have gw1 : Gr W w1 := Gr.trans (by go_grown) hw1
  clear hw1
  go_wp2_with fail
  go_at_call 16
  refine ((H2.out _ gw1)).mono ?_
  rintro e w2 ⟨rfl, hw2⟩
  have cw2_0_0 : w2.cell? ⟨W.heap.size, 0, none⟩ = some (.int .i64 px) := cell_gr hw2 (by go_simp)
  have cw2_0_1 : w2.cell? ⟨W.heap.size, 1, none⟩ = some (.int .i64 py) := cell_gr hw2 (by go_simp)
  have zw2_0 : W.heap.size < w2.heap.size := World.block_lt_of_cell? _ _ cw2_0_0
  have gw2 : Gr W w2 := Gr.trans (by have gg := gw1; have gs := gg.size; go_grown) hw2
  clear hw2 gw1 zw1_0 cw1_0_0 cw1_0_1
  go_wp2_with fail
  go_loopg [7, 8, 9, 10, 11] n (fun k v7 v8 v9 v10 v11 wr => ∃ i : Nat, i + k = n ∧ v11 = .int .i64 i ∧ v7 = .bool (anyEq A m1 i) ∧ v8 = .bool (anyEq B m2 i) ∧ v9 = .bool (anyEq C m3 i) ∧ v10 = .bool (anyEq D m4 i) ∧ wr.cell? ⟨W.heap.size, 0, none⟩ = some (.int .i64 px) ∧ wr.cell? ⟨W.heap.size, 1, none⟩ = some (.int .i64 py) ∧ wr.cell? ⟨w2.heap.size, 0, none⟩ = some (.int .i64 m1) ∧ wr.cell? ⟨w2.heap.size, 1, none⟩ = some (.int .i64 m2) ∧ wr.cell? ⟨w2.heap.size, 2, none⟩ = some (.int .i64 m3) ∧ wr.cell? ⟨w2.heap.size, 3, none⟩ = some (.int .i64 m4) ∧ Gr W wr)
  case atStart => exact ⟨0, by omega, rfl, rfl, rfl, rfl, rfl, by go_simp, by go_simp, by go_simp, by go_simp, by go_simp, by go_simp, by have gg := gw2; have gs := gg.size; go_grown⟩
  case round =>
    obtain ⟨i, hk, rfl, rfl, rfl, rfl, rfl, p0, p1, q0, q1, q2, q3, gwr⟩ := hrel
    have zp := World.block_lt_of_cell? _ _ p0
    have zq := World.block_lt_of_cell? _ _ q0
    clear gw2 zw2_0 cw2_0_0 cw2_0_1
    by_cases hin : i < n
    · have ti : decide ((i : Int) < (n : Int)) = true := decide_eq_true (by omega)
      have ti2 : decide (i < n) = true := decide_eq_true hin
      have ti3 : (i : Int) < (n : Int) := by omega
      have s0 := cell_gr gwr (HC.out i hin).1
      have s1 := cell_gr gwr (HC.out i hin).2.1
      have s2 := cell_gr gwr (HC.out i hin).2.2.1
      have s3 := cell_gr gwr (HC.out i hin).2.2.2
      have zs := World.block_lt_of_cell? _ _ s0
      have R1 := Lib.hid (HS1.out i hin)
      have R2 := Lib.hid (HS2.out i hin)
      obtain ⟨h, r3, r3'⟩ := HS3.out i hin
      obtain ⟨t, k', r5, r6, r7⟩ := HS5.out i hin
      have R3 := Lib.hid r3
      have R4 := Lib.hid r3'
      have R5 := Lib.hid r5
      have R6 := Lib.hid r6
      clear r3 r3' r5 r6
      obtain ⟨f1, ef1⟩ : ∃ f, f = anyEq A m1 i := ⟨_, rfl⟩
      obtain ⟨f2, ef2⟩ : ∃ f, f = anyEq B m2 i := ⟨_, rfl⟩
      obtain ⟨f3, ef3⟩ : ∃ f, f = anyEq C m3 i := ⟨_, rfl⟩
      obtain ⟨f4, ef4⟩ : ∃ f, f = anyEq D m4 i := ⟨_, rfl⟩
      rw [← ef1, ← ef2, ← ef3, ← ef4]
      have HF := Lib.hid (And.intro ef1 (And.intro ef2 (And.intro ef3 ef4)))
      clear ef1 ef2 ef3 ef4
      have hh : h = false ∨ h = true := by cases h <;> simp
      rcases hh with rfl | rfl
      · have wd := True.intro
        go_wp2_with fail
        refine wp_region_spread (by kernel_rfl) (by kernel_rfl) ?_
        try simp only [List.append]
        repeat (first | go_big_quiet_skip | (go_big_quiet_want; go_big_quiet_op; (first | go_big_quiet_on | (apply Exists.intro; refine ⟨fun _ => ?_, ?_⟩; (· (first | (go_at_call 17; first | ((with_reducible refine ((R1.out _)).mono ?_); rintro e w' ⟨rfl, hg⟩; exact ⟨rfl, spread_gr hg⟩)) | (go_at_call 18; first | ((with_reducible refine ((R2.out _)).mono ?_); rintro e w' ⟨rfl, hg⟩; exact ⟨rfl, spread_gr hg⟩)) | (go_at_call 19; first | ((with_reducible refine ((R3.out _)).mono ?_); rintro e w' ⟨rfl, hg⟩; exact ⟨rfl, spread_gr hg⟩)) | (go_at_call 21; first | ((with_reducible refine ((HS4.out _)).mono ?_); rintro e w' ⟨rfl, hg⟩; exact ⟨rfl, spread_gr hg⟩) | ((with_reducible refine ((R5.out _)).mono ?_); rintro e w' ⟨rfl, hg⟩; exact ⟨rfl, spread_gr hg⟩)) | (go_at_call 20; first | ((with_reducible refine ((R6.out _)).mono ?_); rintro e w' ⟨rfl, hg⟩; exact ⟨rfl, spread_gr hg⟩)))); go_big_quiet_on))))
        refine wpQuiet_nil ?_
        intro w5 hhw5
        have hw5 := Hd.gr_of_spread hhw5
        have cw5_0_0 : w5.cell? ⟨W.heap.size, 0, none⟩ = some (.int .i64 px) := cell_gr hw5 (by go_simp)
        have cw5_0_1 : w5.cell? ⟨W.heap.size, 1, none⟩ = some (.int .i64 py) := cell_gr hw5 (by go_simp)
        have zw5_0 : W.heap.size < w5.heap.size := World.block_lt_of_cell? _ _ cw5_0_0
        have cw5_1_0 : w5.cell? ⟨w2.heap.size, 0, none⟩ = some (.int .i64 m1) := cell_gr hw5 (by go_simp)
        have cw5_1_1 : w5.cell? ⟨w2.heap.size, 1, none⟩ = some (.int .i64 m2) := cell_gr hw5 (by go_simp)
        have cw5_1_2 : w5.cell? ⟨w2.heap.size, 2, none⟩ = some (.int .i64 m3) := cell_gr hw5 (by go_simp)
        have cw5_1_3 : w5.cell? ⟨w2.heap.size, 3, none⟩ = some (.int .i64 m4) := cell_gr hw5 (by go_simp)
        have zw5_1 : w2.heap.size < w5.heap.size := World.block_lt_of_cell? _ _ cw5_1_0
        have gw5 : Gr W w5 := Gr.trans (by have gg := gwr; have gs := gg.size; go_grown) hw5
        clear hw5 hhw5 gwr
        clear s0 s1 s2 s3 zs
        have s0 := cell_gr gw5 (HC.out i hin).1
        have s1 := cell_gr gw5 (HC.out i hin).2.1
        have s2 := cell_gr gw5 (HC.out i hin).2.2.1
        have s3 := cell_gr gw5 (HC.out i hin).2.2.2
        have zs := World.block_lt_of_cell? _ _ s0
        cases f1
        all_goals
          go_wp2_with fail
          refine wp_region_spread (by kernel_rfl) (by kernel_rfl) ?_
          try simp only [List.append]
          repeat (first | go_big_quiet_skip | (go_big_quiet_want; go_big_quiet_op; (first | go_big_quiet_on | (apply Exists.intro; refine ⟨fun _ => ?_, ?_⟩; (· fail); go_big_quiet_on))))
          refine wpQuiet_nil ?_
          intro w6 hhw6
          have hw6 := Hd.gr_of_spread hhw6
          have cw6_0_0 : w6.cell? ⟨W.heap.size, 0, none⟩ = some (.int .i64 px) := cell_gr hw6 (by go_simp)
          have cw6_0_1 : w6.cell? ⟨W.heap.size, 1, none⟩ = some (.int .i64 py) := cell_gr hw6 (by go_simp)
          have zw6_0 : W.heap.size < w6.heap.size := World.block_lt_of_cell? _ _ cw6_0_0
          have cw6_1_0 : w6.cell? ⟨w2.heap.size, 0, none⟩ = some (.int .i64 m1) := cell_gr hw6 (by go_simp)
          have cw6_1_1 : w6.cell? ⟨w2.heap.size, 1, none⟩ = some (.int .i64 m2) := cell_gr hw6 (by go_simp)
          have cw6_1_2 : w6.cell? ⟨w2.heap.size, 2, none⟩ = some (.int .i64 m3) := cell_gr hw6 (by go_simp)
          have cw6_1_3 : w6.cell? ⟨w2.heap.size, 3, none⟩ = some (.int .i64 m4) := cell_gr hw6 (by go_simp)
          have zw6_1 : w2.heap.size < w6.heap.size := World.block_lt_of_cell? _ _ cw6_1_0
          have gw6 : Gr W w6 := Gr.trans (by have gg := gw5; have gs := gg.size; go_grown) hw6
          clear hw6 hhw6 gw5 zw5_0 cw5_0_0 cw5_0_1 zw5_1 cw5_1_0 cw5_1_1 cw5_1_2 cw5_1_3
          clear s0 s1 s2 s3 zs
          have s0 := cell_gr gw6 (HC.out i hin).1
          have s1 := cell_gr gw6 (HC.out i hin).2.1
          have s2 := cell_gr gw6 (HC.out i hin).2.2.1
          have s3 := cell_gr gw6 (HC.out i hin).2.2.2
          have zs := World.block_lt_of_cell? _ _ s0
          cases f2
          all_goals
            go_wp2_with fail
            refine wp_region_spread (by kernel_rfl) (by kernel_rfl) ?_
            try simp only [List.append]
            repeat (first | go_big_quiet_skip | (go_big_quiet_want; go_big_quiet_op; (first | go_big_quiet_on | (apply Exists.intro; refine ⟨fun _ => ?_, ?_⟩; (· fail); go_big_quiet_on))))
            refine wpQuiet_nil ?_
            intro w7 hhw7
            have hw7 := Hd.gr_of_spread hhw7
            have cw7_0_0 : w7.cell? ⟨W.heap.size, 0, none⟩ = some (.int .i64 px) := cell_gr hw7 (by go_simp)
            have cw7_0_1 : w7.cell? ⟨W.heap.size, 1, none⟩ = some (.int .i64 py) := cell_gr hw7 (by go_simp)
            have zw7_0 : W.heap.size < w7.heap.size := World.block_lt_of_cell? _ _ cw7_0_0
            have cw7_1_0 : w7.cell? ⟨w2.heap.size, 0, none⟩ = some (.int .i64 m1) := cell_gr hw7 (by go_simp)
            have cw7_1_1 : w7.cell? ⟨w2.heap.size, 1, none⟩ = some (.int .i64 m2) := cell_gr hw7 (by go_simp)
            have cw7_1_2 : w7.cell? ⟨w2.heap.size, 2, none⟩ = some (.int .i64 m3) := cell_gr hw7 (by go_simp)
            have cw7_1_3 : w7.cell? ⟨w2.heap.size, 3, none⟩ = some (.int .i64 m4) := cell_gr hw7 (by go_simp)
            have zw7_1 : w2.heap.size < w7.heap.size := World.block_lt_of_cell? _ _ cw7_1_0
            have gw7 : Gr W w7 := Gr.trans (by have gg := gw6; have gs := gg.size; go_grown) hw7
            clear hw7 hhw7 gw6 zw6_0 cw6_0_0 cw6_0_1 zw6_1 cw6_1_0 cw6_1_1 cw6_1_2 cw6_1_3
            clear s0 s1 s2 s3 zs
            have s0 := cell_gr gw7 (HC.out i hin).1
            have s1 := cell_gr gw7 (HC.out i hin).2.1
            have s2 := cell_gr gw7 (HC.out i hin).2.2.1
            have s3 := cell_gr gw7 (HC.out i hin).2.2.2
            have zs := World.block_lt_of_cell? _ _ s0
            cases f3
            all_goals
              go_wp2_with fail
              refine wp_region_spread (by kernel_rfl) (by kernel_rfl) ?_
              try simp only [List.append]
              repeat (first | go_big_quiet_skip | (go_big_quiet_want; go_big_quiet_op; (first | go_big_quiet_on | (apply Exists.intro; refine ⟨fun _ => ?_, ?_⟩; (· fail); go_big_quiet_on))))
              refine wpQuiet_nil ?_
              intro w8 hhw8
              have hw8 := Hd.gr_of_spread hhw8
              have cw8_0_0 : w8.cell? ⟨W.heap.size, 0, none⟩ = some (.int .i64 px) := cell_gr hw8 (by go_simp)
              have cw8_0_1 : w8.cell? ⟨W.heap.size, 1, none⟩ = some (.int .i64 py) := cell_gr hw8 (by go_simp)
              have zw8_0 : W.heap.size < w8.heap.size := World.block_lt_of_cell? _ _ cw8_0_0
              have cw8_1_0 : w8.cell? ⟨w2.heap.size, 0, none⟩ = some (.int .i64 m1) := cell_gr hw8 (by go_simp)
              have cw8_1_1 : w8.cell? ⟨w2.heap.size, 1, none⟩ = some (.int .i64 m2) := cell_gr hw8 (by go_simp)
              have cw8_1_2 : w8.cell? ⟨w2.heap.size, 2, none⟩ = some (.int .i64 m3) := cell_gr hw8 (by go_simp)
              have cw8_1_3 : w8.cell? ⟨w2.heap.size, 3, none⟩ = some (.int .i64 m4) := cell_gr hw8 (by go_simp)
              have zw8_1 : w2.heap.size < w8.heap.size := World.block_lt_of_cell? _ _ cw8_1_0
              have gw8 : Gr W w8 := Gr.trans (by have gg := gw7; have gs := gg.size; go_grown) hw8
              clear hw8 hhw8 gw7 zw7_0 cw7_0_0 cw7_0_1 zw7_1 cw7_1_0 cw7_1_1 cw7_1_2 cw7_1_3
              clear s0 s1 s2 s3 zs
              have s0 := cell_gr gw8 (HC.out i hin).1
              have s1 := cell_gr gw8 (HC.out i hin).2.1
              have s2 := cell_gr gw8 (HC.out i hin).2.2.1
              have s3 := cell_gr gw8 (HC.out i hin).2.2.2
              have zs := World.block_lt_of_cell? _ _ s0
              cases f4
              all_goals
                go_wp2_with fail
                refine wp_region_spread (by kernel_rfl) (by kernel_rfl) ?_
                try simp only [List.append]
                repeat (first | go_big_quiet_skip | (go_big_quiet_want; go_big_quiet_op; (first | go_big_quiet_on | (apply Exists.intro; refine ⟨fun _ => ?_, ?_⟩; (· fail); go_big_quiet_on))))
                refine wpQuiet_nil ?_
                intro w9 hhw9
                have hw9 := Hd.gr_of_spread hhw9
                have cw9_0_0 : w9.cell? ⟨W.heap.size, 0, none⟩ = some (.int .i64 px) := cell_gr hw9 (by go_simp)
                have cw9_0_1 : w9.cell? ⟨W.heap.size, 1, none⟩ = some (.int .i64 py) := cell_gr hw9 (by go_simp)
                have zw9_0 : W.heap.size < w9.heap.size := World.block_lt_of_cell? _ _ cw9_0_0
                have cw9_1_0 : w9.cell? ⟨w2.heap.size, 0, none⟩ = some (.int .i64 m1) := cell_gr hw9 (by go_simp)
                have cw9_1_1 : w9.cell? ⟨w2.heap.size, 1, none⟩ = some (.int .i64 m2) := cell_gr hw9 (by go_simp)
                have cw9_1_2 : w9.cell? ⟨w2.heap.size, 2, none⟩ = some (.int .i64 m3) := cell_gr hw9 (by go_simp)
                have cw9_1_3 : w9.cell? ⟨w2.heap.size, 3, none⟩ = some (.int .i64 m4) := cell_gr hw9 (by go_simp)
                have zw9_1 : w2.heap.size < w9.heap.size := World.block_lt_of_cell? _ _ cw9_1_0
                have gw9 : Gr W w9 := Gr.trans (by have gg := gw8; have gs := gg.size; go_grown) hw9
                clear hw9 hhw9 gw8 zw8_0 cw8_0_0 cw8_0_1 zw8_1 cw8_1_0 cw8_1_1 cw8_1_2 cw8_1_3
                go_wp2_with fail
                go_roundg (n - (i + 1))
                case measure => omega
                case rel => exact ⟨i + 1, by omega, by go_num, by show _ = Value.bool (anyEq A m1 i || (A i == m1)); rw [← HF.out.1]; first | rfl | simp, by show _ = Value.bool (anyEq B m2 i || (B i == m2)); rw [← HF.out.2.1]; first | rfl | simp, by show _ = Value.bool (anyEq C m3 i || (C i == m3)); rw [← HF.out.2.2.1]; first | rfl | simp, by show _ = Value.bool (anyEq D m4 i || (D i == m4)); rw [← HF.out.2.2.2]; first | rfl | simp, by go_simp, by go_simp, by go_simp, by go_simp, by go_simp, by go_simp, by have gg := gw9; have gs := gg.size; go_grown⟩
      · have R4b := Lib.hid (R4.out rfl)
        clear R4
        go_wp2_with fail
        refine wp_region_spread (by kernel_rfl) (by kernel_rfl) ?_
        try simp only [List.append]
        repeat (first | go_big_quiet_skip | (go_big_quiet_want; go_big_quiet_op; (first | go_big_quiet_on | (apply Exists.intro; refine ⟨fun _ => ?_, ?_⟩; (· (first | (go_at_call 17; first | ((with_reducible refine ((R1.out _)).mono ?_); rintro e w' ⟨rfl, hg⟩; exact ⟨rfl, spread_gr hg⟩)) | (go_at_call 18; first | ((with_reducible refine ((R2.out _)).mono ?_); rintro e w' ⟨rfl, hg⟩; exact ⟨rfl, spread_gr hg⟩)) | (go_at_call 19; first | ((with_reducible refine ((R3.out _)).mono ?_); rintro e w' ⟨rfl, hg⟩; exact ⟨rfl, spread_gr hg⟩) | ((with_reducible refine ((R4b.out _)).mono ?_); rintro e w' ⟨rfl, hg⟩; exact ⟨rfl, spread_gr hg⟩)) | (go_at_call 21; first | ((with_reducible refine ((HS4.out _)).mono ?_); rintro e w' ⟨rfl, hg⟩; exact ⟨rfl, spread_gr hg⟩) | ((with_reducible refine ((R5.out _)).mono ?_); rintro e w' ⟨rfl, hg⟩; exact ⟨rfl, spread_gr hg⟩)) | (go_at_call 20; first | ((with_reducible refine ((R6.out _)).mono ?_); rintro e w' ⟨rfl, hg⟩; exact ⟨rfl, spread_gr hg⟩)))); go_big_quiet_on))))
        refine wpQuiet_nil ?_
        intro w5 hhw5
        have hw5 := Hd.gr_of_spread hhw5
        have cw5_0_0 : w5.cell? ⟨W.heap.size, 0, none⟩ = some (.int .i64 px) := cell_gr hw5 (by go_simp)
        have cw5_0_1 : w5.cell? ⟨W.heap.size, 1, none⟩ = some (.int .i64 py) := cell_gr hw5 (by go_simp)
        have zw5_0 : W.heap.size < w5.heap.size := World.block_lt_of_cell? _ _ cw5_0_0
        have cw5_1_0 : w5.cell? ⟨w2.heap.size, 0, none⟩ = some (.int .i64 m1) := cell_gr hw5 (by go_simp)
        have cw5_1_1 : w5.cell? ⟨w2.heap.size, 1, none⟩ = some (.int .i64 m2) := cell_gr hw5 (by go_simp)
        have cw5_1_2 : w5.cell? ⟨w2.heap.size, 2, none⟩ = some (.int .i64 m3) := cell_gr hw5 (by go_simp)
        have cw5_1_3 : w5.cell? ⟨w2.heap.size, 3, none⟩ = some (.int .i64 m4) := cell_gr hw5 (by go_simp)
        have zw5_1 : w2.heap.size < w5.heap.size := World.block_lt_of_cell? _ _ cw5_1_0
        have gw5 : Gr W w5 := Gr.trans (by have gg := gwr; have gs := gg.size; go_grown) hw5
        clear hw5 hhw5 gwr
        clear s0 s1 s2 s3 zs
        have s0 := cell_gr gw5 (HC.out i hin).1
        have s1 := cell_gr gw5 (HC.out i hin).2.1
        have s2 := cell_gr gw5 (HC.out i hin).2.2.1
        have s3 := cell_gr gw5 (HC.out i hin).2.2.2
        have zs := World.block_lt_of_cell? _ _ s0
        cases f1
        all_goals
          go_wp2_with fail
          refine wp_region_spread (by kernel_rfl) (by kernel_rfl) ?_
          try simp only [List.append]
          repeat (first | go_big_quiet_skip | (go_big_quiet_want; go_big_quiet_op; (first | go_big_quiet_on | (apply Exists.intro; refine ⟨fun _ => ?_, ?_⟩; (· fail); go_big_quiet_on))))
          refine wpQuiet_nil ?_
          intro w6 hhw6
          have hw6 := Hd.gr_of_spread hhw6
          have cw6_0_0 : w6.cell? ⟨W.heap.size, 0, none⟩ = some (.int .i64 px) := cell_gr hw6 (by go_simp)
          have cw6_0_1 : w6.cell? ⟨W.heap.size, 1, none⟩ = some (.int .i64 py) := cell_gr hw6 (by go_simp)
          have zw6_0 : W.heap.size < w6.heap.size := World.block_lt_of_cell? _ _ cw6_0_0
          have cw6_1_0 : w6.cell? ⟨w2.heap.size, 0, none⟩ = some (.int .i64 m1) := cell_gr hw6 (by go_simp)
          have cw6_1_1 : w6.cell? ⟨w2.heap.size, 1, none⟩ = some (.int .i64 m2) := cell_gr hw6 (by go_simp)
          have cw6_1_2 : w6.cell? ⟨w2.heap.size, 2, none⟩ = some (.int .i64 m3) := cell_gr hw6 (by go_simp)
          have cw6_1_3 : w6.cell? ⟨w2.heap.size, 3, none⟩ = some (.int .i64 m4) := cell_gr hw6 (by go_simp)
          have zw6_1 : w2.heap.size < w6.heap.size := World.block_lt_of_cell? _ _ cw6_1_0
          have gw6 : Gr W w6 := Gr.trans (by have gg := gw5; have gs := gg.size; go_grown) hw6
          clear hw6 hhw6 gw5 zw5_0 cw5_0_0 cw5_0_1 zw5_1 cw5_1_0 cw5_1_1 cw5_1_2 cw5_1_3
          clear s0 s1 s2 s3 zs
          have s0 := cell_gr gw6 (HC.out i hin).1
          have s1 := cell_gr gw6 (HC.out i hin).2.1
          have s2 := cell_gr gw6 (HC.out i hin).2.2.1
          have s3 := cell_gr gw6 (HC.out i hin).2.2.2
          have zs := World.block_lt_of_cell? _ _ s0
          cases f2
          all_goals
            go_wp2_with fail
            refine wp_region_spread (by kernel_rfl) (by kernel_rfl) ?_
            try simp only [List.append]
            repeat (first | go_big_quiet_skip | (go_big_quiet_want; go_big_quiet_op; (first | go_big_quiet_on | (apply Exists.intro; refine ⟨fun _ => ?_, ?_⟩; (· fail); go_big_quiet_on))))
            refine wpQuiet_nil ?_
            intro w7 hhw7
            have hw7 := Hd.gr_of_spread hhw7
            have cw7_0_0 : w7.cell? ⟨W.heap.size, 0, none⟩ = some (.int .i64 px) := cell_gr hw7 (by go_simp)
            have cw7_0_1 : w7.cell? ⟨W.heap.size, 1, none⟩ = some (.int .i64 py) := cell_gr hw7 (by go_simp)
            have zw7_0 : W.heap.size < w7.heap.size := World.block_lt_of_cell? _ _ cw7_0_0
            have cw7_1_0 : w7.cell? ⟨w2.heap.size, 0, none⟩ = some (.int .i64 m1) := cell_gr hw7 (by go_simp)
            have cw7_1_1 : w7.cell? ⟨w2.heap.size, 1, none⟩ = some (.int .i64 m2) := cell_gr hw7 (by go_simp)
            have cw7_1_2 : w7.cell? ⟨w2.heap.size, 2, none⟩ = some (.int .i64 m3) := cell_gr hw7 (by go_simp)
            have cw7_1_3 : w7.cell? ⟨w2.heap.size, 3, none⟩ = some (.int .i64 m4) := cell_gr hw7 (by go_simp)
            have zw7_1 : w2.heap.size < w7.heap.size := World.block_lt_of_cell? _ _ cw7_1_0
            have gw7 : Gr W w7 := Gr.trans (by have gg := gw6; have gs := gg.size; go_grown) hw7
            clear hw7 hhw7 gw6 zw6_0 cw6_0_0 cw6_0_1 zw6_1 cw6_1_0 cw6_1_1 cw6_1_2 cw6_1_3
            clear s0 s1 s2 s3 zs
            have s0 := cell_gr gw7 (HC.out i hin).1
            have s1 := cell_gr gw7 (HC.out i hin).2.1
            have s2 := cell_gr gw7 (HC.out i hin).2.2.1
            have s3 := cell_gr gw7 (HC.out i hin).2.2.2
            have zs := World.block_lt_of_cell? _ _ s0
            cases f3
            all_goals
              go_wp2_with fail
              refine wp_region_spread (by kernel_rfl) (by kernel_rfl) ?_
              try simp only [List.append]
              repeat (first | go_big_quiet_skip | (go_big_quiet_want; go_big_quiet_op; (first | go_big_quiet_on | (apply Exists.intro; refine ⟨fun _ => ?_, ?_⟩; (· fail); go_big_quiet_on))))
              refine wpQuiet_nil ?_
              intro w8 hhw8
              have hw8 := Hd.gr_of_spread hhw8
              have cw8_0_0 : w8.cell? ⟨W.heap.size, 0, none⟩ = some (.int .i64 px) := cell_gr hw8 (by go_simp)
              have cw8_0_1 : w8.cell? ⟨W.heap.size, 1, none⟩ = some (.int .i64 py) := cell_gr hw8 (by go_simp)
              have zw8_0 : W.heap.size < w8.heap.size := World.block_lt_of_cell? _ _ cw8_0_0
              have cw8_1_0 : w8.cell? ⟨w2.heap.size, 0, none⟩ = some (.int .i64 m1) := cell_gr hw8 (by go_simp)
              have cw8_1_1 : w8.cell? ⟨w2.heap.size, 1, none⟩ = some (.int .i64 m2) := cell_gr hw8 (by go_simp)
              have cw8_1_2 : w8.cell? ⟨w2.heap.size, 2, none⟩ = some (.int .i64 m3) := cell_gr hw8 (by go_simp)
              have cw8_1_3 : w8.cell? ⟨w2.heap.size, 3, none⟩ = some (.int .i64 m4) := cell_gr hw8 (by go_simp)
              have zw8_1 : w2.heap.size < w8.heap.size := World.block_lt_of_cell? _ _ cw8_1_0
              have gw8 : Gr W w8 := Gr.trans (by have gg := gw7; have gs := gg.size; go_grown) hw8
              clear hw8 hhw8 gw7 zw7_0 cw7_0_0 cw7_0_1 zw7_1 cw7_1_0 cw7_1_1 cw7_1_2 cw7_1_3
              clear s0 s1 s2 s3 zs
              have s0 := cell_gr gw8 (HC.out i hin).1
              have s1 := cell_gr gw8 (HC.out i hin).2.1
              have s2 := cell_gr gw8 (HC.out i hin).2.2.1
              have s3 := cell_gr gw8 (HC.out i hin).2.2.2
              have zs := World.block_lt_of_cell? _ _ s0
              cases f4
              all_goals
                go_wp2_with fail
                refine wp_region_spread (by kernel_rfl) (by kernel_rfl) ?_
                try simp only [List.append]
                repeat (first | go_big_quiet_skip | (go_big_quiet_want; go_big_quiet_op; (first | go_big_quiet_on | (apply Exists.intro; refine ⟨fun _ => ?_, ?_⟩; (· fail); go_big_quiet_on))))
                refine wpQuiet_nil ?_
                intro w9 hhw9
                have hw9 := Hd.gr_of_spread hhw9
                have cw9_0_0 : w9.cell? ⟨W.heap.size, 0, none⟩ = some (.int .i64 px) := cell_gr hw9 (by go_simp)
                have cw9_0_1 : w9.cell? ⟨W.heap.size, 1, none⟩ = some (.int .i64 py) := cell_gr hw9 (by go_simp)
                have zw9_0 : W.heap.size < w9.heap.size := World.block_lt_of_cell? _ _ cw9_0_0
                have cw9_1_0 : w9.cell? ⟨w2.heap.size, 0, none⟩ = some (.int .i64 m1) := cell_gr hw9 (by go_simp)
                have cw9_1_1 : w9.cell? ⟨w2.heap.size, 1, none⟩ = some (.int .i64 m2) := cell_gr hw9 (by go_simp)
                have cw9_1_2 : w9.cell? ⟨w2.heap.size, 2, none⟩ = some (.int .i64 m3) := cell_gr hw9 (by go_simp)
                have cw9_1_3 : w9.cell? ⟨w2.heap.size, 3, none⟩ = some (.int .i64 m4) := cell_gr hw9 (by go_simp)
                have zw9_1 : w2.heap.size < w9.heap.size := World.block_lt_of_cell? _ _ cw9_1_0
                have gw9 : Gr W w9 := Gr.trans (by have gg := gw8; have gs := gg.size; go_grown) hw9
                clear hw9 hhw9 gw8 zw8_0 cw8_0_0 cw8_0_1 zw8_1 cw8_1_0 cw8_1_1 cw8_1_2 cw8_1_3
                go_wp2_with fail
                go_roundg (n - (i + 1))
                case measure => omega
                case rel => exact ⟨i + 1, by omega, by go_num, by show _ = Value.bool (anyEq A m1 i || (A i == m1)); rw [← HF.out.1]; first | rfl | simp, by show _ = Value.bool (anyEq B m2 i || (B i == m2)); rw [← HF.out.2.1]; first | rfl | simp, by show _ = Value.bool (anyEq C m3 i || (C i == m3)); rw [← HF.out.2.2.1]; first | rfl | simp, by show _ = Value.bool (anyEq D m4 i || (D i == m4)); rw [← HF.out.2.2.2]; first | rfl | simp, by go_simp, by go_simp, by go_simp, by go_simp, by go_simp, by go_simp, by have gg := gw9; have gs := gg.size; go_grown⟩
    · obtain rfl : i = n := by omega
      have hz := HZ.out
      rw [hz.1, hz.2.1, hz.2.2.1, hz.2.2.2]
      clear hz
      go_wp2_with fail
      go_at_call 15
      refine ((p_awake _)).mono ?_
      rintro e w5 ⟨rfl, hw5⟩
      have cw5_0_0 : w5.cell? ⟨W.heap.size, 0, none⟩ = some (.int .i64 px) := cell_gr hw5 (by go_simp)
      have cw5_0_1 : w5.cell? ⟨W.heap.size, 1, none⟩ = some (.int .i64 py) := cell_gr hw5 (by go_simp)
      have zw5_0 : W.heap.size < w5.heap.size := World.block_lt_of_cell? _ _ cw5_0_0
      have cw5_1_0 : w5.cell? ⟨w2.heap.size, 0, none⟩ = some (.int .i64 m1) := cell_gr hw5 (by go_simp)
      have cw5_1_1 : w5.cell? ⟨w2.heap.size, 1, none⟩ = some (.int .i64 m2) := cell_gr hw5 (by go_simp)
      have cw5_1_2 : w5.cell? ⟨w2.heap.size, 2, none⟩ = some (.int .i64 m3) := cell_gr hw5 (by go_simp)
      have cw5_1_3 : w5.cell? ⟨w2.heap.size, 3, none⟩ = some (.int .i64 m4) := cell_gr hw5 (by go_simp)
      have zw5_1 : w2.heap.size < w5.heap.size := World.block_lt_of_cell? _ _ cw5_1_0
      have gw5 : Gr W w5 := Gr.trans (by have gg := gwr; have gs := gg.size; go_grown) hw5
      clear hw5 gwr
      go_wp2_with fail
      go_ret
      exact ⟨rfl, by go_grown⟩
theorem walk_PlaneCovers (W : World) (v : Value) (px py : Int) (hB : v = .slice none 0 0 ∨ ∃ (b off n cap : Nat) (A B C D : Nat → Int), v = .slice (some ⟨b, off, none⟩) n cap ∧ n ≤ cap ∧ (cap : Int) ≤ 9223372036854775807 ∧
      ∀ k, k < n → W.cell? ⟨b, off + k * 4, none⟩ = some (.int .i64 (A k)) ∧ W.cell? ⟨b, off + k * 4 + 1, none⟩ = some (.int .i64 (B k)) ∧ W.cell? ⟨b, off + k * 4 + 2, none⟩ = some (.int .i64 (C k)) ∧ W.cell? ⟨b, off + k * 4 + 3, none⟩ = some (.int .i64 (D k)))
    (hp : (-9223372036854775808 ≤ px ∧ px ≤ 9223372036854775807) ∧ (-9223372036854775808 ≤ py ∧ py ≤ 9223372036854775807)) :
    Calls Try.prog 3 #[v, .agg #[.int .i64 px, .int .i64 py]] W fun e w' => e = .returned (.bool true) ∧ Gr W w' := by
  clear hp
  have Q := c_rPoint px py
  rcases hB with rfl | ⟨b, off, n, cap, A, B, C, D, rfl, -, -, hc⟩
  · exact covers_out none 0 0 px py _ W (Or.inl ⟨rfl, rfl⟩) Q
  · rcases Nat.eq_zero_or_pos n with rfl | hpos
    · exact covers_out _ 0 cap px py _ W (Or.inl ⟨rfl, rfl⟩) Q
    · have d1 : ((n : Int) == 0) = false := by simp; omega
      have d2 : (n == 0) = false := by simp; omega
      by_cases hn : 100 < n
      · exact covers_out _ n cap px py _ W (Or.inr (Or.inl ⟨d1, d2, decide_eq_true (by omega), decide_eq_true hn⟩)) Q
      · have d3 : decide ((100 : Int) < (n : Int)) = false := decide_eq_false (by omega)
        have d4 : decide (100 < n) = false := decide_eq_false hn
        cases np : nearB px py
        · rw [np] at Q
          exact covers_out _ n cap px py _ W (Or.inr (Or.inr ⟨d1, d2, d3, d4, rfl⟩)) Q
        · rw [np] at Q
          have hcw : ∀ w, Gr W w → ∀ k, k < n → w.cell? ⟨b, off + k * 4, none⟩ = some (.int .i64 (A k)) ∧ w.cell? ⟨b, off + k * 4 + 1, none⟩ = some (.int .i64 (B k)) ∧ w.cell? ⟨b, off + k * 4 + 2, none⟩ = some (.int .i64 (C k)) ∧ w.cell? ⟨b, off + k * 4 + 3, none⟩ = some (.int .i64 (D k)) := fun w g k hk =>
            ⟨cell_gr g (hc k hk).1, cell_gr g (hc k hk).2.1, cell_gr g (hc k hk).2.2.1, cell_gr g (hc k hk).2.2.2⟩
          rcases first_bad A B C D n with h | ⟨j, hj, h1, h2⟩
          · have hm := acc_box hpos h
            have hall := (allBox_iff A B C D n).1 h
            obtain ⟨k1, g1, e1⟩ := accMin_one A n hpos
            obtain ⟨k2, g2, e2⟩ := accMin_one B n hpos
            obtain ⟨k3, g3, e3⟩ := accMax_one C n hpos
            obtain ⟨k4, g4, e4⟩ := accMax_one D n hpos
            have U := fun w (g : Gr W w) => c_UnionN n cap A B C D b off w hpos (by omega) _ (hcw w g) (fun j hj _ h2 => (not_all hj h2 h).elim) (fun _ => rfl)
            have in1 : ∀ i, i < n → accMin A n ≤ A i ∧ accMin B n ≤ B i ∧ C i ≤ accMax C n ∧ D i ≤ accMax D n := fun i hi => ⟨accMin_le A n i hi, accMin_le B n i hi, accMax_ge C n i hi, accMax_ge D n i hi⟩
            have bi : ∀ i, i < n → A i ≤ C i ∧ B i ≤ D i := fun i hi => (boxB_iff.1 (hall i hi)).2
            obtain ⟨s, hs⟩ : ∃ s : Nat, (s : Int) = distZ (accMin A n) (accMin B n) (accMax C n) (accMax D n) px py := ⟨_, Int.toNat_of_nonneg (distZ_nonneg _ _ _ _ _ _)⟩
            refine covers_in b off n cap A B C D px py _ _ _ _ W (by omega) (World.block_lt_of_cell? _ _ (hc 0 hpos).1) d1 d2 d3 d4 hc Q U (fun i hi w => ?_) (fun i hi w => ?_) (fun i hi => ⟨_, fun w => c_Has (A i) (B i) (C i) (D i) px py w, fun hh w => ?_⟩) ⟨s, fun w => ?_, fun i hi => ?_⟩ (anyEq_of g1 e1.symm) (anyEq_of g2 e2.symm) (anyEq_of g3 e3.symm) (anyEq_of g4 e4.symm)
            · have := c_Inside (A i) (B i) (C i) (D i) (accMin A n) (accMin B n) (accMax C n) (accMax D n) w
              have e : (boxB (A i) (B i) (C i) (D i) && boxB (accMin A n) (accMin B n) (accMax C n) (accMax D n) && inB (accMin A n) (accMin B n) (accMax C n) (accMax D n) (A i) (B i) && inB (accMin A n) (accMin B n) (accMax C n) (accMax D n) (C i) (D i)) = true := by
                rw [hall i hi, hm]
                simp only [Bool.and_self, Bool.true_and, Bool.and_eq_true, inB_iff]
                have := in1 i hi
                have := bi i hi
                omega
              rw [e] at this
              exact this
            · have := c_Meets (A i) (B i) (C i) (D i) (accMin A n) (accMin B n) (accMax C n) (accMax D n) w
              have q1 := in1 i hi
              have q2 := bi i hi
              rw [hall i hi, hm, decide_eq_true (show A i ≤ accMax C n by omega), decide_eq_true (show accMin A n ≤ C i by omega), decide_eq_true (show B i ≤ accMax D n by omega), decide_eq_true (show accMin B n ≤ D i by omega)] at this
              exact this
            · have := c_Has (accMin A n) (accMin B n) (accMax C n) (accMax D n) px py w
              have e : (boxB (accMin A n) (accMin B n) (accMax C n) (accMax D n) && nearB px py && inB (accMin A n) (accMin B n) (accMax C n) (accMax D n) px py) = true := by
                rw [hm, np]
                simp only [Bool.and_self, Bool.true_and, inB_iff]
                rw [hall i hi, np] at hh
                simp only [Bool.and_self, Bool.true_and, inB_iff] at hh
                have := in1 i hi
                omega
              rw [e] at this
              exact this
            · rw [hs]
              exact c_Dist _ _ _ _ px py w ⟨hm, np⟩
            · obtain ⟨t, ht⟩ : ∃ t : Nat, (t : Int) = distZ (A i) (B i) (C i) (D i) px py := ⟨_, Int.toNat_of_nonneg (distZ_nonneg _ _ _ _ _ _)⟩
              have mono := distZ_mono (px := px) (py := py) (bi i hi) (in1 i hi).1 (in1 i hi).2.1 (in1 i hi).2.2.1 (in1 i hi).2.2.2
              rw [← hs, ← ht] at mono
              have dbound : ∀ a b c d : Int, boxB a b c d = true → distZ a b c d px py ≤ 9223372019674906632 := by
                intro a b c d hbx
                have n1 := nearB_iff.1 (boxB_iff.1 hbx).1.1
                have n2 := nearB_iff.1 (boxB_iff.1 hbx).1.2
                have n3 := nearB_iff.1 np
                have n4 := (boxB_iff.1 hbx).2
                have y1 := bey_near (lo := a) (hi := c) (v := px) n4.1 ⟨n1.1, n1.2.1⟩ ⟨n2.1, n2.2.1⟩ ⟨n3.1, n3.2.1⟩
                have y2 := bey_near (lo := b) (hi := d) (v := py) n4.2 n1.2.2 n2.2.2 n3.2.2
                have z1 := mul_near y1 y1
                have z2 := mul_near y2 y2
                unfold distZ
                omega
              have t1 := dbound _ _ _ _ (hall i hi)
              have K := c_rCompareDist 0 s 1 0 t 1 (by unfold Wd; omega) (by unfold Wd; omega) (by unfold Wd; omega) (by unfold Wd; omega) (by unfold Wd; omega) (by unfold Wd; omega)
              have v1 : val 0 s = s := by unfold val; omega
              have v2 : val 0 t = t := by unfold val; omega
              rw [v1, v2] at K
              unfold cmpD at K
              rw [if_neg (by omega), if_neg (by omega), Nat.mul_one, Nat.mul_one] at K
              refine ⟨t, _, fun w => ?_, K, ?_⟩
              · rw [ht]
                exact c_Dist _ _ _ _ px py w ⟨hall i hi, np⟩
              · rcases Nat.lt_or_eq_of_le (show s ≤ t by omega) with g | g
                · rw [cmpN_lt g]; rfl
                · rw [cmpN_eq g]; rfl
          · obtain ⟨z, hz, e1, e2⟩ := boxErr_code h2
            exact covers_err _ n cap px py 0 0 0 0 z W d1 d2 d3 d4 Q (fun w g => c_UnionN n cap A B C D b off w hpos (by omega) _ (hcw w g) (fun i hi h3 h4 => by obtain rfl := bad_one h1 h2 h3 h4; rw [e1]) (fun h => (not_all hj h2 h).elim))
end Go.Proofs.Ythjhhnolkiejpaa
