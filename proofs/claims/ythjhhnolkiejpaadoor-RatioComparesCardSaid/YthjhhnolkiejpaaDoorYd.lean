/- RatioCompares: the document's own text of any distance, the walk -/
import Derived.Test.YthjhhnolkiejpaaDoorYa
import Derived.Test.YthjhhnolkiejpaaDoorVo
import Derived.Test.YthjhhnolkiejpaaDoorVf
import Derived.Test.YthjhhnolkiejpaaDoorVm
import Derived.Test.YthjhhnolkiejpaaDoorVh
import Derived.Test.YthjhhnolkiejpaaDoorRl
namespace Go.Proofs.YthjhhnolkiejpaaDoor
set_option linter.unusedVariables false
open Go.ChangeShapes Go.WideShapes Go.ChangeAt Go.RowKit

theorem ba_app3 (a b : List UInt8) : ((⟨a.toArray⟩ : ByteArray) ++ (⟨#[47]⟩ : ByteArray)) ++ ⟨b.toArray⟩ = ⟨(a ++ 47 :: b).toArray⟩ := by
  rw [show (⟨#[47]⟩ : ByteArray) = ⟨[(47 : UInt8)].toArray⟩ from rfl, ba_append, ba_append, List.append_assoc]
  rfl
theorem c_rTextDist (h l d : Nat) (h1 : Wd h) (h2 : Wd l) (h3 : Wd d) (W : World) :
    Calls Tryd.prog 29 #[.agg #[.int .u64 h, .int .u64 l, .int .u64 d]] W fun e w' => e = .returned (.string ⟨(txtD (val h l) d).toArray⟩) ∧ Gr W w' := by
  unfold txtD
  by_cases hd : d = 0
  · subst hd
    rw [if_pos rfl]
    exact c_rTextDist0 h l W
  · rw [if_neg hd]
    have hn : val h l < 340282366920938463463374607431768211456 := by unfold val Wd at *; omega
    have hN : lowN (val h l) d ≤ val h l := Nat.div_le_self _ _
    have hD : lowD (val h l) d ≤ d := Nat.div_le_self _ _
    obtain ⟨x, ex⟩ : ∃ x, x = lowN (val h l) d := ⟨_, rfl⟩
    obtain ⟨y, ey⟩ : ∃ y, y = lowD (val h l) d := ⟨_, rfl⟩
    have L := c_Lowest h l d h1 h2 h3 hd
    unfold txt
    rw [← ex] at hN
    rw [← ey] at hD
    rw [← ex, ← ey] at L
    rw [← ex, ← ey]
    have wy : Wd y := by unfold Wd at *; omega
    have wa : Wd (x / 18446744073709551616) := by unfold Wd; omega
    have wb : Wd (x % 18446744073709551616) := by unfold Wd; omega
    have ev : val (x / 18446744073709551616) (x % 18446744073709551616) = x := by unfold val; omega
    have T1 := fun w => c_rText (x / 18446744073709551616) (x % 18446744073709551616) wa wb w
    rw [ev] at T1
    have T2 := fun w => c_rText 0 y (by unfold Wd; omega) wy w
    rw [val_zero] at T2
    have lx : (⟨(Lib.decDigits x).toArray⟩ : ByteArray).size ≤ 100 := by
      show (Lib.decDigits x).toArray.size ≤ 100
      rw [List.size_toArray, Lib.decDigits_length]
      have := nDig_le (r := x) (k := 39) (by omega) (by omega)
      omega
    have ly : (⟨(Lib.decDigits y).toArray⟩ : ByteArray).size ≤ 100 := by
      show (Lib.decDigits y).toArray.size ≤ 100
      rw [List.size_toArray, Lib.decDigits_length]
      have := nDig_le (r := y) (k := 39) (by omega) (by unfold Wd at wy; omega)
      omega
    have C := td_core h l d (x / 18446744073709551616) (x % 18446744073709551616) y _ _ W hd lx ly (fun w => L w) (fun w _ => T1 w) (fun w _ => T2 w)
    rw [ba_app3] at C
    refine C.mono ?_
    rintro e w' ⟨rfl, hg⟩
    refine ⟨?_, hg⟩
    split <;> rfl

set_option maxRecDepth 100000 in
theorem comps_long (ah al ad bh bl bd n cap : Nat) (a0 : Option Addr) (i j : Int) (W : World) (hs : decide (100 < (n : Int)) = true) (hs2 : decide (100 < n) = true) (hp : Lib.TabIs Tryd.prog W "internal/strconv.uint64pow10" .u64 Lib.pow10Tab) :
    Calls Tryd.prog 5 #[.agg #[.int .u64 ah, .int .u64 al, .int .u64 ad], .agg #[.int .u64 bh, .int .u64 bl, .int .u64 bd], .slice a0 n cap, .int .i64 i, .int .i64 j] W fun e w' => e = .returned (.bool true) ∧ Gr W w' := by
  have HAW := Lib.hid (fun w (gr : Gr W w) => p2_awake w (tab_below hp gr))
  clear hp
  go_enter Tryd.func5, Tryd.ntmps5
  go_wp2_with fail
  go_at_call 25
  refine ((HAW.out _ (by go_grown))).mono ?_
  rintro e w1 ⟨rfl, hw1⟩
  have gw1 : Gr W w1 := Gr.trans (by go_grown) hw1
  clear hw1
  go_wp2_with fail
  go_ret
  exact ⟨rfl, gw1⟩
set_option maxHeartbeats 20000000 in
set_option maxRecDepth 100000 in
theorem comps_core (ah al ad bh bl bd n cap : Nat) (H L D : Nat → Nat) (a0 : Option Addr) (b off : Nat) (ha : 0 < n → a0 = some ⟨b, off, none⟩) (i0 j0 : Int) (sb z : Bool) (k0 : Int) (t : ByteArray) (W : World) (hn : n ≤ 100)
    (hs : decide (100 < (n : Int)) = false) (hs2 : decide (100 < n) = false)
    (hw : ∀ k, k < n → Wd (H k) ∧ Wd (L k) ∧ Wd (D k))
    (hc : ∀ k, k < n → W.cell? ⟨b, off + k * 3, none⟩ = some (.int .u64 (H k)) ∧ W.cell? ⟨b, off + k * 3 + 1, none⟩ = some (.int .u64 (L k)) ∧ W.cell? ⟨b, off + k * 3 + 2, none⟩ = some (.int .u64 (D k)))
    (hp : Lib.TabIs Tryd.prog W "internal/strconv.uint64pow10" .u64 Lib.pow10Tab)
    (e1 : ((ad : Int) != 0) = sb) (e2 : ((ad : Int) == 0) = !sb)
    (A1 : ∀ w, Calls Tryd.prog 27 #[.agg #[.int .u64 ah, .int .u64 al, .int .u64 ad], .agg #[.int .u64 bh, .int .u64 bl, .int .u64 bd]] w fun e w' => e = .returned (.int .i64 k0) ∧ Gr w w')
    (A2 : ∀ w, Calls Tryd.prog 26 #[.agg #[.int .u64 ah, .int .u64 al, .int .u64 ad], .agg #[.int .u64 bh, .int .u64 bl, .int .u64 bd]] w fun e w' => e = .returned (.int .i64 k0) ∧ Gr w w')
    (A3 : ∀ w, Gr W w → Calls Tryd.prog 28 #[.agg #[.int .u64 ah, .int .u64 al, .int .u64 ad]] w fun e w' => e = .returned (.string t) ∧ Gr w w')
    (A4 : ∀ w, Calls Tryd.prog 29 #[.agg #[.int .u64 ah, .int .u64 al, .int .u64 ad]] w fun e w' => e = .returned (.string t) ∧ Gr w w')
    (A5 : ∀ w, Calls Tryd.prog 31 #[.agg #[.int .i64 i0, .int .u64 ah, .int .u64 al, .int .u64 ad], .agg #[.int .i64 j0, .int .u64 bh, .int .u64 bl, .int .u64 bd]] w fun e w' => e = .returned (.bool z) ∧ Gr w w')
    (A6 : ∀ w, Calls Tryd.prog 32 #[.agg #[.int .i64 i0, .int .u64 ah, .int .u64 al, .int .u64 ad], .agg #[.int .i64 j0, .int .u64 bh, .int .u64 bl, .int .u64 bd]] w fun e w' => e = .returned (.bool z) ∧ Gr w w')
    (A7 : ∀ w, Calls Tryd.prog 33 #[.agg #[.int .u64 ah, .int .u64 al, .int .u64 ad]] w fun e w' => e = .returned (.bool sb) ∧ Gr w w') :
    Calls Tryd.prog 5 #[.agg #[.int .u64 ah, .int .u64 al, .int .u64 ad], .agg #[.int .u64 bh, .int .u64 bl, .int .u64 bd], .slice a0 n cap, .int .i64 i0, .int .i64 j0] W fun e w' => e = .returned (.bool true) ∧ Gr W w' := by
  have HAW := Lib.hid (fun w (gr : Gr W w) => p2_awake w (tab_below hp gr))
  have HMIN := Lib.hid (show ∀ w, Gr W w → Calls Tryd.prog 30 #[.slice a0 n cap] w fun e w' => e = .returned (.agg #[.int .u64 (curI H L D H n), .int .u64 (curI H L D L n), .int .u64 (curI H L D D n)]) ∧ Gr w w' by
    intro w gr
    exact c_Min n cap H L D a0 b off ha w (by omega) hw (fun k hk => ⟨cell_gr gr (hc k hk).1, cell_gr gr (hc k hk).2.1, cell_gr gr (hc k hk).2.2⟩))
  have HC := Lib.hid hc
  have HW := Lib.hid hw
  have HA := Lib.hid ha
  have HN := Lib.hid hn
  clear hp hc hw ha hn
  have H1 := Lib.hid A1
  have H2 := Lib.hid A2
  have H3 := Lib.hid A3
  have H4 := Lib.hid A4
  have H5 := Lib.hid A5
  have H6 := Lib.hid A6
  have H7 := Lib.hid A7
  clear A1 A2 A3 A4 A5 A6 A7
  go_enter Tryd.func5, Tryd.ntmps5
  go_wp2_with fail
  go_loopg [12] n (fun k v wr => ∃ i : Nat, i + k = n ∧ v = .int .i64 i ∧ wr.cell? ⟨W.heap.size, 0, none⟩ = some (.int .u64 ah) ∧ wr.cell? ⟨W.heap.size, 1, none⟩ = some (.int .u64 al) ∧ wr.cell? ⟨W.heap.size, 2, none⟩ = some (.int .u64 ad) ∧ wr.cell? ⟨W.heap.size + 1, 0, none⟩ = some (.int .u64 bh) ∧ wr.cell? ⟨W.heap.size + 1, 1, none⟩ = some (.int .u64 bl) ∧ wr.cell? ⟨W.heap.size + 1, 2, none⟩ = some (.int .u64 bd) ∧ wr.cell? ⟨W.heap.size + 1 + 1, 0, none⟩ = some (.int .u64 (curI H L D H i)) ∧ wr.cell? ⟨W.heap.size + 1 + 1, 1, none⟩ = some (.int .u64 (curI H L D L i)) ∧ wr.cell? ⟨W.heap.size + 1 + 1, 2, none⟩ = some (.int .u64 (curI H L D D i)) ∧ wr.frozen? ⟨W.heap.size + 1 + 1, 0, none⟩ = false ∧ wr.frozen? ⟨W.heap.size + 1 + 1, 1, none⟩ = false ∧ wr.frozen? ⟨W.heap.size + 1 + 1, 2, none⟩ = false ∧ Gr W wr)
  case atStart => exact ⟨0, by omega, rfl, by go_simp, by go_simp, by go_simp, by go_simp, by go_simp, by go_simp, by unfold curI; go_simp, by unfold curI; go_simp, by unfold curI; go_simp, by go_simp, by go_simp, by go_simp, by go_grown⟩
  case round =>
    obtain ⟨i, hk, rfl, x0, x1, x2, y0, y1, y2, a0', a1', a2', g0, g1, g2, gwr⟩ := hrel
    have zwr := World.block_lt_of_cell? _ _ a0'
    by_cases hin : i < n
    · obtain rfl := HA.out (by omega)
      have ti : decide ((i : Int) < (n : Int)) = true := decide_eq_true (by omega)
      have ti2 : decide (i < n) = true := decide_eq_true hin
      have ti3 : (i : Int) < (n : Int) := by omega
      have bnd : (i : Int) + 1 ≤ 200 := by have := HN.out; omega
      have hblt := World.block_lt_of_cell? _ _ (HC.out i hin).1
      have s0 := cell_gr gwr (HC.out i hin).1
      have s1 := cell_gr gwr (HC.out i hin).2.1
      have s2 := cell_gr gwr (HC.out i hin).2.2
      obtain ⟨xa, ea⟩ : ∃ x, x = curI H L D H i := ⟨_, rfl⟩
      obtain ⟨xb, eb⟩ : ∃ x, x = curI H L D L i := ⟨_, rfl⟩
      obtain ⟨xc, ec⟩ : ∃ x, x = curI H L D D i := ⟨_, rfl⟩
      obtain ⟨ya, fa⟩ : ∃ x, x = H i := ⟨_, rfl⟩
      obtain ⟨yb, fb⟩ : ∃ x, x = L i := ⟨_, rfl⟩
      obtain ⟨yc, fc⟩ : ∃ x, x = D i := ⟨_, rfl⟩
      rw [← ea] at a0'
      rw [← eb] at a1'
      rw [← ec] at a2'
      rw [← fa] at s0
      rw [← fb] at s1
      rw [← fc] at s2
      by_cases h0 : i = 0
      · have z1 : ((i : Int) == 0) = true := by simp; omega
        have z2 : (i == 0) = true := by simp; omega
        have EJ : curI H L D H (i + 1) = ya ∧ curI H L D L (i + 1) = yb ∧ curI H L D D (i + 1) = yc := by rw [fa, fb, fc, h0]; exact ⟨cur_one .., cur_one .., cur_one ..⟩
        have E := Lib.hid EJ
        clear EJ h0
        have HF := Lib.hid (And.intro fa (And.intro fb fc))
        clear ea eb ec fa fb fc
        go_wp2_with fail
        refine wp_region_spread (by kernel_rfl) (by kernel_rfl) ?_
        try simp only [List.append]
        repeat (first | go_big_quiet_skip | (go_big_quiet_want; go_big_quiet_op; (first | go_big_quiet_on | (apply Exists.intro; refine ⟨fun _ => ?_, ?_⟩; (· fail); go_big_quiet_on))))
        refine wpQuiet_nil ?_
        intro w1 hhw1
        have hw1 := Hd.gr_of_spread hhw1
        have cw1_0_0 : w1.cell? ⟨W.heap.size, 0, none⟩ = some (.int .u64 ah) := cell_gr hw1 (by go_simp)
        have cw1_0_1 : w1.cell? ⟨W.heap.size, 1, none⟩ = some (.int .u64 al) := cell_gr hw1 (by go_simp)
        have cw1_0_2 : w1.cell? ⟨W.heap.size, 2, none⟩ = some (.int .u64 ad) := cell_gr hw1 (by go_simp)
        have zw1_0 : W.heap.size < w1.heap.size := World.block_lt_of_cell? _ _ cw1_0_0
        have cw1_1_0 : w1.cell? ⟨W.heap.size + 1, 0, none⟩ = some (.int .u64 bh) := cell_gr hw1 (by go_simp)
        have cw1_1_1 : w1.cell? ⟨W.heap.size + 1, 1, none⟩ = some (.int .u64 bl) := cell_gr hw1 (by go_simp)
        have cw1_1_2 : w1.cell? ⟨W.heap.size + 1, 2, none⟩ = some (.int .u64 bd) := cell_gr hw1 (by go_simp)
        have zw1_1 : W.heap.size + 1 < w1.heap.size := World.block_lt_of_cell? _ _ cw1_1_0
        have cw1_2_0 : w1.cell? ⟨W.heap.size + 1 + 1, 0, none⟩ = some (.int .u64 xa) := cell_gr hw1 (by go_simp)
        have fw1_2_0 : w1.frozen? ⟨W.heap.size + 1 + 1, 0, none⟩ = false := frozen_gr (v := .int .u64 xa) hw1 (by go_simp) (by go_simp)
        have cw1_2_1 : w1.cell? ⟨W.heap.size + 1 + 1, 1, none⟩ = some (.int .u64 xb) := cell_gr hw1 (by go_simp)
        have fw1_2_1 : w1.frozen? ⟨W.heap.size + 1 + 1, 1, none⟩ = false := frozen_gr (v := .int .u64 xb) hw1 (by go_simp) (by go_simp)
        have cw1_2_2 : w1.cell? ⟨W.heap.size + 1 + 1, 2, none⟩ = some (.int .u64 xc) := cell_gr hw1 (by go_simp)
        have fw1_2_2 : w1.frozen? ⟨W.heap.size + 1 + 1, 2, none⟩ = false := frozen_gr (v := .int .u64 xc) hw1 (by go_simp) (by go_simp)
        have zw1_2 : W.heap.size + 1 + 1 < w1.heap.size := World.block_lt_of_cell? _ _ cw1_2_0
        have gw1 : Gr W w1 := Gr.trans (by have gg := gwr; have gs := gg.size; go_grown) hw1
        clear hw1 hhw1 gwr
        clear s0 s1 s2
        have s0 := cell_gr gw1 (HC.out i hin).1
        have s1 := cell_gr gw1 (HC.out i hin).2.1
        have s2 := cell_gr gw1 (HC.out i hin).2.2
        rw [← HF.out.1] at s0
        rw [← HF.out.2.1] at s1
        rw [← HF.out.2.2] at s2
        go_wp2_with fail
        go_roundg (n - (i + 1))
        case measure => omega
        case rel => exact ⟨i + 1, by omega, by go_num, by go_simp, by go_simp, by go_simp, by go_simp, by go_simp, by go_simp, by rw [E.out.1]; go_simp, by rw [E.out.2.1]; go_simp, by rw [E.out.2.2]; go_simp, by go_simp, by go_simp, by go_simp, by have gg := gw1; have gs := gg.size; go_grown⟩
      · have z1 : ((i : Int) == 0) = false := by simp; omega
        have z2 : (i == 0) = false := by simp; omega
        have hwi := HW.out i hin
        have bl : bestI H L D i < n := by
          obtain ⟨m, rfl⟩ : ∃ m, i = m + 1 := ⟨i - 1, by omega⟩
          have := best_lt H L D m
          omega
        have hwb := HW.out _ bl
        have CM := fun w => c_rCompareDist (H i) (L i) (D i) xa xb xc hwi.1 hwi.2.1 hwi.2.2 (by rw [ea]; unfold curI; rw [if_neg h0]; exact hwb.1) (by rw [eb]; unfold curI; rw [if_neg h0]; exact hwb.2.1) (by rw [ec]; unfold curI; rw [if_neg h0]; exact hwb.2.2) w
        have ek : cmpD (val (H i) (L i)) (D i) (val xa xb) xc = cmpI H L D i (bestI H L D i) := by
          rw [ea, eb, ec]; unfold cmpI curI; rw [if_neg h0, if_neg h0, if_neg h0]
        rw [ek, ← fa, ← fb, ← fc] at CM
        have HY := Lib.hid (And.intro ea (And.intro eb ec))
        have HF := Lib.hid (And.intro fa (And.intro fb fc))
        by_cases hlt : cmpI H L D i (bestI H L D i) < 0
        · have EJ := And.intro (cur_less (F := H) h0 hlt) (And.intro (cur_less (F := L) h0 hlt) (cur_less (F := D) h0 hlt))
          rw [← fa, ← fb, ← fc] at EJ
          have E := Lib.hid EJ
          obtain ⟨k', ek'⟩ : ∃ k', k' = cmpI H L D i (bestI H L D i) := ⟨_, rfl⟩
          rw [← ek'] at CM hlt
          have tk : decide (k' < 0) = true := decide_eq_true hlt
          have H9 := Lib.hid CM
          clear CM ek' EJ hlt ea eb ec fa fb fc hwi hwb ek bl
          go_wp2_with fail
          refine wp_region_spread (by kernel_rfl) (by kernel_rfl) ?_
          try simp only [List.append]
          repeat (first | go_big_quiet_skip | (go_big_quiet_want; go_big_quiet_op; (first | go_big_quiet_on | (apply Exists.intro; refine ⟨fun _ => ?_, ?_⟩; (· (first | (go_at_call 26; first | ((with_reducible refine ((H9.out _)).mono ?_); rintro e w' ⟨rfl, hg⟩; exact ⟨rfl, spread_gr hg⟩)))); go_big_quiet_on))))
          refine wpQuiet_nil ?_
          intro w1 hhw1
          have hw1 := Hd.gr_of_spread hhw1
          have cw1_0_0 : w1.cell? ⟨W.heap.size, 0, none⟩ = some (.int .u64 ah) := cell_gr hw1 (by go_simp)
          have cw1_0_1 : w1.cell? ⟨W.heap.size, 1, none⟩ = some (.int .u64 al) := cell_gr hw1 (by go_simp)
          have cw1_0_2 : w1.cell? ⟨W.heap.size, 2, none⟩ = some (.int .u64 ad) := cell_gr hw1 (by go_simp)
          have zw1_0 : W.heap.size < w1.heap.size := World.block_lt_of_cell? _ _ cw1_0_0
          have cw1_1_0 : w1.cell? ⟨W.heap.size + 1, 0, none⟩ = some (.int .u64 bh) := cell_gr hw1 (by go_simp)
          have cw1_1_1 : w1.cell? ⟨W.heap.size + 1, 1, none⟩ = some (.int .u64 bl) := cell_gr hw1 (by go_simp)
          have cw1_1_2 : w1.cell? ⟨W.heap.size + 1, 2, none⟩ = some (.int .u64 bd) := cell_gr hw1 (by go_simp)
          have zw1_1 : W.heap.size + 1 < w1.heap.size := World.block_lt_of_cell? _ _ cw1_1_0
          have cw1_2_0 : w1.cell? ⟨W.heap.size + 1 + 1, 0, none⟩ = some (.int .u64 xa) := cell_gr hw1 (by go_simp)
          have fw1_2_0 : w1.frozen? ⟨W.heap.size + 1 + 1, 0, none⟩ = false := frozen_gr (v := .int .u64 xa) hw1 (by go_simp) (by go_simp)
          have cw1_2_1 : w1.cell? ⟨W.heap.size + 1 + 1, 1, none⟩ = some (.int .u64 xb) := cell_gr hw1 (by go_simp)
          have fw1_2_1 : w1.frozen? ⟨W.heap.size + 1 + 1, 1, none⟩ = false := frozen_gr (v := .int .u64 xb) hw1 (by go_simp) (by go_simp)
          have cw1_2_2 : w1.cell? ⟨W.heap.size + 1 + 1, 2, none⟩ = some (.int .u64 xc) := cell_gr hw1 (by go_simp)
          have fw1_2_2 : w1.frozen? ⟨W.heap.size + 1 + 1, 2, none⟩ = false := frozen_gr (v := .int .u64 xc) hw1 (by go_simp) (by go_simp)
          have zw1_2 : W.heap.size + 1 + 1 < w1.heap.size := World.block_lt_of_cell? _ _ cw1_2_0
          have gw1 : Gr W w1 := Gr.trans (by have gg := gwr; have gs := gg.size; go_grown) hw1
          clear hw1 hhw1 gwr
          clear s0 s1 s2
          have s0 := cell_gr gw1 (HC.out i hin).1
          have s1 := cell_gr gw1 (HC.out i hin).2.1
          have s2 := cell_gr gw1 (HC.out i hin).2.2
          rw [← HF.out.1] at s0
          rw [← HF.out.2.1] at s1
          rw [← HF.out.2.2] at s2
          go_wp2_with fail
          go_roundg (n - (i + 1))
          case measure => omega
          case rel => exact ⟨i + 1, by omega, by go_num, by go_simp, by go_simp, by go_simp, by go_simp, by go_simp, by go_simp, by rw [E.out.1]; go_simp, by rw [E.out.2.1]; go_simp, by rw [E.out.2.2]; go_simp, by go_simp, by go_simp, by go_simp, by have gg := gw1; have gs := gg.size; go_grown⟩
        · have E := Lib.hid (And.intro (cur_not (F := H) h0 hlt) (And.intro (cur_not (F := L) h0 hlt) (cur_not (F := D) h0 hlt)))
          obtain ⟨k', ek'⟩ : ∃ k', k' = cmpI H L D i (bestI H L D i) := ⟨_, rfl⟩
          rw [← ek'] at CM hlt
          have tk : decide (k' < 0) = false := decide_eq_false hlt
          have H9 := Lib.hid CM
          clear CM ek' hlt ea eb ec fa fb fc hwi hwb ek bl
          go_wp2_with fail
          refine wp_region_spread (by kernel_rfl) (by kernel_rfl) ?_
          try simp only [List.append]
          repeat (first | go_big_quiet_skip | (go_big_quiet_want; go_big_quiet_op; (first | go_big_quiet_on | (apply Exists.intro; refine ⟨fun _ => ?_, ?_⟩; (· (first | (go_at_call 26; first | ((with_reducible refine ((H9.out _)).mono ?_); rintro e w' ⟨rfl, hg⟩; exact ⟨rfl, spread_gr hg⟩)))); go_big_quiet_on))))
          refine wpQuiet_nil ?_
          intro w1 hhw1
          have hw1 := Hd.gr_of_spread hhw1
          have cw1_0_0 : w1.cell? ⟨W.heap.size, 0, none⟩ = some (.int .u64 ah) := cell_gr hw1 (by go_simp)
          have cw1_0_1 : w1.cell? ⟨W.heap.size, 1, none⟩ = some (.int .u64 al) := cell_gr hw1 (by go_simp)
          have cw1_0_2 : w1.cell? ⟨W.heap.size, 2, none⟩ = some (.int .u64 ad) := cell_gr hw1 (by go_simp)
          have zw1_0 : W.heap.size < w1.heap.size := World.block_lt_of_cell? _ _ cw1_0_0
          have cw1_1_0 : w1.cell? ⟨W.heap.size + 1, 0, none⟩ = some (.int .u64 bh) := cell_gr hw1 (by go_simp)
          have cw1_1_1 : w1.cell? ⟨W.heap.size + 1, 1, none⟩ = some (.int .u64 bl) := cell_gr hw1 (by go_simp)
          have cw1_1_2 : w1.cell? ⟨W.heap.size + 1, 2, none⟩ = some (.int .u64 bd) := cell_gr hw1 (by go_simp)
          have zw1_1 : W.heap.size + 1 < w1.heap.size := World.block_lt_of_cell? _ _ cw1_1_0
          have cw1_2_0 : w1.cell? ⟨W.heap.size + 1 + 1, 0, none⟩ = some (.int .u64 xa) := cell_gr hw1 (by go_simp)
          have fw1_2_0 : w1.frozen? ⟨W.heap.size + 1 + 1, 0, none⟩ = false := frozen_gr (v := .int .u64 xa) hw1 (by go_simp) (by go_simp)
          have cw1_2_1 : w1.cell? ⟨W.heap.size + 1 + 1, 1, none⟩ = some (.int .u64 xb) := cell_gr hw1 (by go_simp)
          have fw1_2_1 : w1.frozen? ⟨W.heap.size + 1 + 1, 1, none⟩ = false := frozen_gr (v := .int .u64 xb) hw1 (by go_simp) (by go_simp)
          have cw1_2_2 : w1.cell? ⟨W.heap.size + 1 + 1, 2, none⟩ = some (.int .u64 xc) := cell_gr hw1 (by go_simp)
          have fw1_2_2 : w1.frozen? ⟨W.heap.size + 1 + 1, 2, none⟩ = false := frozen_gr (v := .int .u64 xc) hw1 (by go_simp) (by go_simp)
          have zw1_2 : W.heap.size + 1 + 1 < w1.heap.size := World.block_lt_of_cell? _ _ cw1_2_0
          have gw1 : Gr W w1 := Gr.trans (by have gg := gwr; have gs := gg.size; go_grown) hw1
          clear hw1 hhw1 gwr
          go_wp2_with fail
          go_roundg (n - (i + 1))
          case measure => omega
          case rel => exact ⟨i + 1, by omega, by go_num, by go_simp, by go_simp, by go_simp, by go_simp, by go_simp, by go_simp, by rw [E.out.1, ← HY.out.1]; go_simp, by rw [E.out.2.1, ← HY.out.2.1]; go_simp, by rw [E.out.2.2, ← HY.out.2.2]; go_simp, by go_simp, by go_simp, by go_simp, by have gg := gw1; have gs := gg.size; go_grown⟩
    · obtain rfl : i = n := by omega
      obtain ⟨xa, ea⟩ : ∃ x, x = curI H L D H i := ⟨_, rfl⟩
      obtain ⟨xb, eb⟩ : ∃ x, x = curI H L D L i := ⟨_, rfl⟩
      obtain ⟨xc, ec⟩ : ∃ x, x = curI H L D D i := ⟨_, rfl⟩
      rw [← ea] at a0'
      rw [← eb] at a1'
      rw [← ec] at a2'
      have hM := HMIN.out
      rw [← ea, ← eb, ← ec] at hM
      have H9 := Lib.hid hM
      have zx := World.block_lt_of_cell? _ _ x0
      have zy := World.block_lt_of_cell? _ _ y0
      have te : decide ((i : Int) < (i : Int)) = false := decide_eq_false (by omega)
      have te2 : decide (i < i) = false := decide_eq_false (by omega)
      clear hM ea eb ec HC HW HA HN HMIN hk hin
      go_wp2_with fail
      generalize hhw1 : ((wr.alloc (.cells #[.int .i64 i0, .int .u64 ah, .int .u64 al, .int .u64 ad] 51)).alloc (.cells #[.int .i64 j0, .int .u64 bh, .int .u64 bl, .int .u64 bd] 51)) = w1
      have cw1_0_0 : w1.cell? ⟨W.heap.size, 0, none⟩ = some (.int .u64 ah) := by subst hhw1; go_simp
      have cw1_0_1 : w1.cell? ⟨W.heap.size, 1, none⟩ = some (.int .u64 al) := by subst hhw1; go_simp
      have cw1_0_2 : w1.cell? ⟨W.heap.size, 2, none⟩ = some (.int .u64 ad) := by subst hhw1; go_simp
      have zw1_0 : W.heap.size < w1.heap.size := World.block_lt_of_cell? _ _ cw1_0_0
      have cw1_1_0 : w1.cell? ⟨W.heap.size + 1, 0, none⟩ = some (.int .u64 bh) := by subst hhw1; go_simp
      have cw1_1_1 : w1.cell? ⟨W.heap.size + 1, 1, none⟩ = some (.int .u64 bl) := by subst hhw1; go_simp
      have cw1_1_2 : w1.cell? ⟨W.heap.size + 1, 2, none⟩ = some (.int .u64 bd) := by subst hhw1; go_simp
      have zw1_1 : W.heap.size + 1 < w1.heap.size := World.block_lt_of_cell? _ _ cw1_1_0
      have cw1_2_0 : w1.cell? ⟨W.heap.size + 1 + 1, 0, none⟩ = some (.int .u64 xa) := by subst hhw1; go_simp
      have fw1_2_0 : w1.frozen? ⟨W.heap.size + 1 + 1, 0, none⟩ = false := by subst hhw1; go_simp
      have cw1_2_1 : w1.cell? ⟨W.heap.size + 1 + 1, 1, none⟩ = some (.int .u64 xb) := by subst hhw1; go_simp
      have fw1_2_1 : w1.frozen? ⟨W.heap.size + 1 + 1, 1, none⟩ = false := by subst hhw1; go_simp
      have cw1_2_2 : w1.cell? ⟨W.heap.size + 1 + 1, 2, none⟩ = some (.int .u64 xc) := by subst hhw1; go_simp
      have fw1_2_2 : w1.frozen? ⟨W.heap.size + 1 + 1, 2, none⟩ = false := by subst hhw1; go_simp
      have zw1_2 : W.heap.size + 1 + 1 < w1.heap.size := World.block_lt_of_cell? _ _ cw1_2_0
      have cw1_3_0 : w1.cell? ⟨wr.heap.size, 0, none⟩ = some (.int .i64 i0) := by subst hhw1; go_simp
      have cw1_3_1 : w1.cell? ⟨wr.heap.size, 1, none⟩ = some (.int .u64 ah) := by subst hhw1; go_simp
      have cw1_3_2 : w1.cell? ⟨wr.heap.size, 2, none⟩ = some (.int .u64 al) := by subst hhw1; go_simp
      have cw1_3_3 : w1.cell? ⟨wr.heap.size, 3, none⟩ = some (.int .u64 ad) := by subst hhw1; go_simp
      have zw1_3 : wr.heap.size < w1.heap.size := World.block_lt_of_cell? _ _ cw1_3_0
      have cw1_4_0 : w1.cell? ⟨wr.heap.size + 1, 0, none⟩ = some (.int .i64 j0) := by subst hhw1; go_simp
      have cw1_4_1 : w1.cell? ⟨wr.heap.size + 1, 1, none⟩ = some (.int .u64 bh) := by subst hhw1; go_simp
      have cw1_4_2 : w1.cell? ⟨wr.heap.size + 1, 2, none⟩ = some (.int .u64 bl) := by subst hhw1; go_simp
      have cw1_4_3 : w1.cell? ⟨wr.heap.size + 1, 3, none⟩ = some (.int .u64 bd) := by subst hhw1; go_simp
      have zw1_4 : wr.heap.size + 1 < w1.heap.size := World.block_lt_of_cell? _ _ cw1_4_0
      have gw1 : Gr W w1 := by subst hhw1; have gg := gwr; have gs := gg.size; go_grown
      clear hhw1 gwr
      go_wp2_with fail
      refine wp_region_spread (by kernel_rfl) (by kernel_rfl) ?_
      try simp only [List.append]
      repeat (first | go_big_quiet_skip | (go_big_quiet_want; go_big_quiet_op; (first | go_big_quiet_on | (apply Exists.intro; refine ⟨fun _ => ?_, ?_⟩; (· (first | (go_at_call 27; first | ((with_reducible refine ((H1.out _)).mono ?_); rintro e w' ⟨rfl, hg⟩; exact ⟨rfl, spread_gr hg⟩)) | (go_at_call 26; first | ((with_reducible refine ((H2.out _)).mono ?_); rintro e w' ⟨rfl, hg⟩; exact ⟨rfl, spread_gr hg⟩)) | (go_at_call 28; first | ((with_reducible refine ((H3.out _ (Gr.trans (by have gg := gw1; have gs := gg.size; go_grown) (gr_spread _ _)))).mono ?_); rintro e w' ⟨rfl, hg⟩; exact ⟨rfl, spread_gr hg⟩)) | (go_at_call 29; first | ((with_reducible refine ((H4.out _)).mono ?_); rintro e w' ⟨rfl, hg⟩; exact ⟨rfl, spread_gr hg⟩)) | (go_at_call 30; first | ((with_reducible refine ((H9.out _ (Gr.trans (by have gg := gw1; have gs := gg.size; go_grown) (gr_spread _ _)))).mono ?_); rintro e w' ⟨rfl, hg⟩; exact ⟨rfl, spread_gr hg⟩)) | (go_at_call 31; first | ((with_reducible refine ((H5.out _)).mono ?_); rintro e w' ⟨rfl, hg⟩; exact ⟨rfl, spread_gr hg⟩)) | (go_at_call 32; first | ((with_reducible refine ((H6.out _)).mono ?_); rintro e w' ⟨rfl, hg⟩; exact ⟨rfl, spread_gr hg⟩)) | (go_at_call 33; first | ((with_reducible refine ((H7.out _)).mono ?_); rintro e w' ⟨rfl, hg⟩; exact ⟨rfl, spread_gr hg⟩)) | (go_at_call 25; first | ((with_reducible refine ((HAW.out _ (Gr.trans (by have gg := gw1; have gs := gg.size; go_grown) (gr_spread _ _)))).mono ?_); rintro e w' ⟨rfl, hg⟩; exact ⟨rfl, spread_gr hg⟩)))); go_big_quiet_on))))
      refine wpQuiet_nil ?_
      intro wr hr
      obtain ⟨mr, rfl⟩ := hr
      go_wp2_with fail
      go_ret
      exact ⟨rfl, Gr.trans (by have gg := gw1; have gs := gg.size; go_grown) (gr_spread _ _)⟩
end Go.Proofs.YthjhhnolkiejpaaDoor
