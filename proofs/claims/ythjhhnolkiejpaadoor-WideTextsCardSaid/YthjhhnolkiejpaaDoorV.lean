/- wide.Parse -/
import Derived.Test.YthjhhnolkiejpaaDoorI
import Derived.Test.YthjhhnolkiejpaaDoorT
import Derived.Test.YthjhhnolkiejpaaDoorN
namespace Go.Proofs.YthjhhnolkiejpaaDoor
set_option linter.unusedVariables false
open Go.ChangeShapes Go.WideShapes Go.ChangeAt Go.RowKit

def p128 : Nat := 340282366920938463463374607431768211456
/-- What Parse hands back. -/
def parsed (o : Option Nat) : Value := match o with
  | some n => .tuple #[.agg #[.int .u64 ((n / 18446744073709551616 : Nat) : Int), .int .u64 ((n % 18446744073709551616 : Nat) : Int)], .bool true]
  | none => .tuple #[.agg #[.int .u64 0, .int .u64 0], .bool false]

def ParseRel (R B : Nat) (s : ByteArray) (W : World) (k : Nat) (iv : Value) (wr : World) : Prop :=
  ∃ (i h l : Nat), Wd h ∧ Wd l ∧ i + k = s.size ∧ iv = .int .i64 (i : Int) ∧ Rd.scan p128 0 s.data.toList = Rd.scan p128 (val h l) (s.data.toList.drop i) ∧
    wr.cell? ⟨B, 0, none⟩ = some (.int .u64 h) ∧ wr.cell? ⟨B, 1, none⟩ = some (.int .u64 l) ∧ wr.frozen? ⟨B, 0, none⟩ = false ∧ wr.frozen? ⟨B, 1, none⟩ = false ∧
    wr.cell? ⟨R, 0, none⟩ = some (.int .u64 0) ∧ wr.cell? ⟨R, 1, none⟩ = some (.int .u64 0) ∧ wr.frozen? ⟨R, 0, none⟩ = false ∧ wr.frozen? ⟨R, 1, none⟩ = false ∧ Gr W wr

theorem scan_at (M n : Nat) (s : ByteArray) (i : Nat) (hi : i < s.size) : Rd.scan M n (s.data.toList.drop i) = if 48 ≤ (s[i]'hi).toNat ∧ (s[i]'hi).toNat ≤ 57 ∧ n * 10 + ((s[i]'hi).toNat - 48) < M then Rd.scan M (n * 10 + ((s[i]'hi).toNat - 48)) (s.data.toList.drop (i + 1)) else none := by
  have hl : i < s.data.toList.length := by simpa using hi
  have e : s.data.toList.drop i = (s[i]'hi) :: s.data.toList.drop (i + 1) := by
    rw [List.drop_eq_getElem_cons hl]
    rfl
  rw [e]
  rfl
theorem scan_end (M n : Nat) (s : ByteArray) (i : Nat) (hi : s.size ≤ i) : Rd.scan M n (s.data.toList.drop i) = some n := by
  rw [List.drop_eq_nil_of_le (by simpa using hi)]
  rfl

theorem scan_go (s : ByteArray) (i : Nat) (hi : i < s.size) {b : UInt8} (hb : b = s[i]) {h l th tl sh sl : Nat} (hd : 48 ≤ b.toNat ∧ b.toNat ≤ 57) (H : 0 = val h l * 10 / p128 ∧ val th tl = val h l * 10 % p128 ∧ false = decide (p128 ≤ val th tl + ((s[i]'hi).toNat - 48)) ∧ val sh sl = (val th tl + ((s[i]'hi).toNat - 48)) % p128) :
    Rd.scan p128 (val h l) (s.data.toList.drop i) = Rd.scan p128 (val sh sl) (s.data.toList.drop (i + 1)) := by
  obtain ⟨g1, g2, g3, g4⟩ := H
  subst hb
  have hp : 0 < p128 := by unfold p128; omega
  have hlt : val h l * 10 < p128 := (Nat.div_eq_zero_iff_lt hp).1 g1.symm
  rw [Nat.mod_eq_of_lt hlt] at g2
  have g5 := of_decide_eq_false g3.symm
  rw [g2] at g5 g4
  rw [Nat.mod_eq_of_lt (by omega)] at g4
  rw [scan_at p128 _ s i hi, if_pos ⟨hd.1, hd.2, by omega⟩, g4]
theorem scan_over (s : ByteArray) (i : Nat) (hi : i < s.size) {b : UInt8} (hb : b = s[i]) {h l th tl sh sl : Nat} (hd : 48 ≤ b.toNat ∧ b.toNat ≤ 57) (H : 0 = val h l * 10 / p128 ∧ val th tl = val h l * 10 % p128 ∧ true = decide (p128 ≤ val th tl + ((s[i]'hi).toNat - 48)) ∧ val sh sl = (val th tl + ((s[i]'hi).toNat - 48)) % p128) :
    Rd.scan p128 (val h l) (s.data.toList.drop i) = none := by
  obtain ⟨g1, g2, g3, g4⟩ := H
  subst hb
  have hp : 0 < p128 := by unfold p128; omega
  have hlt : val h l * 10 < p128 := (Nat.div_eq_zero_iff_lt hp).1 g1.symm
  rw [Nat.mod_eq_of_lt hlt] at g2
  have g5 := of_decide_eq_true g3.symm
  rw [g2] at g5
  rw [scan_at p128 _ s i hi, if_neg (by omega)]
theorem scan_top (s : ByteArray) (i : Nat) (hi : i < s.size) {b : UInt8} (hb : b = s[i]) {h l tp : Nat} {X : Prop} (h0 : ¬ tp = 0) (H : tp = val h l * 10 / p128 ∧ X) :
    Rd.scan p128 (val h l) (s.data.toList.drop i) = none := by
  have hp : 0 < p128 := by unfold p128; omega
  have hge : p128 ≤ val h l * 10 := by
    rcases Nat.lt_or_ge (val h l * 10) p128 with h | h
    · exact absurd (H.1.trans ((Nat.div_eq_zero_iff_lt hp).2 h)) h0
    · exact h
  rw [scan_at p128 _ s i hi, if_neg (by omega)]

set_option maxHeartbeats 1000000 in
set_option maxRecDepth 100000 in
theorem parse_core (s : ByteArray) (w : World) (h0 : s.toList.isEmpty = false) (hz : 0 < s.size) (hs : s.size < 40) (hs2 : decide (39 < (s.size : Int)) = false)
    (hA : decide (1 < (s.size : Int)) = false ∨ (decide (1 < (s.size : Int)) = true ∧ (((s[0]'hz).toNat : Int) == 48) = false))
    (AT : ∀ h l, Wd h → Wd l → ∃ tp th tl, tp = val h l * 10 / p128 ∧ val th tl = val h l * 10 % p128 ∧ Wd th ∧ Wd tl ∧ ∀ w, Calls Tryd.prog 10 #[.agg #[.int .u64 h, .int .u64 l], .int .u64 10] w fun e w' => e = .returned (.tuple #[.int .u64 (tp : Nat), .agg #[.int .u64 (th : Nat), .int .u64 (tl : Nat)]]) ∧ Gr w w')
    (AA : ∀ h l d, Wd h → Wd l → d < 10 → ∃ sh sl ov, ov = decide (p128 ≤ val h l + d) ∧ val sh sl = (val h l + d) % p128 ∧ Wd sh ∧ Wd sl ∧ ∀ w, Calls Tryd.prog 49 #[.agg #[.int .u64 h, .int .u64 l], .agg #[.int .u64 0, .int .u64 d]] w fun e w' => e = .returned (.tuple #[.agg #[.int .u64 (sh : Nat), .int .u64 (sl : Nat)], .bool ov]) ∧ Gr w w') :
    Calls Tryd.prog 21 #[.string s] w fun e w' => e = .returned (parsed (Rd.scan p128 0 s.data.toList)) ∧ Gr w w' := by
  have HT := Lib.hid AT
  have HA := Lib.hid AA
  clear AT AA
  rcases hA with hA | ⟨hA, hB⟩
  all_goals
    go_enter Tryd.func21, Tryd.ntmps21
    go_wp2_with fail
    go_loopg [31] s.size (fun k v wr => ParseRel w.heap.size (w.heap.size + 1) s w k v wr)
    case atStart => exact ⟨0, 0, 0, by unfold Wd; omega, by unfold Wd; omega, by omega, rfl, rfl, by go_simp, by go_simp, by go_simp, by go_simp, by go_simp, by go_simp, by go_simp, by go_simp, by go_grown⟩
    case round =>
      obtain ⟨i, h, l, hh, hl, hik, rfl, hsc, c0, c1, f0, f1, r0, r1, q0, q1, hg⟩ := hrel
      by_cases hi : i < s.size
      · have ti : decide ((i : Int) < (s.size : Int)) = true := decide_eq_true (by omega)
        have ti2 : decide (i < s.size) = true := decide_eq_true hi
        obtain ⟨b, hb⟩ : ∃ b, b = s[i] := ⟨_, rfl⟩
        by_cases hd : 48 ≤ b.toNat ∧ b.toNat ≤ 57
        · have t1 : decide ((b.toNat : Int) < 48) = false := decide_eq_false (by omega)
          have t2 : decide ((57 : Int) < (b.toNat : Int)) = false := decide_eq_false (by omega)
          have t3 : ((b.toNat : Int) - 48) % 256 = ((b.toNat - 48 : Nat) : Int) := by omega
          have t5 : IntKind.u8.wrap ((b.toNat : Int) - 48) = ((b.toNat - 48 : Nat) : Int) := by rw [IntKind.wrap_u8]; omega
          have t4 : IntKind.u64.wrap ((b.toNat - 48 : Nat) : Int) = ((b.toNat - 48 : Nat) : Int) := by rw [IntKind.wrap_u64]; omega
          obtain ⟨tp, th, tl, htp, htv, wth, wtl, T⟩ := HT.out h l hh hl
          obtain ⟨sh, sl, ov, hov, hsv, wsh, wsl, A⟩ := HA.out th tl (b.toNat - 48) wth wtl (by omega)
          rw [hb] at t1 t2 t3 t4 t5 A
          rw [hb] at hov hsv
          have HE := Lib.hid (And.intro htp (And.intro htv (And.intro hov hsv)))
          have HS := Lib.hid hsc
          have HDG := Lib.hid hd
          clear htp htv hov hsv hsc hd
          have HT1 := Lib.hid T
          have HA1 := Lib.hid A
          clear T A
          go_wp2_with fail
          go_at_call 10
          refine ((HT1.out _)).mono ?_
          rintro e w1 ⟨rfl, hw1⟩
          have cw1_0_0 : w1.cell? ⟨w.heap.size, 0, none⟩ = some (.int .u64 0) := cell_gr hw1 (by go_simp)
          have fw1_0_0 : w1.frozen? ⟨w.heap.size, 0, none⟩ = false := frozen_gr (v := .int .u64 0) hw1 (by go_simp) (by go_simp)
          have cw1_0_1 : w1.cell? ⟨w.heap.size, 1, none⟩ = some (.int .u64 0) := cell_gr hw1 (by go_simp)
          have fw1_0_1 : w1.frozen? ⟨w.heap.size, 1, none⟩ = false := frozen_gr (v := .int .u64 0) hw1 (by go_simp) (by go_simp)
          have zw1_0 : w.heap.size < w1.heap.size := World.block_lt_of_cell? _ _ cw1_0_0
          have cw1_1_0 : w1.cell? ⟨w.heap.size + 1, 0, none⟩ = some (.int .u64 h) := cell_gr hw1 (by go_simp)
          have fw1_1_0 : w1.frozen? ⟨w.heap.size + 1, 0, none⟩ = false := frozen_gr (v := .int .u64 h) hw1 (by go_simp) (by go_simp)
          have cw1_1_1 : w1.cell? ⟨w.heap.size + 1, 1, none⟩ = some (.int .u64 l) := cell_gr hw1 (by go_simp)
          have fw1_1_1 : w1.frozen? ⟨w.heap.size + 1, 1, none⟩ = false := frozen_gr (v := .int .u64 l) hw1 (by go_simp) (by go_simp)
          have zw1_1 : w.heap.size + 1 < w1.heap.size := World.block_lt_of_cell? _ _ cw1_1_0
          have gw1 : Gr w w1 := Gr.trans (by go_grown) hw1
          clear hw1
          clear c0 c1 f0 f1 r0 r1 q0 q1 hg
          go_wp2_with fail
          refine Hm.wp_region_made 13 11 12 8 #[.int .u64 0, .int .u64 0] #[.int .u64 sh, .int .u64 sl] 24 (by kernel_rfl) (by simp only [List.getElem?_toArray, List.getElem?_cons_succ, List.getElem?_cons_zero] <;> rfl) (by simp only [List.getElem?_toArray, List.getElem?_cons_succ, List.getElem?_cons_zero] <;> rfl) (by kernel_rfl) (fun _ _ => ?_) ?_
          · unfold Oper.wp; go_simp
          intro KQ hKQ
          repeat (first | (refine Hm.wpG_sp (by decide) ?_ ?_; (· (try dsimp only); first | (rw [if_neg (by decide)]; trivial) | (rw [if_pos rfl]; (intro B w' g hB hw; have c0 : w'.cell? ⟨B, 0, none⟩ = some (.int .u64 0) := Hm.cell_of_heap hw 0; have f0 := Hm.frozen_of_heap hw 0; have c1 : w'.cell? ⟨B, 1, none⟩ = some (.int .u64 0) := Hm.cell_of_heap hw 1; have f1 := Hm.frozen_of_heap hw 1; unfold Oper.wp; go_simp; exact ⟨((g.setCell hB _).setCell hB _), (Hm.heap_set_same (Hm.heap_set_same hw))⟩)))) | (refine Hm.wpG_skip (by decide) rfl ?_; simp only [Act.put, List.setIfInBounds_toArray, List.set_cons_zero, List.set_cons_succ]) | (refine Hm.wpG_want (by decide) rfl ?_; apply Exists.intro; refine ⟨?_, ?_⟩; (· intro wx gx; (obtain ⟨mx, rfl⟩ := spread_of_gr gx; clear gx); all_goals (apply Hd.gAt_of_quiet; intro K hK; go_big_quiet_op; first | exact hK _ rfl | (apply Exists.intro; refine ⟨fun _ => ?_, ?_⟩; (· (first | (go_at_call 49; first | ((with_reducible refine ((HA1.out _)).mono ?_); rintro e w' ⟨rfl, hg⟩; exact ⟨rfl, spread_gr hg⟩)))); exact hK _ rfl))); try simp only [Act.put, List.setIfInBounds_toArray, List.set_cons_zero, List.set_cons_succ]))
          refine Hm.wpG_nil (hKQ _ ?_)
          clear hKQ KQ
          intro B2 w2 hw2 hBw2 hhw2
          have cw2_0_0 : w2.cell? ⟨w.heap.size, 0, none⟩ = some (.int .u64 0) := cell_gr hw2 (by go_simp)
          have fw2_0_0 : w2.frozen? ⟨w.heap.size, 0, none⟩ = false := frozen_gr (v := .int .u64 0) hw2 (by go_simp) (by go_simp)
          have cw2_0_1 : w2.cell? ⟨w.heap.size, 1, none⟩ = some (.int .u64 0) := cell_gr hw2 (by go_simp)
          have fw2_0_1 : w2.frozen? ⟨w.heap.size, 1, none⟩ = false := frozen_gr (v := .int .u64 0) hw2 (by go_simp) (by go_simp)
          have zw2_0 : w.heap.size < w2.heap.size := World.block_lt_of_cell? _ _ cw2_0_0
          have cw2_1_0 : w2.cell? ⟨w.heap.size + 1, 0, none⟩ = some (.int .u64 h) := cell_gr hw2 (by go_simp)
          have fw2_1_0 : w2.frozen? ⟨w.heap.size + 1, 0, none⟩ = false := frozen_gr (v := .int .u64 h) hw2 (by go_simp) (by go_simp)
          have cw2_1_1 : w2.cell? ⟨w.heap.size + 1, 1, none⟩ = some (.int .u64 l) := cell_gr hw2 (by go_simp)
          have fw2_1_1 : w2.frozen? ⟨w.heap.size + 1, 1, none⟩ = false := frozen_gr (v := .int .u64 l) hw2 (by go_simp) (by go_simp)
          have zw2_1 : w.heap.size + 1 < w2.heap.size := World.block_lt_of_cell? _ _ cw2_1_0
          have cw2_2_0 : w2.cell? ⟨w1.heap.size, 0, none⟩ = some (.int .u64 th) := cell_gr hw2 (by go_simp)
          have cw2_2_1 : w2.cell? ⟨w1.heap.size, 1, none⟩ = some (.int .u64 tl) := cell_gr hw2 (by go_simp)
          have zw2_2 : w1.heap.size < w2.heap.size := World.block_lt_of_cell? _ _ cw2_2_0
          have cw2_3_0 : w2.cell? ⟨B2, 0, none⟩ = some (.int .u64 sh) := Hm.cell_of_heap hhw2 0
          have cw2_3_1 : w2.cell? ⟨B2, 1, none⟩ = some (.int .u64 sl) := Hm.cell_of_heap hhw2 1
          have zw2_3 : B2 < w2.heap.size := World.block_lt_of_cell? _ _ cw2_3_0
          have gw2 : Gr w w2 := Gr.trans (by have gg := gw1; have gs := gg.size; go_grown) hw2
          clear hw2 hBw2 hhw2 gw1 zw1_0 cw1_0_0 fw1_0_0 cw1_0_1 fw1_0_1 zw1_1 cw1_1_0 fw1_1_0 cw1_1_1 fw1_1_1
          by_cases htp0 : tp = 0
          · subst htp0
            cases ov
            · go_wp2_with fail
              go_roundg (s.size - (i + 1))
              case measure => omega
              case rel =>
                refine ⟨i + 1, sh, sl, wsh, wsl, by omega, rfl, ?_, by go_simp, by go_simp, by go_simp, by go_simp, by go_simp, by go_simp, by go_simp, by go_simp, by go_grown⟩
                rw [HS.out]
                exact scan_go s i hi hb HDG.out HE.out
            · go_wp2_with fail
              refine bodyPost_ret (v := parsed none) (by simp [results, Tryd.results21, go_sem, parsed, *]) rfl ⟨?_, by go_grown⟩
              rw [HS.out, scan_over s i hi hb HDG.out HE.out]
          · have u1 : ((tp : Int) == 0) = false := by simp; omega
            go_wp2_with fail
            refine bodyPost_ret (v := parsed none) (by simp [results, Tryd.results21, go_sem, parsed, *]) rfl ⟨?_, by go_grown⟩
            rw [HS.out, scan_top s i hi hb htp0 HE.out]
        · have e : Rd.scan p128 (val h l) (s.data.toList.drop i) = none := by
            rw [scan_at p128 _ s i hi, if_neg (by rw [← hb]; omega)]
          rw [e] at hsc
          have HS := Lib.hid hsc
          clear hsc e
          by_cases h48 : b.toNat < 48
          · have t1 : decide ((b.toNat : Int) < 48) = true := decide_eq_true (by omega)
            have t2 : decide (b.toNat < 48) = true := decide_eq_true h48
            rw [hb] at t1 t2
            clear hd h48
            go_wp2_with fail
            refine bodyPost_ret (v := parsed none) (by simp [results, Tryd.results21, go_sem, parsed, *]) rfl ⟨?_, by go_grown⟩
            rw [HS.out]
          · have t1 : decide ((b.toNat : Int) < 48) = false := decide_eq_false (by omega)
            have t2 : decide ((57 : Int) < (b.toNat : Int)) = true := decide_eq_true (by omega)
            rw [hb] at t1 t2
            clear hd h48
            go_wp2_with fail
            refine bodyPost_ret (v := parsed none) (by simp [results, Tryd.results21, go_sem, parsed, *]) rfl ⟨?_, by go_grown⟩
            rw [HS.out]
      · have ti : decide ((i : Int) < (s.size : Int)) = false := decide_eq_false (by omega)
        have ti2 : decide (i < s.size) = false := decide_eq_false hi
        have e := scan_end p128 (val h l) s i (by omega)
        rw [e] at hsc
        have HS := Lib.hid hsc
        have e1 : val h l / 18446744073709551616 = h := by unfold val Wd at *; omega
        have e2 : val h l % 18446744073709551616 = l := by unfold val Wd at *; omega
        have HE := Lib.hid (And.intro e1 e2)
        clear hsc e hi e1 e2
        go_wp2_with fail
        refine bodyPost_ret (v := .tuple #[.agg #[.int .u64 h, .int .u64 l], .bool true]) (by simp [results, Tryd.results21, go_sem, *]) rfl ⟨?_, by go_grown⟩
        rw [HS.out]
        simp only [parsed]
        rw [HE.out.1, HE.out.2]
end Go.Proofs.YthjhhnolkiejpaaDoor
