/- the document's own Parse -/
import Derived.Test.YthjhhnolkiejpaaDoorYa
import Derived.Test.YthjhhnolkiejpaaDoorU
import Derived.Test.YthjhhnolkiejpaaDoorVb
import Derived.Test.YthjhhnolkiejpaaDoorP
namespace Go.Proofs.YthjhhnolkiejpaaDoor
set_option linter.unusedVariables false
open Go.ChangeShapes Go.WideShapes Go.ChangeAt Go.RowKit

theorem rtimes10 : ∀ h l, Wd h → Wd l → ∃ tp th tl, tp = val h l * 10 / p128 ∧ val th tl = val h l * 10 % p128 ∧ Wd th ∧ Wd tl ∧ ∀ w, Calls Tryd.prog 12 #[.agg #[.int .u64 h, .int .u64 l], .int .u64 10] w fun e w' => e = .returned (.tuple #[.int .u64 (tp : Nat), .agg #[.int .u64 (th : Nat), .int .u64 (tl : Nat)]]) ∧ Gr w w' := by
  intro h l hh hl
  have C := c_rTimes h l 10 hh hl (by unfold Wd; omega)
  refine ⟨_, _, _, ?_, ?_, ?_, ?_, C⟩
  · generalize val h l * 10 = X; unfold p128; omega
  · generalize val h l * 10 = X; unfold val p128; omega
  · exact wd_mod _
  · exact wd_mod _
theorem radd_digit : ∀ h l d, Wd h → Wd l → d < 10 → ∃ sh sl ov, ov = decide (p128 ≤ val h l + d) ∧ val sh sl = (val h l + d) % p128 ∧ Wd sh ∧ Wd sl ∧ ∀ w, Calls Tryd.prog 50 #[.agg #[.int .u64 h, .int .u64 l], .agg #[.int .u64 0, .int .u64 d]] w fun e w' => e = .returned (.tuple #[.agg #[.int .u64 (sh : Nat), .int .u64 (sl : Nat)], .bool ov]) ∧ Gr w w' := by
  intro h l d hh hl hd
  have C := c_rAdd h l 0 d hh hl (by unfold Wd; omega) (by unfold Wd; omega)
  refine ⟨_, _, _, ?_, ?_, ?_, ?_, C⟩
  · rw [val_zero, decide_eq_decide]; unfold p128; omega
  · rw [val_zero]; generalize val h l + d = X; unfold val p128; omega
  · exact wd_mod _
  · exact wd_mod _
/-- Read, and written again. -/
theorem parse_scan (s : List UInt8) (hs : s.length ≤ 39) : Rd.parse p128 s = match Rd.scan p128 0 s with | some m => if Lib.decDigits m = s then some m else none | none => none := by
  cases hm : Rd.scan p128 0 s with
  | none =>
    show Rd.parse p128 s = none
    unfold Rd.parse
    split
    · rfl
    · exact hm
  | some m =>
    show Rd.parse p128 s = if Lib.decDigits m = s then some m else none
    split
    · rename_i h
      rw [← h]
      have hb : m < p128 := by
        have hbound : ∀ (s : List UInt8) (n m : Nat), n < p128 → Rd.scan p128 n s = some m → m < p128 := fun s => by
          induction s with
          | nil => intro n m hn h; simp only [Rd.scan, Option.some.injEq] at h; omega
          | cons c t ih =>
            intro n m hn h
            simp only [Rd.scan] at h
            split at h
            · rename_i hc; exact ih _ m hc.2.2 h
            · cases h
        exact hbound s 0 m (by unfold p128; omega) hm
      exact Rd.parse_dec (by unfold p128; omega) hb
    · rename_i h
      cases hp : Rd.parse p128 s with
      | none => rfl
      | some n =>
        have := Rd.parse_some hp
        unfold Rd.parse at hp
        split at hp
        · cases hp
        · rw [hm] at hp
          cases hp
          exact absurd this.1 h

set_option maxHeartbeats 4000000 in
set_option maxRecDepth 100000 in
theorem rparse_core (s : ByteArray) (w : World) (hs : s.size < 40) (hs2 : decide (39 < (s.size : Int)) = false) (p : Option Nat)
    (hp : p = match Rd.scan p128 0 s.data.toList with | some m => if Lib.decDigits m = s.data.toList then some m else none | none => none) :
    Calls Tryd.prog 22 #[.string s] w fun e w' => e = .returned (parsed p) ∧ Gr w w' := by
  have HT := Lib.hid rtimes10
  have HA := Lib.hid radd_digit
  have HX := Lib.hid (fun h l hh hl w => c_rText h l hh hl w)
  have HP := Lib.hid hp
  clear hp
  go_enter Tryd.func22, Tryd.ntmps22
  go_wp2_with fail
  go_loopg [5] s.size (fun k v wr => ParseRel w.heap.size (w.heap.size + 1) s w k v wr)
  case atStart => exact ⟨0, 0, 0, by unfold Wd; omega, by unfold Wd; omega, by omega, rfl, rfl, by go_simp, by go_simp, by go_simp, by go_simp, by go_simp, by go_simp, by go_simp, by go_simp, by go_grown⟩
  case round =>
    obtain ⟨i, h, l, hh, hl, hik, rfl, hsc, c0, c1, f0, f1, r0, r1, q0, q1, hg⟩ := hrel
    by_cases hi : i < s.size
    · have ti : decide ((i : Int) < (s.size : Int)) = true := decide_eq_true (by omega)
      have ti2 : decide (i < s.size) = true := decide_eq_true hi
      obtain ⟨b, hb⟩ : ∃ b, b = s[i] := ⟨_, rfl⟩
      by_cases hd : 48 ≤ b.toNat ∧ b.toNat ≤ 57
      · have t1 : decide ((b.toNat : Int) < 48) = false := decide_eq_false (by omega)
        have t2 : decide ((57 : Int) < (b.toNat : Int)) = false := decide_eq_false (by omega)
        have t3 : ((b.toNat : Int) - 48) % 256 = ((b.toNat - 48 : Nat) : Int) := by omega
        have t5 : IntKind.u8.wrap ((b.toNat : Int) - 48) = ((b.toNat - 48 : Nat) : Int) := by rw [IntKind.wrap_u8]; omega
        have t4 : IntKind.u64.wrap ((b.toNat - 48 : Nat) : Int) = ((b.toNat - 48 : Nat) : Int) := by rw [IntKind.wrap_u64]; omega
        obtain ⟨tp, th, tl, htp, htv, wth, wtl, T⟩ := HT.out h l hh hl
        obtain ⟨sh, sl, ov, hov, hsv, wsh, wsl, A⟩ := HA.out th tl (b.toNat - 48) wth wtl (by omega)
        rw [hb] at t1 t2 t3 t4 t5 A
        rw [hb] at hov hsv
        have HE := Lib.hid (And.intro htp (And.intro htv (And.intro hov hsv)))
        have HS := Lib.hid hsc
        have HDG := Lib.hid hd
        clear htp htv hov hsv hsc hd
        have HT1 := Lib.hid T
        have HA1 := Lib.hid A
        clear T A
        go_wp2_with fail
        go_at_call 12
        refine ((HT1.out _)).mono ?_
        rintro e w1 ⟨rfl, hw1⟩
        have cw1_0_0 : w1.cell? ⟨w.heap.size, 0, none⟩ = some (.int .u64 0) := cell_gr hw1 (by go_simp)
        have fw1_0_0 : w1.frozen? ⟨w.heap.size, 0, none⟩ = false := frozen_gr (v := .int .u64 0) hw1 (by go_simp) (by go_simp)
        have cw1_0_1 : w1.cell? ⟨w.heap.size, 1, none⟩ = some (.int .u64 0) := cell_gr hw1 (by go_simp)
        have fw1_0_1 : w1.frozen? ⟨w.heap.size, 1, none⟩ = false := frozen_gr (v := .int .u64 0) hw1 (by go_simp) (by go_simp)
        have zw1_0 : w.heap.size < w1.heap.size := World.block_lt_of_cell? _ _ cw1_0_0
        have cw1_1_0 : w1.cell? ⟨w.heap.size + 1, 0, none⟩ = some (.int .u64 h) := cell_gr hw1 (by go_simp)
        have fw1_1_0 : w1.frozen? ⟨w.heap.size + 1, 0, none⟩ = false := frozen_gr (v := .int .u64 h) hw1 (by go_simp) (by go_simp)
        have cw1_1_1 : w1.cell? ⟨w.heap.size + 1, 1, none⟩ = some (.int .u64 l) := cell_gr hw1 (by go_simp)
        have fw1_1_1 : w1.frozen? ⟨w.heap.size + 1, 1, none⟩ = false := frozen_gr (v := .int .u64 l) hw1 (by go_simp) (by go_simp)
        have zw1_1 : w.heap.size + 1 < w1.heap.size := World.block_lt_of_cell? _ _ cw1_1_0
        have gw1 : Gr w w1 := Gr.trans (by go_grown) hw1
        clear hw1
        clear c0 c1 f0 f1 r0 r1 q0 q1 hg
        go_wp2_with fail
        refine Hm.wp_region_made 13 11 12 8 #[.int .u64 0, .int .u64 0] #[.int .u64 sh, .int .u64 sl] 28 (by kernel_rfl) (by simp only [List.getElem?_toArray, List.getElem?_cons_succ, List.getElem?_cons_zero] <;> rfl) (by simp only [List.getElem?_toArray, List.getElem?_cons_succ, List.getElem?_cons_zero] <;> rfl) (by kernel_rfl) (fun _ _ => ?_) ?_
        · unfold Oper.wp; go_simp
        intro KQ hKQ
        repeat (first | (refine Hm.wpG_sp (by decide) ?_ ?_; (· (try dsimp only); first | (rw [if_neg (by decide)]; trivial) | (rw [if_pos rfl]; (intro B w' g hB hw; have c0 : w'.cell? ⟨B, 0, none⟩ = some (.int .u64 0) := Hm.cell_of_heap hw 0; have f0 := Hm.frozen_of_heap hw 0; have c1 : w'.cell? ⟨B, 1, none⟩ = some (.int .u64 0) := Hm.cell_of_heap hw 1; have f1 := Hm.frozen_of_heap hw 1; unfold Oper.wp; go_simp; exact ⟨((g.setCell hB _).setCell hB _), (Hm.heap_set_same (Hm.heap_set_same hw))⟩)))) | (refine Hm.wpG_skip (by decide) rfl ?_; simp only [Act.put, List.setIfInBounds_toArray, List.set_cons_zero, List.set_cons_succ]) | (refine Hm.wpG_want (by decide) rfl ?_; apply Exists.intro; refine ⟨?_, ?_⟩; (· intro wx gx; (obtain ⟨mx, rfl⟩ := spread_of_gr gx; clear gx); all_goals (apply Hd.gAt_of_quiet; intro K hK; go_big_quiet_op; first | exact hK _ rfl | (apply Exists.intro; refine ⟨fun _ => ?_, ?_⟩; (· (first | (go_at_call 50; first | ((with_reducible refine ((HA1.out _)).mono ?_); rintro e w' ⟨rfl, hg⟩; exact ⟨rfl, spread_gr hg⟩)))); exact hK _ rfl))); try simp only [Act.put, List.setIfInBounds_toArray, List.set_cons_zero, List.set_cons_succ]))
        refine Hm.wpG_nil (hKQ _ ?_)
        clear hKQ KQ
        intro B2 w2 hw2 hBw2 hhw2
        have cw2_0_0 : w2.cell? ⟨w.heap.size, 0, none⟩ = some (.int .u64 0) := cell_gr hw2 (by go_simp)
        have fw2_0_0 : w2.frozen? ⟨w.heap.size, 0, none⟩ = false := frozen_gr (v := .int .u64 0) hw2 (by go_simp) (by go_simp)
        have cw2_0_1 : w2.cell? ⟨w.heap.size, 1, none⟩ = some (.int .u64 0) := cell_gr hw2 (by go_simp)
        have fw2_0_1 : w2.frozen? ⟨w.heap.size, 1, none⟩ = false := frozen_gr (v := .int .u64 0) hw2 (by go_simp) (by go_simp)
        have zw2_0 : w.heap.size < w2.heap.size := World.block_lt_of_cell? _ _ cw2_0_0
        have cw2_1_0 : w2.cell? ⟨w.heap.size + 1, 0, none⟩ = some (.int .u64 h) := cell_gr hw2 (by go_simp)
        have fw2_1_0 : w2.frozen? ⟨w.heap.size + 1, 0, none⟩ = false := frozen_gr (v := .int .u64 h) hw2 (by go_simp) (by go_simp)
        have cw2_1_1 : w2.cell? ⟨w.heap.size + 1, 1, none⟩ = some (.int .u64 l) := cell_gr hw2 (by go_simp)
        have fw2_1_1 : w2.frozen? ⟨w.heap.size + 1, 1, none⟩ = false := frozen_gr (v := .int .u64 l) hw2 (by go_simp) (by go_simp)
        have zw2_1 : w.heap.size + 1 < w2.heap.size := World.block_lt_of_cell? _ _ cw2_1_0
        have cw2_2_0 : w2.cell? ⟨w1.heap.size, 0, none⟩ = some (.int .u64 th) := cell_gr hw2 (by go_simp)
        have cw2_2_1 : w2.cell? ⟨w1.heap.size, 1, none⟩ = some (.int .u64 tl) := cell_gr hw2 (by go_simp)
        have zw2_2 : w1.heap.size < w2.heap.size := World.block_lt_of_cell? _ _ cw2_2_0
        have cw2_3_0 : w2.cell? ⟨B2, 0, none⟩ = some (.int .u64 sh) := Hm.cell_of_heap hhw2 0
        have cw2_3_1 : w2.cell? ⟨B2, 1, none⟩ = some (.int .u64 sl) := Hm.cell_of_heap hhw2 1
        have zw2_3 : B2 < w2.heap.size := World.block_lt_of_cell? _ _ cw2_3_0
        have gw2 : Gr w w2 := Gr.trans (by have gg := gw1; have gs := gg.size; go_grown) hw2
        clear hw2 hBw2 hhw2 gw1 zw1_0 cw1_0_0 fw1_0_0 cw1_0_1 fw1_0_1 zw1_1 cw1_1_0 fw1_1_0 cw1_1_1 fw1_1_1
        by_cases htp0 : tp = 0
        · subst htp0
          cases ov
          · go_wp2_with fail
            go_roundg (s.size - (i + 1))
            case measure => omega
            case rel =>
              refine ⟨i + 1, sh, sl, wsh, wsl, by omega, by go_num, ?_, by go_simp, by go_simp, by go_simp, by go_simp, by go_simp, by go_simp, by go_simp, by go_simp, by go_grown⟩
              rw [HS.out]
              exact scan_go s i hi hb HDG.out HE.out
          · go_wp2_with fail
            refine bodyPost_ret (v := parsed none) (by simp [results, Tryd.results22, go_sem, parsed, *]) rfl ⟨?_, by go_grown⟩
            rw [HP.out, HS.out, scan_over s i hi hb HDG.out HE.out]
        · have u1 : decide ((0 : Int) < (tp : Int)) = true := decide_eq_true (by omega)
          have u2 : decide (0 < tp) = true := decide_eq_true (by omega)
          go_wp2_with fail
          refine bodyPost_ret (v := parsed none) (by simp [results, Tryd.results22, go_sem, parsed, *]) rfl ⟨?_, by go_grown⟩
          rw [HP.out, HS.out, scan_top s i hi hb htp0 HE.out]
      · have e : Rd.scan p128 (val h l) (s.data.toList.drop i) = none := by
          rw [scan_at p128 _ s i hi, if_neg (by rw [← hb]; omega)]
        rw [e] at hsc
        have HS := Lib.hid hsc
        clear hsc e
        by_cases h48 : b.toNat < 48
        · have t1 : decide ((b.toNat : Int) < 48) = true := decide_eq_true (by omega)
          have t2 : decide (b.toNat < 48) = true := decide_eq_true h48
          rw [hb] at t1 t2
          clear hd h48
          go_wp2_with fail
          refine bodyPost_ret (v := parsed none) (by simp [results, Tryd.results22, go_sem, parsed, *]) rfl ⟨?_, by go_grown⟩
          rw [HP.out, HS.out]
        · have t1 : decide ((b.toNat : Int) < 48) = false := decide_eq_false (by omega)
          have t2 : decide ((57 : Int) < (b.toNat : Int)) = true := decide_eq_true (by omega)
          rw [hb] at t1 t2
          clear hd h48
          go_wp2_with fail
          refine bodyPost_ret (v := parsed none) (by simp [results, Tryd.results22, go_sem, parsed, *]) rfl ⟨?_, by go_grown⟩
          rw [HP.out, HS.out]
    · have ti : decide ((i : Int) < (s.size : Int)) = false := decide_eq_false (by omega)
      have ti2 : decide (i < s.size) = false := decide_eq_false hi
      have e := scan_end p128 (val h l) s i (by omega)
      rw [e] at hsc
      have hres : p = if Lib.decDigits (val h l) = s.data.toList then some (val h l) else none := by rw [HP.out, hsc]
      have e1 : val h l / 18446744073709551616 = h := by unfold val Wd at *; omega
      have e2 : val h l % 18446744073709551616 = l := by unfold val Wd at *; omega
      have HE := Lib.hid (And.intro e1 e2)
      have X := HX.out h l hh hl
      obtain ⟨t, et⟩ : ∃ t, t = (⟨(Lib.decDigits (val h l)).toArray⟩ : ByteArray) := ⟨_, rfl⟩
      rw [← et] at X
      have H1 := Lib.hid X
      clear hsc e hi e1 e2 X
      by_cases hq : Lib.decDigits (val h l) = s.data.toList
      · have t1 : (t.toList == s.toList) = true := by rw [et, ByteArray.toList_eq, ByteArray.toList_eq]; simp [hq]
        have t2 : (t.toList != s.toList) = false := by simp at t1; simp [t1]
        rw [if_pos hq] at hres
        have HR := Lib.hid hres
        clear hres hq et
        go_wp2_with fail
        go_at_call 24
        refine ((H1.out _)).mono ?_
        rintro e w1 ⟨rfl, hw1⟩
        have cw1_0_0 : w1.cell? ⟨w.heap.size, 0, none⟩ = some (.int .u64 0) := cell_gr hw1 (by go_simp)
        have fw1_0_0 : w1.frozen? ⟨w.heap.size, 0, none⟩ = false := frozen_gr (v := .int .u64 0) hw1 (by go_simp) (by go_simp)
        have cw1_0_1 : w1.cell? ⟨w.heap.size, 1, none⟩ = some (.int .u64 0) := cell_gr hw1 (by go_simp)
        have fw1_0_1 : w1.frozen? ⟨w.heap.size, 1, none⟩ = false := frozen_gr (v := .int .u64 0) hw1 (by go_simp) (by go_simp)
        have zw1_0 : w.heap.size < w1.heap.size := World.block_lt_of_cell? _ _ cw1_0_0
        have cw1_1_0 : w1.cell? ⟨w.heap.size + 1, 0, none⟩ = some (.int .u64 h) := cell_gr hw1 (by go_simp)
        have fw1_1_0 : w1.frozen? ⟨w.heap.size + 1, 0, none⟩ = false := frozen_gr (v := .int .u64 h) hw1 (by go_simp) (by go_simp)
        have cw1_1_1 : w1.cell? ⟨w.heap.size + 1, 1, none⟩ = some (.int .u64 l) := cell_gr hw1 (by go_simp)
        have fw1_1_1 : w1.frozen? ⟨w.heap.size + 1, 1, none⟩ = false := frozen_gr (v := .int .u64 l) hw1 (by go_simp) (by go_simp)
        have zw1_1 : w.heap.size + 1 < w1.heap.size := World.block_lt_of_cell? _ _ cw1_1_0
        have gw1 : Gr w w1 := Gr.trans (by go_grown) hw1
        clear hw1
        go_wp2_with fail
        refine bodyPost_ret (v := .tuple #[.agg #[.int .u64 h, .int .u64 l], .bool true]) (by simp [results, Tryd.results22, go_sem, *]) rfl ⟨?_, by go_grown⟩
        rw [HR.out]
        simp only [parsed]
        rw [HE.out.1, HE.out.2]
      · have t1 : (t.toList == s.toList) = false := by rw [et, ByteArray.toList_eq, ByteArray.toList_eq]; simpa using hq
        have t2 : (t.toList != s.toList) = true := by simp at t1; simp [t1]
        rw [if_neg hq] at hres
        have HR := Lib.hid hres
        clear hres hq et
        go_wp2_with fail
        go_at_call 24
        refine ((H1.out _)).mono ?_
        rintro e w1 ⟨rfl, hw1⟩
        have cw1_0_0 : w1.cell? ⟨w.heap.size, 0, none⟩ = some (.int .u64 0) := cell_gr hw1 (by go_simp)
        have fw1_0_0 : w1.frozen? ⟨w.heap.size, 0, none⟩ = false := frozen_gr (v := .int .u64 0) hw1 (by go_simp) (by go_simp)
        have cw1_0_1 : w1.cell? ⟨w.heap.size, 1, none⟩ = some (.int .u64 0) := cell_gr hw1 (by go_simp)
        have fw1_0_1 : w1.frozen? ⟨w.heap.size, 1, none⟩ = false := frozen_gr (v := .int .u64 0) hw1 (by go_simp) (by go_simp)
        have zw1_0 : w.heap.size < w1.heap.size := World.block_lt_of_cell? _ _ cw1_0_0
        have cw1_1_0 : w1.cell? ⟨w.heap.size + 1, 0, none⟩ = some (.int .u64 h) := cell_gr hw1 (by go_simp)
        have fw1_1_0 : w1.frozen? ⟨w.heap.size + 1, 0, none⟩ = false := frozen_gr (v := .int .u64 h) hw1 (by go_simp) (by go_simp)
        have cw1_1_1 : w1.cell? ⟨w.heap.size + 1, 1, none⟩ = some (.int .u64 l) := cell_gr hw1 (by go_simp)
        have fw1_1_1 : w1.frozen? ⟨w.heap.size + 1, 1, none⟩ = false := frozen_gr (v := .int .u64 l) hw1 (by go_simp) (by go_simp)
        have zw1_1 : w.heap.size + 1 < w1.heap.size := World.block_lt_of_cell? _ _ cw1_1_0
        have gw1 : Gr w w1 := Gr.trans (by go_grown) hw1
        clear hw1
        go_wp2_with fail
        refine bodyPost_ret (v := parsed none) (by simp [results, Tryd.results22, go_sem, parsed, *]) rfl ⟨?_, by go_grown⟩
        rw [HR.out]

set_option maxRecDepth 100000 in
theorem c_rParse (s : ByteArray) (w : World) : Calls Tryd.prog 22 #[.string s] w fun e w' => e = .returned (parsed (Rd.parse p128 s.data.toList)) ∧ Gr w w' := by
  have hsz : s.data.toList.length = s.size := by simp
  by_cases h39 : 39 < s.size
  · have e : Rd.parse p128 s.data.toList = none := by
      unfold Rd.parse
      rw [if_pos (Or.inr (Or.inl (by omega)))]
    have t1 : decide (39 < (s.size : Int)) = true := decide_eq_true (by omega)
    rw [e]
    clear e hsz h39
    go_enter Tryd.func22, Tryd.ntmps22
    go_wp2_with fail
    refine bodyPost_ret (v := parsed none) (by simp [results, Tryd.results22, go_sem, parsed, *]) rfl ⟨rfl, by go_grown⟩
  · exact rparse_core s w (by omega) (decide_eq_false (by omega)) _ (parse_scan _ (by omega))
end Go.Proofs.YthjhhnolkiejpaaDoor
