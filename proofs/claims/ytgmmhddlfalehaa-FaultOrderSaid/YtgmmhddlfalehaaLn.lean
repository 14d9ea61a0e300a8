/- fault: Root, Deep, New; First and Join of none; rows of texts held against each other -/
import Derived.Test.YtgmmhddlfalehaaLm
namespace Go.Proofs.Ytgmmhddlfalehaa
set_option linter.unusedVariables false
set_option linter.unusedSimpArgs false
open Go.ChangeShapes Go.WideShapes Go.ChangeAt Go.RowKit

set_option maxRecDepth 100000 in
theorem c_fRoot {T : Er} {v : Value} (W : World) (h : ErT W T v) (hs : T.size ≤ 400000) : Calls Try.prog 15 #[v] W fun e w' => ∃ u, e = .returned u ∧ ErT W T.root u ∧ Gr W w' := by
  have H1 := Lib.hid (c_descend W h hs)
  clear h
  go_enter Try.func15, Try.ntmps15
  go_wp2_with fail
  go_at_call 29
  refine (H1.out).mono ?_
  rintro e w1 ⟨u, rfl, hu, g1⟩
  rcases erT_if hu with rfl | ⟨U, y, rfl⟩
  all_goals
    go_wp2_with fail
    go_ret
    exact ⟨_, rfl, hu, g1⟩
set_option maxRecDepth 100000 in
theorem c_fDeep {T : Er} {v : Value} (W : World) (h : ErT W T v) (hs : T.size ≤ 400000) : Calls Try.prog 16 #[v] W fun e w' => e = .returned (.int .i64 (T.deep : Nat)) ∧ Gr W w' := by
  have H1 := Lib.hid (c_descend W h hs)
  clear h hs
  go_enter Try.func16, Try.ntmps16
  go_wp2_with fail
  go_at_call 29
  refine (H1.out).mono ?_
  rintro e w1 ⟨u, rfl, hu, g1⟩
  rcases erT_if hu with rfl | ⟨U, y, rfl⟩
  all_goals
    go_wp2_with fail
    go_ret
    exact ⟨rfl, g1⟩
theorem c_fNew_nil (op : ByteArray) (id : Int) (W : World) : Calls Try.prog 20 #[.string op, .int .i64 id, .nilIface] W fun e w' => e = .returned (.nilIface) ∧ Gr W w' := by
  go_enter Try.func20, Try.ntmps20
  go_wp2_with fail
  go_ret
  exact ⟨rfl, by go_grown⟩
theorem c_fNewE {T : Er} {v : Value} (op : ByteArray) (id : Int) (W : World) (h : ErT W T v) (hn : T.isNil = false) : Calls Try.prog 20 #[.string op, .int .i64 id, v] W fun e w' => ∃ F, e = .returned (.iface 33 (.pointer (some ⟨F, 0, none⟩))) ∧ ErT w' (.flt op id T) (.iface 33 (.pointer (some ⟨F, 0, none⟩))) ∧ w'.cell? ⟨F, 2, none⟩ = some v ∧ Gr W w' := by
  obtain ⟨U, y, rfl⟩ := ef_ne h (ne_of hn)
  have hb := heap_alloc_new W (.cells #[.string op, .int .i64 id, .iface U y] 37)
  have HB := Lib.hid (And.intro hb (erT_gr (al_grw W (.cells #[.string op, .int .i64 id, .iface U y] 37)) h))
  clear h hn hb
  go_enter Try.func20, Try.ntmps20
  go_wp2_with fail
  go_ret
  exact ⟨_, rfl, ⟨_, _, rfl, HB.out.1, HB.out.2⟩, Hm.cell_of_heap HB.out.1 2, by go_grown⟩
theorem rowX {w : World} {b e n size : Nat} {v : Value} {xs : List Value} (h : w.ownsRow b e size v n xs) : ∃ (D : Nat) (ad : Option Addr) (cap : Nat), v = .slice ad n cap ∧ (0 < n → ad = some ⟨D, 0, none⟩) ∧ n ≤ cap ∧ (cap : Int) ≤ 9223372036854775807 ∧ ∀ j (hj : j < n * size), w.cell? ⟨D, j, none⟩ = xs[j]? := by
  rcases h.2 with ⟨rfl, rfl⟩ | ⟨g, cap, cur, rfl, hb, hg, hn, hc, hs, ht⟩
  · exact ⟨0, none, 0, rfl, fun h => absurd h (by omega), Nat.le_refl _, by omega, fun j hj => absurd hj (by omega)⟩
  · exact ⟨g, some ⟨g, 0, none⟩, cap, rfl, fun _ => rfl, hn, by unfold maxLen at hc; omega, fun j hj => h.cellAt j hj⟩
/-- A row of texts. -/
def Strs (w : World) (v : Value) (L : List ByteArray) : Prop := ∃ (ad : Option Addr) (cap B off : Nat), v = .slice ad L.length cap ∧ L.length ≤ cap ∧ cap ≤ 9223372036854775807 ∧ (0 < L.length → ad = some ⟨B, off, none⟩) ∧ ∀ i, i < L.length → w.cell? ⟨B, off + i, none⟩ = some (.string (L.getD i ⟨#[]⟩))
theorem strs_gr {a b : World} {v : Value} {L : List ByteArray} (h : Strs a v L) (g : Gr a b) : Strs b v L := by
  obtain ⟨ad, cap, B, off, e, h1, h2, h3, h4⟩ := h
  exact ⟨ad, cap, B, off, e, h1, h2, h3, fun i hi => cell_gr g (h4 i hi)⟩
theorem strV_get (l : List ByteArray) (j : Nat) (h : j < l.length) : (strV l)[j]? = some (.string (l.getD j ⟨#[]⟩)) := by
  unfold strV
  rw [List.getElem?_map, List.getElem?_eq_getElem h, List.getD_eq_getElem?_getD, List.getElem?_eq_getElem h]
  rfl
theorem strs_own {w : World} {base : Nat} {v : Value} {L : List ByteArray} (h : w.ownsRow base 9 1 v L.length (strV L)) : Strs w v L := by
  obtain ⟨D, ad, cap, e, d1, d2, d3, d5⟩ := rowX h
  exact ⟨ad, cap, D, 0, e, by omega, by omega, d1, fun j hj => by rw [Nat.zero_add, d5 j (by omega), strV_get L j hj]⟩
set_option maxHeartbeats 1000000 in
set_option maxRecDepth 100000 in
theorem c_TextsSame {L : List ByteArray} {u v : Value} (W : World) (hu : Strs W u L) (hv : Strs W v L) (hl : L.length ≤ 1000000000) : Calls Try.prog 13 #[u, v] W fun e w' => e = .returned (.bool true) ∧ Gr W w' := by
  obtain ⟨a1, c1, D, of1, rfl, h1, h2, d1, d5⟩ := hu
  obtain ⟨a2, c2, E, of2, rfl, k1, k2, g1, g5⟩ := hv
  have HC := Lib.hid (And.intro d5 g5)
  obtain ⟨n, hn⟩ : ∃ n, n = L.length := ⟨_, rfl⟩
  rw [← hn] at HC h1 k1 d1 g1 hl ⊢
  have tn : ((n : Int) != (n : Int)) = false := by simp
  clear d5 g5 hn
  go_enter Try.func13, Try.ntmps13
  go_wp2_with fail
  go_loopg [5] n (fun k x wr => ∃ i : Nat, x = .int .i64 i ∧ i ≤ n ∧ k = n - i ∧ Gr W wr)
  case atStart => exact ⟨0, rfl, by omega, by omega, by go_grown⟩
  case round =>
    obtain ⟨i, rfl, hi, hk, hg⟩ := hrel
    by_cases hin : i < n
    · have ti : decide ((i : Int) < (n : Int)) = true := decide_eq_true (by omega)
      have ti2 : decide (i < n) = true := decide_eq_true hin
      have ti3 : (i : Int) < (n : Int) := by omega
      obtain rfl := d1 (by omega)
      obtain rfl := g1 (by omega)
      have y1 := cell_gr hg (HC.out.1 i hin)
      have y2 := cell_gr hg (HC.out.2 i hin)
      generalize L.getD i ⟨#[]⟩ = z at y1 y2
      have tz : (z.toList != z.toList) = false := bne_self_eq_false _
      have tz2 := ba_eqL z
      have tn1 : (i : Int) < (c1 : Int) := by omega
      have tn2 : (i : Int) < (c2 : Int) := by omega
      have t0 : (0 : Int) ≤ (i : Int) := by omega
      go_wp2_with fail
      refine wp_region_spread (by kernel_rfl) (by kernel_rfl) ?_
      try simp only [List.append]
      repeat (first | go_big_quiet_skip | (go_big_quiet_want; go_big_quiet_op; (first | go_big_quiet_on | (apply Exists.intro; refine ⟨fun _ => ?_, ?_⟩; (· fail); go_big_quiet_on))))
      refine wpQuiet_nil ?_
      intro wr hr
      obtain ⟨mr, rfl⟩ := hr
      go_wp2_with fail
      go_roundg (n - (i + 1))
      case measure => omega
      case rel => exact ⟨i + 1, by go_num, by omega, rfl, Gr.trans hg (gr_spread _ _)⟩
    · obtain rfl : i = n := by omega
      have ti : decide ((i : Int) < (i : Int)) = false := decide_eq_false (by omega)
      have ti3 : ¬ (i : Int) < (i : Int) := by omega
      go_wp2_with fail
      go_ret
      exact ⟨rfl, hg⟩
end Go.Proofs.Ytgmmhddlfalehaa
