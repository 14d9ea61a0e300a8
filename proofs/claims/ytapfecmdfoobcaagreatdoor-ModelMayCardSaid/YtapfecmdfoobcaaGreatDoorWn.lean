/- model: a row of changes that comes in; which are looked at -/
import Derived.Test.YtapfecmdfoobcaaGreatDoorWm
import Derived.Test.YtapfecmdfoobcaaGreatDoorOb
import Derived.Test.YtapfecmdfoobcaaGreatDoorRo
import Derived.Deep.Slices
import Derived.ChangeArms
namespace Go.Proofs.YtapfecmdfoobcaaGreatDoor
set_option linter.unusedVariables false
set_option linter.unusedSimpArgs false
open Go.ChangeShapes Go.WideShapes Go.ChangeAt Go.RowKit Go.Maps

structure MChg where
  kd : Int
  id : Int
  k : Int
  v : Value
  n : Nat
  X : Nat → Int
  Y : Nat → Int
theorem addr_addm (b off n : Nat) : (⟨b, off, none⟩ : Addr).add n = ⟨b, off + n, none⟩ := by unfold Addr.add; split <;> simp_all
def MChgAt (w : World) (B o : Nat) (c : MChg) : Prop := w.cell? ⟨B, o, none⟩ = some (.int .i64 c.kd) ∧ w.cell? ⟨B, o + 1, none⟩ = some (.int .i64 c.id) ∧ w.cell? ⟨B, o + 2, none⟩ = some (.int .i64 c.k) ∧ w.cell? ⟨B, o + 3, none⟩ = some c.v ∧ Pts w c.v c.n c.X c.Y ∧ i64R c.id
def MChs (w : World) (v : Value) (n : Nat) (D : Nat → MChg) : Prop :=
  ∃ (ad : Option Addr) (cap B off : Nat), v = .slice ad n cap ∧ n ≤ cap ∧ cap ≤ 9223372036854775807 ∧ (0 < n → ad = some ⟨B, off, none⟩) ∧ ∀ k, k < n → MChgAt w B (off + k * 4) (D k)
section
variable {H : Type} {enc : TypeId × Value → H} {P : Program} {w : World} {base : Nat} {sp : Nat → Bool} {held : Bool} {r : Reach} {b0 : Nat}
theorem cells4m {a : Addr} {x0 x1 x2 x3 : Value} (h : w.cells? base a 4 = some [x0, x1, x2, x3]) : w.cell? (a.add 0) = some x0 ∧ w.cell? (a.add 1) = some x1 ∧ w.cell? (a.add 2) = some x2 ∧ w.cell? (a.add 3) = some x3 := by
  unfold World.cells? at h
  split at h
  · rw [show List.range 4 = [0, 1, 2, 3] from rfl] at h
    simp only [List.mapM_cons, List.mapM_nil] at h
    obtain ⟨y0, h0, h⟩ := Option.bind_eq_some_iff.1 h
    obtain ⟨t0, h, e0⟩ := Option.bind_eq_some_iff.1 h
    obtain ⟨y1, h1, h⟩ := Option.bind_eq_some_iff.1 h
    obtain ⟨t1, h, e1⟩ := Option.bind_eq_some_iff.1 h
    obtain ⟨y2, h2, h⟩ := Option.bind_eq_some_iff.1 h
    obtain ⟨t2, h, e2⟩ := Option.bind_eq_some_iff.1 h
    obtain ⟨y3, h3, h⟩ := Option.bind_eq_some_iff.1 h
    obtain ⟨t3, h, e3⟩ := Option.bind_eq_some_iff.1 h
    cases h
    cases e3
    cases e2
    cases e1
    cases e0
    exact ⟨h0, h1, h2, h3⟩
  · cases h
def MChg.none : MChg := ⟨0, 0, 0, .nilIface, 0, fun _ => 0, fun _ => 0⟩
theorem open_mchanges {tt t ti to' s p u : TypeId} {F0 F1 I0 I1 O0 O1 G0 G1 : Field} {x : Value} {d : DataW H} {ps : List MemPlace} (htt : P.underlying tt = some (.slice t)) (hs : P.underlying t = some (.struct #[F0, F1])) (hsi : P.underlying ti = some (.struct #[I0, I1])) (hso : P.underlying to' = some (.struct #[O0, O1]))
    (hF0 : F0.type = u ∧ F0.offset = 0) (hF1 : F1.type = ti ∧ F1.offset = 1) (hI0 : I0.type = u ∧ I0.offset = 0) (hI1 : I1.type = to' ∧ I1.offset = 1) (hO0 : O0.type = u ∧ O0.offset = 0) (hO1 : O1.type = s ∧ O1.offset = 1)
    (ct : P.cellsOf t = 4) (ci : P.cellsOf ti = 3) (co : P.cellsOf to' = 2) (cs' : P.cellsOf s = 1)
    (ht : P.underlying s = some (.slice p)) (hp : P.underlying p = some (.struct #[G0, G1])) (hu : P.underlying u = some (.int .i64))
    (hG0 : G0.type = u ∧ G0.offset = 0) (hG1 : G1.type = u ∧ G1.offset = 1) (cp : P.cellsOf p = 2) (cu : P.cellsOf u = 1)
    (hval : Value.okWide P w r b0 tt x) (hd : DataW.Trod enc P w base sp held tt x d ps) : ∃ (n : Nat) (D : Nat → MChg), MChs w x n D := by
  have hform : (x = .slice none 0 0) ∨ ∃ a n c, x = .slice (some a) n c ∧ n ≤ c ∧ (c : Int) ≤ IntKind.i64.max ∧ a.spot = none := by
    simp only [Value.okWide, htt, Cell.okWide] at hval
    cases x <;> simp only [Cell.ok, htt] at hval <;> try exact hval.elim
    rename_i a n c
    cases a with
    | none =>
      left
      cases n <;> cases c <;> first | rfl | exact hval.elim
    | some a => right; exact ⟨a, n, c, rfl, hval.1, hval.2.1, hval.2.2.2.1⟩
  rcases hform with rfl | ⟨⟨b, off, sp0⟩, n, cap, rfl, h1, h2, h3⟩
  · exact ⟨0, fun _ => MChg.none, none, 0, 0, 0, rfl, Nat.le_refl _, by decide, fun h => absurd h (by omega), fun k h => absurd h (by omega)⟩
  cases h3
  have h2' : cap ≤ 9223372036854775807 := by
    have : IntKind.i64.max = 9223372036854775807 := rfl
    omega
  obtain ⟨fuel, hf⟩ := hd
  rcases Deep.open_slice htt hf with ⟨h, -⟩ | ⟨a, len, cap', m, q', D, Pl, hv, -, hl, -, hm, -, hel⟩
  · simp [Value.cells] at h
  · simp only [Value.cells, List.cons.injEq, Value.slice.injEq, Option.some.injEq, and_true] at hv
    obtain ⟨rfl, rfl, rfl⟩ := hv
    have hlm : n ≤ m := by rw [hm]; split <;> omega
    have key : ∀ k, k < n → ∃ c : MChg, MChgAt w b (off + k * 4) c := fun k hk => by
      obtain ⟨cs0, hc, htr⟩ := hel k (by omega)
      rw [ct, addr_addm] at hc
      have hlen : cs0.length = 4 := (World.cells?_some hc).2.1
      obtain ⟨y0, y1, j, -, -, t0, t1⟩ := trod_struct2 hs htr
      match cs0, hlen with
      | [xa, xb, xc, xe], _ =>
        rw [hF0.1, hF0.2, cu] at t0
        rw [hF1.1, hF1.2, ci] at t1
        obtain ⟨z0, q0, -, -⟩ := DataW.trod_int hu t0
        simp at q0
        obtain ⟨y2, y3, j2, -, -, t2, t3⟩ := trod_struct2 hsi t1
        rw [hI0.1, hI0.2, cu] at t2
        rw [hI1.1, hI1.2, co] at t3
        obtain ⟨z1, q1, -, hw1⟩ := DataW.trod_int hu t2
        simp at q1
        obtain ⟨y4, y5, j3, -, -, t4, t5⟩ := trod_struct2 hso t3
        rw [hO0.1, hO0.2, cu] at t4
        rw [hO1.1, hO1.2, cs'] at t5
        obtain ⟨z2, q2, -, -⟩ := DataW.trod_int hu t4
        simp at q2
        subst q0 q1 q2
        have t6 : DataW.trod enc P w base sp held j3 s [xe] = some y5 := by simpa using t5
        obtain ⟨m', X, Y, hP⟩ := trod_ptsC ht hp hu hG0 hG1 cp cu t6
        obtain ⟨k0, k1, k2, k3⟩ := cells4m hc
        rw [addr_addm] at k0 k1 k2 k3
        exact ⟨⟨z0, z1, z2, xe, m', X, Y⟩, k0, k1, k2, k3, hP, bounds_i64 hw1⟩
    refine ⟨n, fun k => if h : k < n then (key k h).choose else MChg.none, some ⟨b, off, none⟩, cap, b, off, rfl, h1, h2', fun _ => rfl, fun k hk => ?_⟩
    simp only [dif_pos hk]
    exact (key k hk).choose_spec
end


set_option maxHeartbeats 2000000 in
set_option maxRecDepth 100000 in
theorem md_Sum2 (n m B : Nat) (hn : n ≤ 2000) (hm : m ≤ 9223372036854775807) (W : World) (hc : W.cell? ⟨B, 0, none⟩ = some (.int .i64 m)) (hc1 : W.cell? ⟨B, 1, none⟩ = some (.int .i64 1)) :
    Calls Tryz.prog 14 #[.int .i64 n, .slice (some ⟨B, 0, none⟩) 2 2] W fun e w' => ∃ r : Nat, e = .returned (.int .i64 (r : Nat)) ∧ (r = n + m + 1 ∨ 2000 < r) ∧ r ≤ 1099511627776 ∧ Gr W w' := by
  have hm2 : (m : Int) ≤ 9223372036854775807 := by omega
  have hn2 : (n : Int) ≤ 2000 := by omega
  have t1 : decide ((1099511627776 : Int) < (n : Int)) = false := decide_eq_false (by omega)
  have t1b : (n : Int) ≤ 1099511627776 := by omega
  by_cases h2 : 1099511627776 < n + m
  · have t2 : decide ((1099511627776 : Int) - (n : Int) < (m : Int)) = true := decide_eq_true (by omega)
    clear hm hn hc1
    go_enter Tryz.func14, Tryz.ntmps14
    go_wp2_with fail
    refine wp_loop_rounds 1 ?_
    rw [rounds_succ]
    go_wp2_with fail
    go_ret
    exact ⟨1099511627776, rfl, Or.inr (by decide), by decide, Below.refl _ _⟩
  have t2 : decide ((1099511627776 : Int) - (n : Int) < (m : Int)) = false := decide_eq_false (by omega)
  have t3 : (m : Int) ≤ 1099511627776 := by omega
  obtain ⟨x, hx⟩ : ∃ x, x = n + m := ⟨_, rfl⟩
  have e2 : (n : Int) + (m : Int) = (x : Int) := by omega
  have e3 : wrap64 ((n : Int) + (m : Int)) = (x : Int) := by rw [e2]; exact IntWalk.wrap64_in _ (by omega)
  have e4 : IntKind.i64.wrap ((n : Int) + (m : Int)) = (x : Int) := by rw [e2]; exact IntWalk.i64_in _ (by omega)
  have hx2 : x ≤ 1099511627776 := by omega
  have s1 : decide ((1099511627776 : Int) < (x : Int)) = false := decide_eq_false (by omega)
  have s1b : (x : Int) ≤ 1099511627776 := by omega
  by_cases h3 : x = 1099511627776
  · have s2 : decide ((1099511627776 : Int) - (x : Int) < 1) = true := decide_eq_true (by omega)
    clear hm hn h2 hx h3 hx2
    go_enter Tryz.func14, Tryz.ntmps14
    go_wp2_with fail
    refine wp_loop_rounds 2 ?_
    rw [rounds_succ]
    go_wp2_with fail
    rw [rounds_succ]
    go_wp2_with fail
    go_ret
    exact ⟨1099511627776, rfl, Or.inr (by decide), by decide, Below.refl _ _⟩
  have s2 : decide ((1099511627776 : Int) - (x : Int) < 1) = false := decide_eq_false (by omega)
  have e5 : wrap64 ((x : Int) + 1) = ((x + 1 : Nat) : Int) := by rw [show (x : Int) + 1 = ((x + 1 : Nat) : Int) by omega]; exact IntWalk.wrap64_in _ (by omega)
  have e6 : IntKind.i64.wrap ((x : Int) + 1) = ((x + 1 : Nat) : Int) := by rw [show (x : Int) + 1 = ((x + 1 : Nat) : Int) by omega]; exact IntWalk.i64_in _ (by omega)
  have s3 : (1 : Int) ≤ 1099511627776 - (x : Int) := by omega
  have hfin : x + 1 = n + m + 1 ∧ x + 1 ≤ 1099511627776 := by omega
  have HF := Lib.hid hfin
  generalize hy : x + 1 = y at *
  clear hm hn h2 hx h3 hx2 hfin
  go_enter Tryz.func14, Tryz.ntmps14
  go_wp2_with fail
  refine wp_loop_rounds 3 ?_
  rw [rounds_succ]
  go_wp2_with fail
  rw [rounds_succ]
  go_wp2_with fail
  rw [rounds_succ]
  go_wp2_with fail
  go_ret
  exact ⟨y, by first | rfl | (rw [← hy]; rfl), Or.inl HF.out.1, HF.out.2, Below.refl _ _⟩
def SmallM (n : Nat) (e : Ending) : Prop := ∃ b : Bool, e = .returned (.bool b) ∧ (b = true → n ≤ 150)
set_option maxHeartbeats 2000000 in
set_option maxRecDepth 100000 in
theorem md_small {v : Value} {n : Nat} {D : Nat → MChg} (W : World) (h : MChs W v n D) :
    Calls Tryz.prog 5 #[v] W fun e w' => SmallM n e ∧ Gr W w' := by
  obtain ⟨ad, cap, B, off, rfl, c1, c2, c3, c4⟩ := h
  have HX := Lib.hid c4
  clear c4
  go_enter Tryz.func5, Tryz.ntmps5
  go_wp2_with fail
  go_loopg [3, 4] n (fun j x y wr => ∃ i t : Nat, x = .int .i64 t ∧ y = .int .i64 i ∧ i ≤ n ∧ t ≤ 2000 ∧ j = n - i ∧ Gr W wr)
  case atStart => exact ⟨0, 0, rfl, rfl, by omega, by omega, by omega, by go_grown⟩
  case round =>
    obtain ⟨i, t, rfl, rfl, hi, ht, hj, hg⟩ := hrel
    by_cases hin : i < n
    · have ti : decide ((i : Int) < (n : Int)) = true := decide_eq_true (by omega)
      have ti2 : decide (i < n) = true := decide_eq_true hin
      have ti3 : (i : Int) < (n : Int) := by omega
      have ti4 : (i : Int) < (cap : Int) := by omega
      obtain rfl := c3 (by omega)
      obtain ⟨-, -, -, q3, ⟨kad, kcap, KB, koff, ek, k1, k2, k3, k4⟩, -⟩ := HX.out i hin
      rw [ek] at q3
      have r3 := cell_gr hg q3
      obtain ⟨m, hm⟩ : ∃ m, m = (D i).n := ⟨_, rfl⟩
      rw [← hm] at r3 k1
      have hm9 : m ≤ 9223372036854775807 := by omega
      have AS := Lib.hid (fun (B' : Nat) w (h0 : w.cell? ⟨B', 0, none⟩ = some (.int .i64 m)) (h1 : w.cell? ⟨B', 1, none⟩ = some (.int .i64 1)) => md_Sum2 t m B' ht hm9 w h0 h1)
      clear q3 k1 k2 k3 k4 ek hm hm9
      go_wp2_with fail
      go_at_call 14
      refine (AS.out _ _ (by go_simp) (by go_simp)).mono ?_
      rintro e w1 ⟨r, rfl, hr, hr2, g1⟩
      have G1 : Gr W w1 := Gr.trans (Gr.trans hg ((Below.refl _ _).alloc (Nat.le_refl _) _)) g1
      by_cases hb : r ≤ 2000
      · have tb : decide ((2000 : Int) < (r : Int)) = false := decide_eq_false (by omega)
        have tb2 : (r : Int) ≤ 2000 := by omega
        clear g1 hr hr2
        go_wp2_with fail
        go_roundg (n - (i + 1))
        case measure => omega
        case rel => exact ⟨i + 1, r, rfl, by go_num, by omega, hb, by omega, G1⟩
      · have tb : decide ((2000 : Int) < (r : Int)) = true := decide_eq_true (by omega)
        clear g1 hr hr2
        go_wp2_with fail
        go_ret
        exact ⟨⟨false, rfl, fun h => (by cases h)⟩, G1⟩
    · obtain rfl : i = n := by omega
      have ti : decide ((i : Int) < (i : Int)) = false := decide_eq_false (by omega)
      have ti3 : ¬ (i : Int) < (i : Int) := by omega
      by_cases h2 : i ≤ 150
      · have t9 : decide ((i : Int) ≤ 150) = true := decide_eq_true (by omega)
        have t9b : decide (i ≤ 150) = true := decide_eq_true h2
        go_wp2_with fail
        go_ret
        exact ⟨⟨true, rfl, fun _ => h2⟩, hg⟩
      · have t9 : decide ((i : Int) ≤ 150) = false := decide_eq_false (by omega)
        have t9b : decide (i ≤ 150) = false := decide_eq_false h2
        go_wp2_with fail
        go_ret
        exact ⟨⟨false, rfl, fun h => (by cases h)⟩, hg⟩
end Go.Proofs.YtapfecmdfoobcaaGreatDoor
