import Derived.Test.YtpomllpplpalkaaGreatDoorTo
import Derived.Test.YtpomllpplpalkaaGreatDoorWo
import Derived.Test.YtpomllpplpalkaaGreatDoorTj
/- stage's law: items and steps that come in; which are looked at -/
namespace Go.Proofs.YtpomllpplpalkaaGreatDoor
set_option linter.unusedVariables false
set_option linter.unusedSimpArgs false
open Go.ChangeShapes Go.WideShapes Go.ChangeAt Go.RowKit Go.Maps

section
variable {H : Type} {enc : TypeId × Value → H} {P : Program} {w : World} {base : Nat} {sp : Nat → Bool} {held : Bool} {r : Reach} {b0 : Nat}
theorem cells3i {a : Addr} {x0 x1 x2 : Value} (h : w.cells? base a 3 = some [x0, x1, x2]) : w.cell? (a.add 0) = some x0 ∧ w.cell? (a.add 1) = some x1 ∧ w.cell? (a.add 2) = some x2 := by
  unfold World.cells? at h
  split at h
  · rw [show List.range 3 = [0, 1, 2] from rfl] at h
    simp only [List.mapM_cons, List.mapM_nil] at h
    obtain ⟨y0, h0, h⟩ := Option.bind_eq_some_iff.1 h
    obtain ⟨t0, h, e0⟩ := Option.bind_eq_some_iff.1 h
    obtain ⟨y1, h1, h⟩ := Option.bind_eq_some_iff.1 h
    obtain ⟨t1, h, e1⟩ := Option.bind_eq_some_iff.1 h
    obtain ⟨y2, h2, h⟩ := Option.bind_eq_some_iff.1 h
    obtain ⟨t2, h, e2⟩ := Option.bind_eq_some_iff.1 h
    cases h; cases e2; cases e1; cases e0
    exact ⟨h0, h1, h2⟩
  · cases h
theorem open_items {tt ti to' s p u : TypeId} {I0 I1 O0 O1 G0 G1 : Field} {x : Value} {d : DataW H} {ps : List MemPlace} (htt : P.underlying tt = some (.slice ti)) (hsi : P.underlying ti = some (.struct #[I0, I1])) (hso : P.underlying to' = some (.struct #[O0, O1]))
    (hI0 : I0.type = u ∧ I0.offset = 0) (hI1 : I1.type = to' ∧ I1.offset = 1) (hO0 : O0.type = u ∧ O0.offset = 0) (hO1 : O1.type = s ∧ O1.offset = 1)
    (ci : P.cellsOf ti = 3) (co : P.cellsOf to' = 2) (cs' : P.cellsOf s = 1)
    (ht : P.underlying s = some (.slice p)) (hp : P.underlying p = some (.struct #[G0, G1])) (hu : P.underlying u = some (.int .i64))
    (hG0 : G0.type = u ∧ G0.offset = 0) (hG1 : G1.type = u ∧ G1.offset = 1) (cp : P.cellsOf p = 2) (cu : P.cellsOf u = 1)
    (hval : Value.okWide P w r b0 tt x) (hd : DataW.Trod enc P w base sp held tt x d ps) : ∃ (n : Nat) (D : Nat → MChg), Its w x n D := by
  have hform : (x = .slice none 0 0) ∨ ∃ a n c, x = .slice (some a) n c ∧ n ≤ c ∧ (c : Int) ≤ IntKind.i64.max ∧ a.spot = none := by
    simp only [Value.okWide, htt, Cell.okWide] at hval
    cases x <;> simp only [Cell.ok, htt] at hval <;> try exact hval.elim
    rename_i a n c
    cases a with
    | none =>
      left
      cases n <;> cases c <;> first | rfl | exact hval.elim
    | some a => right; exact ⟨a, n, c, rfl, hval.1, hval.2.1, hval.2.2.2.1⟩
  rcases hform with rfl | ⟨⟨b, off, sp0⟩, n, cap, rfl, h1, h2, h3⟩
  · exact ⟨0, fun _ => MChg.none, none, 0, 0, 0, rfl, Nat.le_refl _, by decide, fun h => absurd h (by omega), fun k h => absurd h (by omega)⟩
  cases h3
  have h2' : cap ≤ 9223372036854775807 := by
    have : IntKind.i64.max = 9223372036854775807 := rfl
    omega
  obtain ⟨fuel, hf⟩ := hd
  rcases Deep.open_slice htt hf with ⟨h, -⟩ | ⟨a, len, cap', m, q', D, Pl, hv, -, hl, -, hm, -, hel⟩
  · simp [Value.cells] at h
  · simp only [Value.cells, List.cons.injEq, Value.slice.injEq, Option.some.injEq, and_true] at hv
    obtain ⟨rfl, rfl, rfl⟩ := hv
    have hlm : n ≤ m := by rw [hm]; split <;> omega
    have key : ∀ k, k < n → ∃ c : MChg, w.cell? ⟨b, off + k * 3, none⟩ = some (.int .i64 c.id) ∧ w.cell? ⟨b, off + k * 3 + 1, none⟩ = some (.int .i64 c.k) ∧ w.cell? ⟨b, off + k * 3 + 2, none⟩ = some c.v ∧ Pts w c.v c.n c.X c.Y ∧ i64R c.id ∧ c.kd = 1 := fun k hk => by
      obtain ⟨cs0, hc, htr⟩ := hel k (by omega)
      rw [ci, addr_addm] at hc
      have hlen : cs0.length = 3 := (World.cells?_some hc).2.1
      obtain ⟨y2, y3, j2, -, -, t2, t3⟩ := trod_struct2 hsi htr
      match cs0, hlen with
      | [xb, xc, xe], _ =>
        rw [hI0.1, hI0.2, cu] at t2
        rw [hI1.1, hI1.2, co] at t3
        obtain ⟨z1, q1, -, hw1⟩ := DataW.trod_int hu t2
        simp at q1
        obtain ⟨y4, y5, j3, -, -, t4, t5⟩ := trod_struct2 hso t3
        rw [hO0.1, hO0.2, cu] at t4
        rw [hO1.1, hO1.2, cs'] at t5
        obtain ⟨z2, q2, -, -⟩ := DataW.trod_int hu t4
        simp at q2
        subst q1 q2
        have t6 : DataW.trod enc P w base sp held j3 s [xe] = some y5 := by simpa using t5
        obtain ⟨m', X, Y, hP⟩ := trod_ptsC ht hp hu hG0 hG1 cp cu t6
        obtain ⟨k0, k1, k2⟩ := cells3i hc
        rw [addr_addm] at k0 k1 k2
        exact ⟨⟨1, z1, z2, xe, m', X, Y⟩, k0, k1, k2, hP, bounds_i64 hw1, rfl⟩
    refine ⟨n, fun k => if h : k < n then (key k h).choose else MChg.none, some ⟨b, off, none⟩, cap, b, off, rfl, h1, h2', fun _ => rfl, fun k hk => ?_⟩
    simp only [dif_pos hk]
    exact (key k hk).choose_spec
theorem open_msteps {tt t to' s p u : TypeId} {F0 F1 F2 O0 O1 G0 G1 : Field} {x : Value} {d : DataW H} {ps : List MemPlace} (htt : P.underlying tt = some (.slice t)) (hs : P.underlying t = some (.struct #[F0, F1, F2])) (hso : P.underlying to' = some (.struct #[O0, O1]))
    (hF0 : F0.type = u ∧ F0.offset = 0) (hF1 : F1.type = u ∧ F1.offset = 1) (hF2 : F2.type = to' ∧ F2.offset = 2) (hO0 : O0.type = u ∧ O0.offset = 0) (hO1 : O1.type = s ∧ O1.offset = 1)
    (ct : P.cellsOf t = 4) (co : P.cellsOf to' = 2) (cs' : P.cellsOf s = 1)
    (ht : P.underlying s = some (.slice p)) (hp : P.underlying p = some (.struct #[G0, G1])) (hu : P.underlying u = some (.int .i64))
    (hG0 : G0.type = u ∧ G0.offset = 0) (hG1 : G1.type = u ∧ G1.offset = 1) (cp : P.cellsOf p = 2) (cu : P.cellsOf u = 1)
    (hval : Value.okWide P w r b0 tt x) (hd : DataW.Trod enc P w base sp held tt x d ps) : ∃ (n : Nat) (D : Nat → MChg), MChs w x n D := by
  have hform : (x = .slice none 0 0) ∨ ∃ a n c, x = .slice (some a) n c ∧ n ≤ c ∧ (c : Int) ≤ IntKind.i64.max ∧ a.spot = none := by
    simp only [Value.okWide, htt, Cell.okWide] at hval
    cases x <;> simp only [Cell.ok, htt] at hval <;> try exact hval.elim
    rename_i a n c
    cases a with
    | none =>
      left
      cases n <;> cases c <;> first | rfl | exact hval.elim
    | some a => right; exact ⟨a, n, c, rfl, hval.1, hval.2.1, hval.2.2.2.1⟩
  rcases hform with rfl | ⟨⟨b, off, sp0⟩, n, cap, rfl, h1, h2, h3⟩
  · exact ⟨0, fun _ => MChg.none, none, 0, 0, 0, rfl, Nat.le_refl _, by decide, fun h => absurd h (by omega), fun k h => absurd h (by omega)⟩
  cases h3
  have h2' : cap ≤ 9223372036854775807 := by
    have : IntKind.i64.max = 9223372036854775807 := rfl
    omega
  obtain ⟨fuel, hf⟩ := hd
  rcases Deep.open_slice htt hf with ⟨h, -⟩ | ⟨a, len, cap', m, q', D, Pl, hv, -, hl, -, hm, -, hel⟩
  · simp [Value.cells] at h
  · simp only [Value.cells, List.cons.injEq, Value.slice.injEq, Option.some.injEq, and_true] at hv
    obtain ⟨rfl, rfl, rfl⟩ := hv
    have hlm : n ≤ m := by rw [hm]; split <;> omega
    have key : ∀ k, k < n → ∃ c : MChg, MChgAt w b (off + k * 4) c := fun k hk => by
      obtain ⟨cs0, hc, htr⟩ := hel k (by omega)
      rw [ct, addr_addm] at hc
      have hlen : cs0.length = 4 := (World.cells?_some hc).2.1
      obtain ⟨y0, y1, y2, j, -, -, t0, t1, t2⟩ := Deep.trod_struct3 hs htr
      match cs0, hlen with
      | [xa, xb, xc, xe], _ =>
        rw [hF0.1, hF0.2, cu] at t0
        rw [hF1.1, hF1.2, cu] at t1
        rw [hF2.1, hF2.2, co] at t2
        obtain ⟨z0, q0, -, -⟩ := DataW.trod_int hu t0
        simp at q0
        obtain ⟨z1, q1, -, hw1⟩ := DataW.trod_int hu t1
        simp at q1
        obtain ⟨y4, y5, j3, -, -, t4, t5⟩ := trod_struct2 hso t2
        rw [hO0.1, hO0.2, cu] at t4
        rw [hO1.1, hO1.2, cs'] at t5
        obtain ⟨z2, q2, -, -⟩ := DataW.trod_int hu t4
        simp at q2
        subst q0 q1 q2
        have t6 : DataW.trod enc P w base sp held j3 s [xe] = some y5 := by simpa using t5
        obtain ⟨m', X, Y, hP⟩ := trod_ptsC ht hp hu hG0 hG1 cp cu t6
        obtain ⟨k0, k1, k2, k3⟩ := cells4m hc
        rw [addr_addm] at k0 k1 k2 k3
        exact ⟨⟨z0, z1, z2, xe, m', X, Y⟩, k0, k1, k2, k3, hP, bounds_i64 hw1⟩
    refine ⟨n, fun k => if h : k < n then (key k h).choose else MChg.none, some ⟨b, off, none⟩, cap, b, off, rfl, h1, h2', fun _ => rfl, fun k hk => ?_⟩
    simp only [dif_pos hk]
    exact (key k hk).choose_spec
end
def SumTo (n k : Nat) (f : Nat → Nat) (e : Ending) : Prop := ∃ r : Nat, e = .returned (.int .i64 (r : Nat)) ∧ r ≤ 1099511627776 ∧ (r ≤ 2000 → n ≤ 2000 ∧ ∀ i, i < k → f i ≤ 2000)
set_option maxHeartbeats 2000000 in
set_option maxRecDepth 100000 in
theorem c_SumN (n k B : Nat) (f : Nat → Nat) (hn : n ≤ 1099511627776) (hk : k ≤ 1000) (hf : ∀ i, i < k → f i ≤ 9223372036854775807) (W : World) (hc : ∀ i, i < k → W.cell? ⟨B, i, none⟩ = some (.int .i64 (f i : Nat))) :
    Calls Tryz.prog 68 #[.int .i64 n, .slice (some ⟨B, 0, none⟩) k k] W fun e w' => SumTo n k f e ∧ Gr W w' := by
  have HC := Lib.hid (And.intro hc hf)
  have hk9 : (k : Int) ≤ 1000 := by omega
  clear hc hf
  go_enter Tryz.func68, Tryz.ntmps68
  go_wp2_with fail
  go_loopg [0, 5] k (fun m a x wr => ∃ i t : Nat, a = .int .i64 t ∧ x = .int .i64 i ∧ i ≤ k ∧ m = k - i ∧ t ≤ 1099511627776 ∧ Hid (t ≤ 2000 → n ≤ 2000 ∧ ∀ j, j < i → f j ≤ 2000) ∧ Gr W wr)
  case atStart => exact ⟨0, n, rfl, rfl, Nat.zero_le _, by omega, hn, Lib.hid (fun h => ⟨h, fun j hj => absurd hj (Nat.not_lt_zero _)⟩), Below.refl _ _⟩
  case round =>
    obtain ⟨i, t, rfl, rfl, hi, hm, ht, HT, gwr⟩ := hrel
    by_cases hlt : i < k
    · have ti : decide ((i : Int) < (k : Int)) = true := decide_eq_true (by omega)
      have ti2 : decide (i < k) = true := decide_eq_true hlt
      have ti3 : (i : Int) < (k : Int) := by omega
      have hmm2 : k - (i + 1) < gk := by omega
      have p0 := cell_gr gwr (HC.out.1 i hlt)
      have hfi := HC.out.2 i hlt
      obtain ⟨m, em⟩ : ∃ m, m = f i := ⟨_, rfl⟩
      rw [← em] at p0 hfi
      have HM := Lib.hid em
      have zB := World.block_lt_of_cell? _ _ p0
      have t1 : decide ((1099511627776 : Int) < (t : Int)) = false := decide_eq_false (by omega)
      have hfi9 : (m : Int) ≤ 9223372036854775807 := by omega
      have e0 : wrap64 (1099511627776 - (t : Int)) = 1099511627776 - (t : Int) := IntWalk.wrap64_in _ (by omega)
      have e0b : IntKind.i64.wrap (1099511627776 - (t : Int)) = 1099511627776 - (t : Int) := IntWalk.i64_in _ (by omega)
      clear em hn
      by_cases h2 : 1099511627776 < t + m
      · have t2 : decide ((1099511627776 : Int) - (t : Int) < (m : Int)) = true := decide_eq_true (by omega)
        clear h2
        go_wp2_with fail
        go_ret
        exact ⟨⟨1099511627776, rfl, Nat.le_refl _, fun h => absurd h (by decide)⟩, gwr⟩
      · have t2 : decide ((1099511627776 : Int) - (t : Int) < (m : Int)) = false := decide_eq_false (by omega)
        obtain ⟨y, hy⟩ : ∃ y, y = t + m := ⟨_, rfl⟩
        have e2 : (t : Int) + (m : Int) = (y : Int) := by omega
        have htI : (t : Int) ≤ 1099511627776 := by omega
        have hmI : (m : Int) ≤ 1099511627776 := by omega
        have ht0 : (0 : Int) ≤ (t : Int) := by omega
        have hm0 : (0 : Int) ≤ (m : Int) := by omega
        have hy2 : y ≤ 1099511627776 := by omega
        have HT2 : Hid (y ≤ 2000 → n ≤ 2000 ∧ ∀ j, j < i + 1 → f j ≤ 2000) := Lib.hid (fun h => ⟨(HT.out (by omega)).1, fun j hj => by
          by_cases e : j = i
          · rw [e, ← HM.out]; omega
          · exact (HT.out (by omega)).2 j (by omega)⟩)
        clear h2 hy
        go_wp2_with fail
        go_roundg (k - (i + 1))
        case measure => omega
        case rel => exact ⟨i + 1, y, rfl, by go_num, by omega, rfl, hy2, HT2, gwr⟩
    · obtain rfl : i = k := by omega
      have ti : decide ((i : Int) < (i : Int)) = false := decide_eq_false (by omega)
      have ti2 : decide (i < i) = false := decide_eq_false (by omega)
      clear hm
      go_wp2_with fail
      go_ret
      exact ⟨⟨t, rfl, ht, HT.out⟩, gwr⟩
set_option maxHeartbeats 2000000 in
set_option maxRecDepth 100000 in
theorem c_Items {v : Value} {n : Nat} {D : Nat → MChg} (W : World) (h : Its W v n D) : Calls Tryz.prog 67 #[v, .int .i64 1000] W fun e w' => (∃ r : Nat, e = .returned (.int .i64 (r : Nat)) ∧ r ≤ 1099511627776) ∧ Gr W w' := by
  obtain ⟨ad, cap, B, off, rfl, h1, h2, h3, h4⟩ := h
  have HX := Lib.hid h4
  have HA := Lib.hid h3
  have hn9 : (n : Int) ≤ 9223372036854775807 := by omega
  clear h3 h4
  go_enter Tryz.func67, Tryz.ntmps67
  go_wp2_with fail
  go_at_call 68
  refine (c_SumN 0 1 _ (fun _ => n) (by decide) (by decide) (fun _ _ => by omega) _ (fun i hi => by (obtain rfl : i = 0 := (by omega)); go_simp)).mono ?_
  rintro e w1 ⟨⟨r, rfl, hr, -⟩, g1⟩
  have G1 : Gr W w1 := Gr.trans (by go_grown) g1
  clear g1
  go_wp2_with fail
  go_loopg [5, 6] n (fun m a x wr => ∃ i t : Nat, a = .int .i64 t ∧ x = .int .i64 i ∧ i ≤ n ∧ m = n - i ∧ t ≤ 1099511627776 ∧ Gr W wr)
  case atStart => exact ⟨0, r, rfl, rfl, Nat.zero_le _, by omega, hr, G1⟩
  case round =>
    obtain ⟨i, t, rfl, rfl, hi, hm, ht, gwr⟩ := hrel
    by_cases hlt : i < n
    · have ti : decide ((i : Int) < (n : Int)) = true := decide_eq_true (by omega)
      have ti2 : decide (i < n) = true := decide_eq_true hlt
      have ti3 : (i : Int) < (n : Int) := by omega
      have ti4 : (i : Int) < (cap : Int) := by omega
      have hmm2 : n - (i + 1) < gk := by omega
      by_cases h2 : t ≤ 1000
      · have t2 : decide ((t : Int) ≤ 1000) = true := decide_eq_true (by omega)
        have t3 : decide (t ≤ 1000) = true := decide_eq_true h2
        obtain rfl := HA.out (by omega)
        obtain ⟨-, -, q2, ⟨kad, kcap, KB, koff, ek, k1, k2, -, -⟩, -⟩ := HX.out i hlt
        rw [ek] at q2
        have p2 := cell_gr gwr q2
        have p2' : wr.cell? ⟨B, off + i * 3 + 1 + 1, none⟩ = _ := p2
        obtain ⟨m, em⟩ : ∃ m, m = (D i).n := ⟨_, rfl⟩
        rw [← em] at p2 p2' k1
        have zB := World.block_lt_of_cell? _ _ p2
        have AS := Lib.hid (fun (B' : Nat) w (hc : w.cell? ⟨B', 0, none⟩ = some (.int .i64 m)) => c_SumN t 1 B' (fun _ => m) ht (by decide) (fun _ _ => by omega) w (fun i hi => by (obtain rfl : i = 0 := (by omega)); exact hc))
        clear q2 ek em h2
        go_wp2_with fail
        go_at_call 68
        refine (AS.out _ _ (by go_simp)).mono ?_
        rintro e w2 ⟨⟨r2, rfl, hr2, -⟩, g2⟩
        have G2 : Gr W w2 := Gr.trans gwr (Gr.trans (by go_grown) g2)
        clear g2 p2 p2' zB
        go_wp2_with fail
        go_roundg (n - (i + 1))
        case measure => omega
        case rel => exact ⟨i + 1, r2, rfl, by go_num, by omega, rfl, hr2, G2⟩
      · have t2 : decide ((t : Int) ≤ 1000) = false := decide_eq_false (by omega)
        have t3 : decide (t ≤ 1000) = false := decide_eq_false h2
        clear h2
        go_wp2_with fail
        go_ret
        exact ⟨⟨t, rfl, ht⟩, gwr⟩
    · obtain rfl : i = n := by omega
      have ti : decide ((i : Int) < (i : Int)) = false := decide_eq_false (by omega)
      have ti2 : decide (i < i) = false := decide_eq_false (by omega)
      clear hm
      go_wp2_with fail
      go_ret
      exact ⟨⟨t, rfl, ht⟩, gwr⟩
def SmallS (nb nl : Nat) (D : Nat → MChg) (e : Ending) : Prop := ∃ b : Bool, e = .returned (.bool b) ∧ (b = true → nb ≤ 60 ∧ nl ≤ 100 ∧ ∀ i, i < nl → (D i).n ≤ 2000)
set_option maxHeartbeats 4000000 in
set_option maxRecDepth 100000 in
theorem st_small {v u : Value} {nb n : Nat} {Db D : Nat → MChg} (W : World) (hb : Its W v nb Db) (h : MChs W u n D) : Calls Tryz.prog 24 #[v, u] W fun e w' => SmallS nb n D e ∧ Gr W w' := by
  have AI := Lib.hid (c_Items W hb)
  obtain ⟨bd, bcap, _, _, rfl, hb1, hb2, -, -⟩ := hb
  obtain ⟨ad, cap, B, off, rfl, c1, c2, c3, c4⟩ := h
  have HX := Lib.hid c4
  have HA := Lib.hid c3
  have hn9 : (n : Int) ≤ 9223372036854775807 := by omega
  have hnb9 : (nb : Int) ≤ 9223372036854775807 := by omega
  clear c3 c4
  go_enter Tryz.func24, Tryz.ntmps24
  go_wp2_with fail
  go_at_call 67
  refine (AI.out).mono ?_
  rintro e w1 ⟨⟨r, rfl, hr⟩, g1⟩
  go_wp2_with fail
  go_loopg [5, 6] n (fun m a x wr => ∃ i t : Nat, a = .int .i64 t ∧ x = .int .i64 i ∧ i ≤ n ∧ m = n - i ∧ t ≤ 1099511627776 ∧ Hid (t ≤ 2000 → ∀ j, j < i → (D j).n ≤ 2000) ∧ Gr W wr)
  case atStart => exact ⟨0, r, rfl, rfl, Nat.zero_le _, by omega, hr, Lib.hid (fun _ j hj => absurd hj (Nat.not_lt_zero _)), g1⟩
  case round =>
    obtain ⟨i, t, rfl, rfl, hi, hm, ht, HT, gwr⟩ := hrel
    by_cases hlt : i < n
    · have ti : decide ((i : Int) < (n : Int)) = true := decide_eq_true (by omega)
      have ti2 : decide (i < n) = true := decide_eq_true hlt
      have ti3 : (i : Int) < (n : Int) := by omega
      have ti4 : (i : Int) < (cap : Int) := by omega
      have hmm2 : n - (i + 1) < gk := by omega
      obtain rfl := HA.out (by omega)
      obtain ⟨-, -, -, q3, ⟨kad, kcap, KB, koff, ek, k1, k2, -, -⟩, -⟩ := HX.out i hlt
      rw [ek] at q3
      have p3 := cell_gr gwr q3
      have p3' : wr.cell? ⟨B, off + i * 4 + 2 + 1, none⟩ = _ := p3
      obtain ⟨m, em⟩ : ∃ m, m = (D i).n := ⟨_, rfl⟩
      rw [← em] at p3 p3' k1
      have HM := Lib.hid em
      have zB := World.block_lt_of_cell? _ _ p3
      have AS := Lib.hid (fun (B' : Nat) w (h0 : w.cell? ⟨B', 0, none⟩ = some (.int .i64 m)) (h1 : w.cell? ⟨B', 1, none⟩ = some (.int .i64 1)) => c_SumN t 2 B' (fun i => if i = 0 then m else 1) ht (by decide) (fun i _ => by split <;> omega) w (fun i hi => by
        rcases (by omega : i = 0 ∨ i = 1) with rfl | rfl
        · exact h0
        · exact h1))
      clear q3 ek em
      go_wp2_with fail
      go_at_call 68
      refine (AS.out _ _ (by go_simp) (by go_simp)).mono ?_
      rintro e w2 ⟨⟨r2, rfl, hr2, hr3⟩, g2⟩
      have G2 : Gr W w2 := Gr.trans gwr (Gr.trans (by go_grown) g2)
      have HT2 : Hid (r2 ≤ 2000 → ∀ j, j < i + 1 → (D j).n ≤ 2000) := Lib.hid (fun h j hj => by
        obtain ⟨h1, h2⟩ := hr3 h
        by_cases e : j = i
        · rw [e, ← HM.out]; exact h2 0 (by decide)
        · exact HT.out h1 j (by omega))
      clear g2 p3 p3' zB hr3
      go_wp2_with fail
      go_roundg (n - (i + 1))
      case measure => omega
      case rel => exact ⟨i + 1, r2, rfl, by go_num, by omega, rfl, hr2, HT2, G2⟩
    · obtain rfl : i = n := by omega
      have ti : decide ((i : Int) < (i : Int)) = false := decide_eq_false (by omega)
      have ti2 : decide (i < i) = false := decide_eq_false (by omega)
      clear hm
      by_cases h1 : t ≤ 2000
      · have t1 : decide ((t : Int) ≤ 2000) = true := decide_eq_true (by omega)
        have t1b : decide (t ≤ 2000) = true := decide_eq_true h1
        by_cases h2 : i ≤ 100
        · have t2 : decide ((i : Int) ≤ 100) = true := decide_eq_true (by omega)
          have t2b : decide (i ≤ 100) = true := decide_eq_true h2
          by_cases h3 : nb ≤ 60
          · have t3 : decide ((nb : Int) ≤ 60) = true := decide_eq_true (by omega)
            have t3b : decide (nb ≤ 60) = true := decide_eq_true h3
            have HH := Lib.hid (And.intro h1 (And.intro h2 h3))
            clear h1 h2 h3
            go_wp2_with fail
            go_ret
            exact ⟨⟨true, rfl, fun _ => ⟨HH.out.2.2, HH.out.2.1, HT.out HH.out.1⟩⟩, gwr⟩
          · have t3 : decide ((nb : Int) ≤ 60) = false := decide_eq_false (by omega)
            have t3b : decide (nb ≤ 60) = false := decide_eq_false h3
            clear h1 h2 h3
            go_wp2_with fail
            go_ret
            exact ⟨⟨false, rfl, fun h => (by cases h)⟩, gwr⟩
        · have t2 : decide ((i : Int) ≤ 100) = false := decide_eq_false (by omega)
          have t2b : decide (i ≤ 100) = false := decide_eq_false h2
          clear h1 h2
          go_wp2_with fail
          go_ret
          exact ⟨⟨false, rfl, fun h => (by cases h)⟩, gwr⟩
      · have t1 : decide ((t : Int) ≤ 2000) = false := decide_eq_false (by omega)
        have t1b : decide (t ≤ 2000) = false := decide_eq_false h1
        clear h1
        go_wp2_with fail
        go_ret
        exact ⟨⟨false, rfl, fun h => (by cases h)⟩, gwr⟩
end Go.Proofs.YtpomllpplpalkaaGreatDoor
/- StageNet: what all changes make, and the net ones; Same of two maps that are alike -/
namespace Go.Proofs.YtpomllpplpalkaaGreatDoor
set_option linter.unusedVariables false
set_option linter.unusedSimpArgs false
open Go.ChangeShapes Go.WideShapes Go.ChangeAt Go.RowKit Go.Maps Go.Sort

def AlikeS (σ τ : Int → Option MO) : Prop := ∀ z, i64R z → (σ z).isSome = (τ z).isSome ∧ ∀ o p, σ z = some o → τ z = some p → sameM o p = true
theorem alike_ids {σ τ : Int → Option MO} {l : List Int} (h : AlikeS σ τ) (hl : Ids σ l) : Ids τ l := ⟨hl.1, fun z => (hl.2 z).trans ⟨fun a => ⟨a.1, (h z a.1).1.symm.trans a.2⟩, fun a => ⟨a.1, (h z a.1).1.trans a.2⟩⟩⟩
theorem alike_some {σ τ : Int → Option MO} {z : Int} {o : MO} (h : AlikeS σ τ) (hz : i64R z) (ho : σ z = some o) : ∃ p, τ z = some p ∧ sameM o p = true := by
  obtain ⟨h1, h2⟩ := h z hz
  rw [ho] at h1
  obtain ⟨p, hp⟩ := Option.isSome_iff_exists.1 h1.symm
  exact ⟨p, hp, h2 o p ho hp⟩
set_option maxHeartbeats 4000000 in
set_option maxRecDepth 100000 in
theorem md_same2 {Q P N N' : Nat} {M M' : Option Nat} {σ τ : Int → Option MO} (hN : N ≤ 1000000) (hst : AlikeS σ τ) (W : World) (h : MdAt W Q M σ N) (h' : MdAt W P M' τ N') : Calls Tryz.prog 26 #[.pointer (some ⟨Q, 0, none⟩), .pointer (some ⟨P, 0, none⟩)] W fun e w' => e = .returned (.bool true) ∧ Gr W w' := by
  obtain ⟨l, hl, hln⟩ := ids_ex h
  have c0 : W.cell? ⟨Q, 0, none⟩ = some (.map M) := Hm.cell_of_heap h.1 0
  have d0 : W.cell? ⟨P, 0, none⟩ = some (.map M') := Hm.cell_of_heap h'.1 0
  have zQ := World.block_lt_of_cell? _ _ c0
  have zP := World.block_lt_of_cell? _ _ d0
  have hlen : (l.length : Int) ≤ 1000000 := by omega
  have AL := Lib.hid (fun w (g : Gr W w) => md_lenS hl w (mdAt_gr h g))
  have BL := Lib.hid (fun w (g : Gr W w) => md_lenS (alike_ids hst hl) w (mdAt_gr h' g))
  have AI := Lib.hid (fun w (g : Gr W w) => md_idsS hl hN w (mdAt_gr h g))
  have HH := Lib.hid (And.intro h h')
  have HL := Lib.hid hl
  have HST := Lib.hid hst
  clear h h' hl hst
  go_enter Tryz.func26, Tryz.ntmps26
  go_wp2_with fail
  go_at_call 28
  refine ((AL.out _ (by go_grown))).mono ?_
  rintro e w1 ⟨rfl, hw1⟩
  have cw1_0_0 : w1.cell? ⟨Q, 0, none⟩ = some (.map M) := cell_gr hw1 (by go_simp)
  have zw1_0 : Q < w1.heap.size := World.block_lt_of_cell? _ _ cw1_0_0
  have cw1_1_0 : w1.cell? ⟨P, 0, none⟩ = some (.map M') := cell_gr hw1 (by go_simp)
  have zw1_1 : P < w1.heap.size := World.block_lt_of_cell? _ _ cw1_1_0
  have gw1 : Gr W w1 := Gr.trans (by go_grown) hw1
  clear hw1
  go_wp2_with fail
  go_at_call 28
  refine ((BL.out _ (by have gg := gw1; go_grown))).mono ?_
  rintro e w2 ⟨rfl, hw2⟩
  have cw2_0_0 : w2.cell? ⟨Q, 0, none⟩ = some (.map M) := cell_gr hw2 (by go_simp)
  have zw2_0 : Q < w2.heap.size := World.block_lt_of_cell? _ _ cw2_0_0
  have cw2_1_0 : w2.cell? ⟨P, 0, none⟩ = some (.map M') := cell_gr hw2 (by go_simp)
  have zw2_1 : P < w2.heap.size := World.block_lt_of_cell? _ _ cw2_1_0
  have gw2 : Gr W w2 := Gr.trans (by have gg := gw1; have gs := gg.size; go_grown) hw2
  clear hw2 gw1 zw1_0 cw1_0_0 zw1_1 cw1_1_0
  go_wp2_with fail
  go_at_call 70
  refine (AI.out _ (by have gg := gw2; go_grown)).mono ?_
  rintro e w3 ⟨v, rfl, hrow, g3⟩
  obtain ⟨ad, cap, L, rfl, hnil, hcell⟩ := own_ints hrow
  have gw3 : Gr W w3 := Gr.trans gw2 g3
  have HC := Lib.hid (And.intro hnil hcell)
  clear hrow hnil hcell cw2_0_0 cw2_1_0 zw2_0 zw2_1 gw2 g3
  go_wp2_with fail
  go_loopg [15] l.length (fun k x wr => ∃ i : Nat, x = .int .i64 i ∧ i ≤ l.length ∧ k = l.length - i ∧ Gr w3 wr)
  case atStart => exact ⟨0, rfl, Nat.zero_le _, by omega, Below.refl _ _⟩
  case round =>
    obtain ⟨i, rfl, hi, hk, g3r⟩ := hrel
    have gwr : Gr W wr := Gr.trans gw3 g3r
    by_cases hlt : i < l.length
    · have ti : decide ((i : Int) < (l.length : Int)) = true := decide_eq_true (by omega)
      have ti2 : decide (i < l.length) = true := decide_eq_true hlt
      have ti3 : (i : Int) < (l.length : Int) := by omega
      have hii : (i : Int) ≤ 1000000 := by omega
      have hmm : l.length - (i + 1) < gk := by omega
      obtain rfl := HC.out.1 (by omega)
      have s0 := cell_gr g3r (HC.out.2 i hlt)
      have hz : l.getD i 0 ∈ l := by rw [List.getD_eq_getElem?_getD, List.getElem?_eq_getElem hlt]; exact List.getElem_mem hlt
      obtain ⟨hzi, hzs⟩ := (HL.out.2 _).1 hz
      generalize l.getD i 0 = z at s0 hz hzi hzs
      have hzL := World.block_lt_of_cell? _ _ s0
      obtain ⟨o, ho⟩ := Option.isSome_iff_exists.1 hzs
      obtain ⟨m, D, B, c, rfl, hD, hv, on, on2, hp⟩ := mdAt_some HH.out.1 hzi ho
      obtain ⟨o', ho', hoo⟩ := alike_some HST.out hzi ho
      obtain ⟨m', D', B', c', rfl, hD', hv', on', on2', hp'⟩ := mdAt_some HH.out.2 hzi ho'
      have hzs' : (τ z).isSome = true := by rw [ho']; rfl
      have AH := Lib.hid (fun w (g : Gr W w) => show Calls Tryz.prog 71 #[.pointer (some ⟨P, 0, none⟩), .int .i64 z] w (fun e w' => e = .returned (.bool true) ∧ Gr w w') from by
        have := md_has hzi w (mdAt_gr HH.out.2 g)
        rwa [hzs'] at this)
      have AS := Lib.hid (fun w (g : Gr W w) => md_oSame (k := o.k) (j := o'.k) true w (pts_gr hp g) (pts_gr hp' g) (by omega) (iff_of_true rfl (sameM_iff.1 hoo)))
      have HD := Lib.hid (And.intro hD (And.intro hv (And.intro hD' hv')))
      have HZ := Lib.hid hzi
      obtain ⟨ok, oN, oX, oY⟩ := o
      obtain ⟨pk, pN, pX, pY⟩ := o'
      clear hD hD' hv hv' hp hp' ho hzs hz hzi on on2 on' on2' ho' hoo hzs'
      have q0 : wr.cell? ⟨Q, 0, none⟩ = some (.map (some m)) := cell_gr gwr (Hm.cell_of_heap HH.out.1.1 0)
      have q1 : wr.cell? ⟨P, 0, none⟩ = some (.map (some m')) := cell_gr gwr (Hm.cell_of_heap HH.out.2.1 0)
      go_wp2_with fail
      go_wp2_with fail
      try simp only [List.append]
      refine Od.wp_region_ord [(0, false), (1, false), (2, true), (3, false), (4, false), (5, false), (6, false), (7, false), (8, false), (9, false), (10, false), (11, false), (12, false), (13, false), (14, false), (15, false), (16, false), (17, true), (18, false), (19, false)] (by kernel_rfl) (by kernel_rfl) ?_
      intro wa hwa KQ hKQ
      have cwa_0_0 : wa.cell? ⟨Q, 0, none⟩ = some (.map (some m)) := cell_gr hwa (by go_simp)
      have zwa_0 : Q < wa.heap.size := World.block_lt_of_cell? _ _ cwa_0_0
      have cwa_1_0 : wa.cell? ⟨P, 0, none⟩ = some (.map (some m')) := cell_gr hwa (by go_simp)
      have zwa_1 : P < wa.heap.size := World.block_lt_of_cell? _ _ cwa_1_0
      have gwa : Gr wr wa := Gr.trans (by go_grown) hwa
      skip
      clear hwa
      repeat (first | (refine Od.wpO_skip (by simp only [List.getElem?_toArray, List.getElem?_cons_succ, List.getElem?_cons_zero] <;> rfl) rfl ?_; simp only [Act.put, List.setIfInBounds_toArray, List.set_cons_zero, List.set_cons_succ]) | (refine Od.wpO_pure (by simp only [List.getElem?_toArray, List.getElem?_cons_succ, List.getElem?_cons_zero] <;> rfl) rfl ?_; apply Exists.intro; refine ⟨?_, ?_⟩; (· intro wx gx; obtain ⟨mx, rfl⟩ := spread_of_gr gx; clear gx; all_goals (apply Od.pAt_of_quiet; intro K hK; go_big_quiet_op; first | exact hK _ rfl | (apply Exists.intro; refine ⟨fun _ => ?_, ?_⟩; (· fail); exact hK _ rfl))); try simp only [Act.put, List.setIfInBounds_toArray, List.set_cons_zero, List.set_cons_succ]))
      refine Od.wpO_call (by simp only [List.getElem?_toArray, List.getElem?_cons_succ, List.getElem?_cons_zero] <;> rfl) rfl ?_
      intro QS hQS
      go_wp2_with fail
      go_at_call 71
      (with_reducible refine ((AH.out _ (Gr.trans gwr gwa))).mono ?_)
      rintro e wb ⟨rfl, hwb⟩
      go_wp2_with fail
      apply Exists.intro
      refine ⟨?_, hwb, ?_⟩
      · simp only [Act.put, List.setIfInBounds_toArray, List.set_cons_zero, List.set_cons_succ]; rfl
      have cwb_0_0 : wb.cell? ⟨Q, 0, none⟩ = some (.map (some m)) := cell_gr hwb (by go_simp)
      have zwb_0 : Q < wb.heap.size := World.block_lt_of_cell? _ _ cwb_0_0
      have cwb_1_0 : wb.cell? ⟨P, 0, none⟩ = some (.map (some m')) := cell_gr hwb (by go_simp)
      have zwb_1 : P < wb.heap.size := World.block_lt_of_cell? _ _ cwb_1_0
      have gwb : Gr wr wb := Gr.trans (by have gg := gwa; have gs := gg.size; go_grown) hwb
      clear gwa zwa_0 cwa_0_0 zwa_1 cwa_1_0
      clear hwb
      try simp only [Act.put, List.setIfInBounds_toArray, List.set_cons_zero, List.set_cons_succ]
      repeat (first | (refine Od.wpO_skip (by simp only [List.getElem?_toArray, List.getElem?_cons_succ, List.getElem?_cons_zero] <;> rfl) rfl ?_; simp only [Act.put, List.setIfInBounds_toArray, List.set_cons_zero, List.set_cons_succ]) | (refine Od.wpO_pure (by simp only [List.getElem?_toArray, List.getElem?_cons_succ, List.getElem?_cons_zero] <;> rfl) rfl ?_; apply Exists.intro; refine ⟨?_, ?_⟩; (· intro wx gx; obtain ⟨mx, rfl⟩ := spread_of_gr gx; clear gx; all_goals (apply Od.pAt_of_quiet; intro K hK; go_big_quiet_op; first | exact hK _ rfl | (apply Exists.intro; refine ⟨fun _ => ?_, ?_⟩; (· fail); exact hK _ rfl))); try simp only [Act.put, List.setIfInBounds_toArray, List.set_cons_zero, List.set_cons_succ]))
      refine Od.wpO_pure (by simp only [List.getElem?_toArray, List.getElem?_cons_succ, List.getElem?_cons_zero] <;> rfl) rfl ?_
      refine ⟨(.agg #[.int .i64 ok, .slice (some ⟨B, 0, none⟩) oN c]), ?_, ?_⟩
      · intro wx gx; exact (md_pLook (.tmp 27) (.tmp 28) _ rfl 3 34 KI Tryz.underlying103 (zeroO _) m N D rfl (ownsMap_kx (S := fun _ => False) HD.out.1 (Kx.of_gr (Gr.trans (Gr.trans gwr gwb) gx)) (fun h => h)) (.int .i64 z) (zk z) rfl (zk_of HZ.out) _ HD.out.2.1)
      try simp only [Act.put, List.setIfInBounds_toArray, List.set_cons_zero, List.set_cons_succ]
      repeat (first | (refine Od.wpO_skip (by simp only [List.getElem?_toArray, List.getElem?_cons_succ, List.getElem?_cons_zero] <;> rfl) rfl ?_; simp only [Act.put, List.setIfInBounds_toArray, List.set_cons_zero, List.set_cons_succ]) | (refine Od.wpO_pure (by simp only [List.getElem?_toArray, List.getElem?_cons_succ, List.getElem?_cons_zero] <;> rfl) rfl ?_; apply Exists.intro; refine ⟨?_, ?_⟩; (· intro wx gx; obtain ⟨mx, rfl⟩ := spread_of_gr gx; clear gx; all_goals (apply Od.pAt_of_quiet; intro K hK; go_big_quiet_op; first | exact hK _ rfl | (apply Exists.intro; refine ⟨fun _ => ?_, ?_⟩; (· fail); exact hK _ rfl))); try simp only [Act.put, List.setIfInBounds_toArray, List.set_cons_zero, List.set_cons_succ]))
      refine Od.wpO_pure (by simp only [List.getElem?_toArray, List.getElem?_cons_succ, List.getElem?_cons_zero] <;> rfl) rfl ?_
      refine ⟨(.agg #[.int .i64 pk, .slice (some ⟨B', 0, none⟩) pN c']), ?_, ?_⟩
      · intro wx gx; exact (md_pLook (.tmp 33) (.tmp 34) _ rfl 3 34 KI Tryz.underlying103 (zeroO _) m' N' D' rfl (ownsMap_kx (S := fun _ => False) HD.out.2.2.1 (Kx.of_gr (Gr.trans (Gr.trans gwr gwb) gx)) (fun h => h)) (.int .i64 z) (zk z) rfl (zk_of HZ.out) _ HD.out.2.2.2)
      try simp only [Act.put, List.setIfInBounds_toArray, List.set_cons_zero, List.set_cons_succ]
      repeat (first | (refine Od.wpO_skip (by simp only [List.getElem?_toArray, List.getElem?_cons_succ, List.getElem?_cons_zero] <;> rfl) rfl ?_; simp only [Act.put, List.setIfInBounds_toArray, List.set_cons_zero, List.set_cons_succ]) | (refine Od.wpO_pure (by simp only [List.getElem?_toArray, List.getElem?_cons_succ, List.getElem?_cons_zero] <;> rfl) rfl ?_; apply Exists.intro; refine ⟨?_, ?_⟩; (· intro wx gx; obtain ⟨mx, rfl⟩ := spread_of_gr gx; clear gx; all_goals (apply Od.pAt_of_quiet; intro K hK; go_big_quiet_op; first | exact hK _ rfl | (apply Exists.intro; refine ⟨fun _ => ?_, ?_⟩; (· fail); exact hK _ rfl))); try simp only [Act.put, List.setIfInBounds_toArray, List.set_cons_zero, List.set_cons_succ]))
      refine Od.wpO_call (by simp only [List.getElem?_toArray, List.getElem?_cons_succ, List.getElem?_cons_zero] <;> rfl) rfl ?_
      intro QS hQS
      go_wp2_with fail
      go_at_call 66
      (with_reducible refine ((AS.out _ (Gr.trans gwr gwb))).mono ?_)
      rintro e wc ⟨rfl, hwc⟩
      go_wp2_with fail
      apply Exists.intro
      refine ⟨?_, hwc, ?_⟩
      · simp only [Act.put, List.setIfInBounds_toArray, List.set_cons_zero, List.set_cons_succ]; rfl
      have cwc_0_0 : wc.cell? ⟨Q, 0, none⟩ = some (.map (some m)) := cell_gr hwc (by go_simp)
      have zwc_0 : Q < wc.heap.size := World.block_lt_of_cell? _ _ cwc_0_0
      have cwc_1_0 : wc.cell? ⟨P, 0, none⟩ = some (.map (some m')) := cell_gr hwc (by go_simp)
      have zwc_1 : P < wc.heap.size := World.block_lt_of_cell? _ _ cwc_1_0
      have gwc : Gr wr wc := Gr.trans (by have gg := gwb; have gs := gg.size; go_grown) hwc
      clear gwb zwb_0 cwb_0_0 zwb_1 cwb_1_0
      clear hwc
      try simp only [Act.put, List.setIfInBounds_toArray, List.set_cons_zero, List.set_cons_succ]
      repeat (first | (refine Od.wpO_skip (by simp only [List.getElem?_toArray, List.getElem?_cons_succ, List.getElem?_cons_zero] <;> rfl) rfl ?_; simp only [Act.put, List.setIfInBounds_toArray, List.set_cons_zero, List.set_cons_succ]) | (refine Od.wpO_pure (by simp only [List.getElem?_toArray, List.getElem?_cons_succ, List.getElem?_cons_zero] <;> rfl) rfl ?_; apply Exists.intro; refine ⟨?_, ?_⟩; (· intro wx gx; obtain ⟨mx, rfl⟩ := spread_of_gr gx; clear gx; all_goals (apply Od.pAt_of_quiet; intro K hK; go_big_quiet_op; first | exact hK _ rfl | (apply Exists.intro; refine ⟨fun _ => ?_, ?_⟩; (· fail); exact hK _ rfl))); try simp only [Act.put, List.setIfInBounds_toArray, List.set_cons_zero, List.set_cons_succ]))
      refine Od.wpO_nil (hKQ _ _ ?_)
      clear hKQ KQ
      go_wp2_with fail
      go_roundg (l.length - (i + 1))
      case measure => omega
      case rel => exact ⟨i + 1, by go_simp, by omega, rfl, Gr.trans g3r gwc⟩
    · obtain rfl : i = l.length := by omega
      have ti : decide ((l.length : Int) < (l.length : Int)) = false := decide_eq_false (by omega)
      have ti2 : decide (l.length < l.length) = false := decide_eq_false (by omega)
      clear hk
      go_wp2_with fail
      go_ret
      exact ⟨rfl, gwr⟩
def apc (s : Int → Option MO) (c : CS) : Nat := apN s c.kd c.id c.o.k c.o.n c.o.X c.o.Y
def aps (s : Int → Option MO) (c : CS) : Int → Option MO := apS s c.kd c.id c.o.k c.o.n c.o.X c.o.Y
def apL : (Int → Option MO) → List CS → Int → Option MO
  | s, [] => s
  | s, c :: G => apL (aps s c) G
def OkL : (Int → Option MO) → List CS → Prop
  | _, [] => True
  | s, c :: G => apc s c = 0 ∧ OkL (aps s c) G
theorem apL_app : ∀ (s : Int → Option MO) (G H : List CS), apL s (G ++ H) = apL (apL s G) H
  | _, [], _ => rfl
  | s, c :: G, H => apL_app (aps s c) G H
theorem okL_app : ∀ (s : Int → Option MO) (G H : List CS), OkL s (G ++ H) ↔ OkL s G ∧ OkL (apL s G) H
  | s, [], H => by show OkL s H ↔ True ∧ OkL s H; simp
  | s, c :: G, H => by show (apc s c = 0 ∧ OkL (aps s c) (G ++ H)) ↔ (apc s c = 0 ∧ OkL (aps s c) G) ∧ OkL (apL (aps s c) G) H; rw [okL_app (aps s c) G H, and_assoc]
theorem apc_0 {s : Int → Option MO} {c : CS} (h : apc s c = 0) : (0 ≤ c.id ∧ c.id ≤ 1099511627776) ∧ ((c.kd = 1 ∧ s c.id = none ∧ chgC 1 c.id c.o.k c.o.n c.o.X c.o.Y = 0 ∧ aps s c = updS s c.id (some c.o)) ∨ (c.kd = 2 ∧ (s c.id).isSome = true ∧ aps s c = updS s c.id none)) := by
  obtain ⟨kd, id, ⟨k, n, X, Y⟩⟩ := c
  have hc : chgC kd id k n X Y = 0 := by
    by_cases e : chgC kd id k n X Y = 0
    · exact e
    · have h' : apN s kd id k n X Y = 0 := h
      unfold apN at h'; rw [if_pos e] at h'; exact absurd h' e
  obtain ⟨h1, h2, h3⟩ := chgC_ok hc
  refine ⟨⟨h1, h2⟩, ?_⟩
  have h' : apN s kd id k n X Y = 0 := h
  have ha : aps s ⟨kd, id, ⟨k, n, X, Y⟩⟩ = if kd = 1 then updS s id (some ⟨k, n, X, Y⟩) else updS s id none := by
    show apS s kd id k n X Y = _
    unfold apS
    rw [if_neg (fun q => q h')]
  unfold apN at h'
  rw [if_neg (fun q => q hc)] at h'
  rcases h3 with ⟨e, -⟩ | ⟨e, -, -⟩
  · subst e
    rw [if_pos rfl] at h'
    refine Or.inl ⟨rfl, ?_, hc, ha.trans (if_pos rfl)⟩
    show s id = none
    cases hs : s id with
    | none => rfl
    | some o => rw [hs] at h'; exact absurd (show (6 : Nat) = 0 from h') (by decide)
  · subst e
    rw [if_neg (by decide)] at h'
    refine Or.inr ⟨rfl, ?_, ha.trans (if_neg (by decide))⟩
    show (s id).isSome = true
    cases hs : (s id).isSome with
    | true => rfl
    | false => rw [hs] at h'; exact absurd h' (by decide)
theorem okL_made : ∀ (G : List CS) (s : Int → Option MO), OkL s G → ∀ z, ((∀ c, c ∈ G → c.id ≠ z) → apL s G z = s z) ∧ ((∃ c, c ∈ G ∧ c.id = z) → (0 ≤ z ∧ z ≤ 1099511627776) ∧ ∀ p, apL s G z = some p → chgC 1 z p.k p.n p.X p.Y = 0)
  | [], s, _, z => ⟨fun _ => rfl, fun ⟨c, h, _⟩ => by cases h⟩
  | c :: G, s, h, z => by
    obtain ⟨h1, h2⟩ := apc_0 h.1
    have ih := okL_made G (aps s c) h.2 z
    have hu : ∀ y, y ≠ c.id → aps s c y = s y := fun y hy => by
      rcases h2 with ⟨-, -, -, e⟩ | ⟨-, -, e⟩ <;> rw [e] <;> exact if_neg hy
    refine ⟨fun hn => (ih.1 (fun d hd => hn d (List.mem_cons_of_mem _ hd))).trans (hu z (fun e => hn c List.mem_cons_self e.symm)), ?_⟩
    rintro ⟨d, hd, e⟩
    by_cases hG : ∃ d, d ∈ G ∧ d.id = z
    · exact ih.2 hG
    · have hdc : c.id = z := by
        rcases List.mem_cons.1 hd with q | q
        · rw [← q]; exact e
        · exact absurd ⟨d, q, e⟩ hG
      subst hdc
      refine ⟨h1, fun p hp => ?_⟩
      have e2 : apL (aps s c) G c.id = aps s c c.id := ih.1 (fun d hd q => hG ⟨d, hd, q⟩)
      have hp2 : aps s c c.id = some p := e2.symm.trans hp
      rcases h2 with ⟨-, -, h3, e3⟩ | ⟨-, -, e3⟩
      · rw [e3] at hp2
        have : some c.o = some p := (if_pos rfl).symm.trans hp2
        obtain rfl := Option.some.inj this
        exact h3
      · rw [e3] at hp2
        have : none = some p := (if_pos rfl).symm.trans hp2
        cases this
theorem ap_del {s : Int → Option MO} {z : Int} (h1 : 0 ≤ z ∧ z ≤ 1099511627776) (h2 : (s z).isSome = true) : apc s (delC z) = 0 ∧ aps s (delC z) = updS s z none := by
  have hc : chgC 2 z 0 0 (fun _ => 0) (fun _ => 0) = 0 := by rw [chgC_2 h1.1 h1.2]; exact if_neg (by decide)
  have e : apc s (delC z) = 0 := by
    show apN s 2 z 0 0 (fun _ => 0) (fun _ => 0) = 0
    unfold apN
    rw [if_neg (fun h => h hc), if_neg (by decide), if_pos h2]
  refine ⟨e, ?_⟩
  have e' : apN s 2 z 0 0 (fun _ => 0) (fun _ => 0) = 0 := e
  show apS s 2 z 0 0 (fun _ => 0) (fun _ => 0) = _
  unfold apS
  rw [if_neg (fun q => q e'), if_neg (by decide)]
theorem ap_put {s : Int → Option MO} {z : Int} {p : MO} (h1 : chgC 1 z p.k p.n p.X p.Y = 0) (h2 : s z = none) : apc s (putC z p) = 0 ∧ aps s (putC z p) = updS s z (some p) := by
  have e : apN s 1 z p.k p.n p.X p.Y = 0 := by
    unfold apN
    rw [if_neg (fun h => h h1), if_pos rfl, h2]
    rfl
  refine ⟨e, ?_⟩
  show apS s 1 z p.k p.n p.X p.Y = _
  unfold apS
  rw [if_neg (fun q => q e), if_pos rfl]
theorem netL_ok {a t : Int → Option MO} : ∀ (l : List Int) (s : Int → Option MO), l.Pairwise (· < ·) → (∀ z, z ∈ l → s z = a z ∧ (0 ≤ z ∧ z ≤ 1099511627776) ∧ ∀ p, t z = some p → chgC 1 z p.k p.n p.X p.Y = 0) → OkL s (netL a t l) ∧ ∀ z, (z ∉ l → apL s (netL a t l) z = s z) ∧ (z ∈ l → (apL s (netL a t l) z).isSome = (t z).isSome ∧ ∀ o p, apL s (netL a t l) z = some o → t z = some p → sameM o p = true)
  | [], s, _, _ => ⟨trivial, fun z => ⟨fun _ => rfl, fun h => by cases h⟩⟩
  | y :: l, s, hp, h => by
    obtain ⟨hy1, hy2⟩ := List.pairwise_cons.1 hp
    obtain ⟨h1, h2, h3⟩ := h y List.mem_cons_self
    have key : ∃ s', OkL s (netO y (a y) (t y)) ∧ apL s (netO y (a y) (t y)) = s' ∧ (∀ z, z ≠ y → s' z = s z) ∧ (s' y).isSome = (t y).isSome ∧ ∀ o p, s' y = some o → t y = some p → sameM o p = true := by
      cases ha : a y with
      | none =>
        cases ht : t y with
        | none => exact ⟨s, trivial, rfl, fun _ _ => rfl, by rw [h1, ha], fun o p ho hp => by cases hp⟩
        | some p =>
          obtain ⟨e1, e2⟩ := ap_put (s := s) (h3 p ht) (h1.trans ha)
          refine ⟨updS s y (some p), ⟨e1, trivial⟩, e2, fun z hz => if_neg hz, ?_, fun o q ho hq => ?_⟩
          · rw [show updS s y (some p) y = some p from if_pos rfl]
            first | done | rfl
          · rw [show updS s y (some p) y = some p from if_pos rfl] at ho
            obtain rfl := Option.some.inj ho
            obtain rfl := Option.some.inj hq
            exact sameM_rfl _
      | some b =>
        have hsy : (s y).isSome = true := by rw [h1, ha]; rfl
        obtain ⟨d1, d2⟩ := ap_del (s := s) h2 hsy
        cases ht : t y with
        | none =>
          refine ⟨updS s y none, ⟨d1, trivial⟩, d2, fun z hz => if_neg hz, ?_, fun o p ho hp => by cases hp⟩
          rw [show updS s y none y = none from if_pos rfl]
        | some p =>
          by_cases hs : sameM b p = true
          · have e : netO y (some b) (some p) = [] := if_pos hs
            rw [e]
            refine ⟨s, trivial, rfl, fun _ _ => rfl, by rw [hsy]; rfl, fun o q ho hq => ?_⟩
            rw [h1, ha] at ho
            obtain rfl := Option.some.inj ho
            obtain rfl := Option.some.inj hq
            exact hs
          · have e : netO y (some b) (some p) = [delC y, putC y p] := if_neg hs
            rw [e]
            have hn : aps s (delC y) y = none := by rw [d2]; exact if_pos rfl
            obtain ⟨e1, e2⟩ := ap_put (s := aps s (delC y)) (h3 p ht) hn
            refine ⟨updS (aps s (delC y)) y (some p), ⟨d1, e1, trivial⟩, e2, fun z hz => (if_neg hz).trans (by rw [d2]; exact if_neg hz), ?_, fun o q ho hq => ?_⟩
            · rw [show updS (aps s (delC y)) y (some p) y = some p from if_pos rfl]
              first | done | rfl
            · rw [show updS (aps s (delC y)) y (some p) y = some p from if_pos rfl] at ho
              obtain rfl := Option.some.inj ho
              obtain rfl := Option.some.inj hq
              exact sameM_rfl _
    obtain ⟨s', k1, k2, k3, k4, k5⟩ := key
    have ih := netL_ok (a := a) (t := t) l s' hy2 (fun z hz => by
      have := hy1 z hz
      obtain ⟨q1, q2, q3⟩ := h z (List.mem_cons_of_mem _ hz)
      exact ⟨(k3 z (by omega)).trans q1, q2, q3⟩)
    have ea : apL s (netL a t (y :: l)) = apL s' (netL a t l) := by
      show apL s (netO y (a y) (t y) ++ netL a t l) = _
      rw [apL_app, k2]
    have hyl : y ∉ l := fun q => by have := hy1 y q; omega
    refine ⟨?_, fun z => ?_⟩
    · show OkL s (netO y (a y) (t y) ++ netL a t l)
      rw [okL_app, k2]
      exact ⟨k1, ih.1⟩
    · rw [ea]
      by_cases e : z = y
      · subst e
        refine ⟨fun q => absurd List.mem_cons_self q, fun _ => ?_⟩
        rw [(ih.2 z).1 hyl]
        exact ⟨k4, k5⟩
      · refine ⟨fun q => ((ih.2 z).1 (fun r => q (List.mem_cons_of_mem _ r))).trans (k3 z e), fun q => (ih.2 z).2 ?_⟩
        rcases List.mem_cons.1 q with r | r
        · exact absurd r e
        · exact r
theorem net_ok {s : Int → Option MO} {G : List CS} {l : List Int} (h : OkL s G) (hl : KIds (fun z => ∃ c, c ∈ G ∧ c.id = z) l) : OkL s (netL s (apL s G) l) ∧ AlikeS (apL s (netL s (apL s G) l)) (apL s G) := by
  have hm := okL_made G s h
  have hn := netL_ok (a := s) (t := apL s G) l s hl.1 (fun z hz => ⟨rfl, (hm z).2 ((hl.2 z).1 hz).2⟩)
  refine ⟨hn.1, fun z hz => ?_⟩
  by_cases e : z ∈ l
  · exact (hn.2 z).2 e
  · have e1 := (hn.2 z).1 e
    have e2 : apL s G z = s z := (hm z).1 (fun c hc q => e ((hl.2 z).2 ⟨hz, c, hc, q⟩))
    rw [e1, e2]
    refine ⟨rfl, fun o p ho hp => ?_⟩
    rw [ho] at hp
    obtain rfl := Option.some.inj hp
    exact sameM_rfl _
section
variable {W w w' : World} {N k : Nat} {Q : Nat → Nat} {M : Nat → Option Nat} {σ : Nat → Int → Option MO} {S b j : Nat} {op : Bool} {G : List CS}
theorem StF.addm {C : Nat} {MC : Option Nat} {τ : Int → Option MO} (F : StF W w N k Q M σ S b j op G) (h : MdAt w' C MC τ N) (hC : w.heap.size ≤ C) (hMC : ∀ m, MC = some m → w.heap.size ≤ m) (g : Gr w w') :
    StF W w' N (k + 1) (fun i => if i = k then C else Q i) (fun i => if i = k then MC else M i) (fun i => if i = k then τ else σ i) S b j op G := by
  obtain ⟨f, h1, h2, h3, cv, L, h4, h5, h6⟩ := F
  refine ⟨f.more h hC hMC g, by omega, by omega, h3, cv, L, ?_, h5.gr g, h6⟩
  simp only [show ¬ b = k by omega, show ¬ j = k by omega, if_false]
  exact heap_kx (S := fun _ => False) (Kx.of_gr g) (fun h => h) h4
theorem StF.doneR {i c : Nat} {id : Int} {σ' : Int → Option MO} {e : Ending} {base : Nat} {v : Value} {L : List MChg} (F : StF W w N k Q M σ S b j op G) (hi : i < k) (hr : ChRow w base v L) (h : MdTo w (Q i) (M i) N id c σ' e w') :
    ∃ o v' M', e = .returned v' ∧ WErr o w' v' id c ∧ StF W w' (N + 1) k Q M' (fun a => if a = i then σ' else σ a) S b j op G ∧ ChRow w' base v L := by
  have h' := h
  obtain ⟨_, _, _, -, -, -, -, -, K⟩ := h'
  obtain ⟨o, v', M', rfl, hw, -, F'⟩ := F.done hi h
  exact ⟨o, v', M', rfl, hw, F', hr.ty K (fun x hx => ⟨F.fam.at hi hx (by decide), F.fam.at hi hx (by decide)⟩)⟩
end
end Go.Proofs.YtpomllpplpalkaaGreatDoor
/- StageNet: the walk -/
namespace Go.Proofs.YtpomllpplpalkaaGreatDoor
set_option linter.unusedVariables false
set_option linter.unusedSimpArgs false
open Go.ChangeShapes Go.WideShapes Go.ChangeAt Go.RowKit Go.Maps

def sgN (a s t : Int → Option MO) (i : Nat) : Int → Option MO := if i = 0 then a else if i = 3 then s else if i = 4 then t else a
def sh3 (b a s t : Int → Option MO) (i : Nat) : Int → Option MO := if i = 0 then a else if i = 3 then s else if i = 4 then t else b
theorem apC_of {G : List CS} {s : Int → Option MO} {c : CS} (h : doC true G s c = 0) : apc s c = 0 := by
  unfold doC at h
  rw [if_neg (by decide)] at h
  split at h
  · cases h
  · exact h
theorem do_run {P : World} {N : Nat} {Q : Nat → Nat} {S : Nat} {s0 : Int → Option MO} {G : List CS} {c : CS} {e : Ending} {w' : World} (h : DoTo P N 4 Q (fun a => if a = 3 then apL s0 G else s0) S 2 3 true G c e w') (ok : OkL s0 G) :
    ∃ u M' G', e = .returned u ∧ (∃ o, WErr stageS w' u c.id o) ∧ OkL s0 G' ∧ G'.length ≤ G.length + 1 ∧ StF P w' (N + 1) 4 Q M' (fun a => if a = 3 then apL s0 G' else s0) S 2 3 true G' := by
  obtain ⟨u, M', rfl, hu, F⟩ := h
  have e3 : (fun a => if a = 3 then apL s0 G else s0 : Nat → Int → Option MO) 3 = apL s0 G := rfl
  rw [e3] at F hu
  by_cases hc : doC true G (apL s0 G) c = 0
  · rw [show doS true G (apL s0 G) c = aps (apL s0 G) c from if_pos hc, show doG true G (apL s0 G) c = G ++ [c] from if_pos hc] at F
    have ea : apL s0 (G ++ [c]) = aps (apL s0 G) c := apL_app s0 G [c]
    refine ⟨u, M', G ++ [c], rfl, ⟨_, hu⟩, (okL_app s0 G [c]).2 ⟨ok, apC_of hc, trivial⟩, by rw [List.length_append]; exact Nat.le_refl _, F.as (fun i hi => ?_)⟩
    rw [ea]
    by_cases q : i = 3
    · simp only [q, if_true]
    · simp only [q, if_false]
  · rw [show doS true G (apL s0 G) c = apL s0 G from if_neg hc, show doG true G (apL s0 G) c = G from if_neg hc] at F
    refine ⟨u, M', G, rfl, ⟨_, hu⟩, ok, Nat.le_succ _, F.as (fun i hi => ?_)⟩
    by_cases q : i = 3
    · simp only [q, if_true]
    · simp only [q, if_false]
theorem okL_at : ∀ (G : List CS) (s : Int → Option MO) (i : Nat) (c : CS), OkL s G → G[i]? = some c → apc (apL s (G.take i)) c = 0 ∧ apL s (G.take (i + 1)) = aps (apL s (G.take i)) c
  | [], s, i, c, _, h => by simp at h
  | d :: G, s, 0, c, h, e => by
    obtain rfl : d = c := by simpa using e
    exact ⟨h.1, rfl⟩
  | d :: G, s, i + 1, c, h, e => okL_at G (aps s d) i c h.2 (by simpa using e)
theorem sem_at {L : List MChg} {i : Nat} (h : i < L.length) : (L.map chSem)[i]? = some (chSem (L.getD i MChg.nul)) := by
  rw [List.getElem?_map, List.getD_eq_getElem?_getD, List.getElem?_eq_getElem h]
  rfl
set_option maxHeartbeats 16000000 in
set_option maxRecDepth 100000 in
theorem walk_StageNet (W : World) (vb vl : Value) (hb0 : ∃ (n : Nat) (D : Nat → MChg), Its W vb n D) (hl0 : ∃ (n : Nat) (D : Nat → MChg), MChs W vl n D) (hE : ErrT W) : Calls Tryz.prog 5 #[vb, vl] W fun e w' => e = .returned (.bool true) ∧ Gr W w' := by
  obtain ⟨nb, Db, hb⟩ := hb0
  obtain ⟨n, D, hl⟩ := hl0
  have HE := Lib.hid hE
  have AS := Lib.hid (st_small W hb hl)
  have HB := Lib.hid hb
  obtain ⟨bd, bcap, _, _, rfl, -, -, -, -⟩ := hb
  obtain ⟨ad, cap, B, off, rfl, h1, h2, h3, h4⟩ := hl
  have HX := Lib.hid h4
  have HA := Lib.hid h3
  clear hE h3 h4
  go_enter Tryz.func5, Tryz.ntmps5
  go_wp2_with fail
  go_at_call 24
  refine (AS.out).mono ?_
  rintro e w1 ⟨⟨b, rfl, hb⟩, g1⟩
  clear AS
  have HG1 := Lib.hid g1
  clear g1
  cases b with
  | false =>
    clear hb
    have AW := Lib.hid (p24_awake w1 (errT_gr HE.out HG1.out))
    go_wp2_with fail
    go_at_call 10
    refine (AW.out).mono ?_
    rintro e w99 ⟨rfl, g99⟩
    go_wp2_with fail
    go_ret
    exact ⟨rfl, Gr.trans HG1.out g99⟩
  | true =>
    obtain ⟨hnb, hn, hDn⟩ := hb rfl
    have HDn := Lib.hid hDn
    have hn9 : (n : Int) ≤ 100 := by omega
    have AM := Lib.hid (st_made hnb w1 (its_gr HB.out HG1.out))
    clear hb hDn
    go_wp2_with fail
    go_at_call 20
    refine (AM.out).mono ?_
    rintro e w2 ⟨Q1, X1, M1, L1, rfl, F1, -⟩
    obtain ⟨s0, hs0⟩ : ∃ s0, s0 = stM Db nb := ⟨_, rfl⟩
    rw [← hs0] at F1
    have HF1 := Lib.hid F1
    have AC := Lib.hid (md_Copy w2 (F1.md 0 (by decide)))
    clear F1 AM hs0
    go_wp2_with fail
    go_at_call 25
    refine (AC.out).mono ?_
    rintro e w3 ⟨C1, MC1, rfl, a1, a2, a3, g3⟩
    have F3 : Fam w1 w3 nb 2 (fun j => if j = 1 then C1 else Q1) (fun j => if j = 1 then MC1 else M1 j) (fun _ => s0) := (HF1.out.more a3 a1 a2 g3).as (fun _ _ => rfl) (fun j hj => by
      rcases (by omega : j = 0 ∨ j = 1) with rfl | rfl <;> rfl)
    have AN := Lib.hid (st_New (b := 0) (by decide) F3)
    clear F3 a1 a2 a3 g3 AC
    go_wp2_with fail
    go_at_call 11
    refine (AN.out).mono ?_
    rintro e w4 ⟨S, Q, M4, rfl, hQ, F4⟩
    have e0 : Q 0 = Q1 := hQ 0 (by decide)
    have e1 : Q 1 = C1 := hQ 1 (by decide)
    have HF4 : Hid (StF w1 w4 nb 4 Q M4 (fun a => if a = 3 then apL s0 [] else s0) S 2 3 true []) := Lib.hid (F4.as (fun a ha => by
      rcases (by omega : a = 0 ∨ a = 1 ∨ a = 2 ∨ a = 3) with rfl | rfl | rfl | rfl <;> rfl))
    clear F4 AN hQ HF1
    subst e0
    subst e1
    go_wp2_with fail
    go_loopg [10] n (fun m x wq => ∃ (i : Nat) (M : Nat → Option Nat) (G : List CS), x = .int .i64 i ∧ i ≤ n ∧ m = n - i ∧ Hid (OkL s0 G ∧ G.length ≤ i ∧ StF w1 wq (nb + i) 4 Q M (fun a => if a = 3 then apL s0 G else s0) S 2 3 true G))
    case atStart => exact ⟨0, M4, [], rfl, Nat.zero_le _, by omega, Lib.hid ⟨trivial, Nat.le_refl _, HF4.out⟩⟩
    case round =>
      obtain ⟨i, M, G, rfl, hi, hk, HF⟩ := hrel
      have hGl : G.length ≤ 100 := by have := HF.out.2.1; omega
      by_cases hlt : i < n
      · have ti : decide ((i : Int) < (n : Int)) = true := decide_eq_true (by omega)
        have ti2 : decide (i < n) = true := decide_eq_true hlt
        have ti3 : (i : Int) < (n : Int) := by omega
        have ti4 : (i : Int) < (cap : Int) := by omega
        have ti5 : (i : Int) ≤ 100 := by omega
        have hmm2 : n - (i + 1) < gk := by omega
        have hDi := HDn.out i hlt
        obtain rfl := HA.out (by omega)
        rcases ec : D i with ⟨kd, id, kk, vv, m, Xf, Yf⟩
        have q := HX.out i hlt
        rw [ec] at q hDi
        obtain ⟨q0, q1, q2, q3, q4, q5⟩ := q
        simp only at q0 q1 q2 q3 q4 q5 hDi
        have HQ := Lib.hid (And.intro q4 q5)
        have G01 := Gr.trans HG1.out HF.out.2.2.fam.gr
        have p0 := cell_gr G01 q0
        have p1 := cell_gr G01 q1
        have p2 := cell_gr G01 q2
        obtain ⟨pad, pcap, _, _, rfl, _⟩ := q4
        have p3 := cell_gr G01 q3
        have zB := World.block_lt_of_cell? _ _ p0
        have HG01 := Lib.hid G01
        clear q0 q1 q2 q3 q5 ec G01
        by_cases hkd : kd = 2
        · have tk : (kd == 2) = true := by simpa using hkd
          have AD := Lib.hid (st_Del HQ.out.2 (by omega) (by omega) HF.out.2.2)
          clear hkd
          go_wp2_with fail
          go_at_call 21
          refine (AD.out).mono ?_
          intro e w5 h5
          obtain ⟨u, M5, G5, rfl, ⟨oc, hu⟩, ok5, hG5, F5⟩ := do_run h5 HF.out.1
          have HF5 := Lib.hid (And.intro ok5 (And.intro hG5 F5))
          have hGi := HF.out.2.1
          clear h5 ok5 F5 AD p0 p1 p2 p3 zB hu
          go_wp2_with fail
          go_roundg (n - (i + 1))
          case measure => omega
          case rel => exact ⟨i + 1, M5, G5, by go_num, by omega, rfl, Lib.hid ⟨HF5.out.1, by omega, HF5.out.2.2⟩⟩
        · have tk : (kd == 2) = false := by simpa using hkd
          clear hkd
          have p3' := p3
          have zB2 := zB
          go_wp2_with fail
          try simp only [List.append]
          refine Od.wp_region_ordT 11 [(0, false), (1, false), (2, false), (3, false), (4, false), (5, false), (6, false), (7, false), (8, false), (9, false), (10, false)] (by kernel_rfl) (by kernel_rfl) ?_
          intro w5 hw5 KQ hKQ
          have r1 := cell_gr hw5 p1
          have r2 := cell_gr hw5 p2
          have r3 := cell_gr hw5 p3
          have r3' : w5.cell? ⟨B, off + i * 4 + 2 + 1, none⟩ = _ := r3
          have zr := World.block_lt_of_cell? _ _ r1
          have HW5 := Lib.hid hw5
          clear hw5 p0 p1 p2 p3 p3' zB zB2
          repeat (first | (refine Od.wpO_skip (by simp only [List.getElem?_toArray, List.getElem?_cons_succ, List.getElem?_cons_zero] <;> rfl) rfl ?_; simp only [Act.put, List.setIfInBounds_toArray, List.set_cons_zero, List.set_cons_succ]) | (refine Od.wpO_pure (by simp only [List.getElem?_toArray, List.getElem?_cons_succ, List.getElem?_cons_zero] <;> rfl) rfl ?_; apply Exists.intro; refine ⟨?_, ?_⟩; (· intro wx gx; obtain ⟨mx, rfl⟩ := spread_of_gr gx; clear gx; all_goals (apply Od.pAt_of_quiet; intro K hK; go_big_quiet_op; first | exact hK _ rfl | (apply Exists.intro; refine ⟨fun _ => ?_, ?_⟩; (· fail); exact hK _ rfl))); try simp only [Act.put, List.setIfInBounds_toArray, List.set_cons_zero, List.set_cons_succ]))
          refine Od.wpO_nil (hKQ _ _ ?_)
          clear hKQ KQ
          have AP := Lib.hid (st_Put (kk := kk) (n := m) (v := .slice pad m pcap) HQ.out.2 (by omega) (by omega) (by omega) (HF.out.2.2.to HW5.out) (pts_gr HQ.out.1 (Gr.trans HG01.out HW5.out)))
          go_wp2_with fail
          go_at_call 15
          refine (AP.out).mono ?_
          intro e w6 h6
          obtain ⟨u, M5, G5, rfl, ⟨oc, hu⟩, ok5, hG5, F5⟩ := do_run h6 HF.out.1
          have HF5 := Lib.hid (And.intro ok5 (And.intro hG5 F5))
          have hGi := HF.out.2.1
          clear h6 ok5 F5 AP r1 r2 r3 r3' zr hu
          go_wp2_with fail
          go_roundg (n - (i + 1))
          case measure => omega
          case rel => exact ⟨i + 1, M5, G5, by go_num, by omega, rfl, Lib.hid ⟨HF5.out.1, by omega, HF5.out.2.2⟩⟩
      · obtain rfl : i = n := by omega
        have ti : decide ((i : Int) < (i : Int)) = false := decide_eq_false (by omega)
        have ti2 : decide (i < i) = false := decide_eq_false (by omega)
        have ASm := Lib.hid (fun w' (g : Gr wr w') => md_sameEq (N := nb + i) (by omega) w' ((HF.out.2.2.to g).fam.md 0 (by decide)) ((HF.out.2.2.to g).fam.md 1 (by decide)))
        obtain ⟨s, hs⟩ : ∃ s, s = apL s0 G := ⟨_, rfl⟩
        have HS := Lib.hid hs
        clear hk HF4 hs hi
        go_wp2_with fail
        go_at_call 26
        refine (ASm.out _ (Below.refl _ _)).mono ?_
        rintro e w5 ⟨rfl, g5⟩
        have HF5 := Lib.hid (HF.out.2.2.to g5)
        have AC := Lib.hid (md_Copy w5 (HF5.out.fam.md 0 (by decide)))
        clear g5 ASm
        go_wp2_with fail
        go_at_call 25
        refine (AC.out).mono ?_
        rintro e w6 ⟨C2, MC2, rfl, a1, a2, a3, g6⟩
        have HF6 : Hid (StF w1 w6 (nb + i) 5 (fun j => if j = 4 then C2 else Q j) (fun j => if j = 4 then MC2 else M j) (sgN s0 s (apL s0 [])) S 2 3 true G) := Lib.hid ((HF5.out.addm a3 a1 a2 g6).as (fun a ha => by
          rcases (by omega : a = 0 ∨ a = 1 ∨ a = 2 ∨ a = 3 ∨ a = 4) with rfl | rfl | rfl | rfl | rfl
          · rfl
          · rfl
          · rfl
          · exact HS.out.symm
          · rfl))
        have AN := Lib.hid (st_Net HF6.out (by omega))
        clear a1 a2 a3 g6 AC HF5
        go_wp2_with fail
        go_at_call 22
        refine (AN.out).mono ?_
        rintro e w7 ⟨l, hl, hll, v7, L, rfl, hr, hL, g7⟩
        have hL2 : L.map chSem = netL s0 (apL s0 G) l := by rw [← HS.out]; exact hL
        obtain ⟨nok, nal⟩ := net_ok HF.out.1 hl
        rw [← hL2] at nok nal
        rw [← HS.out] at nal
        have hLl : L.length ≤ 2 * l.length := by
          have a := congrArg List.length hL2
          rw [List.length_map] at a
          rw [a]
          exact netL_len _ _ _
        obtain ⟨ad7, cp7, rfl, hcp7, -⟩ := own_any hr.own
        have HR7 := Lib.hid hr
        have HF7 := Lib.hid (HF6.out.to g7)
        have HN := Lib.hid (And.intro nok nal)
        have hll9 : (L.length : Int) ≤ 200 := by omega
        obtain ⟨N0, hN0⟩ : ∃ N0, N0 = nb + i := ⟨_, rfl⟩
        have hN0l : N0 ≤ 160 := by omega
        have HF7' : Hid (StF w1 w7 N0 5 (fun j => if j = 4 then C2 else Q j) (fun j => if j = 4 then MC2 else M j) (sgN s0 s (apL s0 [])) S 2 3 true G) := Lib.hid (by rw [hN0]; exact HF7.out)
        clear hr hL hL2 g7 AN hl nok nal hN0 HF7 HF6
        go_wp2_with fail
        go_loopg [13] L.length (fun m x wq => ∃ (j : Nat) (M : Nat → Option Nat), x = .int .i64 j ∧ j ≤ L.length ∧ m = L.length - j ∧ Hid (StF w1 wq (N0 + j) 5 (fun j => if j = 4 then C2 else Q j) M (sgN s0 s (apL s0 ((L.map chSem).take j))) S 2 3 true G ∧ ChRow wq w6.heap.size (.slice ad7 L.length cp7) L))
        case atStart => exact ⟨0, _, rfl, Nat.zero_le _, by omega, Lib.hid ⟨HF7'.out, HR7.out⟩⟩
        case round =>
          obtain ⟨j, Mj, rfl, hj, hk, HFj⟩ := hrel
          by_cases hjt : j < L.length
          · have tj : decide ((j : Int) < (L.length : Int)) = true := decide_eq_true (by omega)
            have tj2 : decide (j < L.length) = true := decide_eq_true hjt
            have tj3 : (j : Int) < (L.length : Int) := by omega
            have tj4 : (j : Int) < (cp7 : Int) := by omega
            have hmm3 : L.length - (j + 1) < gk := by omega
            obtain ⟨Dj, hDj⟩ := chRow_at HFj.out.2
            obtain ⟨rfl, q0, q1, q2, q3, q4, q5, q6⟩ := hDj j hjt
            obtain ⟨k1, k2⟩ := okL_at (L.map chSem) s0 j _ HN.out.1 (sem_at hjt)
            rcases ec : L.getD j MChg.nul with ⟨kd, id, kk, vv, m, Xf, Yf⟩
            rw [ec] at q0 q1 q2 q3 q4 q5 q6 k1 k2
            simp only at q0 q1 q2 q3 q4 q5 q6
            have HK := Lib.hid (And.intro k1 k2)
            have AA := Lib.hid (md_Apply (kd := kd) (k := kk) q5 (show N0 + j < 1000000 by omega) wr (HFj.out.1.fam.md 4 (by decide)) q4.1)
            obtain ⟨pad, pcap, _, _, rfl, _⟩ := q4.1
            have zD := World.block_lt_of_cell? _ _ q0
            clear q4 q5 q6 k1 k2 ec hDj
            go_wp2_with fail
            go_at_call 27
            refine (AA.out).mono ?_
            intro e w8 h8
            obtain ⟨o8, u8, M8, rfl, hu8, F8, hr8⟩ := HFj.out.1.doneR (i := 4) (by decide) HFj.out.2 h8
            have h0 : apN (apL s0 ((L.map chSem).take j)) kd id kk m Xf Yf = 0 := HK.out.1
            have hs8 : apS (apL s0 ((L.map chSem).take j)) kd id kk m Xf Yf = apL s0 ((L.map chSem).take (j + 1)) := HK.out.2.symm
            have hu9 : WErr o8 w8 u8 id 0 := by rw [← h0]; exact hu8
            obtain rfl := werr_0 hu9
            have HF8 : Hid (StF w1 w8 (N0 + (j + 1)) 5 (fun j => if j = 4 then C2 else Q j) M8 (sgN s0 s (apL s0 ((L.map chSem).take (j + 1)))) S 2 3 true G ∧ ChRow w8 w6.heap.size (.slice (some ⟨Dj, 0, none⟩) L.length cp7) L) := Lib.hid ⟨F8.as (fun a ha => by
              rcases (by omega : a = 0 ∨ a = 1 ∨ a = 2 ∨ a = 3 ∨ a = 4) with rfl | rfl | rfl | rfl | rfl
              all_goals first | rfl | exact hs8), hr8⟩
            clear h8 hu8 hu9 F8 hr8 h0 hs8 AA q0 q1 q2 q3 zD
            go_wp2_with fail
            go_roundg (L.length - (j + 1))
            case measure => omega
            case rel => exact ⟨j + 1, M8, by go_num, by omega, rfl, HF8⟩
          · obtain rfl : j = L.length := by omega
            have tj : decide ((L.length : Int) < (L.length : Int)) = false := decide_eq_false (by omega)
            have tj2 : decide (L.length < L.length) = false := decide_eq_false (by omega)
            have hfull : (L.map chSem).take L.length = L.map chSem := by rw [List.take_of_length_le (by rw [List.length_map]; exact Nat.le_refl _)]
            have AC3 := Lib.hid (st_Changes HFj.out.1 (by omega))
            have HOk := Lib.hid HF.out.1
            clear hk
            go_wp2_with fail
            go_at_call 17
            refine (AC3.out).mono ?_
            rintro e w9 ⟨v9, L2, rfl, hr2, hL2, g9⟩
            obtain ⟨bz, hbz⟩ : ∃ bz, bz = wr.heap.size := ⟨_, rfl⟩
            rw [← hbz] at hr2
            obtain ⟨ad9, cp9, rfl, hcp9, -⟩ := own_any hr2.own
            have hL2l : L2.length = G.length := by rw [← hL2, List.length_map]
            obtain ⟨N1, hN1⟩ : ∃ N1, N1 = N0 + L.length := ⟨_, rfl⟩
            have hN1l : N1 ≤ 360 := by omega
            have HF8b : Hid (StF w1 w9 N1 5 (fun j => if j = 4 then C2 else Q j) Mj (sh3 s0 (apL s0 ((L2.map chSem).take 0)) s (apL s0 (L.map chSem))) S 2 3 true G) := Lib.hid (by
              rw [hN1]
              exact (HFj.out.1.to g9).as (fun a ha => by
                rcases (by omega : a = 0 ∨ a = 1 ∨ a = 2 ∨ a = 3 ∨ a = 4) with rfl | rfl | rfl | rfl | rfl
                · rfl
                · rfl
                · rfl
                · rfl
                · show apL s0 ((L.map chSem).take L.length) = _; rw [hfull]; rfl))
            have HR9 := Lib.hid hr2
            have HL2 := Lib.hid hL2
            have hl29 : (L2.length : Int) ≤ 100 := by omega
            have hlG : L.length ≤ 2 * L2.length := by omega
            clear hr2 hL2 g9 AC3 hN1 hfull HFj tj tj2 hbz
            go_wp2_with fail
            go_loopg [15] L2.length (fun m x wq => ∃ (j : Nat) (M : Nat → Option Nat), x = .int .i64 j ∧ j ≤ L2.length ∧ m = L2.length - j ∧ Hid (StF w1 wq (N1 + j) 5 (fun j => if j = 4 then C2 else Q j) M (sh3 s0 (apL s0 ((L2.map chSem).take j)) s (apL s0 (L.map chSem))) S 2 3 true G ∧ ChRow wq bz (.slice ad9 L2.length cp9) L2))
            case atStart => exact ⟨0, Mj, rfl, Nat.zero_le _, by omega, Lib.hid ⟨HF8b.out, HR9.out⟩⟩
            case round =>
              obtain ⟨j, Mj, rfl, hj, hk, HFj⟩ := hrel
              by_cases hjt : j < L2.length
              · have tj : decide ((j : Int) < (L2.length : Int)) = true := decide_eq_true (by omega)
                have tj2 : decide (j < L2.length) = true := decide_eq_true hjt
                have tj3 : (j : Int) < (L2.length : Int) := by omega
                have tj4 : (j : Int) < (cp9 : Int) := by omega
                have hmm3 : L2.length - (j + 1) < gk := by omega
                obtain ⟨Dj, hDj⟩ := chRow_at HFj.out.2
                obtain ⟨rfl, q0, q1, q2, q3, q4, q5, q6⟩ := hDj j hjt
                obtain ⟨k1, k2⟩ := okL_at (L2.map chSem) s0 j _ (by rw [HL2.out]; exact HOk.out) (sem_at hjt)
                rcases ec : L2.getD j MChg.nul with ⟨kd, id, kk, vv, m, Xf, Yf⟩
                rw [ec] at q0 q1 q2 q3 q4 q5 q6 k1 k2
                simp only at q0 q1 q2 q3 q4 q5 q6
                have HK := Lib.hid (And.intro k1 k2)
                have AA := Lib.hid (md_Apply (kd := kd) (k := kk) q5 (show N1 + j < 1000000 by omega) wr (HFj.out.1.fam.md 0 (by decide)) q4.1)
                obtain ⟨pad, pcap, _, _, rfl, _⟩ := q4.1
                have zD := World.block_lt_of_cell? _ _ q0
                clear q4 q5 q6 k1 k2 ec hDj
                go_wp2_with fail
                go_at_call 27
                refine (AA.out).mono ?_
                intro e w8 h8
                obtain ⟨o8, u8, M8, rfl, hu8, F8, hr8⟩ := HFj.out.1.doneR (i := 0) (by decide) HFj.out.2 h8
                have h0 : apN (apL s0 ((L2.map chSem).take j)) kd id kk m Xf Yf = 0 := HK.out.1
                have hs8 : apS (apL s0 ((L2.map chSem).take j)) kd id kk m Xf Yf = apL s0 ((L2.map chSem).take (j + 1)) := HK.out.2.symm
                have hu9 : WErr o8 w8 u8 id 0 := by rw [← h0]; exact hu8
                obtain rfl := werr_0 hu9
                have HF8 : Hid (StF w1 w8 (N1 + (j + 1)) 5 (fun j => if j = 4 then C2 else Q j) M8 (sh3 s0 (apL s0 ((L2.map chSem).take (j + 1))) s (apL s0 (L.map chSem))) S 2 3 true G ∧ ChRow w8 bz (.slice (some ⟨Dj, 0, none⟩) L2.length cp9) L2) := Lib.hid ⟨F8.as (fun a ha => by
                  rcases (by omega : a = 0 ∨ a = 1 ∨ a = 2 ∨ a = 3 ∨ a = 4) with rfl | rfl | rfl | rfl | rfl
                  all_goals first | rfl | exact hs8), hr8⟩
                clear h8 hu8 hu9 F8 hr8 h0 hs8 AA q0 q1 q2 q3 zD
                go_wp2_with fail
                go_roundg (L2.length - (j + 1))
                case measure => omega
                case rel => exact ⟨j + 1, M8, by go_num, by omega, rfl, HF8⟩
              · obtain rfl : j = L2.length := by omega
                have tj : decide ((L2.length : Int) < (L2.length : Int)) = false := decide_eq_false (by omega)
                have tj2 : decide (L2.length < L2.length) = false := decide_eq_false (by omega)
                have hfull : (L2.map chSem).take L2.length = L2.map chSem := by rw [List.take_of_length_le (by rw [List.length_map]; exact Nat.le_refl _)]
                have HF9 : Hid (StF w1 wr (N1 + L2.length) 5 (fun j => if j = 4 then C2 else Q j) Mj (sh3 s0 s s (apL s0 (L.map chSem))) S 2 3 true G) := Lib.hid (HFj.out.1.as (fun a ha => by
                  rcases (by omega : a = 0 ∨ a = 1 ∨ a = 2 ∨ a = 3 ∨ a = 4) with rfl | rfl | rfl | rfl | rfl
                  · show apL s0 ((L2.map chSem).take L2.length) = s; rw [hfull, HL2.out]; exact HS.out.symm
                  · rfl
                  · rfl
                  · rfl
                  · rfl))
                have ASm := Lib.hid (md_same2 (N := N1 + L2.length) (by omega) HN.out.2 wr (HF9.out.fam.md 4 (by decide)) (HF9.out.fam.md 0 (by decide)))
                obtain ⟨l9, hl9, -⟩ := ids_ex (HF9.out.fam.md 3 (by decide))
                have AL := Lib.hid (fun w' (g : Gr wr w') => st_Len (HF9.out.to g) hl9)
                have AL2 := Lib.hid (fun w' (g : Gr wr w') => md_lenS hl9 w' ((HF9.out.to g).fam.md 0 (by decide)))
                have hln : L.length ≤ 2 * L2.length := by omega
                obtain ⟨u, hu⟩ : ∃ u : Nat, u = 2 * L2.length := ⟨_, rfl⟩
                have ew1 : wrap64 (2 * (L2.length : Int)) = (u : Int) := (wr_small (by omega)).trans (by omega)
                have ew2 : IntKind.i64.wrap (2 * (L2.length : Int)) = (u : Int) := (wk_small (by omega)).trans (by omega)
                have tu : decide ((L.length : Int) ≤ (u : Int)) = true := decide_eq_true (by omega)
                have tu2 : decide (L.length ≤ u) = true := decide_eq_true (by omega)
                obtain ⟨y, hy⟩ : ∃ y, y = l9.length := ⟨_, rfl⟩
                rw [← hy] at AL AL2
                have ty : ((y : Int) == (y : Int)) = true := beq_self_eq_true _
                clear hk hfull hl9 hu hy
                go_wp2_with fail
                go_at_call 26
                refine (ASm.out).mono ?_
                rintro e w10 ⟨rfl, g10⟩
                have HG10 := Lib.hid g10
                clear g10
                go_wp2_with fail
                go_at_call 18
                refine (AL.out _ HG10.out).mono ?_
                rintro e w11 ⟨rfl, g11⟩
                have HG11 := Lib.hid (Gr.trans HG10.out g11)
                clear g11
                go_wp2_with fail
                go_at_call 28
                refine (AL2.out _ HG11.out).mono ?_
                rintro e w12 ⟨rfl, g12⟩
                have HG12 := Lib.hid (Gr.trans HG1.out (Gr.trans HF9.out.fam.gr (Gr.trans HG11.out g12)))
                have AW := Lib.hid (p24_awake w12 (errT_gr HE.out HG12.out))
                clear g12
                go_wp2_with fail
                go_at_call 10
                refine (AW.out).mono ?_
                rintro e w13 ⟨rfl, g13⟩
                go_wp2_with fail
                go_ret
                exact ⟨rfl, Gr.trans HG12.out g13⟩
end Go.Proofs.YtpomllpplpalkaaGreatDoor
