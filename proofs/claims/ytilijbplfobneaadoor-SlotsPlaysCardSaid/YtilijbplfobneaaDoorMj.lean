/- the document's page: what it holds; is, Used, Get, NewPage -/
import Derived.Test.YtilijbplfobneaaDoorSh
import Derived.Test.YtilijbplfobneaaDoorSl
namespace Go.Proofs.YtilijbplfobneaaDoor
set_option linter.unusedVariables false
set_option linter.unusedSimpArgs false
open Go.ChangeShapes Go.WideShapes Go.ChangeAt Go.RowKit

/-- A row of whatever: how its slice looks, and what it holds. -/
theorem rowF {w : World} {b e n size : Nat} {v : Value} {xs : List Value} (h : w.ownsRow b e size v n xs) : ∃ (D : Nat) (ad : Option Addr) (cap : Nat), v = .slice ad n cap ∧ (0 < n → ad = some ⟨D, 0, none⟩) ∧ n ≤ cap ∧ (cap : Int) ≤ 9223372036854775807 ∧ (0 < n → D < w.heap.size) ∧ ∀ j (hj : j < n * size), w.cell? ⟨D, j, none⟩ = xs[j]? ∧ w.frozen? ⟨D, j, none⟩ = false := by
  rcases h.2 with ⟨rfl, rfl⟩ | ⟨g, cap, cur, rfl, hb, hg, hn, hc, hs, ht⟩
  · exact ⟨0, none, 0, rfl, fun h => absurd h (by omega), Nat.le_refl _, by omega, fun h => absurd h (by omega), fun j hj => absurd hj (by omega)⟩
  · exact ⟨g, some ⟨g, 0, none⟩, cap, rfl, fun _ => rfl, hn, by unfold maxLen at hc; omega, fun _ => (World.ownsRow.lt h g rfl).2, fun j hj => ⟨h.cellAt j hj, h.frozenAt j⟩⟩
/-- A slot's bytes, as the document has them. -/
def RSl (w : World) (Z : Nat → Prop) : Sl → Value → Prop
  | none, v => v = .slice none 0 0
  | some L, v => RowOff w Z v L ∧ L.length ≤ 400
theorem rSl_kx {a b : World} {S Z : Nat → Prop} {o : Sl} {v : Value} (h : RSl a Z o v) (g : Kx S a b) (hS : ∀ k, S k → Z k ∨ a.heap.size ≤ k) : RSl b Z o v := by
  cases o with
  | none => exact h
  | some L => exact ⟨rowOff_kx h.1 g hS, h.2⟩
theorem rSl_oth {a b : World} {S Z : Nat → Prop} {o : Sl} {v : Value} (h : RSl a Z o v) (g : Kx S a b) (hS : OthS a S) : RSl b Z o v := by
  cases o with
  | none => exact h
  | some L => exact ⟨rowOff_oth h.1 g hS, h.2⟩
theorem rSl_mono {a : World} {Z Z' : Nat → Prop} {o : Sl} {v : Value} (h : RSl a Z o v) (hZ : ∀ k, Z' k → Z k ∨ a.heap.size ≤ k) : RSl a Z' o v := by
  cases o with
  | none => exact h
  | some L => exact ⟨rowOff_mono h.1 hZ, h.2⟩
theorem rSl_val {a : World} {Z : Nat → Prop} {o : Sl} {v : Value} (h : RSl a Z o v) : ∃ ad c, v = .slice ad (szO o) c := by
  cases o with
  | none => exact ⟨none, 0, h⟩
  | some L => obtain ⟨⟨⟨ad, c, _, _, e, _⟩, _⟩, _⟩ := h; exact ⟨ad, c, e⟩
abbrev hasV (S : List Sl) : List Value := S.map fun o => Value.bool o.isSome
/-- The document's page: its head in q; all of it lies off Z, at base or behind it. -/
structure RefP (base : Nat) (w : World) (q : Nat) (Z : Nat → Prop) (kd id : Int) (S : List Sl) (bv hv : Value) (xs : List Value) : Prop where
  head : w.heap[q]? = some (.cells #[.int .i64 kd, .int .i64 id, bv, hv] 82 (0, 0))
  le : S.length ≤ 60
  has : w.ownsRow 0 4 1 hv S.length (hasV S)
  row : w.ownsRow 0 35 1 bv S.length xs
  sl : ∀ j (h : j < S.length), ∃ v, xs[j]? = some v ∧ RSl w Z S[j] v
  offQ : ¬ Z q ∧ base ≤ q
  offH : ∀ k, hv.ownBlock = some k → ¬ Z k ∧ base ≤ k
  offB : ∀ k, bv.ownBlock = some k → ¬ Z k ∧ base ≤ k
section
variable {base q : Nat} {Z : Nat → Prop} {kd id : Int} {S : List Sl} {bv hv : Value} {xs : List Value}
theorem refP_kx {a b : World} {T : Nat → Prop} (h : RefP base a q Z kd id S bv hv xs) (K : Kx T a b) (hT : ∀ k, T k → Z k ∨ a.heap.size ≤ k) : RefP base b q Z kd id S bv hv xs := by
  have hq : q < a.heap.size := (Array.getElem?_eq_some_iff.1 h.head).1
  have no : ∀ k, k < a.heap.size → ¬ Z k → ¬ T k := fun k hk hz ht => by rcases hT k ht with h | h; exact hz h; omega
  exact ⟨heap_kx K (no q hq h.offQ.1) h.head, h.le, rowOwn_kxS h.has K (fun k hk => no k (World.ownsRow.lt h.has k hk).2 (h.offH k hk).1), rowOwn_kxS h.row K (fun k hk => no k (World.ownsRow.lt h.row k hk).2 (h.offB k hk).1), fun j hj => by
    obtain ⟨v, e, r⟩ := h.sl j hj
    exact ⟨v, e, rSl_kx r K hT⟩, h.offQ, h.offH, h.offB⟩
theorem refP_gr {a b : World} (h : RefP base a q Z kd id S bv hv xs) (g : Gr a b) : RefP base b q Z kd id S bv hv xs := refP_kx (T := fun _ => False) h (Kx.of_gr g) (fun k h => h.elim)
theorem refP_mono {a : World} {Z' : Nat → Prop} (h : RefP base a q Z kd id S bv hv xs) (hZ : ∀ k, Z' k → Z k ∨ a.heap.size ≤ k) : RefP base a q Z' kd id S bv hv xs := by
  have hq : q < a.heap.size := (Array.getElem?_eq_some_iff.1 h.head).1
  have no : ∀ k, k < a.heap.size → ¬ Z k → ¬ Z' k := fun k hk hz ht => by rcases hZ k ht with h | h; exact hz h; omega
  exact ⟨h.head, h.le, h.has, h.row, fun j hj => by obtain ⟨v, e, r⟩ := h.sl j hj; exact ⟨v, e, rSl_mono r hZ⟩, ⟨no q hq h.offQ.1, h.offQ.2⟩, fun k hk => ⟨no k (World.ownsRow.lt h.has k hk).2 (h.offH k hk).1, (h.offH k hk).2⟩, fun k hk => ⟨no k (World.ownsRow.lt h.row k hk).2 (h.offB k hk).1, (h.offB k hk).2⟩⟩
/-- What a walk reads of it. -/
theorem refP_cells {w : World} (h : RefP base w q Z kd id S bv hv xs) : q < w.heap.size ∧ w.cell? ⟨q, 0, none⟩ = some (.int .i64 kd) ∧ w.cell? ⟨q, 1, none⟩ = some (.int .i64 id) ∧ w.cell? ⟨q, 2, none⟩ = some bv ∧ w.cell? ⟨q, 3, none⟩ = some hv ∧ w.frozen? ⟨q, 2, none⟩ = false ∧ w.frozen? ⟨q, 3, none⟩ = false :=
  ⟨(Array.getElem?_eq_some_iff.1 h.head).1, Hm.cell_of_heap h.head 0, Hm.cell_of_heap h.head 1, Hm.cell_of_heap h.head 2, Hm.cell_of_heap h.head 3, Hm.frozen_of_heap h.head 2, Hm.frozen_of_heap h.head 3⟩
theorem refP_rows {w : World} (h : RefP base w q Z kd id S bv hv xs) : ∃ (D E : Nat) (ha ba : Option Addr) (hc bc : Nat), hv = .slice ha S.length hc ∧ bv = .slice ba S.length bc ∧ (0 < S.length → ha = some ⟨D, 0, none⟩ ∧ ba = some ⟨E, 0, none⟩ ∧ D < w.heap.size ∧ E < w.heap.size) ∧ S.length ≤ hc ∧ S.length ≤ bc ∧ (hc : Int) ≤ 9223372036854775807 ∧ (bc : Int) ≤ 9223372036854775807 ∧
    ∀ j, j < S.length → w.cell? ⟨D, j, none⟩ = some (.bool (S.getD j none).isSome) ∧ w.frozen? ⟨D, j, none⟩ = false ∧ w.frozen? ⟨E, j, none⟩ = false ∧ ∃ ad c, w.cell? ⟨E, j, none⟩ = some (.slice ad (szO (S.getD j none)) c) ∧ RSl w Z (S.getD j none) (.slice ad (szO (S.getD j none)) c) := by
  obtain ⟨D, ha, hc, e1, a1, a2, a3, a4, a5⟩ := rowF h.has
  obtain ⟨E, ba, bc, e2, b1, b2, b3, b4, b5⟩ := rowF h.row
  refine ⟨D, E, ha, ba, hc, bc, e1, e2, fun h0 => ⟨a1 h0, b1 h0, a4 h0, b4 h0⟩, a2, b2, a3, b3, fun j hj => ?_⟩
  obtain ⟨v, e, r⟩ := h.sl j hj
  rw [← getD_lt S hj] at r
  obtain ⟨ad, c, rfl⟩ := rSl_val r
  refine ⟨?_, (a5 j (by omega)).2, (b5 j (by omega)).2, ad, c, ((b5 j (by omega)).1).trans e, r⟩
  rw [(a5 j (by omega)).1, List.getElem?_map, List.getElem?_eq_getElem hj, getD_lt S hj]
  rfl
set_option maxRecDepth 100000 in
theorem r_is (i : Int) (W : World) (h : RefP base W q Z kd id S bv hv xs) : Calls Tryd.prog 50 #[.pointer (some ⟨q, 0, none⟩), .int .i64 i] W fun e w' => e = .returned (.bool (hasS S i)) ∧ Gr W w' := by
  obtain ⟨sq, c0, c1, c2, c3, f2, f3⟩ := refP_cells h
  obtain ⟨D, E, ha, ba, hc, bc, rfl, rfl, hp, l1, l2, m1, m2, hcc⟩ := refP_rows h
  clear h c0 c1 c2 f2 f3
  by_cases h0 : 0 ≤ i
  · obtain ⟨k, rfl⟩ : ∃ k : Nat, i = k := ⟨i.toNat, by omega⟩
    rw [hasS_nat]
    have t0 : decide ((0 : Int) ≤ (k : Int)) = true := decide_eq_true h0
    by_cases hk : k < S.length
    · obtain ⟨rfl, rfl, sD, sE⟩ := hp (by omega)
      obtain ⟨d0, -⟩ := hcc k hk
      generalize (S.getD k none).isSome = x at *
      generalize S.length = n at *
      have t1 : decide ((k : Int) < (n : Int)) = true := decide_eq_true (by omega)
      have t2 : (k : Int) < (n : Int) := by omega
      have t3 : (k : Int) < (hc : Int) := by omega
      clear hcc hp
      go_enter Tryd.func50, Tryd.ntmps50
      go_wp2_with fail
      go_ret
      exact ⟨by simp, by go_grown⟩
    · have e : (S.getD k none).isSome = false := by rw [getD_ge S (by omega)]; rfl
      rw [e]
      generalize S.length = n at *
      have t1 : decide ((k : Int) < (n : Int)) = false := decide_eq_false (by omega)
      clear hcc hp e
      go_enter Tryd.func50, Tryd.ntmps50
      go_wp2_with fail
      go_ret
      exact ⟨rfl, by go_grown⟩
  · have e : hasS S i = false := by unfold hasS; rw [decide_eq_false h0]; rfl
    rw [e]
    have t0 : decide ((0 : Int) ≤ i) = false := decide_eq_false h0
    clear hcc hp e
    go_enter Tryd.func50, Tryd.ntmps50
    go_wp2_with fail
    go_ret
    exact ⟨rfl, by go_grown⟩
theorem refP_sz {w : World} (h : RefP base w q Z kd id S bv hv xs) (j : Nat) : szO (S.getD j none) ≤ 400 := by
  by_cases hj : j < S.length
  · obtain ⟨v, e, r⟩ := h.sl j hj
    rw [← getD_lt S hj] at r
    cases hs : S.getD j none with
    | none => exact Nat.zero_le _
    | some L => rw [hs] at r; exact r.2
  · rw [getD_ge S (by omega)]; exact Nat.zero_le _
set_option maxHeartbeats 1000000 in
set_option maxRecDepth 100000 in
theorem r_used (W : World) (h : RefP base W q Z kd id S bv hv xs) : Calls Tryd.prog 48 #[.pointer (some ⟨q, 0, none⟩)] W fun e w' => e = .returned (.int .i64 (usS S : Nat)) ∧ Gr W w' := by
  have hZ := refP_sz h
  have h60 := h.le
  obtain ⟨sq, c0, c1, c2, c3, f2, f3⟩ := refP_cells h
  obtain ⟨D, E, ha, ba, hc, bc, rfl, rfl, hp, l1, l2, m1, m2, hcc⟩ := refP_rows h
  have hz : ∀ i, i ≤ S.length → szT S i ≤ 30000 := fun i hi => by have h1 := szT_le hZ i; omega
  have hs : ∀ i, szT S (i + 1) = szT S i + szO (S.getD i none) := fun i => rfl
  have hc' : ∀ j, j < S.length → ∃ a c, W.cell? ⟨E, j, none⟩ = some (.slice a (szO (S.getD j none)) c) := fun j hj => by
    obtain ⟨-, -, -, a, c, e, -⟩ := hcc j hj
    exact ⟨a, c, e⟩
  have hp2 : 0 < S.length → ba = some ⟨E, 0, none⟩ ∧ E < W.heap.size := fun h => ⟨(hp h).2.1, (hp h).2.2.2⟩
  clear hcc h f2 f3 c0 c1 hp
  have hu : usS S = 16 + 4 * S.length + szT S S.length := rfl
  have h0 : szT S 0 = 0 := rfl
  generalize usS S = us at hu ⊢
  generalize szT S = zs at hz hs hu h0
  have hZ' : ∀ j, szO (S.getD j none) ≤ 400 := hZ
  generalize hzz : (fun j => szO (S.getD j none)) = Z1 at *
  have hZe : ∀ j, szO (S.getD j none) = Z1 j := fun j => by rw [← hzz]
  simp only [hZe] at hZ hs hc'
  clear hZe hzz hZ'
  generalize S.length = n at *
  have HC := Lib.hid hc'
  have HZ := Lib.hid hz
  have HS := Lib.hid hs
  have HU := Lib.hid hu
  have e1 : wrap64 (4 * (n : Int)) = 4 * (n : Int) := IntWalk.wrap64_in _ (by omega)
  have e2 : wrap64 (16 + 4 * (n : Int)) = 16 + 4 * (n : Int) := IntWalk.wrap64_in _ (by omega)
  have f1 : IntKind.i64.wrap (4 * (n : Int)) = 4 * (n : Int) := IntWalk.i64_in _ (by omega)
  have f2 : IntKind.i64.wrap (16 + 4 * (n : Int)) = 16 + 4 * (n : Int) := IntWalk.i64_in _ (by omega)
  have HH := Lib.hid h0
  have HE := Lib.hid (And.intro e1 (And.intro e2 (And.intro f1 f2)))
  clear hc' hz hZ hs hu h0
  go_enter Tryd.func48, Tryd.ntmps48
  go_wp2_with fail
  go_loopg [3, 4] n (fun k x y wr => ∃ i : Nat, x = .int .i64 (16 + 4 * (n : Int) + (zs i : Nat)) ∧ y = .int .i64 i ∧ i ≤ n ∧ k = n - i ∧ Gr W wr)
  case atStart => exact ⟨0, by rw [HH.out]; simp, rfl, by clear e1 e2 f1 f2; omega, by clear e1 e2 f1 f2; omega, by go_grown⟩
  case round =>
    clear e1 e2 f1 f2
    obtain ⟨i, rfl, rfl, hi, hk, hg⟩ := hrel
    have g2 := cell_gr hg c2
    have g3 := cell_gr hg c3
    by_cases hin : i < n
    · have ti : decide ((i : Int) < (n : Int)) = true := decide_eq_true (by omega)
      have ti2 : decide (i < n) = true := decide_eq_true hin
      have ti3 : (i : Int) < (n : Int) := by omega
      have ti4 : (i : Int) < (bc : Int) := by omega
      obtain ⟨rfl, sE⟩ := hp2 (by omega)
      obtain ⟨a1, k1, k2⟩ := HC.out i hin
      have q1 := cell_gr hg k2
      have hz1 := HZ.out i (by omega)
      have hz2 := HZ.out (i + 1) (by omega)
      have hss := HS.out i
      have ez : (16 + 4 * (n : Int) + (zs i : Nat) + (Z1 i : Nat) : Int) = 16 + 4 * (n : Int) + (zs (i + 1) : Nat) := by omega
      have eb : (-1000000 : Int) ≤ 16 + 4 * (n : Int) + (zs (i + 1) : Nat) ∧ (16 + 4 * (n : Int) + (zs (i + 1) : Nat) : Int) ≤ 1000000 := by omega
      have e3 : wrap64 (16 + 4 * (n : Int) + (zs i : Nat) + (Z1 i : Nat)) = 16 + 4 * (n : Int) + (zs (i + 1) : Nat) := by
        rw [ez]; exact wr_small eb
      have f3' : IntKind.i64.wrap (16 + 4 * (n : Int) + (zs i : Nat) + (Z1 i : Nat)) = 16 + 4 * (n : Int) + (zs (i + 1) : Nat) := by
        rw [ez]; exact wk_small eb
      clear k2 hss hz1 hz2 ez eb
      go_wp2_with fail
      go_roundg (n - (i + 1))
      case measure => omega
      case rel => exact ⟨i + 1, rfl, by go_num, by omega, by omega, hg⟩
    · obtain rfl : i = n := by omega
      have ti : decide ((i : Int) < (i : Int)) = false := decide_eq_false (by omega)
      have ti3 : ¬ (i : Int) < (i : Int) := by omega
      go_wp2_with fail
      go_ret
      exact ⟨by rw [HU.out]; simp, hg⟩
set_option maxRecDepth 100000 in
theorem r_get {L : List UInt8} (n : Nat) (hh : S.getD n none = some L) (W : World) (h : RefP base W q Z kd id S bv hv xs) :
    Calls Tryd.prog 19 #[.pointer (some ⟨q, 0, none⟩), .int .i64 n] W fun e w' => ∃ ad c, e = .returned (.tuple #[.slice ad L.length c, .int .i64 0]) ∧ Row w' (.slice ad L.length c) L ∧ L.length ≤ 400 ∧ Gr W w' := by
  have hs : (S.getD n none).isSome = true := by rw [hh]; rfl
  have hlt := has_lt hs
  have A1 := fun w (g : Gr W w) => r_is (n : Int) w (refP_gr h g)
  rw [hasS_nat, hs] at A1
  obtain ⟨sq, c0, c1, c2, c3, f2, f3⟩ := refP_cells h
  obtain ⟨D, E, ha, ba, hc, bc, rfl, rfl, hp, l1, l2, m1, m2, hcc⟩ := refP_rows h
  obtain ⟨-, -, -, ad, c, d1, hr⟩ := hcc n hlt
  obtain ⟨rfl, rfl, sD, sE⟩ := hp (by omega)
  rw [hh] at hr d1
  have HR := Lib.hid hr
  have u2 : (n : Int) < (S.length : Int) := by omega
  have u3 : (0 : Int) ≤ (n : Int) := by omega
  have e0 : szO (some L : Sl) = L.length := rfl
  rw [e0] at d1
  clear h hh hs hcc hr hp hlt c0 c1 c3 f2 f3
  generalize S.length = len at *
  have H1 := Lib.hid A1
  clear A1
  go_enter Tryd.func19, Tryd.ntmps19
  go_wp2_with fail
  go_at_call 50
  refine (H1.out _ (by go_grown)).mono ?_
  rintro e w1 ⟨rfl, g1⟩
  have c2' := cell_gr g1 c2
  have d1' := cell_gr g1 d1
  have sq' := World.block_lt_of_cell? _ _ c2'
  have sE' := World.block_lt_of_cell? _ _ d1'
  go_wp2_with fail
  go_ret2
  exact ⟨ad, c, rfl, row_gr HR.out.1.1 g1, HR.out.2, g1⟩
theorem r_get_no (n : Int) (hh : hasS S n = false) (W : World) (h : RefP base W q Z kd id S bv hv xs) :
    Calls Tryd.prog 19 #[.pointer (some ⟨q, 0, none⟩), .int .i64 n] W fun e w' => e = .returned (.tuple #[.slice none 0 0, .int .i64 15]) ∧ Gr W w' := by
  have A1 := fun w (g : Gr W w) => r_is n w (refP_gr h g)
  rw [hh] at A1
  clear h hh
  have H1 := Lib.hid A1
  clear A1
  go_enter Tryd.func19, Tryd.ntmps19
  go_wp2_with fail
  go_at_call 50
  refine (H1.out _ (by go_grown)).mono ?_
  rintro e w1 ⟨rfl, g1⟩
  go_wp2_with fail
  go_ret2
  exact ⟨rfl, g1⟩
end
end Go.Proofs.YtilijbplfobneaaDoor
