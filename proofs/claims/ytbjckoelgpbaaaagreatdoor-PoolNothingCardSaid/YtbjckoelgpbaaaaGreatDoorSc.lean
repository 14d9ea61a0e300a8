/- slots: a page with whatever slots: what it holds; has, leastFree, used, refusal, Free -/
import Derived.Test.YtbjckoelgpbaaaaGreatDoorSb
import Derived.Test.YtbjckoelgpbaaaaGreatDoorRo
namespace Go.Proofs.YtbjckoelgpbaaaaGreatDoor
set_option linter.unusedVariables false
set_option linter.unusedSimpArgs false
open Go.ChangeShapes Go.WideShapes Go.ChangeAt Go.RowKit

/-- A slot's bytes, if it has any. -/
abbrev Sl := Option (List UInt8)
def SlotC (w : World) (Z : Nat → Prop) : Sl → Value → Value → Prop
  | none, b, v => b = .bool false ∧ v = .slice none 0 0
  | some L, b, v => b = .bool true ∧ RowOff w Z v L ∧ L.length ≤ 400
theorem slotC_kx {a b : World} {S Z : Nat → Prop} {o : Sl} {x y : Value} (h : SlotC a Z o x y) (g : Kx S a b) (hS : ∀ k, S k → Z k ∨ a.heap.size ≤ k) : SlotC b Z o x y := by
  cases o with
  | none => exact h
  | some L => exact ⟨h.1, rowOff_kx h.2.1 g hS, h.2.2⟩
theorem slotC_mono {a : World} {Z Z' : Nat → Prop} {o : Sl} {x y : Value} (h : SlotC a Z o x y) (hZ : ∀ k, Z' k → Z k ∨ a.heap.size ≤ k) : SlotC a Z' o x y := by
  cases o with
  | none => exact h
  | some L => exact ⟨h.1, rowOff_mono h.2.1 hZ, h.2.2⟩
/-- Other blocks turn, and other ones are then told to be the owner's. -/
theorem slotC_turn {a b : World} {S Z Z' : Nat → Prop} {o : Sl} {x y : Value} (h : SlotC a Z o x y) (g : Kx S a b) (hS : ∀ k, S k → Z k ∨ a.heap.size ≤ k) (hZ : ∀ k, Z' k → Z k ∨ a.heap.size ≤ k) : SlotC b Z' o x y :=
  slotC_mono (slotC_kx (slotC_mono (Z' := fun k => Z k ∨ a.heap.size ≤ k) h (fun k h => h)) g (fun k hk => Or.inl (hS k hk))) (fun k hk => Or.inl (hZ k hk))
/-- The page's own blocks: its head, and the row of its slots. -/
abbrev pgZ (B : Nat) (C : Option Nat) : Nat → Prop := fun k => k = B ∨ C = some k
/-- A page: its head in B, its slots' row in C. -/
def PageS (w : World) (B : Nat) (C : Option Nat) (kd id : Int) (S : List Sl) : Prop :=
  ∃ sl xs, PageAt w B kd id sl ∧ sl.ownBlock = C ∧ C ≠ some B ∧ S.length ≤ 60 ∧ w.ownsRow 0 174 2 sl S.length xs ∧
    ∀ j (h : j < S.length), ∃ b v, xs[j * 2]? = some b ∧ xs[j * 2 + 1]? = some v ∧ SlotC w (pgZ B C) S[j] b v
theorem pageAt_kx {a b : World} {B : Nat} {kd id : Int} {s : Value} {S : Nat → Prop} (h : PageAt a B kd id s) (g : Kx S a b) (hB : ¬ S B) : PageAt b B kd id s :=
  ⟨cell_kx g hB h.1, cell_kx g hB h.2.1, cell_kx g hB h.2.2.1, cell_kx g hB h.2.2.2.1, frozen_kx g hB h.2.2.2.1 h.2.2.2.2⟩
section
variable {B : Nat} {C : Option Nat} {kd id : Int} {S : List Sl}
theorem pageS_kx {a b : World} {T : Nat → Prop} (h : PageS a B C kd id S) (g : Kx T a b) (hT : ∀ k, T k → ¬ pgZ B C k ∧ a.heap.size ≤ k) : PageS b B C kd id S := by
  obtain ⟨sl, xs, h1, h2, h3, h4, h5, h6⟩ := h
  refine ⟨sl, xs, pageAt_kx h1 g (fun hs => (hT _ hs).1 (Or.inl rfl)), h2, h3, h4, rowOwn_kxS h5 g (fun k hk hs => (hT _ hs).1 (Or.inr (by rw [← h2]; exact hk))), fun j hj => ?_⟩
  obtain ⟨x, y, e1, e2, e3⟩ := h6 j hj
  exact ⟨x, y, e1, e2, slotC_kx e3 g (fun k hk => Or.inr (hT k hk).2)⟩
theorem pageS_gr {a b : World} (h : PageS a B C kd id S) (g : Gr a b) : PageS b B C kd id S :=
  pageS_kx h (T := fun _ => False) (Kx.of_gr g) (fun _ h => h.elim)
/-- What may turn beside a page: whatever lies in none of its blocks, and in none of its rows. -/
theorem pageS_lt {w : World} (h : PageS w B C kd id S) : B < w.heap.size := by
  obtain ⟨_, _, h1, _⟩ := h; exact World.block_lt_of_cell? _ _ h1.1
/-- What a walk reads of a page. -/
theorem pageS_cells {w : World} (h : PageS w B C kd id S) : ∃ (D : Nat) (ad : Option Addr) (cap : Nat), PageAt w B kd id (.slice ad S.length cap) ∧ (0 < S.length → ad = some ⟨D, 0, none⟩) ∧ S.length ≤ 60 ∧ S.length ≤ cap ∧ (cap : Int) ≤ 9223372036854775807 ∧
    ∀ j (h : j < S.length), w.cell? ⟨D, j * 2, none⟩ = some (.bool (S[j]).isSome) ∧ (∃ v, w.cell? ⟨D, j * 2 + 1, none⟩ = some v ∧ SlotC w (pgZ B C) S[j] (.bool (S[j]).isSome) v) := by
  obtain ⟨sl, xs, h1, h2, h3, h4, h5, h6⟩ := h
  rcases h5.2 with ⟨rfl, h0⟩ | ⟨g', cap, cur, rfl, hb, hh, hn, hc, hs, ht⟩
  · exact ⟨0, none, 0, by rw [h0]; exact h1, fun h => absurd h (by omega), h4, by omega, by omega, fun j hj => absurd hj (by omega)⟩
  · refine ⟨g', some ⟨g', 0, none⟩, cap, h1, fun _ => rfl, h4, hn, by unfold maxLen at hc; omega, fun j hj => ?_⟩
    obtain ⟨x, y, e1, e2, e3⟩ := h6 j hj
    have ex : x = .bool (S[j]).isSome := by
      cases hh : S[j] with
      | none => rw [hh] at e3; exact e3.1
      | some L => rw [hh] at e3; exact e3.1
    subst ex
    exact ⟨(h5.cellAt (j * 2) (by omega)).trans e1, y, (h5.cellAt (j * 2 + 1) (by omega)).trans e2, e3⟩
theorem pageS_cellsD {w : World} {D : Nat} (h : PageS w B (some D) kd id S) : ∃ cap, PageAt w B kd id (.slice (some ⟨D, 0, none⟩) S.length cap) ∧ S.length ≤ cap ∧ (cap : Int) ≤ 9223372036854775807 ∧ D < w.heap.size ∧ D ≠ B ∧
    ∀ j (h : j < S.length), w.cell? ⟨D, j * 2, none⟩ = some (.bool (S[j]).isSome) ∧ (∃ v, w.cell? ⟨D, j * 2 + 1, none⟩ = some v ∧ SlotC w (pgZ B (some D)) S[j] (.bool (S[j]).isSome) v) ∧ w.frozen? ⟨D, j * 2, none⟩ = false ∧ w.frozen? ⟨D, j * 2 + 1, none⟩ = false := by
  obtain ⟨sl, xs, h1, h2, h3, h4, h5, h6⟩ := h
  have hw := h5
  rcases h5.2 with ⟨rfl, h0⟩ | ⟨g', cap, cur, rfl, hb, hh, hn, hc, hs, ht⟩
  · cases h2
  · obtain rfl : g' = D := by simpa [Value.ownBlock] using h2
    refine ⟨cap, h1, hn, by unfold maxLen at hc; omega, (Array.getElem?_eq_some_iff.1 hh).1, fun e => h3 (by rw [e]), fun j hj => ?_⟩
    obtain ⟨x, y, e1, e2, e3⟩ := h6 j hj
    have ex : x = .bool (S[j]).isSome := by
      cases hh : S[j] with
      | none => rw [hh] at e3; exact e3.1
      | some L => rw [hh] at e3; exact e3.1
    subst ex
    exact ⟨(h5.cellAt (j * 2) (by omega)).trans e1, ⟨y, (h5.cellAt (j * 2 + 1) (by omega)).trans e2, e3⟩, hw.frozenAt _, hw.frozenAt _⟩
/-- Is there something in a slot? -/
def hasS (S : List Sl) (i : Int) : Bool := decide (0 ≤ i) && (S.getD i.toNat none).isSome
theorem hasS_nat (S : List Sl) (i : Nat) : hasS S (i : Int) = (S.getD i none).isSome := by
  unfold hasS
  rw [decide_eq_true (by omega), Bool.true_and, Int.toNat_natCast]
theorem getD_lt (S : List Sl) {j : Nat} (h : j < S.length) : S.getD j none = S[j] := by
  rw [List.getD_eq_getElem?_getD, List.getElem?_eq_getElem h]; rfl
theorem getD_ge (S : List Sl) {j : Nat} (h : S.length ≤ j) : S.getD j none = none := by
  rw [List.getD_eq_getElem?_getD, List.getElem?_eq_none h]; rfl
theorem p_hasS (i : Int) (W : World) (h : PageS W B C kd id S) : Calls Tryz.prog 108 #[.pointer (some ⟨B, 0, none⟩), .int .i64 i] W fun e w' => e = .returned (.bool (hasS S i)) ∧ Gr W w' := by
  obtain ⟨D, ad, cap, hp, had, hn, hcap, hcap2, hc⟩ := pageS_cells h
  have A1 := fun w (G : Gr W w) => p_none w (pageAt_gr hp G)
  obtain ⟨p0, p1, p2, p3, f3⟩ := hp
  have hB := World.block_lt_of_cell? _ _ p0
  have H1 := Lib.hid A1
  clear A1
  by_cases h0 : 0 ≤ i
  · obtain ⟨k, rfl⟩ : ∃ k : Nat, i = k := ⟨i.toNat, by omega⟩
    rw [hasS_nat]
    have t0 : decide ((0 : Int) ≤ (k : Int)) = true := decide_eq_true (by omega)
    by_cases hi : k < S.length
    · rw [getD_lt S hi]
      obtain ⟨c1, v, c2, -⟩ := hc k hi
      generalize (S[k]).isSome = q at c1 ⊢
      obtain rfl := had (by omega)
      clear hc c2 h had
      generalize S.length = n at *
      have t1 : decide ((k : Int) < (n : Int)) = true := decide_eq_true (by omega)
      have t2 : decide (k < n) = true := decide_eq_true hi
      have t3 : (k : Int) < (n : Int) := by omega
      have t4 : (k : Int) < (cap : Int) := by omega
      have HC := Lib.hid c1
      clear c1
      go_enter Tryz.func108, Tryz.ntmps108
      go_wp2_with fail
      go_at_call 78
      refine ((H1.out _ (by go_grown))).mono ?_
      rintro e w1 ⟨rfl, hw1⟩
      have cw1_0_0 : w1.cell? ⟨B, 0, none⟩ = some (.bool true) := cell_gr hw1 (by go_simp)
      have cw1_0_1 : w1.cell? ⟨B, 1, none⟩ = some (.int .i64 kd) := cell_gr hw1 (by go_simp)
      have cw1_0_2 : w1.cell? ⟨B, 2, none⟩ = some (.int .i64 id) := cell_gr hw1 (by go_simp)
      have cw1_0_3 : w1.cell? ⟨B, 3, none⟩ = some (.slice (some ⟨D, 0, none⟩) n cap) := cell_gr hw1 (by go_simp)
      have zw1_0 : B < w1.heap.size := World.block_lt_of_cell? _ _ cw1_0_0
      have gw1 : Gr W w1 := Gr.trans (by go_grown) hw1
      clear hw1
      have c1 := cell_gr gw1 HC.out
      go_wp2_with fail
      go_ret
      exact ⟨rfl, by have gg := gw1; have gs := gg.size; go_grown⟩
    · rw [getD_ge S (by omega)]
      clear hc h had
      generalize S.length = n at *
      have t1 : decide ((k : Int) < (n : Int)) = false := decide_eq_false (by omega)
      have t2 : decide (k < n) = false := decide_eq_false hi
      have t3 : ¬ (k : Int) < (n : Int) := by omega
      go_enter Tryz.func108, Tryz.ntmps108
      go_wp2_with fail
      go_at_call 78
      refine ((H1.out _ (by go_grown))).mono ?_
      rintro e w1 ⟨rfl, hw1⟩
      have cw1_0_0 : w1.cell? ⟨B, 0, none⟩ = some (.bool true) := cell_gr hw1 (by go_simp)
      have cw1_0_1 : w1.cell? ⟨B, 1, none⟩ = some (.int .i64 kd) := cell_gr hw1 (by go_simp)
      have cw1_0_2 : w1.cell? ⟨B, 2, none⟩ = some (.int .i64 id) := cell_gr hw1 (by go_simp)
      have cw1_0_3 : w1.cell? ⟨B, 3, none⟩ = some (.slice ad n cap) := cell_gr hw1 (by go_simp)
      have zw1_0 : B < w1.heap.size := World.block_lt_of_cell? _ _ cw1_0_0
      have gw1 : Gr W w1 := Gr.trans (by go_grown) hw1
      clear hw1
      go_wp2_with fail
      go_ret
      exact ⟨rfl, by have gg := gw1; have gs := gg.size; go_grown⟩
  · have e : hasS S i = false := by unfold hasS; rw [decide_eq_false h0, Bool.false_and]
    rw [e]
    have t0 : decide ((0 : Int) ≤ i) = false := decide_eq_false h0
    clear hc h had
    go_enter Tryz.func108, Tryz.ntmps108
    go_wp2_with fail
    go_at_call 78
    refine ((H1.out _ (by go_grown))).mono ?_
    rintro e w1 ⟨rfl, hw1⟩
    have cw1_0_0 : w1.cell? ⟨B, 0, none⟩ = some (.bool true) := cell_gr hw1 (by go_simp)
    have cw1_0_1 : w1.cell? ⟨B, 1, none⟩ = some (.int .i64 kd) := cell_gr hw1 (by go_simp)
    have cw1_0_2 : w1.cell? ⟨B, 2, none⟩ = some (.int .i64 id) := cell_gr hw1 (by go_simp)
    have cw1_0_3 : w1.cell? ⟨B, 3, none⟩ = some (.slice ad S.length cap) := cell_gr hw1 (by go_simp)
    have zw1_0 : B < w1.heap.size := World.block_lt_of_cell? _ _ cw1_0_0
    have gw1 : Gr W w1 := Gr.trans (by go_grown) hw1
    clear hw1
    go_wp2_with fail
    go_ret
    exact ⟨rfl, by have gg := gw1; have gs := gg.size; go_grown⟩
/-- The least free slot. -/
def lfS : List Sl → Nat
  | [] => 0
  | none :: _ => 0
  | some _ :: r => lfS r + 1
theorem lfS_le : ∀ S : List Sl, lfS S ≤ S.length
  | [] => Nat.le_refl _
  | none :: _ => Nat.zero_le _
  | some _ :: r => by have := lfS_le r; simp only [lfS, List.length_cons]; omega
theorem lfS_before : ∀ (S : List Sl) (j : Nat), j < lfS S → (S.getD j none).isSome = true
  | [], j, h => absurd h (Nat.not_lt_zero _)
  | none :: _, j, h => absurd h (Nat.not_lt_zero _)
  | some _ :: r, 0, h => rfl
  | some _ :: r, j + 1, h => by
    have := lfS_before r j (by simp only [lfS] at h; omega)
    simpa using this
theorem lfS_at : ∀ S : List Sl, S.getD (lfS S) none = none
  | [] => rfl
  | none :: _ => rfl
  | some _ :: r => by have := lfS_at r; simpa [lfS] using this
/-- How many bytes are in a slot; in the first ones. -/
def szO : Sl → Nat
  | none => 0
  | some L => L.length
def szT (S : List Sl) : Nat → Nat
  | 0 => 0
  | i + 1 => szT S i + szO (S.getD i none)
theorem szT_le {S : List Sl} (h : ∀ j, szO (S.getD j none) ≤ 400) : ∀ i, szT S i ≤ i * 400
  | 0 => Nat.le_refl _
  | i + 1 => by have h1 := szT_le h i; have h2 := h i; simp only [szT, Nat.succ_mul]; omega
theorem pageS_sz {w : World} (h : PageS w B C kd id S) (j : Nat) : szO (S.getD j none) ≤ 400 := by
  obtain ⟨_, _, _, _, _, _, _, h6⟩ := h
  by_cases hj : j < S.length
  · rw [getD_lt S hj]
    obtain ⟨_, _, _, _, e⟩ := h6 j hj
    generalize S[j] = o at e ⊢
    cases o with
    | none => exact Nat.zero_le _
    | some L => exact e.2.2
  · rw [getD_ge S (by omega)]; exact Nat.zero_le _
/-- How much of the page is used. -/
def usS (S : List Sl) : Nat := 16 + 4 * S.length + szT S S.length
theorem slotC_val {w : World} {Z : Nat → Prop} {o : Sl} {b v : Value} (h : SlotC w Z o b v) : ∃ ad c, v = .slice ad (szO o) c := by
  cases o with
  | none => exact ⟨none, 0, h.2⟩
  | some L => obtain ⟨_, ⟨⟨ad, c, _, _, e, _⟩, _⟩, _⟩ := h; exact ⟨ad, c, e⟩
set_option maxHeartbeats 1000000 in
theorem p_usedS (W : World) (h : PageS W B C kd id S) : Calls Tryz.prog 109 #[.pointer (some ⟨B, 0, none⟩)] W fun e w' => e = .returned (.int .i64 (usS S : Nat)) ∧ Gr W w' := by
  have hZ := pageS_sz h
  obtain ⟨D, ad, cap, ⟨p0, p1, p2, p3, f3⟩, had, hn, hcap, hcap2, hc⟩ := pageS_cells h
  have hB := World.block_lt_of_cell? _ _ p0
  have hz : ∀ i, i ≤ S.length → szT S i ≤ 30000 := fun i hi => by have h1 := szT_le hZ i; omega
  have hs : ∀ i, szT S (i + 1) = szT S i + szO (S.getD i none) := fun i => rfl
  have hc' : ∀ j, j < S.length → ∃ x : Bool, W.cell? ⟨D, j * 2, none⟩ = some (.bool x) ∧ ∃ a c, W.cell? ⟨D, j * 2 + 1, none⟩ = some (.slice a (szO (S.getD j none)) c) := fun j hj => by
    obtain ⟨e1, v, e2, e3⟩ := hc j hj
    obtain ⟨a, c, rfl⟩ := slotC_val e3
    rw [getD_lt S hj]
    exact ⟨_, e1, a, c, e2⟩
  clear hc h
  have hu : usS S = 16 + 4 * S.length + szT S S.length := rfl
  have h0 : szT S 0 = 0 := rfl
  generalize usS S = us at hu ⊢
  generalize szT S = zs at hz hs hu h0
  have hZ' : ∀ j, szO (S.getD j none) ≤ 400 := hZ
  generalize hzz : (fun j => szO (S.getD j none)) = Z at *
  have hZe : ∀ j, szO (S.getD j none) = Z j := fun j => by rw [← hzz]
  simp only [hZe] at hZ hs hc'
  clear hZe hzz hZ'
  generalize S.length = n at *
  have HC := Lib.hid hc'
  have HZ := Lib.hid hz
  have HS := Lib.hid hs
  have HU := Lib.hid hu
  have e1 : wrap64 (4 * (n : Int)) = 4 * (n : Int) := IntWalk.wrap64_in _ (by omega)
  have e2 : wrap64 (16 + 4 * (n : Int)) = 16 + 4 * (n : Int) := IntWalk.wrap64_in _ (by omega)
  have f1 : IntKind.i64.wrap (4 * (n : Int)) = 4 * (n : Int) := IntWalk.i64_in _ (by omega)
  have f2 : IntKind.i64.wrap (16 + 4 * (n : Int)) = 16 + 4 * (n : Int) := IntWalk.i64_in _ (by omega)
  have HH := Lib.hid h0
  clear hc' hz hZ hs hu h0
  go_enter Tryz.func109, Tryz.ntmps109
  go_wp2_with fail
  go_loopg [3, 18] n (fun k x y wr => ∃ i : Nat, x = .int .i64 (16 + 4 * (n : Int) + (zs i : Nat)) ∧ y = .int .i64 i ∧ i ≤ n ∧ k = n - i ∧ Gr W wr)
  case atStart => exact ⟨0, by rw [HH.out]; simp, rfl, by omega, by omega, by go_grown⟩
  case round =>
    obtain ⟨i, rfl, rfl, hi, hk, hg⟩ := hrel
    by_cases hin : i < n
    · have ti : decide ((i : Int) < (n : Int)) = true := decide_eq_true (by omega)
      have ti2 : decide (i < n) = true := decide_eq_true hin
      have ti3 : (i : Int) < (n : Int) := by omega
      have ti4 : (i : Int) < (cap : Int) := by omega
      obtain rfl := had (by omega)
      obtain ⟨x0, k0, a1, k1, k2⟩ := HC.out i hin
      have q0 := cell_gr hg k0
      have q1 := cell_gr hg k2
      have hz1 := HZ.out i (by omega)
      have hz2 := HZ.out (i + 1) (by omega)
      have hss := HS.out i
      have ez : (16 + 4 * (n : Int) + (zs i : Nat) + (Z i : Nat) : Int) = 16 + 4 * (n : Int) + (zs (i + 1) : Nat) := by omega
      have eb : (-1000000 : Int) ≤ 16 + 4 * (n : Int) + (zs (i + 1) : Nat) ∧ (16 + 4 * (n : Int) + (zs (i + 1) : Nat) : Int) ≤ 1000000 := by omega
      have e3 : wrap64 (16 + 4 * (n : Int) + (zs i : Nat) + (Z i : Nat)) = 16 + 4 * (n : Int) + (zs (i + 1) : Nat) := by
        rw [ez]; exact wr_small eb
      have f3' : IntKind.i64.wrap (16 + 4 * (n : Int) + (zs i : Nat) + (Z i : Nat)) = 16 + 4 * (n : Int) + (zs (i + 1) : Nat) := by
        rw [ez]; exact wk_small eb
      clear k0 k2 hss hz1 hz2 ez eb
      go_wp2_with fail
      go_roundg (n - (i + 1))
      case measure => omega
      case rel => exact ⟨i + 1, rfl, by go_num, by omega, by omega, by have gs := hg.size; go_grown⟩
    · obtain rfl : i = n := by omega
      have ti : decide ((i : Int) < (i : Int)) = false := decide_eq_false (by omega)
      have ti3 : ¬ (i : Int) < (i : Int) := by omega
      go_wp2_with fail
      go_ret
      exact ⟨by rw [HU.out]; simp, by have gs := hg.size; go_grown⟩
end
end Go.Proofs.YtbjckoelgpbaaaaGreatDoor
