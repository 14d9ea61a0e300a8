/- rows of rows of bytes: that come in; Sum, Total, Rows -/
import Derived.Test.YtmcbanplpgooeaaDoorFg
import Derived.Test.YtmcbanplpgooeaaDoorFi
import Derived.Test.YtmcbanplpgooeaaDoorEi
namespace Go.Proofs.YtmcbanplpgooeaaDoor
set_option linter.unusedVariables false
open Go.ChangeShapes Go.WideShapes Go.ChangeAt Go.RowKit

section
variable {H : Type} {enc : TypeId × Value → H} {P : Program} {w : World} {base : Nat} {sp : Nat → Bool} {held : Bool} {r : Reach} {b0 : Nat}
theorem spot_of_cell {a : Addr} {v : Value} (h : w.cell? a = some v) : a.spot = none := by
  unfold World.cell? at h
  split at h
  · split at h
    · cases h
    · rename_i hs; simpa using hs
  · cases h
theorem row_nil0 (w : World) : Row w (.slice none 0 0) [] := ⟨none, 0, 0, 0, rfl, Nat.le_refl _, by omega, fun h => absurd h (by simp), fun j hj => absurd hj (by simp)⟩
theorem trod_bytes {e q : TypeId} {fuel : Nat} {x : Value} {y : DataW H × List MemPlace} (he : P.underlying e = some (.slice q)) (hq : P.underlying q = some (.int .u8)) (cq : P.cellsOf q = 1)
    (h : DataW.trod enc P w base sp held fuel e [x] = some y) : ∃ L, Row w x L := by
  rcases Deep.open_slice he h with ⟨h, -⟩ | ⟨a, n, cap, m, f, D, Pl, hv, -, hl, hcap, hm, -, hel⟩
  · simp only [List.cons.injEq, and_true] at h
    subst h
    exact ⟨[], row_nil0 w⟩
  · simp only [List.cons.injEq, and_true] at hv
    subst hv
    have hlm : n ≤ m := by rw [hm]; split <;> omega
    obtain ⟨b, off, s⟩ := a
    have key : ∀ k, k < n → ∃ z : UInt8, w.cell? ((⟨b, off, s⟩ : Addr).add k) = some (bv z) := fun k hk => by
      obtain ⟨cs', hc, htr⟩ := hel k (by omega)
      rw [cq, Nat.mul_one] at hc
      obtain ⟨z, rfl, -, hw⟩ := DataW.trod_int hq htr
      have hb := bounds_u8 hw
      refine ⟨UInt8.ofNat z.toNat, ?_⟩
      unfold World.cells? at hc
      split at hc
      · rw [show List.range 1 = [0] from rfl] at hc
        simp only [List.mapM_cons, List.mapM_nil] at hc
        obtain ⟨y0, h0, h⟩ := Option.bind_eq_some_iff.1 hc
        obtain ⟨t0, h, e0⟩ := Option.bind_eq_some_iff.1 h
        cases h
        cases e0
        rw [byte_eq (by omega), Int.toNat_of_nonneg hb.1]
        exact h0
      · cases hc
    have hcap' : cap ≤ 9223372036854775807 := by unfold maxLen at hcap; omega
    by_cases h0 : n = 0
    · subst h0
      exact ⟨[], some ⟨b, off, s⟩, cap, b, off, rfl, Nat.zero_le _, hcap', fun h => absurd h (by simp), fun j hj => absurd hj (by simp)⟩
    · have hs : s = none := by
        obtain ⟨z, hz⟩ := key 0 (by omega)
        exact spot_of_cell (a := ⟨b, off, s⟩) hz
      subst hs
      refine ⟨List.ofFn fun i : Fin n => (key i.1 i.2).choose, some ⟨b, off, none⟩, cap, b, off, by simp, by simpa using hl, hcap', fun _ => rfl, fun j hj => ?_⟩
      have hj' : j < n := by simpa using hj
      rw [List.getElem_ofFn, ← addr_add1]
      exact (key j hj').choose_spec
end
/-- A row of rows of bytes. -/
def Rws (w : World) (v : Value) (Ls : List (List UInt8)) : Prop :=
  ∃ (ad : Option Addr) (cap B off : Nat) (V : Nat → Value), v = .slice ad Ls.length cap ∧ Ls.length ≤ cap ∧ cap ≤ 9223372036854775807 ∧ (0 < Ls.length → ad = some ⟨B, off, none⟩) ∧ ∀ j (h : j < Ls.length), w.cell? ⟨B, off + j, none⟩ = some (V j) ∧ Row w (V j) Ls[j]
theorem rws_gr {a b : World} {v : Value} {Ls : List (List UInt8)} (h : Rws a v Ls) (g : Gr a b) : Rws b v Ls := by
  obtain ⟨ad, cap, B, off, V, h1, h2, h3, h4, h5⟩ := h
  exact ⟨ad, cap, B, off, V, h1, h2, h3, h4, fun j hj => ⟨cell_gr g (h5 j hj).1, row_gr (h5 j hj).2 g⟩⟩
section
variable {H : Type} {enc : TypeId × Value → H} {P : Program} {w : World} {base : Nat} {sp : Nat → Bool} {held : Bool} {r : Reach} {b0 : Nat}
theorem open_rows {t e q : TypeId} {v : Value} {d : DataW H} {ps : List MemPlace} (ht : P.underlying t = some (.slice e)) (he : P.underlying e = some (.slice q)) (hq : P.underlying q = some (.int .u8)) (ce : P.cellsOf e = 1) (cq : P.cellsOf q = 1)
    (hval : Value.okWide P w r b0 t v) (hd : DataW.Trod enc P w base sp held t v d ps) : ∃ Ls, Rws w v Ls := by
  have hs : (v = .slice none 0 0) ∨ ∃ a n c, v = .slice (some a) n c ∧ n ≤ c ∧ (c : Int) ≤ IntKind.i64.max ∧ a.spot = none := by
    simp only [Value.okWide, ht, Cell.okWide] at hval
    cases v <;> simp only [Cell.ok, ht] at hval <;> try exact hval.elim
    rename_i a n c
    cases a with
    | none =>
      left
      cases n <;> cases c <;> first | rfl | exact hval.elim
    | some a => right; exact ⟨a, n, c, rfl, hval.1, hval.2.1, hval.2.2.2.1⟩
  rcases hs with rfl | ⟨⟨b, off, sp0⟩, n, cap, rfl, h1, h2, h3⟩
  · exact ⟨[], none, 0, 0, 0, fun _ => .nilIface, rfl, Nat.le_refl _, by omega, fun h => absurd h (by simp), fun j hj => absurd hj (by simp)⟩
  cases h3
  obtain ⟨fuel, hf⟩ := hd
  rcases Deep.open_slice ht hf with ⟨h, -⟩ | ⟨a, len, cap', m, q', D, Pl, hv, -, hl, -, hm, -, hel⟩
  · simp [Value.cells] at h
  · simp only [Value.cells, List.cons.injEq, Value.slice.injEq, Option.some.injEq, and_true] at hv
    obtain ⟨rfl, rfl, rfl⟩ := hv
    have hlm : n ≤ m := by rw [hm]; split <;> omega
    have key : ∀ k, k < n → ∃ z : Value × List UInt8, w.cell? ⟨b, off + k, none⟩ = some z.1 ∧ Row w z.1 z.2 := fun k hk => by
      obtain ⟨cs', hc, htr⟩ := hel k (by omega)
      rw [ce, addr_add1, Nat.mul_one] at hc
      have hlen : cs'.length = 1 := (World.cells?_some hc).2.1
      match cs', hlen with
      | [x], _ =>
        obtain ⟨L, hL⟩ := trod_bytes he hq cq htr
        exact ⟨(x, L), cells1 hc, hL⟩
    refine ⟨List.ofFn fun i : Fin n => (key i.1 i.2).choose.2, some ⟨b, off, none⟩, cap, b, off, fun j => if h : j < n then (key j h).choose.1 else .nilIface, by simp, by simpa using h1, ?_, fun _ => rfl, fun j hj => ?_⟩
    · have : IntKind.i64.max = 9223372036854775807 := rfl
      omega
    · have hj' : j < n := by simpa using hj
      rw [List.getElem_ofFn]
      simp only [dif_pos hj']
      exact (key j hj').choose_spec
end
/-- Two numbers' sum, held at a limit. -/
def satS (a b : Nat) : Nat := if 1099511627776 < a ∨ 1099511627776 < a + b then 1099511627776 else a + b
theorem sat_small {a b : Nat} (h : satS a b ≤ 3000) : satS a b = a + b := by
  unfold satS at *
  split at h
  · omega
  · rename_i h1; rw [if_neg h1]
set_option maxHeartbeats 2000000 in
set_option maxRecDepth 100000 in
theorem c_Sum1 (n m B : Nat) (hn : n ≤ 1000000000000000000) (hm : m ≤ 9223372036854775807) (W : World) (hc : W.cell? ⟨B, 0, none⟩ = some (.int .i64 m)) :
    Calls Tryd.prog 143 #[.int .i64 n, .slice (some ⟨B, 0, none⟩) 1 1] W fun e w' => e = .returned (.int .i64 (satS n m : Nat)) ∧ Gr W w' := by
  have hm2 : (m : Int) ≤ 9223372036854775807 := by omega
  have hn2 : (n : Int) ≤ 1000000000000000000 := by omega
  by_cases h1 : 1099511627776 < n
  · have t1 : decide ((1099511627776 : Int) < (n : Int)) = true := decide_eq_true (by omega)
    have e : satS n m = 1099511627776 := by unfold satS; rw [if_pos (Or.inl h1)]
    rw [e]
    clear e hm hn
    go_enter Tryd.func143, Tryd.ntmps143
    go_wp2_with fail
    refine wp_loop_rounds 1 ?_
    rw [rounds_succ]
    go_wp2_with fail
    go_ret
    exact ⟨rfl, Below.refl _ _⟩
  have t1 : decide ((1099511627776 : Int) < (n : Int)) = false := decide_eq_false (by omega)
  have t1b : (n : Int) ≤ 1099511627776 := by omega
  by_cases h2 : 1099511627776 < n + m
  · have t2 : decide ((1099511627776 : Int) - (n : Int) < (m : Int)) = true := decide_eq_true (by omega)
    have e : satS n m = 1099511627776 := by unfold satS; rw [if_pos (Or.inr h2)]
    rw [e]
    clear e hm hn
    go_enter Tryd.func143, Tryd.ntmps143
    go_wp2_with fail
    refine wp_loop_rounds 1 ?_
    rw [rounds_succ]
    go_wp2_with fail
    go_ret
    exact ⟨rfl, Below.refl _ _⟩
  have t2 : decide ((1099511627776 : Int) - (n : Int) < (m : Int)) = false := decide_eq_false (by omega)
  have e : satS n m = n + m := by unfold satS; rw [if_neg (by omega)]
  have e2 : ((n + m : Nat) : Int) = (n : Int) + (m : Int) := by omega
  have t3 : (m : Int) ≤ 1099511627776 := by omega
  rw [e, e2]
  clear e e2 hm hn h1 h2
  go_enter Tryd.func143, Tryd.ntmps143
  go_wp2_with fail
  refine wp_loop_rounds 2 ?_
  rw [rounds_succ]
  go_wp2_with fail
  rw [rounds_succ]
  go_wp2_with fail
  go_ret
  exact ⟨rfl, Below.refl _ _⟩
/-- What Total has after so many rows. -/
def totS (Ls : List (List UInt8)) : Nat → Nat
  | 0 => satS 0 Ls.length
  | k + 1 => satS (totS Ls k) (Ls.getD k []).length
def sumL (Ls : List (List UInt8)) : Nat → Nat
  | 0 => Ls.length
  | k + 1 => sumL Ls k + (Ls.getD k []).length
theorem tot_sum (Ls : List (List UInt8)) : ∀ k, totS Ls k ≤ 3000 → totS Ls k = sumL Ls k := by
  intro k
  induction k with
  | zero => intro h; have := sat_small h; simp only [totS, sumL] at *; omega
  | succ k ih =>
    intro h
    have h1 := sat_small h
    simp only [totS, sumL] at *
    rw [h1, ih (by omega)]
theorem sat_le (a b : Nat) : satS a b ≤ 1099511627776 := by unfold satS; split <;> omega
theorem tot_le (Ls : List (List UInt8)) : ∀ k, totS Ls k ≤ 1099511627776 := by
  intro k
  cases k <;> exact sat_le _ _
def TotTo (W : World) (Ls : List (List UInt8)) (e : Ending) (w' : World) : Prop := ∃ t : Nat, e = .returned (.int .i64 (t : Int)) ∧ (t ≤ 3000 → sumL Ls Ls.length = t) ∧ t ≤ 1099511627776 ∧ Gr W w'
set_option maxHeartbeats 4000000 in
set_option maxRecDepth 100000 in
theorem c_Total {Ls : List (List UInt8)} {v : Value} (W : World) (h : Rws W v Ls) :
    Calls Tryd.prog 76 #[v, .int .i64 3000] W (TotTo W Ls) := by
  obtain ⟨ad, cap, B, off, V, rfl, h1, h2, h3, h4⟩ := h
  obtain ⟨n, en⟩ : ∃ n, n = Ls.length := ⟨_, rfl⟩
  have HX := Lib.hid (And.intro h3 (And.intro h4 en))
  rw [← en] at h1 ⊢
  clear h3 h4 en
  have hn2 : n ≤ 9223372036854775807 := by omega
  have e0 : satS 0 n = totS Ls 0 := by simp only [totS]; rw [← HX.out.2.2]
  have C0 := Lib.hid (fun w (hc : w.cell? ⟨W.heap.size, 0, none⟩ = some (.int .i64 n)) => c_Sum1 0 n W.heap.size (by omega) hn2 w hc)
  have HE := Lib.hid e0
  clear e0
  go_enter Tryd.func76, Tryd.ntmps76
  go_wp2_with fail
  go_at_call 143
  refine (C0.out _ (by go_simp)).mono ?_
  rintro e w0 ⟨rfl, g0⟩
  rw [HE.out]
  have G0 : Gr W w0 := Gr.trans (by go_grown) g0
  clear g0 C0 HE
  go_wp2_with fail
  go_loopg [5, 6] n (fun k x y wr => ∃ i : Nat, x = .int .i64 (totS Ls i : Nat) ∧ y = .int .i64 i ∧ i ≤ n ∧ k = n - i ∧ Gr W wr)
  case atStart => exact ⟨0, rfl, rfl, Nat.zero_le _, by omega, G0⟩
  case round =>
    obtain ⟨i, rfl, rfl, hi, hk, hg⟩ := hrel
    obtain ⟨t, et⟩ : ∃ t, t = totS Ls i := ⟨_, rfl⟩
    have htl : t ≤ 1099511627776 := by rw [et]; exact tot_le _ _
    have htl2 : (t : Int) ≤ 1099511627776 := by omega
    have hnxt : ∀ m, m = (Ls.getD i []).length → satS t m = totS Ls (i + 1) := fun m hm => by rw [et, hm]; rfl
    have hfin : t ≤ 3000 → t = sumL Ls i := fun h => by rw [et]; exact tot_sum _ _ (by omega)
    rw [← et]
    have HN := Lib.hid (And.intro hnxt hfin)
    clear et hnxt hfin
    by_cases h : i < n
    · have ti : decide ((i : Int) < (n : Int)) = true := decide_eq_true (by omega)
      have ti2 : decide (i < n) = true := decide_eq_true h
      have ti3 : (i : Int) < (n : Int) := by omega
      by_cases ht : t ≤ 3000
      · have tj : decide ((t : Int) ≤ 3000) = true := decide_eq_true (by omega)
        have tj2 : (t : Int) ≤ 3000 := by omega
        obtain rfl := HX.out.1 (by have := HX.out.2.2; omega)
        obtain ⟨c0, r0⟩ := HX.out.2.1 i (by have := HX.out.2.2; omega)
        have c1 := cell_gr hg c0
        obtain ⟨ad', cap', B', off', ev, z1, z2, -, -⟩ := r0
        have hiL : i < Ls.length := by have := HX.out.2.2; omega
        obtain ⟨m, em⟩ : ∃ m, m = Ls[i].length := ⟨_, rfl⟩
        rw [← em] at ev z1
        rw [ev] at c1
        have hm : m = (Ls.getD i []).length := by
          rw [em, List.getD_eq_getElem?_getD, List.getElem?_eq_getElem (by have := HX.out.2.2; omega)]; rfl
        have hnx := HN.out.1 m hm
        have hm2 : m ≤ 9223372036854775807 := by omega
        have C1 := Lib.hid (fun w (hc : w.cell? ⟨wr.heap.size, 0, none⟩ = some (.int .i64 m)) => c_Sum1 t m wr.heap.size (by omega) hm2 w hc)
        have HM := Lib.hid hnx
        clear c0 ev z1 z2 em hm hnx hm2
        have hmm : n - (i + 1) < gk := by omega
        clear hk
        go_wp2_with fail
        go_at_call 143
        refine (C1.out _ (by go_simp)).mono ?_
        rintro e w1 ⟨rfl, g1⟩
        rw [HM.out]
        have G1 : Gr W w1 := Gr.trans (Gr.trans hg (by go_grown)) g1
        clear g1
        go_wp2_with fail
        go_roundg (n - (i + 1))
        case measure => exact hmm
        case rel => exact ⟨i + 1, rfl, by go_num, h, rfl, G1⟩
      · have tj : decide ((t : Int) ≤ 3000) = false := decide_eq_false (by omega)
        have tj2 : ¬ (t : Int) ≤ 3000 := by omega
        go_wp2_with fail
        go_ret
        exact ⟨t, rfl, fun h => absurd h ht, htl, hg⟩
    · obtain rfl : i = n := by omega
      have ti : decide ((i : Int) < (i : Int)) = false := decide_eq_false (by omega)
      have ti2 : decide (i < i) = false := decide_eq_false (by omega)
      go_wp2_with fail
      go_ret
      exact ⟨t, rfl, fun h => by rw [HN.out.2 h, HX.out.2.2], htl, hg⟩
theorem c_BytesE {L : List UInt8} {u v : Value} (W : World) (hu : Row W u L) (hv : Row W v L) (hl : L.length ≤ 1000000000) : Calls Tryd.prog 60 #[u, v] W fun e w' => e = .returned (.bool true) ∧ Gr W w' := by
  have h := c_Bytes W hu hv hl
  rw [decide_eq_true rfl] at h
  exact h
set_option maxHeartbeats 4000000 in
set_option maxRecDepth 100000 in
theorem c_Rows_same {Ls : List (List UInt8)} {u v : Value} (W : World) (hu : Rws W u Ls) (hv : Rws W v Ls) (hs : ∀ L ∈ Ls, L.length ≤ 1000000000) : Calls Tryd.prog 75 #[u, v] W fun e w' => e = .returned (.bool true) ∧ Gr W w' := by
  obtain ⟨ad, ca, B, off, V, rfl, h1, h2, h3, h4⟩ := hu
  obtain ⟨bd, cb, D, pff, U, rfl, k1, k2, k3, k4⟩ := hv
  obtain ⟨n, en⟩ : ∃ n, n = Ls.length := ⟨_, rfl⟩
  have HX := Lib.hid (And.intro h3 (And.intro h4 (And.intro k3 (And.intro k4 (And.intro en hs)))))
  rw [← en] at h1 k1 ⊢
  clear h3 h4 en k3 k4 hs
  have t0 : ((n : Int) != (n : Int)) = false := by simp
  go_enter Tryd.func75, Tryd.ntmps75
  go_wp2_with fail
  go_loopg [5] n (fun k y wr => ∃ i : Nat, y = .int .i64 i ∧ i ≤ n ∧ k = n - i ∧ Gr W wr)
  case atStart => exact ⟨0, rfl, Nat.zero_le _, by omega, Below.refl _ _⟩
  case round =>
    obtain ⟨i, rfl, hi, hk, hg⟩ := hrel
    by_cases h : i < n
    · have ti : decide ((i : Int) < (n : Int)) = true := decide_eq_true (by omega)
      have ti2 : decide (i < n) = true := decide_eq_true h
      have ti3 : (i : Int) < (n : Int) := by omega
      have hiL : i < Ls.length := by have := HX.out.2.2.2.2.1; omega
      obtain rfl := HX.out.1 (by omega)
      obtain rfl := HX.out.2.2.1 (by omega)
      obtain ⟨c0, r0⟩ := HX.out.2.1 i hiL
      obtain ⟨d0, q0⟩ := HX.out.2.2.2.1 i hiL
      have c1 := cell_gr hg c0
      have d1 := cell_gr hg d0
      obtain ⟨x, ex⟩ : ∃ x, x = V i := ⟨_, rfl⟩
      obtain ⟨y, ey⟩ : ∃ x, x = U i := ⟨_, rfl⟩
      rw [← ex] at c1 r0
      rw [← ey] at d1 q0
      have C := fun w (g : Gr wr w) => c_BytesE w (row_gr r0 (Gr.trans hg g)) (row_gr q0 (Gr.trans hg g)) (HX.out.2.2.2.2.2 _ (List.getElem_mem hiL))
      obtain ⟨xa, xn, xc, rfl⟩ : ∃ a n c, x = .slice a n c := by obtain ⟨a, c, b, o, e, -⟩ := r0; exact ⟨_, _, _, e⟩
      obtain ⟨ya, yn, yc, rfl⟩ : ∃ a n c, y = .slice a n c := by obtain ⟨a, c, b, o, e, -⟩ := q0; exact ⟨_, _, _, e⟩
      have H := Lib.hid C
      clear C
      have hmm : n - (i + 1) < gk := by omega
      clear c0 d0 r0 q0 ex ey hiL hk
      have gwr := hg
      go_wp2_with fail
      refine wp_region_spread (by kernel_rfl) (by kernel_rfl) ?_
      try simp only [List.append]
      repeat (first | go_big_quiet_skip | (go_big_quiet_want; go_big_quiet_op; (first | go_big_quiet_on | (apply Exists.intro; refine ⟨fun _ => ?_, ?_⟩; (· (first | (go_at_call 60; first | ((with_reducible refine ((H.out _ (gr_spread _ _))).mono ?_); rintro e w' ⟨rfl, hg⟩; exact ⟨rfl, spread_gr hg⟩)))); go_big_quiet_on))))
      refine wpQuiet_nil ?_
      intro wr hr
      obtain ⟨mr, rfl⟩ := hr
      have G1 := Gr.trans hg (gr_spread wr mr)
      go_wp2_with fail
      go_roundg (n - (i + 1))
      case measure => exact hmm
      case rel => exact ⟨i + 1, by go_num, h, rfl, G1⟩
    · obtain rfl : i = n := by omega
      have ti : decide ((i : Int) < (i : Int)) = false := decide_eq_false (by omega)
      have ti2 : decide (i < i) = false := decide_eq_false (by omega)
      go_wp2_with fail
      go_ret
      exact ⟨rfl, hg⟩
end Go.Proofs.YtmcbanplpgooeaaDoor
