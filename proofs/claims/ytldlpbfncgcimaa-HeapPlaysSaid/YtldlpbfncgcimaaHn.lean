/- HeapOrder -/
import Derived.Test.YtldlpbfncgcimaaHm
namespace Go.Proofs.Ytldlpbfncgcimaa
set_option linter.unusedVariables false
open Go.ChangeShapes Go.WideShapes Go.ChangeAt Go.RowKit

/-- The first i entries, each with its number. -/
def ordL (F : Nat → En) (i : Nat) : List Nu := (List.range i).map fun t => ⟨F t, t⟩
theorem ordL_succ (F : Nat → En) (i : Nat) : ordL F (i + 1) = ordL F i ++ [⟨F i, i⟩] := by unfold ordL; rw [List.range_succ, List.map_append]; rfl
theorem ordL_len (F : Nat → En) (i : Nat) : (ordL F i).length = i := by simp [ordL]
theorem ordL_ok {F : Nat → En} {n i : Nat} (h : ∀ k, k < n → (F k).ok) (hi : i ≤ n) : ∀ y ∈ ordL F i, y.e.ok := by
  intro y hy
  obtain ⟨t, ht, rfl⟩ := List.mem_map.1 hy
  exact h t (by have := List.mem_range.1 ht; omega)
theorem ltE_of_ltN {a b : Nu} (h : ltN a b = false) : ltE a.e b.e = false := by
  rw [ltN_eq] at h
  unfold ltE ltC
  simp at h ⊢
  exact h.1
def z6 : Array Value := #[.int .i64 0, .int .u64 0, .int .u64 0, .int .u64 0, .bool false, .int .i64 0]
theorem set6 {w : World} {q : Nat} {T : TypeId} {a0 a1 a2 a3 a4 a5 b0 b1 b2 b3 b4 b5 : Value} (h : w.heap[q]? = some (.cells #[a0, a1, a2, a3, a4, a5] T (0, 0))) :
    ((((((w.setCell ⟨q, 0, none⟩ b0).setCell ⟨q, 1, none⟩ b1).setCell ⟨q, 2, none⟩ b2).setCell ⟨q, 3, none⟩ b3).setCell ⟨q, 4, none⟩ b4).setCell ⟨q, 5, none⟩ b5).heap[q]? = some (.cells #[b0, b1, b2, b3, b4, b5] T (0, 0)) := by
  have k0 := heap_setCell_same w q 0 _ _ b0 h
  have k1 := heap_setCell_same _ q 1 _ _ b1 k0
  have k2 := heap_setCell_same _ q 2 _ _ b2 k1
  have k3 := heap_setCell_same _ q 3 _ _ b3 k2
  have k4 := heap_setCell_same _ q 4 _ _ b4 k3
  exact heap_setCell_same _ q 5 _ _ b5 k4
theorem gr_sc {W w : World} (g : Gr W w) {a : Addr} {x : Value} (h : W.heap.size ≤ a.block) : Gr W (w.setCell a x) := Below.setCell g h _
theorem heapAt_6 {W w : World} {base p m q : Nat} {v : Value} {L : List Nu} {b0 b1 b2 b3 b4 b5 : Value} (h : HeapAt w base p v L m) (g : Gr W w) (hp : q ≠ p) (hv : v.ownBlock ≠ some q) (hW : W.heap.size ≤ q) :
    HeapAt ((((((w.setCell ⟨q, 0, none⟩ b0).setCell ⟨q, 1, none⟩ b1).setCell ⟨q, 2, none⟩ b2).setCell ⟨q, 3, none⟩ b3).setCell ⟨q, 4, none⟩ b4).setCell ⟨q, 5, none⟩ b5) base p v L m ∧
    Gr W ((((((w.setCell ⟨q, 0, none⟩ b0).setCell ⟨q, 1, none⟩ b1).setCell ⟨q, 2, none⟩ b2).setCell ⟨q, 3, none⟩ b3).setCell ⟨q, 4, none⟩ b4).setCell ⟨q, 5, none⟩ b5) := by
  have k0 := And.intro h (Fr.of_gr (p := p) (v := v) g)
  have k1 := heapAt_sc (a := ⟨q, 0, none⟩) (x := b0) k0 hp hv hW
  have k2 := heapAt_sc (a := ⟨q, 1, none⟩) (x := b1) k1 hp hv hW
  have k3 := heapAt_sc (a := ⟨q, 2, none⟩) (x := b2) k2 hp hv hW
  have k4 := heapAt_sc (a := ⟨q, 3, none⟩) (x := b3) k3 hp hv hW
  have k5 := heapAt_sc (a := ⟨q, 4, none⟩) (x := b4) k4 hp hv hW
  exact ⟨(heapAt_sc (a := ⟨q, 5, none⟩) (x := b5) k5 hp hv hW).1, gr_sc (gr_sc (gr_sc (gr_sc (gr_sc (gr_sc g hW) hW) hW) hW) hW) hW⟩
set_option maxHeartbeats 8000000 in
set_option maxRecDepth 100000 in
theorem order_core (ad : Option Addr) (b off n cap : Nat) (F : Nat → En) (hA : 0 < n → ad = some ⟨b, off, none⟩) (hn : n ≤ 150) (hc : n ≤ cap) (W : World) (hF : ∀ k, k < n → (F k).ok ∧ EntAt W b (off + k * 6) (F k)) :
    Calls Try.prog 6 #[.slice ad n cap] W fun e w' => e = .returned (.bool true) ∧ Gr W w' := by
  have HF := Lib.hid hF
  have HA := Lib.hid hA
  have t0 : decide ((150 : Int) < (n : Int)) = false := decide_eq_false (by omega)
  have t00 : decide (150 < n) = false := decide_eq_false (by omega)
  have AN := Lib.hid (fun w => c_hNew w)
  clear hF hA
  go_enter Try.func6, Try.ntmps6
  go_wp2_with fail
  go_at_call 21
  (with_reducible refine (AN.out _).mono ?_)
  rintro e w1 ⟨rfl, hA1, g1⟩
  have HA1 := Lib.hid hA1
  have G1 := Lib.hid g1
  clear hA1 g1
  go_wp2_with fail
  go_loopg [4] n (fun k x wr => ∃ (i : Nat) (v : Value) (L : List Nu), x = .int .i64 i ∧ i ≤ n ∧ k = n - i ∧ HeapAt wr W.heap.size W.heap.size v L i ∧ Hp.hp ltN L ∧ L.Perm (ordL F i) ∧ Gr W wr)
  case atStart => exact ⟨0, _, _, rfl, Nat.zero_le _, by omega, HA1.out, Hp.hp_nil, List.Perm.refl _, G1.out⟩
  case round =>
    obtain ⟨i, v, L, rfl, hi, hk, hA, hh, hP, hg⟩ := hrel
    have hvl := hA.2.2.1.lt
    have HX := Lib.hid (And.intro hA (And.intro hh (And.intro hP (And.intro hg hvl))))
    have hgw := hg
    clear hA hh hP hg hvl
    obtain ⟨wo, rfl⟩ : ∃ wo : World, wo = wr := ⟨_, rfl⟩
    by_cases h : i < n
    · have ti : decide ((i : Int) < (n : Int)) = true := decide_eq_true (by omega)
      have ti2 : decide (i < n) = true := decide_eq_true h
      have ti3 : (i : Int) < (n : Int) := by omega
      obtain rfl := HA.out (by omega)
      obtain ⟨f, ef⟩ : ∃ f, f = F i := ⟨_, rfl⟩
      have hf := HF.out i h
      rw [← ef] at hf
      obtain ⟨e0, e1, e2, e3, e4, e5⟩ := entAt_gr hf.2 hgw
      have A1 := Lib.hid (fun w => c_made15 f.id f.hi f.lo f.den f.item f.node w)
      have A2 := Lib.hid (fun w (g : Gr wo w) => c_Push L f W.heap.size W.heap.size i v (by have := HX.out.2.2.1.length_eq; rw [ordL_len] at this; omega) (by omega) w (Nat.le_trans HX.out.2.2.2.1.size g.size) (heapAt_gr HX.out.1 g) (fun y hy => ordL_ok (fun k hk => (HF.out k hk).1) hi y (HX.out.2.2.1.mem_iff.1 hy)) hf.1 HX.out.2.1)
      have HFO := Lib.hid hf.1
      have EF := Lib.hid ef
      have hm : n - (i + 1) < gk := by omega
      have hi1 : i + 1 ≤ n := h
      clear hf ef
      go_wp2_with fail
      go_wp2_with fail
      go_at_call 23
      refine ((A1.out _)).mono ?_
      rintro e w2 ⟨rfl, hw2⟩
      have gw2 : Gr wo w2 := Gr.trans (by go_grown) hw2
      clear hw2
      go_wp2_with fail
      go_at_call 22
      (with_reducible refine (A2.out _ gw2).mono ?_)
      rintro e w3 ⟨rfl, v3, M, m1, m2, m3, m4⟩
      have g3 : Gr W w3 := m2.gr (Gr.trans hgw gw2) (Nat.le_refl _) (fun k h => (HX.out.2.2.2.2 k h).1)
      have HM := Lib.hid (And.intro m1 (And.intro m3 m4))
      clear m1 m2 m3 m4 e0 e1 e2 e3 e4 e5 gw2
      go_wp2_with fail
      go_loopg [5] i (fun k x wx => ∃ j : Nat, x = .int .i64 j ∧ j ≤ i ∧ k = i - j ∧ Gr w3 wx)
      case atStart => exact ⟨0, rfl, Nat.zero_le _, by omega, Below.refl _ _⟩
      case round =>
        obtain ⟨j, rfl, hj, hkj, hgx⟩ := hrel
        by_cases hji : j < i
        · have tj : decide ((j : Int) < (i : Int)) = true := decide_eq_true (by omega)
          have tj2 : decide (j < i) = true := decide_eq_true hji
          have tj3 : (j : Int) < (n : Int) := by omega
          obtain ⟨f2, ef2⟩ : ∃ f, f = F j := ⟨_, rfl⟩
          have hf1 := HF.out i h
          have hf2 := HF.out j (by omega)
          rw [← EF.out] at hf1
          rw [← ef2] at hf2
          obtain ⟨a0, a1, a2, a3, a4, a5⟩ := entAt_gr hf1.2 (Gr.trans g3 hgx)
          obtain ⟨b0, b1, b2, b3, b4, b5⟩ := entAt_gr hf2.2 (Gr.trans g3 hgx)
          have A3 := Lib.hid (fun w => c_made15 f2.id f2.hi f2.lo f2.den f2.item f2.node w)
          have A4 := Lib.hid (fun w => c_hLess f f2 hf1.1 hf2.1 w)
          have A5 := Lib.hid (fun w => c_hLess f2 f hf2.1 hf1.1 w)
          have hmj : i - (j + 1) < gk := by omega
          have hj1 : j + 1 ≤ i := hji
          have hq := ltE_ord.asym f f2
          clear hf1 hf2 ef2
          cases h1 : ltE f f2 with
          | false =>
            rw [h1] at A4
            clear h1 hq
            go_wp2_with fail
            refine wp_region_spread (by kernel_rfl) (by kernel_rfl) ?_
            try simp only [List.append]
            repeat (first | go_big_quiet_skip | (go_big_quiet_want; go_big_quiet_op; (first | go_big_quiet_on | (apply Exists.intro; refine ⟨fun _ => ?_, ?_⟩; (· (first | (go_at_call 23; first | ((with_reducible refine ((A1.out _)).mono ?_); rintro e w' ⟨rfl, hg⟩; exact ⟨rfl, spread_gr hg⟩) | ((with_reducible refine ((A3.out _)).mono ?_); rintro e w' ⟨rfl, hg⟩; exact ⟨rfl, spread_gr hg⟩)) | (go_at_call 30; first | ((with_reducible refine ((A4.out _)).mono ?_); rintro e w' ⟨rfl, hg⟩; exact ⟨rfl, spread_gr hg⟩)))); go_big_quiet_on))))
            refine wpQuiet_nil ?_
            intro wr hr
            obtain ⟨mr, rfl⟩ := hr
            go_wp2_with fail
            go_roundg (i - (j + 1))
            case measure => exact hmj
            case rel => exact ⟨j + 1, by go_num, hj1, rfl, Gr.trans hgx (gr_spread _ _)⟩
          | true =>
            rw [h1] at A4
            rw [hq h1] at A5
            clear h1 hq
            go_wp2_with fail
            refine wp_region_spread (by kernel_rfl) (by kernel_rfl) ?_
            try simp only [List.append]
            repeat (first | go_big_quiet_skip | (go_big_quiet_want; go_big_quiet_op; (first | go_big_quiet_on | (apply Exists.intro; refine ⟨fun _ => ?_, ?_⟩; (· (first | (go_at_call 23; first | ((with_reducible refine ((A1.out _)).mono ?_); rintro e w' ⟨rfl, hg⟩; exact ⟨rfl, spread_gr hg⟩) | ((with_reducible refine ((A3.out _)).mono ?_); rintro e w' ⟨rfl, hg⟩; exact ⟨rfl, spread_gr hg⟩)) | (go_at_call 30; first | ((with_reducible refine ((A4.out _)).mono ?_); rintro e w' ⟨rfl, hg⟩; exact ⟨rfl, spread_gr hg⟩) | ((with_reducible refine ((A5.out _)).mono ?_); rintro e w' ⟨rfl, hg⟩; exact ⟨rfl, spread_gr hg⟩)))); go_big_quiet_on))))
            refine wpQuiet_nil ?_
            intro wr hr
            obtain ⟨mr, rfl⟩ := hr
            go_wp2_with fail
            go_roundg (i - (j + 1))
            case measure => exact hmj
            case rel => exact ⟨j + 1, by go_num, hj1, rfl, Gr.trans hgx (gr_spread _ _)⟩
        · have tj : decide ((j : Int) < (i : Int)) = false := decide_eq_false (by omega)
          have tj2 : decide (j < i) = false := decide_eq_false hji
          go_wp2_with fail
          go_roundg (n - (i + 1))
          case measure => exact hm
          case rel =>
            refine ⟨i + 1, v3, M, by go_num, hi1, rfl, heapAt_gr HM.out.1 hgx, HM.out.2.2, ?_, Gr.trans g3 hgx⟩
            rw [ordL_succ, ← EF.out]
            exact HM.out.2.1.trans (List.Perm.append_right _ HX.out.2.2.1)
    · obtain rfl : i = n := by omega
      have ti : decide ((i : Int) < (i : Int)) = false := decide_eq_false (by omega)
      have ti2 : decide (i < i) = false := decide_eq_false (by omega)
      have ti3 : ¬ (i : Int) < (i : Int) := by omega
      go_upto_region 16 with fail
      obtain ⟨q, eq⟩ : ∃ q, q = wo.heap.size := ⟨_, rfl⟩
      obtain ⟨w2, hw2⟩ : ∃ w2, wo.alloc (.cells #[.int .i64 0, .int .u64 0, .int .u64 0, .int .u64 0, .bool false, .int .i64 0] 50) = w2 := ⟨_, rfl⟩
      rw [hw2, ← eq]
      have hq : w2.heap[q]? = some (.cells #[.int .i64 0, .int .u64 0, .int .u64 0, .int .u64 0, .bool false, .int .i64 0] 50 (0, 0)) := by subst hw2 eq; exact heap_alloc_new wo _
      have g2 : Gr wo w2 := by subst hw2; exact (Below.refl _ _).alloc (Nat.le_refl _) _
      have hWq : W.heap.size < q := by
        have := (Array.getElem?_eq_some_iff.1 HX.out.1.2.1).1
        omega
      have hvq : v.ownBlock ≠ some q := fun e => by
        have := (HX.out.2.2.2.2 q e).2
        omega
      have H2 := Lib.hid (And.intro (heapAt_gr HX.out.1 g2) (And.intro (Gr.trans hgw g2) (And.intro hq hvq)))
      clear hw2 eq hq g2 hvq hgw
      go_wp2_with fail
      go_loopg [7] i (fun k x wr => ∃ (j : Nat) (v : Value) (L : List Nu) (E : En), x = .int .i64 j ∧ j ≤ i ∧ k = i - j ∧ HeapAt wr W.heap.size W.heap.size v L i ∧ L.length = i - j ∧ Hp.hp ltN L ∧ (∀ y ∈ L, y.e.ok) ∧ E.ok ∧ (0 < j → ∀ y ∈ L, ltE y.e E = false) ∧ wr.heap[q]? = some (.cells #[.int .i64 E.id, .int .u64 E.hi, .int .u64 E.lo, .int .u64 E.den, .bool E.item, .int .i64 E.node] 50 (0, 0)) ∧ v.ownBlock ≠ some q ∧ Gr W wr ∧ (∀ k, v.ownBlock = some k → W.heap.size ≤ k))
      case atStart =>
        exact ⟨0, v, L, ⟨0, 0, 0, 0, false, 0⟩, rfl, Nat.zero_le _, by omega, H2.out.1, by have := HX.out.2.2.1.length_eq; rw [ordL_len] at this; omega, HX.out.2.1, fun y hy => ordL_ok (fun k hk => (HF.out k hk).1) (Nat.le_refl _) y (HX.out.2.2.1.mem_iff.1 hy), by unfold En.ok Wd; simp, fun h => absurd h (by omega), H2.out.2.2.1, H2.out.2.2.2, H2.out.2.1, fun k h => (HX.out.2.2.2.2 k h).1⟩
      case round =>
        obtain ⟨j, v', M, E, rfl, hj, hkj, hA', hMl, hh', hok', hE, hmin, hq, hvq, hgr, hvb⟩ := hrel
        have HY := Lib.hid (And.intro hA' (And.intro hh' (And.intro hok' (And.intro hE (And.intro hmin (And.intro hq (And.intro hvq (And.intro hgr hvb))))))))
        clear hA' hh' hok' hE hmin hq hvq hgr hvb
        by_cases hji : j < i
        · have tj : decide ((j : Int) < (i : Int)) = true := decide_eq_true (by omega)
          have tj2 : decide (j < i) = true := decide_eq_true hji
          obtain ⟨x, M0, eM⟩ : ∃ x M0, M = x :: M0 := by
            cases M with
            | nil => simp at hMl; omega
            | cons x M0 => exact ⟨x, M0, rfl⟩
          have A1 := Lib.hid (c_hPop x M M0 eM W.heap.size W.heap.size i v' (by omega) wr HY.out.2.2.2.2.2.2.2.1.size HY.out.1 HY.out.2.2.1 HY.out.2.1)
          have hmj : i - (j + 1) < gk := by omega
          have hj1 : j + 1 ≤ i := hji
          have HML := Lib.hid hMl
          clear eM hMl H2
          go_wp2_with fail
          go_at_call 24
          (with_reducible refine A1.out.mono ?_)
          rintro e w3 ⟨y, v3, N, rfl, m1, m2, m3, m4, m5⟩
          have hqr : q < wr.heap.size := (Array.getElem?_eq_some_iff.1 HY.out.2.2.2.2.2.1).1
          have hq3 := m2.block HY.out.2.2.2.2.2.1 (by omega) (fun e => HY.out.2.2.2.2.2.2.1 e.symm)
          have g3 : Gr W w3 := m2.gr HY.out.2.2.2.2.2.2.2.1 (Nat.le_refl _) HY.out.2.2.2.2.2.2.2.2
          have hvq3 : v3.ownBlock ≠ some q := fun e => by
            rcases m2.2.2 q e with h | h
            · exact HY.out.2.2.2.2.2.2.1 h
            · omega
          have hvb3 : ∀ k, v3.ownBlock = some k → W.heap.size ≤ k := fun k e => by
            rcases m2.2.2 k e with h | h
            · exact HY.out.2.2.2.2.2.2.2.2 k h
            · have := HY.out.2.2.2.2.2.2.2.1.size; omega
          have hyM : y ∈ M := m3.mem_iff.1 List.mem_cons_self
          have hyok := HY.out.2.2.1 y hyM
          have hNl : N.length = i - (j + 1) := by have := m3.length_eq; have := HML.out; simp at *; omega
          have hNok : ∀ z ∈ N, z.e.ok := fun z hz => HY.out.2.2.1 z (m3.mem_iff.1 (List.mem_cons_of_mem _ hz))
          have hNmin : ∀ z ∈ N, ltE z.e y.e = false := fun z hz => ltE_of_ltN (m4 z (m3.mem_iff.1 (List.mem_cons_of_mem _ hz)))
          obtain ⟨s0, s1, s2, s3, s4, s5, sf⟩ := row6 hq3
          have z3 : q < w3.heap.size := (Array.getElem?_eq_some_iff.1 hq3).1
          have A2 := Lib.hid (fun w => c_hLess y.e E hyok HY.out.2.2.2.1 w)
          have HZ := Lib.hid (And.intro m1 (And.intro m5 (And.intro hNl (And.intro hNok (And.intro hNmin (And.intro hq3 (And.intro hvq3 (And.intro hvb3 (And.intro g3 hyok)))))))))
          clear m1 m2 m3 m4 m5 hq3 hvq3 hvb3 g3 hNl hNok hNmin
          by_cases j0 : j = 0
          · have u1 : decide ((0 : Int) < (j : Int)) = false := decide_eq_false (by omega)
            have u2 : decide (0 < j) = false := decide_eq_false (by omega)
            clear j0 hyM hyok s0 s1 s2 s3 s4 s5 sf
            go_upto_region 22 with fail
            obtain ⟨w4, hw4⟩ : ∃ w4, w3.alloc (.cells #[.int .i64 y.e.id, .int .u64 y.e.hi, .int .u64 y.e.lo, .int .u64 y.e.den, .bool y.e.item, .int .i64 y.e.node] 50) = w4 := ⟨_, rfl⟩
            rw [hw4]
            have g4 : Gr w3 w4 := by subst hw4; exact (Below.refl _ _).alloc (Nat.le_refl _) _
            have B8 : w4.heap[w3.heap.size]? = some (.cells #[.int .i64 y.e.id, .int .u64 y.e.hi, .int .u64 y.e.lo, .int .u64 y.e.den, .bool y.e.item, .int .i64 y.e.node] 50 (0, 0)) := by subst hw4; exact heap_alloc_new w3 _
            clear hw4
            have hq4 := show w4.heap[q]? = some (.cells #[.int .i64 E.id, .int .u64 E.hi, .int .u64 E.lo, .int .u64 E.den, .bool E.item, .int .i64 E.node] 50 (0, 0)) from (g4.block q z3).trans HZ.out.2.2.2.2.2.1
            obtain ⟨s0, s1, s2, s3, s4, s5, sf⟩ := row6 hq4
            obtain ⟨r0, r1, r2, r3, r4, r5, rf⟩ := row6 B8
            have GW4 : Gr W w4 := Gr.trans HZ.out.2.2.2.2.2.2.2.2.1 g4
            have K6 := Lib.hid (heapAt_6 (b0 := .int .i64 y.e.id) (b1 := .int .u64 y.e.hi) (b2 := .int .u64 y.e.lo) (b3 := .int .u64 y.e.den) (b4 := .bool y.e.item) (b5 := .int .i64 y.e.node) (heapAt_gr HZ.out.1 g4) GW4 (by omega) HZ.out.2.2.2.2.2.2.1 (by omega))
            have S6 := Lib.hid (set6 (b0 := .int .i64 y.e.id) (b1 := .int .u64 y.e.hi) (b2 := .int .u64 y.e.lo) (b3 := .int .u64 y.e.den) (b4 := .bool y.e.item) (b5 := .int .i64 y.e.node) hq4)
            clear hq4 B8 g4 GW4
            go_wp2_with fail
            go_roundg (i - (j + 1))
            case measure => exact hmj
            case rel => exact ⟨j + 1, v3, N, y.e, by go_num, hj1, rfl, K6.out.1, HZ.out.2.2.1, HZ.out.2.1, HZ.out.2.2.2.1, HZ.out.2.2.2.2.2.2.2.2.2, fun _ => HZ.out.2.2.2.2.1, S6.out, HZ.out.2.2.2.2.2.2.1, K6.out.2, HZ.out.2.2.2.2.2.2.2.1⟩
          · have u1 : decide ((0 : Int) < (j : Int)) = true := decide_eq_true (by omega)
            have u2 : decide (0 < j) = true := decide_eq_true (by omega)
            have hless : ltE y.e E = false := HY.out.2.2.2.2.1 (by omega) y hyM
            rw [hless] at A2
            clear j0 hyM hyok hless
            go_wp2_with fail
            go_at_call 30
            (with_reducible refine (A2.out _).mono ?_)
            rintro e w4 ⟨rfl, g4'⟩
            have g4 : Gr w3 w4 := Gr.trans (by go_grown) g4'
            have B8 : w4.heap[w3.heap.size]? = some (.cells #[.int .i64 y.e.id, .int .u64 y.e.hi, .int .u64 y.e.lo, .int .u64 y.e.den, .bool y.e.item, .int .i64 y.e.node] 50 (0, 0)) := (g4'.block _ (by simp)).trans (heap_alloc_new w3 _)
            clear g4' s0 s1 s2 s3 s4 s5 sf
            have hq4 := show w4.heap[q]? = some (.cells #[.int .i64 E.id, .int .u64 E.hi, .int .u64 E.lo, .int .u64 E.den, .bool E.item, .int .i64 E.node] 50 (0, 0)) from (g4.block q z3).trans HZ.out.2.2.2.2.2.1
            obtain ⟨s0, s1, s2, s3, s4, s5, sf⟩ := row6 hq4
            obtain ⟨r0, r1, r2, r3, r4, r5, rf⟩ := row6 B8
            have GW4 : Gr W w4 := Gr.trans HZ.out.2.2.2.2.2.2.2.2.1 g4
            have K6 := Lib.hid (heapAt_6 (b0 := .int .i64 y.e.id) (b1 := .int .u64 y.e.hi) (b2 := .int .u64 y.e.lo) (b3 := .int .u64 y.e.den) (b4 := .bool y.e.item) (b5 := .int .i64 y.e.node) (heapAt_gr HZ.out.1 g4) GW4 (by omega) HZ.out.2.2.2.2.2.2.1 (by omega))
            have S6 := Lib.hid (set6 (b0 := .int .i64 y.e.id) (b1 := .int .u64 y.e.hi) (b2 := .int .u64 y.e.lo) (b3 := .int .u64 y.e.den) (b4 := .bool y.e.item) (b5 := .int .i64 y.e.node) hq4)
            clear hq4 B8 g4 GW4
            go_wp2_with fail
            go_roundg (i - (j + 1))
            case measure => exact hmj
            case rel => exact ⟨j + 1, v3, N, y.e, by go_num, hj1, rfl, K6.out.1, HZ.out.2.2.1, HZ.out.2.1, HZ.out.2.2.2.1, HZ.out.2.2.2.2.2.2.2.2.2, fun _ => HZ.out.2.2.2.2.1, S6.out, HZ.out.2.2.2.2.2.2.1, K6.out.2, HZ.out.2.2.2.2.2.2.2.1⟩
        · obtain rfl : j = i := by omega
          have tj : decide ((j : Int) < (j : Int)) = false := decide_eq_false (by omega)
          have tj2 : decide (j < j) = false := decide_eq_false (by omega)
          obtain rfl : M = [] := List.eq_nil_of_length_eq_zero (by omega)
          have A1 : ∀ w, Gr wr w → Calls Try.prog 27 #[.pointer (some ⟨W.heap.size, 0, none⟩)] w fun e w' => e = .returned (.tuple #[.agg #[.int .i64 0, .int .u64 0, .int .u64 0, .int .u64 0, .bool false, .int .i64 0], .bool false]) ∧ Gr w w' := fun w g => c_hTop w (heapAt_gr HY.out.1 g) (by simp)
          have A2 := fun w (g : Gr wr w) => pop_none (.pointer (some ⟨W.heap.size, 0, none⟩)) w (fun w' g' => A1 w' (Gr.trans g g'))
          have A3 : ∀ w, Gr wr w → Calls Try.prog 29 #[.pointer (some ⟨W.heap.size, 0, none⟩)] w fun e w' => e = .returned (.int .i64 0) ∧ Gr w w' := fun w g => c_hLen w (heapAt_gr HY.out.1 g)
          have A4 := fun w => p15_awake w
          have H2 := Lib.hid A2
          have H3 := Lib.hid A3
          have H4 := Lib.hid A4
          clear A2 A3 A4
          clear A1
          go_wp2_with fail
          go_at_call 24
          (with_reducible refine (H2.out _ (Below.refl _ _)).mono ?_)
          rintro e w4 ⟨rfl, g4⟩
          have G4 := Lib.hid g4
          clear g4
          go_wp2_with fail
          go_at_call 29
          (with_reducible refine (H3.out _ (Gr.trans G4.out (by go_grown))).mono ?_)
          rintro e w5 ⟨rfl, g5⟩
          have G5 := Lib.hid (Gr.trans (Gr.trans G4.out (by go_grown)) g5)
          clear g5
          go_wp2_with fail
          go_at_call 20
          (with_reducible refine (H4.out _).mono ?_)
          rintro e w6 ⟨rfl, g6⟩
          go_wp2_with fail
          go_ret
          exact ⟨rfl, Gr.trans HY.out.2.2.2.2.2.2.2.1 (Gr.trans G5.out g6)⟩
set_option maxHeartbeats 2000000 in
theorem walk_HeapOrder (W : World) (ad : Option Addr) (b off n cap : Nat) (F : Nat → En) (B0 : n ≤ cap ∧ (cap : Int) ≤ 9223372036854775807 ∧ (0 < n → ad = some ⟨b, off, none⟩) ∧ ∀ k, k < n → (F k).ok ∧ EntAt W b (off + k * 6) (F k)) :
    Calls Try.prog 6 #[.slice ad n cap] W fun e w' => e = .returned (.bool true) ∧ Gr W w' := by
  by_cases h : n ≤ 150
  · exact order_core ad b off n cap F B0.2.2.1 h B0.1 W B0.2.2.2
  · have t0 : decide ((150 : Int) < (n : Int)) = true := decide_eq_true (by omega)
    have t00 : decide (150 < n) = true := decide_eq_true (by omega)
    clear B0
    go_enter Try.func6, Try.ntmps6
    go_wp2_with fail
    go_at_call 20
    (with_reducible refine (p15_awake _).mono ?_)
    rintro e w6 ⟨rfl, g6⟩
    go_wp2_with fail
    go_ret
    exact ⟨rfl, g6⟩
end Go.Proofs.Ytldlpbfncgcimaa
