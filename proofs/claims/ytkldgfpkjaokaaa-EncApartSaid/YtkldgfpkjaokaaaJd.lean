/- enc.Unchange: the walk -/
import Derived.Test.YtkldgfpkjaokaaaJa
namespace Go.Proofs.Ytkldgfpkjaokaaa
set_option linter.unusedVariables false
set_option linter.unusedSimpArgs false
open Go.ChangeShapes Go.WideShapes Go.ChangeAt Go.RowKit

set_option maxHeartbeats 8000000 in
set_option maxRecDepth 100000 in
theorem c_Unchange {L : List UInt8} {v : Value} (W : World) (h : Row W v L) (hl : L.length ≤ 100000) :
    Calls Try.prog 8 #[v] W (UcTo W L) := by
  have bB := ucB_le L
  have bA := ucA_le L
  have hL9 : (L.length : Int) ≤ 100000 := by omega
  have A1 : ∀ w, Rdr w (W.heap.size + 1) v 0 false → Gr W w → Calls Try.prog 15 #[.pointer (some ⟨W.heap.size + 1, 0, none⟩), .int .i64 2] w (RdTo w (W.heap.size + 1) v (ucB L) (ucS1 L) (.int .i64 (ucK1 L : Nat))) := fun w r g => c_num (lim := 2) w r (row_gr h g) hl (Nat.zero_le _) (by decide)
  have A2 : ∀ w, Rdr w (W.heap.size + 1) v (ucB L) (ucS1 L) → Gr W w → Calls Try.prog 15 #[.pointer (some ⟨W.heap.size + 1, 0, none⟩), .int .i64 1099511627776] w (RdTo w (W.heap.size + 1) v (ucA L) (ucS2 L) (.int .i64 (ucI L : Nat))) := fun w r g => c_num (lim := 1099511627776) w r (row_gr h g) hl bB (by decide)
  have A3 : ∀ w s n, n ≤ 100000 → Rdr w (W.heap.size + 1) v (ucA L) s → Calls Try.prog 17 #[.pointer (some ⟨W.heap.size + 1, 0, none⟩), .int .i64 (n : Nat)] w (RdTo w (W.heap.size + 1) v (ucA L + n) (s || decide (n = 0)) (.tuple #[])) := fun w s n hn r => c_skipN w r (by omega) (by omega)
  have A5 : ∀ w, Rdr w (W.heap.size + 1) v (ucA L) false → Calls Try.prog 17 #[.pointer (some ⟨W.heap.size + 1, 0, none⟩), .int .i64 0] w (RdTo w (W.heap.size + 1) v (ucA L + 0) true (.tuple #[])) := fun w r => A3 w false 0 (by omega) r
  obtain ⟨v1, ks, R1⟩ := row_from (ucA L) bA h
  have A4 : ∀ w, Gr W w → Calls Try.prog 16 #[v1] w (UoTo w (ucO L)) := fun w g => c_Unobject w (row_gr R1 g) (by unfold ucO; simp; omega)
  have hK2 : ucK1 L ≤ 2 := nmV_le _ _ _ _
  have hEO : uoE (ucO L) ≤ L.length := Nat.le_trans (uoE_le _) (by unfold ucO; simp)
  have fin1 : ∀ B w', ucBad L = true → FaultAt w' B changeS 0 10 → Gr W w' → UcTo W L (.returned (.tuple #[.agg #[.int .i64 0, .int .i64 0, .int .i64 0, .slice none 0 0], .int .i64 0, .iface 61 (.pointer (some ⟨B, 0, none⟩))])) w' := fun B w' hb hF g => Or.inl ⟨hb, B, rfl, hF, g⟩
  have fin2 : ∀ x w', ucBad L = false → Pts w' x (ucM L) (uoX (ucO L)) (uoY (ucO L)) → Gr W w' → UcTo W L (.returned (.tuple #[.agg #[.int .i64 (ucK1 L : Nat), .int .i64 (ucI L : Nat), .int .i64 (ucK L : Nat), x], .int .i64 (ucE L : Nat), .nilIface])) w' := fun x w' hb hP g => Or.inr ⟨hb, x, rfl, hP, g⟩
  have hbad : ucBad L = (ucS2 L || (decide (ucK1 L = 0) || (decide (ucK1 L = 1) && uoBad (ucO L)))) := rfl
  have hpos : uoBad (ucO L) = false → uoE (ucO L) ≠ 0 := uoE_pos
  have hKK : ucK L = if ucK1 L = 1 then uoK (ucO L) else 0 := rfl
  have hMM : ucM L = if ucK1 L = 1 then uoM (ucO L) else 0 := rfl
  have hEE : ucE L = if ucK1 L = 1 then ucA L + uoE (ucO L) else ucA L := rfl
  have HX := Lib.hid (And.intro hbad (And.intro hpos (And.intro hKK (And.intro hMM (And.intro hEE hEO)))))
  have HF := Lib.hid (And.intro fin1 fin2)
  generalize UcTo W L = Post at HF ⊢
  generalize ucBad L = bad at HF HX
  generalize ucK L = ok at HF HX
  generalize ucM L = om at HF HX
  generalize ucE L = oe at HF HX
  obtain ⟨ad, cap, B, off, rfl, _⟩ := h
  obtain ⟨ad1, cap1, _, _, rfl, _⟩ := R1
  have HO := Lib.hid (rfl : ucO L = ucO L)
  generalize (L.drop (ucA L)).length = ln at ks A4
  generalize ucO L = M at A4 HF HX
  generalize ucB L = b1 at A1 A2 bB
  generalize ucS1 L = s1 at A1 A2
  generalize ucK1 L = kd at A1 HF HX hK2
  generalize ucA L = a2 at A2 A3 A5 bA HX ks
  generalize ucS2 L = s2 at A2 HX
  generalize ucI L = id at A2 HF
  have H1 := Lib.hid A1
  have H2 := Lib.hid A2
  have H3 := Lib.hid A3
  have H4 := Lib.hid A4
  have H5 := Lib.hid A5
  clear A1 A2 A3 A4 A5
  clear fin1 fin2 hbad hpos hKK hMM hEE hEO HO
  go_enter Try.func8, Try.ntmps8
  go_wp2_with fail
  go_at_call 15
  (with_reducible refine (H1.out _ (rdr_mk (by go_simp) (by go_simp) (by go_simp) (by go_simp) (by go_simp)) (by go_grown)).mono ?_)
  rintro e w1 ⟨rfl, R1, k1⟩
  have c0 : w1.cell? ⟨W.heap.size, 0, none⟩ = some (.int .i64 0) := cell_kx k1 (by show ¬ (W.heap.size = W.heap.size + 1); omega) (by go_simp)
  have f0 : w1.frozen? ⟨W.heap.size, 0, none⟩ = false := frozen_kx (v := .int .i64 0) k1 (by show ¬ (W.heap.size = W.heap.size + 1); omega) (by go_simp) (by go_simp)
  have c1 : w1.cell? ⟨W.heap.size, 1, none⟩ = some (.int .i64 0) := cell_kx k1 (by show ¬ (W.heap.size = W.heap.size + 1); omega) (by go_simp)
  have f1 : w1.frozen? ⟨W.heap.size, 1, none⟩ = false := frozen_kx (v := .int .i64 0) k1 (by show ¬ (W.heap.size = W.heap.size + 1); omega) (by go_simp) (by go_simp)
  have c2 : w1.cell? ⟨W.heap.size, 2, none⟩ = some (.int .i64 0) := cell_kx k1 (by show ¬ (W.heap.size = W.heap.size + 1); omega) (by go_simp)
  have f2 : w1.frozen? ⟨W.heap.size, 2, none⟩ = false := frozen_kx (v := .int .i64 0) k1 (by show ¬ (W.heap.size = W.heap.size + 1); omega) (by go_simp) (by go_simp)
  have c3 : w1.cell? ⟨W.heap.size, 3, none⟩ = some (.slice none 0 0) := cell_kx k1 (by show ¬ (W.heap.size = W.heap.size + 1); omega) (by go_simp)
  have f3 : w1.frozen? ⟨W.heap.size, 3, none⟩ = false := frozen_kx (v := .slice none 0 0) k1 (by show ¬ (W.heap.size = W.heap.size + 1); omega) (by go_simp) (by go_simp)
  have G1 : Gr W w1 := Kx.gr k1 (by go_grown) (fun k hk => by have : k = W.heap.size + 1 := hk; omega)
  have R1h := Lib.hid R1
  have z1 := World.block_lt_of_cell? _ _ R1.1
  clear k1 R1
  go_wp2_with fail
  go_at_call 15
  (with_reducible refine (H2.out _ (rdr_set R1h.out (by simp)) (by have gg := G1; have gs := gg.size; go_grown)).mono ?_)
  rintro e w2 ⟨rfl, R2, k2⟩
  have d0 : w2.cell? ⟨W.heap.size, 0, none⟩ = some (.int .i64 kd) := cell_kx k2 (by show ¬ (W.heap.size = W.heap.size + 1); omega) (by go_simp)
  have p0 : w2.frozen? ⟨W.heap.size, 0, none⟩ = false := frozen_kx (v := .int .i64 kd) k2 (by show ¬ (W.heap.size = W.heap.size + 1); omega) (by go_simp) (by go_simp)
  have d1 : w2.cell? ⟨W.heap.size, 1, none⟩ = some (.int .i64 0) := cell_kx k2 (by show ¬ (W.heap.size = W.heap.size + 1); omega) (by go_simp)
  have p1 : w2.frozen? ⟨W.heap.size, 1, none⟩ = false := frozen_kx (v := .int .i64 0) k2 (by show ¬ (W.heap.size = W.heap.size + 1); omega) (by go_simp) (by go_simp)
  have d2 : w2.cell? ⟨W.heap.size, 2, none⟩ = some (.int .i64 0) := cell_kx k2 (by show ¬ (W.heap.size = W.heap.size + 1); omega) (by go_simp)
  have p2 : w2.frozen? ⟨W.heap.size, 2, none⟩ = false := frozen_kx (v := .int .i64 0) k2 (by show ¬ (W.heap.size = W.heap.size + 1); omega) (by go_simp) (by go_simp)
  have d3 : w2.cell? ⟨W.heap.size, 3, none⟩ = some (.slice none 0 0) := cell_kx k2 (by show ¬ (W.heap.size = W.heap.size + 1); omega) (by go_simp)
  have p3 : w2.frozen? ⟨W.heap.size, 3, none⟩ = false := frozen_kx (v := .slice none 0 0) k2 (by show ¬ (W.heap.size = W.heap.size + 1); omega) (by go_simp) (by go_simp)
  have G2 : Gr W w2 := Kx.gr k2 (by have gg := G1; have gs := gg.size; go_grown) (fun k hk => by have : k = W.heap.size + 1 := hk; omega)
  have R2h := Lib.hid (rdr_set (p := ⟨W.heap.size, 1, none⟩) (u := .int .i64 id) R2 (by simp))
  have G2s := G2.size
  have G2h := Lib.hid G2
  have z2 := World.block_lt_of_cell? _ _ R2.1
  obtain ⟨r0, r1, r2, r3, r4⟩ := R2
  clear k2 c0 c1 c2 c3 f0 f1 f2 f3 G1 R1h z1 H1 H2
  cases s2
  · rcases (by omega : kd = 0 ∨ kd = 1 ∨ kd = 2) with rfl | rfl | rfl
    · obtain rfl : bad = true := HX.out.1
      go_wp2_with fail
      go_at_call 12
      (with_reducible refine (c_faultNew changeS 0 10 _).mono ?_)
      rintro e wz ⟨B4, rfl, hB4, hF, g4⟩
      have y0 : wz.cell? ⟨W.heap.size, 0, none⟩ = some (.int .i64 0) := cell_gr g4 (by go_simp)
      have x0 : wz.frozen? ⟨W.heap.size, 0, none⟩ = false := frozen_gr (v := .int .i64 0) g4 (by go_simp) (by go_simp)
      have y1 : wz.cell? ⟨W.heap.size, 1, none⟩ = some (.int .i64 id) := cell_gr g4 (by go_simp)
      have x1 : wz.frozen? ⟨W.heap.size, 1, none⟩ = false := frozen_gr (v := .int .i64 id) g4 (by go_simp) (by go_simp)
      have y2 : wz.cell? ⟨W.heap.size, 2, none⟩ = some (.int .i64 0) := cell_gr g4 (by go_simp)
      have x2 : wz.frozen? ⟨W.heap.size, 2, none⟩ = false := frozen_gr (v := .int .i64 0) g4 (by go_simp) (by go_simp)
      have y3 : wz.cell? ⟨W.heap.size, 3, none⟩ = some (.slice none 0 0) := cell_gr g4 (by go_simp)
      have x3 : wz.frozen? ⟨W.heap.size, 3, none⟩ = false := frozen_gr (v := .slice none 0 0) g4 (by go_simp) (by go_simp)
      have hF4 := Lib.hid hF
      have G4 : Gr W wz := Gr.trans (by have gg := G2; have gs := gg.size; go_grown) g4
      have zz : W.heap.size < wz.heap.size := World.block_lt_of_cell? _ _ y0
      have nB : B4 ≠ W.heap.size := by (try simp at hB4); omega
      clear g4 hF d0 d1 d2 d3 p0 p1 p2 p3 r0 r1 r2 r3 r4 G2
      go_wp2_with fail
      refine bodyPost_ret (v := .tuple #[.agg #[.int .i64 0, .int .i64 0, .int .i64 0, .slice none 0 0], .int .i64 0, .iface 61 (.pointer (some ⟨B4, 0, none⟩))]) (by simp [results, Try.results8, go_sem, *]) rfl (HF.out.1 _ _ trivial (faultAt_set4 hF4.out nB) (by have gg := G4; have gs := gg.size; go_grown))
    · go_wp2_with fail
      go_at_call 16
      refine (H4.out _ (by have gg := G2; have gs := gg.size; go_grown)).mono ?_
      rintro e w3 hU
      rcases hU with ⟨hb, B3, rfl, hF3, g3⟩ | ⟨hok, v3, rfl, hP3, hN3, g3⟩
      · obtain rfl : bad = true := by rw [HX.out.1, hb]; rfl
        have y0 : w3.cell? ⟨W.heap.size, 0, none⟩ = some (.int .i64 1) := cell_gr g3 (by go_simp)
        have x0 : w3.frozen? ⟨W.heap.size, 0, none⟩ = false := frozen_gr (v := .int .i64 1) g3 (by go_simp) (by go_simp)
        have y1 : w3.cell? ⟨W.heap.size, 1, none⟩ = some (.int .i64 id) := cell_gr g3 (by go_simp)
        have x1 : w3.frozen? ⟨W.heap.size, 1, none⟩ = false := frozen_gr (v := .int .i64 id) g3 (by go_simp) (by go_simp)
        have y2 : w3.cell? ⟨W.heap.size, 2, none⟩ = some (.int .i64 0) := cell_gr g3 (by go_simp)
        have x2 : w3.frozen? ⟨W.heap.size, 2, none⟩ = false := frozen_gr (v := .int .i64 0) g3 (by go_simp) (by go_simp)
        have y3 : w3.cell? ⟨W.heap.size, 3, none⟩ = some (.slice none 0 0) := cell_gr g3 (by go_simp)
        have x3 : w3.frozen? ⟨W.heap.size, 3, none⟩ = false := frozen_gr (v := .slice none 0 0) g3 (by go_simp) (by go_simp)
        have R3 := Lib.hid (rdr_gr R2h.out g3)
        have G3 : Gr W w3 := Gr.trans (by have gg := G2; have gs := gg.size; go_grown) g3
        have zz3 : W.heap.size < w3.heap.size := World.block_lt_of_cell? _ _ y0
        clear g3 hF3 hb H4 d0 d1 d2 d3 p0 p1 p2 p3 r0 r1 r2 r3 r4 G2
        go_wp2_with fail
        go_at_call 17
        (with_reducible refine (H5.out _ (rdr_set (rdr_set R3.out (by simp)) (by simp))).mono ?_)
        rintro e w4 ⟨rfl, R4, k4⟩
        have d0 : w4.cell? ⟨W.heap.size, 0, none⟩ = some (.int .i64 1) := cell_kx k4 (by show ¬ (W.heap.size = W.heap.size + 1); omega) (by go_simp)
        have p0 : w4.frozen? ⟨W.heap.size, 0, none⟩ = false := frozen_kx (v := .int .i64 1) k4 (by show ¬ (W.heap.size = W.heap.size + 1); omega) (by go_simp) (by go_simp)
        have d1 : w4.cell? ⟨W.heap.size, 1, none⟩ = some (.int .i64 id) := cell_kx k4 (by show ¬ (W.heap.size = W.heap.size + 1); omega) (by go_simp)
        have p1 : w4.frozen? ⟨W.heap.size, 1, none⟩ = false := frozen_kx (v := .int .i64 id) k4 (by show ¬ (W.heap.size = W.heap.size + 1); omega) (by go_simp) (by go_simp)
        have d2 : w4.cell? ⟨W.heap.size, 2, none⟩ = some (.int .i64 0) := cell_kx k4 (by show ¬ (W.heap.size = W.heap.size + 1); omega) (by go_simp)
        have p2 : w4.frozen? ⟨W.heap.size, 2, none⟩ = false := frozen_kx (v := .int .i64 0) k4 (by show ¬ (W.heap.size = W.heap.size + 1); omega) (by go_simp) (by go_simp)
        have d3 : w4.cell? ⟨W.heap.size, 3, none⟩ = some (.slice none 0 0) := cell_kx k4 (by show ¬ (W.heap.size = W.heap.size + 1); omega) (by go_simp)
        have p3 : w4.frozen? ⟨W.heap.size, 3, none⟩ = false := frozen_kx (v := .slice none 0 0) k4 (by show ¬ (W.heap.size = W.heap.size + 1); omega) (by go_simp) (by go_simp)
        have G4 : Gr W w4 := Kx.gr k4 (by have gg := G3; have gs := gg.size; go_grown) (fun k hk => by have : k = W.heap.size + 1 := hk; omega)
        have zz4 : W.heap.size < w4.heap.size := World.block_lt_of_cell? _ _ d0
        obtain ⟨r0, r1, r2, r3, r4⟩ := R4
        clear k4 G3 R3 y0 y1 y2 y3 x0 x1 x2 x3
        go_wp2_with fail
        go_at_call 12
        (with_reducible refine (c_faultNew changeS 0 10 _).mono ?_)
        rintro e wz ⟨B4, rfl, hB4, hF, g4⟩
        have y0 : wz.cell? ⟨W.heap.size, 0, none⟩ = some (.int .i64 1) := cell_gr g4 (by go_simp)
        have x0 : wz.frozen? ⟨W.heap.size, 0, none⟩ = false := frozen_gr (v := .int .i64 1) g4 (by go_simp) (by go_simp)
        have y1 : wz.cell? ⟨W.heap.size, 1, none⟩ = some (.int .i64 id) := cell_gr g4 (by go_simp)
        have x1 : wz.frozen? ⟨W.heap.size, 1, none⟩ = false := frozen_gr (v := .int .i64 id) g4 (by go_simp) (by go_simp)
        have y2 : wz.cell? ⟨W.heap.size, 2, none⟩ = some (.int .i64 0) := cell_gr g4 (by go_simp)
        have x2 : wz.frozen? ⟨W.heap.size, 2, none⟩ = false := frozen_gr (v := .int .i64 0) g4 (by go_simp) (by go_simp)
        have y3 : wz.cell? ⟨W.heap.size, 3, none⟩ = some (.slice none 0 0) := cell_gr g4 (by go_simp)
        have x3 : wz.frozen? ⟨W.heap.size, 3, none⟩ = false := frozen_gr (v := .slice none 0 0) g4 (by go_simp) (by go_simp)
        have hF4 := Lib.hid hF
        have G5 : Gr W wz := Gr.trans (by have gg := G4; have gs := gg.size; go_grown) g4
        have zz : W.heap.size < wz.heap.size := World.block_lt_of_cell? _ _ y0
        have nB : B4 ≠ W.heap.size := by (try simp at hB4); omega
        clear g4 hF d0 d1 d2 d3 p0 p1 p2 p3 r0 r1 r2 r3 r4
        go_wp2_with fail
        refine bodyPost_ret (v := .tuple #[.agg #[.int .i64 0, .int .i64 0, .int .i64 0, .slice none 0 0], .int .i64 0, .iface 61 (.pointer (some ⟨B4, 0, none⟩))]) (by simp [results, Try.results8, go_sem, *]) rfl (HF.out.1 _ _ trivial (faultAt_set4 hF4.out nB) (by have gg := G5; have gs := gg.size; go_grown))
      · obtain rfl : bad = false := by rw [HX.out.1, hok]; rfl
        have y0 : w3.cell? ⟨W.heap.size, 0, none⟩ = some (.int .i64 1) := cell_gr g3 (by go_simp)
        have x0 : w3.frozen? ⟨W.heap.size, 0, none⟩ = false := frozen_gr (v := .int .i64 1) g3 (by go_simp) (by go_simp)
        have y1 : w3.cell? ⟨W.heap.size, 1, none⟩ = some (.int .i64 id) := cell_gr g3 (by go_simp)
        have x1 : w3.frozen? ⟨W.heap.size, 1, none⟩ = false := frozen_gr (v := .int .i64 id) g3 (by go_simp) (by go_simp)
        have y2 : w3.cell? ⟨W.heap.size, 2, none⟩ = some (.int .i64 0) := cell_gr g3 (by go_simp)
        have x2 : w3.frozen? ⟨W.heap.size, 2, none⟩ = false := frozen_gr (v := .int .i64 0) g3 (by go_simp) (by go_simp)
        have y3 : w3.cell? ⟨W.heap.size, 3, none⟩ = some (.slice none 0 0) := cell_gr g3 (by go_simp)
        have x3 : w3.frozen? ⟨W.heap.size, 3, none⟩ = false := frozen_gr (v := .slice none 0 0) g3 (by go_simp) (by go_simp)
        have R3 := Lib.hid (rdr_gr R2h.out g3)
        have G3 : Gr W w3 := Gr.trans (by have gg := G2; have gs := gg.size; go_grown) g3
        have zz3 : W.heap.size < w3.heap.size := World.block_lt_of_cell? _ _ y0
        have hNW : ∀ (ad : Addr) (m c : Nat), v3 = .slice (some ad) m c → 0 < uoM M → ¬ (fun k => k = W.heap.size ∨ k = W.heap.size + 1) ad.block := fun ad m c e _ => by
          have := hN3 ad m c e
          simp at this
          show ¬ (ad.block = W.heap.size ∨ ad.block = W.heap.size + 1)
          omega
        have HP3 := Lib.hid (And.intro hP3 hNW)
        obtain ⟨e0, hpos, e1, e2, e3, e4⟩ := HX.out
        clear e0
        have f1 : ok = uoK M := e1
        have f2 : om = uoM M := e2
        have f3 : oe = a2 + uoE M := e3
        have fn := HF.out.2
        rw [f1, f2, f3] at fn
        have hp := hpos hok
        obtain ⟨ad3, cap3, _, _, rfl, _⟩ := hP3
        generalize uoX M = X3 at *
        generalize uoY M = Y3 at *
        generalize uoM M = m3 at *
        generalize uoK M = k3 at *
        generalize uoE M = n3 at *
        have A6 := fun w r => H3.out w false n3 (by omega) r
        rw [decide_eq_false hp, Bool.or_false] at A6
        have H6 := Lib.hid A6
        have FN := Lib.hid fn
        clear A6 fn hp e1 e2 e3 f1 f2 f3 hpos HX HF hok hN3 hNW g3 H3 H4 H5 d0 d1 d2 d3 p0 p1 p2 p3 r0 r1 r2 r3 r4 G2
        go_wp2_with fail
        go_at_call 17
        (with_reducible refine (H6.out _ (rdr_set (rdr_set R3.out (by simp)) (by simp))).mono ?_)
        rintro e w4 ⟨rfl, R4, k4⟩
        have d0 : w4.cell? ⟨W.heap.size, 0, none⟩ = some (.int .i64 1) := cell_kx k4 (by show ¬ (W.heap.size = W.heap.size + 1); omega) (by go_simp)
        have p0 : w4.frozen? ⟨W.heap.size, 0, none⟩ = false := frozen_kx (v := .int .i64 1) k4 (by show ¬ (W.heap.size = W.heap.size + 1); omega) (by go_simp) (by go_simp)
        have d1 : w4.cell? ⟨W.heap.size, 1, none⟩ = some (.int .i64 id) := cell_kx k4 (by show ¬ (W.heap.size = W.heap.size + 1); omega) (by go_simp)
        have p1 : w4.frozen? ⟨W.heap.size, 1, none⟩ = false := frozen_kx (v := .int .i64 id) k4 (by show ¬ (W.heap.size = W.heap.size + 1); omega) (by go_simp) (by go_simp)
        have d2 : w4.cell? ⟨W.heap.size, 2, none⟩ = some (.int .i64 k3) := cell_kx k4 (by show ¬ (W.heap.size = W.heap.size + 1); omega) (by go_simp)
        have p2 : w4.frozen? ⟨W.heap.size, 2, none⟩ = false := frozen_kx (v := .int .i64 k3) k4 (by show ¬ (W.heap.size = W.heap.size + 1); omega) (by go_simp) (by go_simp)
        have d3 : w4.cell? ⟨W.heap.size, 3, none⟩ = some (.slice ad3 m3 cap3) := cell_kx k4 (by show ¬ (W.heap.size = W.heap.size + 1); omega) (by go_simp)
        have p3 : w4.frozen? ⟨W.heap.size, 3, none⟩ = false := frozen_kx (v := .slice ad3 m3 cap3) k4 (by show ¬ (W.heap.size = W.heap.size + 1); omega) (by go_simp) (by go_simp)
        have G4 : Gr W w4 := Kx.gr k4 (by have gg := G3; have gs := gg.size; go_grown) (fun k hk => by have : k = W.heap.size + 1 := hk; omega)
        have K4 : Kx (fun k => k = W.heap.size ∨ k = W.heap.size + 1) w3 w4 := (((Kx.refl w3).setCell (p := ⟨W.heap.size, 2, none⟩) (Or.inl rfl) _).setCell (p := ⟨W.heap.size, 3, none⟩) (Or.inl rfl) _).trans (k4.mono (fun k hk => Or.inr hk))
        have P4 := Lib.hid (pts_kx HP3.out.1 K4 HP3.out.2)
        have HN4 := Lib.hid HP3.out.2
        have zz4 : W.heap.size < w4.heap.size := World.block_lt_of_cell? _ _ d0
        obtain ⟨r0, r1, r2, r3, r4⟩ := R4
        have zz5 : W.heap.size + 1 < w4.heap.size := World.block_lt_of_cell? _ _ r0
        clear k4 K4 G3 R3 HP3 y0 y1 y2 y3 x0 x1 x2 x3
        go_wp2_with fail
        go_at_call 18
        (with_reducible refine (c_Is_nil 10 _).mono ?_)
        rintro e w5 ⟨rfl, g5⟩
        have y0 : w5.cell? ⟨W.heap.size, 0, none⟩ = some (.int .i64 1) := cell_gr g5 (by go_simp)
        have x0 : w5.frozen? ⟨W.heap.size, 0, none⟩ = false := frozen_gr (v := .int .i64 1) g5 (by go_simp) (by go_simp)
        have y1 : w5.cell? ⟨W.heap.size, 1, none⟩ = some (.int .i64 id) := cell_gr g5 (by go_simp)
        have x1 : w5.frozen? ⟨W.heap.size, 1, none⟩ = false := frozen_gr (v := .int .i64 id) g5 (by go_simp) (by go_simp)
        have y2 : w5.cell? ⟨W.heap.size, 2, none⟩ = some (.int .i64 k3) := cell_gr g5 (by go_simp)
        have x2 : w5.frozen? ⟨W.heap.size, 2, none⟩ = false := frozen_gr (v := .int .i64 k3) g5 (by go_simp) (by go_simp)
        have y3 : w5.cell? ⟨W.heap.size, 3, none⟩ = some (.slice ad3 m3 cap3) := cell_gr g5 (by go_simp)
        have x3 : w5.frozen? ⟨W.heap.size, 3, none⟩ = false := frozen_gr (v := .slice ad3 m3 cap3) g5 (by go_simp) (by go_simp)
        have q1 := cell_gr g5 r1
        have P5 := Lib.hid (pts_gr P4.out g5)
        have G5 : Gr W w5 := Gr.trans G4 g5
        have zz6 : W.heap.size < w5.heap.size := World.block_lt_of_cell? _ _ y0
        have zz7 : W.heap.size + 1 < w5.heap.size := World.block_lt_of_cell? _ _ q1
        clear g5 P4 G4 r0 r1 r2 r3 r4 d0 d1 d2 d3 p0 p1 p2 p3
        go_wp2_with fail
        go_region
        all_goals
          go_wp2_with fail
          refine bodyPost_ret (v := .tuple #[.agg #[.int .i64 1, .int .i64 id, .int .i64 k3, .slice ad3 m3 cap3], .int .i64 (a2 + n3 : Nat), .nilIface]) (by simp [results, Try.results8, go_sem, *]) rfl ?_
          refine FN.out _ _ trivial (pts_kx P5.out (S := fun k => k = W.heap.size ∨ k = W.heap.size + 1) ?_ HN4.out) (by have gg := G5; have gs := gg.size; go_grown)
          exact (((((Kx.refl w5).setCell (p := ⟨W.heap.size, 0, none⟩) (Or.inl rfl) _).setCell (p := ⟨W.heap.size, 1, none⟩) (Or.inl rfl) _).setCell (p := ⟨W.heap.size, 2, none⟩) (Or.inl rfl) _).setCell (p := ⟨W.heap.size, 3, none⟩) (Or.inl rfl) _).drew
    · obtain rfl : bad = false := HX.out.1
      go_wp2_with fail
      go_at_call 18
      (with_reducible refine (c_Is_nil 10 _).mono ?_)
      rintro e w3 ⟨rfl, g3⟩
      have y0 : w3.cell? ⟨W.heap.size, 0, none⟩ = some (.int .i64 2) := cell_gr g3 (by go_simp)
      have x0 : w3.frozen? ⟨W.heap.size, 0, none⟩ = false := frozen_gr (v := .int .i64 2) g3 (by go_simp) (by go_simp)
      have y1 : w3.cell? ⟨W.heap.size, 1, none⟩ = some (.int .i64 id) := cell_gr g3 (by go_simp)
      have x1 : w3.frozen? ⟨W.heap.size, 1, none⟩ = false := frozen_gr (v := .int .i64 id) g3 (by go_simp) (by go_simp)
      have y2 : w3.cell? ⟨W.heap.size, 2, none⟩ = some (.int .i64 0) := cell_gr g3 (by go_simp)
      have x2 : w3.frozen? ⟨W.heap.size, 2, none⟩ = false := frozen_gr (v := .int .i64 0) g3 (by go_simp) (by go_simp)
      have y3 : w3.cell? ⟨W.heap.size, 3, none⟩ = some (.slice none 0 0) := cell_gr g3 (by go_simp)
      have x3 : w3.frozen? ⟨W.heap.size, 3, none⟩ = false := frozen_gr (v := .slice none 0 0) g3 (by go_simp) (by go_simp)
      have q1 : w3.cell? ⟨W.heap.size + 1, 1, none⟩ = some (.int .i64 a2) := cell_gr g3 (by go_simp)
      have G3 : Gr W w3 := Gr.trans (by have gg := G2; have gs := gg.size; go_grown) g3
      have zz : W.heap.size < w3.heap.size := World.block_lt_of_cell? _ _ y0
      have zz1 : W.heap.size + 1 < w3.heap.size := World.block_lt_of_cell? _ _ q1
      clear g3 d0 d1 d2 d3 p0 p1 p2 p3 r0 r1 r2 r3 r4 G2
      go_wp2_with fail
      go_region
      all_goals
        go_wp2_with fail
        refine bodyPost_ret (v := .tuple #[.agg #[.int .i64 2, .int .i64 id, .int .i64 0, .slice none 0 0], .int .i64 a2, .nilIface]) (by simp [results, Try.results8, go_sem, *]) rfl ?_
        obtain ⟨_, _, e1, e2, e3, _⟩ := HX.out
        have := HF.out.2 (.slice none 0 0)
        have f1 : ok = 0 := e1
        have f2 : om = 0 := e2
        have f3 : oe = a2 := e3
        rw [f1, f2, f3] at this
        exact this _ trivial ⟨none, 0, 0, 0, rfl, Nat.le_refl _, by decide, fun h => absurd h (by omega), fun k h => absurd h (by omega)⟩ (by have gg := G3; have gs := gg.size; go_grown)
  · obtain rfl : bad = true := HX.out.1
    rcases (by omega : kd = 0 ∨ kd = 1 ∨ kd = 2) with rfl | rfl | rfl
    · go_wp2_with fail
      go_at_call 12
      (with_reducible refine (c_faultNew changeS 0 10 _).mono ?_)
      rintro e wz ⟨B4, rfl, hB4, hF, g4⟩
      have y0 : wz.cell? ⟨W.heap.size, 0, none⟩ = some (.int .i64 0) := cell_gr g4 (by go_simp)
      have x0 : wz.frozen? ⟨W.heap.size, 0, none⟩ = false := frozen_gr (v := .int .i64 0) g4 (by go_simp) (by go_simp)
      have y1 : wz.cell? ⟨W.heap.size, 1, none⟩ = some (.int .i64 id) := cell_gr g4 (by go_simp)
      have x1 : wz.frozen? ⟨W.heap.size, 1, none⟩ = false := frozen_gr (v := .int .i64 id) g4 (by go_simp) (by go_simp)
      have y2 : wz.cell? ⟨W.heap.size, 2, none⟩ = some (.int .i64 0) := cell_gr g4 (by go_simp)
      have x2 : wz.frozen? ⟨W.heap.size, 2, none⟩ = false := frozen_gr (v := .int .i64 0) g4 (by go_simp) (by go_simp)
      have y3 : wz.cell? ⟨W.heap.size, 3, none⟩ = some (.slice none 0 0) := cell_gr g4 (by go_simp)
      have x3 : wz.frozen? ⟨W.heap.size, 3, none⟩ = false := frozen_gr (v := .slice none 0 0) g4 (by go_simp) (by go_simp)
      have hF4 := Lib.hid hF
      have G4 : Gr W wz := Gr.trans (by have gg := G2; have gs := gg.size; go_grown) g4
      have zz : W.heap.size < wz.heap.size := World.block_lt_of_cell? _ _ y0
      have nB : B4 ≠ W.heap.size := by (try simp at hB4); omega
      clear g4 hF d0 d1 d2 d3 p0 p1 p2 p3 r0 r1 r2 r3 r4 G2
      go_wp2_with fail
      refine bodyPost_ret (v := .tuple #[.agg #[.int .i64 0, .int .i64 0, .int .i64 0, .slice none 0 0], .int .i64 0, .iface 61 (.pointer (some ⟨B4, 0, none⟩))]) (by simp [results, Try.results8, go_sem, *]) rfl (HF.out.1 _ _ trivial (faultAt_set4 hF4.out nB) (by have gg := G4; have gs := gg.size; go_grown))
    · go_wp2_with fail
      go_at_call 12
      (with_reducible refine (c_faultNew changeS 0 10 _).mono ?_)
      rintro e wz ⟨B4, rfl, hB4, hF, g4⟩
      have y0 : wz.cell? ⟨W.heap.size, 0, none⟩ = some (.int .i64 1) := cell_gr g4 (by go_simp)
      have x0 : wz.frozen? ⟨W.heap.size, 0, none⟩ = false := frozen_gr (v := .int .i64 1) g4 (by go_simp) (by go_simp)
      have y1 : wz.cell? ⟨W.heap.size, 1, none⟩ = some (.int .i64 id) := cell_gr g4 (by go_simp)
      have x1 : wz.frozen? ⟨W.heap.size, 1, none⟩ = false := frozen_gr (v := .int .i64 id) g4 (by go_simp) (by go_simp)
      have y2 : wz.cell? ⟨W.heap.size, 2, none⟩ = some (.int .i64 0) := cell_gr g4 (by go_simp)
      have x2 : wz.frozen? ⟨W.heap.size, 2, none⟩ = false := frozen_gr (v := .int .i64 0) g4 (by go_simp) (by go_simp)
      have y3 : wz.cell? ⟨W.heap.size, 3, none⟩ = some (.slice none 0 0) := cell_gr g4 (by go_simp)
      have x3 : wz.frozen? ⟨W.heap.size, 3, none⟩ = false := frozen_gr (v := .slice none 0 0) g4 (by go_simp) (by go_simp)
      have hF4 := Lib.hid hF
      have G4 : Gr W wz := Gr.trans (by have gg := G2; have gs := gg.size; go_grown) g4
      have zz : W.heap.size < wz.heap.size := World.block_lt_of_cell? _ _ y0
      have nB : B4 ≠ W.heap.size := by (try simp at hB4); omega
      clear g4 hF d0 d1 d2 d3 p0 p1 p2 p3 r0 r1 r2 r3 r4 G2
      go_wp2_with fail
      refine bodyPost_ret (v := .tuple #[.agg #[.int .i64 0, .int .i64 0, .int .i64 0, .slice none 0 0], .int .i64 0, .iface 61 (.pointer (some ⟨B4, 0, none⟩))]) (by simp [results, Try.results8, go_sem, *]) rfl (HF.out.1 _ _ trivial (faultAt_set4 hF4.out nB) (by have gg := G4; have gs := gg.size; go_grown))
    · go_wp2_with fail
      go_at_call 12
      (with_reducible refine (c_faultNew changeS 0 10 _).mono ?_)
      rintro e wz ⟨B4, rfl, hB4, hF, g4⟩
      have y0 : wz.cell? ⟨W.heap.size, 0, none⟩ = some (.int .i64 2) := cell_gr g4 (by go_simp)
      have x0 : wz.frozen? ⟨W.heap.size, 0, none⟩ = false := frozen_gr (v := .int .i64 2) g4 (by go_simp) (by go_simp)
      have y1 : wz.cell? ⟨W.heap.size, 1, none⟩ = some (.int .i64 id) := cell_gr g4 (by go_simp)
      have x1 : wz.frozen? ⟨W.heap.size, 1, none⟩ = false := frozen_gr (v := .int .i64 id) g4 (by go_simp) (by go_simp)
      have y2 : wz.cell? ⟨W.heap.size, 2, none⟩ = some (.int .i64 0) := cell_gr g4 (by go_simp)
      have x2 : wz.frozen? ⟨W.heap.size, 2, none⟩ = false := frozen_gr (v := .int .i64 0) g4 (by go_simp) (by go_simp)
      have y3 : wz.cell? ⟨W.heap.size, 3, none⟩ = some (.slice none 0 0) := cell_gr g4 (by go_simp)
      have x3 : wz.frozen? ⟨W.heap.size, 3, none⟩ = false := frozen_gr (v := .slice none 0 0) g4 (by go_simp) (by go_simp)
      have hF4 := Lib.hid hF
      have G4 : Gr W wz := Gr.trans (by have gg := G2; have gs := gg.size; go_grown) g4
      have zz : W.heap.size < wz.heap.size := World.block_lt_of_cell? _ _ y0
      have nB : B4 ≠ W.heap.size := by (try simp at hB4); omega
      clear g4 hF d0 d1 d2 d3 p0 p1 p2 p3 r0 r1 r2 r3 r4 G2
      go_wp2_with fail
      refine bodyPost_ret (v := .tuple #[.agg #[.int .i64 0, .int .i64 0, .int .i64 0, .slice none 0 0], .int .i64 0, .iface 61 (.pointer (some ⟨B4, 0, none⟩))]) (by simp [results, Try.results8, go_sem, *]) rfl (HF.out.1 _ _ trivial (faultAt_set4 hF4.out nB) (by have gg := G4; have gs := gg.size; go_grown))
end Go.Proofs.Ytkldgfpkjaokaaa
