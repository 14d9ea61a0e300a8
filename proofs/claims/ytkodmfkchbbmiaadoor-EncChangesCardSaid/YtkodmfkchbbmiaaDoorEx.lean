/- the document's Unobject -/
import Derived.Test.YtkodmfkchbbmiaaDoorEw
import Derived.WalkSmall
namespace Go.Proofs.YtkodmfkchbbmiaaDoor
set_option linter.unusedVariables false
set_option linter.unusedSimpArgs false
open Go.ChangeShapes Go.WideShapes Go.ChangeAt Go.RowKit

def RUoTo (W : World) (L : List UInt8) (e : Ending) (w' : World) : Prop :=
  (uoBad L = true ∧ e = .returned (.tuple #[.agg #[.int .i64 0, .slice none 0 0], .int .i64 0, .int .i64 10]) ∧ Gr W w') ∨
  (uoBad L = false ∧ ∃ v, e = .returned (.tuple #[.agg #[.int .i64 (uoK L : Nat), v], .int .i64 (uoE L : Nat), .int .i64 0]) ∧ Pts w' v (uoM L) (uoX L) (uoY L) ∧ New W v ∧ Gr W w')
theorem bad_of_s {L : List UInt8} {i : Nat} (h : upS L (uoA L) (uoS2 L) i = true) (hi : i ≤ uoM L) : uoBad L = true := by
  unfold uoBad
  rw [upS_mono h hi, Bool.true_or]
theorem bad_1 {L : List UInt8} (h : uoS1 L = true) : uoBad L = true := bad_of_s (i := 0) (by show nmS L (uoB L) (uoS1 L) 64 = true; unfold nmS; rw [h]; rfl) (Nat.zero_le _)
theorem bad_2 {L : List UInt8} (h : uoS2 L = true) : uoBad L = true := bad_of_s (i := 0) h (Nat.zero_le _)
theorem s1_iff {L : List UInt8} : uoS1 L = true ↔ (uL L).2 = 0 ∨ 4 < (uL L).1 := by
  show (false || decide ((uL L).2 = 0) || decide (4 < (uL L).1)) = true ↔ _
  simp
theorem s2_iff {L : List UInt8} (h : uoS1 L = false) : uoS2 L = true ↔ (rd L (uoB L)).2 = 0 ∨ 64 < (rd L (uoB L)).1 := by
  unfold uoS2 nmS
  rw [h]
  simp
set_option maxHeartbeats 1000000 in
set_option maxRecDepth 100000 in
theorem ruo_1 {L : List UInt8} {v : Value} (W : World) (h : Row W v L) (hl : L.length ≤ 100000) (hs : uoS1 L = true) :
    Calls Tryd.prog 51 #[v] W (RUoTo W L) := by
  have fin : ∀ w', Gr W w' → RUoTo W L (.returned (.tuple #[.agg #[.int .i64 0, .slice none 0 0], .int .i64 0, .int .i64 10])) w' := fun w' g => Or.inl ⟨bad_1 hs, rfl, g⟩
  have A1 := fun w (g : Gr W w) => c_UnvarintR w (row_gr h g) hl
  have hw := (uL_wd L).1
  rw [s1_iff] at hs
  generalize RUoTo W L = Post at fin ⊢
  have HF := Lib.hid fin
  generalize (uL L).1 = x at A1 hs hw
  generalize (uL L).2 = n at A1 hs
  unfold Wd at hw
  obtain ⟨ad, cap, B, off, rfl, _⟩ := h
  have H1 := Lib.hid A1
  clear A1
  clear fin
  by_cases c : n = 0
  · subst c
    clear hs
    go_enter Tryd.func51, Tryd.ntmps51
    go_wp2_with fail
    go_at_call 96
    refine ((H1.out _ (by go_grown))).mono ?_
    rintro e w1 ⟨rfl, hw1⟩
    have cw1_0_0 : w1.cell? ⟨W.heap.size, 0, none⟩ = some (.int .i64 0) := cell_gr hw1 (by go_simp)
    have fw1_0_0 : w1.frozen? ⟨W.heap.size, 0, none⟩ = false := frozen_gr (v := .int .i64 0) hw1 (by go_simp) (by go_simp)
    have cw1_0_1 : w1.cell? ⟨W.heap.size, 1, none⟩ = some (.slice none 0 0) := cell_gr hw1 (by go_simp)
    have fw1_0_1 : w1.frozen? ⟨W.heap.size, 1, none⟩ = false := frozen_gr (v := .slice none 0 0) hw1 (by go_simp) (by go_simp)
    have zw1_0 : W.heap.size < w1.heap.size := World.block_lt_of_cell? _ _ cw1_0_0
    have gw1 : Gr W w1 := Gr.trans (by go_grown) hw1
    clear hw1
    go_wp2_with fail
    refine bodyPost_ret (v := .tuple #[.agg #[.int .i64 0, .slice none 0 0], .int .i64 0, .int .i64 10]) (by simp [results, Tryd.results51, go_sem, *]) rfl (HF.out _ (by have gg := gw1; have gs := gg.size; go_grown))
  · have t0 : ((n : Int) == 0) = false := by simp; omega
    have t0b : (n == 0) = false := by simp; omega
    have hx : 4 < x := by omega
    have t1 : decide ((4 : Int) < (x : Int)) = true := decide_eq_true (by omega)
    have t2 : (4 : Int) < (x : Int) := by omega
    clear hs c
    go_enter Tryd.func51, Tryd.ntmps51
    go_wp2_with fail
    go_at_call 96
    refine ((H1.out _ (by go_grown))).mono ?_
    rintro e w1 ⟨rfl, hw1⟩
    have cw1_0_0 : w1.cell? ⟨W.heap.size, 0, none⟩ = some (.int .i64 0) := cell_gr hw1 (by go_simp)
    have fw1_0_0 : w1.frozen? ⟨W.heap.size, 0, none⟩ = false := frozen_gr (v := .int .i64 0) hw1 (by go_simp) (by go_simp)
    have cw1_0_1 : w1.cell? ⟨W.heap.size, 1, none⟩ = some (.slice none 0 0) := cell_gr hw1 (by go_simp)
    have fw1_0_1 : w1.frozen? ⟨W.heap.size, 1, none⟩ = false := frozen_gr (v := .slice none 0 0) hw1 (by go_simp) (by go_simp)
    have zw1_0 : W.heap.size < w1.heap.size := World.block_lt_of_cell? _ _ cw1_0_0
    have gw1 : Gr W w1 := Gr.trans (by go_grown) hw1
    clear hw1
    go_wp2_with fail
    refine bodyPost_ret (v := .tuple #[.agg #[.int .i64 0, .slice none 0 0], .int .i64 0, .int .i64 10]) (by simp [results, Tryd.results51, go_sem, *]) rfl (HF.out _ (by have gg := gw1; have gs := gg.size; go_grown))
set_option maxHeartbeats 1000000 in
set_option maxRecDepth 100000 in
theorem ruo_2 {L : List UInt8} {v : Value} (W : World) (h : Row W v L) (hl : L.length ≤ 100000) (hs1 : uoS1 L = false) (hs : uoS2 L = true) :
    Calls Tryd.prog 51 #[v] W (RUoTo W L) := by
  have fin : ∀ w', Gr W w' → RUoTo W L (.returned (.tuple #[.agg #[.int .i64 0, .slice none 0 0], .int .i64 0, .int .i64 10])) w' := fun w' g => Or.inl ⟨bad_2 hs, rfl, g⟩
  have A1 := fun w (g : Gr W w) => c_UnvarintR w (row_gr h g) hl
  obtain ⟨v1, ks, R1⟩ := row_from (uoB L) (uoB_le L) h
  have A2 : ∀ w, Gr W w → Calls Tryd.prog 96 #[v1] w fun e w' => e = .returned (.tuple #[.int .u64 (rd L (uoB L)).1, .int .i64 (rd L (uoB L)).2]) ∧ Gr w w' := fun w (g : Gr W w) => c_UnvarintR w (row_gr R1 g) (by simp; omega)
  have hw := (uL_wd L).1
  have hw2 := (rd_wd L (uoB L)).1
  have eB : uoB L = (uL L).2 := Nat.zero_add _
  have hn : (uL L).2 ≤ 10 := (uL_wd L).2.1
  rw [s2_iff hs1] at hs
  have hs1' : ¬ ((uL L).2 = 0 ∨ 4 < (uL L).1) := fun hh => by rw [s1_iff.2 hh] at hs1; cases hs1
  generalize RUoTo W L = Post at fin ⊢
  have HF := Lib.hid fin
  rw [eB] at ks hs A2 hw2 R1
  generalize (rd L (uL L).2).1 = y at A2 hs hw2
  generalize (rd L (uL L).2).2 = q at A2 hs
  generalize (uL L).1 = x at A1 hs1' hw
  generalize (uL L).2 = n at A1 hs1' ks hn R1
  unfold Wd at hw hw2
  obtain ⟨ad, cap, B, off, rfl, _⟩ := h
  obtain ⟨ad1, cap1, _, _, rfl, _⟩ := R1
  generalize (L.drop n).length = ln at ks A2
  have H1 := Lib.hid A1
  have H2 := Lib.hid A2
  clear A1 A2
  have t0 : ((n : Int) == 0) = false := by simp; omega
  have t0b : (n == 0) = false := by simp; omega
  have t1 : decide ((4 : Int) < (x : Int)) = false := decide_eq_false (by omega)
  have t2 : ¬ (4 : Int) < (x : Int) := by omega
  clear fin hs1 eB hs1'
  by_cases c : q = 0
  · subst c
    clear hs
    go_enter Tryd.func51, Tryd.ntmps51
    go_wp2_with fail
    go_at_call 96
    refine ((H1.out _ (by go_grown))).mono ?_
    rintro e w1 ⟨rfl, hw1⟩
    have cw1_0_0 : w1.cell? ⟨W.heap.size, 0, none⟩ = some (.int .i64 0) := cell_gr hw1 (by go_simp)
    have fw1_0_0 : w1.frozen? ⟨W.heap.size, 0, none⟩ = false := frozen_gr (v := .int .i64 0) hw1 (by go_simp) (by go_simp)
    have cw1_0_1 : w1.cell? ⟨W.heap.size, 1, none⟩ = some (.slice none 0 0) := cell_gr hw1 (by go_simp)
    have fw1_0_1 : w1.frozen? ⟨W.heap.size, 1, none⟩ = false := frozen_gr (v := .slice none 0 0) hw1 (by go_simp) (by go_simp)
    have zw1_0 : W.heap.size < w1.heap.size := World.block_lt_of_cell? _ _ cw1_0_0
    have gw1 : Gr W w1 := Gr.trans (by go_grown) hw1
    clear hw1
    go_wp2_with fail
    go_at_call 96
    refine ((H2.out _ gw1)).mono ?_
    rintro e w2 ⟨rfl, hw2⟩
    have cw2_0_0 : w2.cell? ⟨W.heap.size, 0, none⟩ = some (.int .i64 0) := cell_gr hw2 (by go_simp)
    have fw2_0_0 : w2.frozen? ⟨W.heap.size, 0, none⟩ = false := frozen_gr (v := .int .i64 0) hw2 (by go_simp) (by go_simp)
    have cw2_0_1 : w2.cell? ⟨W.heap.size, 1, none⟩ = some (.slice none 0 0) := cell_gr hw2 (by go_simp)
    have fw2_0_1 : w2.frozen? ⟨W.heap.size, 1, none⟩ = false := frozen_gr (v := .slice none 0 0) hw2 (by go_simp) (by go_simp)
    have zw2_0 : W.heap.size < w2.heap.size := World.block_lt_of_cell? _ _ cw2_0_0
    have gw2 : Gr W w2 := Gr.trans (by have gg := gw1; have gs := gg.size; go_grown) hw2
    clear hw2 gw1 zw1_0 cw1_0_0 fw1_0_0 cw1_0_1 fw1_0_1
    go_wp2_with fail
    refine bodyPost_ret (v := .tuple #[.agg #[.int .i64 0, .slice none 0 0], .int .i64 0, .int .i64 10]) (by simp [results, Tryd.results51, go_sem, *]) rfl (HF.out _ (by have gg := gw2; have gs := gg.size; go_grown))
  · have t3 : ((q : Int) == 0) = false := by simp; omega
    have t3b : (q == 0) = false := by simp; omega
    have hx : 64 < y := by omega
    have t4 : decide ((64 : Int) < (y : Int)) = true := decide_eq_true (by omega)
    have t5 : (64 : Int) < (y : Int) := by omega
    clear hs c
    go_enter Tryd.func51, Tryd.ntmps51
    go_wp2_with fail
    go_at_call 96
    refine ((H1.out _ (by go_grown))).mono ?_
    rintro e w1 ⟨rfl, hw1⟩
    have cw1_0_0 : w1.cell? ⟨W.heap.size, 0, none⟩ = some (.int .i64 0) := cell_gr hw1 (by go_simp)
    have fw1_0_0 : w1.frozen? ⟨W.heap.size, 0, none⟩ = false := frozen_gr (v := .int .i64 0) hw1 (by go_simp) (by go_simp)
    have cw1_0_1 : w1.cell? ⟨W.heap.size, 1, none⟩ = some (.slice none 0 0) := cell_gr hw1 (by go_simp)
    have fw1_0_1 : w1.frozen? ⟨W.heap.size, 1, none⟩ = false := frozen_gr (v := .slice none 0 0) hw1 (by go_simp) (by go_simp)
    have zw1_0 : W.heap.size < w1.heap.size := World.block_lt_of_cell? _ _ cw1_0_0
    have gw1 : Gr W w1 := Gr.trans (by go_grown) hw1
    clear hw1
    go_wp2_with fail
    go_at_call 96
    refine ((H2.out _ gw1)).mono ?_
    rintro e w2 ⟨rfl, hw2⟩
    have cw2_0_0 : w2.cell? ⟨W.heap.size, 0, none⟩ = some (.int .i64 0) := cell_gr hw2 (by go_simp)
    have fw2_0_0 : w2.frozen? ⟨W.heap.size, 0, none⟩ = false := frozen_gr (v := .int .i64 0) hw2 (by go_simp) (by go_simp)
    have cw2_0_1 : w2.cell? ⟨W.heap.size, 1, none⟩ = some (.slice none 0 0) := cell_gr hw2 (by go_simp)
    have fw2_0_1 : w2.frozen? ⟨W.heap.size, 1, none⟩ = false := frozen_gr (v := .slice none 0 0) hw2 (by go_simp) (by go_simp)
    have zw2_0 : W.heap.size < w2.heap.size := World.block_lt_of_cell? _ _ cw2_0_0
    have gw2 : Gr W w2 := Gr.trans (by have gg := gw1; have gs := gg.size; go_grown) hw2
    clear hw2 gw1 zw1_0 cw1_0_0 fw1_0_0 cw1_0_1 fw1_0_1
    go_wp2_with fail
    refine bodyPost_ret (v := .tuple #[.agg #[.int .i64 0, .slice none 0 0], .int .i64 0, .int .i64 10]) (by simp [results, Tryd.results51, go_sem, *]) rfl (HF.out _ (by have gg := gw2; have gs := gg.size; go_grown))
theorem after_grown {a b : World} {u x : Value} (g : Grown a b u x) {C j : Nat} {v : Value} (hc : a.cell? ⟨C, j, none⟩ = some v) (hf : a.frozen? ⟨C, j, none⟩ = false) (hn : ∀ k, u.ownBlock = some k → k ≠ C) : b.cell? ⟨C, j, none⟩ = some v ∧ b.frozen? ⟨C, j, none⟩ = false :=
  ⟨g.cell hc hn, (grown_frozen (p := ⟨C, j, none⟩) g (World.block_lt_of_cell? _ _ hc) hn).trans hf⟩
theorem upS_false {L : List UInt8} {a i : Nat} {s : Bool} : upS L a s (i + 1) = false ↔ upS L a s i = false ∧ (rd L (upA L a i)).2 ≠ 0 ∧ (rd L (upA L a i + (rd L (upA L a i)).2)).2 ≠ 0 := by
  simp only [upS, Bool.or_eq_false_iff, decide_eq_false_iff_not, and_assoc]
set_option maxHeartbeats 8000000 in
set_option maxRecDepth 100000 in
theorem ruo_3 {L : List UInt8} {v : Value} (W : World) (h : Row W v L) (hl : L.length ≤ 100000) (hs1 : uoS1 L = false) (hs : uoS2 L = false) :
    Calls Tryd.prog 51 #[v] W (RUoTo W L) := by
  obtain ⟨i0, hi0, hz0, hz1, hz2⟩ := info_parts (P := Tryd.prog) (e := 24) (z := .agg #[.int .i64 0, .int .i64 0]) (size := 2) (bytes := 16) (by kernel_rfl)
  have HI := Lib.hid (And.intro hi0 (And.intro hz0 (And.intro hz1 hz2)))
  have fin1 : ∀ w', uoBad L = true → Gr W w' → RUoTo W L (.returned (.tuple #[.agg #[.int .i64 0, .slice none 0 0], .int .i64 0, .int .i64 10])) w' := fun w' hb g => Or.inl ⟨hb, rfl, g⟩
  have fin2 : ∀ x w', uoBad L = false → Pts w' x (uoM L) (uoX L) (uoY L) → New W x → Gr W w' → RUoTo W L (.returned (.tuple #[.agg #[.int .i64 (uoK L : Nat), x], .int .i64 (uoE L : Nat), .int .i64 0])) w' := fun x w' hb hP hN g => Or.inr ⟨hb, x, rfl, hP, hN, g⟩
  have HF := Lib.hid (And.intro fin1 fin2)
  have hbad : uoBad L = (upS L (uoA L) (uoS2 L) (uoM L) || decide (objC (uoK L) (uoM L) (uoX L) (uoY L) ≠ 0)) := rfl
  have A1 := fun w (g : Gr W w) => c_UnvarintR w (row_gr h g) hl
  obtain ⟨v1, ks, R1⟩ := row_from (uoB L) (uoB_le L) h
  have A2 : ∀ w, Gr W w → Calls Tryd.prog 96 #[v1] w fun e w' => e = .returned (.tuple #[.int .u64 (rd L (uoB L)).1, .int .i64 (rd L (uoB L)).2]) ∧ Gr w w' := fun w (g : Gr W w) => c_UnvarintR w (row_gr R1 g) (by simp; omega)
  have bA := uoA_le L
  have hL9 : (L.length : Int) ≤ 100000 := by omega
  have eA : uoA L = uoB L + (rd L (uoB L)).2 := rfl
  have eB : uoB L = (uL L).2 := Nat.zero_add _
  have hn : (uL L).2 ≤ 10 := (uL_wd L).2.1
  have hn2 : (rd L (uoB L)).2 ≤ 10 := (rd_wd L (uoB L)).2.1
  have q1 : (uL L).2 ≠ 0 ∧ (uL L).1 ≤ 4 := by
    have : ¬ ((uL L).2 = 0 ∨ 4 < (uL L).1) := fun hh => by rw [s1_iff.2 hh] at hs1; cases hs1
    omega
  have q2 : (rd L (uoB L)).2 ≠ 0 ∧ (rd L (uoB L)).1 ≤ 64 := by
    have : ¬ ((rd L (uoB L)).2 = 0 ∨ 64 < (rd L (uoB L)).1) := fun hh => by rw [(s2_iff hs1).2 hh] at hs; cases hs
    omega
  have eK : uoK L = (uL L).1 := by
    have : uoK L = if uoS1 L then 0 else (rd L 0).1 := rfl
    rw [this, hs1]; rfl
  have eM : uoM L = (rd L (uoB L)).1 := by
    have : uoM L = if uoS2 L then 0 else (rd L (uoB L)).1 := rfl
    rw [this, hs]; rfl
  rw [← eK] at A1 q1
  rw [← eM] at A2 q2
  rw [hs] at hbad
  rw [eB] at ks R1 A2 q2 eA hn2
  have HX := Lib.hid (And.intro (show uoX L = upX L (uoA L) from rfl) (And.intro (show uoY L = upY L (uoA L) from rfl) (show uoE L = upA L (uoA L) (uoM L) from rfl)))
  have HRow := Lib.hid h
  generalize RUoTo W L = Post at HF ⊢
  generalize uoBad L = bad at HF hbad
  generalize uoX L = X at HF hbad HX
  generalize uoY L = Y at HF hbad HX
  generalize uoE L = E at HF HX
  generalize uoK L = kd at A1 HF hbad q1
  generalize uoM L = m at A2 HF hbad HX q2
  generalize (rd L (uL L).2).2 = p2 at A2 eA q2 hn2
  generalize (uL L).2 = p1 at A1 A2 eA q1 ks R1 hn
  generalize uoA L = a2 at bA hbad HX eA
  obtain ⟨ad, cap, B, off, rfl, _⟩ := h
  obtain ⟨ad1, cap1, _, _, rfl, _⟩ := R1
  generalize (L.drop p1).length = ln at ks A2
  have HBAD := Lib.hid hbad
  have EA : (p1 : Int) + (p2 : Int) = (a2 : Int) := by omega
  have HEA := Lib.hid EA
  have ck : IntKind.i64.wrap (kd : Int) = kd := by rw [IntKind.wrap_i64]; omega
  have cm : IntKind.i64.wrap (m : Int) = m := by rw [IntKind.wrap_i64]; omega
  have hk4 : (kd : Int) ≤ 4 := by omega
  have hm64 : (m : Int) ≤ 64 := by omega
  have t0 : ((p1 : Int) == 0) = false := by simp; omega
  have t0b : (p1 == 0) = false := by simp; omega
  have t1 : decide ((4 : Int) < (kd : Int)) = false := decide_eq_false (by omega)
  have t2 : ¬ (4 : Int) < (kd : Int) := by omega
  have t3 : ((p2 : Int) == 0) = false := by simp; omega
  have t3b : (p2 == 0) = false := by simp; omega
  have t4 : decide ((64 : Int) < (m : Int)) = false := decide_eq_false (by omega)
  have t5 : ¬ (64 : Int) < (m : Int) := by omega
  have H1 := Lib.hid A1
  have H2 := Lib.hid A2
  clear A1 A2
  clear fin1 fin2 hbad hi0 hz0 hz1 hz2 q1 q2 hs1 hs EA eA eB eK eM
  go_enter Tryd.func51, Tryd.ntmps51
  go_wp2_with fail
  go_at_call 96
  refine ((H1.out _ (by go_grown))).mono ?_
  rintro e w1 ⟨rfl, hw1⟩
  have cw1_0_0 : w1.cell? ⟨W.heap.size, 0, none⟩ = some (.int .i64 0) := cell_gr hw1 (by go_simp)
  have fw1_0_0 : w1.frozen? ⟨W.heap.size, 0, none⟩ = false := frozen_gr (v := .int .i64 0) hw1 (by go_simp) (by go_simp)
  have cw1_0_1 : w1.cell? ⟨W.heap.size, 1, none⟩ = some (.slice none 0 0) := cell_gr hw1 (by go_simp)
  have fw1_0_1 : w1.frozen? ⟨W.heap.size, 1, none⟩ = false := frozen_gr (v := .slice none 0 0) hw1 (by go_simp) (by go_simp)
  have zw1_0 : W.heap.size < w1.heap.size := World.block_lt_of_cell? _ _ cw1_0_0
  have gw1 : Gr W w1 := Gr.trans (by go_grown) hw1
  clear hw1
  go_wp2_with fail
  go_at_call 96
  refine ((H2.out _ gw1)).mono ?_
  rintro e w2 ⟨rfl, hw2⟩
  have cw2_0_0 : w2.cell? ⟨W.heap.size, 0, none⟩ = some (.int .i64 0) := cell_gr hw2 (by go_simp)
  have fw2_0_0 : w2.frozen? ⟨W.heap.size, 0, none⟩ = false := frozen_gr (v := .int .i64 0) hw2 (by go_simp) (by go_simp)
  have cw2_0_1 : w2.cell? ⟨W.heap.size, 1, none⟩ = some (.slice none 0 0) := cell_gr hw2 (by go_simp)
  have fw2_0_1 : w2.frozen? ⟨W.heap.size, 1, none⟩ = false := frozen_gr (v := .slice none 0 0) hw2 (by go_simp) (by go_simp)
  have zw2_0 : W.heap.size < w2.heap.size := World.block_lt_of_cell? _ _ cw2_0_0
  have gw2 : Gr W w2 := Gr.trans (by have gg := gw1; have gs := gg.size; go_grown) hw2
  clear hw2 gw1 zw1_0 cw1_0_0 fw1_0_0 cw1_0_1 fw1_0_1
  go_wp2_with fail
  rw [HEA.out]
  have z2 := zw2_0
  go_loopg [10, 11] m (fun j y x wr => ∃ i : Nat, x = .int .i64 i ∧ i ≤ m ∧ j = m - i ∧ y = .int .i64 (upA L a2 i : Nat) ∧ upS L a2 false i = false ∧ wr.cell? ⟨W.heap.size, 0, none⟩ = some (.int .i64 0) ∧ wr.cell? ⟨W.heap.size, 1, none⟩ = some (.slice none 0 0) ∧ wr.frozen? ⟨W.heap.size, 0, none⟩ = false ∧ wr.frozen? ⟨W.heap.size, 1, none⟩ = false ∧
    wr.cell? ⟨w2.heap.size, 0, none⟩ = some (.int .i64 kd) ∧ (∃ bb, wr.cell? ⟨w2.heap.size, 1, none⟩ = some bb ∧ wr.ownsRow (w2.heap.size + 1) 24 2 bb i (rowP (upX L a2) (upY L a2) i)) ∧ wr.frozen? ⟨w2.heap.size, 0, none⟩ = false ∧ wr.frozen? ⟨w2.heap.size, 1, none⟩ = false ∧ Gr W wr)
  case atStart => exact ⟨0, rfl, Nat.zero_le _, by omega, rfl, rfl, by go_simp, by go_simp, by go_simp, by go_simp, by go_simp, ⟨_, by go_simp, World.ownsRow_nil _ _ _ _⟩, by go_simp, by go_simp, by have gg := gw2; have gs := gg.size; go_grown⟩
  case round =>
    obtain ⟨i, rfl, hi, hm, rfl, hS, r0, r1, f0, f1, c0, ⟨bb, c1, hO⟩, g0, g1, gwr⟩ := hrel
    have HO := Lib.hid hO
    have HS := Lib.hid hS
    have zW : W.heap.size < wr.heap.size := World.block_lt_of_cell? _ _ r0
    have zwr : w2.heap.size < wr.heap.size := World.block_lt_of_cell? _ _ c0
    clear hO hS gw2 cw2_0_0 cw2_0_1 fw2_0_0 fw2_0_1 zw2_0
    by_cases hlt : i < m
    · have ti : decide ((i : Int) < (m : Int)) = true := decide_eq_true (by omega)
      have ti2 : decide (i < m) = true := decide_eq_true hlt
      have ti3 : (i : Int) < (m : Int) := by omega
      have hii : (i : Int) ≤ 64 := by omega
      have hmm : m - (i + 1) < gk := by omega
      have ha := upA_len (L := L) bA i
      obtain ⟨va, ka, Ra⟩ := row_from (upA L a2 i) ha HRow.out
      have ha2 := rd_len ha
      obtain ⟨vb, kb, Rb⟩ := row_from (upA L a2 i + (rd L (upA L a2 i)).2) ha2 HRow.out
      have B1 : ∀ w, Gr W w → Calls Tryd.prog 97 #[va] w fun e w' => e = .returned (.tuple #[.int .i64 (upX L a2 i), .int .i64 (rd L (upA L a2 i)).2, .bool (decide (0 < (rd L (upA L a2 i)).2))]) ∧ Gr w w' := fun w g => c_rUnsigned w (row_gr Ra g) (by simp; omega)
      have B2 : ∀ w, Gr W w → Calls Tryd.prog 97 #[vb] w fun e w' => e = .returned (.tuple #[.int .i64 (upY L a2 i), .int .i64 (rd L (upA L a2 i + (rd L (upA L a2 i)).2)).2, .bool (decide (0 < (rd L (upA L a2 i + (rd L (upA L a2 i)).2)).2))]) ∧ Gr w w' := fun w g => c_rUnsigned w (row_gr Rb g) (by simp; omega)
      have eS := upS_false (L := L) (a := a2) (i := i) (s := false)
      have eA : upA L a2 (i + 1) = upA L a2 i + (rd L (upA L a2 i)).2 + (rd L (upA L a2 i + (rd L (upA L a2 i)).2)).2 := rfl
      have eR : rowP (upX L a2) (upY L a2) (i + 1) = rowP (upX L a2) (upY L a2) i ++ [.int .i64 (upX L a2 i), .int .i64 (upY L a2 i)] := rfl
      have hBd : upS L a2 false (i + 1) = true → bad = true := fun hh => by rw [HBAD.out, upS_mono hh hlt, Bool.true_or]
      have p9 : (rd L (upA L a2 i)).2 ≤ 10 := (rd_wd L _).2.1
      have q9 : (rd L (upA L a2 i + (rd L (upA L a2 i)).2)).2 ≤ 10 := (rd_wd L _).2.1
      rw [HS.out] at eS
      simp only [Int.natCast_add] at kb
      generalize upX L a2 i = xi at B1 eR
      generalize upY L a2 i = yi at B2 eR
      generalize (rd L (upA L a2 i + (rd L (upA L a2 i)).2)).2 = q at B2 eS eA q9
      generalize (rd L (upA L a2 i)).2 = p at B1 B2 eS eA kb Rb p9 ha2
      have hnb : ∀ k, bb.ownBlock = some k → w2.heap.size + 1 ≤ k := fun k hk => (World.ownsRow.lt HO.out k hk).1
      have HNB := Lib.hid hnb
      generalize upA L a2 i = a9 at *
      obtain ⟨ada, capa, _, _, rfl, _⟩ := Ra
      obtain ⟨adb, capb, _, _, rfl, _⟩ := Rb
      generalize (L.drop a9).length = la at ka B1
      generalize (L.drop (a9 + p)).length = lb at kb B2
      have ha9 : (a9 : Int) ≤ 100000 := by omega
      have hp9 : (p : Int) ≤ 10 := by omega
      have hq9 : (q : Int) ≤ 10 := by omega
      have HE := Lib.hid eR
      have HA9 := Lib.hid eA
      by_cases hp : p = 0
      · have hs' : upS L a2 false (i + 1) = true := by
          cases hh : upS L a2 false (i + 1)
          · exact absurd hp (eS.1 hh).2.1
          · rfl
        have hb := hBd hs'
        have HB := Lib.hid hb
        rw [decide_eq_false (by omega : ¬ 0 < p)] at B1
        generalize decide (0 < q) = qb at B2
        have HB1 := Lib.hid B1
        have HB2 := Lib.hid B2
        clear eR eA eS hBd B1 B2 hnb hb hs' hp ha ha2 hm
        go_wp2_with fail
        go_at_call 97
        refine ((HB1.out _ gwr)).mono ?_
        rintro e w3 ⟨rfl, hw3⟩
        have cw3_0_0 : w3.cell? ⟨W.heap.size, 0, none⟩ = some (.int .i64 0) := cell_gr hw3 (by go_simp)
        have fw3_0_0 : w3.frozen? ⟨W.heap.size, 0, none⟩ = false := frozen_gr (v := .int .i64 0) hw3 (by go_simp) (by go_simp)
        have cw3_0_1 : w3.cell? ⟨W.heap.size, 1, none⟩ = some (.slice none 0 0) := cell_gr hw3 (by go_simp)
        have fw3_0_1 : w3.frozen? ⟨W.heap.size, 1, none⟩ = false := frozen_gr (v := .slice none 0 0) hw3 (by go_simp) (by go_simp)
        have zw3_0 : W.heap.size < w3.heap.size := World.block_lt_of_cell? _ _ cw3_0_0
        have cw3_1_0 : w3.cell? ⟨w2.heap.size, 0, none⟩ = some (.int .i64 kd) := cell_gr hw3 (by go_simp)
        have fw3_1_0 : w3.frozen? ⟨w2.heap.size, 0, none⟩ = false := frozen_gr (v := .int .i64 kd) hw3 (by go_simp) (by go_simp)
        have cw3_1_1 : w3.cell? ⟨w2.heap.size, 1, none⟩ = some (bb) := cell_gr hw3 (by go_simp)
        have fw3_1_1 : w3.frozen? ⟨w2.heap.size, 1, none⟩ = false := frozen_gr (v := bb) hw3 (by go_simp) (by go_simp)
        have zw3_1 : w2.heap.size < w3.heap.size := World.block_lt_of_cell? _ _ cw3_1_0
        have gw3 : Gr wr w3 := Gr.trans (by go_grown) hw3
        clear hw3
        go_wp2_with fail
        go_at_call 97
        refine ((HB2.out _ (Gr.trans gwr gw3))).mono ?_
        rintro e w4 ⟨rfl, hw4⟩
        have cw4_0_0 : w4.cell? ⟨W.heap.size, 0, none⟩ = some (.int .i64 0) := cell_gr hw4 (by go_simp)
        have fw4_0_0 : w4.frozen? ⟨W.heap.size, 0, none⟩ = false := frozen_gr (v := .int .i64 0) hw4 (by go_simp) (by go_simp)
        have cw4_0_1 : w4.cell? ⟨W.heap.size, 1, none⟩ = some (.slice none 0 0) := cell_gr hw4 (by go_simp)
        have fw4_0_1 : w4.frozen? ⟨W.heap.size, 1, none⟩ = false := frozen_gr (v := .slice none 0 0) hw4 (by go_simp) (by go_simp)
        have zw4_0 : W.heap.size < w4.heap.size := World.block_lt_of_cell? _ _ cw4_0_0
        have cw4_1_0 : w4.cell? ⟨w2.heap.size, 0, none⟩ = some (.int .i64 kd) := cell_gr hw4 (by go_simp)
        have fw4_1_0 : w4.frozen? ⟨w2.heap.size, 0, none⟩ = false := frozen_gr (v := .int .i64 kd) hw4 (by go_simp) (by go_simp)
        have cw4_1_1 : w4.cell? ⟨w2.heap.size, 1, none⟩ = some (bb) := cell_gr hw4 (by go_simp)
        have fw4_1_1 : w4.frozen? ⟨w2.heap.size, 1, none⟩ = false := frozen_gr (v := bb) hw4 (by go_simp) (by go_simp)
        have zw4_1 : w2.heap.size < w4.heap.size := World.block_lt_of_cell? _ _ cw4_1_0
        have gw4 : Gr wr w4 := Gr.trans (by have gg := gw3; have gs := gg.size; go_grown) hw4
        clear hw4 gw3 zw3_0 cw3_0_0 fw3_0_0 cw3_0_1 fw3_0_1 zw3_1 cw3_1_0 fw3_1_0 cw3_1_1 fw3_1_1
        go_wp2_with fail
        refine bodyPost_ret (v := .tuple #[.agg #[.int .i64 0, .slice none 0 0], .int .i64 0, .int .i64 10]) (by simp [results, Tryd.results51, go_sem, *]) rfl (HF.out.1 _ HB.out (by have gg := Gr.trans gwr gw4; have gs := gg.size; go_grown))
      · rw [decide_eq_true (by omega : 0 < p)] at B1
        by_cases hq : q = 0
        · have hs' : upS L a2 false (i + 1) = true := by
            cases hh : upS L a2 false (i + 1)
            · exact absurd hq (eS.1 hh).2.2
            · rfl
          have hb := hBd hs'
          have HB := Lib.hid hb
          rw [decide_eq_false (by omega : ¬ 0 < q)] at B2
          have HB1 := Lib.hid B1
          have HB2 := Lib.hid B2
          clear eR eA eS hBd B1 B2 hnb hb hs' hp hq ha ha2 hm
          go_wp2_with fail
          go_at_call 97
          refine ((HB1.out _ gwr)).mono ?_
          rintro e w3 ⟨rfl, hw3⟩
          have cw3_0_0 : w3.cell? ⟨W.heap.size, 0, none⟩ = some (.int .i64 0) := cell_gr hw3 (by go_simp)
          have fw3_0_0 : w3.frozen? ⟨W.heap.size, 0, none⟩ = false := frozen_gr (v := .int .i64 0) hw3 (by go_simp) (by go_simp)
          have cw3_0_1 : w3.cell? ⟨W.heap.size, 1, none⟩ = some (.slice none 0 0) := cell_gr hw3 (by go_simp)
          have fw3_0_1 : w3.frozen? ⟨W.heap.size, 1, none⟩ = false := frozen_gr (v := .slice none 0 0) hw3 (by go_simp) (by go_simp)
          have zw3_0 : W.heap.size < w3.heap.size := World.block_lt_of_cell? _ _ cw3_0_0
          have cw3_1_0 : w3.cell? ⟨w2.heap.size, 0, none⟩ = some (.int .i64 kd) := cell_gr hw3 (by go_simp)
          have fw3_1_0 : w3.frozen? ⟨w2.heap.size, 0, none⟩ = false := frozen_gr (v := .int .i64 kd) hw3 (by go_simp) (by go_simp)
          have cw3_1_1 : w3.cell? ⟨w2.heap.size, 1, none⟩ = some (bb) := cell_gr hw3 (by go_simp)
          have fw3_1_1 : w3.frozen? ⟨w2.heap.size, 1, none⟩ = false := frozen_gr (v := bb) hw3 (by go_simp) (by go_simp)
          have zw3_1 : w2.heap.size < w3.heap.size := World.block_lt_of_cell? _ _ cw3_1_0
          have gw3 : Gr wr w3 := Gr.trans (by go_grown) hw3
          clear hw3
          go_wp2_with fail
          go_at_call 97
          refine ((HB2.out _ (Gr.trans gwr gw3))).mono ?_
          rintro e w4 ⟨rfl, hw4⟩
          have cw4_0_0 : w4.cell? ⟨W.heap.size, 0, none⟩ = some (.int .i64 0) := cell_gr hw4 (by go_simp)
          have fw4_0_0 : w4.frozen? ⟨W.heap.size, 0, none⟩ = false := frozen_gr (v := .int .i64 0) hw4 (by go_simp) (by go_simp)
          have cw4_0_1 : w4.cell? ⟨W.heap.size, 1, none⟩ = some (.slice none 0 0) := cell_gr hw4 (by go_simp)
          have fw4_0_1 : w4.frozen? ⟨W.heap.size, 1, none⟩ = false := frozen_gr (v := .slice none 0 0) hw4 (by go_simp) (by go_simp)
          have zw4_0 : W.heap.size < w4.heap.size := World.block_lt_of_cell? _ _ cw4_0_0
          have cw4_1_0 : w4.cell? ⟨w2.heap.size, 0, none⟩ = some (.int .i64 kd) := cell_gr hw4 (by go_simp)
          have fw4_1_0 : w4.frozen? ⟨w2.heap.size, 0, none⟩ = false := frozen_gr (v := .int .i64 kd) hw4 (by go_simp) (by go_simp)
          have cw4_1_1 : w4.cell? ⟨w2.heap.size, 1, none⟩ = some (bb) := cell_gr hw4 (by go_simp)
          have fw4_1_1 : w4.frozen? ⟨w2.heap.size, 1, none⟩ = false := frozen_gr (v := bb) hw4 (by go_simp) (by go_simp)
          have zw4_1 : w2.heap.size < w4.heap.size := World.block_lt_of_cell? _ _ cw4_1_0
          have gw4 : Gr wr w4 := Gr.trans (by have gg := gw3; have gs := gg.size; go_grown) hw4
          clear hw4 gw3 zw3_0 cw3_0_0 fw3_0_0 cw3_0_1 fw3_0_1 zw3_1 cw3_1_0 fw3_1_0 cw3_1_1 fw3_1_1
          go_wp2_with fail
          refine bodyPost_ret (v := .tuple #[.agg #[.int .i64 0, .slice none 0 0], .int .i64 0, .int .i64 10]) (by simp [results, Tryd.results51, go_sem, *]) rfl (HF.out.1 _ HB.out (by have gg := Gr.trans gwr gw4; have gs := gg.size; go_grown))
        · rw [decide_eq_true (by omega : 0 < q)] at B2
          have HSN := Lib.hid (eS.2 ⟨rfl, hp, hq⟩)
          have nb1 : ∀ k, bb.ownBlock = some k → k ≠ W.heap.size := fun k hk => by have := hnb k hk; omega
          have nb2 : ∀ k, bb.ownBlock = some k → k ≠ w2.heap.size := fun k hk => by have := hnb k hk; omega
          have N1 := Lib.hid nb1
          have N2 := Lib.hid nb2
          have HB1 := Lib.hid B1
          have HB2 := Lib.hid B2
          clear eR eA eS hBd B1 B2 hnb hp hq ha ha2 hm nb1 nb2
          go_wp2_with fail
          go_at_call 97
          refine ((HB1.out _ gwr)).mono ?_
          rintro e w3 ⟨rfl, hw3⟩
          have cw3_0_0 : w3.cell? ⟨W.heap.size, 0, none⟩ = some (.int .i64 0) := cell_gr hw3 (by go_simp)
          have fw3_0_0 : w3.frozen? ⟨W.heap.size, 0, none⟩ = false := frozen_gr (v := .int .i64 0) hw3 (by go_simp) (by go_simp)
          have cw3_0_1 : w3.cell? ⟨W.heap.size, 1, none⟩ = some (.slice none 0 0) := cell_gr hw3 (by go_simp)
          have fw3_0_1 : w3.frozen? ⟨W.heap.size, 1, none⟩ = false := frozen_gr (v := .slice none 0 0) hw3 (by go_simp) (by go_simp)
          have zw3_0 : W.heap.size < w3.heap.size := World.block_lt_of_cell? _ _ cw3_0_0
          have cw3_1_0 : w3.cell? ⟨w2.heap.size, 0, none⟩ = some (.int .i64 kd) := cell_gr hw3 (by go_simp)
          have fw3_1_0 : w3.frozen? ⟨w2.heap.size, 0, none⟩ = false := frozen_gr (v := .int .i64 kd) hw3 (by go_simp) (by go_simp)
          have cw3_1_1 : w3.cell? ⟨w2.heap.size, 1, none⟩ = some (bb) := cell_gr hw3 (by go_simp)
          have fw3_1_1 : w3.frozen? ⟨w2.heap.size, 1, none⟩ = false := frozen_gr (v := bb) hw3 (by go_simp) (by go_simp)
          have zw3_1 : w2.heap.size < w3.heap.size := World.block_lt_of_cell? _ _ cw3_1_0
          have gw3 : Gr wr w3 := Gr.trans (by go_grown) hw3
          clear hw3
          go_wp2_with fail
          go_at_call 97
          refine ((HB2.out _ (Gr.trans gwr gw3))).mono ?_
          rintro e w4 ⟨rfl, hw4⟩
          have cw4_0_0 : w4.cell? ⟨W.heap.size, 0, none⟩ = some (.int .i64 0) := cell_gr hw4 (by go_simp)
          have fw4_0_0 : w4.frozen? ⟨W.heap.size, 0, none⟩ = false := frozen_gr (v := .int .i64 0) hw4 (by go_simp) (by go_simp)
          have cw4_0_1 : w4.cell? ⟨W.heap.size, 1, none⟩ = some (.slice none 0 0) := cell_gr hw4 (by go_simp)
          have fw4_0_1 : w4.frozen? ⟨W.heap.size, 1, none⟩ = false := frozen_gr (v := .slice none 0 0) hw4 (by go_simp) (by go_simp)
          have zw4_0 : W.heap.size < w4.heap.size := World.block_lt_of_cell? _ _ cw4_0_0
          have cw4_1_0 : w4.cell? ⟨w2.heap.size, 0, none⟩ = some (.int .i64 kd) := cell_gr hw4 (by go_simp)
          have fw4_1_0 : w4.frozen? ⟨w2.heap.size, 0, none⟩ = false := frozen_gr (v := .int .i64 kd) hw4 (by go_simp) (by go_simp)
          have cw4_1_1 : w4.cell? ⟨w2.heap.size, 1, none⟩ = some (bb) := cell_gr hw4 (by go_simp)
          have fw4_1_1 : w4.frozen? ⟨w2.heap.size, 1, none⟩ = false := frozen_gr (v := bb) hw4 (by go_simp) (by go_simp)
          have zw4_1 : w2.heap.size < w4.heap.size := World.block_lt_of_cell? _ _ cw4_1_0
          have gw4 : Gr wr w4 := Gr.trans (by have gg := gw3; have gs := gg.size; go_grown) hw4
          clear hw4 gw3 zw3_0 cw3_0_0 fw3_0_0 cw3_0_1 fw3_0_1 zw3_1 cw3_1_0 fw3_1_0 cw3_1_1 fw3_1_1
          have O4 := Lib.hid (show w4.ownsRow (w2.heap.size + 1) 24 2 bb i _ from rowOwn_gr HO.out gw4)
          clear HO
          go_wp2_with (at_builtin; (refine wpList_append_own2 _ rfl (.tmp 87) (.tmp 91) 22 rfl (w2.heap.size + 1) 24 i0 (.agg #[.int .i64 0, .int .i64 0]) 2 16 Tryd.underlying22 HI.out.1 HI.out.2.1 HI.out.2.2.1 HI.out.2.2.2 rfl (by decide) bb i (rowP (upX L a2) (upY L a2) i) rfl (World.ownsRow.alloc O4.out _) ⟨w4.heap.size, 0, none⟩ 1 1 [.int .i64 xi, .int .i64 yi] rfl rfl (cell_two_new _ _ _ _) (ones2 _ _) (by unfold maxLen; omega) (by omega) (by simp; omega) ?_); intro v5 w5 o5 g5; obtain ⟨rg, rc, rfl, _⟩ := row_form o5 (by omega); obtain ⟨k0, l0⟩ := after_grown g5 (C := W.heap.size) (j := 0) (v := .int .i64 0) (by go_simp) (by go_simp) N1.out; obtain ⟨k1, l1⟩ := after_grown g5 (C := W.heap.size) (j := 1) (v := .slice none 0 0) (by go_simp) (by go_simp) N1.out; obtain ⟨k2, l2⟩ := after_grown g5 (C := w2.heap.size) (j := 0) (v := .int .i64 kd) (by go_simp) (by go_simp) N2.out; obtain ⟨k3, l3⟩ := after_grown g5 (C := w2.heap.size) (j := 1) (v := bb) (by go_simp) (by go_simp) N2.out; have O5 := Lib.hid o5; have G5 : Gr W w5 := g5.gr (Gr.trans gwr (by have gg := gw4; have gs := gg.size; go_grown)) (fun k hk => by have := HNB.out k hk; omega); have Z5 := World.block_lt_of_cell? _ _ k2; clear o5 g5)
          go_roundg (m - (i + 1))
          case measure => exact hmm
          case rel => exact ⟨i + 1, by go_num, hlt, rfl, by rw [HA9.out]; simp only [Int.natCast_add], HSN.out, by go_simp, by go_simp, by go_simp, by go_simp, by go_simp, ⟨.slice (some ⟨rg, 0, none⟩) (i + 1) rc, by go_simp, ownsRow_setCell_below (by rw [HE.out]; exact O5.out) (by simp) _⟩, by go_simp, by go_simp, by have gg := G5; have gs := gg.size; go_grown⟩
    · obtain rfl : i = m := by omega
      have ti : decide ((i : Int) < (i : Int)) = false := decide_eq_false (by omega)
      have ti2 : decide (i < i) = false := decide_eq_false (by omega)
      have hP := own_pts HO.out
      rw [← HX.out.1, ← HX.out.2.1] at hP
      have hPo : ∀ w : World, w.ownsRow (w2.heap.size + 1) 24 2 bb i (rowP (upX L a2) (upY L a2) i) → Pts w bb i X Y := fun w ho => by
        have := own_pts ho
        rwa [← HX.out.1, ← HX.out.2.1] at this
      have hsl : bb = .slice none 0 0 ∨ ∃ ad n c, bb = .slice (some ad) n c := by
        rcases HO.out.2 with ⟨e, _⟩ | ⟨g, cp, cur, e, _⟩
        · exact Or.inl e
        · exact Or.inr ⟨_, _, _, e⟩
      have hE := HX.out.2.2
      have A9 : ∀ w, Gr wr w → Calls Tryd.prog 34 #[.agg #[.int .i64 kd, bb]] w fun e w' => e = .returned (.int .i64 (objC kd i X Y : Nat)) ∧ Gr w w' := fun w g => c_rCheck kd w (pts_gr hP g)
      have hbd := HBAD.out
      rw [HS.out] at hbd
      generalize objC kd i X Y = oc at A9 hbd
      have HPo := Lib.hid hPo
      have HBD := Lib.hid hbd
      rw [← hE]
      have H9 := Lib.hid A9
      clear A9
      clear hP hPo hbd HBAD HX hE HS hm H1 H2
      by_cases hoc : oc = 0
      · subst hoc
        obtain rfl : bad = false := HBD.out
        rcases hsl with rfl | ⟨sa, sn, sc, rfl⟩
        · skip
          go_wp2_with fail
          go_at_call 34
          refine ((H9.out _ (Below.refl _ _))).mono ?_
          rintro e w3 ⟨rfl, hw3⟩
          have cw3_0_0 : w3.cell? ⟨W.heap.size, 0, none⟩ = some (.int .i64 0) := cell_gr hw3 (by go_simp)
          have fw3_0_0 : w3.frozen? ⟨W.heap.size, 0, none⟩ = false := frozen_gr (v := .int .i64 0) hw3 (by go_simp) (by go_simp)
          have cw3_0_1 : w3.cell? ⟨W.heap.size, 1, none⟩ = some (.slice none 0 0) := cell_gr hw3 (by go_simp)
          have fw3_0_1 : w3.frozen? ⟨W.heap.size, 1, none⟩ = false := frozen_gr (v := .slice none 0 0) hw3 (by go_simp) (by go_simp)
          have zw3_0 : W.heap.size < w3.heap.size := World.block_lt_of_cell? _ _ cw3_0_0
          have cw3_1_0 : w3.cell? ⟨w2.heap.size, 0, none⟩ = some (.int .i64 kd) := cell_gr hw3 (by go_simp)
          have fw3_1_0 : w3.frozen? ⟨w2.heap.size, 0, none⟩ = false := frozen_gr (v := .int .i64 kd) hw3 (by go_simp) (by go_simp)
          have cw3_1_1 : w3.cell? ⟨w2.heap.size, 1, none⟩ = some (.slice none 0 0) := cell_gr hw3 (by go_simp)
          have fw3_1_1 : w3.frozen? ⟨w2.heap.size, 1, none⟩ = false := frozen_gr (v := .slice none 0 0) hw3 (by go_simp) (by go_simp)
          have zw3_1 : w2.heap.size < w3.heap.size := World.block_lt_of_cell? _ _ cw3_1_0
          have gw3 : Gr wr w3 := Gr.trans (by go_grown) hw3
          clear hw3
          have O3 := Lib.hid (rowOwn_gr HO.out gw3)
          have G3 := Lib.hid (Gr.trans gwr gw3)
          clear HO gw3
          go_wp2_with fail
          refine bodyPost_ret (v := .tuple #[.agg #[.int .i64 kd, .slice none 0 0], .int .i64 E, .int .i64 0]) (by simp [results, Tryd.results51, go_sem, *]) rfl (HF.out.2 _ _ trivial (HPo.out _ (ownsRow_setCell_below (ownsRow_setCell_below O3.out (by simp; omega) _) (by simp; omega) _)) (new_of_own O3.out (by omega)) (by have gg := G3.out; have gs := gg.size; go_grown))
        · skip
          go_wp2_with fail
          go_at_call 34
          refine ((H9.out _ (Below.refl _ _))).mono ?_
          rintro e w3 ⟨rfl, hw3⟩
          have cw3_0_0 : w3.cell? ⟨W.heap.size, 0, none⟩ = some (.int .i64 0) := cell_gr hw3 (by go_simp)
          have fw3_0_0 : w3.frozen? ⟨W.heap.size, 0, none⟩ = false := frozen_gr (v := .int .i64 0) hw3 (by go_simp) (by go_simp)
          have cw3_0_1 : w3.cell? ⟨W.heap.size, 1, none⟩ = some (.slice none 0 0) := cell_gr hw3 (by go_simp)
          have fw3_0_1 : w3.frozen? ⟨W.heap.size, 1, none⟩ = false := frozen_gr (v := .slice none 0 0) hw3 (by go_simp) (by go_simp)
          have zw3_0 : W.heap.size < w3.heap.size := World.block_lt_of_cell? _ _ cw3_0_0
          have cw3_1_0 : w3.cell? ⟨w2.heap.size, 0, none⟩ = some (.int .i64 kd) := cell_gr hw3 (by go_simp)
          have fw3_1_0 : w3.frozen? ⟨w2.heap.size, 0, none⟩ = false := frozen_gr (v := .int .i64 kd) hw3 (by go_simp) (by go_simp)
          have cw3_1_1 : w3.cell? ⟨w2.heap.size, 1, none⟩ = some (.slice (some sa) sn sc) := cell_gr hw3 (by go_simp)
          have fw3_1_1 : w3.frozen? ⟨w2.heap.size, 1, none⟩ = false := frozen_gr (v := .slice (some sa) sn sc) hw3 (by go_simp) (by go_simp)
          have zw3_1 : w2.heap.size < w3.heap.size := World.block_lt_of_cell? _ _ cw3_1_0
          have gw3 : Gr wr w3 := Gr.trans (by go_grown) hw3
          clear hw3
          have O3 := Lib.hid (rowOwn_gr HO.out gw3)
          have G3 := Lib.hid (Gr.trans gwr gw3)
          clear HO gw3
          go_wp2_with fail
          refine bodyPost_ret (v := .tuple #[.agg #[.int .i64 kd, .slice (some sa) sn sc], .int .i64 E, .int .i64 0]) (by simp [results, Tryd.results51, go_sem, *]) rfl (HF.out.2 _ _ trivial (HPo.out _ (ownsRow_setCell_below (ownsRow_setCell_below O3.out (by simp; omega) _) (by simp; omega) _)) (new_of_own O3.out (by omega)) (by have gg := G3.out; have gs := gg.size; go_grown))
      · obtain rfl : bad = true := by rw [HBD.out, decide_eq_true hoc]; rfl
        have u1 : ((oc : Int) == 0) = false := by simp; omega
        have u2 : (oc == 0) = false := by simp; omega
        have u3 : ((oc : Int) != 0) = true := by simp; omega
        have u4 : (oc != 0) = true := by simp; omega
        clear hsl HPo HO hoc HBD
        go_wp2_with fail
        go_at_call 34
        refine ((H9.out _ (Below.refl _ _))).mono ?_
        rintro e w3 ⟨rfl, hw3⟩
        have cw3_0_0 : w3.cell? ⟨W.heap.size, 0, none⟩ = some (.int .i64 0) := cell_gr hw3 (by go_simp)
        have fw3_0_0 : w3.frozen? ⟨W.heap.size, 0, none⟩ = false := frozen_gr (v := .int .i64 0) hw3 (by go_simp) (by go_simp)
        have cw3_0_1 : w3.cell? ⟨W.heap.size, 1, none⟩ = some (.slice none 0 0) := cell_gr hw3 (by go_simp)
        have fw3_0_1 : w3.frozen? ⟨W.heap.size, 1, none⟩ = false := frozen_gr (v := .slice none 0 0) hw3 (by go_simp) (by go_simp)
        have zw3_0 : W.heap.size < w3.heap.size := World.block_lt_of_cell? _ _ cw3_0_0
        have cw3_1_0 : w3.cell? ⟨w2.heap.size, 0, none⟩ = some (.int .i64 kd) := cell_gr hw3 (by go_simp)
        have fw3_1_0 : w3.frozen? ⟨w2.heap.size, 0, none⟩ = false := frozen_gr (v := .int .i64 kd) hw3 (by go_simp) (by go_simp)
        have cw3_1_1 : w3.cell? ⟨w2.heap.size, 1, none⟩ = some (bb) := cell_gr hw3 (by go_simp)
        have fw3_1_1 : w3.frozen? ⟨w2.heap.size, 1, none⟩ = false := frozen_gr (v := bb) hw3 (by go_simp) (by go_simp)
        have zw3_1 : w2.heap.size < w3.heap.size := World.block_lt_of_cell? _ _ cw3_1_0
        have gw3 : Gr wr w3 := Gr.trans (by go_grown) hw3
        clear hw3
        go_wp2_with fail
        refine bodyPost_ret (v := .tuple #[.agg #[.int .i64 0, .slice none 0 0], .int .i64 0, .int .i64 10]) (by simp [results, Tryd.results51, go_sem, *]) rfl (HF.out.1 _ trivial (by have gg := Gr.trans gwr gw3; have gs := gg.size; go_grown))
theorem c_rUnobject {L : List UInt8} {v : Value} (W : World) (h : Row W v L) (hl : L.length ≤ 100000) :
    Calls Tryd.prog 51 #[v] W (RUoTo W L) := by
  cases h1 : uoS1 L
  · cases h2 : uoS2 L
    · exact ruo_3 W h hl h1 h2
    · exact ruo_2 W h hl h1 h2
  · exact ruo_1 W h hl h1
end Go.Proofs.YtkodmfkchbbmiaaDoor
