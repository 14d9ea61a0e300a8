/- enc.Unobject -/
import Derived.Test.YtkldgfpkjaokaaaEu
import Derived.Test.YtkldgfpkjaokaaaEr
import Derived.Test.YtkldgfpkjaokaaaGl
import Derived.RegionTactic
import Derived.BigRegion
namespace Go.Proofs.Ytkldgfpkjaokaaa
set_option linter.unusedVariables false
set_option linter.unusedSimpArgs false
open Go.ChangeShapes Go.WideShapes Go.ChangeAt Go.RowKit

/-! ### the points that bytes read as -/
/-- Where the i-th point begins. -/
def upA (L : List UInt8) (a : Nat) : Nat → Nat
  | 0 => a
  | i + 1 => upA L a i + (rd L (upA L a i)).2 + (rd L (upA L a i + (rd L (upA L a i)).2)).2
def upX (L : List UInt8) (a i : Nat) : Int := si (rd L (upA L a i)).1
def upY (L : List UInt8) (a i : Nat) : Int := si (rd L (upA L a i + (rd L (upA L a i)).2)).1
/-- Is one of the first n spoilt? -/
def upS (L : List UInt8) (a : Nat) (s : Bool) : Nat → Bool
  | 0 => s
  | i + 1 => (upS L a s i || decide ((rd L (upA L a i)).2 = 0)) || decide ((rd L (upA L a i + (rd L (upA L a i)).2)).2 = 0)
theorem upA_len {L : List UInt8} {a : Nat} (h : a ≤ L.length) : ∀ i, upA L a i ≤ L.length
  | 0 => h
  | i + 1 => rd_len (rd_len (upA_len h i))
theorem upS_true (L : List UInt8) (a : Nat) : ∀ n, upS L a true n = true
  | 0 => rfl
  | n + 1 => by simp only [upS, upS_true L a n, Bool.true_or]
theorem upS_mono {L : List UInt8} {a : Nat} {s : Bool} {i n : Nat} (h : upS L a s i = true) (hi : i ≤ n) : upS L a s n = true := by
  induction n with
  | zero => obtain rfl : i = 0 := by omega
            exact h
  | succ n ih =>
    by_cases e : i = n + 1
    · subst e; exact h
    · simp only [upS, ih (by omega), Bool.true_or]
/-- What the bytes of an object begin with: whether they are spoilt, the kind, how many points, where these begin. -/
def uoS1 (L : List UInt8) : Bool := nmS L 0 false 4
def uoK (L : List UInt8) : Nat := nmV L 0 false 4
def uoB (L : List UInt8) : Nat := 0 + (rd L 0).2
def uoS2 (L : List UInt8) : Bool := nmS L (uoB L) (uoS1 L) 64
def uoM (L : List UInt8) : Nat := nmV L (uoB L) (uoS1 L) 64
def uoA (L : List UInt8) : Nat := uoB L + (rd L (uoB L)).2
def uoX (L : List UInt8) : Nat → Int := upX L (uoA L)
def uoY (L : List UInt8) : Nat → Int := upY L (uoA L)
def uoE (L : List UInt8) : Nat := upA L (uoA L) (uoM L)
def uoBad (L : List UInt8) : Bool := upS L (uoA L) (uoS2 L) (uoM L) || decide (objC (uoK L) (uoM L) (uoX L) (uoY L) ≠ 0)
theorem uoB_le (L : List UInt8) : uoB L ≤ L.length := rd_len (Nat.zero_le _)
theorem uoA_le (L : List UInt8) : uoA L ≤ L.length := rd_len (uoB_le L)
theorem nmV_le (L : List UInt8) (a : Nat) (s : Bool) (lim : Nat) : nmV L a s lim ≤ lim := by
  unfold nmV nmS
  by_cases h : lim < (rd L a).1
  · rw [decide_eq_true h, Bool.or_true, if_pos rfl]; omega
  · split <;> omega
theorem si_rng {v : Nat} (h : Wd v) : -9223372036854775808 ≤ si v ∧ si v ≤ 9223372036854775807 := by
  unfold Wd at h; unfold si; split <;> omega
/-- A slice in a block that was not there. -/
def New (W : World) (v : Value) : Prop := ∀ (ad : Addr) (m c : Nat), v = .slice (some ad) m c → W.heap.size ≤ ad.block
theorem new_of_own {W w : World} {base n size : Nat} {e : TypeId} {v : Value} {xs : List Value} (h : w.ownsRow base e size v n xs) (hb : W.heap.size ≤ base) : New W v := fun ad m c e => by
  subst e
  have := (World.ownsRow.lt h ad.block rfl).1
  omega
def UoTo (W : World) (L : List UInt8) (e : Ending) (w' : World) : Prop :=
  (uoBad L = true ∧ ∃ B, e = .returned (.tuple #[.agg #[.int .i64 0, .slice none 0 0], .int .i64 0, .iface 61 (.pointer (some ⟨B, 0, none⟩))]) ∧ FaultAt w' B objectS 0 10 ∧ Gr W w') ∨
  (uoBad L = false ∧ ∃ v, e = .returned (.tuple #[.agg #[.int .i64 (uoK L : Nat), v], .int .i64 (uoE L : Nat), .nilIface]) ∧ Pts w' v (uoM L) (uoX L) (uoY L) ∧ New W v ∧ Gr W w')
theorem c_faultNew (op : ByteArray) (id k : Int) (W : World) : Calls Try.prog 12 #[.string op, .int .i64 id, .iface 57 (.int .i64 k)] W fun e w' => ∃ B, e = .returned (.iface 61 (.pointer (some ⟨B, 0, none⟩))) ∧ W.heap.size ≤ B ∧ FaultAt w' B op id k ∧ Gr W w' := by
  go_enter Try.func12, Try.ntmps12
  go_wp2_with fail
  go_ret
  exact ⟨_, rfl, Nat.le_refl _, ⟨by go_simp, by go_simp, by go_simp⟩, by go_grown⟩
theorem rowOwn_kx {B base e size n : Nat} {a b : World} {v : Value} {xs : List Value} (h : a.ownsRow base e size v n xs) (g : Kx (onB B) a b) (hn : ∀ k, v.ownBlock = some k → k ≠ B) : b.ownsRow base e size v n xs :=
  h.kept (row := some B) ⟨g.os, g.tape, g.output, g.size, fun k hk hne => g.block k hk (fun e => hne (by rw [e]))⟩ (by
    rcases hh : v.ownBlock with _ | k
    · exact Or.inl rfl
    · exact Or.inr (fun e => hn k hh (Option.some.inj e)))
theorem grown_frozen {a b : World} {u v : Value} (h : Grown a b u v) {p : Addr} (hp : p.block < a.heap.size) (hn : ∀ k, u.ownBlock = some k → k ≠ p.block) : b.frozen? p = a.frozen? p :=
  World.frozen?_of_block (w := a) (h.1.block p.block hp (fun e => hn p.block e.symm rfl))
theorem rdr_grown {a b : World} {B n : Nat} {v u x : Value} {s : Bool} (h : Rdr a B v n s) (g : Grown a b u x) (hn : ∀ k, u.ownBlock = some k → k ≠ B) : Rdr b B v n s := by
  have hB := World.block_lt_of_cell? _ _ h.1
  exact ⟨g.cell h.1 hn, g.cell h.2.1 hn, g.cell h.2.2.1 hn, (grown_frozen (p := ⟨B, 1, none⟩) g hB hn).trans h.2.2.2.1, (grown_frozen (p := ⟨B, 2, none⟩) g hB hn).trans h.2.2.2.2⟩
theorem rdr_set {w : World} {B n : Nat} {v u : Value} {s : Bool} {p : Addr} (h : Rdr w B v n s) (hp : p.block ≠ B) : Rdr (w.setCell p u) B v n s := by
  obtain ⟨h0, h1, h2, h3, h4⟩ := h
  have c : ∀ o, (w.setCell p u).cell? ⟨B, o, none⟩ = w.cell? ⟨B, o, none⟩ := fun o => World.cell?_of_block (w := w) (Below.heap_setCell w p u B (fun e => hp e.symm))
  have f : ∀ o, (w.setCell p u).frozen? ⟨B, o, none⟩ = w.frozen? ⟨B, o, none⟩ := fun o => World.frozen?_of_block (w := w) (Below.heap_setCell w p u B (fun e => hp e.symm))
  exact ⟨(c 0).trans h0, (c 1).trans h1, (c 2).trans h2, (f 1).trans h3, (f 2).trans h4⟩
theorem rdr_mk {w : World} {B : Nat} {v : Value} {a : Nat} {s : Bool} (h0 : w.cell? ⟨B, 0, none⟩ = some v) (h1 : w.cell? ⟨B, 1, none⟩ = some (.int .i64 a)) (h2 : w.cell? ⟨B, 2, none⟩ = some (.bool s)) (h3 : w.frozen? ⟨B, 1, none⟩ = false) (h4 : w.frozen? ⟨B, 2, none⟩ = false) : Rdr w B v a s := ⟨h0, h1, h2, h3, h4⟩
theorem faultAt_sets {w : World} {B C : Nat} {op : ByteArray} {id k : Int} {a b : Value} (h : FaultAt w B op id k) (hn : B ≠ C) : FaultAt ((w.setCell ⟨C, 0, none⟩ a).setCell ⟨C, 1, none⟩ b) B op id k := by
  have c : ∀ o, ((w.setCell ⟨C, 0, none⟩ a).setCell ⟨C, 1, none⟩ b).cell? ⟨B, o, none⟩ = w.cell? ⟨B, o, none⟩ := fun o => World.cell?_of_block (w := w) ((Below.heap_setCell _ _ _ B hn).trans (Below.heap_setCell _ _ _ B hn))
  exact ⟨(c 0).trans h.1, (c 1).trans h.2.1, (c 2).trans h.2.2⟩
theorem news2 {w : World} {B : Nat} {a b : Value} (h0 : w.cell? ⟨B, 0, none⟩ = some a) (h1 : w.cell? ⟨B, 1, none⟩ = some b) : ∀ j u, [a, b][j]? = some u → w.cell? ((⟨B, 0, none⟩ : Addr).add j) = some u := by
  intro j u hj
  have e : (⟨B, 0, none⟩ : Addr).add j = ⟨B, j, none⟩ := by unfold Addr.add; split <;> simp_all
  rw [e]
  match j, hj with
  | 0, hj => simp at hj; subst hj; exact h0
  | 1, hj => simp at hj; subst hj; exact h1
  | j + 2, hj => simp at hj
theorem ones2 (a b : Int) : ∀ u ∈ [Value.int .i64 a, .int .i64 b], u.oneCell' = true := by
  intro u hu
  simp only [List.mem_cons, List.not_mem_nil, or_false] at hu
  rcases hu with rfl | rfl <;> rfl
set_option maxHeartbeats 8000000 in
set_option maxRecDepth 100000 in
theorem c_Unobject {L : List UInt8} {v : Value} (W : World) (h : Row W v L) (hl : L.length ≤ 100000) :
    Calls Try.prog 16 #[v] W (UoTo W L) := by
  obtain ⟨i0, hi0, hz0, hz1, hz2⟩ := info_parts (P := Try.prog) (e := 43) (z := .agg #[.int .i64 0, .int .i64 0]) (size := 2) (bytes := 16) (by kernel_rfl)
  have HI := Lib.hid (And.intro hi0 (And.intro hz0 (And.intro hz1 hz2)))
  have bB := uoB_le L
  have bA := uoA_le L
  have hL9 : (L.length : Int) ≤ 100000 := by omega
  have A1 : ∀ w, Rdr w (W.heap.size + 1) v 0 false → Gr W w → Calls Try.prog 15 #[.pointer (some ⟨W.heap.size + 1, 0, none⟩), .int .i64 4] w (RdTo w (W.heap.size + 1) v (uoB L) (uoS1 L) (.int .i64 (uoK L : Nat))) := fun w r g => c_num (lim := 4) w r (row_gr h g) hl (Nat.zero_le _) (by decide)
  have A2 : ∀ w, Rdr w (W.heap.size + 1) v (uoB L) (uoS1 L) → Gr W w → Calls Try.prog 15 #[.pointer (some ⟨W.heap.size + 1, 0, none⟩), .int .i64 64] w (RdTo w (W.heap.size + 1) v (uoA L) (uoS2 L) (.int .i64 (uoM L : Nat))) := fun w r g => c_num (lim := 64) w r (row_gr h g) hl bB (by decide)
  have A3 : ∀ w a s, a ≤ L.length → Rdr w (W.heap.size + 1) v a s → Gr W w → Calls Try.prog 24 #[.pointer (some ⟨W.heap.size + 1, 0, none⟩)] w (RdTo w (W.heap.size + 1) v (a + (rd L a).2) (s || decide ((rd L a).2 = 0)) (.int .i64 (si (rd L a).1))) := fun w a s ha r g => c_rsigned w r (row_gr h g) hl ha
  have hM : uoM L ≤ 64 := nmV_le _ _ _ _
  have hM9 : (uoM L : Int) ≤ 64 := by omega
  have fin1 : ∀ B w', uoBad L = true → FaultAt w' B objectS 0 10 → Gr W w' → UoTo W L (.returned (.tuple #[.agg #[.int .i64 0, .slice none 0 0], .int .i64 0, .iface 61 (.pointer (some ⟨B, 0, none⟩))])) w' := fun B w' hb hF g => Or.inl ⟨hb, B, rfl, hF, g⟩
  have fin2 : ∀ x w', uoBad L = false → Pts w' x (uoM L) (uoX L) (uoY L) → New W x → Gr W w' → UoTo W L (.returned (.tuple #[.agg #[.int .i64 (uoK L : Nat), x], .int .i64 (uoE L : Nat), .nilIface])) w' := fun x w' hb hP hN g => Or.inr ⟨hb, x, rfl, hP, hN, g⟩
  have HF := Lib.hid (And.intro fin1 fin2)
  have hbad : uoBad L = (upS L (uoA L) (uoS2 L) (uoM L) || decide (objC (uoK L) (uoM L) (uoX L) (uoY L) ≠ 0)) := rfl
  have HBAD := Lib.hid hbad
  obtain ⟨ad, cap, B, off, rfl, q1, q2, q3, q4⟩ := h
  have HX := Lib.hid (And.intro (show uoX L = upX L (uoA L) from rfl) (And.intro (show uoY L = upY L (uoA L) from rfl) (show uoE L = upA L (uoA L) (uoM L) from rfl)))
  generalize UoTo W L = Post at HF ⊢
  generalize uoBad L = bad at HF HBAD
  generalize uoX L = X at HF HBAD HX
  generalize uoY L = Y at HF HBAD HX
  generalize uoE L = E at HF HX
  generalize uoB L = b1 at A1 A2 bB
  generalize uoS1 L = s1 at A1 A2
  generalize uoK L = kd at A1 HF HBAD
  generalize uoA L = a2 at A2 bA HBAD HX
  generalize uoS2 L = s2 at A2 HBAD
  generalize uoM L = m at A2 HF HBAD HX hM hM9
  have H1 := Lib.hid A1
  have H2 := Lib.hid A2
  have H3 := Lib.hid A3
  clear A1 A2 A3
  clear fin1 fin2 hbad q3 q4 hi0 hz0 hz1 hz2
  go_enter Try.func16, Try.ntmps16
  go_wp2_with fail
  go_at_call 15
  (with_reducible refine (H1.out _ (rdr_mk (by go_simp) (by go_simp) (by go_simp) (by go_simp) (by go_simp)) (by go_grown)).mono ?_)
  rintro e w1 ⟨rfl, R1, k1⟩
  have c0 : w1.cell? ⟨W.heap.size, 0, none⟩ = some (.int .i64 0) := cell_kx k1 (by show ¬ (W.heap.size = W.heap.size + 1); omega) (by go_simp)
  have c1 : w1.cell? ⟨W.heap.size, 1, none⟩ = some (.slice none 0 0) := cell_kx k1 (by show ¬ (W.heap.size = W.heap.size + 1); omega) (by go_simp)
  have f0 : w1.frozen? ⟨W.heap.size, 0, none⟩ = false := frozen_kx (v := .int .i64 0) k1 (by show ¬ (W.heap.size = W.heap.size + 1); omega) (by go_simp) (by go_simp)
  have f1 : w1.frozen? ⟨W.heap.size, 1, none⟩ = false := frozen_kx (v := .slice none 0 0) k1 (by show ¬ (W.heap.size = W.heap.size + 1); omega) (by go_simp) (by go_simp)
  have G1 : Gr W w1 := Kx.gr k1 (by go_grown) (fun k hk => by have : k = W.heap.size + 1 := hk; omega)
  have R1h := Lib.hid R1
  have z1 := World.block_lt_of_cell? _ _ R1.1
  clear k1 R1
  go_wp2_with fail
  go_at_call 15
  (with_reducible refine (H2.out _ (rdr_set R1h.out (by simp)) (by have gg := G1; have gs := gg.size; go_grown)).mono ?_)
  rintro e w2 ⟨rfl, R2, k2⟩
  have d0 : w2.cell? ⟨W.heap.size, 0, none⟩ = some (.int .i64 kd) := cell_kx k2 (by show ¬ (W.heap.size = W.heap.size + 1); omega) (by go_simp)
  have d1 : w2.cell? ⟨W.heap.size, 1, none⟩ = some (.slice none 0 0) := cell_kx k2 (by show ¬ (W.heap.size = W.heap.size + 1); omega) (by go_simp)
  have e0 : w2.frozen? ⟨W.heap.size, 0, none⟩ = false := frozen_kx (v := .int .i64 kd) k2 (by show ¬ (W.heap.size = W.heap.size + 1); omega) (by go_simp) (by go_simp)
  have e1 : w2.frozen? ⟨W.heap.size, 1, none⟩ = false := frozen_kx (v := .slice none 0 0) k2 (by show ¬ (W.heap.size = W.heap.size + 1); omega) (by go_simp) (by go_simp)
  have G2 : Gr W w2 := Kx.gr k2 (by have gg := G1; have gs := gg.size; go_grown) (fun k hk => by have : k = W.heap.size + 1 := hk; omega)
  have R2h := Lib.hid R2
  have z2 := World.block_lt_of_cell? _ _ R2.1
  clear k2 R2 c0 c1 f0 f1 G1 R1h z1 H1 H2
  go_wp2_with fail
  go_loopg [14] m (fun j x wr => ∃ i : Nat, x = .int .i64 i ∧ i ≤ m ∧ j = m - i ∧ Rdr wr (W.heap.size + 1) (.slice ad L.length cap) (upA L a2 i) (upS L a2 s2 i) ∧ wr.cell? ⟨W.heap.size, 0, none⟩ = some (.int .i64 kd) ∧ (∃ bb, wr.cell? ⟨W.heap.size, 1, none⟩ = some bb ∧ wr.ownsRow (W.heap.size + 2) 43 2 bb i (rowP (upX L a2) (upY L a2) i)) ∧ wr.frozen? ⟨W.heap.size, 0, none⟩ = false ∧ wr.frozen? ⟨W.heap.size, 1, none⟩ = false ∧ Gr W wr)
  case atStart => exact ⟨0, rfl, Nat.zero_le _, by omega, R2h.out, d0, ⟨_, d1, World.ownsRow_nil _ _ _ _⟩, e0, e1, G2⟩
  case round =>
    obtain ⟨i, rfl, hi, hm, hR, c0, ⟨bb, c1, hO⟩, f0, f1, gwr⟩ := hrel
    have HR := Lib.hid hR
    have HO := Lib.hid hO
    have zwr : W.heap.size < wr.heap.size := World.block_lt_of_cell? _ _ c0
    clear hR hO R2h d0 d1 e0 e1 G2 z2
    by_cases hlt : i < m
    · have ti : decide ((i : Int) < (m : Int)) = true := decide_eq_true (by omega)
      have ti2 : decide (i < m) = true := decide_eq_true hlt
      have ti3 : (i : Int) < (m : Int) := by omega
      have hii : (i : Int) ≤ 64 := by omega
      have hmm : m - (i + 1) < gk := by omega
      have hnb : ∀ k, bb.ownBlock = some k → W.heap.size + 2 ≤ k := fun k hk => (World.ownsRow.lt HO.out k hk).1
      have HNB := Lib.hid hnb
      have ha := upA_len (L := L) bA i
      have ha2 := rd_len ha
      have eA : upA L a2 (i + 1) = upA L a2 i + (rd L (upA L a2 i)).2 + (rd L (upA L a2 i + (rd L (upA L a2 i)).2)).2 := rfl
      have eS : upS L a2 s2 (i + 1) = ((upS L a2 s2 i || decide ((rd L (upA L a2 i)).2 = 0)) || decide ((rd L (upA L a2 i + (rd L (upA L a2 i)).2)).2 = 0)) := rfl
      have eR : rowP (upX L a2) (upY L a2) (i + 1) = rowP (upX L a2) (upY L a2) i ++ [.int .i64 (upX L a2 i), .int .i64 (upY L a2 i)] := rfl
      have B1 := H3.out
      have S1 : ∀ w, Rdr w (W.heap.size + 1) (.slice ad L.length cap) (upA L a2 i) (upS L a2 s2 i) → Gr W w → _ := fun w r g => H3.out w _ _ ha r g
      have S2 : ∀ w, Rdr w (W.heap.size + 1) (.slice ad L.length cap) (upA L a2 i + (rd L (upA L a2 i)).2) (upS L a2 s2 i || decide ((rd L (upA L a2 i)).2 = 0)) → Gr W w → _ := fun w r g => H3.out w _ _ ha2 r g
      rw [show si (rd L (upA L a2 i)).1 = upX L a2 i from rfl] at S1
      rw [show si (rd L (upA L a2 i + (rd L (upA L a2 i)).2)).1 = upY L a2 i from rfl, ← eA, ← eS] at S2
      generalize upX L a2 i = xi at S1 eR
      generalize upY L a2 i = yi at S2 eR
      have HE := Lib.hid eR
      generalize upA L a2 i + (rd L (upA L a2 i)).2 = am at S1 S2
      generalize (upS L a2 s2 i || decide ((rd L (upA L a2 i)).2 = 0)) = sm at S1 S2
      have HS1 := Lib.hid S1
      have HS2 := Lib.hid S2
      clear eA eS eR S1 S2 B1 hnb ha ha2 hm
      go_wp2_with fail
      try simp only [List.append]
      refine Oe.wp_region_ordT (R := Kx (fun k => W.heap.size + 1 ≤ k)) 10 [(0, false), (1, false), (2, false), (4, false), (3, true), (5, true), (6, false), (7, true), (8, true), (9, false)] (by kernel_rfl) (by kernel_rfl) ?_
      intro w3 hw3 KQ hKQ
      have hhw3 := Kx.of_gr (S := (fun k => W.heap.size + 1 ≤ k)) hw3
      have cw3_0_0 : w3.cell? ⟨W.heap.size, 0, none⟩ = some (.int .i64 kd) := cell_kx hhw3 (by show ¬ (W.heap.size + 1 ≤ W.heap.size); omega) (by go_simp)
      have fw3_0_0 : w3.frozen? ⟨W.heap.size, 0, none⟩ = false := frozen_kx (v := .int .i64 kd) hhw3 (by show ¬ (W.heap.size + 1 ≤ W.heap.size); omega) (by go_simp) (by go_simp)
      have cw3_0_1 : w3.cell? ⟨W.heap.size, 1, none⟩ = some (bb) := cell_kx hhw3 (by show ¬ (W.heap.size + 1 ≤ W.heap.size); omega) (by go_simp)
      have fw3_0_1 : w3.frozen? ⟨W.heap.size, 1, none⟩ = false := frozen_kx (v := bb) hhw3 (by show ¬ (W.heap.size + 1 ≤ W.heap.size); omega) (by go_simp) (by go_simp)
      have zw3_0 : W.heap.size < w3.heap.size := World.block_lt_of_cell? _ _ cw3_0_0
      have gw3 : Gr W w3 := Kx.gr hhw3 (by have gg := gwr; have gs := gg.size; go_grown) (fun k hk => by have hk2 : W.heap.size + 1 ≤ k := hk; omega)
      have sw3 := hhw3.size
      clear gwr
      clear hhw3
      repeat (first | (refine Oe.wpO_skip (by simp only [List.getElem?_toArray, List.getElem?_cons_succ, List.getElem?_cons_zero] <;> rfl) rfl ?_; simp only [Act.put, List.setIfInBounds_toArray, List.set_cons_zero, List.set_cons_succ]) | (refine Oe.wpO_pure (by simp only [List.getElem?_toArray, List.getElem?_cons_succ, List.getElem?_cons_zero] <;> rfl) rfl ?_; apply Exists.intro; refine ⟨?_, ?_⟩; (· intro wx gx; have cx_0_0 : wx.cell? ⟨W.heap.size, 0, none⟩ = some (.int .i64 kd) := cell_kx gx (by show ¬ (W.heap.size + 1 ≤ W.heap.size); omega) cw3_0_0; have cx_0_1 : wx.cell? ⟨W.heap.size, 1, none⟩ = some (bb) := cell_kx gx (by show ¬ (W.heap.size + 1 ≤ W.heap.size); omega) cw3_0_1; have zx_0 : W.heap.size < wx.heap.size := World.block_lt_of_cell? _ _ cx_0_0; clear gx; all_goals (apply Oe.pAt_of_quiet; intro K hK; go_big_quiet_op; first | exact hK _ rfl | (apply Exists.intro; refine ⟨fun _ => ?_, ?_⟩; (· fail); exact hK _ rfl))); try simp only [Act.put, List.setIfInBounds_toArray, List.set_cons_zero, List.set_cons_succ]))
      have R3 := Lib.hid (rdr_gr HR.out hw3)
      have O3 := Lib.hid (show w3.ownsRow (W.heap.size + 2) 43 2 bb i _ from rowOwn_gr HO.out hw3)
      clear hw3 HR HO
      refine Oe.wpO_call (by simp only [List.getElem?_toArray, List.getElem?_cons_succ, List.getElem?_cons_zero] <;> rfl) rfl ?_
      intro QS hQS
      go_wp2_with fail
      go_at_call 24
      (with_reducible refine ((HS1.out _ R3.out gw3)).mono ?_)
      rintro e w4 ⟨rfl, r4, k4⟩
      have hhw4 : Kx (fun k => W.heap.size + 1 ≤ k) w3 w4 := Kx.mono k4 (fun k hk => by have : k = W.heap.size + 1 := hk; show W.heap.size + 1 ≤ k; omega)
      go_wp2_with fail
      first | (apply Exists.intro; refine ⟨?_, hhw4, ?_⟩; (· simp only [Act.put, List.setIfInBounds_toArray, List.set_cons_zero, List.set_cons_succ]; rfl)) | (refine ⟨hhw4, ?_⟩)
      have cw4_0_0 : w4.cell? ⟨W.heap.size, 0, none⟩ = some (.int .i64 kd) := cell_kx hhw4 (by show ¬ (W.heap.size + 1 ≤ W.heap.size); omega) (by go_simp)
      have fw4_0_0 : w4.frozen? ⟨W.heap.size, 0, none⟩ = false := frozen_kx (v := .int .i64 kd) hhw4 (by show ¬ (W.heap.size + 1 ≤ W.heap.size); omega) (by go_simp) (by go_simp)
      have cw4_0_1 : w4.cell? ⟨W.heap.size, 1, none⟩ = some (bb) := cell_kx hhw4 (by show ¬ (W.heap.size + 1 ≤ W.heap.size); omega) (by go_simp)
      have fw4_0_1 : w4.frozen? ⟨W.heap.size, 1, none⟩ = false := frozen_kx (v := bb) hhw4 (by show ¬ (W.heap.size + 1 ≤ W.heap.size); omega) (by go_simp) (by go_simp)
      have zw4_0 : W.heap.size < w4.heap.size := World.block_lt_of_cell? _ _ cw4_0_0
      have gw4 : Gr W w4 := Kx.gr hhw4 gw3 (fun k hk => by have hk2 : W.heap.size + 1 ≤ k := hk; omega)
      have sw4 := hhw4.size
      clear gw3 zw3_0 cw3_0_0 fw3_0_0 cw3_0_1 fw3_0_1
      clear hhw4
      try simp only [Act.put, List.setIfInBounds_toArray, List.set_cons_zero, List.set_cons_succ]
      repeat (first | (refine Oe.wpO_skip (by simp only [List.getElem?_toArray, List.getElem?_cons_succ, List.getElem?_cons_zero] <;> rfl) rfl ?_; simp only [Act.put, List.setIfInBounds_toArray, List.set_cons_zero, List.set_cons_succ]) | (refine Oe.wpO_pure (by simp only [List.getElem?_toArray, List.getElem?_cons_succ, List.getElem?_cons_zero] <;> rfl) rfl ?_; apply Exists.intro; refine ⟨?_, ?_⟩; (· intro wx gx; have cx_0_0 : wx.cell? ⟨W.heap.size, 0, none⟩ = some (.int .i64 kd) := cell_kx gx (by show ¬ (W.heap.size + 1 ≤ W.heap.size); omega) cw4_0_0; have cx_0_1 : wx.cell? ⟨W.heap.size, 1, none⟩ = some (bb) := cell_kx gx (by show ¬ (W.heap.size + 1 ≤ W.heap.size); omega) cw4_0_1; have zx_0 : W.heap.size < wx.heap.size := World.block_lt_of_cell? _ _ cx_0_0; clear gx; all_goals (apply Oe.pAt_of_quiet; intro K hK; go_big_quiet_op; first | exact hK _ rfl | (apply Exists.intro; refine ⟨fun _ => ?_, ?_⟩; (· fail); exact hK _ rfl))); try simp only [Act.put, List.setIfInBounds_toArray, List.set_cons_zero, List.set_cons_succ]))
      have R4 := Lib.hid r4
      have O4 := Lib.hid (rowOwn_kx O3.out k4 (fun k hk => by have := HNB.out k hk; omega))
      clear r4 k4 R3 O3 HS1
      refine Oe.wpO_call (by simp only [List.getElem?_toArray, List.getElem?_cons_succ, List.getElem?_cons_zero] <;> rfl) rfl ?_
      intro QS hQS
      go_wp2_with fail
      go_at_call 24
      (with_reducible refine ((HS2.out _ R4.out gw4)).mono ?_)
      rintro e w5 ⟨rfl, r5, k5⟩
      have hhw5 : Kx (fun k => W.heap.size + 1 ≤ k) w4 w5 := Kx.mono k5 (fun k hk => by have : k = W.heap.size + 1 := hk; show W.heap.size + 1 ≤ k; omega)
      go_wp2_with fail
      first | (apply Exists.intro; refine ⟨?_, hhw5, ?_⟩; (· simp only [Act.put, List.setIfInBounds_toArray, List.set_cons_zero, List.set_cons_succ]; rfl)) | (refine ⟨hhw5, ?_⟩)
      have cw5_0_0 : w5.cell? ⟨W.heap.size, 0, none⟩ = some (.int .i64 kd) := cell_kx hhw5 (by show ¬ (W.heap.size + 1 ≤ W.heap.size); omega) (by go_simp)
      have fw5_0_0 : w5.frozen? ⟨W.heap.size, 0, none⟩ = false := frozen_kx (v := .int .i64 kd) hhw5 (by show ¬ (W.heap.size + 1 ≤ W.heap.size); omega) (by go_simp) (by go_simp)
      have cw5_0_1 : w5.cell? ⟨W.heap.size, 1, none⟩ = some (bb) := cell_kx hhw5 (by show ¬ (W.heap.size + 1 ≤ W.heap.size); omega) (by go_simp)
      have fw5_0_1 : w5.frozen? ⟨W.heap.size, 1, none⟩ = false := frozen_kx (v := bb) hhw5 (by show ¬ (W.heap.size + 1 ≤ W.heap.size); omega) (by go_simp) (by go_simp)
      have zw5_0 : W.heap.size < w5.heap.size := World.block_lt_of_cell? _ _ cw5_0_0
      have gw5 : Gr W w5 := Kx.gr hhw5 gw4 (fun k hk => by have hk2 : W.heap.size + 1 ≤ k := hk; omega)
      have sw5 := hhw5.size
      clear gw4 zw4_0 cw4_0_0 fw4_0_0 cw4_0_1 fw4_0_1
      clear hhw5
      try simp only [Act.put, List.setIfInBounds_toArray, List.set_cons_zero, List.set_cons_succ]
      repeat (first | (refine Oe.wpO_skip (by simp only [List.getElem?_toArray, List.getElem?_cons_succ, List.getElem?_cons_zero] <;> rfl) rfl ?_; simp only [Act.put, List.setIfInBounds_toArray, List.set_cons_zero, List.set_cons_succ]) | (refine Oe.wpO_pure (by simp only [List.getElem?_toArray, List.getElem?_cons_succ, List.getElem?_cons_zero] <;> rfl) rfl ?_; apply Exists.intro; refine ⟨?_, ?_⟩; (· intro wx gx; have cx_0_0 : wx.cell? ⟨W.heap.size, 0, none⟩ = some (.int .i64 kd) := cell_kx gx (by show ¬ (W.heap.size + 1 ≤ W.heap.size); omega) cw5_0_0; have cx_0_1 : wx.cell? ⟨W.heap.size, 1, none⟩ = some (bb) := cell_kx gx (by show ¬ (W.heap.size + 1 ≤ W.heap.size); omega) cw5_0_1; have zx_0 : W.heap.size < wx.heap.size := World.block_lt_of_cell? _ _ cx_0_0; clear gx; all_goals (apply Oe.pAt_of_quiet; intro K hK; go_big_quiet_op; first | exact hK _ rfl | (apply Exists.intro; refine ⟨fun _ => ?_, ?_⟩; (· fail); exact hK _ rfl))); try simp only [Act.put, List.setIfInBounds_toArray, List.set_cons_zero, List.set_cons_succ]))
      have R5 := Lib.hid r5
      have O5 := Lib.hid (rowOwn_kx O4.out k5 (fun k hk => by have := HNB.out k hk; omega))
      clear r5 k5 R4 O4 HS2
      refine Oe.wpO_call (by simp only [List.getElem?_toArray, List.getElem?_cons_succ, List.getElem?_cons_zero] <;> rfl) rfl ?_
      intro QS hQS
      go_wp2_with fail
      first | (apply Exists.intro; refine ⟨?_, Kx.of_gr (by go_grown), ?_⟩; (· simp only [Act.put, List.setIfInBounds_toArray, List.set_cons_zero, List.set_cons_succ]; rfl)) | (refine ⟨Kx.of_gr (by go_grown), ?_⟩)
      generalize hhw6 : (w5.alloc (.cells #[.int .i64 xi, .int .i64 yi] 43)) = w6
      have hw6 : Gr w5 w6 := by subst hhw6; go_grown
      have cw6_0_0 : w6.cell? ⟨W.heap.size, 0, none⟩ = some (.int .i64 kd) := by subst hhw6; go_simp
      have fw6_0_0 : w6.frozen? ⟨W.heap.size, 0, none⟩ = false := by subst hhw6; go_simp
      have cw6_0_1 : w6.cell? ⟨W.heap.size, 1, none⟩ = some (bb) := by subst hhw6; go_simp
      have fw6_0_1 : w6.frozen? ⟨W.heap.size, 1, none⟩ = false := by subst hhw6; go_simp
      have zw6_0 : W.heap.size < w6.heap.size := World.block_lt_of_cell? _ _ cw6_0_0
      have cw6_1_0 : w6.cell? ⟨w5.heap.size, 0, none⟩ = some (.int .i64 xi) := by subst hhw6; go_simp
      have cw6_1_1 : w6.cell? ⟨w5.heap.size, 1, none⟩ = some (.int .i64 yi) := by subst hhw6; go_simp
      have zw6_1 : w5.heap.size < w6.heap.size := World.block_lt_of_cell? _ _ cw6_1_0
      have gw6 : Gr W w6 := Gr.trans (by have gg := gw5; have gs := gg.size; go_grown) hw6
      have sw6 := hw6.size
      clear hhw6 gw5 zw5_0 cw5_0_0 fw5_0_0 cw5_0_1 fw5_0_1
      try simp only [Act.put, List.setIfInBounds_toArray, List.set_cons_zero, List.set_cons_succ]
      repeat (first | (refine Oe.wpO_skip (by simp only [List.getElem?_toArray, List.getElem?_cons_succ, List.getElem?_cons_zero] <;> rfl) rfl ?_; simp only [Act.put, List.setIfInBounds_toArray, List.set_cons_zero, List.set_cons_succ]) | (refine Oe.wpO_pure (by simp only [List.getElem?_toArray, List.getElem?_cons_succ, List.getElem?_cons_zero] <;> rfl) rfl ?_; apply Exists.intro; refine ⟨?_, ?_⟩; (· intro wx gx; have cx_0_0 : wx.cell? ⟨W.heap.size, 0, none⟩ = some (.int .i64 kd) := cell_kx gx (by show ¬ (W.heap.size + 1 ≤ W.heap.size); omega) cw6_0_0; have cx_0_1 : wx.cell? ⟨W.heap.size, 1, none⟩ = some (bb) := cell_kx gx (by show ¬ (W.heap.size + 1 ≤ W.heap.size); omega) cw6_0_1; have zx_0 : W.heap.size < wx.heap.size := World.block_lt_of_cell? _ _ cx_0_0; have cx_1_0 : wx.cell? ⟨w5.heap.size, 0, none⟩ = some (.int .i64 xi) := cell_kx gx (by show ¬ (W.heap.size + 1 ≤ w5.heap.size); omega) cw6_1_0; have cx_1_1 : wx.cell? ⟨w5.heap.size, 1, none⟩ = some (.int .i64 yi) := cell_kx gx (by show ¬ (W.heap.size + 1 ≤ w5.heap.size); omega) cw6_1_1; have zx_1 : w5.heap.size < wx.heap.size := World.block_lt_of_cell? _ _ cx_1_0; clear gx; all_goals (apply Oe.pAt_of_quiet; intro K hK; go_big_quiet_op; first | exact hK _ rfl | (apply Exists.intro; refine ⟨fun _ => ?_, ?_⟩; (· fail); exact hK _ rfl))); try simp only [Act.put, List.setIfInBounds_toArray, List.set_cons_zero, List.set_cons_succ]))
      have R6 := Lib.hid (rdr_gr R5.out hw6)
      have O6 := Lib.hid (show w6.ownsRow (W.heap.size + 2) 43 2 bb i _ from rowOwn_gr O5.out hw6)
      have N6 := Lib.hid (news2 cw6_1_0 cw6_1_1)
      have Z6 : W.heap.size + 2 ≤ w6.heap.size := by have := World.block_lt_of_cell? _ _ R6.out.1; omega
      clear hw6 R5 O5
      refine Oe.wpO_call (by simp only [List.getElem?_toArray, List.getElem?_cons_succ, List.getElem?_cons_zero] <;> rfl) rfl ?_
      intro QS hQS
      refine (wpList_append_own2 _ rfl (.tmp 17) (.tmp 23) 25 rfl (W.heap.size + 2) 43 i0 (.agg #[.int .i64 0, .int .i64 0]) 2 16 Try.underlying25 HI.out.1 HI.out.2.1 HI.out.2.2.1 HI.out.2.2.2 rfl (by decide) bb i (rowP (upX L a2) (upY L a2) i) rfl O6.out ⟨w5.heap.size, 0, none⟩ 1 1 [.int .i64 xi, .int .i64 yi] rfl rfl N6.out (ones2 _ _) (by unfold maxLen; omega) (by omega) Z6 ?_)
      intro b7 w7 o7 g7
      have hhw7 : Kx (fun k => W.heap.size + 1 ≤ k) w6 w7 := kx_of_grown g7 (fun k hk => by have := HNB.out k hk; show W.heap.size + 1 ≤ k; omega)
      refine hQS _ _ ⟨_, rfl, hhw7, ?_⟩
      clear hQS QS
      have cw7_0_0 : w7.cell? ⟨W.heap.size, 0, none⟩ = some (.int .i64 kd) := cell_kx hhw7 (by show ¬ (W.heap.size + 1 ≤ W.heap.size); omega) (by go_simp)
      have fw7_0_0 : w7.frozen? ⟨W.heap.size, 0, none⟩ = false := frozen_kx (v := .int .i64 kd) hhw7 (by show ¬ (W.heap.size + 1 ≤ W.heap.size); omega) (by go_simp) (by go_simp)
      have cw7_0_1 : w7.cell? ⟨W.heap.size, 1, none⟩ = some (bb) := cell_kx hhw7 (by show ¬ (W.heap.size + 1 ≤ W.heap.size); omega) (by go_simp)
      have fw7_0_1 : w7.frozen? ⟨W.heap.size, 1, none⟩ = false := frozen_kx (v := bb) hhw7 (by show ¬ (W.heap.size + 1 ≤ W.heap.size); omega) (by go_simp) (by go_simp)
      have zw7_0 : W.heap.size < w7.heap.size := World.block_lt_of_cell? _ _ cw7_0_0
      have gw7 : Gr W w7 := Kx.gr hhw7 gw6 (fun k hk => by have hk2 : W.heap.size + 1 ≤ k := hk; omega)
      have sw7 := hhw7.size
      clear gw6 zw6_0 cw6_0_0 fw6_0_0 cw6_0_1 fw6_0_1 zw6_1 cw6_1_0 cw6_1_1
      clear hhw7
      try simp only [Act.put, List.setIfInBounds_toArray, List.set_cons_zero, List.set_cons_succ]
      repeat (first | (refine Oe.wpO_skip (by simp only [List.getElem?_toArray, List.getElem?_cons_succ, List.getElem?_cons_zero] <;> rfl) rfl ?_; simp only [Act.put, List.setIfInBounds_toArray, List.set_cons_zero, List.set_cons_succ]) | (refine Oe.wpO_pure (by simp only [List.getElem?_toArray, List.getElem?_cons_succ, List.getElem?_cons_zero] <;> rfl) rfl ?_; apply Exists.intro; refine ⟨?_, ?_⟩; (· intro wx gx; have cx_0_0 : wx.cell? ⟨W.heap.size, 0, none⟩ = some (.int .i64 kd) := cell_kx gx (by show ¬ (W.heap.size + 1 ≤ W.heap.size); omega) cw7_0_0; have cx_0_1 : wx.cell? ⟨W.heap.size, 1, none⟩ = some (bb) := cell_kx gx (by show ¬ (W.heap.size + 1 ≤ W.heap.size); omega) cw7_0_1; have zx_0 : W.heap.size < wx.heap.size := World.block_lt_of_cell? _ _ cx_0_0; clear gx; all_goals (apply Oe.pAt_of_quiet; intro K hK; go_big_quiet_op; first | exact hK _ rfl | (apply Exists.intro; refine ⟨fun _ => ?_, ?_⟩; (· fail); exact hK _ rfl))); try simp only [Act.put, List.setIfInBounds_toArray, List.set_cons_zero, List.set_cons_succ]))
      have R7 := Lib.hid (rdr_grown R6.out g7 (fun k hk => by have := HNB.out k hk; omega))
      have O7 := Lib.hid (show w7.ownsRow (W.heap.size + 2) 43 2 b7 (i + 1) (rowP (upX L a2) (upY L a2) (i + 1)) by rw [HE.out]; exact o7)
      clear o7 g7 R6 O6 N6
      obtain ⟨rg, rc, rfl, _⟩ := row_form O7.out (by omega)
      refine Oe.wpO_nil (hKQ _ _ ?_)
      clear hKQ KQ
      go_wp2_with fail
      go_roundg (m - (i + 1))
      case measure => exact hmm
      case rel => exact ⟨i + 1, by go_num, hlt, rfl, rdr_set R7.out (by simp), by go_simp, ⟨_, by go_simp, ownsRow_setCell_below O7.out (by simp) _⟩, by go_simp, by go_simp, by have gg := gw7; have gs := gg.size; go_grown⟩
    · obtain rfl : i = m := by omega
      have ti : decide ((i : Int) < (i : Int)) = false := decide_eq_false (by omega)
      have ti2 : decide (i < i) = false := decide_eq_false (by omega)
      have hP := own_pts HO.out
      rw [← HX.out.1, ← HX.out.2.1] at hP
      have HP := Lib.hid hP
      have hPo : ∀ w : World, w.ownsRow (W.heap.size + 2) 43 2 bb i (rowP (upX L a2) (upY L a2) i) → Pts w bb i X Y := fun w ho => by
        have := own_pts ho
        rwa [← HX.out.1, ← HX.out.2.1] at this
      have HPo := Lib.hid hPo
      clear hPo
      have hbd := HBAD.out
      have hsl : bb = .slice none 0 0 ∨ ∃ ad n c, bb = .slice (some ad) n c := by
        rcases HO.out.2 with ⟨e, _⟩ | ⟨g, cp, cur, e, _⟩
        · exact Or.inl e
        · exact Or.inr ⟨_, _, _, e⟩
      have A9 := fun w (g : Gr wr w) => c_relCheck (kd : Int) w (pts_gr HP.out g)
      obtain ⟨r0, r1, r2, r3, r4⟩ := HR.out
      rw [← HX.out.2.2] at r1
      have hq : (upS L a2 s2 i || decide (objC kd i X Y ≠ 0)) = bad := hbd.symm
      generalize upS L a2 s2 i = q at *
      generalize objC kd i X Y = oc at *
      have HQ := Lib.hid hq
      have H9 := Lib.hid A9
      clear A9
      have B0 := World.block_lt_of_cell? _ _ r0
      clear hP hbd hq HBAD hm HR
      cases q
      · rcases hsl with rfl | ⟨sa, sn, sc, rfl⟩
        all_goals
          go_wp2_with fail
          go_at_call 19
          refine (H9.out _ (Below.refl _ _)).mono ?_
          rintro e w3 ⟨u, rfl, hu, g3⟩
          have c0' := cell_gr g3 c0
          have c1' := cell_gr g3 c1
          have f0' := frozen_gr g3 c0 f0
          have f1' := frozen_gr g3 c1 f1
          have r1' := cell_gr g3 r1
          have G3 := Gr.trans gwr g3
          have O3 := Lib.hid (rowOwn_gr HO.out g3)
          have Z3 := g3.size
          clear c0 c1 f0 f1 r0 r1 r2 r3 r4 HP HX HO H9 H3
          rcases hu with ⟨rfl, rfl⟩ | ⟨B1, u1, d1, rfl, hk, _⟩
          · obtain rfl : bad = false := HQ.out.symm
            clear g3
            go_wp2_with fail
            go_region
            all_goals
              go_wp2_with fail
              refine bodyPost_ret (v := .tuple #[.agg #[.int .i64 kd, _], .int .i64 E, .nilIface]) (by simp [results, Try.results16, go_sem, *]) rfl (HF.out.2 _ _ trivial (HPo.out _ (World.ownsRow.drew (ownsRow_setCell_below (ownsRow_setCell_below O3.out (by simp) _) (by simp) _))) (new_of_own O3.out (by omega)) (by have gg := G3; have gs := gg.size; go_grown))
          · obtain rfl : bad = true := by rw [← HQ.out, decide_eq_true (by omega)]; rfl
            clear g3 hk
            go_wp2_with fail
            go_at_call 12
            (with_reducible refine (c_faultNew objectS 0 10 _).mono ?_)
            rintro e w4 ⟨B4, rfl, hB4, hF, g4⟩
            have c0 := cell_gr g4 c0'
            have c1 := cell_gr g4 c1'
            have f0 := frozen_gr g4 c0' f0'
            have f1 := frozen_gr g4 c1' f1'
            have hF4 := Lib.hid hF
            have G4 := Gr.trans G3 g4
            have zz : W.heap.size < w4.heap.size := World.block_lt_of_cell? _ _ c0
            have nB : B4 ≠ W.heap.size := by omega
            clear g4 hF c0' c1' f0' f1' r1'
            go_wp2_with fail
            refine bodyPost_ret (v := .tuple #[.agg #[.int .i64 0, .slice none 0 0], .int .i64 0, .iface 61 (.pointer (some ⟨B4, 0, none⟩))]) (by simp [results, Try.results16, go_sem, *]) rfl (HF.out.1 _ _ trivial (faultAt_sets hF4.out nB) (by have gg := G4; have gs := gg.size; go_grown))
      · obtain rfl : bad = true := HQ.out.symm
        clear H9 H3 HP HX HO HPo hsl
        go_wp2_with fail
        go_at_call 12
        (with_reducible refine (c_faultNew objectS 0 10 _).mono ?_)
        rintro e w4 ⟨B4, rfl, hB4, hF, g4⟩
        have c0' := cell_gr g4 c0
        have c1' := cell_gr g4 c1
        have f0' := frozen_gr g4 c0 f0
        have f1' := frozen_gr g4 c1 f1
        have hF4 := Lib.hid hF
        have G4 := Gr.trans gwr g4
        have zz : W.heap.size < w4.heap.size := World.block_lt_of_cell? _ _ c0'
        have nB : B4 ≠ W.heap.size := by omega
        clear g4 hF c0 c1 f0 f1 r0 r1 r2 r3 r4
        go_wp2_with fail
        refine bodyPost_ret (v := .tuple #[.agg #[.int .i64 0, .slice none 0 0], .int .i64 0, .iface 61 (.pointer (some ⟨B4, 0, none⟩))]) (by simp [results, Try.results16, go_sem, *]) rfl (HF.out.1 _ _ trivial (faultAt_sets hF4.out nB) (by have gg := G4; have gs := gg.size; go_grown))
end Go.Proofs.Ytkldgfpkjaokaaa
