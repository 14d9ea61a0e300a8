/- slots: pair; one slot more, with bytes or free -/
import Derived.Test.YtilijbplfobneaaDoorMd
namespace Go.Proofs.YtilijbplfobneaaDoor
set_option linter.unusedVariables false
set_option linter.unusedSimpArgs false
open Go.ChangeShapes Go.WideShapes Go.ChangeAt Go.RowKit Go.Maps

/-- The number of two bytes at a place. -/
def pv (L : List UInt8) (k : Nat) : Nat := rb L k + 256 * rb L (k + 1)
theorem pv_lt (L : List UInt8) (k : Nat) : pv L k < 65536 := by
  have h0 := rb_lt L k
  have h1 := rb_lt L (k + 1)
  unfold pv; omega
theorem pv_drop (L : List UInt8) (k : Nat) : pv (L.drop k) 0 = pv L k := by
  unfold pv rb
  rw [List.getD_eq_getElem?_getD, List.getD_eq_getElem?_getD, List.getD_eq_getElem?_getD, List.getD_eq_getElem?_getD, List.getElem?_drop, List.getElem?_drop]
  rfl
set_option maxRecDepth 100000 in
theorem or16 {a c : Nat} (ha : a < 256) (hc : c < 256) : bits BinOp.or IntKind.i64 (c : Int) ((256 * a : Nat) : Int) = ((c + 256 * a : Nat) : Int) := by
  have h1 : (BitVec.ofInt 64 ((256 * a : Nat) : Int)).toNat = 256 * a := by rw [BitVec.ofInt_natCast, BitVec.toNat_ofNat]; exact Nat.mod_eq_of_lt (by omega)
  have h2 : (BitVec.ofInt 64 (c : Int)).toNat = c := by rw [BitVec.ofInt_natCast, BitVec.toNat_ofNat]; exact Nat.mod_eq_of_lt (by omega)
  show IntKind.i64.wrap ((BitVec.ofInt 64 (c : Int) ||| BitVec.ofInt 64 ((256 * a : Nat) : Int)).toNat : Int) = _
  rw [BitVec.toNat_or, h1, h2, show 256 * a = 2 ^ 8 * a by omega, Nat.or_comm, ← Nat.two_pow_add_eq_or_of_lt (i := 8) hc, IntKind.wrap_i64]
  omega
theorem wr_both {z : Nat} (h : z ≤ 1000000) : IntKind.i64.wrap (z : Int) = (z : Int) ∧ wrap64 (z : Int) = (z : Int) := ⟨wk_small (by omega), wr_small (by omega)⟩
set_option maxHeartbeats 4000000 in
set_option maxRecDepth 100000 in
theorem c_pair {L : List UInt8} {v : Value} (W : World) (h : Row W v L) (hl : 2 ≤ L.length) (hl2 : L.length ≤ 1000000000) :
    Calls Tryd.prog 84 #[v] W fun e w' => e = .returned (.int .i64 (pv L 0 : Nat)) ∧ Gr W w' := by
  obtain ⟨ad, cap, B, off, rfl, h1, h2, h3, h4⟩ := h
  obtain ⟨n, en⟩ : ∃ n, n = L.length := ⟨_, rfl⟩
  obtain rfl := h3 (by omega)
  have k0 := h4 0 (by omega)
  have k1 := h4 1 (by omega)
  rw [rb_at L (by omega)] at k0 k1
  rw [Nat.add_zero] at k0
  have b0 := rb_lt L 0
  have b1 := rb_lt L 1
  obtain ⟨r, er⟩ : ∃ r, r = pv L 0 := ⟨_, rfl⟩
  rw [← er]
  unfold pv at er
  rw [Nat.zero_add] at er
  generalize rb L 0 = x0 at *
  generalize rb L 1 = x1 at *
  obtain ⟨y1, f1⟩ : ∃ y, y = 256 * x1 := ⟨_, rfl⟩
  have o1 : bits BinOp.or IntKind.i64 (x0 : Int) (y1 : Int) = (r : Int) := by rw [f1, er]; exact or16 b1 b0
  have p1 : (x1 : Int) * 2 ^ 8 = (y1 : Int) := by rw [show ((2 : Int) ^ 8) = 256 from rfl]; omega
  have p1b : (x1 : Int) * 256 = (y1 : Int) := by omega
  have n0 : (0 : Int) < (n : Int) := by omega
  have n1 : (1 : Int) < (n : Int) := by omega
  have z0 : x0 ≤ 1000000 := by omega
  have z1 : x1 ≤ 1000000 := by omega
  have z2 : y1 ≤ 1000000 := by omega
  have w0 := wr_both z0
  have w1 := wr_both z1
  have w2 := wr_both z2
  clear z0 z1 z2
  obtain ⟨w0a, w0b⟩ := w0
  obtain ⟨w1a, w1b⟩ := w1
  obtain ⟨w2a, w2b⟩ := w2
  have hB : B < W.heap.size := World.block_lt_of_cell? _ _ k0
  rw [← en] at h1 ⊢
  clear h3 h4 er f1 en hl hl2
  go_enter Tryd.func84, Tryd.ntmps84
  go_wp2_with fail
  go_wp2_with fail
  try simp only [List.append]
  refine Od.wp_region_ord [(0, false), (1, false), (2, false), (3, false), (4, false), (5, false), (6, false), (7, false), (8, false), (9, false), (10, false)] (by kernel_rfl) (by kernel_rfl) ?_
  intro wa hwa KQ hKQ
  have cwa_0_0 : wa.cell? ⟨B, off, none⟩ = some (.int .u8 x0) := cell_gr hwa (by go_simp)
  have cwa_0_1 : wa.cell? ⟨B, off + 1, none⟩ = some (.int .u8 x1) := cell_gr hwa (by go_simp)
  have zwa_0 : B < wa.heap.size := World.block_lt_of_cell? _ _ cwa_0_0
  have gwa : Gr W wa := Gr.trans (by go_grown) hwa
  skip
  clear hwa
  repeat (first | (refine Od.wpO_skip (by simp only [List.getElem?_toArray, List.getElem?_cons_succ, List.getElem?_cons_zero] <;> rfl) rfl ?_; simp only [Act.put, List.setIfInBounds_toArray, List.set_cons_zero, List.set_cons_succ]) | (refine Od.wpO_pure (by simp only [List.getElem?_toArray, List.getElem?_cons_succ, List.getElem?_cons_zero] <;> rfl) rfl ?_; apply Exists.intro; refine ⟨?_, ?_⟩; (· intro wx gx; obtain ⟨mx, rfl⟩ := spread_of_gr gx; clear gx; all_goals (apply Od.pAt_of_quiet; intro K hK; go_big_quiet_op; first | exact hK _ rfl | (apply Exists.intro; refine ⟨fun _ => ?_, ?_⟩; (· fail); exact hK _ rfl))); try simp only [Act.put, List.setIfInBounds_toArray, List.set_cons_zero, List.set_cons_succ]))
  refine Od.wpO_nil (hKQ _ _ ?_)
  clear hKQ KQ
  go_wp2_with fail
  go_ret
  exact ⟨rfl, by first | exact gwa | exact gwa.drew⟩
section
variable {B : Nat} {C : Option Nat} {kd id : Int} {S : List Sl}
/-- One slot more. -/
theorem pageS_pushO {W Wa w2 : World} {sl : Value} {xs : List Value} {D cp : Nat} {o : Sl} {x v : Value} (h1 : PageAt W B kd id sl) (h2 : sl.ownBlock = C) (h3 : C ≠ some B) (h4 : S.length < 60)
    (h6 : ∀ j (h : j < S.length), ∃ b v, xs[j * 2]? = some b ∧ xs[j * 2 + 1]? = some v ∧ SlotC W (pgZ B C) S[j] b v) (hx : xs.length = S.length * 2) (g1 : Gr W Wa) (hv : SlotC W (pgZ B C) o x v)
    (o2 : w2.ownsRow 0 92 2 (.slice (some ⟨D, 0, none⟩) (S.length + 1) cp) (S.length + 1) (xs ++ [x, v])) (g2 : Grown Wa w2 sl (.slice (some ⟨D, 0, none⟩) (S.length + 1) cp)) :
    PageS (w2.setCell ⟨B, 3, none⟩ (.slice (some ⟨D, 0, none⟩) (S.length + 1) cp)) B (some D) kd id (S ++ [o]) ∧ (C = some D ∨ W.heap.size ≤ D) ∧
      Kx (fun k => pgZ B C k ∨ W.heap.size ≤ k) W (w2.setCell ⟨B, 3, none⟩ (.slice (some ⟨D, 0, none⟩) (S.length + 1) cp)) := by
  have hB : B < W.heap.size := World.block_lt_of_cell? _ _ h1.1
  have hD : C = some D ∨ W.heap.size ≤ D := by
    rcases g2.2 D rfl with h | h
    · exact Or.inl (by rw [← h2]; exact h)
    · exact Or.inr (Nat.le_trans g1.size h)
  have hDB : D ≠ B := fun e => by
    subst e
    rcases hD with h | h
    · exact h3 h
    · omega
  have k1 : Kx (fun k => C = some k) W w2 := (Kx.of_gr g1).trans ((kx_grown g2).mono (fun k h => by rw [← h2]; exact h))
  have p2 := pageAt_kx h1 k1 h3
  have k2 : Kx (fun k => pgZ B C k ∨ W.heap.size ≤ k) W (w2.setCell ⟨B, 3, none⟩ (.slice (some ⟨D, 0, none⟩) (S.length + 1) cp)) :=
    (k1.mono (T := fun k => pgZ B C k ∨ W.heap.size ≤ k) (fun k h => Or.inl (Or.inr h))).setCell (p := ⟨B, 3, none⟩) (Or.inl (Or.inl rfl)) _
  obtain ⟨q0, q1, q2, q3, f3⟩ := p2
  have f0 : (w2.setCell ⟨B, 3, none⟩ (.slice (some ⟨D, 0, none⟩) (S.length + 1) cp)).ownsRow 0 92 2 (.slice (some ⟨D, 0, none⟩) (S.length + 1) cp) (S.length + 1) (xs ++ [x, v]) :=
    rowOwn_kxS (S := fun k => k = B) o2 ((Kx.refl (S := fun k => k = B) w2).setCell (p := ⟨B, 3, none⟩) rfl _) (fun k hk => by simp [Value.ownBlock] at hk; omega)
  refine ⟨⟨.slice (some ⟨D, 0, none⟩) (S.length + 1) cp, _, ⟨by go_simp, by go_simp, by go_simp, by go_simp, by go_simp⟩, rfl, fun e => hDB (Option.some.inj e), by simp; omega, by simpa using f0, fun j hj => ?_⟩, hD, k2⟩
  have hZ : ∀ k, pgZ B (some D) k → pgZ B C k ∨ W.heap.size ≤ k := fun k hk => by
    rcases hk with h | h
    · exact Or.inl (Or.inl h)
    · obtain rfl := Option.some.inj h
      rcases hD with h | h
      · exact Or.inl (Or.inr h)
      · exact Or.inr h
  rw [List.length_append, List.length_singleton] at hj
  by_cases e : j < S.length
  · obtain ⟨y, u, e1, e2, e3⟩ := h6 j e
    refine ⟨y, u, ?_, ?_, ?_⟩
    · rw [List.getElem?_append_left (by omega)]; exact e1
    · rw [List.getElem?_append_left (by omega)]; exact e2
    · rw [List.getElem_append_left e]
      exact slotC_turn e3 k2 (fun k h => h) hZ
  · obtain rfl : j = S.length := by omega
    refine ⟨x, v, ?_, ?_, ?_⟩
    · rw [List.getElem?_append_right (by omega), hx, Nat.sub_self]; rfl
    · rw [List.getElem?_append_right (by omega), hx, show S.length * 2 + 1 - S.length * 2 = 1 by omega]; rfl
    · simp only [List.getElem_append_right (Nat.le_refl _), Nat.sub_self]
      exact slotC_turn hv k2 (fun k h => h) hZ
end
end Go.Proofs.YtilijbplfobneaaDoor
