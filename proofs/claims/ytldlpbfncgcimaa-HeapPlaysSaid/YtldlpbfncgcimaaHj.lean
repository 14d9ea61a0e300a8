/- heap: what the document fixes -/
import Derived.Test.YtldlpbfncgcimaaHi
namespace Go.Proofs.Ytldlpbfncgcimaa
set_option linter.unusedVariables false
open Go.ChangeShapes Go.WideShapes Go.ChangeAt Go.RowKit

def ent (j : Nat) : En := ⟨j, 0, j, 1, true, 0⟩
/-- What was pushed before the number j. -/
def awL : Nat → List Nu
  | 3 => []
  | 2 => [⟨ent 3, 0⟩]
  | 1 => [⟨ent 3, 0⟩, ⟨ent 2, 1⟩]
  | _ => [⟨ent 3, 0⟩, ⟨ent 2, 1⟩, ⟨ent 1, 2⟩]
theorem aw_ok : ∀ j, ∀ y ∈ awL j, y.e.ok := by
  intro j y hy
  have : y.e = ent 3 ∨ y.e = ent 2 ∨ y.e = ent 1 := by
    unfold awL at hy
    split at hy <;> simp at hy
    · subst hy; simp
    · rcases hy with rfl | rfl <;> simp
    · rcases hy with rfl | rfl | rfl <;> simp
  rcases this with h | h | h <;> (rw [h]; unfold En.ok ent Wd; simp)
theorem aw_min {x : Nu} {M L : List Nu} (hL : L.Perm (awL 0)) (hP : (x :: M).Perm L) (hm : ∀ y ∈ L, ltN y x = false) : x.e.id = 1 ∧ M.length = 2 := by
  have hx : x ∈ awL 0 := hL.mem_iff.1 (hP.mem_iff.1 List.mem_cons_self)
  have h1 := hm ⟨ent 1, 2⟩ (hL.mem_iff.2 (by simp [awL]))
  have hl := (hP.trans hL).length_eq
  simp [awL] at hx hl
  refine ⟨?_, hl⟩
  rcases hx with rfl | rfl | rfl
  · exact absurd h1 (by decide)
  · exact absurd h1 (by decide)
  · rfl
set_option maxHeartbeats 4000000 in
set_option maxRecDepth 100000 in
theorem p15_awake (W : World) : Calls Try.prog 20 #[] W fun e w' => e = .returned (.bool true) ∧ Gr W w' := by
  have AN := Lib.hid (fun w => c_hNew w)
  have APu : ∀ (L : List Nu) (j base p : Nat) (v : Value) (w : World), base ≤ w.heap.size → HeapAt w base p v L (3 - j) → L.Perm (awL j) → 1 ≤ j → j ≤ 3 → Hp.hp ltN L →
      Calls Try.prog 22 #[.pointer (some ⟨p, 0, none⟩), .agg #[.int .i64 j, .int .u64 0, .int .u64 j, .int .u64 1, .bool true, .int .i64 0]] w fun e w' => e = .returned (.tuple #[]) ∧ PushAt base p v L (3 - j) (ent j) w w' :=
    fun L j base p v w hb H hP h1 h3 hh => c_Push L (ent j) base p (3 - j) v (by have := hP.length_eq; have h : (awL j).length ≤ 3 := (by unfold awL; split <;> simp); omega) (by omega) w hb H (fun y hy => aw_ok j y (hP.mem_iff.1 hy)) (by unfold En.ok ent Wd; simp; omega) hh
  have HPu := Lib.hid APu
  clear APu
  go_enter Try.func20, Try.ntmps20
  go_wp2_with fail
  go_at_call 21
  (with_reducible refine (AN.out _).mono ?_)
  rintro e w1 ⟨rfl, hA1, g1⟩
  have HA1 := Lib.hid hA1
  have G1 := Lib.hid g1
  clear hA1 g1
  go_wp2_with fail
  go_loopg [2] 3 (fun k x wr => ∃ (j : Nat) (v : Value) (L : List Nu), x = .int .i64 j ∧ k = j ∧ j ≤ 3 ∧ HeapAt wr W.heap.size W.heap.size v L (3 - j) ∧ Hp.hp ltN L ∧ L.Perm (awL j) ∧ Gr W wr)
  case atStart => exact ⟨3, _, _, rfl, rfl, by omega, HA1.out, Hp.hp_nil, List.Perm.refl _, G1.out⟩
  case round =>
    obtain ⟨j, v, L, rfl, hk, hj, hA, hh, hP, hg⟩ := hrel
    have hvl := hA.2.2.1.lt
    have HX := Lib.hid (And.intro hA (And.intro hh (And.intro hP (And.intro hg hvl))))
    clear hA hh hP hg hvl
    by_cases h0 : 0 < j
    · have t1 : decide ((0 : Int) < (j : Int)) = true := decide_eq_true (by omega)
      have t2 : decide (0 < j) = true := decide_eq_true h0
      obtain ⟨jm, ej⟩ : ∃ jm, jm = j - 1 := ⟨_, rfl⟩
      have c1 : (j : Int) - 1 = (jm : Int) := by omega
      have c2 : (j : Int) % 18446744073709551616 = (j : Int) := by omega
      have c3 : IntKind.u64.wrap (j : Int) = (j : Int) := by rw [IntKind.wrap_u64]; omega
      have hjm : jm < gk := by omega
      have h1j : 1 ≤ j := h0
      have hjm3 : jm ≤ 3 := by omega
      have hs : awL j ++ [⟨ent j, 3 - j⟩] = awL jm ∧ 3 - j + 1 = 3 - jm := by
        have : j = 1 ∨ j = 2 ∨ j = 3 := by omega
        rcases this with rfl | rfl | rfl <;> subst ej <;> exact ⟨rfl, rfl⟩
      have HS := Lib.hid hs
      clear hs ej
      have hj5 : jm ≤ 100000 := by omega
      obtain ⟨d1, d2⟩ := wraps_small hj5
      go_wp2_with fail
      go_at_call 22
      (with_reducible refine (HPu.out L j _ _ v _ HX.out.2.2.2.1.size HX.out.1 HX.out.2.2.1 h1j hj HX.out.2.1).mono ?_)
      rintro e w2 ⟨rfl, v2, M, m1, m2, m3, m4⟩
      have HM := Lib.hid (And.intro m1 (And.intro m2 (And.intro m3 m4)))
      clear m1 m2 m3 m4
      go_wp2_with fail
      go_roundg jm
      case measure => exact hjm
      case rel =>
        refine ⟨jm, v2, M, rfl, rfl, hjm3, ?_, HM.out.2.2.2, ?_, HM.out.2.1.gr HX.out.2.2.2.1 (Nat.le_refl _) (fun k h => (HX.out.2.2.2.2 k h).1)⟩
        · rw [← HS.out.2]; exact HM.out.1
        · rw [← HS.out.1]; exact HM.out.2.2.1.trans (List.Perm.append_right _ HX.out.2.2.1)
    · obtain rfl : j = 0 := by omega
      obtain ⟨x, L0, eL⟩ : ∃ x L0, L = x :: L0 := by
        have := HX.out.2.2.1.length_eq
        cases L with
        | nil => simp [awL] at this
        | cons x L0 => exact ⟨x, L0, rfl⟩
      have hl3 : L.length ≤ 10000 := by have := HX.out.2.2.1.length_eq; simp [awL] at this; omega
      have A1 := Lib.hid (c_hPop x L L0 eL W.heap.size W.heap.size 3 v hl3 wr HX.out.2.2.2.1.size HX.out.1 (fun y hy => aw_ok 0 y (HX.out.2.2.1.mem_iff.1 hy)) HX.out.2.1)
      clear eL hl3
      go_wp2_with fail
      go_at_call 24
      (with_reducible refine A1.out.mono ?_)
      rintro e w2 ⟨y, v2, M, rfl, m1, m2, m3, m4, m5⟩
      obtain ⟨hy, hM2⟩ := aw_min HX.out.2.2.1 m3 m4
      have gw2 : Gr W w2 := m2.gr HX.out.2.2.2.1 (Nat.le_refl _) (fun k h => (HX.out.2.2.2.2 k h).1)
      have A2 : ∀ w, Gr w2 w → Calls Try.prog 29 #[.pointer (some ⟨W.heap.size, 0, none⟩)] w fun e w' => e = .returned (.int .i64 2) ∧ Gr w w' := fun w g => by
        have := c_hLen w (heapAt_gr m1 g)
        rw [hM2] at this
        exact this
      have b1 : (y.e.id == 1) = true := by simp [hy]
      have GW2 := Lib.hid gw2
      have H2 := Lib.hid A2
      clear A2
      clear hy m1 m2 m3 m4 m5 A1 hM2 gw2
      go_wp2_with fail
      go_at_call 29
      (with_reducible refine (H2.out _ (by go_grown)).mono ?_)
      rintro e w3 ⟨rfl, g3⟩
      go_wp2_with fail
      go_ret
      exact ⟨rfl, Gr.trans (Gr.trans GW2.out (by go_grown)) g3⟩
end Go.Proofs.Ytldlpbfncgcimaa
