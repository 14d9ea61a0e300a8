import Derived.Test.YtpomllpplpalkaaGreatDoorWm
import Derived.Test.YtpomllpplpalkaaGreatDoorOb
import Derived.Test.YtpomllpplpalkaaGreatDoorRo
import Derived.Deep.Slices
import Derived.ChangeArms
/- model: a row of changes that comes in; which are looked at -/
namespace Go.Proofs.YtpomllpplpalkaaGreatDoor
set_option linter.unusedVariables false
set_option linter.unusedSimpArgs false
open Go.ChangeShapes Go.WideShapes Go.ChangeAt Go.RowKit Go.Maps

structure MChg where
  kd : Int
  id : Int
  k : Int
  v : Value
  n : Nat
  X : Nat → Int
  Y : Nat → Int
theorem addr_addm (b off n : Nat) : (⟨b, off, none⟩ : Addr).add n = ⟨b, off + n, none⟩ := by unfold Addr.add; split <;> simp_all
def MChgAt (w : World) (B o : Nat) (c : MChg) : Prop := w.cell? ⟨B, o, none⟩ = some (.int .i64 c.kd) ∧ w.cell? ⟨B, o + 1, none⟩ = some (.int .i64 c.id) ∧ w.cell? ⟨B, o + 2, none⟩ = some (.int .i64 c.k) ∧ w.cell? ⟨B, o + 3, none⟩ = some c.v ∧ Pts w c.v c.n c.X c.Y ∧ i64R c.id
def MChs (w : World) (v : Value) (n : Nat) (D : Nat → MChg) : Prop :=
  ∃ (ad : Option Addr) (cap B off : Nat), v = .slice ad n cap ∧ n ≤ cap ∧ cap ≤ 9223372036854775807 ∧ (0 < n → ad = some ⟨B, off, none⟩) ∧ ∀ k, k < n → MChgAt w B (off + k * 4) (D k)
section
variable {H : Type} {enc : TypeId × Value → H} {P : Program} {w : World} {base : Nat} {sp : Nat → Bool} {held : Bool} {r : Reach} {b0 : Nat}
theorem cells4m {a : Addr} {x0 x1 x2 x3 : Value} (h : w.cells? base a 4 = some [x0, x1, x2, x3]) : w.cell? (a.add 0) = some x0 ∧ w.cell? (a.add 1) = some x1 ∧ w.cell? (a.add 2) = some x2 ∧ w.cell? (a.add 3) = some x3 := by
  unfold World.cells? at h
  split at h
  · rw [show List.range 4 = [0, 1, 2, 3] from rfl] at h
    simp only [List.mapM_cons, List.mapM_nil] at h
    obtain ⟨y0, h0, h⟩ := Option.bind_eq_some_iff.1 h
    obtain ⟨t0, h, e0⟩ := Option.bind_eq_some_iff.1 h
    obtain ⟨y1, h1, h⟩ := Option.bind_eq_some_iff.1 h
    obtain ⟨t1, h, e1⟩ := Option.bind_eq_some_iff.1 h
    obtain ⟨y2, h2, h⟩ := Option.bind_eq_some_iff.1 h
    obtain ⟨t2, h, e2⟩ := Option.bind_eq_some_iff.1 h
    obtain ⟨y3, h3, h⟩ := Option.bind_eq_some_iff.1 h
    obtain ⟨t3, h, e3⟩ := Option.bind_eq_some_iff.1 h
    cases h
    cases e3
    cases e2
    cases e1
    cases e0
    exact ⟨h0, h1, h2, h3⟩
  · cases h
def MChg.none : MChg := ⟨0, 0, 0, .nilIface, 0, fun _ => 0, fun _ => 0⟩
end


end Go.Proofs.YtpomllpplpalkaaGreatDoor
/- model: several maps beside each other; the states of a row of changes -/
namespace Go.Proofs.YtpomllpplpalkaaGreatDoor
set_option linter.unusedVariables false
set_option linter.unusedSimpArgs false
open Go.ChangeShapes Go.WideShapes Go.ChangeAt Go.RowKit Go.Maps

structure Fam (W w : World) (N k : Nat) (Q : Nat → Nat) (M : Nat → Option Nat) (σ : Nat → Int → Option MO) : Prop where
  md : ∀ j, j < k → MdAt w (Q j) (M j) (σ j) N
  hq : ∀ j, j < k → W.heap.size ≤ Q j
  hm : ∀ j, j < k → ∀ m, M j = some m → W.heap.size ≤ m
  sep : ∀ i j, i < k → j < k → i ≠ j → Q i ≠ Q j ∧ ∀ m, M i = some m → M j ≠ some m
  gr : Gr W w
section
variable {W w w' : World} {N k : Nat} {Q : Nat → Nat} {M : Nat → Option Nat} {σ : Nat → Int → Option MO}
theorem mdAt_ltQ {a : World} {q n : Nat} {m : Option Nat} {τ : Int → Option MO} (h : MdAt a q m τ n) : q < a.heap.size := by
  have := Hm.cell_of_heap h.1 0
  exact World.block_lt_of_cell? _ _ this
theorem mdAt_ltM {a : World} {q n : Nat} {m : Option Nat} {τ : Int → Option MO} (h : MdAt a q m τ n) {x : Nat} (e : m = some x) : x < a.heap.size := by
  obtain ⟨D, hD, -⟩ := h.2.2 x e
  exact hD.lt
theorem Fam.le {N' : Nat} (F : Fam W w N k Q M σ) (h : N ≤ N') : Fam W w N' k Q M σ := ⟨fun j hj => mdAt_le (F.md j hj) h, F.hq, F.hm, F.sep, F.gr⟩
theorem Fam.to (F : Fam W w N k Q M σ) (g : Gr w w') : Fam W w' N k Q M σ := ⟨fun j hj => mdAt_gr (F.md j hj) g, F.hq, F.hm, F.sep, Gr.trans F.gr g⟩
theorem Fam.as {Q' : Nat → Nat} {τ : Nat → Int → Option MO} (F : Fam W w N k Q M σ) (hQ : ∀ j, j < k → Q j = Q' j) (hσ : ∀ j, j < k → σ j = τ j) : Fam W w N k Q' M τ :=
  ⟨fun j hj => by rw [← hQ j hj, ← hσ j hj]; exact F.md j hj, fun j hj => by rw [← hQ j hj]; exact F.hq j hj, F.hm, fun i j hi hj e => by rw [← hQ i hi, ← hQ j hj]; exact F.sep i j hi hj e, F.gr⟩
theorem Fam.none (g : Gr W w) : Fam W w N 0 Q M σ := ⟨fun j hj => absurd hj (by omega), fun j hj => absurd hj (by omega), fun j hj => absurd hj (by omega), fun i j hi => absurd hi (by omega), g⟩
theorem Fam.more {C : Nat} {MC : Option Nat} {τ : Int → Option MO} (F : Fam W w N k Q M σ) (h : MdAt w' C MC τ N) (hC : w.heap.size ≤ C) (hMC : ∀ m, MC = some m → w.heap.size ≤ m) (g : Gr w w') :
    Fam W w' N (k + 1) (fun j => if j = k then C else Q j) (fun j => if j = k then MC else M j) (fun j => if j = k then τ else σ j) := by
  have s := F.gr.size
  refine ⟨fun j hj => ?_, fun j hj => ?_, fun j hj m => ?_, fun i j hi hj e => ?_, Gr.trans F.gr g⟩
  · by_cases e : j = k
    · simp only [e, if_true]; exact h
    · simp only [e, if_false]; exact mdAt_gr (F.md j (by omega)) g
  · by_cases e : j = k
    · simp only [e, if_true]; omega
    · simp only [e, if_false]; exact F.hq j (by omega)
  · by_cases e : j = k
    · simp only [e, if_true]; intro hm; have := hMC m hm; omega
    · simp only [e, if_false]; exact F.hm j (by omega) m
  · by_cases ei : i = k
    · have ej : j ≠ k := by omega
      have l1 := mdAt_ltQ (F.md j (by omega))
      simp only [ei, ej, if_true, if_false]
      refine ⟨by omega, fun m hm e2 => ?_⟩
      have := mdAt_ltM (F.md j (by omega)) e2
      have := hMC m hm
      omega
    · by_cases ej : j = k
      · have l1 := mdAt_ltQ (F.md i (by omega))
        simp only [ei, ej, if_true, if_false]
        refine ⟨by omega, fun m hm e2 => ?_⟩
        have := mdAt_ltM (F.md i (by omega)) hm
        have := hMC m e2
        omega
      · simp only [ei, ej, if_false]
        exact F.sep i j (by omega) (by omega) e
theorem Fam.done {j c : Nat} {id : Int} {σ' : Int → Option MO} {e : Ending} (F : Fam W w N k Q M σ) (hj : j < k) (h : MdTo w (Q j) (M j) N id c σ' e w') :
    ∃ op v M', e = .returned v ∧ WErr op w' v id c ∧ (op = modelS ∨ op = changeS) ∧ Fam W w' (N + 1) k Q M' (fun i => if i = j then σ' else σ i) := by
  obtain ⟨op, v, M', rfl, hw, hop, hm, hs, K⟩ := h
  have s := F.gr.size
  have fresh : ∀ i m, i < k → i ≠ j → M' = some m → M i ≠ some m := fun i m hi e hm' e2 => by
    rcases hs m hm' with h | h
    · exact (F.sep i j hi hj e).2 m e2 h
    · have := mdAt_ltM (F.md i hi) e2
      omega
  refine ⟨op, v, fun i => if i = j then M' else M i, rfl, hw, hop, ⟨fun i hi => ?_, F.hq, fun i hi m => ?_, fun a b ha hb e => ⟨(F.sep a b ha hb e).1, fun m => ?_⟩, Kx.gr K F.gr (fun b hb => ?_)⟩⟩
  · by_cases e : i = j
    · simp only [e, if_true]; exact hm
    · simp only [e, if_false]
      exact mdAt_le (mdAt_oth (F.md i hi) (F.md j hj) K (F.sep i j hi hj e).1 (F.sep i j hi hj e).2) (Nat.le_succ _)
  · by_cases e : i = j
    · simp only [e, if_true]
      intro hm'
      rcases hs m hm' with h | h
      · exact F.hm j hj m h
      · omega
    · simp only [e, if_false]; exact F.hm i hi m
  · by_cases ea : a = j
    · have eb : b ≠ j := by omega
      simp only [ea, eb, if_true, if_false]
      exact fun hm' => fresh b m hb eb hm'
    · by_cases eb : b = j
      · simp only [ea, eb, if_true, if_false]
        exact fun hm' e2 => fresh a m ha ea e2 hm'
      · simp only [ea, eb, if_false]
        exact (F.sep a b ha hb e).2 m
  · rcases hb with hb | hb
    · rw [hb]; exact F.hq j hj
    · exact F.hm j hj b hb
end
def stM (D : Nat → MChg) : Nat → Int → Option MO
  | 0 => fun _ => none
  | i + 1 => apS (stM D i) (D i).kd (D i).id (D i).k (D i).n (D i).X (D i).Y
end Go.Proofs.YtpomllpplpalkaaGreatDoor
