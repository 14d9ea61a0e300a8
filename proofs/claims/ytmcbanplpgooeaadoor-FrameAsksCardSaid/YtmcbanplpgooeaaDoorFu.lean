/- FrameTorn: steps -/
import Derived.Test.YtmcbanplpgooeaaDoorFs
import Derived.Test.YtmcbanplpgooeaaDoorFt
import Derived.Test.YtmcbanplpgooeaaDoorFo
namespace Go.Proofs.YtmcbanplpgooeaaDoor
set_option linter.unusedVariables false
open Go.ChangeShapes Go.WideShapes Go.ChangeAt Go.RowKit

theorem rws_own {w : World} {base : Nat} {v : Value} {Ls : List (List UInt8)} (h : OwnRws w base v Ls) (hl : Ls.length ≤ 1000000000) : Rws w v Ls := by
  obtain ⟨vs, h1, h2⟩ := h
  have hv : ∀ j (hj : j < Ls.length), vs[j]? = some (vs.getD j .nilIface) := fun j hj => by
    have := h1.1
    rw [List.getD_eq_getElem?_getD, List.getElem?_eq_getElem (by omega)]; rfl
  rcases id h1.2 with ⟨rfl, h0⟩ | ⟨g, cap, cur, rfl, hb, hg, hn, hc, hs, ht⟩
  · exact ⟨none, 0, 0, 0, fun j => vs.getD j .nilIface, by rw [h0], by omega, by omega, fun h => by omega, fun j hj => by omega⟩
  · refine ⟨some ⟨g, 0, none⟩, cap, g, 0, fun j => vs.getD j .nilIface, rfl, hn, by unfold maxLen at hc; omega, fun _ => rfl, fun j hj => ?_⟩
    obtain ⟨x, e, o, -⟩ := h2 j hj
    have e2 := hv j hj
    rw [e] at e2
    show w.cell? _ = some (vs.getD j .nilIface) ∧ Row w (vs.getD j .nilIface) _
    rw [← Option.some.inj e2]
    refine ⟨?_, row_own o⟩
    have := World.ownsRow.cellAt h1 j (by rw [Nat.mul_one]; exact hj)
    rw [Nat.zero_add, this]
    exact e
theorem rows_elem : Tryd.prog.underlying 108 = some (.slice (Tryd.prog.elem 108)) := by kernel_rfl
theorem rws_to {w : World} {v : Value} {Ls : List (List UInt8)} (h : Nat) (hl : h ≤ Ls.length) (hR : Rws w v Ls) :
    ∃ v', (∀ w0, (Instr.slice 108 v none (some (.int .i64 h)) none).run Tryd.prog w0 = .ok v' w0) ∧ Rws w v' (Ls.take h) := by
  obtain ⟨ad, cap, B, off, V, rfl, h1, h2, h3, h4⟩ := hR
  have hlen : (Ls.take h).length = h := by simp; omega
  refine ⟨sliced ad 0 h cap 1, fun w0 => ?_, ?_⟩
  · have hs : (sizeOf (Tryd.prog.elem 108)).run Tryd.prog w0 = .ok 1 w0 := by kernel_rfl
    rw [run_slice_h w0 108 ad Ls.length cap rows_elem .i64 h (by omega) (by omega), hs]
    rfl
  · refine ⟨(if cap = 0 then ad else ad.map (·.add (0 * 1))), cap - 0, B, off, V, by rw [hlen]; rfl, by rw [hlen]; omega, by omega, fun hp => ?_, fun j hj => ?_⟩
    · rw [hlen] at hp
      rw [h3 (by omega)]
      split
      · rfl
      · rfl
    · rw [hlen] at hj
      obtain ⟨k1, k2⟩ := h4 j (by omega)
      refine ⟨k1, ?_⟩
      rw [List.getElem_take]
      exact k2
/-- Where the frames end. -/
def eL (Ls : List (List UInt8)) (j : Nat) : Nat := (frs (Ls.take j)).length
def endsV (Ls : List (List UInt8)) (m : Nat) : List Value := (List.range m).map fun j => .int .i64 (eL Ls j : Nat)
theorem endsV_len (Ls : List (List UInt8)) (m : Nat) : (endsV Ls m).length = m := by unfold endsV; simp
theorem endsV_at (Ls : List (List UInt8)) (m j : Nat) (h : j < m) : (endsV Ls m)[j]? = some (.int .i64 (eL Ls j : Nat)) := by
  unfold endsV
  rw [List.getElem?_map, List.getElem?_range h]; rfl
theorem endsV_succ (Ls : List (List UInt8)) (m : Nat) : endsV Ls (m + 1) = endsV Ls m ++ [.int .i64 (eL Ls m : Nat)] := by
  unfold endsV
  rw [List.range_succ, List.map_append]; rfl
theorem take_succ' {Ls : List (List UInt8)} {i : Nat} (h : i < Ls.length) : frs (Ls.take (i + 1)) = frs (Ls.take i) ++ fr Ls[i] := by
  rw [List.take_succ_eq_append_getElem h, frs_append]
  unfold frs; simp
theorem eL_succ {Ls : List (List UInt8)} {i : Nat} (h : i < Ls.length) : eL Ls (i + 1) = eL Ls i + (Ls[i].length + 8) := by
  unfold eL
  rw [take_succ' h, List.length_append, fr_len]
theorem eL_zero (Ls : List (List UInt8)) : eL Ls 0 = 0 := by unfold eL; simp [frs]
theorem eL_sum (Ls : List (List UInt8)) : ∀ k, k ≤ Ls.length → eL Ls k + Ls.length = sumL Ls k + 8 * k := by
  intro k
  induction k with
  | zero => intro _; rw [eL_zero]; simp [sumL]
  | succ k ih =>
    intro h
    have e1 := eL_succ (Ls := Ls) (i := k) (by omega)
    have e2 : sumL Ls (k + 1) = sumL Ls k + Ls[k].length := by
      simp only [sumL]
      rw [List.getD_eq_getElem?_getD, List.getElem?_eq_getElem (by omega)]; rfl
    have := ih (by omega)
    omega
theorem eL_mono (Ls : List (List UInt8)) {j k : Nat} (h : j ≤ k) (hk : k ≤ Ls.length) : eL Ls j ≤ eL Ls k := by
  induction k with
  | zero => obtain rfl : j = 0 := by omega
            exact Nat.le_refl _
  | succ k ih =>
    rcases Nat.lt_or_ge j (k + 1) with h1 | h1
    · have := ih (by omega) (by omega)
      have := eL_succ (Ls := Ls) (i := k) (by omega)
      omega
    · obtain rfl : j = k + 1 := by omega
      exact Nat.le_refl _
/-- All rows are short, if they are so together. -/
theorem all_short {Ls : List (List UInt8)} (h1 : Ls.length ≤ 20) (h2 : sumL Ls Ls.length ≤ 3000) : eL Ls Ls.length ≤ 3160 ∧ ∀ i (h : i < Ls.length), Ls[i].length ≤ 3160 := by
  have e := eL_sum Ls Ls.length (Nat.le_refl _)
  have k : eL Ls Ls.length ≤ 3160 := by omega
  refine ⟨k, fun i h => ?_⟩
  have := eL_succ h
  have := eL_mono Ls (j := i + 1) (k := Ls.length) (by omega) (Nat.le_refl _)
  omega
/-- A row of frames cut off. -/
theorem cut_sc {Ls : List (List UInt8)} (hs : ∀ i (h : i < Ls.length), Ls[i].length ≤ 3160) {m c : Nat} (hm : m ≤ Ls.length) (h1 : eL Ls m ≤ c) (h2 : c ≤ eL Ls Ls.length) (h3 : m = Ls.length ∨ c < eL Ls (m + 1)) :
    scRows ((frs Ls).take c) = Ls.take m ∧ scEnd ((frs Ls).take c) = eL Ls m ∧ scCode ((frs Ls).take c) = (if c - eL Ls m = 0 then 0 else 15) := by
  have hle : ∀ L ∈ Ls.take m, L.length ≤ 65536 := fun L hL => by
    obtain ⟨i, hi, rfl⟩ := List.getElem_of_mem hL
    rw [List.length_take] at hi
    rw [List.getElem_take]
    have := hs i (by omega); omega
  have hsplit : (frs Ls).take c = frs (Ls.take m) ++ ((frs (Ls.drop m)).take (c - eL Ls m)) := by
    have e : frs Ls = frs (Ls.take m) ++ frs (Ls.drop m) := by rw [← frs_append, List.take_append_drop]
    rw [e, List.take_append, List.take_of_length_le (show (frs (Ls.take m)).length ≤ c from h1)]
    rfl
  have hX : ∃ L k, (frs (Ls.drop m)).take (c - eL Ls m) = (fr L).take k ∧ k < L.length + 8 ∧ L.length ≤ 65536 ∧ k = c - eL Ls m := by
    by_cases hmn : m = Ls.length
    · subst hmn
      have h0 : c - eL Ls Ls.length = 0 := by omega
      exact ⟨[], 0, by rw [h0]; rfl, by simp, by simp, h0.symm⟩
    · have hlt : m < Ls.length := by omega
      have h4 : c < eL Ls (m + 1) := by rcases h3 with h | h; exact absurd h hmn; exact h
      have e1 := eL_succ hlt
      refine ⟨Ls[m], c - eL Ls m, ?_, by omega, by have := hs m hlt; omega, rfl⟩
      rw [List.drop_eq_getElem_cons hlt, frs_cons, List.take_append_of_le_length (by rw [fr_len]; omega)]
  obtain ⟨L, k, eX, hk, hl, ek⟩ := hX
  have := sc_cut (Ls.take m) ((frs (Ls.drop m)).take (c - eL Ls m)) ⟨L, k, eX, hk, hl⟩ hle
  rw [← hsplit] at this
  refine ⟨this.1, this.2.1, ?_⟩
  rw [this.2.2]
  have hlx : ((frs (Ls.drop m)).take (c - eL Ls m)).length = c - eL Ls m := by
    rw [eX, List.length_take, fr_len]; omega
  rw [hlx]
end Go.Proofs.YtmcbanplpgooeaaDoor
