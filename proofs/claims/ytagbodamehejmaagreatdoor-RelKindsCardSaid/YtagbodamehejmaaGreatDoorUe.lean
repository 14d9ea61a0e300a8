/- rel.allowed; rel.ringMeetsBox, whatever the boxes; rel.Match of an object that is no polygon -/
import Derived.Test.YtagbodamehejmaaGreatDoorUc
namespace Go.Proofs.YtagbodamehejmaaGreatDoor
set_option linter.unusedVariables false
set_option linter.unusedSimpArgs false
open Go.ChangeShapes Go.WideShapes Go.ChangeAt Go.RowKit

/-- None, or a Fault. -/
def NF (v : Value) : Prop := v = .nilIface ∨ ∃ B, v = .iface 52 (.pointer (some ⟨B, 0, none⟩))
theorem nf_nil : NF .nilIface := Or.inl rfl
theorem nf_f (B : Nat) : NF (.iface 52 (.pointer (some ⟨B, 0, none⟩))) := Or.inr ⟨B, rfl⟩
theorem werr_nf {op : ByteArray} {w : World} {v : Value} {id : Int} {k : Nat} (h : WErr op w v id k) : NF v ∧ (v = .nilIface ↔ k = 0) := by
  rcases h with ⟨rfl, rfl⟩ | ⟨B, u, d, rfl, h2, -⟩
  · exact ⟨Or.inl rfl, by simp⟩
  · exact ⟨Or.inr ⟨B, rfl⟩, by constructor; intro h; cases h; intro h; omega⟩
set_option maxHeartbeats 4000000 in
set_option maxRecDepth 100000 in
/-- None of a few errors is one. -/
theorem c_allowed {D n cap : Nat} {e : Nat → Value} (W : World) (hE : ErrT W) (hn : n ≤ 2) (hp : ∀ k, k < n → W.cell? ⟨D, k, none⟩ = some (e k)) (he : ∀ k, k < n → NF (e k)) (hD : D < W.heap.size) (hc : n ≤ cap) (z : Bool) (hz : z = true ↔ ∀ k, k < n → e k = .nilIface) :
    Calls Tryz.prog 11 #[.slice (some ⟨D, 0, none⟩) n cap] W fun e w' => e = .returned (.bool z) ∧ Gr W w' := by
  have hn9 : (n : Int) ≤ 2 := by omega
  have HP := Lib.hid hp
  have HE := Lib.hid he
  have HZ := Lib.hid hz
  have HT := Lib.hid hE
  clear hp he hz hE
  go_enter Tryz.func11, Tryz.ntmps11
  go_wp2_with fail
  go_loopg [8] n (fun k x wr => ∃ i : Nat, x = .int .i64 i ∧ i ≤ n ∧ k = n - i ∧ (∀ j, j < i → e j = .nilIface) ∧ Gr W wr)
  case atStart => exact ⟨0, rfl, Nat.zero_le _, by omega, fun j hj => absurd hj (by omega), by go_grown⟩
  case round =>
    obtain ⟨i, rfl, hi, hk, hN, hg⟩ := hrel
    have hgs := hg.size
    have HN := Lib.hid hN
    clear hN
    by_cases hin : i < n
    · have ti : decide ((i : Int) < (n : Int)) = true := decide_eq_true (by omega)
      have ti2 : decide (i < n) = true := decide_eq_true hin
      have ti3 : (i : Int) < (n : Int) := by omega
      have hmm : n - (i + 1) < gk := by omega
      have r0 := cell_gr hg (HP.out i hin)
      have hnf := HE.out i hin
      obtain ⟨x, hx⟩ : ∃ x, x = e i := ⟨_, rfl⟩
      have HX := Lib.hid hx
      rw [← hx] at r0 hnf
      have hDw : D < wr.heap.size := by omega
      clear hk hx
      rcases hnf with rfl | ⟨C, rfl⟩
      · go_wp2_with fail
        go_at_call 21
        refine (c_As_nil _ _).mono ?_
        rintro e w1 ⟨rfl, g1⟩
        have G1 : Gr W w1 := Gr.trans (by go_grown) g1
        clear g1
        go_wp2_with fail
        go_roundg (n - (i + 1))
        case measure => exact hmm
        case rel => exact ⟨i + 1, by go_num, by omega, rfl, fun j hj => (by rcases Nat.lt_succ_iff_lt_or_eq.1 hj with h | rfl; exact HN.out j h; exact HX.out.symm), by have gs := G1.size; go_grown⟩
      · have A := as_hit ⟨C, 0, none⟩ ⟨wr.heap.size, 0, none⟩ (.pointer none) (wr.alloc (.cells #[.pointer none] 52)) (errT_gr HT.out (by go_grown)) (by go_simp) (by go_simp)
        have H2 := Lib.hid A
        clear A
        go_wp2_with fail
        go_at_call 21
        refine H2.out.mono ?_
        rintro e w2 ⟨rfl, wx, gx, rfl⟩
        have gWx : Gr W wx := Gr.trans (by go_grown) gx
        have hzf : z = false := by
          cases hzz : z
          · rfl
          · have := (HZ.out.1 hzz) i hin
            rw [← HX.out] at this
            cases this
        subst hzf
        go_wp2_with fail
        go_ret
        exact ⟨rfl, by have gg := gWx; have gs := gg.size; go_grown⟩
    · obtain rfl : i = n := by omega
      have ti : decide ((i : Int) < (i : Int)) = false := decide_eq_false (by omega)
      have ti2 : decide (i < i) = false := decide_eq_false (by omega)
      have hzt : z = true := HZ.out.2 HN.out
      subst hzt
      go_wp2_with fail
      go_ret
      exact ⟨rfl, by go_grown⟩
set_option maxHeartbeats 4000000 in
set_option maxRecDepth 100000 in
theorem c_rmb_no {n : Nat} {X Y : Nat → Int} {v : Value} (lx ly hx hy : Int) (W : World) (h : Pts W v n X Y) (hn : n ≤ 64) (hm : arM n X Y lx ly hx hy = false) :
    Calls Tryz.prog 46 #[v, .agg #[.int .i64 lx, .int .i64 ly, .int .i64 hx, .int .i64 hy]] W fun e w' => e = .returned (.bool false) ∧ Gr W w' := by
  have A1 := fun w' (g : Gr W w') => c_AroundN w' (pts_gr h g) (by omega)
  have A2 := fun w' => c_Meets (mnN X n) (mnN Y n) (mxN X n) (mxN Y n) lx ly hx hy w'
  unfold arM at hm
  rw [hm] at A2
  generalize mnN X n = m1 at A1 A2
  generalize mnN Y n = m2 at A1 A2
  generalize mxN X n = m3 at A1 A2
  generalize mxN Y n = m4 at A1 A2
  obtain ⟨ad, cap, B, off, rfl, -⟩ := h
  have H1 := Lib.hid A1
  have H2 := Lib.hid A2
  clear A1 A2
  clear hm
  go_enter Tryz.func46, Tryz.ntmps46
  go_wp2_with fail
  go_wp2_with fail
  refine wp_region_spread (by kernel_rfl) (by kernel_rfl) ?_
  try simp only [List.append]
  repeat (first | go_big_quiet_skip | (go_big_quiet_want; go_big_quiet_op; (first | go_big_quiet_on | (apply Exists.intro; refine ⟨fun _ => ?_, ?_⟩; (· (first | (go_at_call 45; first | ((with_reducible refine ((H1.out _ (Gr.trans (by go_grown) (gr_spread _ _)))).mono ?_); rintro e w' ⟨rfl, hg⟩; exact ⟨rfl, spread_gr hg⟩)) | (go_at_call 47; first | ((with_reducible refine ((H2.out _)).mono ?_); rintro e w' ⟨rfl, hg⟩; exact ⟨rfl, spread_gr hg⟩)))); go_big_quiet_on))))
  refine wpQuiet_nil ?_
  intro w1 hhw1
  have hw1 := Hd.gr_of_spread hhw1
  have cw1_0_0 : w1.cell? ⟨W.heap.size, 0, none⟩ = some (.int .i64 lx) := cell_gr hw1 (by go_simp)
  have cw1_0_1 : w1.cell? ⟨W.heap.size, 1, none⟩ = some (.int .i64 ly) := cell_gr hw1 (by go_simp)
  have cw1_0_2 : w1.cell? ⟨W.heap.size, 2, none⟩ = some (.int .i64 hx) := cell_gr hw1 (by go_simp)
  have cw1_0_3 : w1.cell? ⟨W.heap.size, 3, none⟩ = some (.int .i64 hy) := cell_gr hw1 (by go_simp)
  have zw1_0 : W.heap.size < w1.heap.size := World.block_lt_of_cell? _ _ cw1_0_0
  have cw1_1_0 : w1.cell? ⟨W.heap.size + 1, 0, none⟩ = some (.bool false) := cell_gr hw1 (by go_simp)
  have fw1_1_0 : w1.frozen? ⟨W.heap.size + 1, 0, none⟩ = false := frozen_gr (v := .bool false) hw1 (by go_simp) (by go_simp)
  have zw1_1 : W.heap.size + 1 < w1.heap.size := World.block_lt_of_cell? _ _ cw1_1_0
  have gw1 : Gr W w1 := Gr.trans (by go_grown) hw1
  clear hw1 hhw1
  go_wp2_with fail
  go_wp2_with fail
  refine bodyPost_ret (v := .bool false) (by simp [results, Tryz.results46, go_sem, *]) rfl ⟨rfl, by go_grown⟩
end Go.Proofs.YtagbodamehejmaaGreatDoor
