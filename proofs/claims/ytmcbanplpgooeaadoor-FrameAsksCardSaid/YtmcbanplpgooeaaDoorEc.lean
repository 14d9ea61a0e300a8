/- enc: the document's Varint, and numbers with a sign -/
import Derived.Test.YtmcbanplpgooeaaDoorEb
namespace Go.Proofs.YtmcbanplpgooeaaDoor
set_option linter.unusedVariables false
open Go.ChangeShapes Go.WideShapes Go.ChangeAt Go.RowKit

theorem and127 (v : Nat) (hv : Wd v) : bits BinOp.and IntKind.u64 (v : Int) 127 = ((v % 128 : Nat) : Int) := by
  have e := (bits_nat .u64 64 (by decide) (fun n h0 h1 => by rw [IntKind.wrap_u64]; omega) v 127 (by unfold Wd at hv; omega) (by omega)).1
  rw [show v &&& 127 = v % 128 from Nat.and_two_pow_sub_one_eq_mod v 7] at e
  exact e
theorem or128w (v : Nat) : bits BinOp.or IntKind.u64 ((v % 128 : Nat) : Int) 128 = ((v % 128 + 128 : Nat) : Int) := by
  have e := (bits_nat .u64 64 (by decide) (fun n h0 h1 => by rw [IntKind.wrap_u64]; omega) (v % 128) 128 (by omega) (by omega)).2
  rw [Ec.low_or] at e
  exact e
set_option maxHeartbeats 4000000 in
set_option maxRecDepth 100000 in
theorem c_rVarint (v : Nat) (hv : Wd v) (W : World) :
    Calls Tryd.prog 128 #[.int .u64 v] W fun e w' => ∃ b', e = .returned b' ∧ Own w' W.heap.size b' (Ec.vr v) ∧ Gr W w' := by
  obtain ⟨i0, hi0, hz0, hz1, hz2⟩ := info_parts (P := Tryd.prog) (e := 5) (z := .int .u8 0) (size := 1) (bytes := 1) (by kernel_rfl)
  have HI := Lib.hid hi0
  have HZ0 := Lib.hid hz0
  have HZ1 := Lib.hid hz1
  have HZ2 := Lib.hid hz2
  have HV := Lib.hid hv
  clear hi0 hz0 hz1 hz2 hv
  go_enter Tryd.func128, Tryd.ntmps128
  go_wp2_with fail
  go_loopg [0, 3] v (fun k x bb wr => ∃ (L' : List UInt8) (y : Nat), x = .int .u64 y ∧ y ≤ k ∧ Wd y ∧ Ec.vr v = L' ++ Ec.vr y ∧ Own wr W.heap.size bb L' ∧ Gr W wr)
  case atStart => exact ⟨[], v, rfl, Nat.le_refl _, HV.out, rfl, own_nil _ _, by go_grown⟩
  case round =>
    obtain ⟨L', y, rfl, hyk, hy, hE, hOw, gwr⟩ := hrel
    have hsz := gwr.size
    have hbs := hsz
    have hlen : L'.length ≤ 100010 := by
      have h := congrArg List.length hE
      rw [List.length_append] at h
      have := (Ec.vr_len10 HV.out).2
      omega
    have HOw := Lib.hid hOw
    have HE := Lib.hid hE
    have HY := Lib.hid hy
    clear hOw hE hy
    obtain ⟨q, eq⟩ : ∃ q, q = y / 128 := ⟨_, rfl⟩
    have c7 : (y : Int) / 128 = (q : Int) := by omega
    have c7b : (y : Int) / 2 ^ 7 = (q : Int) := by rw [show ((2 : Int) ^ 7) = 128 from rfl]; omega
    have c7c : (y : Int) / 2 ^ min 7 64 = (q : Int) := by rw [Nat.min_eq_left (by decide)]; exact c7b
    have c7d : y / 128 = q := eq.symm
    have HQ := Lib.hid eq
    clear eq
    by_cases h128 : 128 ≤ y
    · have t1 : decide ((128 : Int) ≤ (y : Int)) = true := decide_eq_true (by omega)
      have t2 : (128 : Int) ≤ (y : Int) := by omega
      have t3 : decide (128 ≤ y) = true := decide_eq_true h128
      obtain ⟨B, eB⟩ : ∃ B : Int, B = ((y % 128 + 128 : Nat) : Int) := ⟨_, rfl⟩
      obtain ⟨m, eM⟩ : ∃ m : Int, m = ((y % 128 : Nat) : Int) := ⟨_, rfl⟩
      have ca : bits BinOp.and IntKind.u64 (y : Int) 127 = m := by rw [eM]; exact and127 y HY.out
      have co : bits BinOp.or IntKind.u64 m 128 = B := by rw [eM, eB]; exact or128w y
      have cm : B % 256 = B := by omega
      have cm2 : IntKind.u8.wrap B = B := by show B % 256 = B; omega
      have ce : bv (UInt8.ofNat (y % 128 + 128)) = .int .u8 B := by rw [eB]; exact byte_eq (x := y % 128 + 128) (by omega)
      have HC := Lib.hid ce
      clear ce eB eM
      go_wp2_with (first | (at_builtin; (refine wpList_append_own _ rfl (.tmp 6) (.tmp 11) 79 rfl W.heap.size 5 i0 (.int .u8 0) 1 1 Tryd.underlying79 HI.out HZ0.out HZ1.out HZ2.out rfl (by decide) u3 L'.length (L'.map bv) rfl (World.ownsRow.alloc HOw.out _) ⟨wr.heap.size, 0, none⟩ 1 1 [.int .u8 B] rfl rfl (cell_one_new _ _ _) (by intro u hu; (simp at hu); subst hu; rfl) (by unfold maxLen; omega) (by omega) (by simp; omega) ?_); intro v1 w2 own2 grow2 nil2))
      have gz : Gr W w2 := by
        refine gr_of_grown (show Gr W (wr.alloc _) by go_grown) grow2 (fun k h => ?_)
        exact own_row HOw.out k h
      have hz2 : wr.heap.size ≤ w2.heap.size := by
        have := grow2.size
        simp at this
        omega
      go_roundg q
      case measure => have := HQ.out; omega
      case rel =>
        refine ⟨L' ++ [UInt8.ofNat (y % 128 + 128)], q, rfl, Nat.le_refl _, ?_, ?_, ?_, gz⟩
        · have := HY.out; have := HQ.out; unfold Wd at *; omega
        · rw [HE.out, Ec.vr_big (by omega), HQ.out, List.append_assoc]; rfl
        · unfold Own
          rw [List.length_append, List.map_append]
          rw [show [UInt8.ofNat (y % 128 + 128)].map bv = [.int .u8 B] from (by rw [← HC.out]; rfl)]
          exact own2
    · have t1 : decide ((128 : Int) ≤ (y : Int)) = false := decide_eq_false (by omega)
      have t2 : ¬ (128 : Int) ≤ (y : Int) := by omega
      have t3 : decide (128 ≤ y) = false := decide_eq_false h128
      have ce : bv (UInt8.ofNat y) = .int .u8 (y : Int) := byte_eq (by omega)
      have HC := Lib.hid ce
      clear ce
      go_wp2_with (first | (at_builtin; (refine wpList_append_own _ rfl (.tmp 15) (.tmp 18) 79 rfl W.heap.size 5 i0 (.int .u8 0) 1 1 Tryd.underlying79 HI.out HZ0.out HZ1.out HZ2.out rfl (by decide) u3 L'.length (L'.map bv) rfl (World.ownsRow.alloc HOw.out _) ⟨wr.heap.size, 0, none⟩ 1 1 [.int .u8 (y : Int)] rfl rfl (cell_one_new _ _ _) (by intro u hu; (simp at hu); subst hu; rfl) (by unfold maxLen; omega) (by omega) (by simp; omega) ?_); intro v1 w2 own2 grow2 nil2))
      have gz : Gr W w2 := by
        refine gr_of_grown (show Gr W (wr.alloc _) by go_grown) grow2 (fun k h => ?_)
        exact own_row HOw.out k h
      go_ret
      refine ⟨_, rfl, ?_, gz⟩
      unfold Own
      rw [HE.out, Ec.vr_small (by omega), List.length_append, List.map_append]
      simpa [HC.out] using own2
end Go.Proofs.YtmcbanplpgooeaaDoor
