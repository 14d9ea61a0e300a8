/- enc: numbers laid -/
import Derived.Test.YtmcbanplpgooeaaDoorK
import Derived.Test.YtmcbanplpgooeaaDoorG
import Derived.Test.YtmcbanplpgooeaaDoorEa
import Derived.Test.YtmcbanplpgooeaaDoorW
import Derived.Test.YtmcbanplpgooeaaDoorL
import Derived.Laws.Bits64b
import Derived.ArgAppend
import Derived.OwnWalk
import Derived.Laws.OwnMore
import Derived.Deep.LoopGhost
import Derived.Maps.AppendAt
namespace Go.Proofs.YtmcbanplpgooeaaDoor
set_option linter.unusedVariables false
open Go.ChangeShapes Go.WideShapes Go.ChangeAt Go.RowKit


/-- A byte, as it lies. -/
def bv (c : UInt8) : Value := .int .u8 (c.toNat : Int)
/-- A row of bytes that the call owns. -/
def Own (w : World) (base : Nat) (v : Value) (L : List UInt8) : Prop := w.ownsRow base 5 1 v L.length (L.map bv)
theorem own_row {w : World} {base : Nat} {v : Value} {L : List UInt8} (h : Own w base v L) (k : Nat) (hk : v.ownBlock = some k) : base ≤ k := by
  rcases h.2 with ⟨rfl, -⟩ | ⟨g, cap, cur, rfl, hb, -⟩
  · cases hk
  · simp [Value.ownBlock] at hk; omega
theorem bv_one (L : List UInt8) : ∀ u ∈ L.map bv, u.oneCell' = true := by
  intro u hu
  obtain ⟨x, -, rfl⟩ := List.mem_map.1 hu
  rfl
theorem or128 (v : Nat) (hv : Wd v) : bits BinOp.or IntKind.u8 (((v % 256 : Nat) : Int)) 128 = ((v % 128 + 128 : Nat) : Int) := by
  have e := (bits_nat .u8 8 (by decide) (fun n h0 h1 => wraps_u8 n h0 h1) (v % 256) 128 (by omega) (by omega)).2
  rw [Ec.byte_or] at e
  exact e
theorem wraps_u8' (y : Nat) : IntKind.u8.wrap (y : Int) = ((y % 256 : Nat) : Int) := by
  show ((y : Int)) % 256 = _
  omega
theorem byte_eq {x : Nat} (h : x < 256) : bv (UInt8.ofNat x) = .int .u8 (x : Int) := by
  unfold bv
  rw [UInt8.toNat_ofNat']
  congr 1
  omega
theorem own_nil (W : World) (base : Nat) : Own W base (.slice none 0 0) [] := World.ownsRow_nil _ _ _ _
set_option maxHeartbeats 4000000 in
set_option maxRecDepth 100000 in
theorem c_appendVarint (L : List UInt8) (b : Value) (v base : Nat) (hv : Wd v) (W : World) (hL : L.length ≤ 100000) (hb : base ≤ W.heap.size) (hO : Own W base b L) :
    Calls Tryd.prog 176 #[b, .int .u64 v] W fun e w' => ∃ b', e = .returned b' ∧ Own w' base b' (L ++ Ec.vr v) ∧ Grown W w' b b' := by
  obtain ⟨i0, hi0, hz0, hz1, hz2⟩ := info_parts (P := Tryd.prog) (e := 5) (z := .int .u8 0) (size := 1) (bytes := 1) (by kernel_rfl)
  have HI := Lib.hid hi0
  have HZ0 := Lib.hid hz0
  have HZ1 := Lib.hid hz1
  have HZ2 := Lib.hid hz2
  have HO := Lib.hid hO
  have HV := Lib.hid hv
  clear hi0 hz0 hz1 hz2 hO hv
  go_enter Tryd.func176, Tryd.ntmps176
  go_wp2_with fail
  go_loopg [0, 1] v (fun k bb x wr => ∃ (L' : List UInt8) (y : Nat), x = .int .u64 y ∧ y ≤ k ∧ Wd y ∧ L ++ Ec.vr v = L' ++ Ec.vr y ∧ Own wr base bb L' ∧ W.heap.size ≤ wr.heap.size ∧ Grown W wr b bb)
  case atStart => exact ⟨L, v, rfl, Nat.le_refl _, HV.out, rfl, HO.out, Nat.le_refl _, Grown.refl _ _⟩
  case round =>
    obtain ⟨L', y, rfl, hyk, hy, hE, hOw, hsz, hg⟩ := hrel
    have hlen : L'.length ≤ 100010 := by
      have h := congrArg List.length hE
      rw [List.length_append, List.length_append] at h
      have := (Ec.vr_len10 HV.out).2
      omega
    have hbs : base ≤ wr.heap.size := Nat.le_trans hb hsz
    have HOw := Lib.hid hOw
    have HG := Lib.hid hg
    have HE := Lib.hid hE
    have HY := Lib.hid hy
    clear hOw hg hE hy
    obtain ⟨q, eq⟩ : ∃ q, q = y / 128 := ⟨_, rfl⟩
    have c7 : (y : Int) / 128 = (q : Int) := by omega
    have c7b : (y : Int) / 2 ^ 7 = (q : Int) := by rw [show ((2 : Int) ^ 7) = 128 from rfl]; omega
    have c7c : (y : Int) / 2 ^ min 7 64 = (q : Int) := by rw [Nat.min_eq_left (by decide)]; exact c7b
    have c7d : y / 128 = q := eq.symm
    have HQ := Lib.hid eq
    clear eq
    by_cases h128 : 128 ≤ y
    · have t1 : decide ((128 : Int) ≤ (y : Int)) = true := decide_eq_true (by omega)
      have t2 : (128 : Int) ≤ (y : Int) := by omega
      have t3 : decide (128 ≤ y) = true := decide_eq_true h128
      obtain ⟨B, eB⟩ : ∃ B : Int, B = ((y % 128 + 128 : Nat) : Int) := ⟨_, rfl⟩
      have co : bits BinOp.or IntKind.u8 ((y : Int) % 256) 128 = B := by
        have h := or128 y HY.out
        rw [← eB] at h
        rw [← h]
        congr 1
      have ce : bv (UInt8.ofNat (y % 128 + 128)) = .int .u8 B := by rw [eB]; exact byte_eq (x := y % 128 + 128) (by omega)
      have HC := Lib.hid ce
      clear ce eB
      go_wp2_with (first | (at_builtin; (refine wpList_append_own2 _ rfl (.tmp 7) (.tmp 11) 79 rfl base 5 i0 (.int .u8 0) 1 1 Tryd.underlying79 HI.out HZ0.out HZ1.out HZ2.out rfl (by decide) u0 L'.length (L'.map bv) rfl (World.ownsRow.alloc HOw.out _) ⟨wr.heap.size, 0, none⟩ 1 1 [.int .u8 B] rfl rfl (cell_one_new _ _ _) (by intro u hu; (simp at hu); subst hu; rfl) (by unfold maxLen; omega) (by omega) (by simp; omega) ?_); intro v1 w2 own2 grow2))
      have gz : Grown W w2 b v1 := (HG.out.alloc _).trans grow2
      have hz2 : wr.heap.size ≤ w2.heap.size := by
        have := grow2.1.size
        simp at this
        omega
      go_roundg q
      case measure => have := HQ.out; omega
      case rel =>
        refine ⟨L' ++ [UInt8.ofNat (y % 128 + 128)], q, rfl, Nat.le_refl _, ?_, ?_, ?_, Nat.le_trans hsz hz2, gz⟩
        · have := HY.out; have := HQ.out; unfold Wd at *; omega
        · rw [HE.out, Ec.vr_big (by omega), HQ.out, List.append_assoc]; rfl
        · unfold Own
          rw [List.length_append, List.map_append]
          rw [show [UInt8.ofNat (y % 128 + 128)].map bv = [.int .u8 B] from (by rw [← HC.out]; rfl)]
          exact own2
    · have t1 : decide ((128 : Int) ≤ (y : Int)) = false := decide_eq_false (by omega)
      have t2 : ¬ (128 : Int) ≤ (y : Int) := by omega
      have t3 : decide (128 ≤ y) = false := decide_eq_false h128
      have ce : bv (UInt8.ofNat y) = .int .u8 (y : Int) := byte_eq (by omega)
      have HC := Lib.hid ce
      clear ce
      go_wp2_with (first | (at_builtin; (refine wpList_append_own2 _ rfl (.tmp 15) (.tmp 18) 79 rfl base 5 i0 (.int .u8 0) 1 1 Tryd.underlying79 HI.out HZ0.out HZ1.out HZ2.out rfl (by decide) u0 L'.length (L'.map bv) rfl (World.ownsRow.alloc HOw.out _) ⟨wr.heap.size, 0, none⟩ 1 1 [.int .u8 (y : Int)] rfl rfl (cell_one_new _ _ _) (by intro u hu; (simp at hu); subst hu; rfl) (by unfold maxLen; omega) (by omega) (by simp; omega) ?_); intro v1 w2 own2 grow2))
      have gz : Grown W w2 b v1 := (HG.out.alloc _).trans grow2
      go_ret
      refine ⟨_, rfl, ?_, gz⟩
      unfold Own
      rw [HE.out, Ec.vr_small (by omega), List.length_append, List.map_append]
      simpa [HC.out] using own2
end Go.Proofs.YtmcbanplpgooeaaDoor
