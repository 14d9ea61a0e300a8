/- alike: Round told exactly; Block: so many bytes that hang on a number -/
import Derived.Test.YtapfecmdfoobcaaGreatDoorRo
import Derived.Laws.OwnMore
namespace Go.Proofs.YtapfecmdfoobcaaGreatDoor
set_option linter.unusedVariables false
set_option linter.unusedSimpArgs false
open Go.ChangeShapes Go.WideShapes Go.ChangeAt Go.RowKit

theorem w64 (z : Int) : wrap64 z = IntKind.i64.wrap z := by rw [IntKind.wrap_i64]; unfold wrap64; omega
theorem wk_rng (z : Int) : -9223372036854775808 ≤ IntKind.i64.wrap z ∧ IntKind.i64.wrap z ≤ 9223372036854775807 := by rw [IntKind.wrap_i64]; omega
theorem tmod_emod {z r : Int} {m : Nat} (er : r = Int.tmod z (m : Int)) : z % (m : Int) = r % (m : Int) := by
  have h := Int.mul_tdiv_add_tmod z (m : Int)
  rw [← er] at h
  rw [← h, Int.mul_add_emod_self_left]
set_option maxRecDepth 100000 in
theorem c_RoundE (z : Int) (h1 : -9223372036854775808 ≤ z) (h2 : z ≤ 9223372036854775807) (m : Nat) (hm : 0 < m) (hm2 : m ≤ 1000000) (W : World) :
    Calls Tryz.prog 8 #[.int .i64 z, .int .i64 m] W fun e w' => e = .returned (.int .i64 (z % (m : Int))) ∧ Gr W w' := by
  obtain ⟨r, er⟩ : ∃ r, r = Int.tmod z (m : Int) := ⟨_, rfl⟩
  have hr : r.natAbs < m := by
    rw [er, Int.natAbs_tmod, Int.natAbs_natCast]
    exact Nat.mod_lt _ hm
  have hz := tmod_emod er
  have e1 : Int.tmod z (m : Int) = r := er.symm
  have e2 : IntKind.i64.wrap (Int.tmod z (m : Int)) = r := by rw [e1, IntKind.wrap_i64]; omega
  have e3 : IntKind.i64.wrap r = r := by rw [IntKind.wrap_i64]; omega
  have hm0 : (m : Int) ≠ 0 := by omega
  have hm1 : ((m : Int) == 0) = false := by simp; omega
  have r1 : -(1000000 : Int) ≤ r := by omega
  have r2 : r ≤ 1000000 := by omega
  have m2 : (m : Int) ≤ 1000000 := by omega
  by_cases h : r < 0
  · have t1 : decide (r < 0) = true := decide_eq_true h
    have hk : z % (m : Int) = r + m := by
      rw [hz, ← Int.add_emod_right]
      exact Int.emod_eq_of_lt (by omega) (by omega)
    have HK := Lib.hid hk
    clear er hr hk hz
    go_enter Tryz.func8, Tryz.ntmps8
    go_wp2_with fail
    go_ret
    exact ⟨by rw [HK.out]; rfl, Below.refl _ _⟩
  · have t1 : decide (r < 0) = false := decide_eq_false h
    have hk : z % (m : Int) = r := by rw [hz]; exact Int.emod_eq_of_lt (by omega) (by omega)
    have HK := Lib.hid hk
    clear er hr hk hz
    go_enter Tryz.func8, Tryz.ntmps8
    go_wp2_with fail
    go_ret
    exact ⟨by rw [HK.out]; rfl, Below.refl _ _⟩
/-- A row of zeros of the call's own is made. -/
theorem wpList_make_bytesO (w : World) {ops : Array Oper} {rest : List Oper} {o : Oper} {a : Act} {Q : Exit → Act → World → Prop}
    (hg : o.guard = none) (l c : Operand) (hop : o.op = Op.makeSlice 69 l c) (i : TypeInfo) (h2 : Tryz.prog.info? 5 = some i) (h3 : i.zero = some (.int .u8 0)) (h4 : i.size = 1) (h5 : i.bytes = 1)
    (n : Nat) (hl : a.eval l = .int .i64 (n : Int)) (hc : a.eval c = .int .i64 (n : Int)) (hn : n ≤ 1000000)
    (hK : ∀ w', Own w' w.heap.size (.slice (some ⟨w.heap.size, 0, none⟩) n n) (List.replicate n 0) → w'.heap.size = w.heap.size + 1 → Gr w w' → wpList Tryz.prog ops Q rest (a.put o.dst (.slice (some ⟨w.heap.size, 0, none⟩) n n)) w') :
    wpList Tryz.prog ops Q (o :: rest) a w := by
  have hrun := run_make (P := Tryz.prog) w 69 5 i (.int .u8 0) Tryz.underlying69 h2 h3 .i64 .i64 (n : Int) (n : Int) (by omega) (Int.le_refl _) (by rw [h5]; omega) (by omega)
  rw [Int.toNat_natCast, h4, Nat.mul_one] at hrun
  refine wpList_plain hg fun K hK' => ?_
  unfold Oper.wp
  simp [execOp, hop, hl, hc, hrun, Result.andThen]
  refine hK' _ _ (hK _ ?_ (by simp) ((Below.refl _ _).alloc (Nat.le_refl _) _))
  have e : (madeCells #[.int .u8 0] n).toList = (List.replicate n (0 : UInt8)).map bv := by rw [toList_madeCells_one, List.map_replicate]; rfl
  unfold Own
  rw [← e, List.length_replicate]
  exact World.ownsRow_lit (base := w.heap.size) (e := 5) (size := 1) w _ n (Nat.le_refl _) (by unfold maxLen; omega) (by rw [size_madeCells, Nat.mul_one])
/-- The bytes of Block. -/
def bkZ (k : Int) (i : Nat) : Int := IntKind.i64.wrap (IntKind.i64.wrap ((i : Int) * i + IntKind.i64.wrap (k * 7)) + 1)
def bkB (k : Int) (i : Nat) : UInt8 := UInt8.ofNat ((bkZ k i % 251).toNat)
def blk (k : Int) (n : Nat) : List UInt8 := (List.range n).map (bkB k)
theorem blk_len (k : Int) (n : Nat) : (blk k n).length = n := by simp [blk]
theorem own_set {w : World} {base g n cap : Nat} {M : List UInt8} (h : Own w base (.slice (some ⟨g, 0, none⟩) n cap) M) (j : Nat) (c : UInt8) : Own (w.setCell ⟨g, j, none⟩ (bv c)) base (.slice (some ⟨g, 0, none⟩) n cap) (M.set j c) := by
  have hn : n = M.length := by rcases h.2 with ⟨e, _⟩ | ⟨_, _, _, e, _⟩ <;> simp_all
  subst hn
  have := (World.ownsRow.stored h j (bv c)).1
  unfold Own
  rw [List.length_set, List.map_set]
  exact this
theorem take_set_succ {M : List UInt8} {i : Nat} (c : UInt8) (h : i < M.length) : (M.set i c).take (i + 1) = M.take i ++ [c] := by
  rw [List.take_set, List.take_succ_eq_append_getElem h, List.set_append_right _ _ (by rw [List.length_take]; omega)]
  have e : i - (M.take i).length = 0 := by rw [List.length_take]; omega
  rw [e]
  rfl
theorem blk_succ (k : Int) (i : Nat) : blk k (i + 1) = blk k i ++ [bkB k i] := by unfold blk; rw [List.range_succ, List.map_append]; rfl
theorem c_Round251 (z : Int) (h : -9223372036854775808 ≤ z ∧ z ≤ 9223372036854775807) (w : World) : Calls Tryz.prog 8 #[.int .i64 z, .int .i64 251] w fun e w' => e = .returned (.int .i64 (z % 251)) ∧ Gr w w' := c_RoundE z h.1 h.2 251 (by decide) (by decide) w
theorem bk_sq (i : Nat) (h : i < 1000) : (-1000000 : Int) ≤ (i : Int) * (i : Int) ∧ (i : Int) * (i : Int) ≤ 1000000 := by
  have h1 : i * i ≤ 1000 * 1000 := Nat.mul_le_mul (by omega) (by omega)
  have h2 : ((i * i : Nat) : Int) = (i : Int) * (i : Int) := Int.natCast_mul i i
  omega
theorem bk_byte (r : Int) (h : 0 ≤ r ∧ r < 251) : bv (UInt8.ofNat r.toNat) = .int .u8 r := by
  rw [byte_eq (by omega)]
  congr 1
  omega
theorem bk_facts (k k7 : Int) (hk : k7 = IntKind.i64.wrap (k * 7)) (i : Nat) (hi : i < 1000) : ∃ s a z r : Int, (i : Int) * (i : Int) = s ∧ wrap64 s = s ∧ IntKind.i64.wrap s = s ∧
    IntKind.i64.wrap (s + k7) = a ∧ wrap64 (s + k7) = a ∧ IntKind.i64.wrap (a + 1) = z ∧ wrap64 (a + 1) = z ∧ IntKind.u8.wrap r = r ∧
    (∀ w, Calls Tryz.prog 8 #[.int .i64 z, .int .i64 251] w fun e w' => e = .returned (.int .i64 r) ∧ Gr w w') ∧ bv (bkB k i) = .int .u8 r := by
  have hr : ∀ z : Int, 0 ≤ z % 251 ∧ z % 251 < 251 := fun z => by omega
  refine ⟨(i : Int) * i, IntKind.i64.wrap ((i : Int) * i + k7), IntKind.i64.wrap (IntKind.i64.wrap ((i : Int) * i + k7) + 1), IntKind.i64.wrap (IntKind.i64.wrap ((i : Int) * i + k7) + 1) % 251, rfl, wr_small (bk_sq i hi), wk_small (bk_sq i hi), rfl, w64 _, rfl, w64 _, ?_, c_Round251 _ (wk_rng _), ?_⟩
  · have := hr (IntKind.i64.wrap (IntKind.i64.wrap ((i : Int) * i + k7) + 1))
    generalize IntKind.i64.wrap (IntKind.i64.wrap ((i : Int) * i + k7) + 1) % 251 = r at *
    show r % 256 = r
    omega
  · rw [← bk_byte _ (hr _), hk]
    rfl
end Go.Proofs.YtapfecmdfoobcaaGreatDoor
