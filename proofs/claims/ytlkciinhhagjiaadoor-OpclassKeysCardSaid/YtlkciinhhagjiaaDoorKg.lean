/- OpclassKeys -/
import Derived.Test.YtlkciinhhagjiaaDoorKd
import Derived.Test.YtlkciinhhagjiaaDoorKf
import Derived.Test.YtlkciinhhagjiaaDoorOp
import Derived.Deep.Slices
namespace Go.Proofs.YtlkciinhhagjiaaDoor
set_option linter.unusedVariables false
set_option linter.unusedSimpArgs false
open Go.ChangeShapes Go.WideShapes Go.ChangeAt Go.RowKit
section
variable {H : Type} {enc : TypeId × Value → H} {P : Program} {w : World} {base : Nat} {sp : Nat → Bool} {held : Bool} {r : Reach} {b0 : Nat}
theorem addr_add1 (b off n : Nat) : (⟨b, off, none⟩ : Addr).add n = ⟨b, off + n, none⟩ := by
  unfold Addr.add
  split
  · rename_i h; simp
  · rfl
theorem cells1 {b off : Nat} {x0 : Value} (h : w.cells? base ⟨b, off, none⟩ 1 = some [x0]) : w.cell? ⟨b, off, none⟩ = some x0 := by
  unfold World.cells? at h
  split at h
  · rw [show List.range 1 = [0] from rfl] at h
    simp only [List.mapM_cons, List.mapM_nil, addr_add1] at h
    obtain ⟨y0, h0, h⟩ := Option.bind_eq_some_iff.1 h
    obtain ⟨t0, h, e0⟩ := Option.bind_eq_some_iff.1 h
    cases h
    cases e0
    exact h0
  · cases h
theorem open_bytes {t e : TypeId} {v : Value} {d : DataW H} {ps : List MemPlace} (ht : P.underlying t = some (.slice e)) (he : P.underlying e = some (.int .u8)) (ce : P.cellsOf e = 1)
    (hval : Value.okWide P w r b0 t v) (hd : DataW.Trod enc P w base sp held t v d ps) : ∃ L, Row w v L := by
  have hs : (v = .slice none 0 0) ∨ ∃ a n c, v = .slice (some a) n c ∧ n ≤ c ∧ (c : Int) ≤ IntKind.i64.max ∧ a.spot = none := by
    simp only [Value.okWide, ht, Cell.okWide] at hval
    cases v <;> simp only [Cell.ok, ht] at hval <;> try exact hval.elim
    rename_i a n c
    cases a with
    | none =>
      left
      cases n <;> cases c <;> first | rfl | exact hval.elim
    | some a => right; exact ⟨a, n, c, rfl, hval.1, hval.2.1, hval.2.2.2.1⟩
  rcases hs with rfl | ⟨⟨b, off, sp0⟩, n, cap, rfl, h1, h2, h3⟩
  · exact ⟨[], none, 0, 0, 0, rfl, Nat.le_refl _, by omega, fun h => absurd h (by simp), fun j hj => absurd hj (by simp)⟩
  cases h3
  obtain ⟨fuel, hf⟩ := hd
  rcases Deep.open_slice ht hf with ⟨h, -⟩ | ⟨a, len, cap', m, q, D, Pl, hv, -, hl, -, hm, -, hel⟩
  · simp [Value.cells] at h
  · simp only [Value.cells, List.cons.injEq, Value.slice.injEq, Option.some.injEq, and_true] at hv
    obtain ⟨rfl, rfl, rfl⟩ := hv
    have hlm : n ≤ m := by rw [hm]; split <;> omega
    have key : ∀ k, k < n → ∃ z : UInt8, w.cell? ⟨b, off + k, none⟩ = some (bv z) := fun k hk => by
      obtain ⟨cs', hc, htr⟩ := hel k (by omega)
      rw [ce, addr_add1, Nat.mul_one] at hc
      obtain ⟨z, rfl, -, hw⟩ := DataW.trod_int he htr
      have hb := bounds_u8 hw
      refine ⟨UInt8.ofNat z.toNat, ?_⟩
      rw [byte_eq (by omega), cells1 hc, Int.toNat_of_nonneg hb.1]
    refine ⟨List.ofFn fun i : Fin n => (key i.1 i.2).choose, some ⟨b, off, none⟩, cap, b, off, by simp, by simpa using h1, ?_, fun _ => rfl, fun j hj => ?_⟩
    · have : IntKind.i64.max = 9223372036854775807 := rfl
      omega
    · have hj' : j < n := by simpa using hj
      rw [List.getElem_ofFn]
      exact (key j hj').choose_spec
end
set_option maxHeartbeats 4000000 in
set_option maxRecDepth 100000 in
theorem walk_OpclassKeys (W : World) (lx ly hx hy : Int) (L : List UInt8) (v : Value) (B0 : (-9223372036854775808 ≤ lx ∧ lx ≤ 9223372036854775807) ∧ (-9223372036854775808 ≤ ly ∧ ly ≤ 9223372036854775807) ∧ (-9223372036854775808 ≤ hx ∧ hx ≤ 9223372036854775807) ∧ (-9223372036854775808 ≤ hy ∧ hy ≤ 9223372036854775807)) (hr : Row W v L) (hE : ErrT W) :
    Calls Tryd.prog 6 #[.agg #[.int .i64 lx, .int .i64 ly, .int .i64 hx, .int .i64 hy], v] W fun e w' => e = .returned (.bool true) ∧ Gr W w' := by
  have i1 : Iw lx := by unfold Iw; omega
  have i2 : Iw ly := by unfold Iw; omega
  have i3 : Iw hx := by unfold Iw; omega
  have i4 : Iw hy := by unfold Iw; omega
  by_cases hn : L.length ≤ 300
  · have KR := key_read i1 i2 i3 i4
    have KL := (keyB_len i1 i2 i3 i4).2
    have KA := fun w => c_oKey' i1 i2 i3 i4 w
    have KB : ∀ w, Calls Tryd.prog 36 #[.agg #[.int .i64 lx, .int .i64 ly, .int .i64 hx, .int .i64 hy]] w fun e w' => ∃ g c, e = .returned (.slice (some ⟨g, 0, none⟩) (keyB lx ly hx hy).length c) ∧ Row w' (.slice (some ⟨g, 0, none⟩) (keyB lx ly hx hy).length c) (keyB lx ly hx hy) ∧ Gr w w' ∧ Gr w w' := fun w => (c_rKey' i1 i2 i3 i4 w).mono (by
      rintro e w' ⟨g, c, h1, h2, h3⟩
      exact ⟨g, c, h1, h2, h3, h3⟩)
    have KC := fun w => c_rCheckBox lx ly hx hy w
    have KU : ∀ w v, Row w v (keyB lx ly hx hy) → Calls Tryd.prog 33 #[v] w (UkTo w (keyB lx ly hx hy)) := fun w v r => c_oUnkey w r (by omega)
    have U1 : ∀ w, Gr W w → Calls Tryd.prog 33 #[v] w (UkTo w L) := fun w g => c_oUnkey w (row_gr hr g) (by omega)
    have U2 : ∀ w, Gr W w → Calls Tryd.prog 34 #[v] w (RkTo w L) := fun w g => c_rUnkey w (row_gr hr g) (by omega)
    have bz := boxCode_zero (lx := lx) (ly := ly) (hx := hx) (hy := hy)
    obtain ⟨ad, cap, B, off, rfl, -⟩ := hr
    by_cases hb : boxB lx ly hx hy = true
    · rw [hb] at bz
      have hbc : boxCode lx ly hx hy = 0 := by simpa using bz
      rw [hbc] at KC
      have V : ∀ w v, Row w v (keyB lx ly hx hy) → Calls Tryd.prog 33 #[v] w fun e w' => e = .returned (.tuple #[.agg #[.int .i64 lx, .int .i64 ly, .int .i64 hx, .int .i64 hy], .nilIface]) ∧ Gr w w' := fun w v r => (KU w v r).mono (by
        rintro e w' (⟨-, h2, h3⟩ | ⟨h1, -⟩)
        · rw [KR.2.1, KR.2.2.1, KR.2.2.2.1, KR.2.2.2.2] at h2
          exact ⟨h2, h3⟩
        · exact absurd (KR.1.2 hb) h1)
      by_cases hk : kOk L
      · exact keys_yy lx ly hx hy _ _ _ _ 0 ad L.length cap _ W hn (by omega) hE (fun w g => (U1 w g).mono (by
          rintro e w' (⟨-, h2, h3⟩ | ⟨h1, -⟩)
          · exact ⟨h2, h3⟩
          · exact absurd hk h1)) (fun w g => (U2 w g).mono (by
          rintro e w' (⟨-, h2, h3⟩ | ⟨h1, -⟩)
          · exact ⟨h2, h3⟩
          · exact absurd hk h1)) KA KB KC V
      · exact keys_ny lx ly hx hy 0 0 0 0 0 ad L.length cap _ W hn (by omega) hE (fun w g => (U1 w g).mono (by
          rintro e w' (⟨h1, -⟩ | ⟨-, B, h2, h3, h4⟩)
          · exact absurd h1 hk
          · exact ⟨B, h2, h3, h4⟩)) (fun w g => (U2 w g).mono (by
          rintro e w' (⟨h1, -⟩ | ⟨-, h2, h3⟩)
          · exact absurd h1 hk
          · exact ⟨h2, h3⟩)) KA KB KC V
    · have hb2 : boxB lx ly hx hy = false := by simpa using hb
      rw [hb2] at bz
      have V : ∀ w v, Row w v (keyB lx ly hx hy) → Calls Tryd.prog 33 #[v] w fun e w' => ∃ B, e = .returned (.tuple #[.agg #[.int .i64 0, .int .i64 0, .int .i64 0, .int .i64 0], .iface 68 (.pointer (some ⟨B, 0, none⟩))]) ∧ Gr w w' := fun w v r => (KU w v r).mono (by
        rintro e w' (⟨h1, -⟩ | ⟨-, B, h2, -, h4⟩)
        · exact absurd (KR.1.1 h1) hb
        · exact ⟨B, h2, h4⟩)
      by_cases hk : kOk L
      · exact keys_yn lx ly hx hy _ _ _ _ _ ad L.length cap _ W hn (by omega) hE bz (fun w g => (U1 w g).mono (by
          rintro e w' (⟨-, h2, h3⟩ | ⟨h1, -⟩)
          · exact ⟨h2, h3⟩
          · exact absurd hk h1)) (fun w g => (U2 w g).mono (by
          rintro e w' (⟨-, h2, h3⟩ | ⟨h1, -⟩)
          · exact ⟨h2, h3⟩
          · exact absurd hk h1)) KA KB KC V
      · exact keys_nn lx ly hx hy 0 0 0 0 _ ad L.length cap _ W hn (by omega) hE bz (fun w g => (U1 w g).mono (by
          rintro e w' (⟨h1, -⟩ | ⟨-, B, h2, h3, h4⟩)
          · exact absurd h1 hk
          · exact ⟨B, h2, h3, h4⟩)) (fun w g => (U2 w g).mono (by
          rintro e w' (⟨h1, -⟩ | ⟨-, h2, h3⟩)
          · exact absurd h1 hk
          · exact ⟨h2, h3⟩)) KA KB KC V
  · obtain ⟨ad, cap, B, off, rfl, -⟩ := hr
    obtain ⟨n, en⟩ : ∃ n, n = L.length := ⟨_, rfl⟩
    rw [← en] at hn ⊢
    have t1 : decide ((300 : Int) < (n : Int)) = true := decide_eq_true (by omega)
    have t2 : decide (300 < n) = true := decide_eq_true (by omega)
    clear en hn i1 i2 i3 i4 B0 hE
    go_enter Tryd.func6, Tryd.ntmps6
    go_wp2_with fail
    go_at_call 32
    refine ((p16_awake _)).mono ?_
    rintro e w1 ⟨rfl, hw1⟩
    have gw1 : Gr W w1 := Gr.trans (by go_grown) hw1
    clear hw1
    go_wp2_with fail
    go_ret
    exact ⟨rfl, gw1⟩
end Go.Proofs.YtlkciinhhagjiaaDoor
