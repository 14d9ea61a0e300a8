/- slices of bytes that come in; EncNumbers -/
import Derived.Test.YtldlpbfncgcimaaEo
import Derived.Deep.Slices
namespace Go.Proofs.Ytldlpbfncgcimaa
set_option linter.unusedVariables false
open Go.ChangeShapes Go.WideShapes Go.ChangeAt Go.RowKit
section
variable {H : Type} {enc : TypeId × Value → H} {P : Program} {w : World} {base : Nat} {sp : Nat → Bool} {held : Bool} {r : Reach} {b0 : Nat}
theorem addr_add1 (b off n : Nat) : (⟨b, off, none⟩ : Addr).add n = ⟨b, off + n, none⟩ := by
  unfold Addr.add
  split
  · rename_i h; simp
  · rfl
theorem cells1 {b off : Nat} {x0 : Value} (h : w.cells? base ⟨b, off, none⟩ 1 = some [x0]) : w.cell? ⟨b, off, none⟩ = some x0 := by
  unfold World.cells? at h
  split at h
  · rw [show List.range 1 = [0] from rfl] at h
    simp only [List.mapM_cons, List.mapM_nil, addr_add1] at h
    obtain ⟨y0, h0, h⟩ := Option.bind_eq_some_iff.1 h
    obtain ⟨t0, h, e0⟩ := Option.bind_eq_some_iff.1 h
    cases h
    cases e0
    exact h0
  · cases h
theorem open_bytes {t e : TypeId} {v : Value} {d : DataW H} {ps : List MemPlace} (ht : P.underlying t = some (.slice e)) (he : P.underlying e = some (.int .u8)) (ce : P.cellsOf e = 1)
    (hval : Value.okWide P w r b0 t v) (hd : DataW.Trod enc P w base sp held t v d ps) : ∃ L, Row w v L := by
  have hs : (v = .slice none 0 0) ∨ ∃ a n c, v = .slice (some a) n c ∧ n ≤ c ∧ (c : Int) ≤ IntKind.i64.max ∧ a.spot = none := by
    simp only [Value.okWide, ht, Cell.okWide] at hval
    cases v <;> simp only [Cell.ok, ht] at hval <;> try exact hval.elim
    rename_i a n c
    cases a with
    | none =>
      left
      cases n <;> cases c <;> first | rfl | exact hval.elim
    | some a => right; exact ⟨a, n, c, rfl, hval.1, hval.2.1, hval.2.2.2.1⟩
  rcases hs with rfl | ⟨⟨b, off, sp0⟩, n, cap, rfl, h1, h2, h3⟩
  · exact ⟨[], none, 0, 0, 0, rfl, Nat.le_refl _, by omega, fun h => absurd h (by simp), fun j hj => absurd hj (by simp)⟩
  cases h3
  obtain ⟨fuel, hf⟩ := hd
  rcases Deep.open_slice ht hf with ⟨h, -⟩ | ⟨a, len, cap', m, q, D, Pl, hv, -, hl, -, hm, -, hel⟩
  · simp [Value.cells] at h
  · simp only [Value.cells, List.cons.injEq, Value.slice.injEq, Option.some.injEq, and_true] at hv
    obtain ⟨rfl, rfl, rfl⟩ := hv
    have hlm : n ≤ m := by rw [hm]; split <;> omega
    have key : ∀ k, k < n → ∃ z : UInt8, w.cell? ⟨b, off + k, none⟩ = some (bv z) := fun k hk => by
      obtain ⟨cs', hc, htr⟩ := hel k (by omega)
      rw [ce, addr_add1, Nat.mul_one] at hc
      obtain ⟨z, rfl, -, hw⟩ := DataW.trod_int he htr
      have hb := bounds_u8 hw
      refine ⟨UInt8.ofNat z.toNat, ?_⟩
      rw [byte_eq (by omega), cells1 hc, Int.toNat_of_nonneg hb.1]
    refine ⟨List.ofFn fun i : Fin n => (key i.1 i.2).choose, some ⟨b, off, none⟩, cap, b, off, by simp, by simpa using h1, ?_, fun _ => rfl, fun j hj => ?_⟩
    · have : IntKind.i64.max = 9223372036854775807 := rfl
      omega
    · have hj' : j < n := by simpa using hj
      rw [List.getElem_ofFn]
      exact (key j hj').choose_spec
end
set_option maxHeartbeats 2000000 in
set_option maxRecDepth 100000 in
theorem numbers_core (L : List UInt8) (ad : Option Addr) (c len : Nat) (v : Nat) (n : Int) (hv : Wd v) (hn : Iw n) (hl : L.length ≤ 1000) (el : len = L.length) (W : World) (R : Row W (.slice ad len c) L) :
    Calls Try.prog 3 #[.slice ad len c, .int .u64 v, .int .i64 n] W fun e w' => e = .returned (.bool true) ∧ Gr W w' := by
  have A1 := fun w (g : Gr W w) => c_UnvarintL w (row_gr R g) (by omega)
  have A2 := fun w (g : Gr W w) => c_UnvarintR w (row_gr R g) (by omega)
  have A3 := fun w (g : Gr W w) => c_UnsignedL w (row_gr R g) (by omega)
  have A4 := fun w (g : Gr W w) => c_rUnsigned w (row_gr R g) (by omega)
  have A5 := fun w => c_Varint v hv w
  have A6 := fun w => c_rVarint v hv w
  have A7 := fun w => c_Signed n hn.lo hn.hi w
  have A8 := fun w => c_rSigned n hn.lo hn.hi w
  obtain ⟨x, ex⟩ : ∃ x, x = (uL L).1 := ⟨_, rfl⟩
  obtain ⟨k, ek⟩ : ∃ k, k = (uL L).2 := ⟨_, rfl⟩
  obtain ⟨s, es⟩ : ∃ s, s = si x := ⟨_, rfl⟩
  obtain ⟨o, eo⟩ : ∃ o, o = decide (0 < k) := ⟨_, rfl⟩
  rw [← ex, ← ek] at A1 A2
  rw [← ex, ← ek, ← es, ← eo] at A3 A4
  have k1 := Ec.vr_len10 hv
  have k2 := Ec.vr_len10 (iw_wd hn)
  obtain ⟨L1, e1⟩ : ∃ L, L = Ec.vr v := ⟨_, rfl⟩
  obtain ⟨L2, e2⟩ : ∃ L, L = Ec.vr (zz n) := ⟨_, rfl⟩
  rw [← e1] at A5 A6 k1
  rw [← e2] at A7 A8 k2
  have d1 : decide ((1000 : Int) < (len : Int)) = false := decide_eq_false (by omega)
  have d2 : decide (1000 < len) = false := decide_eq_false (by omega)
  have d3 : ((x : Int) == (x : Int)) = true := by simp
  have d4 : ((k : Int) == (k : Int)) = true := by simp
  have d5 : (s == s) = true := by simp
  have d6 : (o == o) = true := by simp
  have A9 := fun w u v (hu : Row w u L1) (hv : Row w v L1) => c_Bytes_same w hu hv (by omega)
  have A10 := fun w u v (hu : Row w u L2) (hv : Row w v L2) => c_Bytes_same w hu hv (by omega)
  clear ex ek es eo e1 e2 hv hn hl el k1 k2 R
  have H1 := Lib.hid A1
  have H2 := Lib.hid A2
  have H3 := Lib.hid A3
  have H4 := Lib.hid A4
  have H5 := Lib.hid A5
  have H6 := Lib.hid A6
  have H7 := Lib.hid A7
  have H8 := Lib.hid A8
  have H9 := Lib.hid A9
  have H10 := Lib.hid A10
  clear A1 A2 A3 A4 A5 A6 A7 A8 A9 A10
  go_enter Try.func3, Try.ntmps3
  go_wp2_with fail
  go_at_call 11
  refine ((H1.out _ (by go_grown))).mono ?_
  rintro e w1 ⟨rfl, hw1⟩
  have gw1 : Gr W w1 := Gr.trans (by go_grown) hw1
  clear hw1
  go_wp2_with fail
  go_at_call 12
  refine ((H2.out _ gw1)).mono ?_
  rintro e w2 ⟨rfl, hw2⟩
  have gw2 : Gr W w2 := Gr.trans (by have gg := gw1; have gs := gg.size; go_grown) hw2
  clear hw2 gw1
  go_wp2_with fail
  go_at_call 13
  refine ((H3.out _ gw2)).mono ?_
  rintro e w3 ⟨rfl, hw3⟩
  have gw3 : Gr W w3 := Gr.trans (by have gg := gw2; have gs := gg.size; go_grown) hw3
  clear hw3 gw2
  go_wp2_with fail
  go_at_call 14
  refine ((H4.out _ gw3)).mono ?_
  rintro e w4 ⟨rfl, hw4⟩
  have gw4 : Gr W w4 := Gr.trans (by have gg := gw3; have gs := gg.size; go_grown) hw4
  clear hw4 gw3
  go_wp2_with fail
  go_at_call 16
  (with_reducible refine (H5.out _).mono ?_)
  rintro e w5 ⟨b5, rfl, o5, g5⟩
  have G5 := Lib.hid (Gr.trans gw4 g5)
  have R5 := Lib.hid (row_own o5)
  clear gw4 o5 g5
  go_wp2_with fail
  go_at_call 17
  (with_reducible refine (H6.out _).mono ?_)
  rintro e w6 ⟨b6, rfl, o6, g6⟩
  have G6 := Lib.hid (Gr.trans G5.out g6)
  have R5 := Lib.hid (row_gr R5.out g6)
  have R6 := Lib.hid (row_own o6)
  clear G5 o6 g6
  go_wp2_with fail
  go_at_call 15
  (with_reducible refine (H9.out _ _ _ R5.out R6.out).mono ?_)
  rintro e w7 ⟨rfl, g7⟩
  have G7 := Lib.hid (Gr.trans G6.out g7)
  clear G6 g7 R5 R6
  go_wp2_with fail
  go_at_call 18
  (with_reducible refine (H7.out _).mono ?_)
  rintro e w8 ⟨b8, rfl, o8, g8⟩
  have G8 := Lib.hid (Gr.trans G7.out g8)
  have R8 := Lib.hid (row_own o8)
  clear G7 o8 g8
  go_wp2_with fail
  go_at_call 19
  (with_reducible refine (H8.out _).mono ?_)
  rintro e w9 ⟨b9, rfl, o9, g9⟩
  have G9 := Lib.hid (Gr.trans G8.out g9)
  have R8 := Lib.hid (row_gr R8.out g9)
  have R9 := Lib.hid (row_own o9)
  clear G8 o9 g9
  go_wp2_with fail
  go_at_call 15
  (with_reducible refine (H10.out _ _ _ R8.out R9.out).mono ?_)
  rintro e w10 ⟨rfl, g10⟩
  have G10 := Lib.hid (Gr.trans G9.out g10)
  clear G9 g10 R8 R9
  go_wp2_with fail
  go_at_call 10
  (with_reducible refine (p8_awake _).mono ?_)
  rintro e w11 ⟨rfl, g11⟩
  go_wp2_with fail
  go_ret
  exact ⟨rfl, Gr.trans G10.out g11⟩
set_option maxHeartbeats 2000000 in
theorem walk_EncNumbers (W : World) (L : List UInt8) (b : Value) (v : Nat) (n : Int) (B0 : Row W b L) (B1 : Wd v) (B2 : -9223372036854775808 ≤ n ∧ n ≤ 9223372036854775807) :
    Calls Try.prog 3 #[b, .int .u64 v, .int .i64 n] W fun e w' => e = .returned (.bool true) ∧ Gr W w' := by
  obtain ⟨ad, c, B, off, rfl, h2⟩ := id B0
  obtain ⟨len, el⟩ : ∃ len, len = L.length := ⟨_, rfl⟩
  rw [← el] at B0 ⊢
  by_cases h : L.length ≤ 1000
  · exact numbers_core L ad c len v n B1 (by unfold Iw; omega) h el W B0
  · have d1 : decide ((1000 : Int) < (len : Int)) = true := decide_eq_true (by omega)
    have d2 : decide (1000 < len) = true := decide_eq_true (by omega)
    clear B0 h2 B1 B2 el
    go_enter Try.func3, Try.ntmps3
    go_wp2_with fail
    go_at_call 10
    (with_reducible refine (p8_awake _).mono ?_)
    rintro e w6 ⟨rfl, g6⟩
    go_wp2_with fail
    go_ret
    exact ⟨rfl, g6⟩
end Go.Proofs.Ytldlpbfncgcimaa
