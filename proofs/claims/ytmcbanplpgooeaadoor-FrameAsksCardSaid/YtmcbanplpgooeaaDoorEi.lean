/- bytes that are read: rows of them, and whether two are alike -/
import Derived.Test.YtmcbanplpgooeaaDoorEh
import Derived.Maps.AppendAt
namespace Go.Proofs.YtmcbanplpgooeaaDoor
set_option linter.unusedVariables false
open Go.ChangeShapes Go.WideShapes Go.ChangeAt Go.RowKit

/-- A slice of bytes that reads as a list. -/
def Row (w : World) (v : Value) (L : List UInt8) : Prop :=
  ∃ (ad : Option Addr) (cap B off : Nat), v = .slice ad L.length cap ∧ L.length ≤ cap ∧ cap ≤ 9223372036854775807 ∧ (0 < L.length → ad = some ⟨B, off, none⟩) ∧ ∀ j (h : j < L.length), w.cell? ⟨B, off + j, none⟩ = some (bv L[j])
theorem row_gr {w w' : World} {v : Value} {L : List UInt8} (h : Row w v L) (g : Gr w w') : Row w' v L := by
  obtain ⟨ad, cap, B, off, h1, h2, h3, h4, h5⟩ := h
  exact ⟨ad, cap, B, off, h1, h2, h3, h4, fun j hj => cell_gr g (h5 j hj)⟩
theorem row_own {w : World} {base : Nat} {v : Value} {L : List UInt8} (h : Own w base v L) : Row w v L := by
  have hl := h.1
  rcases h.2 with ⟨rfl, h0⟩ | ⟨g, cap, cur, rfl, hb, hg, hn, hc, hs, ht⟩
  · have : L = [] := List.eq_nil_of_length_eq_zero h0
    subst this
    exact ⟨none, 0, 0, 0, rfl, Nat.le_refl _, by omega, fun h => absurd h (by simp), fun j hj => absurd hj (by simp)⟩
  · refine ⟨_, cap, g, 0, rfl, hn, by unfold maxLen at hc; omega, fun _ => rfl, fun j hj => ?_⟩
    have := World.ownsRow.cellAt h j (by omega)
    rw [Nat.zero_add, this, List.getElem?_map, List.getElem?_eq_getElem hj]
    rfl
/-- The row's bytes by their places. -/
def rb (L : List UInt8) (j : Nat) : Nat := (L.getD j 0).toNat
theorem rb_lt (L : List UInt8) (j : Nat) : rb L j < 256 := UInt8.toNat_lt _
theorem getD_at (L : List UInt8) {j : Nat} (h : j < L.length) : L.getD j 0 = L[j] := by
  rw [List.getD_eq_getElem?_getD, List.getElem?_eq_getElem h]; rfl
theorem rb_at (L : List UInt8) {j : Nat} (h : j < L.length) : bv L[j] = .int .u8 (rb L j : Nat) := by
  unfold bv rb
  rw [getD_at _ h]
theorem rb_eq {L M : List UInt8} (h : L.length = M.length) : L = M ↔ ∀ j, j < L.length → rb L j = rb M j := by
  constructor
  · rintro rfl j _; rfl
  · intro k
    refine List.ext_getElem h fun j h1 h2 => ?_
    have := k j h1
    unfold rb at this
    rw [getD_at _ h1, getD_at _ h2] at this
    exact UInt8.toNat_inj.1 this

set_option maxHeartbeats 2000000 in
set_option maxRecDepth 100000 in
theorem bytes_core (n ca cb : Nat) (f g : Nat → Nat) (ad bd : Option Addr) (B off C oc : Nat) (hA : 0 < n → ad = some ⟨B, off, none⟩) (hB : 0 < n → bd = some ⟨C, oc, none⟩) (W : World) (hn : n ≤ 1000000000) (h1 : n ≤ ca) (h2 : n ≤ cb)
    (hf : ∀ j, j < n → W.cell? ⟨B, off + j, none⟩ = some (.int .u8 (f j))) (hg : ∀ j, j < n → W.cell? ⟨C, oc + j, none⟩ = some (.int .u8 (g j))) (q : Bool) (hq : q = true ↔ ∀ j, j < n → f j = g j) :
    Calls Tryd.prog 60 #[.slice ad n ca, .slice bd n cb] W fun e w' => e = .returned (.bool q) ∧ Gr W w' := by
  have HF := Lib.hid hf
  have HG := Lib.hid hg
  have HA := Lib.hid hA
  have HB := Lib.hid hB
  have HQ := Lib.hid hq
  clear hf hg hA hB hq
  have t0 : (n != n) = false := by simp
  have t00 : ((n : Int) != (n : Int)) = false := by simp
  go_enter Tryd.func60, Tryd.ntmps60
  go_wp2_with fail
  go_loopg [5] n (fun k x wr => ∃ i : Nat, x = .int .i64 i ∧ i ≤ n ∧ k = n - i ∧ Hid (∀ j, j < i → f j = g j) ∧ Gr W wr)
  case atStart => exact ⟨0, rfl, Nat.zero_le _, by omega, Lib.hid (fun j h => absurd h (Nat.not_lt_zero _)), by go_grown⟩
  case round =>
    obtain ⟨i, rfl, hi, hk, HE, gw⟩ := hrel
    by_cases h : i < n
    · have ti : decide ((i : Int) < (n : Int)) = true := decide_eq_true (by omega)
      have ti2 : decide (i < n) = true := decide_eq_true h
      have tn : (i : Int) < (n : Int) := by omega
      have tnn : (i : Int) < (ca : Int) := by omega
      have t0 : (0 : Int) ≤ (i : Int) := by omega
      obtain rfl := HA.out (by omega)
      obtain rfl := HB.out (by omega)
      have c0 := cell_gr gw (HF.out i h)
      have c1 := cell_gr gw (HG.out i h)
      obtain ⟨x, ex⟩ : ∃ x, x = f i := ⟨_, rfl⟩
      obtain ⟨y, ey⟩ : ∃ y, y = g i := ⟨_, rfl⟩
      rw [← ex] at c0
      rw [← ey] at c1
      by_cases hxy : x = y
      · have e : ∀ j, j < i + 1 → f j = g j := fun j hj => by
          by_cases hji : j = i
          · subst hji; rw [← ex, ← ey]; exact hxy
          · exact HE.out j (by omega)
        have HE2 := Lib.hid e
        clear e ex ey
        subst hxy
        have u1 : ((x : Int) != (x : Int)) = false := by simp
        have u2 : (x != x) = false := by simp
        go_wp2_with fail
        refine wp_region_spread (by kernel_rfl) (by kernel_rfl) ?_
        try simp only [List.append]
        repeat (first | go_big_quiet_skip | (go_big_quiet_want; go_big_quiet_op; (first | go_big_quiet_on | (apply Exists.intro; refine ⟨fun _ => ?_, ?_⟩; (· fail); go_big_quiet_on))))
        refine wpQuiet_nil ?_
        intro wr hr
        obtain ⟨mr, rfl⟩ := hr
        go_wp2_with fail
        go_roundg (n - (i + 1))
        case measure => omega
        case rel => exact ⟨i + 1, by go_num, by omega, rfl, HE2, Gr.trans gw (gr_spread _ _)⟩
      · have e : q = false := by
          cases q with
          | false => rfl
          | true => exact absurd (HQ.out.1 rfl i h) (by rw [← ex, ← ey]; exact hxy)
        subst e
        clear ex ey
        have u1 : ((x : Int) != (y : Int)) = true := by simp; omega
        have u2 : (x != y) = true := by simp; omega
        go_wp2_with fail
        refine wp_region_spread (by kernel_rfl) (by kernel_rfl) ?_
        try simp only [List.append]
        repeat (first | go_big_quiet_skip | (go_big_quiet_want; go_big_quiet_op; (first | go_big_quiet_on | (apply Exists.intro; refine ⟨fun _ => ?_, ?_⟩; (· fail); go_big_quiet_on))))
        refine wpQuiet_nil ?_
        intro wr hr
        obtain ⟨mr, rfl⟩ := hr
        go_wp2_with fail
        go_ret
        exact ⟨rfl, Gr.trans gw (gr_spread _ _)⟩
    · have e : i = n := by omega
      subst e
      have ti : decide ((i : Int) < (i : Int)) = false := decide_eq_false (by omega)
      obtain rfl : q = true := HQ.out.2 HE.out
      go_wp2_with fail
      go_ret
      exact ⟨rfl, gw⟩
/-- Two rows of bytes are told to be alike just if they are. -/
theorem c_Bytes {L M : List UInt8} {u v : Value} (W : World) (hu : Row W u L) (hv : Row W v M) (hl : L.length ≤ 1000000000) :
    Calls Tryd.prog 60 #[u, v] W fun e w' => e = .returned (.bool (decide (L = M))) ∧ Gr W w' := by
  obtain ⟨ad, ca, B, off, rfl, a1, a2, a3, a4⟩ := hu
  obtain ⟨bd, cb, C, oc, rfl, b1, b2, b3, b4⟩ := hv
  by_cases h : L.length = M.length
  · obtain ⟨n, hn⟩ : ∃ n, n = L.length := ⟨_, rfl⟩
    rw [← h]
    rw [← h] at b1 b3
    refine bytes_core L.length ca cb (rb L) (rb M) ad bd B off C oc a3 b3 W hl a1 b1 (fun j hj => by rw [← rb_at L hj]; exact a4 j hj) (fun j hj => by rw [← rb_at M (by omega)]; exact b4 j (by omega)) _ ?_
    rw [decide_eq_true_eq]
    exact rb_eq h
  · rw [decide_eq_false (fun e => h (by rw [e]))]
    obtain ⟨n, hn⟩ : ∃ n, n = L.length := ⟨_, rfl⟩
    obtain ⟨m, hm⟩ : ∃ m, m = M.length := ⟨_, rfl⟩
    rw [← hn, ← hm]
    rw [← hn, ← hm] at h
    have u1 : ((n : Int) != (m : Int)) = true := by simp; omega
    have u2 : (n != m) = true := by simp; omega
    clear a1 a3 a4 b1 b3 b4 hn hm h
    go_enter Tryd.func60, Tryd.ntmps60
    go_wp2_with fail
    go_ret
    exact ⟨rfl, by go_grown⟩
/-- The number that a row begins with. -/
def uL (L : List UInt8) : Nat × Nat := Ec.uv (rb L) L.length 10 0 0
theorem c_UnvarintL {L : List UInt8} {v : Value} (W : World) (h : Row W v L) (hl : L.length ≤ 100000) :
    Calls Tryd.prog 177 #[v] W fun e w' => e = .returned (.tuple #[.int .u64 (uL L).1, .int .i64 (uL L).2]) ∧ Gr W w' := by
  obtain ⟨ad, cap, B, off, rfl, h1, h2, h3, h4⟩ := h
  exact c_Unvarint L.length cap (rb L) ad B off h3 W hl h1 (fun j _ => rb_lt L j) (fun j hj => by rw [← rb_at L hj]; exact h4 j hj)
theorem c_UnsignedL {L : List UInt8} {v : Value} (W : World) (h : Row W v L) (hl : L.length ≤ 100000) :
    Calls Tryd.prog 178 #[v] W fun e w' => e = .returned (.tuple #[.int .i64 (si (uL L).1), .int .i64 (uL L).2, .bool (decide (0 < (uL L).2))]) ∧ Gr W w' := by
  obtain ⟨ad, cap, B, off, rfl, h1, h2, h3, h4⟩ := h
  exact c_Unsigned L.length cap (rb L) ad B off h3 W hl h1 (fun j _ => rb_lt L j) (fun j hj => by rw [← rb_at L hj]; exact h4 j hj)
end Go.Proofs.YtmcbanplpgooeaaDoor
