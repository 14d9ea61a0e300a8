/- slots: putPair; AppendWord into a row that is known whole -/
import Derived.Test.YtilijbplfobneaaDoorMa
namespace Go.Proofs.YtilijbplfobneaaDoor
set_option linter.unusedVariables false
set_option linter.unusedSimpArgs false
open Go.ChangeShapes Go.WideShapes Go.ChangeAt Go.RowKit Go.Maps

/-- A number's two bytes. -/
def pr (v : Nat) : List UInt8 := [UInt8.ofNat (v % 256), UInt8.ofNat (v / 256 % 256)]
theorem splice_two (L : List UInt8) (k : Nat) (a b : UInt8) (h : k + 2 ≤ L.length) : splice L k [a, b] = (L.set k a).set (k + 1) b := by
  apply List.ext_getElem?
  intro j
  rw [splice_get _ _ _ (by simpa using h), List.getElem?_set, List.getElem?_set]
  by_cases h1 : j < k
  · rw [if_pos h1, if_neg (by omega), if_neg (by omega)]
  · rw [if_neg h1]
    by_cases h2 : j = k
    · subst h2
      rw [if_pos (by simp), if_neg (by omega), if_pos rfl, if_pos (by omega)]
      simp
    · by_cases h3 : j = k + 1
      · subst h3
        rw [if_pos (by simp), if_pos rfl, List.length_set, if_pos (by omega)]
        simp
      · rw [if_neg (by simp; omega), if_neg (by omega), if_neg (by omega)]
set_option maxRecDepth 100000 in
theorem c_putPair {L : List UInt8} (g n k m c v : Nat) (hm : 2 ≤ m) (hk : k + 2 ≤ n) (hn : n ≤ 1000000) (hv : v < 65536) (W : World) (h : Full W g n L) :
    Calls Tryd.prog 57 #[.slice (some ⟨g, k, none⟩) m c, .int .i64 (v : Nat)] W fun e w' => e = .returned (.tuple #[]) ∧ Full w' g n (splice L k (pr v)) ∧ Kx (fun j => j = g) W w' := by
  obtain ⟨a, ha⟩ : ∃ a, a = v % 256 := ⟨_, rfl⟩
  obtain ⟨q, hq⟩ : ∃ q, q = v / 256 := ⟨_, rfl⟩
  have c0 : (v : Int) % 256 = (a : Int) := by omega
  have c0b : IntKind.u8.wrap (v : Int) = (a : Int) := by rw [wraps_u8', ← ha]
  have c1 : (v : Int) / 2 ^ 8 = (q : Int) := by rw [show ((2 : Int) ^ 8) = 256 from rfl]; omega
  have c1b : (v : Int) / 256 = (q : Int) := by omega
  have c1c : (v : Int) / 2 ^ min 8 64 = (q : Int) := c1
  have c1d : (q : Int) % 256 = (q : Int) := by omega
  have c1e : IntKind.u8.wrap (q : Int) = (q : Int) := by rw [wraps_u8']; omega
  have x0 := full_cell h (show k < n by omega)
  have x1 := full_cell (full_set h (k := k) (UInt8.ofNat a)) (show k + 1 < n by omega)
  have HF := Lib.hid (full_set (full_set h (k := k) (UInt8.ofNat a)) (k := k + 1) (UInt8.ofNat q))
  have eL : splice L k (pr v) = (L.set k (UInt8.ofNat a)).set (k + 1) (UInt8.ofNat q) := by
    unfold pr
    rw [splice_two _ _ _ _ (by rw [h.1]; omega), ← ha, ← hq, show q % 256 = q by omega]
  rw [byte_eq (show a < 256 by omega)] at HF x1
  rw [byte_eq (show q < 256 by omega)] at HF
  have HE := Lib.hid eL
  have m1 : (1 : Int) < (m : Int) := by omega
  have m0 : (0 : Int) < (m : Int) := by omega
  obtain ⟨y0, y1, y2⟩ := x0
  obtain ⟨y3, y4, -⟩ := x1
  unfold bv at y0 y3
  clear h eL ha hq
  go_enter Tryd.func57, Tryd.ntmps57
  go_wp2_with fail
  go_end0
  exact ⟨rfl, by rw [HE.out]; exact HF.out, (full_set_kx _).trans (full_set_kx _)⟩
set_option maxHeartbeats 4000000 in
set_option maxRecDepth 100000 in
theorem c_AppendWordF {L : List UInt8} (g n k v : Nat) (hv : v < 4294967296) (hk : k + 4 ≤ n) (hn : n ≤ 1000000) (W : World) (hF : Full W g n L) :
    Calls Tryd.prog 56 #[.slice (some ⟨g, 0, none⟩) k n, .int .u32 v] W fun e w' => e = .returned (.slice (some ⟨g, 0, none⟩) (k + 4) n) ∧ Full w' g n (splice L k (wd v)) ∧ Kx (fun j => j = g) W w' := by
  obtain ⟨i0, hi0, hz0, hz1, hz2⟩ := info_parts (P := Tryd.prog) (e := 5) (z := .int .u8 0) (size := 1) (bytes := 1) (by kernel_rfl)
  have HI := Lib.hid hi0
  have HZ1 := Lib.hid hz1
  obtain ⟨b0, e0⟩ : ∃ q, q = v % 256 := ⟨_, rfl⟩
  obtain ⟨q1, e1⟩ : ∃ q, q = v / 256 := ⟨_, rfl⟩
  obtain ⟨b1, e2⟩ : ∃ q, q = q1 % 256 := ⟨_, rfl⟩
  obtain ⟨q2, e3⟩ : ∃ q, q = v / 65536 := ⟨_, rfl⟩
  obtain ⟨b2, e4⟩ : ∃ q, q = q2 % 256 := ⟨_, rfl⟩
  obtain ⟨q3, e5⟩ : ∃ q, q = v / 16777216 := ⟨_, rfl⟩
  obtain ⟨b3, e6⟩ : ∃ q, q = q3 % 256 := ⟨_, rfl⟩
  have hw : (wd v).map bv = [.int .u8 (b0 : Int), .int .u8 (b1 : Int), .int .u8 (b2 : Int), .int .u8 (b3 : Int)] := by
    rw [e6, e5, e4, e3, e2, e1, e0]
    show [bv _, bv _, bv _, bv _] = _
    rw [byte_eq (by omega), byte_eq (by omega), byte_eq (by omega), byte_eq (by omega)]
  have HW := Lib.hid hw
  have HO := Lib.hid hF
  have hg := (full_cell hF (show k < n by omega)).2.2
  have c0 : (v : Int) % 256 = (b0 : Int) := by omega
  have c0b : IntKind.u8.wrap (v : Int) = (b0 : Int) := by rw [wraps_u8', ← e0]
  have c1 : (v : Int) / 2 ^ 8 = (q1 : Int) := by rw [show ((2 : Int) ^ 8) = 256 from rfl]; omega
  have c1b : (v : Int) / 256 = (q1 : Int) := by omega
  have c1c : (v : Int) / 2 ^ min 8 64 = (q1 : Int) := c1
  have c1d : (q1 : Int) % 256 = (b1 : Int) := by omega
  have c1e : IntKind.u8.wrap (q1 : Int) = (b1 : Int) := by rw [wraps_u8', ← e2]
  have c2 : (v : Int) / 2 ^ 16 = (q2 : Int) := by rw [show ((2 : Int) ^ 16) = 65536 from rfl]; omega
  have c2b : (v : Int) / 65536 = (q2 : Int) := by omega
  have c2c : (v : Int) / 2 ^ min 16 64 = (q2 : Int) := c2
  have c2d : (q2 : Int) % 256 = (b2 : Int) := by omega
  have c2e : IntKind.u8.wrap (q2 : Int) = (b2 : Int) := by rw [wraps_u8', ← e4]
  have c3 : (v : Int) / 2 ^ 24 = (q3 : Int) := by rw [show ((2 : Int) ^ 24) = 16777216 from rfl]; omega
  have c3b : (v : Int) / 16777216 = (q3 : Int) := by omega
  have c3c : (v : Int) / 2 ^ min 24 64 = (q3 : Int) := c3
  have c3d : (q3 : Int) % 256 = (b3 : Int) := by omega
  have c3e : IntKind.u8.wrap (q3 : Int) = (b3 : Int) := by rw [wraps_u8', ← e6]
  clear hi0 hz0 hz1 hz2 hw hF e0 e1 e2 e3 e4 e5 e6
  go_enter Tryd.func56, Tryd.ntmps56
  go_wp2_with (first | (at_builtin; (refine wpList_app_full rfl (.tmp 5) (.tmp 17) rfl i0 HI.out HZ1.out g n k L (wd v) rfl (full_gr HO.out ((Below.refl _ _).alloc (Nat.le_refl _) _)) ⟨W.heap.size, 0, none⟩ 4 4 rfl rfl (by rw [HW.out]; exact cells_new _ _ _ _ rfl) hk ?_); intro u2 w2 F2 K2; (have HF2 := Lib.hid F2); (have HK2 := Lib.hid K2); clear F2 K2))
  go_ret
  refine ⟨rfl, HF2.out, ?_⟩
  exact (Kx.of_gr ((Below.refl _ _).alloc (Nat.le_refl _) _)).trans HK2.out
end Go.Proofs.YtilijbplfobneaaDoor
