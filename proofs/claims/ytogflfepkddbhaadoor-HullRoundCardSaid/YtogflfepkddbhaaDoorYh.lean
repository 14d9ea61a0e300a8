/- hull: check; points are refused by their number, then by the limit of each -/
import Derived.Test.YtogflfepkddbhaaDoorYg
namespace Go.Proofs.YtogflfepkddbhaaDoor
set_option linter.unusedVariables false
open Go.ChangeShapes Go.WideShapes Go.ChangeAt Go.RowKit

abbrev hullS : ByteArray := ⟨#[104, 117, 108, 108]⟩
/-- What is said of points, of which there must be least: a number, and who is to blame. -/
def mnC (least n : Nat) (X Y : Nat → Int) : Nat × Nat :=
  if n < least then (1, n)
  else if 1000 < n then (13, n)
  else match (List.range n).find? (fun i => !nearB (X i) (Y i)) with
    | some i => (2, i)
    | none => (0, 0)
theorem mnC_1 {least n : Nat} {X Y : Nat → Int} (h : n < least) : mnC least n X Y = (1, n) := by unfold mnC; rw [if_pos h]
theorem mnC_13 {least n : Nat} {X Y : Nat → Int} (h : ¬ n < least) (h2 : 1000 < n) : mnC least n X Y = (13, n) := by unfold mnC; rw [if_neg h, if_pos h2]
theorem mnC_2 {least n : Nat} {X Y : Nat → Int} (h : ¬ n < least) (h2 : ¬ 1000 < n) {i : Nat} (hi : i < n) (h1 : nearB (X i) (Y i) = false) (h3 : ∀ k, k < i → nearB (X k) (Y k) = true) : mnC least n X Y = (2, i) := by
  unfold mnC; rw [if_neg h, if_neg h2, Rg.find_some hi (by rw [h1]; rfl) (fun k hk => by rw [h3 k hk]; rfl)]
theorem mnC_0 {least n : Nat} {X Y : Nat → Int} (h : ¬ n < least) (h2 : ¬ 1000 < n) (h3 : ∀ k, k < n → nearB (X k) (Y k) = true) : mnC least n X Y = (0, 0) := by
  unfold mnC; rw [if_neg h, if_neg h2, Rg.find_none (fun k hk => by rw [h3 k hk]; rfl)]
theorem mnC_ok {least n : Nat} {X Y : Nat → Int} : (mnC least n X Y).1 = 0 ↔ least ≤ n ∧ n ≤ 1000 ∧ ∀ k, k < n → nearB (X k) (Y k) = true := by
  constructor
  · intro h
    unfold mnC at h
    by_cases h1 : n < least
    · rw [if_pos h1] at h; cases h
    rw [if_neg h1] at h
    by_cases h2 : 1000 < n
    · rw [if_pos h2] at h; cases h
    rw [if_neg h2] at h
    refine ⟨by omega, by omega, fun k hk => ?_⟩
    cases e : (List.range n).find? (fun i => !nearB (X i) (Y i)) with
    | some i => rw [e] at h; cases h
    | none =>
      have := List.find?_range_eq_none.1 e k hk
      simpa using this
  · rintro ⟨h1, h2, h3⟩
    rw [mnC_0 (by omega) (by omega) h3]
theorem mnC_code {least n : Nat} {X Y : Nat → Int} (h : (mnC least n X Y).1 ≠ 0) : 1 ≤ (mnC least n X Y).1 ∧ (mnC least n X Y).1 ≤ 15 := by
  refine ⟨by omega, ?_⟩
  unfold mnC
  split
  · show (1 : Nat) ≤ 15; decide
  · split
    · show (13 : Nat) ≤ 15; decide
    · split <;> simp
/-- check's answer. -/
def MnTo (W : World) (least n : Nat) (X Y : Nat → Int) (e : Ending) (w' : World) : Prop := ∃ x, e = .returned x ∧ AErr hullS w' x (mnC least n X Y).2 (mnC least n X Y).1 ∧ Gr W w'
theorem mnTo_err {W w' : World} {least n : Nat} {X Y : Nat → Int} {k id B : Nat} (e : mnC least n X Y = (k, id)) (h1 : 1 ≤ k ∧ k ≤ 15) (hF : FaultAt w' B hullS id k) (g : Gr W w') :
    MnTo W least n X Y (.returned (.iface 72 (.pointer (some ⟨B, 0, none⟩)))) w' := by
  refine ⟨_, rfl, ?_, g⟩
  rw [e]
  exact Or.inr ⟨B, rfl, h1.1, h1.2, hF⟩
set_option maxRecDepth 100000 in
theorem hl_fNew (op : ByteArray) (id k : Int) (W : World) : Calls Tryd.prog 47 #[.string op, .int .i64 id, .iface 78 (.int .i64 k)] W fun e w' => ∃ B, e = .returned (.iface 72 (.pointer (some ⟨B, 0, none⟩))) ∧ FaultAt w' B op id k ∧ Gr W w' := by
  go_enter Tryd.func47, Tryd.ntmps47
  go_wp2_with fail
  go_ret
  exact ⟨_, rfl, ⟨by go_simp, by go_simp, by go_simp⟩, by go_grown⟩
set_option maxHeartbeats 8000000 in
set_option maxRecDepth 100000 in
theorem c_hCheck {n : Nat} {X Y : Nat → Int} {v : Value} (least : Nat) (W : World) (h : Pts W v n X Y) (hl : least ≤ 1000) :
    Calls Tryd.prog 24 #[v, .int .i64 least] W (MnTo W least n X Y) := by
  obtain ⟨ad, cap, B, off, rfl, h1, h2, h3, h4⟩ := h
  have h2i : (n : Int) ≤ 9223372036854775807 := by omega
  by_cases c1 : n < least
  · have t1 : decide ((n : Int) < (least : Int)) = true := decide_eq_true (by omega)
    have t2 : (n : Int) < (least : Int) := by omega
    have hk := mnC_1 (X := X) (Y := Y) c1
    have HK := Lib.hid hk
    clear hk h3 h4
    go_enter Tryd.func24, Tryd.ntmps24
    go_wp2_with fail
    go_at_call 47
    (with_reducible refine (hl_fNew hullS n 1 _).mono ?_)
    rintro e w1 ⟨B1, rfl, hFa, g1⟩
    have G1 : Gr W w1 := Gr.trans (by go_grown) g1
    go_wp2_with fail
    go_ret
    exact mnTo_err HK.out (by decide) hFa G1
  have t1 : decide ((n : Int) < (least : Int)) = false := decide_eq_false (by omega)
  have t2 : ¬ (n : Int) < (least : Int) := by omega
  by_cases c2 : 1000 < n
  · have t3 : decide ((1000 : Int) < (n : Int)) = true := decide_eq_true (by omega)
    have t4 : (1000 : Int) < (n : Int) := by omega
    have hk := mnC_13 (X := X) (Y := Y) c1 c2
    have HK := Lib.hid hk
    clear hk h3 h4
    go_enter Tryd.func24, Tryd.ntmps24
    go_wp2_with fail
    go_at_call 47
    (with_reducible refine (hl_fNew hullS n 13 _).mono ?_)
    rintro e w1 ⟨B1, rfl, hFa, g1⟩
    have G1 : Gr W w1 := Gr.trans (by go_grown) g1
    go_wp2_with fail
    go_ret
    exact mnTo_err HK.out (by decide) hFa G1
  have t3 : decide ((1000 : Int) < (n : Int)) = false := decide_eq_false (by omega)
  have t4 : ¬ (1000 : Int) < (n : Int) := by omega
  have hn1 : (n : Int) ≤ 1000 := by omega
  have HC1 := Lib.hid c1
  have HC2 := Lib.hid c2
  have HX := Lib.hid h4
  have HA := Lib.hid h3
  clear h3 h4 c1 c2
  go_enter Tryd.func24, Tryd.ntmps24
  go_wp2_with fail
  go_loopg [27] n (fun k y wr => ∃ i : Nat, y = .int .i64 i ∧ i ≤ n ∧ k = n - i ∧ (∀ m, m < i → nearB (X m) (Y m) = true) ∧ Gr W wr)
  case atStart => exact ⟨0, rfl, Nat.zero_le _, by omega, fun m hm => absurd hm (by omega), by go_grown⟩
  case round =>
    obtain ⟨i, rfl, hi, hk, hnr, hg⟩ := hrel
    have HNR := Lib.hid hnr
    clear hnr
    by_cases hin : i < n
    · have ti : decide ((i : Int) < (n : Int)) = true := decide_eq_true (by omega)
      have ti2 : decide (i < n) = true := decide_eq_true hin
      have ti3 : (i : Int) < (n : Int) := by omega
      obtain rfl := HA.out (by omega)
      obtain ⟨k0, k1⟩ := HX.out i hin
      have p0 := cell_gr hg k0
      have p1 := cell_gr hg k1
      have CP := c_CheckPoint (X i) (Y i)
      have hmm : n - (i + 1) < gk := by omega
      clear k0 k1 hk
      cases hq : nearB (X i) (Y i)
      · rw [hq, if_neg (by decide)] at CP
        have hk := mnC_2 HC1.out HC2.out hin hq HNR.out
        have HC := Lib.hid CP
        have HK := Lib.hid hk
        generalize X i = x at p0 HC
        generalize Y i = y at p1 HC
        clear CP hk hq
        go_wp2_with fail
        go_at_call 48
        (with_reducible refine (HC.out _).mono ?_)
        rintro e w1 ⟨rfl, g1⟩
        have G1 : Gr W w1 := Gr.trans (Gr.trans hg (by go_grown)) g1
        go_wp2_with fail
        go_at_call 47
        (with_reducible refine (hl_fNew hullS i 2 _).mono ?_)
        rintro e w2 ⟨B1, rfl, hFa, g2⟩
        go_wp2_with fail
        go_ret
        exact mnTo_err HK.out (by decide) hFa (Gr.trans G1 (Gr.trans (by go_grown) g2))
      · rw [hq, if_pos rfl] at CP
        have hnx : ∀ m, m < i + 1 → nearB (X m) (Y m) = true := fun m hm => by
          rcases Nat.lt_succ_iff_lt_or_eq.1 hm with h | rfl
          · exact HNR.out m h
          · exact hq
        have HC := Lib.hid CP
        have HNX := Lib.hid hnx
        generalize X i = x at p0 HC
        generalize Y i = y at p1 HC
        clear CP hq hnx
        go_wp2_with fail
        go_at_call 48
        (with_reducible refine (HC.out _).mono ?_)
        rintro e w1 ⟨rfl, g1⟩
        have G1 : Gr W w1 := Gr.trans (Gr.trans hg (by go_grown)) g1
        go_wp2_with fail
        go_roundg (n - (i + 1))
        case measure => exact hmm
        case rel => exact ⟨i + 1, by go_num, hin, rfl, HNX.out, G1⟩
    · obtain rfl : n = i := by omega
      have ti : decide ((n : Int) < (n : Int)) = false := decide_eq_false (by omega)
      have ti2 : decide (n < n) = false := decide_eq_false (by omega)
      have hk := mnC_0 HC1.out HC2.out HNR.out
      have HK := Lib.hid hk
      clear hk hin
      go_wp2_with fail
      go_ret
      exact ⟨_, rfl, by rw [HK.out]; exact Or.inl ⟨rfl, rfl⟩, hg⟩
theorem hcheck_ok {n : Nat} {X Y : Nat → Int} {v : Value} (least : Nat) (l : Int) (el : l = (least : Int)) (W : World) (h : Pts W v n X Y) (hl : least ≤ 1000) (h0 : (mnC least n X Y).1 = 0) : ∀ w, Gr W w → Calls Tryd.prog 24 #[v, .int .i64 l] w fun e w' => e = .returned .nilIface ∧ Gr w w' := fun w g =>
  el ▸
  (c_hCheck least w (pts_gr h g) hl).mono fun e w' ⟨x, he, hA, hg⟩ => by
    rcases hA with ⟨hx, -⟩ | ⟨B, -, h1, -⟩
    · exact ⟨by rw [he, hx], hg⟩
    · omega
theorem hcheck_no {n : Nat} {X Y : Nat → Int} {v : Value} (least : Nat) (l : Int) (el : l = (least : Int)) (W : World) (h : Pts W v n X Y) (hl : least ≤ 1000) (h0 : (mnC least n X Y).1 ≠ 0) : ∀ w, Gr W w → Calls Tryd.prog 24 #[v, .int .i64 l] w fun e w' => ∃ B, e = .returned (.iface 72 (.pointer (some ⟨B, 0, none⟩))) ∧ FaultAt w' B hullS (mnC least n X Y).2 (mnC least n X Y).1 ∧ Gr w w' := fun w g =>
  el ▸
  (c_hCheck least w (pts_gr h g) hl).mono fun e w' ⟨x, he, hA, hg⟩ => by
    rcases hA with ⟨-, hx⟩ | ⟨B, hx, h1, h2, hF⟩
    · exact absurd hx h0
    · exact ⟨B, by rw [he, hx], hF, hg⟩
end Go.Proofs.YtogflfepkddbhaaDoor
