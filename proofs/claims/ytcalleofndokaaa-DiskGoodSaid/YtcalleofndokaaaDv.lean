/- DiskGood: what a crash leaves of a sector; the walk -/
import Derived.Test.YtcalleofndokaaaDu
namespace Go.Proofs.Ytcalleofndokaaa
set_option linter.unusedVariables false
set_option linter.unusedSimpArgs false
open Go.ChangeShapes Go.WideShapes Go.ChangeAt Go.RowKit Go.Maps

theorem wr_readG (d : Dk) (k : Nat) (L : List UInt8) (j : Nat) : (d.wr k L).read j = if j = k then L else d.read j := by
  unfold Dk.read
  show (if j ∈ d.wrO k then (if j = k then L else d.F j) else sec d.good j) = _
  by_cases e : j = k
  · rw [if_pos e, if_pos e, if_pos (wrO_mem.2 (Or.inl e))]
  · rw [if_neg e, if_neg e]
    by_cases h : j ∈ d.ord
    · rw [if_pos h, if_pos (wrO_mem.2 (Or.inr h))]
    · rw [if_neg h, if_neg (fun h' => by rcases wrO_mem.1 h' with h' | h'; exact e h'; exact h h')]
/-- Half of what was to be, and half of what was. -/
def halfs (N B : List UInt8) : List UInt8 := N.take 32 ++ B.drop 32
theorem crash_sec {d : Dk} (ok : d.ok) (keep : List Bool) (torn : Int) : ∃ t : Nat, ∀ k, k < d.n →
    (sec (crG d (crM keep torn) d.ord.length) k = sec d.good k ∨ sec (crG d (crM keep torn) d.ord.length) k = d.read k ∨ (sec (crG d (crM keep torn) d.ord.length) k = halfs (d.read k) (sec d.good k) ∧ k = t)) ∧
    (keep.length = 0 → torn < 0 → sec (crG d (crM keep torn) d.ord.length) k = sec d.good k) := by
  refine ⟨d.ord.getD torn.toNat 0, fun k hk => ?_⟩
  obtain ⟨h1, h2⟩ := crG_sec ok (crM keep torn) d.ord.length (Nat.le_refl _) k hk
  by_cases hin : k ∈ d.ord
  · have hr : d.read k = d.F k := by unfold Dk.read; rw [if_pos hin]
    obtain ⟨j, hj, e⟩ := List.getElem_of_mem hin
    have hg : d.ord.getD j 0 = k := by rw [List.getD_eq_getElem?_getD, List.getElem?_eq_getElem hj]; exact e
    rw [h1 j hj hg, hr]
    unfold crM crSec
    by_cases ht : (j : Int) = torn
    · rw [if_pos ht]
      refine ⟨Or.inr (Or.inr ⟨rfl, ?_⟩), fun _ h => by omega⟩
      rw [← ht, Int.toNat_natCast, hg]
    · rw [if_neg ht]
      by_cases hk2 : 0 < keep.length ∧ keep.getD (j % keep.length) false = true
      · rw [if_pos hk2]
        exact ⟨Or.inr (Or.inl rfl), fun h => by omega⟩
      · rw [if_neg hk2]
        exact ⟨Or.inl rfl, fun _ _ => rfl⟩
  · have h3 := h2 fun j hj e => hin (by rw [← e]; exact (ord_at ok hj).1)
    exact ⟨Or.inl h3, fun _ _ => h3⟩
/-- The first loop: what is there is what was written. -/
def Goo1 (W w : World) (p n i : Nat) (vA vB : Value) : Prop :=
  ∃ q bm M d xs ys FA FB vL L, GoodS W w p vA i FA vB i FB vL L q bm M d xs ys ∧ Plain d n i ∧ ∀ k, k < i → d.read k = blk (k : Nat) 64 ∧ FA k = blk (k : Nat) 64 ∧ FB k = blk (k : Nat) 64
/-- The second one. -/
def Goo2 (W w : World) (p n i : Nat) (vA vB : Value) : Prop :=
  ∃ q bm M d xs ys FA FB vL L, GoodS W w p vA n FA vB n FB vL L q bm M d xs ys ∧ Plain d n i ∧ ∀ k, k < n → sec d.good k = blk (k : Nat) 64 ∧ FA k = blk (k : Nat) 64 ∧ FB k = d.read k
theorem read_row {w : World} {ad : Option Addr} {m c : Nat} {L : List UInt8} (h : Row w (.slice ad m c) L) : L.length = m := by
  obtain ⟨_, _, _, _, e, _⟩ := h; simp only [Value.slice.injEq] at e; exact e.2.1.symm
theorem row_drop {w : World} {B off c : Nat} {L : List UInt8} (h : Row w (.slice (some ⟨B, off, none⟩) L.length c) L) (k : Nat) (hk : k ≤ L.length) : Row w (.slice (some ⟨B, off + k, none⟩) (L.length - k) (c - k)) (L.drop k) := by
  obtain ⟨ad', c', B', off', e, h1, h2, h3, h4⟩ := h
  simp only [Value.slice.injEq] at e
  obtain ⟨rfl, -, rfl⟩ := e
  have hl : (L.drop k).length = L.length - k := List.length_drop ..
  refine ⟨some ⟨B, off + k, none⟩, c - k, B, off + k, by rw [hl], by omega, by omega, fun h => rfl, fun j hj => ?_⟩
  rw [hl] at hj
  have e2 := h3 (by omega)
  simp only [Option.some.injEq, Addr.mk.injEq, and_true] at e2
  obtain ⟨rfl, rfl⟩ := e2
  have := h4 (k + j) (by omega)
  rw [Nat.add_assoc, this, List.getElem_drop]
set_option maxHeartbeats 4000000 in
set_option maxRecDepth 100000 in
theorem good_core (W : World) (n : Nat) (L1 : List Int) (v1 : Value) (L2 : List Bool) (v2 : Value) (torn : Int) (h1 : IntsR W v1 L1) (h2 : Bools W v2 L2) (n1 : 1 ≤ n) (n2 : n ≤ 20) (l1 : L1.length ≤ 60) (l2 : L2.length ≤ 60) : Calls Try.prog 8 #[.int .i64 n, v1, v2, .int .i64 torn] W fun e w' => e = .returned (.bool true) ∧ Gr W w' := by
  obtain ⟨i0, hi0, hz0, hz1, hz2⟩ := info_parts (P := Try.prog) (e := 30) (z := .slice none 0 0) (size := 1) (bytes := 24) (by kernel_rfl)
  have HI := Lib.hid (And.intro hi0 (And.intro hz0 (And.intro hz1 hz2)))
  clear hi0 hz0 hz1 hz2
  have HB2 := Lib.hid h2
  obtain ⟨ad2, cap2, rfl⟩ := bools_form h2
  obtain ⟨ad0, cap0, B0, off0, rfl, c1, c2, c3, c4, c5⟩ := h1
  have HI0 := Lib.hid (And.intro c4 c5)
  have AR : ∀ z : Int, (-9223372036854775808 ≤ z ∧ z ≤ 9223372036854775807) → ∀ w, Calls Try.prog 15 #[.int .i64 z, .int .i64 n] w fun e w' => ∃ k : Nat, k < n ∧ e = .returned (.int .i64 (k : Nat)) ∧ Gr w w' := fun z h w => c_RoundK z n (by omega) (by omega) h w
  have AN : ∀ w, Gr W w → Calls Try.prog 22 #[.int .i64 n] w fun e w' => ∃ p, e = .returned (.tuple #[.pointer (some ⟨p, 0, none⟩), .nilIface]) ∧ LawD W w' p (dk0 n (List.replicate (n * 64) 0)) ∧ Gr W w' := fun w g => lawD_new n n1 (by omega) g
  have AB : ∀ i : Nat, i ≤ 1000 → ∀ w, Calls Try.prog 12 #[.int .i64 64, .int .i64 (i : Nat)] w fun e w' => e = .returned (.slice (some ⟨w.heap.size, 0, none⟩) 64 64) ∧ Own w' w.heap.size (.slice (some ⟨w.heap.size, 0, none⟩) 64 64) (blk (i : Nat) 64) ∧ Gr w w' := fun i hi w => c_Block 64 (by decide) i (by omega) w
  have HR := Lib.hid AR
  have HN := Lib.hid AN
  have HBk := Lib.hid AB
  clear AR AN AB c2 c4 c5 h2
  obtain ⟨m, hm⟩ : ∃ m, m = L1.length := ⟨_, rfl⟩
  rw [← hm] at l1 c1 c3 ⊢
  have HL0 := Lib.hid hm
  clear hm
  have t1 : decide ((n : Int) < 1) = false := decide_eq_false (by omega)
  have t2 : decide ((20 : Int) < (n : Int)) = false := decide_eq_false (by omega)
  have t3 : decide ((60 : Int) < (m : Int)) = false := decide_eq_false (by omega)
  have t3b : decide ((60 : Int) < (L2.length : Int)) = false := decide_eq_false (by omega)
  have t4 : ¬ (20 : Int) < (n : Int) := by omega
  have t5 : ¬ (60 : Int) < (m : Int) := by omega
  have t6 : ¬ (60 : Int) < (L2.length : Int) := by omega
  have n0 : (0 : Int) ≤ (n : Int) := by omega
  go_enter Try.func8, Try.ntmps8
  go_wp2_with fail
  go_at_call 22
  refine (HN.out _ (by go_grown)).mono ?_
  rintro e w1 ⟨p, rfl, hd, G1⟩
  have HD1 : Hid (Goo1 W w1 p n 0 (.slice none 0 0) (.slice none 0 0)) := Lib.hid (by
    obtain ⟨q, bm, M, h3, h4⟩ := hd
    exact ⟨q, bm, M, _, [], [], fun _ => [], fun _ => [], .slice none 0 0, [], ⟨h3, h4, World.ownsRow_nil _ _ _ _, World.ownsRow_nil _ _ _ _, fun j hj => by omega, fun j hj => by omega, rowOff_own (own_nil w1 w1.heap.size) (diskS_zlt h3), fun k hk => (by cases hk), fun k hk => (by cases hk), fun k hk => (by cases hk)⟩, plain_new _ _, fun k hk => by omega⟩)
  clear hd
  go_wp2_with fail
  go_loopg [11, 12, 13] n (fun j a b x wr => ∃ i : Nat, x = .int .i64 i ∧ i ≤ n ∧ j = n - i ∧ Hid (Goo1 W wr p n i a b) ∧ Gr W wr)
  case atStart => exact ⟨0, rfl, by omega, by omega, HD1, G1⟩
  case round =>
    obtain ⟨i, rfl, hi, hj, HD, hg⟩ := hrel
    by_cases hin : i < n
    · have ti : decide ((i : Int) < (n : Int)) = true := decide_eq_true (by omega)
      have ti2 : decide (i < n) = true := decide_eq_true hin
      have ti3 : (i : Int) < (n : Int) := by omega
      have ABi := Lib.hid (HBk.out i (by omega))
      go_wp2_with fail
      go_at_call 12
      refine (ABi.out _).mono ?_
      rintro e w3 ⟨rfl, o3, g3⟩
      have G3 : Gr W w3 := Gr.trans hg g3
      have AW : Calls Try.prog 23 #[.pointer (some ⟨p, 0, none⟩), .int .i64 (i : Nat), .slice (some ⟨wr.heap.size, 0, none⟩) 64 64] w3 fun e w' => e = .returned .nilIface ∧
          (∃ q bm M d xs ys FA FB, GoodS W w' p u11 i FA u12 i FB (.slice (some ⟨wr.heap.size, 0, none⟩) 64 64) (blk (i : Nat) 64) q bm M d xs ys ∧ Plain d n (i + 1) ∧ ∀ k, (k < i + 1 → d.read k = blk (k : Nat) 64) ∧ (k < i → FA k = blk (k : Nat) 64 ∧ FB k = blk (k : Nat) 64)) ∧ Gr W w' := by
        obtain ⟨q, bm, M, d, xs, ys, FA, FB, vL, L, hS, hP, hF⟩ := HD.out
        refine (good_write (k := i) (goodS_loose hS g3 o3) G3 (by rw [hP.n]; exact hin) (plain_on hP) (by rw [hP.ops]; omega) (blk_len (i : Nat) 64)).mono ?_
        rintro e w' ⟨rfl, ⟨M', h⟩, g⟩
        refine ⟨rfl, ⟨q, bm, M', _, xs, ys, FA, FB, h, plain_wr hP _ _, fun k => ⟨fun hk => ?_, fun hk => (hF k hk).2⟩⟩, g⟩
        rw [wr_readG]
        by_cases e : k = i
        · rw [if_pos e, e]
        · rw [if_neg e]
          exact (hF k (by omega)).1
      have HW := Lib.hid AW
      clear AW o3 g3
      go_wp2_with fail
      go_at_call 23
      refine (HW.out).mono ?_
      rintro e w4 ⟨rfl, ⟨q, bm, M, d, xs, ys, FA, FB, hS, hP, hF⟩, G4⟩
      have HS := Lib.hid hS
      have HF := Lib.hid (And.intro hP hF)
      clear hS hP hF HW
      go_wp2_with (first | (at_builtin; (refine wpList_append_own2 _ rfl (.tmp 66) (.tmp 68) 40 rfl 0 30 i0 (.slice none 0 0) 1 24 Try.underlying40 HI.out.1 HI.out.2.1 HI.out.2.2.1 HI.out.2.2.2 rfl (by decide) u11 i xs rfl (rowOwn_gr HS.out.rA (by go_grown)) ⟨w4.heap.size, 0, none⟩ 1 1 [.slice (some ⟨wr.heap.size, 0, none⟩) 64 64] rfl rfl (cell_one_new _ _ _) (by intro u hu; simp only [List.mem_cons, List.not_mem_nil, or_false] at hu; subst hu; rfl) (by unfold maxLen; omega) (by omega) (by simp) ?_); intro x5 w5 o5 g5; (have HS5 := Lib.hid (goodS_grow HS.out ((Below.refl _ _).alloc (Nat.le_refl _) _) G4 o5 g5)); (have G5 := goodS_growG HS.out ((Below.refl _ _).alloc (Nat.le_refl _) _) G4 g5); clear o5 g5) | (at_builtin; (refine wpList_append_own2 _ rfl (.tmp 70) (.tmp 72) 40 rfl 0 30 i0 (.slice none 0 0) 1 24 Try.underlying40 HI.out.1 HI.out.2.1 HI.out.2.2.1 HI.out.2.2.2 rfl (by decide) u12 i ys rfl (rowOwn_gr HS5.out.rB (by go_grown)) ⟨w5.heap.size, 0, none⟩ 1 1 [.slice (some ⟨wr.heap.size, 0, none⟩) 64 64] rfl rfl (cell_one_new _ _ _) (by intro u hu; simp only [List.mem_cons, List.not_mem_nil, or_false] at hu; subst hu; rfl) (by unfold maxLen; omega) (by omega) (by simp) ?_); intro x6 w6 o6 g6; (have HS6 := Lib.hid (goodS_swap (goodS_grow (goodS_swap HS5.out) ((Below.refl _ _).alloc (Nat.le_refl _) _) G5 o6 g6))); (have G6 := goodS_growG (goodS_swap HS5.out) ((Below.refl _ _).alloc (Nat.le_refl _) _) G5 g6); clear o6 g6))
      have HD6 : Hid (Goo1 W w6 p n (i + 1) x5 x6) := Lib.hid (by
        obtain ⟨hP, hF⟩ := HF.out
        refine ⟨_, _, _, _, _, _, _, _, _, _, HS6.out, hP, fun k hk => ⟨(hF k).1 hk, ?_, ?_⟩⟩
        · by_cases e : k = i
          · rw [if_pos e, e]
          · rw [if_neg e]; exact ((hF k).2 (by omega)).1
        · by_cases e : k = i
          · rw [if_pos e, e]
          · rw [if_neg e]; exact ((hF k).2 (by omega)).2)
      clear HS HS5 HS6 HF G4 G5
      go_wp2_with fail
      go_roundg (n - (i + 1))
      case measure => omega
      case rel => exact ⟨i + 1, by go_num, by omega, by omega, HD6, G6⟩
    · obtain rfl : i = n := by omega
      have ti : decide ((i : Int) < (i : Int)) = false := decide_eq_false (by omega)
      have ti3 : ¬ (i : Int) < (i : Int) := by omega
      have AS : ∃ C1 k1 C2 k2, u11 = .slice (some ⟨C1, 0, none⟩) i k1 ∧ u12 = .slice (some ⟨C2, 0, none⟩) i k2 ∧ (i ≤ k1 ∧ (k1 : Int) ≤ 9223372036854775807) ∧ (i ≤ k2 ∧ (k2 : Int) ≤ 9223372036854775807) ∧
          Calls Try.prog 29 #[.pointer (some ⟨p, 0, none⟩)] wr fun e w' => e = .returned .nilIface ∧ Goo2 W w' p i (i + 1) (.slice (some ⟨C1, 0, none⟩) i k1) (.slice (some ⟨C2, 0, none⟩) i k2) ∧ Gr W w' := by
        obtain ⟨q, bm, M, d, xs, ys, FA, FB, vL, L, hS, hP, hF⟩ := HD.out
        obtain ⟨C1, k1, rfl, -, -, a1, a2⟩ := row_form hS.rA (by omega)
        obtain ⟨C2, k2, rfl, -, -, b1, b2⟩ := row_form hS.rB (by omega)
        refine ⟨C1, k1, C2, k2, rfl, rfl, ⟨a1, a2⟩, ⟨b1, b2⟩, ?_⟩
        refine (good_sync hS hg (plain_on hP) (by rw [hP.ops]; omega)).mono ?_
        rintro e w' ⟨rfl, ⟨X, hX, h⟩, g⟩
        refine ⟨rfl, ⟨q, bm, M, _, xs, ys, FA, FB, vL, L, h, ⟨hP.n, hP.on, hP.cut, by show d.ops + 1 = i + 1; rw [hP.ops]⟩, fun k hk => ?_⟩, g⟩
        obtain ⟨f1, f2, f3⟩ := hF k hk
        have hx : sec X k = blk (k : Nat) 64 := by rw [hX k (by rw [hP.n]; exact hk), f1]
        refine ⟨hx, f2, ?_⟩
        rw [f3]
        unfold Dk.read
        rw [if_neg (by exact List.not_mem_nil)]
        exact hx.symm
      obtain ⟨C1, k1, C2, k2, rfl, rfl, ⟨a1, a2⟩, ⟨b1, b2⟩, AS⟩ := AS
      have HY := Lib.hid AS
      clear AS HD
      go_wp2_with fail
      go_at_call 29
      refine (HY.out).mono ?_
      rintro e w2 ⟨rfl, hd2, G2⟩
      have HD2 := Lib.hid hd2
      clear hd2 HY hg
      go_wp2_with fail
      go_loopg [15] m (fun j x wr => ∃ k : Nat, x = .int .i64 k ∧ k ≤ m ∧ j = m - k ∧ Hid (Goo2 W wr p i (i + 1 + k) (.slice (some ⟨C1, 0, none⟩) i k1) (.slice (some ⟨C2, 0, none⟩) i k2)) ∧ Gr W wr)
      case atStart => exact ⟨0, rfl, by omega, by omega, HD2, G2⟩
      case round =>
        obtain ⟨k, rfl, hk, hkj, HD, hg2⟩ := hrel
        by_cases hkm : k < m
        · have ti : decide ((k : Int) < (m : Int)) = true := decide_eq_true (by omega)
          have ti2 : decide (k < m) = true := decide_eq_true hkm
          have ti3 : (k : Int) < (m : Int) := by omega
          have ti4 : (k : Int) < (cap0 : Int) := by omega
          obtain rfl := c3 (by omega)
          have q0 := cell_gr hg2 (HI0.out.1 k (by rw [← HL0.out]; exact hkm))
          have ARi := Lib.hid (HR.out (L1.getD k 0) (HI0.out.2 k))
          generalize L1.getD k 0 = z at q0 ARi
          have AB5 := HBk.out (100 + k) (by omega)
          rw [show ((100 + k : Nat) : Int) = 100 + (k : Int) by omega] at AB5
          have ABi := Lib.hid AB5
          clear AB5
          obtain ⟨f1, f2⟩ : wrap64 (100 + (k : Int)) = 100 + (k : Int) ∧ IntKind.i64.wrap (100 + (k : Int)) = 100 + (k : Int) := ⟨wr_small (by omega), wk_small (by omega)⟩
          go_wp2_with fail
          go_at_call 15
          refine (ARi.out _).mono ?_
          rintro e w3 ⟨a, ha, rfl, g3⟩
          have a8 : (a : Int) < (i : Int) := Int.ofNat_lt.2 ha
          have a9 : (0 : Int) ≤ (a : Int) := Int.natCast_nonneg a
          have a10 : (a : Int) < (k2 : Int) := by omega
          have G23 : Gr wr w3 := g3
          clear g3
          go_wp2_with fail
          go_at_call 12
          refine (ABi.out _).mono ?_
          rintro e w4 ⟨rfl, o4, g4⟩
          have G4 : Gr W w4 := Gr.trans (Gr.trans hg2 G23) g4
          clear f1 f2
          have AW : Calls Try.prog 23 #[.pointer (some ⟨p, 0, none⟩), .int .i64 (a : Nat), .slice (some ⟨w3.heap.size, 0, none⟩) 64 64] w4 fun e w' => e = .returned .nilIface ∧
              (∃ q bm M d xs ys FA FB, GoodS W w' p (.slice (some ⟨C1, 0, none⟩) i k1) i FA (.slice (some ⟨C2, 0, none⟩) i k2) i FB (.slice (some ⟨w3.heap.size, 0, none⟩) 64 64) (blk (100 + (k : Int)) 64) q bm M d xs ys ∧ Plain d i (i + 1 + (k + 1)) ∧
                (∀ j, j < i → (FB j).length = 64) ∧ ∀ j, j < i → sec d.good j = blk (j : Nat) 64 ∧ FA j = blk (j : Nat) 64 ∧ d.read j = if j = a then blk (100 + (k : Int)) 64 else FB j) ∧ Gr W w' := by
            obtain ⟨q, bm, M, d, xs, ys, FA, FB, vL, L, hS, hP, hF⟩ := HD.out
            refine (good_write (k := a) (goodS_loose (goodS_gr hS G23) g4 o4) G4 (by rw [hP.n]; exact ha) (plain_on hP) (by rw [hP.ops]; omega) (blk_len _ 64)).mono ?_
            rintro e w' ⟨rfl, ⟨M', h⟩, g⟩
            refine ⟨rfl, ⟨q, bm, M', _, xs, ys, FA, FB, h, plain_wr hP _ _, fun j hj => ?_, fun j hj => ⟨(hF j hj).1, (hF j hj).2.1, ?_⟩⟩, g⟩
            · rw [(hF j hj).2.2]; exact read_len hS.disk.ok (by rw [hP.n]; exact hj)
            · rw [wr_readG, (hF j hj).2.2]
              rfl
          have HW := Lib.hid AW
          clear AW o4 g4
          go_wp2_with fail
          go_at_call 23
          refine (HW.out).mono ?_
          rintro e w5 ⟨rfl, ⟨q, bm, M, d, xs, ys, FA, FB, hS, hP, hFl, hF⟩, G5⟩
          obtain ⟨⟨xB, xo, xc, e1, -⟩, e2, e3⟩ := goodS_cell (goodS_swap hS) ha (hFl a ha)
          have HD6 : Hid (Goo2 W (w5.setCell ⟨C2, a, none⟩ (.slice (some ⟨w3.heap.size, 0, none⟩) 64 64)) p i (i + 1 + (k + 1)) (.slice (some ⟨C1, 0, none⟩) i k1) (.slice (some ⟨C2, 0, none⟩) i k2)) := Lib.hid
            ⟨_, _, _, _, _, _, _, _, _, _, goodS_swap (goodS_put (goodS_swap hS) ha), hP, fun j hj => ⟨(hF j hj).1, (hF j hj).2.1, (hF j hj).2.2.symm⟩⟩
          have G6 : Gr W (w5.setCell ⟨C2, a, none⟩ (.slice (some ⟨w3.heap.size, 0, none⟩) 64 64)) := Below.setCell G5 (hS.offB C2 rfl).2 _
          clear hS hP hFl hF HW
          go_wp2_with fail
          go_roundg (m - (k + 1))
          case measure => omega
          case rel => exact ⟨k + 1, by go_num, by omega, by omega, HD6, G6⟩
        · obtain rfl : k = m := by omega
          have ti : decide ((k : Int) < (k : Int)) = false := decide_eq_false (by omega)
          have ti3 : ¬ (k : Int) < (k : Int) := by omega
          obtain ⟨q, bm, M, d, xs, ys, FA, FB, vL, L, hS, hP, hF⟩ := HD.out
          obtain ⟨t, ht⟩ := crash_sec hS.disk.ok L2 torn
          have AC := lawD_crash (⟨q, bm, M, hS.disk, hS.new⟩ : LawD W wr p d) hg2 L2 torn (bools_gr HB2.out hg2) (by omega)
          rw [hP.n] at AC ht
          obtain ⟨X, eX⟩ : ∃ X, X = crG d (crM L2 torn) d.ord.length := ⟨_, rfl⟩
          rw [← eX] at AC ht
          have HT : Hid (∀ j, j < i → ((sec X j = FA j ∨ sec X j = FB j ∨ (sec X j = halfs (FB j) (FA j) ∧ j = t)) ∧ (L2.length = 0 → torn < 0 → sec X j = FA j)) ∧ (FA j).length = 64 ∧ (FB j).length = 64) := Lib.hid fun j hj => by
            obtain ⟨f1, f2, f3⟩ := hF j hj
            have h := ht j hj
            rw [f1, ← f3, ← f2] at h
            exact ⟨h, by rw [f2]; exact blk_len _ 64, by rw [f3]; exact read_len hS.disk.ok (by rw [hP.n]; exact hj)⟩
          have HC := Lib.hid AC
          have HS := Lib.hid hS
          clear AC ht eX hS hP hF HD
          go_wp2_with fail
          go_at_call 24
          refine (HC.out).mono ?_
          rintro e w4 ⟨p4, rfl, hd4, g4⟩
          have HX4 := Lib.hid hd4
          have HS4 := Lib.hid (goodS_gr HS.out g4)
          have G4 : Gr W w4 := Gr.trans hg2 g4
          clear hd4 HC HS g4
          go_wp2_with fail
          go_loopg [19, 20] i (fun j bd x wr => ∃ k b : Nat, x = .int .i64 k ∧ bd = .int .i64 b ∧ k ≤ i ∧ j = i - k ∧ b ≤ (if t < k then 1 else 0) ∧ Gr w4 wr)
          case atStart => exact ⟨0, 0, rfl, rfl, by omega, by omega, Nat.zero_le _, Below.refl _ _⟩
          case round =>
            obtain ⟨k3, b, rfl, rfl, hk3, hkj3, hb, hg3⟩ := hrel
            by_cases hki : k3 < i
            · have ti : decide ((k3 : Int) < (i : Int)) = true := decide_eq_true (by omega)
              have ti2 : decide (k3 < i) = true := decide_eq_true hki
              have ti3 : (k3 : Int) < (i : Int) := by omega
              have ti4 : (k3 : Int) < (k1 : Int) := by omega
              have ti5 : (k3 : Int) < (k2 : Int) := by omega
              obtain ⟨⟨hR1, hR2⟩, hA, hN⟩ := HT.out k3 hki
              have AR := lawD_read (k := k3) (lawD_gr HX4.out hg3) hki
              rw [dk0_read] at AR
              obtain ⟨⟨B1, o1, cc1, y1, y2, y3, y4⟩, -, y5⟩ := goodS_cell (goodS_gr HS4.out hg3) hki hA
              obtain ⟨⟨B2, o2, cc2, z1, z2, z3, z4⟩, -, z5⟩ := goodS_cell (goodS_swap (goodS_gr HS4.out hg3)) hki hN
              generalize FA k3 = A at hR1 hR2 hA y2
              generalize FB k3 = N at hR1 hN z2
              generalize sec X k3 = R at hR1 hR2 AR
              have HRR := Lib.hid (And.intro hR1 (And.intro hR2 hb))
              have HY := Lib.hid (And.intro y2 z2)
              have HLn := Lib.hid (And.intro hA hN)
              have HAR := Lib.hid AR
              have v1 : (32 : Int) ≤ (cc2 : Int) := by omega
              have v2 : 32 ≤ cc2 := by omega
              have v3 : (64 : Int) ≤ (cc1 : Int) := by omega
              clear hR1 hR2 hb y2 z2 hA hN AR
              go_wp2_with fail
              go_at_call 25
              refine (HAR.out).mono ?_
              rintro e w5 ⟨rad, rc, rfl, hr5, g5⟩
              have HR5 := Lib.hid hr5
              have GW5 : Gr wr w5 := g5
              have q1 := cell_gr g5 y1
              have q2 := cell_gr g5 z1
              have q3 := World.block_lt_of_cell? _ _ q1
              have q4 := World.block_lt_of_cell? _ _ q2
              clear hr5 g5 HAR y1 z1
              go_wp2_with fail
              try simp only [List.append]
              refine Oe.wp_region_ordT (R := Kx (fun k => w5.heap.size ≤ k)) 14 [(0, false), (2, false), (3, false), (4, false), (5, false), (6, false), (8, false), (9, false), (10, false), (11, false), (12, false), (1, true), (7, true), (13, true)] (by kernel_rfl) (by kernel_rfl) ?_
              intro wa hwa KQ hKQ
              have hhwa := Kx.of_gr (S := (fun k => w5.heap.size ≤ k)) hwa
              have cwa_0_0 : wa.cell? ⟨C1, k3, none⟩ = some (.slice (some ⟨B1, o1, none⟩) 64 cc1) := cell_kx hhwa (by show ¬ (w5.heap.size ≤ C1); omega) (by go_simp)
              have zwa_0 : C1 < wa.heap.size := World.block_lt_of_cell? _ _ cwa_0_0
              have cwa_1_0 : wa.cell? ⟨C2, k3, none⟩ = some (.slice (some ⟨B2, o2, none⟩) 64 cc2) := cell_kx hhwa (by show ¬ (w5.heap.size ≤ C2); omega) (by go_simp)
              have zwa_1 : C2 < wa.heap.size := World.block_lt_of_cell? _ _ cwa_1_0
              have gwa : Gr w5 wa := Kx.gr hhwa (by go_grown) (fun k hk => by have hk2 : w5.heap.size ≤ k := hk; omega)
              have swa := hhwa.size
              skip
              clear hhwa
              repeat (first | (refine Oe.wpO_skip (by simp only [List.getElem?_toArray, List.getElem?_cons_succ, List.getElem?_cons_zero] <;> rfl) rfl ?_; simp only [Act.put, List.setIfInBounds_toArray, List.set_cons_zero, List.set_cons_succ]) | (refine Oe.wpO_pure (by simp only [List.getElem?_toArray, List.getElem?_cons_succ, List.getElem?_cons_zero] <;> rfl) rfl ?_; apply Exists.intro; refine ⟨?_, ?_⟩; (· intro wx gx; have cx_0_0 : wx.cell? ⟨C1, k3, none⟩ = some (.slice (some ⟨B1, o1, none⟩) 64 cc1) := cell_kx gx (by show ¬ (w5.heap.size ≤ C1); omega) cwa_0_0; have zx_0 : C1 < wx.heap.size := World.block_lt_of_cell? _ _ cx_0_0; have cx_1_0 : wx.cell? ⟨C2, k3, none⟩ = some (.slice (some ⟨B2, o2, none⟩) 64 cc2) := cell_kx gx (by show ¬ (w5.heap.size ≤ C2); omega) cwa_1_0; have zx_1 : C2 < wx.heap.size := World.block_lt_of_cell? _ _ cx_1_0; clear gx; all_goals (apply Oe.pAt_of_quiet; intro K hK; go_big_quiet_op; first | exact hK _ rfl | (apply Exists.intro; refine ⟨fun _ => ?_, ?_⟩; (· fail); exact hK _ rfl))); try simp only [Act.put, List.setIfInBounds_toArray, List.set_cons_zero, List.set_cons_succ]))
              have sa := gwa.size
              refine Oe.wpO_call (by simp only [List.getElem?_toArray, List.getElem?_cons_succ, List.getElem?_cons_zero] <;> rfl) rfl ?_
              intro QS hQS
              go_wp2_with fail
              first | (apply Exists.intro; refine ⟨?_, Kx.of_gr (by go_grown), ?_⟩; (· simp only [Act.put, List.setIfInBounds_toArray, List.set_cons_zero, List.set_cons_succ]; rfl)) | (refine ⟨Kx.of_gr (by go_grown), ?_⟩)
              generalize hhwb : (wa.alloc (.cells #[] 5)) = wb
              have hwb : Gr wa wb := by subst hhwb; go_grown
              have cwb_0_0 : wb.cell? ⟨C1, k3, none⟩ = some (.slice (some ⟨B1, o1, none⟩) 64 cc1) := by subst hhwb; go_simp
              have zwb_0 : C1 < wb.heap.size := World.block_lt_of_cell? _ _ cwb_0_0
              have cwb_1_0 : wb.cell? ⟨C2, k3, none⟩ = some (.slice (some ⟨B2, o2, none⟩) 64 cc2) := by subst hhwb; go_simp
              have zwb_1 : C2 < wb.heap.size := World.block_lt_of_cell? _ _ cwb_1_0
              have gwb : Gr w5 wb := Gr.trans (by have gg := gwa; have gs := gg.size; go_grown) hwb
              have swb := hwb.size
              have OB : Hid (Own wb w5.heap.size (.slice (some ⟨wa.heap.size, 0, none⟩) 0 0) []) := Lib.hid (by subst hhwb; exact own_base (World.ownsRow_lit (base := wa.heap.size) (e := 5) (size := 1) wa #[] 0 (Nat.le_refl _) (by decide) (by simp)) sa)
              clear hhwb gwa zwa_0 cwa_0_0 zwa_1 cwa_1_0
              try simp only [Act.put, List.setIfInBounds_toArray, List.set_cons_zero, List.set_cons_succ]
              repeat (first | (refine Oe.wpO_skip (by simp only [List.getElem?_toArray, List.getElem?_cons_succ, List.getElem?_cons_zero] <;> rfl) rfl ?_; simp only [Act.put, List.setIfInBounds_toArray, List.set_cons_zero, List.set_cons_succ]) | (refine Oe.wpO_pure (by simp only [List.getElem?_toArray, List.getElem?_cons_succ, List.getElem?_cons_zero] <;> rfl) rfl ?_; apply Exists.intro; refine ⟨?_, ?_⟩; (· intro wx gx; have cx_0_0 : wx.cell? ⟨C1, k3, none⟩ = some (.slice (some ⟨B1, o1, none⟩) 64 cc1) := cell_kx gx (by show ¬ (w5.heap.size ≤ C1); omega) cwb_0_0; have zx_0 : C1 < wx.heap.size := World.block_lt_of_cell? _ _ cx_0_0; have cx_1_0 : wx.cell? ⟨C2, k3, none⟩ = some (.slice (some ⟨B2, o2, none⟩) 64 cc2) := cell_kx gx (by show ¬ (w5.heap.size ≤ C2); omega) cwb_1_0; have zx_1 : C2 < wx.heap.size := World.block_lt_of_cell? _ _ cx_1_0; clear gx; all_goals (apply Oe.pAt_of_quiet; intro K hK; go_big_quiet_op; first | exact hK _ rfl | (apply Exists.intro; refine ⟨fun _ => ?_, ?_⟩; (· fail); exact hK _ rfl))); try simp only [Act.put, List.setIfInBounds_toArray, List.set_cons_zero, List.set_cons_succ]))
              have hl1 : (N.take 32).length = 32 := by rw [List.length_take, HLn.out.2]; rfl
              have hl2 : (A.drop 32).length = 32 := by rw [List.length_drop, HLn.out.1]
              have OR1 := Lib.hid (row_take (row_gr HY.out.2 (Gr.trans GW5 gwb)) 32 (by rw [HLn.out.2]; decide))
              refine Oe.wpO_call (by simp only [List.getElem?_toArray, List.getElem?_cons_succ, List.getElem?_cons_zero] <;> rfl) rfl ?_
              intro QS hQS
              refine (wpList_app rfl (.tmp 121) (.tmp 126) rfl w5.heap.size (.slice (some ⟨wa.heap.size, 0, none⟩) 0 0) (.slice (some ⟨B2, o2, none⟩) 32 cc2) [] (N.take 32) rfl OB.out rfl OR1.out (by simp; omega) (by omega) ?_)
              intro x7 wc o7 g7
              have hhwc : Kx (fun k => w5.heap.size ≤ k) wb wc := (kx_grown g7).mono (fun k hk => Nat.le_trans sa (Nat.le_of_eq (Option.some.inj (show some wa.heap.size = some k from hk))))
              refine hQS _ _ ⟨_, rfl, hhwc, ?_⟩
              clear hQS QS
              have cwc_0_0 : wc.cell? ⟨C1, k3, none⟩ = some (.slice (some ⟨B1, o1, none⟩) 64 cc1) := cell_kx hhwc (by show ¬ (w5.heap.size ≤ C1); omega) (by go_simp)
              have zwc_0 : C1 < wc.heap.size := World.block_lt_of_cell? _ _ cwc_0_0
              have cwc_1_0 : wc.cell? ⟨C2, k3, none⟩ = some (.slice (some ⟨B2, o2, none⟩) 64 cc2) := cell_kx hhwc (by show ¬ (w5.heap.size ≤ C2); omega) (by go_simp)
              have zwc_1 : C2 < wc.heap.size := World.block_lt_of_cell? _ _ cwc_1_0
              have gwc : Gr w5 wc := Kx.gr hhwc gwb (fun k hk => by have hk2 : w5.heap.size ≤ k := hk; omega)
              have swc := hhwc.size
              clear gwb zwb_0 cwb_0_0 zwb_1 cwb_1_0
              clear hhwc
              try simp only [Act.put, List.setIfInBounds_toArray, List.set_cons_zero, List.set_cons_succ]
              repeat (first | (refine Oe.wpO_skip (by simp only [List.getElem?_toArray, List.getElem?_cons_succ, List.getElem?_cons_zero] <;> rfl) rfl ?_; simp only [Act.put, List.setIfInBounds_toArray, List.set_cons_zero, List.set_cons_succ]) | (refine Oe.wpO_pure (by simp only [List.getElem?_toArray, List.getElem?_cons_succ, List.getElem?_cons_zero] <;> rfl) rfl ?_; apply Exists.intro; refine ⟨?_, ?_⟩; (· intro wx gx; have cx_0_0 : wx.cell? ⟨C1, k3, none⟩ = some (.slice (some ⟨B1, o1, none⟩) 64 cc1) := cell_kx gx (by show ¬ (w5.heap.size ≤ C1); omega) cwc_0_0; have zx_0 : C1 < wx.heap.size := World.block_lt_of_cell? _ _ cx_0_0; have cx_1_0 : wx.cell? ⟨C2, k3, none⟩ = some (.slice (some ⟨B2, o2, none⟩) 64 cc2) := cell_kx gx (by show ¬ (w5.heap.size ≤ C2); omega) cwc_1_0; have zx_1 : C2 < wx.heap.size := World.block_lt_of_cell? _ _ cx_1_0; clear gx; all_goals (apply Oe.pAt_of_quiet; intro K hK; go_big_quiet_op; first | exact hK _ rfl | (apply Exists.intro; refine ⟨fun _ => ?_, ?_⟩; (· fail); exact hK _ rfl))); try simp only [Act.put, List.setIfInBounds_toArray, List.set_cons_zero, List.set_cons_succ]))
              have OC : Hid (Own wc w5.heap.size x7 (N.take 32)) := Lib.hid (by simpa using o7)
              have OR2 : Hid (Row wc (.slice (some ⟨B1, o1 + 32, none⟩) 32 (cc1 - 32)) (A.drop 32)) := Lib.hid (by
                have h := row_drop (L := A) (by rw [HLn.out.1]; exact row_gr HY.out.1 (Gr.trans GW5 gwc)) 32 (by rw [HLn.out.1]; decide)
                rw [HLn.out.1] at h
                exact h)
              clear o7 g7 OB OR1
              refine Oe.wpO_call (by simp only [List.getElem?_toArray, List.getElem?_cons_succ, List.getElem?_cons_zero] <;> rfl) rfl ?_
              intro QS hQS
              refine (wpList_app rfl (.tmp 127) (.tmp 132) rfl w5.heap.size x7 (.slice (some ⟨B1, o1 + 32, none⟩) 32 (cc1 - 32)) (N.take 32) (A.drop 32) rfl OC.out rfl OR2.out (by omega) (by omega) ?_)
              intro x13 wd o13 g13
              have hhwd : Kx (fun k => w5.heap.size ≤ k) wc wd := (kx_grown g13).mono (fun k hk => (World.ownsRow.lt OC.out k hk).1)
              refine hQS _ _ ⟨_, rfl, hhwd, ?_⟩
              clear hQS QS
              have cwd_0_0 : wd.cell? ⟨C1, k3, none⟩ = some (.slice (some ⟨B1, o1, none⟩) 64 cc1) := cell_kx hhwd (by show ¬ (w5.heap.size ≤ C1); omega) (by go_simp)
              have zwd_0 : C1 < wd.heap.size := World.block_lt_of_cell? _ _ cwd_0_0
              have cwd_1_0 : wd.cell? ⟨C2, k3, none⟩ = some (.slice (some ⟨B2, o2, none⟩) 64 cc2) := cell_kx hhwd (by show ¬ (w5.heap.size ≤ C2); omega) (by go_simp)
              have zwd_1 : C2 < wd.heap.size := World.block_lt_of_cell? _ _ cwd_1_0
              have gwd : Gr w5 wd := Kx.gr hhwd gwc (fun k hk => by have hk2 : w5.heap.size ≤ k := hk; omega)
              have swd := hhwd.size
              clear gwc zwc_0 cwc_0_0 zwc_1 cwc_1_0
              clear hhwd
              try simp only [Act.put, List.setIfInBounds_toArray, List.set_cons_zero, List.set_cons_succ]
              repeat (first | (refine Oe.wpO_skip (by simp only [List.getElem?_toArray, List.getElem?_cons_succ, List.getElem?_cons_zero] <;> rfl) rfl ?_; simp only [Act.put, List.setIfInBounds_toArray, List.set_cons_zero, List.set_cons_succ]) | (refine Oe.wpO_pure (by simp only [List.getElem?_toArray, List.getElem?_cons_succ, List.getElem?_cons_zero] <;> rfl) rfl ?_; apply Exists.intro; refine ⟨?_, ?_⟩; (· intro wx gx; have cx_0_0 : wx.cell? ⟨C1, k3, none⟩ = some (.slice (some ⟨B1, o1, none⟩) 64 cc1) := cell_kx gx (by show ¬ (w5.heap.size ≤ C1); omega) cwd_0_0; have zx_0 : C1 < wx.heap.size := World.block_lt_of_cell? _ _ cx_0_0; have cx_1_0 : wx.cell? ⟨C2, k3, none⟩ = some (.slice (some ⟨B2, o2, none⟩) 64 cc2) := cell_kx gx (by show ¬ (w5.heap.size ≤ C2); omega) cwd_1_0; have zx_1 : C2 < wx.heap.size := World.block_lt_of_cell? _ _ cx_1_0; clear gx; all_goals (apply Oe.pAt_of_quiet; intro K hK; go_big_quiet_op; first | exact hK _ rfl | (apply Exists.intro; refine ⟨fun _ => ?_, ?_⟩; (· fail); exact hK _ rfl))); try simp only [Act.put, List.setIfInBounds_toArray, List.set_cons_zero, List.set_cons_succ]))
              have OD : Hid (Own wd w5.heap.size x13 (halfs N A)) := Lib.hid o13
              clear o13 g13 OC OR2
              refine Oe.wpO_nil (hKQ _ _ ?_)
              clear hKQ KQ
              simp only [List.drop_succ_cons, List.drop_zero]
              obtain ⟨bH, eH⟩ : ∃ x, x = decide (R = halfs N A) := ⟨_, rfl⟩
              obtain ⟨bA, eA⟩ : ∃ x, x = decide (R = A) := ⟨_, rfl⟩
              obtain ⟨bN, eN⟩ : ∃ x, x = decide (R = N) := ⟨_, rfl⟩
              have AB1 := c_Bytes wd (row_gr HR5.out gwd) (row_own OD.out) (by have := read_row HR5.out; omega)
              have AB2 : ∀ w, Gr wd w → Calls Try.prog 20 #[.slice rad 64 rc, .slice (some ⟨B1, o1, none⟩) 64 cc1] w fun e w' => e = .returned (.bool (decide (R = A))) ∧ Gr w w' := fun w g => c_Bytes w (row_gr HR5.out (Gr.trans gwd g)) (row_gr HY.out.1 (Gr.trans GW5 (Gr.trans gwd g))) (by have := read_row HR5.out; omega)
              have AB3 : ∀ w, Gr wd w → Calls Try.prog 20 #[.slice rad 64 rc, .slice (some ⟨B2, o2, none⟩) 64 cc2] w fun e w' => e = .returned (.bool (decide (R = N))) ∧ Gr w w' := fun w g => c_Bytes w (row_gr HR5.out (Gr.trans gwd g)) (row_gr HY.out.2 (Gr.trans GW5 (Gr.trans gwd g))) (by have := read_row HR5.out; omega)
              rw [← eH] at AB1
              rw [← eA] at AB2
              rw [← eN] at AB3
              have HB1 := Lib.hid AB1
              have HB2' := Lib.hid AB2
              have HB3 := Lib.hid AB3
              have HEq := Lib.hid (And.intro eH (And.intro eA eN))
              have GWd : Gr wr wd := Gr.trans GW5 gwd
              clear AB1 AB2 AB3 eH eA eN OD HR5 hl1 hl2
              go_wp2_with fail
              go_at_call 20
              refine (HB1.out).mono ?_
              rintro e w6 ⟨rfl, g6⟩
              have r1 := cell_gr g6 cwd_0_0
              have r2 := cell_gr g6 cwd_1_0
              have r3 := World.block_lt_of_cell? _ _ r1
              have r4 := World.block_lt_of_cell? _ _ r2
              have Gd6 : Gr wd w6 := g6
              clear g6 cwd_0_0 cwd_1_0 zwd_0 zwd_1
              go_wp2_with fail
              go_at_call 20
              refine (HB2'.out _ Gd6).mono ?_
              rintro e w7 ⟨rfl, g7⟩
              have s1 := cell_gr g7 r1
              have s2 := cell_gr g7 r2
              have s3 := World.block_lt_of_cell? _ _ s1
              have s4 := World.block_lt_of_cell? _ _ s2
              have Gd7 : Gr wd w7 := Gr.trans Gd6 g7
              clear g7 r1 r2 r3 r4 Gd6
              go_wp2_with fail
              go_at_call 20
              refine (HB3.out _ Gd7).mono ?_
              rintro e w8 ⟨rfl, g8⟩
              have GY : Gr w4 w8 := Gr.trans hg3 (Gr.trans GWd (Gr.trans Gd7 g8))
              clear g8 s1 s2 s3 s4 Gd7 HB1 HB2' HB3
              by_cases e0 : L2.length = 0
              · have u0 : ((L2.length : Int) == 0) = true := by simp; exact List.eq_nil_of_length_eq_zero e0
                have HE0 := Lib.hid e0
                clear e0
                by_cases e1 : torn < 0
                · have u1 : decide (torn < 0) = true := decide_eq_true e1
                  obtain rfl : bA = true := by rw [HEq.out.2.1, decide_eq_true (HRR.out.2.1 HE0.out e1)]
                  go_wp2_with fail
                  go_roundg (i - (k3 + 1))
                  case measure => omega
                  case rel => exact ⟨k3 + 1, b, by go_num, rfl, by omega, by omega, by have h := HRR.out.2.2; refine Nat.le_trans h ?_; by_cases e : t < k3; rw [if_pos e, if_pos (by omega)]; exact Nat.le_refl _; rw [if_neg e]; exact Nat.zero_le _, GY⟩
                · have u1 : decide (torn < 0) = false := decide_eq_false e1
                  cases bA with
                  | true =>
                    go_wp2_with fail
                    go_roundg (i - (k3 + 1))
                    case measure => omega
                    case rel => exact ⟨k3 + 1, b, by go_num, rfl, by omega, by omega, by have h := HRR.out.2.2; refine Nat.le_trans h ?_; by_cases e : t < k3; rw [if_pos e, if_pos (by omega)]; exact Nat.le_refl _; rw [if_neg e]; exact Nat.zero_le _, GY⟩
                  | false =>
                    cases bN with
                    | true =>
                      go_wp2_with fail
                      go_roundg (i - (k3 + 1))
                      case measure => omega
                      case rel => exact ⟨k3 + 1, b, by go_num, rfl, by omega, by omega, by have h := HRR.out.2.2; refine Nat.le_trans h ?_; by_cases e : t < k3; rw [if_pos e, if_pos (by omega)]; exact Nat.le_refl _; rw [if_neg e]; exact Nat.zero_le _, GY⟩
                    | false =>
                      obtain ⟨hb0, hb1, hb2, hb3⟩ : (b = 0 ∧ k3 = t) ∧ wrap64 ((b : Int) + 1) = ((b + 1 : Nat) : Int) ∧ IntKind.i64.wrap ((b : Int) + 1) = ((b + 1 : Nat) : Int) ∧ bH = true := by
                        have x1 : R ≠ A := fun e => by have := HEq.out.2.1; rw [decide_eq_true e] at this; cases this
                        have x2 : R ≠ N := fun e => by have := HEq.out.2.2; rw [decide_eq_true e] at this; cases this
                        rcases HRR.out.1 with h | h | ⟨h, ht⟩
                        · exact absurd h x1
                        · exact absurd h x2
                        · have hb := HRR.out.2.2
                          rw [if_neg (by omega)] at hb
                          obtain rfl : b = 0 := by omega
                          exact ⟨⟨rfl, ht⟩, (by rw [wr_small (by omega)]; rfl), (by rw [wk_small (by omega)]; rfl), by rw [HEq.out.1, decide_eq_true h]⟩
                      subst hb3
                      obtain ⟨rfl, hkt⟩ := hb0
                      have HKT := Lib.hid hkt
                      clear hkt
                      go_wp2_with fail
                      go_roundg (i - (k3 + 1))
                      case measure => omega
                      case rel => exact ⟨k3 + 1, 1, by go_num, rfl, by omega, by omega, by rw [if_pos (by have := HKT.out; omega)]; exact Nat.le_refl _, GY⟩
              · have u0 : ((L2.length : Int) == 0) = false := by simp; exact fun h => e0 (by rw [h]; rfl)
                have HE0 := Lib.hid e0
                clear e0
                cases bA with
                | true =>
                  go_wp2_with fail
                  go_roundg (i - (k3 + 1))
                  case measure => omega
                  case rel => exact ⟨k3 + 1, b, by go_num, rfl, by omega, by omega, by have h := HRR.out.2.2; refine Nat.le_trans h ?_; by_cases e : t < k3; rw [if_pos e, if_pos (by omega)]; exact Nat.le_refl _; rw [if_neg e]; exact Nat.zero_le _, GY⟩
                | false =>
                  cases bN with
                  | true =>
                    go_wp2_with fail
                    go_roundg (i - (k3 + 1))
                    case measure => omega
                    case rel => exact ⟨k3 + 1, b, by go_num, rfl, by omega, by omega, by have h := HRR.out.2.2; refine Nat.le_trans h ?_; by_cases e : t < k3; rw [if_pos e, if_pos (by omega)]; exact Nat.le_refl _; rw [if_neg e]; exact Nat.zero_le _, GY⟩
                  | false =>
                    obtain ⟨hb0, hb1, hb2, hb3⟩ : (b = 0 ∧ k3 = t) ∧ wrap64 ((b : Int) + 1) = ((b + 1 : Nat) : Int) ∧ IntKind.i64.wrap ((b : Int) + 1) = ((b + 1 : Nat) : Int) ∧ bH = true := by
                      have x1 : R ≠ A := fun e => by have := HEq.out.2.1; rw [decide_eq_true e] at this; cases this
                      have x2 : R ≠ N := fun e => by have := HEq.out.2.2; rw [decide_eq_true e] at this; cases this
                      rcases HRR.out.1 with h | h | ⟨h, ht⟩
                      · exact absurd h x1
                      · exact absurd h x2
                      · have hb := HRR.out.2.2
                        rw [if_neg (by omega)] at hb
                        obtain rfl : b = 0 := by omega
                        exact ⟨⟨rfl, ht⟩, (by rw [wr_small (by omega)]; rfl), (by rw [wk_small (by omega)]; rfl), by rw [HEq.out.1, decide_eq_true h]⟩
                    subst hb3
                    obtain ⟨rfl, hkt⟩ := hb0
                    have HKT := Lib.hid hkt
                    clear hkt
                    go_wp2_with fail
                    go_roundg (i - (k3 + 1))
                    case measure => omega
                    case rel => exact ⟨k3 + 1, 1, by go_num, rfl, by omega, by omega, by rw [if_pos (by have := HKT.out; omega)]; exact Nat.le_refl _, GY⟩
            · obtain rfl : k3 = i := by omega
              have ti : decide ((k3 : Int) < (k3 : Int)) = false := decide_eq_false (by omega)
              have ti3 : ¬ (k3 : Int) < (k3 : Int) := by omega
              have hb1 : b ≤ 1 := by refine Nat.le_trans hb ?_; by_cases e : t < k3; rw [if_pos e]; exact Nat.le_refl _; rw [if_neg e]; exact Nat.zero_le _
              have u1 : decide ((b : Int) ≤ 1) = true := decide_eq_true (by omega)
              have GZ : Gr W wr := Gr.trans G4 hg3
              go_wp2_with fail
              go_at_call 21
              refine (p10_awake _).mono ?_
              rintro e w5 ⟨rfl, g5⟩
              go_wp2_with fail
              go_ret
              exact ⟨rfl, Gr.trans GZ g5⟩
set_option maxHeartbeats 1000000 in
set_option maxRecDepth 100000 in
theorem good_out (W : World) (n : Int) (L1 : List Int) (v1 : Value) (L2 : List Bool) (v2 : Value) (torn : Int) (h1 : IntsR W v1 L1) (h2 : Bools W v2 L2) (h : ¬ ((1 ≤ n ∧ n ≤ 20) ∧ L1.length ≤ 60 ∧ L2.length ≤ 60)) : Calls Try.prog 8 #[.int .i64 n, v1, v2, .int .i64 torn] W fun e w' => e = .returned (.bool true) ∧ Gr W w' := by
  obtain ⟨ad1, cap1, rfl⟩ := intsR_form h1
  obtain ⟨ad2, cap2, rfl⟩ := bools_form h2
  clear h1 h2
  by_cases a1 : n < 1
  · have t1 : decide (n < 1) = true := decide_eq_true a1
    go_enter Try.func8, Try.ntmps8
    go_wp2_with fail
    go_at_call 21
    refine (p10_awake _).mono ?_
    rintro e y3 ⟨rfl, k3⟩
    go_wp2_with fail
    go_ret
    exact ⟨rfl, Gr.trans (by go_grown) k3⟩
  · have t1 : decide (n < 1) = false := decide_eq_false a1
    by_cases a2 : (20 : Int) < n
    · have t2 : decide ((20 : Int) < n) = true := decide_eq_true a2
      go_enter Try.func8, Try.ntmps8
      go_wp2_with fail
      go_at_call 21
      refine (p10_awake _).mono ?_
      rintro e y3 ⟨rfl, k3⟩
      go_wp2_with fail
      go_ret
      exact ⟨rfl, Gr.trans (by go_grown) k3⟩
    · have t2 : decide ((20 : Int) < n) = false := decide_eq_false a2
      by_cases a3 : (60 : Int) < (L1.length : Int)
      · have t3 : decide ((60 : Int) < (L1.length : Int)) = true := decide_eq_true a3
        go_enter Try.func8, Try.ntmps8
        go_wp2_with fail
        go_at_call 21
        refine (p10_awake _).mono ?_
        rintro e y3 ⟨rfl, k3⟩
        go_wp2_with fail
        go_ret
        exact ⟨rfl, Gr.trans (by go_grown) k3⟩
      · have t3 : decide ((60 : Int) < (L1.length : Int)) = false := decide_eq_false a3
        have a4 : (60 : Int) < (L2.length : Int) := by omega
        have t4 : decide ((60 : Int) < (L2.length : Int)) = true := decide_eq_true a4
        clear h
        go_enter Try.func8, Try.ntmps8
        go_wp2_with fail
        go_at_call 21
        refine (p10_awake _).mono ?_
        rintro e y3 ⟨rfl, k3⟩
        go_wp2_with fail
        go_ret
        exact ⟨rfl, Gr.trans (by go_grown) k3⟩
theorem walk_DiskGood (W : World) (n : Int) (L1 : List Int) (v1 : Value) (L2 : List Bool) (v2 : Value) (torn : Int) (hn : -9223372036854775808 ≤ n ∧ n ≤ 9223372036854775807) (h1 : IntsR W v1 L1) (h2 : Bools W v2 L2) (ht : -9223372036854775808 ≤ torn ∧ torn ≤ 9223372036854775807) : Calls Try.prog 8 #[.int .i64 n, v1, v2, .int .i64 torn] W fun e w' => e = .returned (.bool true) ∧ Gr W w' := by
  by_cases h : (1 ≤ n ∧ n ≤ 20) ∧ L1.length ≤ 60 ∧ L2.length ≤ 60
  · obtain ⟨m, rfl⟩ : ∃ m : Nat, n = m := ⟨n.toNat, by omega⟩
    exact good_core W m L1 v1 L2 v2 torn h1 h2 (by omega) (by omega) h.2.1 h.2.2
  · exact good_out W n L1 v1 L2 v2 torn h1 h2 h
end Go.Proofs.Ytcalleofndokaaa
