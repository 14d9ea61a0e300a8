/- FrameAdds -/
import Derived.Test.YtldlpbfncgcimaaDoorFe
import Derived.Test.YtldlpbfncgcimaaDoorL
import Derived.Deep.RegionWith
namespace Go.Proofs.YtldlpbfncgcimaaDoor
set_option linter.unusedVariables false
open Go.ChangeShapes Go.WideShapes Go.ChangeAt Go.RowKit

theorem xor8 {a b : Nat} (ha : a < 256) (hb : b < 256) : bits BinOp.xor IntKind.u8 (a : Int) (b : Int) = ((a ^^^ b : Nat) : Int) := by
  have h1 : (BitVec.ofInt 8 (a : Int)).toNat = a := by rw [BitVec.ofInt_natCast, BitVec.toNat_ofNat]; exact Nat.mod_eq_of_lt (by omega)
  have h2 : (BitVec.ofInt 8 (b : Int)).toNat = b := by rw [BitVec.ofInt_natCast, BitVec.toNat_ofNat]; exact Nat.mod_eq_of_lt (by omega)
  show IntKind.u8.wrap ((BitVec.ofInt 8 (a : Int) ^^^ BitVec.ofInt 8 (b : Int)).toNat : Int) = _
  rw [BitVec.toNat_xor, h1, h2, wraps_u8', Nat.mod_eq_of_lt (Nat.xor_lt_two_pow (n := 8) ha hb)]
theorem over_len (A B C : List UInt8) (h1 : A.length = B.length) (h2 : A.length = C.length) : (Cr.over3 A B C).length = A.length := by
  unfold Cr.over3; simp only [List.length_zipWith]; omega
theorem over_at (A B C : List UInt8) (h1 : A.length = B.length) (h2 : A.length = C.length) (i : Nat) (h : i < A.length) :
    Cr.over3 (A.take (i + 1)) (B.take (i + 1)) (C.take (i + 1)) = Cr.over3 (A.take i) (B.take i) (C.take i) ++ [A[i] ^^^ B[i]'(by omega) ^^^ C[i]'(by omega)] := by
  unfold Cr.over3
  rw [List.take_succ_eq_append_getElem h, List.take_succ_eq_append_getElem (l := B) (by omega), List.take_succ_eq_append_getElem (l := C) (by omega)]
  rw [List.zipWith_append (by simp; omega), List.zipWith_append (by simp; omega)]
  rfl
theorem bv_over (A B C : List UInt8) (i : Nat) (ha : i < A.length) (hb : i < B.length) (hc : i < C.length) : bv (A[i] ^^^ B[i] ^^^ C[i]) = .int .u8 ((rb A i ^^^ rb B i ^^^ rb C i : Nat) : Int) := by
  unfold bv rb
  rw [UInt8.toNat_xor, UInt8.toNat_xor, getD_at _ ha, getD_at _ hb, getD_at _ hc]
set_option maxHeartbeats 8000000 in
set_option maxRecDepth 100000 in
theorem walk_FrameAdds (W : World) (A : List UInt8) (a : Value) (B : List UInt8) (b : Value) (C : List UInt8) (c : Value) (hA : Row W a A) (hB : Row W b B) (hC : Row W c C) (hF : FT W) :
    Calls Tryd.prog 7 #[a, b, c] W fun e w' => e = .returned (.bool true) ∧ Gr W w' := by
  obtain ⟨aa, ca, Ba, oa, rfl, a1, a2, a3, a4⟩ := id hA
  obtain ⟨ab, cb, Bb, ob, rfl, b1, b2, b3, b4⟩ := id hB
  obtain ⟨ac, cc, Bc, oc, rfl, c1, c2, c3, c4⟩ := id hC
  have AW := Lib.hid (fun w (g : Gr W w) => p9_awake w (ft_gr hF g))
  have HF := Lib.hid hF
  obtain ⟨n, en⟩ : ∃ n, n = A.length := ⟨_, rfl⟩
  obtain ⟨m, em⟩ : ∃ n, n = B.length := ⟨_, rfl⟩
  obtain ⟨l, el⟩ : ∃ n, n = C.length := ⟨_, rfl⟩
  rw [← en] at hA a1 a3 ⊢
  rw [← em] at hB b1 b3 ⊢
  rw [← el] at hC c1 c3 ⊢
  by_cases h1 : 3000 < n
  · have t1 : decide ((3000 : Int) < (n : Int)) = true := decide_eq_true (by omega)
    have t2 : (3000 : Int) < (n : Int) := by omega
    clear a4 b4 c4 a3 b3 c3 hA hB hC en em el hF
    go_enter Tryd.func7, Tryd.ntmps7
    go_wp2_with fail
    go_at_call 15
    (with_reducible refine (AW.out _ (by go_grown)).mono ?_)
    rintro e w1 ⟨rfl, g1⟩
    go_wp2_with fail
    go_ret
    exact ⟨rfl, g1⟩
  by_cases h2 : m = n
  case neg =>
    have t1 : decide ((3000 : Int) < (n : Int)) = false := decide_eq_false (by omega)
    have t2 : ¬ (3000 : Int) < (n : Int) := by omega
    have t3 : ((m : Int) != (n : Int)) = true := by simp; omega
    clear a4 b4 c4 a3 b3 c3 hA hB hC en em el hF
    go_enter Tryd.func7, Tryd.ntmps7
    go_wp2_with fail
    go_at_call 15
    (with_reducible refine (AW.out _ (by go_grown)).mono ?_)
    rintro e w1 ⟨rfl, g1⟩
    go_wp2_with fail
    go_ret
    exact ⟨rfl, g1⟩
  subst h2
  by_cases h3 : l = m
  case neg =>
    have t1 : decide ((3000 : Int) < (m : Int)) = false := decide_eq_false (by omega)
    have t2 : ¬ (3000 : Int) < (m : Int) := by omega
    have t3 : ((l : Int) != (m : Int)) = true := by simp; omega
    have t4 : ((m : Int) != (m : Int)) = false := by simp
    clear a4 b4 c4 a3 b3 c3 hA hB hC en em el hF
    go_enter Tryd.func7, Tryd.ntmps7
    go_wp2_with fail
    go_at_call 15
    (with_reducible refine (AW.out _ (by go_grown)).mono ?_)
    rintro e w1 ⟨rfl, g1⟩
    go_wp2_with fail
    go_ret
    exact ⟨rfl, g1⟩
  subst h3
  have t1 : decide ((3000 : Int) < (l : Int)) = false := decide_eq_false (by omega)
  have t2 : ¬ (3000 : Int) < (l : Int) := by omega
  have t4 : ((l : Int) != (l : Int)) = false := by simp
  obtain ⟨i0, hi0, hz0, hz1, hz2⟩ := info_parts (P := Tryd.prog) (e := 5) (z := .int .u8 0) (size := 1) (bytes := 1) (by kernel_rfl)
  have HI := Lib.hid hi0
  have HZ0 := Lib.hid hz0
  have HZ1 := Lib.hid hz1
  have HZ2 := Lib.hid hz2
  have HA := Lib.hid hA
  have HB := Lib.hid hB
  have HC := Lib.hid hC
  have HX := Lib.hid (And.intro a3 (And.intro a4 (And.intro b3 (And.intro b4 (And.intro c3 c4)))))
  have HN := Lib.hid (And.intro en (And.intro em el))
  clear a4 b4 c4 a3 b3 c3 hA hB hC en em el hF hi0 hz0 hz1 hz2
  have hl : l ≤ 3000 := by omega
  go_enter Tryd.func7, Tryd.ntmps7
  go_wp2_with fail
  go_loopg [7, 8] l (fun k x y wr => ∃ i : Nat, y = .int .i64 i ∧ i ≤ l ∧ k = l - i ∧ Own wr W.heap.size x (Cr.over3 (A.take i) (B.take i) (C.take i)) ∧ Gr W wr)
  case atStart => exact ⟨0, rfl, Nat.zero_le _, by omega, own_nil _ _, Below.refl _ _⟩
  case round =>
    obtain ⟨i, rfl, hi, hk, hO, hg⟩ := hrel
    have HO := Lib.hid hO
    clear hO
    by_cases h : i < l
    · have ti : decide ((i : Int) < (l : Int)) = true := decide_eq_true (by omega)
      have ti2 : decide (i < l) = true := decide_eq_true h
      have ti3 : (i : Int) < (l : Int) := by omega
      obtain ⟨na, nb, nc⟩ := HN.out
      obtain rfl := HX.out.1 (by omega)
      obtain rfl := HX.out.2.2.1 (by omega)
      obtain rfl := HX.out.2.2.2.2.1 (by omega)
      have k1 := cell_gr hg (HX.out.2.1 i (by omega))
      have k2 := cell_gr hg (HX.out.2.2.2.1 i (by omega))
      have k3 := cell_gr hg (HX.out.2.2.2.2.2 i (by omega))
      rw [rb_at A (by omega)] at k1
      rw [rb_at B (by omega)] at k2
      rw [rb_at C (by omega)] at k3
      have la : i < A.length := by omega
      have lb : i < B.length := by omega
      have lc : i < C.length := by omega
      have hov : Cr.over3 (A.take (i + 1)) (B.take (i + 1)) (C.take (i + 1)) = Cr.over3 (A.take i) (B.take i) (C.take i) ++ [A[i]'la ^^^ B[i]'lb ^^^ C[i]'lc] := over_at A B C (by omega) (by omega) i la
      have hbo : bv (A[i]'la ^^^ B[i]'lb ^^^ C[i]'lc) = _ := bv_over A B C i la lb lc
      have lov := over_len (A.take i) (B.take i) (C.take i) (by simp; omega) (by simp; omega)
      have lov2 : (Cr.over3 (A.take i) (B.take i) (C.take i)).length = i := by rw [lov]; simp; omega
      obtain ⟨x, ex⟩ : ∃ x, x = rb A i := ⟨_, rfl⟩
      obtain ⟨y, ey⟩ : ∃ x, x = rb B i := ⟨_, rfl⟩
      obtain ⟨z, ez⟩ : ∃ x, x = rb C i := ⟨_, rfl⟩
      have hx : x < 256 := by rw [ex]; exact rb_lt _ _
      have hy : y < 256 := by rw [ey]; exact rb_lt _ _
      have hz : z < 256 := by rw [ez]; exact rb_lt _ _
      obtain ⟨xy, exy⟩ : ∃ q, q = x ^^^ y := ⟨_, rfl⟩
      have hxy : xy < 256 := by rw [exy]; exact Nat.xor_lt_two_pow (n := 8) hx hy
      obtain ⟨q, eq⟩ : ∃ q, q = xy ^^^ z := ⟨_, rfl⟩
      have f1 : bits BinOp.xor IntKind.u8 (x : Int) (y : Int) = (xy : Int) := by rw [xor8 hx hy, exy]
      have f2 : bits BinOp.xor IntKind.u8 (xy : Int) (z : Int) = (q : Int) := by rw [xor8 hxy hz, eq]
      rw [← ex] at k1
      rw [← ey] at k2
      rw [← ez] at k3
      rw [← ex, ← ey, ← ez, ← exy, ← eq] at hbo
      have HV := Lib.hid (And.intro hov (And.intro hbo lov2))
      have hi1 : i + 1 ≤ l := h
      have hmm : l - (i + 1) < gk := by omega
      clear hov hbo lov lov2 ex ey ez exy eq na nb nc hk hx hy hz hxy
      go_wp2_with fail
      go_region_law (refine step_append_own2 rfl (.tmp 33) (.tmp 48) 22 rfl W.heap.size 5 i0 (.int .u8 0) 1 1 Tryd.underlying22 HI.out HZ0.out HZ1.out HZ2.out rfl (by decide) _ _ _ (by simp [Act.eval]) (World.ownsRow.drew (World.ownsRow.alloc HO.out _)) ⟨wr.heap.size, 0, none⟩ 1 1 [.int .u8 (q : Int)] (by simp [Act.eval]) rfl (cell_one_new _ _ _) (by intro u hu; (simp at hu); subst hu; rfl) (by rw [HV.out.2.2]; unfold maxLen; omega) (by rw [HV.out.2.2]; omega) (by have := hg.size; simp; omega) ?_; intro v2 w2 own2 gr2)
      all_goals
        have hO2 : Own w2 W.heap.size v2 (Cr.over3 (A.take (i + 1)) (B.take (i + 1)) (C.take (i + 1))) := by
          rw [HV.out.1]
          refine own_append 1 rfl ?_
          rw [List.map_cons, List.map_nil, HV.out.2.1]
          exact own2
        have hG2 : Gr W w2 := gr2.gr (Gr.trans hg ((Below.refl _ _).alloc (Nat.le_refl _) _).drew) (fun k h => own_row HO.out k h)
        have O2 := Lib.hid hO2
        clear hO2 own2 gr2 k1 k2 k3
        go_wp2_with fail
        go_roundg (l - (i + 1))
        case measure => exact hmm
        case rel => exact ⟨i + 1, by go_num, hi1, rfl, O2.out, hG2⟩
    · obtain rfl : i = l := by omega
      have ti : decide ((i : Int) < (i : Int)) = false := decide_eq_false (by omega)
      have ti2 : decide (i < i) = false := decide_eq_false (by omega)
      obtain ⟨na, nb, nc⟩ := HN.out
      have eO : Cr.over3 (A.take i) (B.take i) (C.take i) = Cr.over3 A B C := by
        rw [List.take_of_length_le (by omega), List.take_of_length_le (by omega), List.take_of_length_le (by omega)]
      have lO : (Cr.over3 A B C).length = i := by rw [over_len A B C (by omega) (by omega)]; omega
      have hs := Cr.sum_over A B C (by omega) (by omega)
      have RD := Lib.hid (row_own (show Own wr W.heap.size u7 (Cr.over3 A B C) by rw [← eO]; exact HO.out))
      have A0 := fun w (g : Gr wr w) => c_Sum w (ft_gr HF.out (Gr.trans hg g)) (row_gr RD.out g) (by omega)
      have A1 := fun w (g : Gr wr w) => c_Sum w (ft_gr HF.out (Gr.trans hg g)) (row_gr HA.out (Gr.trans hg g)) (by omega)
      have A2 := fun w (g : Gr wr w) => c_Sum w (ft_gr HF.out (Gr.trans hg g)) (row_gr HB.out (Gr.trans hg g)) (by omega)
      have A3 := fun w (g : Gr wr w) => c_Sum w (ft_gr HF.out (Gr.trans hg g)) (row_gr HC.out (Gr.trans hg g)) (by omega)
      obtain ⟨p, ep⟩ : ∃ p, p = Cr.sum A := ⟨_, rfl⟩
      obtain ⟨q, eq⟩ : ∃ p, p = Cr.sum B := ⟨_, rfl⟩
      obtain ⟨r, er⟩ : ∃ p, p = Cr.sum C := ⟨_, rfl⟩
      obtain ⟨d, ed⟩ : ∃ p, p = Cr.sum (Cr.over3 A B C) := ⟨_, rfl⟩
      have hp : p < 4294967296 := by rw [ep]; exact Cr.sum_lt _
      have hq : q < 4294967296 := by rw [eq]; exact Cr.sum_lt _
      have hr : r < 4294967296 := by rw [er]; exact Cr.sum_lt _
      rw [← ep, ← eq, ← er, ← ed] at hs
      rw [← ed] at A0
      rw [← ep] at A1
      rw [← eq] at A2
      rw [← er] at A3
      obtain ⟨pq, epq⟩ : ∃ x, x = p ^^^ q := ⟨_, rfl⟩
      have hpq : pq < 4294967296 := by rw [epq]; exact Cr.xor_lt hp hq
      have f1 : bits BinOp.xor IntKind.u32 (p : Int) (q : Int) = (pq : Int) := by rw [xor32 hp hq, epq]
      have f2 : bits BinOp.xor IntKind.u32 (pq : Int) (r : Int) = (d : Int) := by rw [xor32 hpq hr, hs, epq]
      have H0 := Lib.hid A0
      have H1 := Lib.hid A1
      have H2 := Lib.hid A2
      have H3 := Lib.hid A3
      clear A0 A1 A2 A3
      clear hs ep eq er ed epq hp hq hr hpq eO lO na nb nc hk
      go_wp2_with fail
      go_at_call 24
      (with_reducible refine (H0.out _ (Below.refl _ _)).mono ?_)
      rintro e w1 ⟨rfl, g1⟩
      go_wp2_with fail
      go_at_call 24
      (with_reducible refine (H1.out _ g1).mono ?_)
      rintro e w2 ⟨rfl, g2⟩
      go_wp2_with fail
      go_at_call 24
      (with_reducible refine (H2.out _ (Gr.trans g1 g2)).mono ?_)
      rintro e w3 ⟨rfl, g3⟩
      go_wp2_with fail
      go_at_call 24
      (with_reducible refine (H3.out _ (Gr.trans (Gr.trans g1 g2) g3)).mono ?_)
      rintro e w4 ⟨rfl, g4⟩
      have G4 : Gr W w4 := Gr.trans hg (Gr.trans (Gr.trans (Gr.trans g1 g2) g3) g4)
      go_wp2_with fail
      go_at_call 15
      (with_reducible refine (AW.out _ G4).mono ?_)
      rintro e w5 ⟨rfl, g5⟩
      go_wp2_with fail
      go_ret
      exact ⟨rfl, Gr.trans G4 g5⟩
end Go.Proofs.YtldlpbfncgcimaaDoor
