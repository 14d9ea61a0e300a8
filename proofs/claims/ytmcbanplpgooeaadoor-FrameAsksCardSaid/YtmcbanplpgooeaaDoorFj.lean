/- frame: nextAt -/
import Derived.Test.YtmcbanplpgooeaaDoorFi
import Derived.Test.YtmcbanplpgooeaaDoorCc
import Derived.Deep.RegionWith
namespace Go.Proofs.YtmcbanplpgooeaaDoor
set_option linter.unusedVariables false
open Go.ChangeShapes Go.WideShapes Go.ChangeAt Go.RowKit

/-- 'frame'. -/
abbrev frameS : ByteArray := ⟨#[102, 114, 97, 109, 101]⟩
def FErr (w : World) (v : Value) (at_ k : Nat) : Prop := (v = .nilIface ∧ k = 0) ∨ ∃ B, v = .iface 64 (.pointer (some ⟨B, 0, none⟩)) ∧ 1 ≤ k ∧ k ≤ 15 ∧ FaultAt w B frameS at_ k
theorem ferr_gr {a b : World} {v : Value} {at_ k : Nat} (h : FErr a v at_ k) (g : Gr a b) : FErr b v at_ k := by
  rcases h with h | ⟨B, h1, h2, h3, h4⟩
  · exact Or.inl h
  · exact Or.inr ⟨B, h1, h2, h3, faultAt_gr h4 g⟩
/-- What a row begins with: 0 a frame, 15 a part of one, 10 none. -/
def nx (L : List UInt8) : Nat := if L.length < 4 then 15 else if 65536 < wv L then 10 else if L.length < wv L + 8 then 15 else if wv (L.drop (4 + wv L)) = Cr.sum (L.take (4 + wv L)) then 0 else 10
def nxRow (L : List UInt8) : List UInt8 := if nx L = 0 then (L.take (4 + wv L)).drop 4 else []
def nxLen (L : List UInt8) : Nat := if nx L = 0 then wv L + 8 else 0
def NextTo (W : World) (R : List UInt8) (at_ : Nat) (e : Ending) (w' : World) : Prop :=
  ∃ q x, e = .returned (.tuple #[q, .int .i64 (nxLen R : Nat), x]) ∧ Own w' W.heap.size q (nxRow R) ∧ FErr w' x at_ (nx R) ∧ Gr W w'
theorem own_base {w : World} {a b : Nat} {v : Value} {L : List UInt8} (h : Own w a v L) (hab : b ≤ a) : Own w b v L := by
  refine ⟨h.1, ?_⟩
  rcases h.2 with h0 | ⟨g, cap, cur, e, hb, r⟩
  · exact Or.inl h0
  · exact Or.inr ⟨g, cap, cur, e, Nat.le_trans hab hb, r⟩
theorem row_nil (w : World) : Row w (.slice none 0 0) [] := ⟨none, 0, 0, 0, rfl, Nat.le_refl _, by omega, fun h => absurd h (by simp), fun j hj => absurd hj (by simp)⟩
theorem nextTo_err {W w' : World} {R : List UInt8} {at_ k : Nat} {B : Nat} (hk : nx R = k) (h1 : 1 ≤ k ∧ k ≤ 15) (hF : FaultAt w' B frameS at_ k) (g : Gr W w') :
    NextTo W R at_ (.returned (.tuple #[.slice none 0 0, .int .i64 0, .iface 64 (.pointer (some ⟨B, 0, none⟩))])) w' := by
  have e1 : nxLen R = 0 := by unfold nxLen; rw [if_neg (by omega)]
  have e2 : nxRow R = [] := by unfold nxRow; rw [if_neg (by omega)]
  refine ⟨.slice none 0 0, _, ?_, ?_, Or.inr ⟨B, rfl, by omega, by omega, by rw [hk]; exact hF⟩, g⟩
  · rw [e1]; rfl
  · rw [e2]; exact own_nil _ _
set_option maxRecDepth 100000 in
theorem c_Fault (op : ByteArray) (id k : Int) (W : World) : Calls Tryd.prog 46 #[.string op, .int .i64 id, .iface 62 (.int .i64 k)] W fun e w' => ∃ B, e = .returned (.iface 64 (.pointer (some ⟨B, 0, none⟩))) ∧ W.heap.size ≤ B ∧ FaultAt w' B op id k ∧ Gr W w' := by
  go_enter Tryd.func46, Tryd.ntmps46
  go_wp2_with fail
  go_ret
  exact ⟨_, rfl, Nat.le_refl _, ⟨by go_simp, by go_simp, by go_simp⟩, by go_grown⟩
set_option maxHeartbeats 4000000 in
set_option maxRecDepth 100000 in
theorem c_nextAt {L : List UInt8} {v : Value} (at_ : Nat) (W : World) (hF : FT W) (h : Row W v L) (ha : at_ ≤ L.length) (hl : L.length ≤ 1000000) :
    Calls Tryd.prog 141 #[v, .int .i64 at_] W (NextTo W (L.drop at_) at_) := by
  obtain ⟨v1, ks, R1⟩ := row_from at_ ha h
  obtain ⟨R, eR⟩ : ∃ R, R = L.drop at_ := ⟨_, rfl⟩
  have hRl : R.length ≤ 1000000 := by rw [eR]; simp; omega
  rw [← eR] at R1 ⊢
  have HF := Lib.hid hF
  have HR := Lib.hid R1
  obtain ⟨ad, cap, B, off, rfl, q1, q2, q3, q4⟩ := R1
  have HQ := Lib.hid q2
  obtain ⟨n, en⟩ : ∃ n, n = R.length := ⟨_, rfl⟩
  rw [← en] at ks q1 hRl
  clear h ha hl eR q3 q4 hF q2
  by_cases c1 : n < 4
  · have t1 : decide ((n : Int) < 4) = true := decide_eq_true (by omega)
    have t2 : (n : Int) < 4 := by omega
    have hk : nx R = 15 := by unfold nx; rw [if_pos (by omega)]
    have HK := Lib.hid hk
    clear hk en
    go_enter Tryd.func141, Tryd.ntmps141
    go_wp2_with fail
    go_at_call 46
    (with_reducible refine (c_Fault frameS at_ 15 _).mono ?_)
    rintro e w1 ⟨B1, rfl, hB, hFa, g1⟩
    go_wp2_with fail
    go_ret3
    exact nextTo_err HK.out (by decide) hFa g1
  have t1 : decide ((n : Int) < 4) = false := decide_eq_false (by omega)
  have t2 : ¬ (n : Int) < 4 := by omega
  have A1 := fun w (g : Gr W w) => c_Word w (row_gr HR.out g) (by omega) (by omega)
  rw [← en] at A1
  obtain ⟨s, es⟩ : ∃ s, s = wv R := ⟨_, rfl⟩
  have hs32 : s < 4294967296 := by rw [es]; exact wv_lt R
  rw [← es] at A1
  have H1 := Lib.hid A1
  clear A1
  by_cases c2 : 65536 < s
  · have u1 : decide ((65536 : Int) < (s : Int)) = true := decide_eq_true (by omega)
    have u2 : (65536 : Int) < (s : Int) := by omega
    have hk : nx R = 10 := by unfold nx; rw [if_neg (by omega), if_pos (by omega)]
    have HK := Lib.hid hk
    clear hk en es
    go_enter Tryd.func141, Tryd.ntmps141
    go_wp2_with fail
    go_at_call 179
    (with_reducible refine (H1.out _ (Below.refl _ _)).mono ?_)
    rintro e w0 ⟨rfl, g0⟩
    go_wp2_with fail
    go_at_call 46
    (with_reducible refine (c_Fault frameS at_ 10 _).mono ?_)
    rintro e w1 ⟨B1, rfl, hB, hFa, g1⟩
    go_wp2_with fail
    go_ret3
    exact nextTo_err HK.out (by decide) hFa (Gr.trans g0 g1)
  have hs5 : s ≤ 65536 := by omega
  have hs6 : (s : Int) ≤ 65536 := by omega
  have u1 : decide ((65536 : Int) < (s : Int)) = false := decide_eq_false (by omega)
  have u2 : ¬ (65536 : Int) < (s : Int) := by omega
  by_cases c3 : n < s + 8
  · have u3 : decide ((n : Int) < 4 + (s : Int) + 4) = true := decide_eq_true (by omega)
    have u4 : (n : Int) < 4 + (s : Int) + 4 := by omega
    have hk : nx R = 15 := by unfold nx; rw [if_neg (by omega), if_neg (by omega), if_pos (by omega)]
    have HK := Lib.hid hk
    clear hk en es
    go_enter Tryd.func141, Tryd.ntmps141
    go_wp2_with fail
    go_at_call 179
    (with_reducible refine (H1.out _ (Below.refl _ _)).mono ?_)
    rintro e w0 ⟨rfl, g0⟩
    go_wp2_with fail
    go_at_call 46
    (with_reducible refine (c_Fault frameS at_ 15 _).mono ?_)
    rintro e w1 ⟨B1, rfl, hB, hFa, g1⟩
    go_wp2_with fail
    go_ret3
    exact nextTo_err HK.out (by decide) hFa (Gr.trans g0 g1)
  have u3 : decide ((n : Int) < 4 + (s : Int) + 4) = false := decide_eq_false (by omega)
  have u4 : ¬ (n : Int) < 4 + (s : Int) + 4 := by omega
  obtain ⟨v2, ks2, R2⟩ := row_from (4 + s) (by omega) HR.out
  obtain ⟨v3, ks3, R3⟩ := row_to (4 + s) (by omega) HR.out
  rw [← en] at ks2 ks3
  rw [show ((4 + s : Nat) : Int) = 4 + (s : Int) by omega] at ks2 ks3
  have A2 := fun w (g : Gr W w) => c_Word w (row_gr R2 g) (by simp; omega) (by simp; omega)
  have A3 := fun w (g : Gr W w) => c_Sum w (ft_gr HF.out g) (row_gr R3 g) (by simp; omega)
  obtain ⟨x, ex⟩ : ∃ x, x = wv (R.drop (4 + s)) := ⟨_, rfl⟩
  obtain ⟨y, ey⟩ : ∃ x, x = Cr.sum (R.take (4 + s)) := ⟨_, rfl⟩
  rw [← ex] at A2
  rw [← ey] at A3
  have H2 := Lib.hid A2
  have H3 := Lib.hid A3
  clear A2 A3
  by_cases c4 : x = y
  case neg =>
    have u5 : ((x : Int) != (y : Int)) = true := by simp; omega
    have u6 : (x != y) = true := by simp [c4]
    have hk : nx R = 10 := by unfold nx; rw [if_neg (by omega), if_neg (by omega), if_neg (by omega), ← es, ← ex, ← ey, if_neg c4]
    have HK := Lib.hid hk
    clear hk en es ex ey R2 R3
    go_enter Tryd.func141, Tryd.ntmps141
    go_wp2_with fail
    go_at_call 179
    (with_reducible refine (H1.out _ (Below.refl _ _)).mono ?_)
    rintro e w0 ⟨rfl, g0⟩
    go_wp2_with fail
    go_region_with (first
      | (go_at_call 179; (with_reducible refine (H2.out _ (by first | exact g0 | exact g0.drew | exact Gr.trans g0 (by go_grown))).mono ?_); rintro e wa ⟨rfl, ga'⟩; have ga : Gr W wa := Gr.trans (by first | exact g0 | exact g0.drew | exact Gr.trans g0 (by go_grown)) ga'; clear ga')
      | (go_at_call 73; (with_reducible refine (H3.out _ (by first | exact ga | exact ga.drew | exact Gr.trans ga (by go_grown))).mono ?_); rintro e wb ⟨rfl, gb'⟩; have gb : Gr W wb := Gr.trans (by first | exact ga | exact ga.drew | exact Gr.trans ga (by go_grown)) gb'; clear gb'))
    all_goals
      go_wp2_with fail
      go_at_call 46
      (with_reducible refine (c_Fault frameS at_ 10 _).mono ?_)
      rintro e w1 ⟨B1, rfl, hB, hFa, g1⟩
      go_wp2_with fail
      go_ret3
      exact nextTo_err HK.out (by decide) hFa (Gr.trans gb g1)
  subst c4
  have u5 : ((x : Int) != (x : Int)) = false := by simp
  have u6 : (x != x) = false := by simp
  have hk : nx R = 0 := by unfold nx; rw [if_neg (by omega), if_neg (by omega), if_neg (by omega), ← es, ← ex, ← ey, if_pos rfl]
  have hrow : nxRow R = (R.take (4 + s)).drop 4 := by unfold nxRow; rw [if_pos hk, ← es]
  have hlen : nxLen R = s + 8 := by unfold nxLen; rw [if_pos hk, ← es]
  have HK := Lib.hid (And.intro hk (And.intro hrow hlen))
  obtain ⟨v4, ks4, R4⟩ := row_mid 4 (4 + s) (by omega) (by omega) HR.out
  rw [← en] at ks4
  rw [show ((4 + s : Nat) : Int) = 4 + (s : Int) by omega] at ks4
  have ks4' := fun w0 => ks4 w0
  obtain ⟨M, eM⟩ : ∃ M, M = (R.take (4 + s)).drop 4 := ⟨_, rfl⟩
  have hM : M.length = s := by rw [eM]; simp; omega
  rw [← eM] at R4
  obtain ⟨ad4, cap4, B4, off4, rfl, z1, z2, z3, z4⟩ := R4
  rw [hM] at ks4 z3 z1
  have ks5 : ∀ w0, (Instr.slice 79 (.slice ad n cap) (some (.int .i64 4)) (some (.int .i64 (4 + (s : Int)))) none).run Tryd.prog w0 = .ok (.slice ad4 s cap4) w0 := ks4
  have hnews : ∀ w, Gr W w → ∀ j u, (M.map bv)[j]? = some u → w.cell? ⟨B4, off4 + j, none⟩ = some u := fun w g j u hu => by
    rw [List.getElem?_map] at hu
    obtain ⟨c, hc, rfl⟩ := Option.map_eq_some_iff.1 hu
    obtain ⟨hj, rfl⟩ := List.getElem?_eq_some_iff.1 hc
    exact cell_gr g (z4 j hj)
  obtain ⟨i0, hi0, hz0, hz1, hz2⟩ := info_parts (P := Tryd.prog) (e := 5) (z := .int .u8 0) (size := 1) (bytes := 1) (by kernel_rfl)
  have HI := Lib.hid (And.intro hi0 (And.intro hz0 (And.intro hz1 hz2)))
  have HM := Lib.hid (And.intro z3 (And.intro hnews (And.intro (show (M.map bv).length = s by rw [List.length_map, hM]) (And.intro (bv_one M) (And.intro eM hM)))))
  have OE := Lib.hid (fun w : World => World.ownsRow_lit (base := w.heap.size) (e := 5) (size := 1) w #[] 0 (Nat.le_refl _) (by decide) (by simp))
  clear hk hrow hlen en es ex ey R2 R3 eM hM z3 z4 hnews hi0 hz0 hz1 hz2 ks4' ks4
  go_enter Tryd.func141, Tryd.ntmps141
  go_wp2_with fail
  go_at_call 179
  (with_reducible refine (H1.out _ (Below.refl _ _)).mono ?_)
  rintro e w0 ⟨rfl, g0⟩
  go_wp2_with fail
  go_region_with (first
    | (go_at_call 179; (with_reducible refine (H2.out _ (by first | exact g0 | exact g0.drew | exact Gr.trans g0 (by go_grown))).mono ?_); rintro e wa ⟨rfl, ga'⟩; have ga : Gr W wa := Gr.trans (by first | exact g0 | exact g0.drew | exact Gr.trans g0 (by go_grown)) ga'; clear ga')
    | (go_at_call 73; (with_reducible refine (H3.out _ (by first | exact ga | exact ga.drew | exact Gr.trans ga (by go_grown))).mono ?_); rintro e wb ⟨rfl, gb'⟩; have gb : Gr W wb := Gr.trans (by first | exact ga | exact ga.drew | exact Gr.trans ga (by go_grown)) gb'; clear gb'))
  all_goals
    go_wp2_with (first | (at_builtin; (refine wpList_append_row rfl (.tmp 48) (.tmp 51) 79 rfl wb.heap.size 5 i0 (.int .u8 0) 1 Tryd.underlying79 HI.out.1 HI.out.2.1 HI.out.2.2.1 HI.out.2.2.2 rfl (.slice (some ⟨wb.heap.size, 0, none⟩) 0 0) 0 [] rfl (OE.out wb) ad4 s cap4 B4 off4 (M.map bv) rfl HM.out.1 HM.out.2.2.1 (HM.out.2.1 _ (Gr.trans gb (by go_grown))) HM.out.2.2.2.1 (by unfold maxLen; omega) (by omega) (by simp) ?_); intro v5 w5 own5 gr5))
    have G5 : Gr W w5 := gr5.gr (Gr.trans gb (by go_grown)) (fun k h => by cases h; exact gb.size)
    have O5 : Own w5 wb.heap.size v5 M := by
      have h := own5
      rw [Nat.zero_add, List.nil_append] at h
      unfold Own
      rw [HM.out.2.2.2.2.2]
      exact h
    go_ret3
    refine ⟨v5, .nilIface, ?_, ?_, Or.inl ⟨rfl, HK.out.1⟩, G5⟩
    · rw [HK.out.2.2, show ((s + 8 : Nat) : Int) = 4 + (s : Int) + 4 by omega]
      rfl
    · rw [HK.out.2.1, ← HM.out.2.2.2.2.1]
      exact own_base O5 gb.size
end Go.Proofs.YtmcbanplpgooeaaDoor
