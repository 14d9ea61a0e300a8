/- slots: Parse -/
import Derived.Test.YtilijbplfobneaaDoorMf
import Derived.Laws.BytesArg
namespace Go.Proofs.YtilijbplfobneaaDoor
set_option linter.unusedVariables false
set_option linter.unusedSimpArgs false
open Go.ChangeShapes Go.WideShapes Go.ChangeAt Go.RowKit Go.Maps

/-- A row of bytes as a text. -/
def strL (L : List UInt8) : ByteArray := ⟨L.toArray⟩
theorem str_nums (L : List UInt8) : strOfNums (L.map fun c => (c.toNat : Int)) = strL L := by
  unfold strOfNums strL
  rw [List.map_map]
  congr 2
  conv => rhs; rw [← List.map_id L]
  apply List.map_congr_left
  intro c _
  show UInt8.ofNat ((c.toNat : Int)).toNat = c
  rw [Int.toNat_natCast]
  exact UInt8.ofNat_toNat
theorem row_str {w : World} {v : Value} {L : List UInt8} (h : Row w v L) : (convert 35 9 v).run Tryd.prog w = .ok (.string (strL L)) w := by
  obtain ⟨ad, cap, B, off, rfl, h1, h2, h3, h4⟩ := h
  by_cases h0 : 0 < L.length
  · obtain rfl := h3 h0
    have R := run_convert_bytes_arg (P := Tryd.prog) w 35 5 Tryd.underlying35 Tryd.underlying5 B off L.length cap (L.map fun c => (c.toNat : Int)) (by simp) (fun i hi => by
      rw [h4 i hi]
      unfold bv
      rw [List.getD_eq_getElem?_getD, List.getElem?_map, List.getElem?_eq_getElem hi]
      rfl) 9 Tryd.underlying9
    rw [str_nums] at R
    exact R
  · have e : L = [] := List.eq_nil_of_length_eq_zero (by omega)
    subst e
    rw [show (([] : List UInt8).length) = 0 from rfl, run_convert_bytes_string w 35 9 5 ad 0 cap Tryd.underlying35 Tryd.underlying5 Tryd.underlying9]
    cases ad <;> simp [Conv.bytesToString, loadCells]
    all_goals rfl
theorem str_eq (x y : List UInt8) : ((strL x).toList == (strL y).toList) = decide (x = y) := by
  unfold strL
  rw [ByteArray.toList_eq, ByteArray.toList_eq]
  rw [Bool.eq_iff_iff, beq_iff_eq, decide_eq_true_eq]
set_option maxRecDepth 100000 in
theorem c_bEqual {L M : List UInt8} {v u : Value} (W : World) (h : Row W v L) (k : Row W u M) : Calls Tryd.prog 54 #[v, u] W fun e w' => e = .returned (.bool (decide (L = M))) ∧ Gr W w' := by
  have h1 := row_str h
  have h2 := row_str k
  have h3 := str_eq L M
  obtain ⟨a1, c1, -, -, rfl, -⟩ := h
  obtain ⟨a2, c2, -, -, rfl, -⟩ := k
  go_enter Tryd.func54, Tryd.ntmps54
  go_wp2_with fail
  go_ret
  exact ⟨by first | rfl | (rw [h3]) | (simp [h3]), by go_grown⟩
/-- What Parse leaves. -/
def ParseTo (W : World) (L : List UInt8) (e : Ending) (w' : World) : Prop :=
  (RdOk L ∧ pgB (rb L 0) (wv (L.drop 2)) (rdT L (rb L 1)) = L ∧ ∃ B C, e = .returned (.tuple #[.pointer (some ⟨B, 0, none⟩), .nilIface]) ∧ (∀ k, pgZ B C k → W.heap.size ≤ k) ∧ PageS w' B C (rb L 0 : Nat) (wv (L.drop 2) : Nat) (rdT L (rb L 1))) ∨
  (¬ (RdOk L ∧ pgB (rb L 0) (wv (L.drop 2)) (rdT L (rb L 1)) = L) ∧ ∃ F, e = .returned (.tuple #[.pointer none, .iface 84 (.pointer (some ⟨F, 0, none⟩))]) ∧ FaultAt w' F pageS 0 10)
set_option maxHeartbeats 1000000 in
set_option maxRecDepth 100000 in
theorem c_Parse {L : List UInt8} {v : Value} (W : World) (hF : FT W) (h : Row W v L) (hl0 : L.length ≤ 1000000) : Calls Tryd.prog 21 #[v] W fun e w' => ParseTo W L e w' ∧ Gr W w' := by
  obtain ⟨ad, n, cap, rfl⟩ : ∃ ad n cap, v = .slice ad n cap := by obtain ⟨ad, cap, _, _, e, _⟩ := h; exact ⟨ad, _, cap, e⟩
  have HR := Lib.hid h
  have HF := Lib.hid hF
  have HA := Lib.hid (c_read W h hl0)
  clear h hF
  go_enter Tryd.func21, Tryd.ntmps21
  go_wp2_with fail
  go_at_call 53
  refine (HA.out).mono ?_
  rintro e w1 ⟨hr, g1⟩
  rcases hr with ⟨rfl, hno⟩ | ⟨hok, B, C, rfl, hz, hp⟩
  · have HN := Lib.hid hno
    clear hno
    go_wp2_with fail
    go_at_call 42
    refine (c_fNew pageS 0 10 _).mono ?_
    rintro e w3 ⟨F, rfl, hf, g3⟩
    go_wp2_with fail
    go_ret2
    exact ⟨Or.inr ⟨fun h => HN.out h.1, F, rfl, hf⟩, Gr.trans g1 g3⟩
  · have hu := hok.2.2.2.2
    have AB := Lib.hid (p_bytesS (rb L 0) (wv (L.drop 2)) (by have := rb_lt L 0; omega) (by have := wv_lt (L.drop 2); omega) hu w1 (ft_gr HF.out g1) hp)
    have HP := Lib.hid (And.intro hok (And.intro hz hp))
    clear hok hz hp hu
    obtain ⟨k0, hk0⟩ : ∃ x, x = pgB (rb L 0) (wv (L.drop 2)) (rdT L (rb L 1)) := ⟨_, rfl⟩
    rw [← hk0] at AB
    have HK := Lib.hid hk0
    clear hk0
    go_wp2_with fail
    go_at_call 22
    refine (AB.out).mono ?_
    rintro e w2 ⟨g, rfl, hg, hFu, g2⟩
    have G2 : Gr W w2 := Gr.trans g1 g2
    have AE := Lib.hid (c_bEqual w2 (full_row hFu) (row_gr HR.out G2))
    obtain ⟨b, hb⟩ : ∃ b, b = decide (k0 = L) := ⟨_, rfl⟩
    rw [← hb] at AE
    have HB := Lib.hid hb
    have HG := Lib.hid g2
    clear hb hFu g2
    go_wp2_with fail
    go_at_call 54
    refine (AE.out).mono ?_
    rintro e w3 ⟨rfl, g3⟩
    have G3 : Gr W w3 := Gr.trans G2 g3
    have HG3 := Lib.hid (Gr.trans HG.out g3)
    clear g3
    cases b with
    | true =>
      go_wp2_with fail
      go_ret2
      exact ⟨Or.inl ⟨HP.out.1, by rw [← HK.out]; exact of_decide_eq_true HB.out.symm, B, C, rfl, HP.out.2.1, pageS_gr HP.out.2.2 HG3.out⟩, G3⟩
    | false =>
      go_wp2_with fail
      go_at_call 42
      refine (c_fNew pageS 0 10 _).mono ?_
      rintro e w4 ⟨F, rfl, hf, g4⟩
      go_wp2_with fail
      go_ret2
      exact ⟨Or.inr ⟨fun h => of_decide_eq_false HB.out.symm (by rw [HK.out]; exact h.2), F, rfl, hf⟩, Gr.trans G3 g4⟩
end Go.Proofs.YtilijbplfobneaaDoor
