/- fault: Root, Deep -/
import Derived.Test.YtgmmhddlfalehaaLl
namespace Go.Proofs.Ytgmmhddlfalehaa
set_option linter.unusedVariables false
set_option linter.unusedSimpArgs false
open Go.ChangeShapes Go.WideShapes Go.ChangeAt Go.RowKit

def Er.isNil : Er → Bool
  | .nil => true
  | _ => false
/-- The innermost one, by single steps. -/
def Er.root : Er → Er
  | .flt op id k => if k.isNil then .flt op id k else k.root
  | .cov T k => if k.isNil then .cov T k else k.root
  | t => t
def Er.deep : Er → Nat
  | .flt _ _ k => if k.isNil then 0 else 1 + k.deep
  | .cov _ k => if k.isNil then 0 else 1 + k.deep
  | _ => 0
theorem er_root (T : Er) : T.root = if T.next.isNil then T else T.next.root := by cases T <;> rfl
theorem er_deep (T : Er) : T.deep = if T.next.isNil then 0 else 1 + T.next.deep := by cases T <;> rfl
theorem er_next_lt {T : Er} (h : T.next.isNil = false) : T.next.size < T.size := by
  cases T with
  | flt op id k => show k.size < 1 + k.size; omega
  | cov T k => show k.size < 1 + k.size; omega
  | _ => cases h
theorem isNil_iff {T : Er} : T.isNil = true ↔ T = .nil := by cases T <;> simp [Er.isNil]
theorem deep_le : ∀ T : Er, T.deep ≤ T.size
  | .flt op id k => by
    have := deep_le k
    show (if k.isNil then 0 else 1 + k.deep) ≤ 1 + k.size
    split <;> omega
  | .cov T k => by
    have := deep_le k
    show (if k.isNil then 0 else 1 + k.deep) ≤ 1 + k.size
    split <;> omega
  | .nil => Nat.zero_le _
  | .num _ => Nat.zero_le _
  | .nflt => Nat.zero_le _
  | .plain _ _ => Nat.zero_le _
  | .wrap _ _ _ => Nat.zero_le _
/-- Between two steps. -/
structure DSt (W0 w : World) (mp : Nat) (S : List Nat) (T : Er) (v : Value) : Prop where
  err : ErT W0 T v
  passed : PSet w mp S
  flt : ∀ F ∈ S, ∃ U, ErT W0 U (.iface 33 (ptrV F)) ∧ T.size < U.size
  gr : Gr W0 w
  b : W0.heap.size ≤ mp
theorem dst_gr {W0 w w' : World} {mp : Nat} {S : List Nat} {T : Er} {v : Value} (h : DSt W0 w mp S T v) (g : Gr w w') : DSt W0 w' mp S T v := ⟨h.err, pset_gr h.passed g, h.flt, Gr.trans h.gr g, h.b⟩
theorem dst_notin {W0 w : World} {mp : Nat} {S : List Nat} {T T' : Er} {v : Value} {F : Nat} (h : DSt W0 w mp S T v) (hT : ErT W0 T' (.iface 33 (ptrV F))) (hs : T'.size ≤ T.size) : F ∉ S := fun hF => by
  obtain ⟨U, hU, hlt⟩ := h.flt F hF
  have := erT_det hT hU
  omega
theorem dst_blk {W0 w : World} {mp : Nat} {S : List Nat} {T : Er} {v : Value} (h : DSt W0 w mp S T v) : ∀ F ∈ S, FltB w F := fun F hF => by
  obtain ⟨U, hU, -⟩ := h.flt F hF
  exact fltB_gr (erT_flt hU) h.gr
/-- .. this one passed, too. -/
structure MSt (W0 w : World) (mp : Nat) (S : List Nat) (T : Er) (v : Value) : Prop where
  err : ErT W0 T v
  passed : PSet w mp S
  flt : ∀ F ∈ S, ∃ U, ErT W0 U (.iface 33 (ptrV F)) ∧ T.size ≤ U.size
  gr : Gr W0 w
  b : W0.heap.size ≤ mp
section
variable {W0 w w' : World} {mp : Nat} {S : List Nat} {T : Er} {v u : Value}
theorem mst_of (h : DSt W0 w mp S T v) : MSt W0 w mp S T v := ⟨h.err, h.passed, fun F hF => by obtain ⟨U, h1, h2⟩ := h.flt F hF; exact ⟨U, h1, Nat.le_of_lt h2⟩, h.gr, h.b⟩
theorem mst_gr (h : MSt W0 w mp S T v) (g : Gr w w') : MSt W0 w' mp S T v := ⟨h.err, pset_gr h.passed g, h.flt, Gr.trans h.gr g, h.b⟩
theorem mst_put {F : Nat} (h : DSt W0 w mp S T (.iface 33 (ptrV F))) (hp : PSet w' mp (S ++ [F])) (K : Kx (fun k => k = mp) w w') : MSt W0 w' mp (S ++ [F]) T (.iface 33 (ptrV F)) :=
  ⟨h.err, hp, fun G hG => by
    rcases List.mem_append.1 hG with h' | h'
    · obtain ⟨U, h1, h2⟩ := h.flt G h'; exact ⟨U, h1, Nat.le_of_lt h2⟩
    · obtain rfl : G = F := by simpa using h'
      exact ⟨T, h.err, Nat.le_refl _⟩, Kx.gr K h.gr (fun k hk => by rw [show k = mp from hk]; exact h.b), h.b⟩
theorem mst_next (h : MSt W0 w mp S T v) (hu : ErT W0 T.next u) (hn : T.next.isNil = false) : DSt W0 w mp S T.next u :=
  ⟨hu, h.passed, fun F hF => by obtain ⟨U, h1, h2⟩ := h.flt F hF; exact ⟨U, h1, Nat.lt_of_lt_of_le (er_next_lt hn) h2⟩, h.gr, h.b⟩
end
theorem nil_of {T : Er} {w : World} {u : Value} (h : ErT w T u) (hn : T.isNil = true) : u = .nilIface := by
  rw [isNil_iff] at hn
  subst hn
  exact h
theorem ne_of {T : Er} (hn : T.isNil = false) : T ≠ .nil := fun e => by rw [e] at hn; cases hn
set_option maxHeartbeats 2000000 in
set_option maxRecDepth 100000 in
theorem c_descend {T0 : Er} {v0 : Value} (W : World) (h : ErT W T0 v0) (hs : T0.size ≤ 400000) : Calls Try.prog 29 #[v0] W fun e w' => ∃ u, e = .returned (.tuple #[u, .int .i64 (T0.deep : Nat)]) ∧ ErT W T0.root u ∧ Gr W w' := by
  have hmm := @run_makeMap Try.prog
  have H0 := Lib.hid h
  obtain ⟨M, hM⟩ : ∃ M, M = T0.size := ⟨_, rfl⟩
  have HM := Lib.hid hM
  have hM2 : M ≤ 400000 := by omega
  clear h hM hs
  go_enter Try.func29, Try.ntmps29
  go_upto_region 2 with fail
  obtain ⟨mp, hmp⟩ : ∃ mp, mp = W.heap.size := ⟨_, rfl⟩
  have HD0 : Hid (DSt W (W.alloc (.map #[] 0)) mp [] T0 v0) := Lib.hid ⟨H0.out, ⟨#[], 0, by rw [hmp]; exact heap_alloc_new W _, rfl⟩, (fun F hF => by cases hF), al_grw _ _, by rw [hmp]; exact Nat.le_refl _⟩
  rw [← hmp]
  clear hmp
  generalize W.alloc (.map #[] 0) = w1 at HD0 ⊢
  go_wp2_with fail
  go_loopg [0, 3, 13] M (fun j x y z wr => ∃ (T : Er) (n i : Nat) (S : List Nat), y = .int .i64 n ∧ z = .int .i64 i ∧ i + T.size ≤ M ∧ j = T.size ∧ n + T.deep = T0.deep ∧ Hid (T.root = T0.root) ∧ Hid (DSt W wr mp S T x))
  case atStart => exact ⟨T0, 0, 0, [], rfl, rfl, by rw [HM.out]; omega, HM.out, by omega, Lib.hid rfl, HD0⟩
  case round =>
    obtain ⟨T, n, i, S, rfl, rfl, hi, hj, hn, HR, HD⟩ := hrel
    have ti : decide ((i : Int) < 2147483647) = true := decide_eq_true (by omega)
    have ti3 : (i : Int) < 2147483647 := by omega
    have hn9 : n ≤ 900000 := by have := deep_le T0; have := HM.out; omega
    by_cases hfl : ∃ op id kid, T = .flt op id kid
    · obtain ⟨op, id, kid, hT⟩ := hfl
      obtain ⟨F, hv⟩ : ∃ F, u0 = .iface 33 (.pointer (some ⟨F, 0, none⟩)) := by
        have h := HD.out.err
        rw [hT] at h
        obtain ⟨F, u, e, -⟩ := h
        exact ⟨F, e⟩
      clear hT
      subst hv
      go_wp2_with fail
      go_at_call 25
      refine (c_place_flt F _).mono ?_
      rintro e w2 ⟨rfl, g2⟩
      have HD2 := Lib.hid (dst_gr HD.out g2)
      obtain ⟨wa, hrp, hpp, hkp⟩ := run_putP w2 HD2.out.passed (fltB_gr (erT_flt HD2.out.err) HD2.out.gr) (dst_blk HD2.out) (dst_notin HD2.out HD2.out.err (Nat.le_refl _))
      have HMS := Lib.hid (mst_put HD2.out hpp hkp)
      clear g2 hpp hkp HD
      go_upto_region 7 with (at_mapUpdate; (refine wpList_putP rfl _ _ _ _ rfl rfl rfl rfl hrp ?_))
      obtain ⟨u, hu, hcn⟩ := c_next W wa HMS.out.err HMS.out.gr
      have HCN := Lib.hid hcn
      have HU := Lib.hid hu
      clear hcn
      cases hnn : T.next.isNil with
      | true =>
        obtain rfl := nil_of hu hnn
        have hroot := er_root T
        have hdeep := er_deep T
        rw [hnn, if_pos rfl] at hroot hdeep
        have hnd : n = T0.deep := by omega
        have HRT := Lib.hid (And.intro hroot hnd)
        clear hu hroot hdeep hnn hnd
        go_wp2_with fail
        go_at_call 35
        refine (HCN.out).mono ?_
        rintro e w3 ⟨rfl, g3⟩
        have HMS3 := Lib.hid (mst_gr HMS.out g3)
        clear g3
        go_wp2_with fail
        go_ret2
        exact ⟨_, by first | rfl | (rw [HRT.out.2]; rfl), by rw [← HR.out, HRT.out.1]; exact HMS3.out.err, HMS3.out.gr⟩
      | false =>
        obtain ⟨U, y, rfl⟩ := ef_ne hu (ne_of hnn)
        have hroot := er_root T
        have hdeep := er_deep T
        rw [hnn, if_neg (by decide)] at hroot hdeep
        have hlt := er_next_lt hnn
        have HNX := Lib.hid (And.intro hroot (And.intro hdeep (And.intro hlt hnn)))
        have e5 : wrap64 ((n : Int) + 1) = ((n + 1 : Nat) : Int) := by rw [wr_small (by omega)]; omega
        have e6 : IntKind.i64.wrap ((n : Int) + 1) = ((n + 1 : Nat) : Int) := by rw [wk_small (by omega)]; omega
        clear hroot hdeep hlt
        go_wp2_with fail
        go_at_call 35
        refine (HCN.out).mono ?_
        rintro e w3 ⟨rfl, g3⟩
        have HMS3 := Lib.hid (mst_gr HMS.out g3)
        clear g3
        by_cases hf2 : ∃ op id kid, T.next = .flt op id kid
        · obtain ⟨op2, id2, kid2, hT2⟩ := hf2
          obtain ⟨F2, hUy⟩ : ∃ F, Value.iface U y = .iface 33 (.pointer (some ⟨F, 0, none⟩)) := by
            have h := HU.out
            rw [hT2] at h
            obtain ⟨F, u, e, -⟩ := h
            exact ⟨F, e⟩
          simp only [Value.iface.injEq] at hUy
          obtain ⟨rfl, rfl⟩ := hUy
          clear hT2 hnn hu
          go_wp2_with fail
          go_at_call 25
          refine (c_place_flt F2 _).mono ?_
          rintro e w4 ⟨rfl, g4⟩
          have HD4 : Hid (DSt W w4 mp (S ++ [F]) T.next (.iface 33 (.pointer (some ⟨F2, 0, none⟩)))) := Lib.hid (mst_next (mst_gr HMS3.out g4) HU.out HNX.out.2.2.2)
          have hlk2 : (Instr.lookup 75 (.map (some mp)) (ptrV F2) true).run Try.prog w4 = .ok (.tuple #[.agg #[], .bool false]) w4 := by
            have := run_lookP w4 HD4.out.passed (fltB_gr (erT_flt HU.out) HD4.out.gr) (dst_blk HD4.out)
            rw [decide_eq_false (dst_notin HD4.out HU.out (Nat.le_refl _))] at this
            exact this
          clear g4
          go_upto_region 12 with (at_lookup; (refine wpList_lookP rfl _ _ _ rfl rfl rfl hlk2 ?_))
          have HD5 : Hid (DSt W (w4.alloc (.cells #[] 79)) mp (S ++ [F]) T.next (.iface 33 (.pointer (some ⟨F2, 0, none⟩)))) := Lib.hid (dst_gr HD4.out (al_grw _ _))
          generalize w4.alloc (.cells #[] 79) = w5 at HD5 ⊢
          clear hlk2 HD4
          go_wp2_with fail
          go_roundg (T.next.size)
          case measure => have := HNX.out.2.2.1; omega
          case rel => exact ⟨T.next, n + 1, i + 1, (S ++ [F]), rfl, by go_num, by have := HNX.out.2.2.1; omega, rfl, by have := HNX.out.2.1; omega, Lib.hid (by rw [← HNX.out.1]; exact HR.out), HD5⟩
        · have AP : Hid (∀ w, Calls Try.prog 25 #[.iface U y] w fun e w' => e = .returned (.tuple #[.pointer none, .bool false]) ∧ Gr w w') := Lib.hid (fun w => by
            obtain ⟨p, b, hP, hc⟩ := c_place w HU.out
            rcases hP with ⟨op, id, kid, F, e, -⟩ | ⟨-, rfl, rfl⟩
            · exact absurd ⟨op, id, kid, e⟩ hf2
            · exact hc)
          clear hf2 hnn hu
          go_wp2_with fail
          go_at_call 25
          refine (AP.out _).mono ?_
          rintro e w4 ⟨rfl, g4⟩
          have HD5 : Hid (DSt W w4 mp (S ++ [F]) T.next (.iface U y)) := Lib.hid (mst_next (mst_gr HMS3.out g4) HU.out HNX.out.2.2.2)
          clear g4
          go_wp2_with fail
          go_roundg (T.next.size)
          case measure => have := HNX.out.2.2.1; omega
          case rel => exact ⟨T.next, n + 1, i + 1, (S ++ [F]), rfl, by go_num, by have := HNX.out.2.2.1; omega, rfl, by have := HNX.out.2.1; omega, Lib.hid (by rw [← HNX.out.1]; exact HR.out), HD5⟩
    · have AP0 : Hid (∀ w, Calls Try.prog 25 #[u0] w fun e w' => e = .returned (.tuple #[.pointer none, .bool false]) ∧ Gr w w') := Lib.hid (fun w => by
        obtain ⟨p, b, hP, hc⟩ := c_place w HD.out.err
        rcases hP with ⟨op, id, kid, F, e, -⟩ | ⟨-, rfl, rfl⟩
        · exact absurd ⟨op, id, kid, e⟩ hfl
        · exact hc)
      clear hfl
      go_wp2_with fail
      go_at_call 25
      refine (AP0.out _).mono ?_
      rintro e wa ⟨rfl, g2⟩
      have HMS := Lib.hid (mst_of (dst_gr HD.out g2))
      clear g2 HD AP0
      go_upto_region 7 with fail
      obtain ⟨u, hu, hcn⟩ := c_next W wa HMS.out.err HMS.out.gr
      have HCN := Lib.hid hcn
      have HU := Lib.hid hu
      clear hcn
      cases hnn : T.next.isNil with
      | true =>
        obtain rfl := nil_of hu hnn
        have hroot := er_root T
        have hdeep := er_deep T
        rw [hnn, if_pos rfl] at hroot hdeep
        have hnd : n = T0.deep := by omega
        have HRT := Lib.hid (And.intro hroot hnd)
        clear hu hroot hdeep hnn hnd
        go_wp2_with fail
        go_at_call 35
        refine (HCN.out).mono ?_
        rintro e w3 ⟨rfl, g3⟩
        have HMS3 := Lib.hid (mst_gr HMS.out g3)
        clear g3
        go_wp2_with fail
        go_ret2
        exact ⟨_, by first | rfl | (rw [HRT.out.2]; rfl), by rw [← HR.out, HRT.out.1]; exact HMS3.out.err, HMS3.out.gr⟩
      | false =>
        obtain ⟨U, y, rfl⟩ := ef_ne hu (ne_of hnn)
        have hroot := er_root T
        have hdeep := er_deep T
        rw [hnn, if_neg (by decide)] at hroot hdeep
        have hlt := er_next_lt hnn
        have HNX := Lib.hid (And.intro hroot (And.intro hdeep (And.intro hlt hnn)))
        have e5 : wrap64 ((n : Int) + 1) = ((n + 1 : Nat) : Int) := by rw [wr_small (by omega)]; omega
        have e6 : IntKind.i64.wrap ((n : Int) + 1) = ((n + 1 : Nat) : Int) := by rw [wk_small (by omega)]; omega
        clear hroot hdeep hlt
        go_wp2_with fail
        go_at_call 35
        refine (HCN.out).mono ?_
        rintro e w3 ⟨rfl, g3⟩
        have HMS3 := Lib.hid (mst_gr HMS.out g3)
        clear g3
        by_cases hf2 : ∃ op id kid, T.next = .flt op id kid
        · obtain ⟨op2, id2, kid2, hT2⟩ := hf2
          obtain ⟨F2, hUy⟩ : ∃ F, Value.iface U y = .iface 33 (.pointer (some ⟨F, 0, none⟩)) := by
            have h := HU.out
            rw [hT2] at h
            obtain ⟨F, u, e, -⟩ := h
            exact ⟨F, e⟩
          simp only [Value.iface.injEq] at hUy
          obtain ⟨rfl, rfl⟩ := hUy
          clear hT2 hnn hu
          go_wp2_with fail
          go_at_call 25
          refine (c_place_flt F2 _).mono ?_
          rintro e w4 ⟨rfl, g4⟩
          have HD4 : Hid (DSt W w4 mp S T.next (.iface 33 (.pointer (some ⟨F2, 0, none⟩)))) := Lib.hid (mst_next (mst_gr HMS3.out g4) HU.out HNX.out.2.2.2)
          have hlk2 : (Instr.lookup 75 (.map (some mp)) (ptrV F2) true).run Try.prog w4 = .ok (.tuple #[.agg #[], .bool false]) w4 := by
            have := run_lookP w4 HD4.out.passed (fltB_gr (erT_flt HU.out) HD4.out.gr) (dst_blk HD4.out)
            rw [decide_eq_false (dst_notin HD4.out HU.out (Nat.le_refl _))] at this
            exact this
          clear g4
          go_upto_region 12 with (at_lookup; (refine wpList_lookP rfl _ _ _ rfl rfl rfl hlk2 ?_))
          have HD5 : Hid (DSt W (w4.alloc (.cells #[] 79)) mp S T.next (.iface 33 (.pointer (some ⟨F2, 0, none⟩)))) := Lib.hid (dst_gr HD4.out (al_grw _ _))
          generalize w4.alloc (.cells #[] 79) = w5 at HD5 ⊢
          clear hlk2 HD4
          go_wp2_with fail
          go_roundg (T.next.size)
          case measure => have := HNX.out.2.2.1; omega
          case rel => exact ⟨T.next, n + 1, i + 1, S, rfl, by go_num, by have := HNX.out.2.2.1; omega, rfl, by have := HNX.out.2.1; omega, Lib.hid (by rw [← HNX.out.1]; exact HR.out), HD5⟩
        · have AP : Hid (∀ w, Calls Try.prog 25 #[.iface U y] w fun e w' => e = .returned (.tuple #[.pointer none, .bool false]) ∧ Gr w w') := Lib.hid (fun w => by
            obtain ⟨p, b, hP, hc⟩ := c_place w HU.out
            rcases hP with ⟨op, id, kid, F, e, -⟩ | ⟨-, rfl, rfl⟩
            · exact absurd ⟨op, id, kid, e⟩ hf2
            · exact hc)
          clear hf2 hnn hu
          go_wp2_with fail
          go_at_call 25
          refine (AP.out _).mono ?_
          rintro e w4 ⟨rfl, g4⟩
          have HD5 : Hid (DSt W w4 mp S T.next (.iface U y)) := Lib.hid (mst_next (mst_gr HMS3.out g4) HU.out HNX.out.2.2.2)
          clear g4
          go_wp2_with fail
          go_roundg (T.next.size)
          case measure => have := HNX.out.2.2.1; omega
          case rel => exact ⟨T.next, n + 1, i + 1, S, rfl, by go_num, by have := HNX.out.2.2.1; omega, rfl, by have := HNX.out.2.1; omega, Lib.hid (by rw [← HNX.out.1]; exact HR.out), HD5⟩
end Go.Proofs.Ytgmmhddlfalehaa
