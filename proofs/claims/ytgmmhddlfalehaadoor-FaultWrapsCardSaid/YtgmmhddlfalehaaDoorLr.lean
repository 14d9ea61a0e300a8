/- FaultWraps -/
import Derived.Test.YtgmmhddlfalehaaDoorLq
namespace Go.Proofs.YtgmmhddlfalehaaDoor
set_option linter.unusedVariables false
set_option linter.unusedSimpArgs false
open Go.ChangeShapes Go.WideShapes Go.ChangeAt Go.RowKit

/-- Block P alone may change; what it points to, once it does, stays. -/
def AsR (P : Nat) (F : Addr) (a b : World) : Prop := Kx (fun k => k = P) a b ∧ (a.cell? ⟨P, 0, none⟩ = some (.pointer (some F)) → b.cell? ⟨P, 0, none⟩ = some (.pointer (some F)))
instance {P : Nat} {F : Addr} : Oe.Rl (AsR P F) where
  refl w := ⟨Kx.refl w, id⟩
  trans h g := ⟨h.1.trans g.1, fun c => g.2 (h.2 c)⟩
  drew w := ⟨(Kx.refl (S := fun k => k = P) w).drew, id⟩
theorem asR_gr {P : Nat} {F : Addr} {a b : World} (g : Gr a b) : AsR P F a b := ⟨Kx.of_gr g, fun c => cell_gr g c⟩
theorem own_one_str (w : World) (z : ByteArray) : (w.alloc (.cells #[.string z] 9)).ownsRow w.heap.size 9 1 (.slice (some ⟨w.heap.size, 0, none⟩) 1 1) 1 [.string z] := by
  have := World.ownsRow_lit (base := w.heap.size) (e := 9) (size := 1) w (#[.string z] : Array Value) 1 (Nat.le_refl _) (by decide) (by simp)
  simpa using this
theorem strs_news {w : World} {B off : Nat} {l : List ByteArray} (h : ∀ j, j < l.length → w.cell? ⟨B, off + j, none⟩ = some (.string (l.getD j ⟨#[]⟩))) : ∀ j u, (strV l)[j]? = some u → w.cell? ⟨B, off + j, none⟩ = some u := fun j u hu => by
  have hj : j < l.length := by
    have := (List.getElem?_eq_some_iff.1 hu).1
    unfold strV at this
    rwa [List.length_map] at this
  rw [strV_get l j hj] at hu
  rw [← Option.some.inj hu]
  exact h j hj
theorem strs_len {w : World} {v : Value} {l : List ByteArray} {n : Nat} (h : Strs w v l) (hn : l.length = n) : ∃ (ad : Option Addr) (cap B off : Nat), v = .slice ad n cap ∧ n ≤ cap ∧ (0 < n → ad = some ⟨B, off, none⟩) ∧ ∀ j u, (strV l)[j]? = some u → w.cell? ⟨B, off + j, none⟩ = some u := by
  obtain ⟨ad, cap, B, off, rfl, h1, h2, h3, h4⟩ := h
  subst hn
  exact ⟨ad, cap, B, off, rfl, h1, h3, strs_news h4⟩
theorem strV_len (l : List ByteArray) : (strV l).length = l.length := List.length_map ..
theorem want_grow {w : World} {b i : Nat} {x : Value} {z : ByteArray} {L : List ByteArray} (ez : z = L.getD i ⟨#[]⟩) (h : w.ownsRow b 9 1 x (1 + i) ([.string z] ++ strV (wantL L i))) : Strs w x (wantL L (i + 1)) := by
  refine strs_own (base := b) ?_
  have e : strV (wantL L (i + 1)) = [.string z] ++ strV (wantL L i) := by subst ez; rfl
  have l : (wantL L (i + 1)).length = 1 + i := by rw [wantL_len]; omega
  rw [e, l]
  exact h
theorem strs_nil (w : World) : Strs w (.slice none 0 0) [] := ⟨none, 0, 0, 0, rfl, Nat.le_refl _, by decide, fun h => absurd h (by simp), fun j hj => absurd hj (by simp)⟩
theorem new_chain {c : Int} {L : List ByteArray} {M : List Int} {i : Nat} {z : ByteArray} {q : Int} {v : Value} (w : World) (ez : z = L.getD i ⟨#[]⟩) (eq : q = M.getD i 0) (h : ErT w (chE c L M i) v) :
    Calls Tryd.prog 6 #[.string z, .int .i64 q, v] w fun e w' => ∃ F, e = .returned (.iface 29 (.pointer (some ⟨F, 0, none⟩))) ∧ ErT w' (chE c L M (i + 1)) (.iface 29 (.pointer (some ⟨F, 0, none⟩))) ∧ w'.cell? ⟨F, 0, none⟩ = some (.string z) ∧ w'.cell? ⟨F, 1, none⟩ = some (.int .i64 q) ∧ F < w'.heap.size ∧ Gr w w' := by
  refine (c_fNewE z q w h (chE_nn i)).mono ?_
  rintro e w' ⟨F, rfl, hT, -, g⟩
  have hT2 : ErT w' (chE c L M (i + 1)) (.iface 29 (.pointer (some ⟨F, 0, none⟩))) := by subst ez; subst eq; exact hT
  obtain ⟨F', u, e', c0, hu⟩ := hT
  simp only [Value.iface.injEq, Value.pointer.injEq, Option.some.injEq, Addr.mk.injEq, true_and, and_true] at e'
  subst e'
  exact ⟨F, rfl, hT2, Hm.cell_of_heap c0 0, Hm.cell_of_heap c0 1, (Array.getElem?_eq_some_iff.1 c0).1, g⟩
set_option maxHeartbeats 4000000 in
set_option maxRecDepth 100000 in
theorem wraps_core (c : Int) (L : List ByteArray) (v : Value) (M : List Int) (u : Value) (W : World) (hS : Strs W v L) (hM : IntsR W u M) (hE : ErrT W) (hc : 1 ≤ c ∧ c ≤ 15) (hL : L.length ≤ 20) (hMl : M.length ≤ 20) : Calls Tryd.prog 3 #[.int .i64 c, v, u] W fun e w' => e = .returned (.bool true) ∧ Gr W w' := by
  obtain ⟨i0, hi0, hz0, hz1, hz2⟩ := info_parts (P := Tryd.prog) (e := 9) (z := .string ⟨#[]⟩) (size := 1) (bytes := 16) (by kernel_rfl)
  have HI := Lib.hid (And.intro hi0 (And.intro hz0 (And.intro hz1 hz2)))
  clear hi0 hz0 hz1 hz2
  obtain ⟨ad, cap, B, off, rfl, h1, h2, h3, h4⟩ := hS
  obtain ⟨bd, cap2, D, of2, rfl, k1, k2, k3, k4, k5⟩ := hM
  have HX := Lib.hid (And.intro h3 (And.intro h4 (And.intro k3 k4)))
  have HE := Lib.hid hE
  clear h3 h4 k3 k4 k5 hE
  obtain ⟨n, hn⟩ : ∃ n, n = L.length := ⟨_, rfl⟩
  obtain ⟨m, hm⟩ : ∃ m, m = M.length := ⟨_, rfl⟩
  have HNM := Lib.hid (And.intro hn hm)
  rw [← hn] at h1 hL HX ⊢
  rw [← hm] at k1 hMl HX ⊢
  clear hn hm
  have s1 : decide (c < 1) = false := decide_eq_false (by omega)
  have s2 : decide ((15 : Int) < c) = false := decide_eq_false (by omega)
  have s3 : decide ((20 : Int) < (n : Int)) = false := decide_eq_false (by omega)
  have s4 : decide ((20 : Int) < (m : Int)) = false := decide_eq_false (by omega)
  have s3b : decide (20 < n) = false := decide_eq_false (by omega)
  have s4b : decide (20 < m) = false := decide_eq_false (by omega)
  have s5 : ¬ (20 : Int) < (n : Int) := by omega
  have s6 : ¬ (20 : Int) < (m : Int) := by omega
  go_enter Tryd.func3, Tryd.ntmps3
  go_wp2_with fail
  go_loopg [7, 8, 9, 10] n (fun j e x y z wr => ∃ i : Nat, z = .int .i64 i ∧ i ≤ n ∧ j = n - i ∧ x = .nilIface ∧ Hid (ErT wr (chE c L M i) e) ∧ Hid (Strs wr y (wantL L i)) ∧ Gr W wr)
  case atStart => exact ⟨0, rfl, by omega, by omega, rfl, Lib.hid rfl, Lib.hid (strs_nil _), by go_grown⟩
  case round =>
    obtain ⟨i, rfl, hi, hj, rfl, HT, HS, hg⟩ := hrel
    obtain ⟨U, y, rfl⟩ := ef_ne HT.out (ne_of (chE_nn i))
    by_cases hin : i < n
    · have ti : decide ((i : Int) < (n : Int)) = true := decide_eq_true (by omega)
      have ti2 : decide (i < n) = true := decide_eq_true hin
      have ti3 : (i : Int) < (n : Int) := by omega
      obtain rfl := HX.out.1 (by omega)
      have y0 := cell_gr hg (HX.out.2.1 i hin)
      obtain ⟨z, ez⟩ : ∃ z, z = L.getD i ⟨#[]⟩ := ⟨_, rfl⟩
      rw [← ez] at y0
      have HEZ := Lib.hid ez
      clear ez
      have tn1 : (i : Int) < (cap : Int) := by omega
      have t0 : (0 : Int) ≤ (i : Int) := by omega
      by_cases hz : z.size ≤ 100
      case neg =>
        have t1 : decide ((100 : Int) < (z.size : Int)) = true := decide_eq_true (by omega)
        have t2 : decide (100 < z.size) = true := decide_eq_true (by omega)
        have t3 : (100 : Int) < (z.size : Int) := by omega
        go_wp2_with fail
        go_at_call 5
        refine (p7_awake _).mono ?_
        rintro e w1 ⟨rfl, g1⟩
        go_wp2_with fail
        go_ret
        exact ⟨rfl, Gr.trans hg g1⟩
      have t1 : decide ((100 : Int) < (z.size : Int)) = false := decide_eq_false (by omega)
      have t2 : decide (100 < z.size) = false := decide_eq_false (by omega)
      have t3 : ¬ (100 : Int) < (z.size : Int) := by omega
      have tz : (z.toList != z.toList) = false := bne_self_eq_false _
      have tz2 := ba_eqL z
      have zB := World.block_lt_of_cell? _ _ y0
      clear hz
      obtain ⟨wa, wc, WB, wo, rfl, hwc, hwa, hwn⟩ := strs_len HS.out (wantL_len i)
      have HW := Lib.hid (And.intro hwa hwn)
      clear hwa hwn HS
      by_cases him : i < m
      · have tm : decide ((i : Int) < (m : Int)) = true := decide_eq_true (by omega)
        have tm2 : decide (i < m) = true := decide_eq_true him
        have tm3 : (i : Int) < (m : Int) := by omega
        have tm4 : (i : Int) < (cap2 : Int) := by omega
        obtain rfl := HX.out.2.2.1 (by omega)
        have x0 := cell_gr hg (HX.out.2.2.2 i him)
        obtain ⟨q, eq⟩ : ∃ q, q = M.getD i 0 := ⟨_, rfl⟩
        rw [← eq] at x0
        have HEQ := Lib.hid eq
        clear eq
        have AN := Lib.hid (new_chain (q := q) wr HEZ.out HEQ.out HT.out)
        have tq : ((q : Int) != q) = false := bne_self_eq_false _
        have tq2 : ((q : Int) == q) = true := beq_self_eq_true _
        go_wp2_with fail
        go_at_call 6
        refine (AN.out).mono ?_
        rintro e w1 ⟨F, rfl, hT1, f1, d1, zF1, g1⟩
        have HT1 := Lib.hid hT1
        have y1 := cell_gr g1 y0
        clear hT1 AN
        go_wp2_with fail
        go_at_call 6
        refine (c_fNew_nil _ _ _).mono ?_
        rintro e w2 ⟨rfl, g2⟩
        have y2 := cell_gr g2 y1
        have f2 := cell_gr g2 f1
        have d2 := cell_gr g2 d1
        have G12 := Lib.hid (And.intro g1 g2)
        have HW2 := Lib.hid (And.intro HW.out.1 (fun (j : Nat) (u : Value) (h : (strV (wantL L i))[j]? = some u) => cell_gr (al_grw w2 (.cells #[.string z] 9)) (cell_gr (Gr.trans g1 g2) (HW.out.2 j u h))))
        clear y1 f1 d1 zF1 g1 g2
        go_upto_region 18 with (first | fail | (at_builtin; go_loud ((refine wpList_append_row rfl (.tmp 71) (.tmp 72) 22 rfl w2.heap.size 9 i0 (.string ⟨#[]⟩) 16 Tryd.underlying22 HI.out.1 HI.out.2.1 HI.out.2.2.1 HI.out.2.2.2 rfl (.slice (some ⟨w2.heap.size, 0, none⟩) 1 1) 1 [.string z] rfl (own_one_str w2 z) wa i wc WB wo (strV (wantL L i)) rfl HW2.out.1 (by rw [strV_len, wantL_len]) HW2.out.2 (strV_one _) (by unfold maxLen; omega) (by omega) (by simp) ?_); intro x5 w5 o5 g5; (have HS5 : Hid (Strs w5 x5 (wantL L (i + 1))) := Lib.hid (want_grow HEZ.out o5)); (have G5 : Gr w2 w5 := g5.gr (al_grw w2 _) (fun k hk => (World.ownsRow.lt (own_one_str w2 z) k hk).1)); (have y5 := cell_gr G5 y2); (have f5 := cell_gr G5 f2); (have d5 := cell_gr G5 d2); (have zF5 := World.block_lt_of_cell? _ _ f5); (have zB5 := World.block_lt_of_cell? _ _ y5); clear o5 g5)))
        go_wp2_with fail
        try simp only [List.append]
        refine Oe.wp_region_ord (R := AsR w5.heap.size ⟨F, 0, none⟩) [(0, false), (1, false), (2, true), (3, false), (4, false), (5, false), (6, false), (7, false), (8, false), (9, false), (10, false), (11, false), (12, false), (13, false), (14, false), (15, false), (16, false), (17, false), (18, false), (19, false), (20, false), (21, false), (22, false), (23, false), (24, false), (25, false), (26, false)] (by kernel_rfl) (by kernel_rfl) ?_
        intro w7 h7 KQ hKQ
        have hneF : ¬ (F = w5.heap.size) := by omega
        have hneB : ¬ (B = w5.heap.size) := by omega
        have c6P : (w5.alloc (.cells #[.pointer none] 29)).cell? ⟨w5.heap.size, 0, none⟩ = some (.pointer none) := by go_simp
        have c6F : (w5.alloc (.cells #[.pointer none] 29)).frozen? ⟨w5.heap.size, 0, none⟩ = false := by go_simp
        have c7P := cell_gr h7 c6P
        have c7F := frozen_gr h7 c6P c6F
        have G57 : Gr w5 w7 := Gr.trans (al_grw w5 _) h7
        have y7 := cell_gr G57 y5
        have f7 := cell_gr G57 f5
        have d7 := cell_gr G57 d5
        have GW7 : Gr W w7 := Gr.trans hg (Gr.trans (Gr.trans G12.out.1 G12.out.2) (Gr.trans G5 G57))
        have HA := Lib.hid (as_hit ⟨F, 0, none⟩ ⟨w5.heap.size, 0, none⟩ (.pointer none) w7 (errT_gr HE.out GW7) c7P c7F)
        have z7 := World.block_lt_of_cell? _ _ c7P
        have HG57 := Lib.hid (And.intro G57 (And.intro GW7 G5))
        clear c6P c6F h7 c7F G5 G57 GW7 y5 f5 d5 y2 f2 d2
        repeat (first | (refine Oe.wpO_skip (by simp only [List.getElem?_toArray, List.getElem?_cons_succ, List.getElem?_cons_zero] <;> rfl) rfl ?_; simp only [Act.put, List.setIfInBounds_toArray, List.set_cons_zero, List.set_cons_succ]) | (refine Oe.wpO_pure (by simp only [List.getElem?_toArray, List.getElem?_cons_succ, List.getElem?_cons_zero] <;> rfl) rfl ?_; apply Exists.intro; refine ⟨?_, ?_⟩; (· intro wx gx; have cxy : wx.cell? ⟨B, off + i, none⟩ = some (.string z) := cell_kx gx.1 hneB y7; clear gx; all_goals (apply Oe.pAt_of_quiet; intro K hK; go_big_quiet_op; first | exact hK _ rfl | (apply Exists.intro; refine ⟨fun _ => ?_, ?_⟩; (· fail); exact hK _ rfl))); try simp only [Act.put, List.setIfInBounds_toArray, List.set_cons_zero, List.set_cons_succ]))
        refine Oe.wpO_call (by simp only [List.getElem?_toArray, List.getElem?_cons_succ, List.getElem?_cons_zero] <;> rfl) rfl ?_
        intro QS hQS
        go_wp2_with fail
        go_at_call 7
        (with_reducible refine (HA.out).mono ?_)
        rintro e w8 ⟨rfl, wx0, gx0, hw8⟩
        have c0P := cell_gr gx0 c7P
        have c8P : w8.cell? ⟨w5.heap.size, 0, none⟩ = some (.pointer (some ⟨F, 0, none⟩)) := by subst hw8; go_simp
        have K8 : Kx (fun k => k = w5.heap.size) w7 w8 := by subst hw8; exact (Kx.of_gr (S := fun k => k = w5.heap.size) gx0).setCell (p := ⟨w5.heap.size, 0, none⟩) rfl _
        have R8 : AsR w5.heap.size ⟨F, 0, none⟩ w7 w8 := ⟨K8, fun _ => c8P⟩
        have y8 := cell_kx K8 hneB y7
        have f8 := cell_kx K8 hneF f7
        have d8 := cell_kx K8 hneF d7
        have HK8 := Lib.hid K8
        clear hw8 gx0 c0P K8 c7P y7 f7 d7 HA z7
        go_wp2_with fail
        first | (apply Exists.intro; refine ⟨?_, R8, ?_⟩; (· simp only [Act.put, List.setIfInBounds_toArray, List.set_cons_zero, List.set_cons_succ]; rfl)) | (refine ⟨R8, ?_⟩)
        clear R8
        try simp only [Act.put, List.setIfInBounds_toArray, List.set_cons_zero, List.set_cons_succ]
        repeat (first | (refine Oe.wpO_skip (by simp only [List.getElem?_toArray, List.getElem?_cons_succ, List.getElem?_cons_zero] <;> rfl) rfl ?_; simp only [Act.put, List.setIfInBounds_toArray, List.set_cons_zero, List.set_cons_succ]) | (refine Oe.wpO_pure (by simp only [List.getElem?_toArray, List.getElem?_cons_succ, List.getElem?_cons_zero] <;> rfl) rfl ?_; apply Exists.intro; refine ⟨?_, ?_⟩; (· intro wx gx; have cxP : wx.cell? ⟨w5.heap.size, 0, none⟩ = some (.pointer (some ⟨F, 0, none⟩)) := gx.2 c8P; have cx0 : wx.cell? ⟨F, 0, none⟩ = some (.string z) := cell_kx gx.1 hneF f8; have cx1 : wx.cell? ⟨F, 1, none⟩ = some (.int .i64 q) := cell_kx gx.1 hneF d8; have cxy : wx.cell? ⟨B, off + i, none⟩ = some (.string z) := cell_kx gx.1 hneB y8; have zxF : F < wx.heap.size := World.block_lt_of_cell? _ _ cx0; clear gx; all_goals (apply Oe.pAt_of_quiet; intro K hK; go_big_quiet_op; first | exact hK _ rfl | (apply Exists.intro; refine ⟨fun _ => ?_, ?_⟩; (· fail); exact hK _ rfl))); try simp only [Act.put, List.setIfInBounds_toArray, List.set_cons_zero, List.set_cons_succ]))
        refine Oe.wpO_nil (hKQ _ _ ?_)
        clear hKQ KQ
        have G58 : Gr w5 w8 := Kx.gr HK8.out HG57.out.1 (fun k hk => by rw [show k = w5.heap.size from hk]; exact Nat.le_refl _)
        have G28 : Gr w2 w8 := Gr.trans HG57.out.2.2 G58
        have HF8 : Hid (ErT w8 (chE c L M (i + 1)) (.iface 29 (.pointer (some ⟨F, 0, none⟩))) ∧ Strs w8 x5 (wantL L (i + 1)) ∧ Gr W w8) := Lib.hid ⟨erT_gr (Gr.trans G12.out.2 G28) HT1.out, strs_gr HS5.out G58, Gr.trans hg (Gr.trans (Gr.trans G12.out.1 G12.out.2) G28)⟩
        clear G58 G28 c8P y8 f8 d8
        go_wp2_with fail
        go_roundg (n - (i + 1))
        case measure => omega
        case rel => exact ⟨i + 1, by go_num, by omega, rfl, rfl, Lib.hid HF8.out.1, Lib.hid HF8.out.2.1, HF8.out.2.2⟩
      · have tm : decide ((i : Int) < (m : Int)) = false := decide_eq_false (by omega)
        have tm2 : decide (i < m) = false := decide_eq_false him
        have tm3 : ¬ (i : Int) < (m : Int) := by omega
        have HEQ : Hid ((0 : Int) = M.getD i 0) := Lib.hid (by rw [List.getD_eq_getElem?_getD, List.getElem?_eq_none (by rw [← HNM.out.2]; omega)]; rfl)
        have AN := Lib.hid (new_chain (q := 0) wr HEZ.out HEQ.out HT.out)
        have tq : ((0 : Int) != 0) = false := bne_self_eq_false _
        have tq2 : ((0 : Int) == 0) = true := beq_self_eq_true _
        go_wp2_with fail
        go_at_call 6
        refine (AN.out).mono ?_
        rintro e w1 ⟨F, rfl, hT1, f1, d1, zF1, g1⟩
        have HT1 := Lib.hid hT1
        have y1 := cell_gr g1 y0
        clear hT1 AN
        go_wp2_with fail
        go_at_call 6
        refine (c_fNew_nil _ _ _).mono ?_
        rintro e w2 ⟨rfl, g2⟩
        have y2 := cell_gr g2 y1
        have f2 := cell_gr g2 f1
        have d2 := cell_gr g2 d1
        have G12 := Lib.hid (And.intro g1 g2)
        have HW2 := Lib.hid (And.intro HW.out.1 (fun (j : Nat) (u : Value) (h : (strV (wantL L i))[j]? = some u) => cell_gr (al_grw w2 (.cells #[.string z] 9)) (cell_gr (Gr.trans g1 g2) (HW.out.2 j u h))))
        clear y1 f1 d1 zF1 g1 g2
        go_upto_region 18 with (first | fail | (at_builtin; go_loud ((refine wpList_append_row rfl (.tmp 71) (.tmp 72) 22 rfl w2.heap.size 9 i0 (.string ⟨#[]⟩) 16 Tryd.underlying22 HI.out.1 HI.out.2.1 HI.out.2.2.1 HI.out.2.2.2 rfl (.slice (some ⟨w2.heap.size, 0, none⟩) 1 1) 1 [.string z] rfl (own_one_str w2 z) wa i wc WB wo (strV (wantL L i)) rfl HW2.out.1 (by rw [strV_len, wantL_len]) HW2.out.2 (strV_one _) (by unfold maxLen; omega) (by omega) (by simp) ?_); intro x5 w5 o5 g5; (have HS5 : Hid (Strs w5 x5 (wantL L (i + 1))) := Lib.hid (want_grow HEZ.out o5)); (have G5 : Gr w2 w5 := g5.gr (al_grw w2 _) (fun k hk => (World.ownsRow.lt (own_one_str w2 z) k hk).1)); (have y5 := cell_gr G5 y2); (have f5 := cell_gr G5 f2); (have d5 := cell_gr G5 d2); (have zF5 := World.block_lt_of_cell? _ _ f5); (have zB5 := World.block_lt_of_cell? _ _ y5); clear o5 g5)))
        go_wp2_with fail
        try simp only [List.append]
        refine Oe.wp_region_ord (R := AsR w5.heap.size ⟨F, 0, none⟩) [(0, false), (1, false), (2, true), (3, false), (4, false), (5, false), (6, false), (7, false), (8, false), (9, false), (10, false), (11, false), (12, false), (13, false), (14, false), (15, false), (16, false), (17, false), (18, false), (19, false), (20, false), (21, false), (22, false), (23, false), (24, false), (25, false), (26, false)] (by kernel_rfl) (by kernel_rfl) ?_
        intro w7 h7 KQ hKQ
        have hneF : ¬ (F = w5.heap.size) := by omega
        have hneB : ¬ (B = w5.heap.size) := by omega
        have c6P : (w5.alloc (.cells #[.pointer none] 29)).cell? ⟨w5.heap.size, 0, none⟩ = some (.pointer none) := by go_simp
        have c6F : (w5.alloc (.cells #[.pointer none] 29)).frozen? ⟨w5.heap.size, 0, none⟩ = false := by go_simp
        have c7P := cell_gr h7 c6P
        have c7F := frozen_gr h7 c6P c6F
        have G57 : Gr w5 w7 := Gr.trans (al_grw w5 _) h7
        have y7 := cell_gr G57 y5
        have f7 := cell_gr G57 f5
        have d7 := cell_gr G57 d5
        have GW7 : Gr W w7 := Gr.trans hg (Gr.trans (Gr.trans G12.out.1 G12.out.2) (Gr.trans G5 G57))
        have HA := Lib.hid (as_hit ⟨F, 0, none⟩ ⟨w5.heap.size, 0, none⟩ (.pointer none) w7 (errT_gr HE.out GW7) c7P c7F)
        have z7 := World.block_lt_of_cell? _ _ c7P
        have HG57 := Lib.hid (And.intro G57 (And.intro GW7 G5))
        clear c6P c6F h7 c7F G5 G57 GW7 y5 f5 d5 y2 f2 d2
        repeat (first | (refine Oe.wpO_skip (by simp only [List.getElem?_toArray, List.getElem?_cons_succ, List.getElem?_cons_zero] <;> rfl) rfl ?_; simp only [Act.put, List.setIfInBounds_toArray, List.set_cons_zero, List.set_cons_succ]) | (refine Oe.wpO_pure (by simp only [List.getElem?_toArray, List.getElem?_cons_succ, List.getElem?_cons_zero] <;> rfl) rfl ?_; apply Exists.intro; refine ⟨?_, ?_⟩; (· intro wx gx; have cxy : wx.cell? ⟨B, off + i, none⟩ = some (.string z) := cell_kx gx.1 hneB y7; clear gx; all_goals (apply Oe.pAt_of_quiet; intro K hK; go_big_quiet_op; first | exact hK _ rfl | (apply Exists.intro; refine ⟨fun _ => ?_, ?_⟩; (· fail); exact hK _ rfl))); try simp only [Act.put, List.setIfInBounds_toArray, List.set_cons_zero, List.set_cons_succ]))
        refine Oe.wpO_call (by simp only [List.getElem?_toArray, List.getElem?_cons_succ, List.getElem?_cons_zero] <;> rfl) rfl ?_
        intro QS hQS
        go_wp2_with fail
        go_at_call 7
        (with_reducible refine (HA.out).mono ?_)
        rintro e w8 ⟨rfl, wx0, gx0, hw8⟩
        have c0P := cell_gr gx0 c7P
        have c8P : w8.cell? ⟨w5.heap.size, 0, none⟩ = some (.pointer (some ⟨F, 0, none⟩)) := by subst hw8; go_simp
        have K8 : Kx (fun k => k = w5.heap.size) w7 w8 := by subst hw8; exact (Kx.of_gr (S := fun k => k = w5.heap.size) gx0).setCell (p := ⟨w5.heap.size, 0, none⟩) rfl _
        have R8 : AsR w5.heap.size ⟨F, 0, none⟩ w7 w8 := ⟨K8, fun _ => c8P⟩
        have y8 := cell_kx K8 hneB y7
        have f8 := cell_kx K8 hneF f7
        have d8 := cell_kx K8 hneF d7
        have HK8 := Lib.hid K8
        clear hw8 gx0 c0P K8 c7P y7 f7 d7 HA z7
        go_wp2_with fail
        first | (apply Exists.intro; refine ⟨?_, R8, ?_⟩; (· simp only [Act.put, List.setIfInBounds_toArray, List.set_cons_zero, List.set_cons_succ]; rfl)) | (refine ⟨R8, ?_⟩)
        clear R8
        try simp only [Act.put, List.setIfInBounds_toArray, List.set_cons_zero, List.set_cons_succ]
        repeat (first | (refine Oe.wpO_skip (by simp only [List.getElem?_toArray, List.getElem?_cons_succ, List.getElem?_cons_zero] <;> rfl) rfl ?_; simp only [Act.put, List.setIfInBounds_toArray, List.set_cons_zero, List.set_cons_succ]) | (refine Oe.wpO_pure (by simp only [List.getElem?_toArray, List.getElem?_cons_succ, List.getElem?_cons_zero] <;> rfl) rfl ?_; apply Exists.intro; refine ⟨?_, ?_⟩; (· intro wx gx; have cxP : wx.cell? ⟨w5.heap.size, 0, none⟩ = some (.pointer (some ⟨F, 0, none⟩)) := gx.2 c8P; have cx0 : wx.cell? ⟨F, 0, none⟩ = some (.string z) := cell_kx gx.1 hneF f8; have cx1 : wx.cell? ⟨F, 1, none⟩ = some (.int .i64 0) := cell_kx gx.1 hneF d8; have cxy : wx.cell? ⟨B, off + i, none⟩ = some (.string z) := cell_kx gx.1 hneB y8; have zxF : F < wx.heap.size := World.block_lt_of_cell? _ _ cx0; clear gx; all_goals (apply Oe.pAt_of_quiet; intro K hK; go_big_quiet_op; first | exact hK _ rfl | (apply Exists.intro; refine ⟨fun _ => ?_, ?_⟩; (· fail); exact hK _ rfl))); try simp only [Act.put, List.setIfInBounds_toArray, List.set_cons_zero, List.set_cons_succ]))
        refine Oe.wpO_nil (hKQ _ _ ?_)
        clear hKQ KQ
        have G58 : Gr w5 w8 := Kx.gr HK8.out HG57.out.1 (fun k hk => by rw [show k = w5.heap.size from hk]; exact Nat.le_refl _)
        have G28 : Gr w2 w8 := Gr.trans HG57.out.2.2 G58
        have HF8 : Hid (ErT w8 (chE c L M (i + 1)) (.iface 29 (.pointer (some ⟨F, 0, none⟩))) ∧ Strs w8 x5 (wantL L (i + 1)) ∧ Gr W w8) := Lib.hid ⟨erT_gr (Gr.trans G12.out.2 G28) HT1.out, strs_gr HS5.out G58, Gr.trans hg (Gr.trans (Gr.trans G12.out.1 G12.out.2) G28)⟩
        clear G58 G28 c8P y8 f8 d8
        go_wp2_with fail
        go_roundg (n - (i + 1))
        case measure => omega
        case rel => exact ⟨i + 1, by go_num, by omega, rfl, rfl, Lib.hid HF8.out.1, Lib.hid HF8.out.2.1, HF8.out.2.2⟩
    · obtain rfl : i = n := by omega
      have ti : decide ((i : Int) < (i : Int)) = false := decide_eq_false (by omega)
      have ti3 : ¬ (i : Int) < (i : Int) := by omega
      have tii : ((i : Int) == (i : Int)) = true := beq_self_eq_true _
      have tcc : (c == c) = true := beq_self_eq_true _
      obtain ⟨c1, hc1⟩ : ∃ c1, c1 = c + 1 := ⟨_, rfl⟩
      have e1 : wrap64 (c + 1) = c1 := by rw [wr_small (by omega)]; omega
      have e2 : IntKind.i64.wrap (c + 1) = c1 := by rw [wk_small (by omega)]; omega
      have AI : ∀ w, Gr wr w → Calls Tryd.prog 8 #[.iface U y, .iface 25 (.int .i64 c)] w fun e w' => e = .returned (.bool true) ∧ Gr w w' := fun w g => by
        have := c_Is_fat i (.iface U y) c c w (chE_fAt (erT_gr g HT.out))
        rwa [decide_eq_true rfl] at this
      have AJ : ∀ w, Gr wr w → Calls Tryd.prog 8 #[.iface U y, .iface 25 (.int .i64 c1)] w fun e w' => e = .returned (.bool false) ∧ Gr w w' := fun w g => by
        have := c_Is_fat i (.iface U y) c c1 w (chE_fAt (erT_gr g HT.out))
        rwa [decide_eq_false (by omega)] at this
      have AC : ∀ w, Gr wr w → Calls Tryd.prog 9 #[.iface U y] w fun e w' => e = .returned (.int .i64 c) ∧ Gr w w' := fun w g => by
        have := c_fCode w (erT_gr g HT.out) (by rw [chE_size]; omega)
        rwa [chE_first] at this
      have AD : ∀ w, Gr wr w → Calls Tryd.prog 10 #[.iface U y] w fun e w' => e = .returned (.int .i64 (i : Nat)) ∧ Gr w w' := fun w g => by
        have := c_fDeep w (erT_gr g HT.out) (by rw [chE_size]; omega)
        rwa [chE_deep] at this
      have AH : ∀ w, Gr wr w → Calls Tryd.prog 12 #[.iface U y] w fun e w' => ∃ sv, e = .returned sv ∧ Strs w' sv (wantL L i) ∧ Gr w w' := fun w g => by
        refine (c_fChain w (erT_gr g HT.out) (by rw [chE_size]; omega)).mono ?_
        rintro e w' ⟨sv, rfl, o, g'⟩
        rw [chE_ops] at o
        exact ⟨sv, rfl, strs_own o, g'⟩
      have HI_ := Lib.hid AI
      have HJ := Lib.hid AJ
      have HC := Lib.hid AC
      have HD := Lib.hid AD
      have HH := Lib.hid AH
      clear AI AJ AC AD AH
      clear hc1 hc
      obtain ⟨wa, wc, WB, wo, rfl, -, -, -⟩ := strs_len HS.out (wantL_len i)
      go_wp2_with fail
      go_at_call 8
      refine (HI_.out _ (Below.refl _ _)).mono ?_
      rintro e w1 ⟨rfl, g1⟩
      go_wp2_with fail
      go_at_call 8
      refine (HJ.out _ g1).mono ?_
      rintro e w2 ⟨rfl, g2⟩
      have G2 : Gr wr w2 := Gr.trans g1 g2
      clear g1 g2
      go_wp2_with fail
      go_at_call 9
      refine (HC.out _ G2).mono ?_
      rintro e w3 ⟨rfl, g3⟩
      have G3 : Gr wr w3 := Gr.trans G2 g3
      clear g3 G2
      go_wp2_with fail
      go_at_call 10
      refine (HD.out _ G3).mono ?_
      rintro e w4 ⟨rfl, g4⟩
      have G4 : Gr wr w4 := Gr.trans G3 g4
      clear g4 G3
      go_wp2_with fail
      go_at_call 12
      refine (HH.out _ G4).mono ?_
      rintro e w5 ⟨sv, rfl, S5, g5⟩
      have HS5 := Lib.hid S5
      have G5 : Gr wr w5 := Gr.trans G4 g5
      obtain ⟨sa, sc, SB, so, rfl, -⟩ := strs_len S5 (wantL_len i)
      clear g5 G4 S5
      go_wp2_with fail
      go_at_call 11
      refine (c_TextsSame _ HS5.out (strs_gr HS.out G5) (by rw [wantL_len]; omega)).mono ?_
      rintro e w6 ⟨rfl, g6⟩
      have G6 : Gr wr w6 := Gr.trans G5 g6
      clear g6 G5 HS5
      go_wp2_with fail
      go_at_call 5
      refine (p7_awake _).mono ?_
      rintro e w7 ⟨rfl, g7⟩
      go_wp2_with fail
      go_ret
      exact ⟨rfl, Gr.trans hg (Gr.trans G6 g7)⟩
set_option maxHeartbeats 4000000 in
set_option maxRecDepth 100000 in
theorem walk_FaultWraps (W : World) (c : Int) (L : List ByteArray) (v : Value) (M : List Int) (u : Value) (hb : -9223372036854775808 ≤ c ∧ c ≤ 9223372036854775807) (hS : Strs W v L) (hM : IntsR W u M) (hE : ErrT W) : Calls Tryd.prog 3 #[.int .i64 c, v, u] W fun e w' => e = .returned (.bool true) ∧ Gr W w' := by
  by_cases hc : 1 ≤ c ∧ c ≤ 15
  · by_cases hL : L.length ≤ 20
    · by_cases hMl : M.length ≤ 20
      · exact wraps_core c L v M u W hS hM hE hc hL hMl
      · obtain ⟨ad, cap, B, off, rfl, h1, h2, h3, h4⟩ := hS
        obtain ⟨bd, cap2, D, of2, rfl, k1, k2, k3, k4, k5⟩ := hM
        clear hE h3 h4 k3 k4 k5 h1 h2 k1 k2
        have s1 : decide (c < 1) = false := decide_eq_false (by omega)
        have s2 : decide ((15 : Int) < c) = false := decide_eq_false (by omega)
        have s3 : decide ((20 : Int) < (L.length : Int)) = false := decide_eq_false (by omega)
        have s4 : decide ((20 : Int) < (M.length : Int)) = true := decide_eq_true (by omega)
        have s3b : decide (20 < L.length) = false := decide_eq_false (by omega)
        have s4b : decide (20 < M.length) = true := decide_eq_true (by omega)
        have s5 : ¬ (20 : Int) < (L.length : Int) := by omega
        have s6 : (20 : Int) < (M.length : Int) := by omega
        go_enter Tryd.func3, Tryd.ntmps3
        go_wp2_with fail
        go_at_call 5
        refine ((p7_awake _)).mono ?_
        rintro e w1 ⟨rfl, hw1⟩
        have gw1 : Gr W w1 := Gr.trans (by go_grown) hw1
        clear hw1
        go_wp2_with fail
        go_ret
        exact ⟨rfl, gw1⟩
    · obtain ⟨ad, cap, B, off, rfl, h1, h2, h3, h4⟩ := hS
      obtain ⟨bd, cap2, D, of2, rfl, k1, k2, k3, k4, k5⟩ := hM
      clear hE h3 h4 k3 k4 k5 h1 h2 k1 k2
      have s1 : decide (c < 1) = false := decide_eq_false (by omega)
      have s2 : decide ((15 : Int) < c) = false := decide_eq_false (by omega)
      have s3 : decide ((20 : Int) < (L.length : Int)) = true := decide_eq_true (by omega)
      have s3b : decide (20 < L.length) = true := decide_eq_true (by omega)
      have s5 : (20 : Int) < (L.length : Int) := by omega
      go_enter Tryd.func3, Tryd.ntmps3
      go_wp2_with fail
      go_at_call 5
      refine ((p7_awake _)).mono ?_
      rintro e w1 ⟨rfl, hw1⟩
      have gw1 : Gr W w1 := Gr.trans (by go_grown) hw1
      clear hw1
      go_wp2_with fail
      go_ret
      exact ⟨rfl, gw1⟩
  · by_cases h1 : 1 ≤ c
    · have s1 : decide (c < 1) = false := decide_eq_false (by omega)
      have s2 : decide ((15 : Int) < c) = true := decide_eq_true (by omega)
      clear hE hS hM hc h1
      go_enter Tryd.func3, Tryd.ntmps3
      go_wp2_with fail
      go_at_call 5
      refine ((p7_awake _)).mono ?_
      rintro e w1 ⟨rfl, hw1⟩
      have gw1 : Gr W w1 := Gr.trans (by go_grown) hw1
      clear hw1
      go_wp2_with fail
      go_ret
      exact ⟨rfl, gw1⟩
    · have s1 : decide (c < 1) = true := decide_eq_true (by omega)
      clear hE hS hM hc h1
      go_enter Tryd.func3, Tryd.ntmps3
      go_wp2_with fail
      go_at_call 5
      refine ((p7_awake _)).mono ?_
      rintro e w1 ⟨rfl, hw1⟩
      have gw1 : Gr W w1 := Gr.trans (by go_grown) hw1
      clear hw1
      go_wp2_with fail
      go_ret
      exact ⟨rfl, gw1⟩
end Go.Proofs.YtgmmhddlfalehaaDoor
