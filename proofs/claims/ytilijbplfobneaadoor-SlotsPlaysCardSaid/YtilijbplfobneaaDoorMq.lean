/- the document's page: Bytes -/
import Derived.Test.YtilijbplfobneaaDoorMp
import Derived.Test.YtilijbplfobneaaDoorMd
import Derived.Test.YtilijbplfobneaaDoorFy
namespace Go.Proofs.YtilijbplfobneaaDoor
set_option linter.unusedVariables false
set_option linter.unusedSimpArgs false
open Go.ChangeShapes Go.WideShapes Go.ChangeAt Go.RowKit Go.Maps

set_option maxHeartbeats 8000000 in
set_option maxRecDepth 100000 in
theorem c_put2 (v : Nat) (hv : v < 65536) (W : World) :
    Calls Tryd.prog 85 #[.int .u64 v, .int .i64 2] W fun e w' => ∃ b', e = .returned b' ∧ Own w' W.heap.size b' (pr v) ∧ Gr W w' := by
  obtain ⟨i0, hi0, hz0, hz1, hz2⟩ := info_parts (P := Tryd.prog) (e := 5) (z := .int .u8 0) (size := 1) (bytes := 1) (by kernel_rfl)
  have HI := Lib.hid (And.intro hi0 (And.intro hz0 (And.intro hz1 hz2)))
  obtain ⟨b0, e0⟩ : ∃ q, q = v % 256 := ⟨_, rfl⟩
  obtain ⟨q1, e1⟩ : ∃ q, q = v / 256 := ⟨_, rfl⟩
  obtain ⟨b1, e2⟩ : ∃ q, q = q1 % 256 := ⟨_, rfl⟩
  have hw : (pr v).map bv = [.int .u8 (b0 : Int), .int .u8 (b1 : Int)] := by
    rw [e2, e1, e0]
    show [bv _, bv _] = _
    rw [byte_eq (by omega), byte_eq (by omega)]
  have HW := Lib.hid hw
  have c0 : (v : Int) % 256 = (b0 : Int) := by omega
  have c0b : IntKind.u8.wrap (v : Int) = (b0 : Int) := by rw [wraps_u8', ← e0]
  have c1 : (v : Int) / 2 ^ 8 = (q1 : Int) := by rw [show ((2 : Int) ^ 8) = 256 from rfl]; omega
  have c1b : (v : Int) / 256 = (q1 : Int) := by omega
  have c1c : (v : Int) / 2 ^ min 8 64 = (q1 : Int) := c1
  have c1d : (q1 : Int) % 256 = (b1 : Int) := by omega
  have c1e : IntKind.u8.wrap (q1 : Int) = (b1 : Int) := by rw [wraps_u8', ← e2]
  have N0 : W.ownsRow W.heap.size 5 1 (.slice none 0 0) 0 [] := World.ownsRow_nil _ _ _ _
  have O0 := Lib.hid N0
  clear hi0 hz0 hz1 hz2 hw e0 e1 e2 N0
  go_enter Tryd.func85, Tryd.ntmps85
  go_wp2_with fail
  refine wp_loop_rounds 3 ?_
  rw [rounds_succ]
  go_wp2_with (first | (at_builtin; (refine wpList_append_own2 _ rfl (.tmp 12) (.tmp 18) 35 rfl W.heap.size 5 i0 (.int .u8 0) 1 1 Tryd.underlying35 HI.out.1 HI.out.2.1 HI.out.2.2.1 HI.out.2.2.2 rfl (by decide) (.slice none 0 0) 0 [] rfl (World.ownsRow.alloc O0.out _) ⟨W.heap.size, 0, none⟩ 1 1 [.int .u8 (b0 : Int)] rfl rfl (cell_one_new _ _ _) (by intro u hu; (simp at hu); subst hu; rfl) (by unfold maxLen; omega) (by omega) (by simp) ?_); intro v1 w1 own1 gr1))
  have G1 : Gr W w1 := gr1.gr ((Below.refl _ _).alloc (Nat.le_refl _) _) (fun k hk => by cases hk)
  simp only [Nat.zero_add, List.nil_append] at own1
  have O1 := Lib.hid own1
  have s1 := G1.size
  clear own1 gr1
  rw [rounds_succ]
  go_wp2_with (first | (at_builtin; (refine wpList_append_own2 _ rfl (.tmp 12) (.tmp 18) 35 rfl W.heap.size 5 i0 (.int .u8 0) 1 1 Tryd.underlying35 HI.out.1 HI.out.2.1 HI.out.2.2.1 HI.out.2.2.2 rfl (by decide) v1 1 _ rfl (World.ownsRow.alloc O1.out _) ⟨w1.heap.size, 0, none⟩ 1 1 [.int .u8 (b1 : Int)] rfl rfl (cell_one_new _ _ _) (by intro u hu; (simp at hu); subst hu; rfl) (by unfold maxLen; omega) (by omega) (by simp; omega) ?_); intro v2 w2 own2 gr2))
  have G2 : Gr W w2 := gr2.gr (Gr.trans G1 ((Below.refl _ _).alloc (Nat.le_refl _) _)) (fun k hk => (anyown_lt' O1.out hk))
  have O2 := Lib.hid own2
  have s2 := G2.size
  clear own2 gr2
  have O4 : Own w2 W.heap.size v2 (pr v) := by
    unfold Own
    rw [HW.out]
    exact O2.out
  have P4 := Lib.hid O4
  clear O4
  rw [rounds_succ]
  go_wp2_with fail
  go_ret
  exact ⟨v2, rfl, P4.out, G2⟩
set_option maxRecDepth 100000 in
theorem make512f : ∃ o : Obj, (∀ w : World, (Instr.makeSlice 35 (.int .i64 512) (.int .i64 512)).run Tryd.prog w = .ok (.slice (some ⟨w.heap.size, 0, none⟩) 512 512) (w.alloc o)) ∧ ∀ w : World, Full (w.alloc o) w.heap.size 512 (List.replicate 512 0) :=
  ⟨.cells (Array.replicate 512 (.int .u8 0)) 5, fun w => by kernel_rfl, fun w => by
    have h := World.ownsRow_lit (base := 0) (e := 5) (size := 1) w (Array.replicate 512 (.int .u8 0)) 512 (Nat.zero_le _) (by decide) (by rw [Array.size_replicate])
    refine own_full (base := 0) ?_ List.length_replicate.symm
    unfold Own
    rw [List.length_replicate, List.map_replicate]
    rw [Array.toList_replicate] at h
    exact h⟩
theorem u64_small {z : Nat} (h : z < 4294967296) : IntKind.u64.wrap (z : Int) = (z : Int) ∧ (z : Int) % 18446744073709551616 = (z : Int) := by
  have e : (z : Int) % 18446744073709551616 = (z : Int) := by omega
  exact ⟨e, e⟩
theorem rend_facts {S : List Sl} (hu : usS S ≤ 512) {i : Nat} {L : List UInt8} (hi : i < S.length) (h60 : S.length ≤ 60) (h : S.getD i none = some L) {a b A A2 l1 : Nat} (ha : a = endS S i) (hb : b = endS S (i + 1)) (hA : A = 16 + 4 * i) (hA2 : A2 = 18 + 4 * i) (hl : l1 = L.length + 1) :
    wrap64 ((a : Int) - (L.length : Int)) = (b : Int) ∧ IntKind.i64.wrap ((a : Int) - (L.length : Int)) = (b : Int) ∧ wrap64 (4 * (i : Int)) = 4 * (i : Int) ∧ IntKind.i64.wrap (4 * (i : Int)) = 4 * (i : Int) ∧
    wrap64 (16 + 4 * (i : Int)) = (A : Int) ∧ IntKind.i64.wrap (16 + 4 * (i : Int)) = (A : Int) ∧ wrap64 (18 + 4 * (i : Int)) = (A2 : Int) ∧ IntKind.i64.wrap (18 + 4 * (i : Int)) = (A2 : Int) ∧
    wrap64 ((L.length : Int) + 1) = (l1 : Int) ∧ IntKind.i64.wrap ((L.length : Int) + 1) = (l1 : Int) ∧ b + L.length ≤ 512 ∧ b ≤ 512 ∧ L.length ≤ 512 := by
  obtain ⟨h1, h2, h3⟩ := endS_some hu hi h
  have e1 : (a : Int) - (L.length : Int) = (b : Int) := by omega
  have e3 : 16 + 4 * (i : Int) = (A : Int) := by omega
  have e4 : 18 + 4 * (i : Int) = (A2 : Int) := by omega
  have e5 : (L.length : Int) + 1 = (l1 : Int) := by omega
  rw [e1, e3, e4, e5]
  exact ⟨wr_small (by omega), wk_small (by omega), wr_small (by omega), wk_small (by omega), wr_small (by omega), wk_small (by omega), wr_small (by omega), wk_small (by omega), wr_small (by omega), wk_small (by omega), by omega, by omega, by omega⟩
section
variable {base q : Nat} {Z : Nat → Prop} {S : List Sl} {bv' hv : Value} {xs : List Value}
set_option maxHeartbeats 4000000 in
set_option maxRecDepth 100000 in
theorem r_bytes (kd id : Nat) (hk : kd ≤ 255) (hid : id ≤ 4294967295) (hu : usS S ≤ 512) (W : World) (h : RefP base W q Z kd id S bv' hv xs) :
    Calls Tryd.prog 63 #[.pointer (some ⟨q, 0, none⟩)] W fun e w' => ∃ g, e = .returned (.slice (some ⟨g, 0, none⟩) 512 512) ∧ W.heap.size ≤ g ∧ Full w' g 512 (pgB kd id S) ∧ Gr W w' := by
  obtain ⟨o512, M1, M2⟩ := make512f
  have F0 := Lib.hid (M2 W)
  have h60 := h.le
  obtain ⟨sq, c0, c1, c2, c3, -, -⟩ := refP_cells h
  obtain ⟨D, E, ha, ba, hc, bc, rfl, rfl, hp, hlc, blc, m1, m2, hcc⟩ := refP_rows h
  have hcc2 : ∀ i, i < S.length → ha = some ⟨D, 0, none⟩ ∧ ba = some ⟨E, 0, none⟩ ∧ ∃ a z c, W.cell? ⟨D, i, none⟩ = some (.bool (S.getD i none).isSome) ∧ W.cell? ⟨E, i, none⟩ = some (.slice a z c) ∧ ∀ L, S.getD i none = some L → z = L.length ∧ Row W (.slice a L.length c) L := fun i hi => by
    obtain ⟨e1, -, -, a, c, e2, e3⟩ := hcc i hi
    refine ⟨(hp (by omega)).1, (hp (by omega)).2.1, a, _, c, e1, e2, fun L hL => ?_⟩
    rw [hL] at e3
    exact ⟨by rw [hL]; rfl, e3.1.1⟩
  have HC := Lib.hid hcc2
  have HU := Lib.hid (And.intro hu h60)
  have hpg : pgB kd id S = sealB (layB kd id S S.length) := rfl
  have HP := Lib.hid hpg
  obtain ⟨n, hn⟩ : ∃ n, n = S.length := ⟨_, rfl⟩
  have HN := Lib.hid hn
  rw [← hn] at hlc blc h60 c2 c3
  have k1 : IntKind.u8.wrap (kd : Int) = (kd : Int) := by rw [wraps_u8']; omega
  have k2 : (kd : Int) % 256 = (kd : Int) := by omega
  have k3 : IntKind.u8.wrap (n : Int) = (n : Int) := by rw [wraps_u8']; omega
  have k4 : (n : Int) % 256 = (n : Int) := by omega
  have hid2 : id < 4294967296 := by omega
  obtain ⟨k5, k6⟩ := u64_small hid2
  have F1 := Lib.hid (full_set F0.out (k := 0) (UInt8.ofNat kd))
  have F2 := Lib.hid (full_set F1.out (k := 1) (UInt8.ofNat n))
  rw [byte_eq (by omega)] at F1
  rw [byte_eq (by omega), byte_eq (by omega)] at F2
  have G2 : Hid (Gr W (((W.alloc o512).setCell ⟨W.heap.size, 0, none⟩ (.int .u8 kd)).setCell ⟨W.heap.size, 1, none⟩ (.int .u8 n))) := Lib.hid (((((Below.refl _ _).alloc (Nat.le_refl _) _).setCell (p := ⟨W.heap.size, 0, none⟩) (Nat.le_refl _) _).setCell (p := ⟨W.heap.size, 1, none⟩) (Nat.le_refl _) _))
  obtain ⟨z0, z1, z2⟩ := full_cell F0.out (show 0 < 512 by decide)
  obtain ⟨y0, y1, y2⟩ := full_cell F1.out (show 1 < 512 by decide)
  unfold bv at z0 y0
  have hl0 : layB kd id S 0 = splice ((List.replicate 512 (0 : UInt8)).set 0 (UInt8.ofNat kd) |>.set 1 (UInt8.ofNat n)) 2 (wd id) := by
    show splice (splice (List.replicate 512 0) 0 [UInt8.ofNat kd, UInt8.ofNat S.length]) 2 (wd id) = _
    rw [splice_two _ _ _ _ (by rw [List.length_replicate]; omega), ← hn]
  have HL0 := Lib.hid hl0
  have sg := F0.out.1
  clear h hcc hcc2 hu hpg hn M2 hp hl0 sg
  go_enter Tryd.func63, Tryd.ntmps63
  go_upto_region 4 with fail
  obtain ⟨g, hg⟩ : ∃ g, g = W.heap.size := ⟨_, rfl⟩
  have hgW : W.heap.size ≤ g := by rw [hg]; exact Nat.le_refl _
  have hqg : q < g := by rw [hg]; exact sq
  generalize hw1 : ((W.alloc o512).setCell ⟨W.heap.size, 0, none⟩ (.int .u8 kd)).setCell ⟨W.heap.size, 1, none⟩ (.int .u8 n) = w1 at F2 G2 ⊢
  rw [← hg] at F2 ⊢
  clear z0 z1 z2 y0 y1 y2 F0 F1 hg hw1
  have G1 : Gr W w1 := G2.out
  have q1 := cell_gr G1 c1
  have AP4 := Lib.hid (fun w => c_put4 id hid2 w)
  have hl2 : ∀ w0, (Instr.slice 35 (.slice (some ⟨g, 0, none⟩) 512 512) (some (.int .i64 2)) none none).run Tryd.prog w0 = .ok (.slice (some ⟨g, 2, none⟩) 510 510) w0 := (full_from (k := 2) F2.out (by decide) (by decide)).1
  clear c0 G2
  have gw1 := G1
  go_wp2_with fail
  try simp only [List.append]
  refine Oe.wp_region_ord (R := Kx (fun k => k = g)) [(0, false), (1, false), (2, false), (3, false), (4, false), (5, false), (6, false), (7, true), (8, true)] (by kernel_rfl) (by kernel_rfl) ?_
  intro wa hwa KQ hKQ
  have hhwa := Kx.of_gr (S := (fun k => k = g)) hwa
  have cwa_0_0 : wa.cell? ⟨q, 1, none⟩ = some (.int .i64 id) := cell_kx hhwa (by show ¬ (q = g); omega) (by go_simp)
  have zwa_0 : q < wa.heap.size := World.block_lt_of_cell? _ _ cwa_0_0
  have gwa : Gr W wa := Kx.gr hhwa (by have gg := gw1; have gs := gg.size; go_grown) (fun k hk => by have hk2 : k = g := hk; omega)
  have swa := hhwa.size
  clear gw1
  clear hhwa
  repeat (first | (refine Oe.wpO_skip (by simp only [List.getElem?_toArray, List.getElem?_cons_succ, List.getElem?_cons_zero] <;> rfl) rfl ?_; simp only [Act.put, List.setIfInBounds_toArray, List.set_cons_zero, List.set_cons_succ]) | (refine Oe.wpO_pure (by simp only [List.getElem?_toArray, List.getElem?_cons_succ, List.getElem?_cons_zero] <;> rfl) rfl ?_; apply Exists.intro; refine ⟨?_, ?_⟩; (· intro wx gx; have cx_0_0 : wx.cell? ⟨q, 1, none⟩ = some (.int .i64 id) := cell_kx gx (by show ¬ (q = g); omega) cwa_0_0; have zx_0 : q < wx.heap.size := World.block_lt_of_cell? _ _ cx_0_0; clear gx; all_goals (apply Oe.pAt_of_quiet; intro K hK; go_big_quiet_op; first | exact hK _ rfl | (apply Exists.intro; refine ⟨fun _ => ?_, ?_⟩; (· fail); exact hK _ rfl))); try simp only [Act.put, List.setIfInBounds_toArray, List.set_cons_zero, List.set_cons_succ]))
  have FA := Lib.hid (full_gr F2.out hwa)
  refine Oe.wpO_call (by simp only [List.getElem?_toArray, List.getElem?_cons_succ, List.getElem?_cons_zero] <;> rfl) rfl ?_
  intro QS hQS
  go_wp2_with fail
  go_at_call 85
  (with_reducible refine ((AP4.out _)).mono ?_)
  rintro e wb ⟨b', rfl, ob, gb⟩
  have hhwb : Kx (fun k => k = g) wa wb := Kx.of_gr gb
  go_wp2_with fail
  first | (apply Exists.intro; refine ⟨?_, hhwb, ?_⟩; (· simp only [Act.put, List.setIfInBounds_toArray, List.set_cons_zero, List.set_cons_succ]; rfl)) | (refine ⟨hhwb, ?_⟩)
  have cwb_0_0 : wb.cell? ⟨q, 1, none⟩ = some (.int .i64 id) := cell_kx hhwb (by show ¬ (q = g); omega) (by go_simp)
  have zwb_0 : q < wb.heap.size := World.block_lt_of_cell? _ _ cwb_0_0
  have gwb : Gr W wb := Kx.gr hhwb gwa (fun k hk => by have hk2 : k = g := hk; omega)
  have swb := hhwb.size
  clear gwa zwa_0 cwa_0_0
  clear hhwb
  try simp only [Act.put, List.setIfInBounds_toArray, List.set_cons_zero, List.set_cons_succ]
  repeat (first | (refine Oe.wpO_skip (by simp only [List.getElem?_toArray, List.getElem?_cons_succ, List.getElem?_cons_zero] <;> rfl) rfl ?_; simp only [Act.put, List.setIfInBounds_toArray, List.set_cons_zero, List.set_cons_succ]) | (refine Oe.wpO_pure (by simp only [List.getElem?_toArray, List.getElem?_cons_succ, List.getElem?_cons_zero] <;> rfl) rfl ?_; apply Exists.intro; refine ⟨?_, ?_⟩; (· intro wx gx; have cx_0_0 : wx.cell? ⟨q, 1, none⟩ = some (.int .i64 id) := cell_kx gx (by show ¬ (q = g); omega) cwb_0_0; have zx_0 : q < wx.heap.size := World.block_lt_of_cell? _ _ cx_0_0; clear gx; all_goals (apply Oe.pAt_of_quiet; intro K hK; go_big_quiet_op; first | exact hK _ rfl | (apply Exists.intro; refine ⟨fun _ => ?_, ?_⟩; (· fail); exact hK _ rfl))); try simp only [Act.put, List.setIfInBounds_toArray, List.set_cons_zero, List.set_cons_succ]))
  have RB := Lib.hid (row_own ob)
  have FB := Lib.hid (full_gr FA.out gb)
  clear ob gb FA
  refine Oe.wpO_call (by simp only [List.getElem?_toArray, List.getElem?_cons_succ, List.getElem?_cons_zero] <;> rfl) rfl ?_
  intro QS hQS
  refine (wpList_copy_full rfl (.tmp 23) (.tmp 29) rfl g 512 2 2 510 510 ((List.replicate 512 (0 : UInt8)).set 0 (UInt8.ofNat kd) |>.set 1 (UInt8.ofNat n)) (wd id) b' FB.out rfl rfl RB.out (by rw [wd_len4]; decide) (fun h => rfl) (by rw [wd_len4]; decide) ?_)
  intro ux wc Fc Kc
  have hhwc : Kx (fun k => k = g) wb wc := Kc
  refine hQS _ _ ⟨_, rfl, hhwc, ?_⟩
  clear hQS QS
  have cwc_0_0 : wc.cell? ⟨q, 1, none⟩ = some (.int .i64 id) := cell_kx hhwc (by show ¬ (q = g); omega) (by go_simp)
  have zwc_0 : q < wc.heap.size := World.block_lt_of_cell? _ _ cwc_0_0
  have gwc : Gr W wc := Kx.gr hhwc gwb (fun k hk => by have hk2 : k = g := hk; omega)
  have swc := hhwc.size
  clear gwb zwb_0 cwb_0_0
  clear hhwc
  try simp only [Act.put, List.setIfInBounds_toArray, List.set_cons_zero, List.set_cons_succ]
  repeat (first | (refine Oe.wpO_skip (by simp only [List.getElem?_toArray, List.getElem?_cons_succ, List.getElem?_cons_zero] <;> rfl) rfl ?_; simp only [Act.put, List.setIfInBounds_toArray, List.set_cons_zero, List.set_cons_succ]) | (refine Oe.wpO_pure (by simp only [List.getElem?_toArray, List.getElem?_cons_succ, List.getElem?_cons_zero] <;> rfl) rfl ?_; apply Exists.intro; refine ⟨?_, ?_⟩; (· intro wx gx; have cx_0_0 : wx.cell? ⟨q, 1, none⟩ = some (.int .i64 id) := cell_kx gx (by show ¬ (q = g); omega) cwc_0_0; have zx_0 : q < wx.heap.size := World.block_lt_of_cell? _ _ cx_0_0; clear gx; all_goals (apply Oe.pAt_of_quiet; intro K hK; go_big_quiet_op; first | exact hK _ rfl | (apply Exists.intro; refine ⟨fun _ => ?_, ?_⟩; (· fail); exact hK _ rfl))); try simp only [Act.put, List.setIfInBounds_toArray, List.set_cons_zero, List.set_cons_succ]))
  have FC : Hid (Full wc g 512 (layB kd id S 0)) := Lib.hid (by rw [HL0.out]; exact Fc)
  clear Fc Kc
  refine Oe.wpO_nil (hKQ _ _ ?_)
  clear hKQ KQ
  go_wp2_with fail
  have GC := gwc
  clear cwc_0_0 zwc_0 swc F2 FB RB hl2 AP4 q1 gwc
  go_loopg [4, 5] n (fun j x y wr => ∃ i : Nat, x = .int .i64 (endS S i : Nat) ∧ y = .int .i64 i ∧ i ≤ n ∧ j = n - i ∧ Hid (Full wr g 512 (layB kd id S i)) ∧ Gr W wr)
  case atStart => exact ⟨0, by rfl, rfl, by omega, by omega, FC, GC⟩
  case round =>
    obtain ⟨i, rfl, rfl, hi, hj, HF, hg⟩ := hrel
    have g3 := cell_gr hg c3
    have sgq := World.block_lt_of_cell? _ _ g3
    by_cases hin : i < n
    · have ti : decide ((i : Int) < (n : Int)) = true := decide_eq_true (by clear k1 k2 k3 k4 k5 k6; omega)
      have ti2 : decide (i < n) = true := decide_eq_true hin
      have ti3 : (i : Int) < (n : Int) := by clear k1 k2 k3 k4 k5 k6; omega
      have ti4 : (i : Int) < (hc : Int) := by clear k1 k2 k3 k4 k5 k6; omega
      have ti5 : (i : Int) < (bc : Int) := by clear k1 k2 k3 k4 k5 k6; omega
      obtain ⟨rfl, rfl, a, z, c, kx0, kv, kS⟩ := HC.out i (by rw [← HN.out]; exact hin)
      have q0 := cell_gr hg kx0
      have qv := cell_gr hg kv
      have g2 := cell_gr hg c2
      have sD := World.block_lt_of_cell? _ _ q0
      have sE := World.block_lt_of_cell? _ _ qv
      have EW := World.block_lt_of_cell? _ _ kv
      have hEg : E < g := Nat.lt_of_lt_of_le EW hgW
      clear kx0 kv EW
      cases hs : S.getD i none with
      | none =>
        rw [hs] at q0
        have HE := Lib.hid (And.intro (endS_none hs) (layB_none (kd := kd) (id := id) hs))
        clear kS hs
        go_wp2_with fail
        go_roundg (n - (i + 1))
        case measure => clear k1 k2 k3 k4 k5 k6; omega
        case rel => exact ⟨i + 1, by rw [HE.out.1], by go_num, by clear k1 k2 k3 k4 k5 k6; omega, by clear k1 k2 k3 k4 k5 k6; omega, Lib.hid (by rw [HE.out.2]; exact HF.out), hg⟩
      | some L =>
        rw [hs] at q0
        obtain ⟨rfl, hRL⟩ := kS L hs
        obtain ⟨ea, hea⟩ : ∃ x, x = endS S i := ⟨_, rfl⟩
        obtain ⟨eb, heb⟩ : ∃ x, x = endS S (i + 1) := ⟨_, rfl⟩
        obtain ⟨A, hA⟩ : ∃ x, x = 16 + 4 * i := ⟨_, rfl⟩
        obtain ⟨A2, hA2⟩ : ∃ x, x = 18 + 4 * i := ⟨_, rfl⟩
        obtain ⟨l1, hl1⟩ : ∃ x, x = L.length + 1 := ⟨_, rfl⟩
        obtain ⟨f1, f2, f3, f4, f5, f6, f7, f8, f9, f10, f11, f12, f13⟩ := rend_facts HU.out.1 (by rw [← HN.out]; exact hin) HU.out.2 hs hea heb hA hA2 hl1
        obtain ⟨off, hoff, hsl⟩ := full_tail HF.out f12 (by decide)
        have HE := Lib.hid (And.intro hea (And.intro heb (And.intro (layB_some (kd := kd) (id := id) hs) (And.intro (row_gr hRL hg) hoff))))
        rw [← hea]
        clear kS hs hRL hea heb hoff
        obtain ⟨b1, b2, b3, b4, b5, b6, b7, b8, b9, b10, b11, b12, b13⟩ := end_bounds (i := i) (Nat.lt_of_lt_of_le hin h60) f11 0
        rw [← hA] at b1 b3 b8 b10
        rw [← hA2] at b2 b4 b9 b11
        rw [← hl1] at b6
        have HAA := Lib.hid (And.intro hA (And.intro hA2 hl1))
        have hl14 := (full_from HF.out b1 (by decide)).1
        have hl15 := (full_from HF.out b2 (by decide)).1
        obtain ⟨w64a, w64b⟩ := u64_small (Nat.lt_trans b5 (by decide))
        obtain ⟨w64c, w64d⟩ := u64_small (Nat.lt_trans b6 (by decide))
        have AP1 := Lib.hid (fun w => c_put2 eb b5 w)
        have AP2 := Lib.hid (fun w => c_put2 l1 b6 w)
        clear hA hA2 hl1
        go_upto_region 11 with fail
        have gwr := hg
        go_wp2_with fail
        try simp only [List.append]
        refine Oe.wp_region_ord (R := Kx (fun k => k = g)) [(0, false), (1, false), (2, false), (3, false), (4, false), (5, false), (6, false), (7, false), (8, false), (9, false), (10, true)] (by kernel_rfl) (by kernel_rfl) ?_
        intro wa hwa KQ hKQ
        have hhwa := Kx.of_gr (S := (fun k => k = g)) hwa
        have cwa_0_0 : wa.cell? ⟨q, 2, none⟩ = some (.slice (some ⟨E, 0, none⟩) n bc) := cell_kx hhwa (by show ¬ (q = g); omega) (by go_simp)
        have zwa_0 : q < wa.heap.size := World.block_lt_of_cell? _ _ cwa_0_0
        have cwa_1_0 : wa.cell? ⟨E, i, none⟩ = some (.slice a L.length c) := cell_kx hhwa (by show ¬ (E = g); omega) (by go_simp)
        have zwa_1 : E < wa.heap.size := World.block_lt_of_cell? _ _ cwa_1_0
        have gwa : Gr W wa := Kx.gr hhwa (by have gg := gwr; have gs := gg.size; go_grown) (fun k hk => by have hk2 : k = g := hk; omega)
        have swa := hhwa.size
        clear gwr
        clear hhwa
        repeat (first | (refine Oe.wpO_skip (by simp only [List.getElem?_toArray, List.getElem?_cons_succ, List.getElem?_cons_zero] <;> rfl) rfl ?_; simp only [Act.put, List.setIfInBounds_toArray, List.set_cons_zero, List.set_cons_succ]) | (refine Oe.wpO_pure (by simp only [List.getElem?_toArray, List.getElem?_cons_succ, List.getElem?_cons_zero] <;> rfl) rfl ?_; apply Exists.intro; refine ⟨?_, ?_⟩; (· intro wx gx; have cx_0_0 : wx.cell? ⟨q, 2, none⟩ = some (.slice (some ⟨E, 0, none⟩) n bc) := cell_kx gx (by show ¬ (q = g); omega) cwa_0_0; have zx_0 : q < wx.heap.size := World.block_lt_of_cell? _ _ cx_0_0; have cx_1_0 : wx.cell? ⟨E, i, none⟩ = some (.slice a L.length c) := cell_kx gx (by show ¬ (E = g); omega) cwa_1_0; have zx_1 : E < wx.heap.size := World.block_lt_of_cell? _ _ cx_1_0; clear gx; all_goals (apply Oe.pAt_of_quiet; intro K hK; go_big_quiet_op; first | exact hK _ rfl | (apply Exists.intro; refine ⟨fun _ => ?_, ?_⟩; (· fail); exact hK _ rfl))); try simp only [Act.put, List.setIfInBounds_toArray, List.set_cons_zero, List.set_cons_succ]))
        have FA := Lib.hid (full_gr HF.out hwa)
        have RA := Lib.hid (row_gr HE.out.2.2.2.1 hwa)
        refine Oe.wpO_call (by simp only [List.getElem?_toArray, List.getElem?_cons_succ, List.getElem?_cons_zero] <;> rfl) rfl ?_
        intro QS hQS
        refine (wpList_copy_full rfl (.tmp 60) (.tmp 67) rfl g 512 off eb (512 - eb) (512 - eb) (layB kd id S i) L (.slice a L.length c) FA.out rfl rfl RA.out b12 (fun h => HE.out.2.2.2.2 (b13 h)) f11 ?_)
        intro ux wb Fb Kb
        have hhwb : Kx (fun k => k = g) wa wb := Kb
        refine hQS _ _ ⟨_, rfl, hhwb, ?_⟩
        clear hQS QS
        have cwb_0_0 : wb.cell? ⟨q, 2, none⟩ = some (.slice (some ⟨E, 0, none⟩) n bc) := cell_kx hhwb (by show ¬ (q = g); omega) (by go_simp)
        have zwb_0 : q < wb.heap.size := World.block_lt_of_cell? _ _ cwb_0_0
        have cwb_1_0 : wb.cell? ⟨E, i, none⟩ = some (.slice a L.length c) := cell_kx hhwb (by show ¬ (E = g); omega) (by go_simp)
        have zwb_1 : E < wb.heap.size := World.block_lt_of_cell? _ _ cwb_1_0
        have gwb : Gr W wb := Kx.gr hhwb gwa (fun k hk => by have hk2 : k = g := hk; omega)
        have swb := hhwb.size
        clear gwa zwa_0 cwa_0_0 zwa_1 cwa_1_0
        clear hhwb
        try simp only [Act.put, List.setIfInBounds_toArray, List.set_cons_zero, List.set_cons_succ]
        repeat (first | (refine Oe.wpO_skip (by simp only [List.getElem?_toArray, List.getElem?_cons_succ, List.getElem?_cons_zero] <;> rfl) rfl ?_; simp only [Act.put, List.setIfInBounds_toArray, List.set_cons_zero, List.set_cons_succ]) | (refine Oe.wpO_pure (by simp only [List.getElem?_toArray, List.getElem?_cons_succ, List.getElem?_cons_zero] <;> rfl) rfl ?_; apply Exists.intro; refine ⟨?_, ?_⟩; (· intro wx gx; have cx_0_0 : wx.cell? ⟨q, 2, none⟩ = some (.slice (some ⟨E, 0, none⟩) n bc) := cell_kx gx (by show ¬ (q = g); omega) cwb_0_0; have zx_0 : q < wx.heap.size := World.block_lt_of_cell? _ _ cx_0_0; have cx_1_0 : wx.cell? ⟨E, i, none⟩ = some (.slice a L.length c) := cell_kx gx (by show ¬ (E = g); omega) cwb_1_0; have zx_1 : E < wx.heap.size := World.block_lt_of_cell? _ _ cx_1_0; clear gx; all_goals (apply Oe.pAt_of_quiet; intro K hK; go_big_quiet_op; first | exact hK _ rfl | (apply Exists.intro; refine ⟨fun _ => ?_, ?_⟩; (· fail); exact hK _ rfl))); try simp only [Act.put, List.setIfInBounds_toArray, List.set_cons_zero, List.set_cons_succ]))
        have FB := Lib.hid Fb
        clear Fb Kb FA RA
        refine Oe.wpO_nil (hKQ _ _ ?_)
        clear hKQ KQ
        go_upto_region 12 with fail
        go_wp2_with fail
        try simp only [List.append]
        refine Oe.wp_region_ord (R := Kx (fun k => k = g)) [(0, false), (1, false), (2, false), (3, false), (4, false), (5, false), (6, false), (7, true), (8, true)] (by kernel_rfl) (by kernel_rfl) ?_
        intro wx hwx KQ hKQ
        have hhwx := Kx.of_gr (S := (fun k => k = g)) hwx
        have cwx_0_0 : wx.cell? ⟨q, 2, none⟩ = some (.slice (some ⟨E, 0, none⟩) n bc) := cell_kx hhwx (by show ¬ (q = g); omega) (by go_simp)
        have zwx_0 : q < wx.heap.size := World.block_lt_of_cell? _ _ cwx_0_0
        have cwx_1_0 : wx.cell? ⟨E, i, none⟩ = some (.slice a L.length c) := cell_kx hhwx (by show ¬ (E = g); omega) (by go_simp)
        have zwx_1 : E < wx.heap.size := World.block_lt_of_cell? _ _ cwx_1_0
        have gwx : Gr W wx := Kx.gr hhwx (by have gg := gwb; have gs := gg.size; go_grown) (fun k hk => by have hk2 : k = g := hk; omega)
        have swx := hhwx.size
        clear gwb zwb_0 cwb_0_0 zwb_1 cwb_1_0
        clear hhwx
        repeat (first | (refine Oe.wpO_skip (by simp only [List.getElem?_toArray, List.getElem?_cons_succ, List.getElem?_cons_zero] <;> rfl) rfl ?_; simp only [Act.put, List.setIfInBounds_toArray, List.set_cons_zero, List.set_cons_succ]) | (refine Oe.wpO_pure (by simp only [List.getElem?_toArray, List.getElem?_cons_succ, List.getElem?_cons_zero] <;> rfl) rfl ?_; apply Exists.intro; refine ⟨?_, ?_⟩; (· intro wx gx; have cx_0_0 : wx.cell? ⟨q, 2, none⟩ = some (.slice (some ⟨E, 0, none⟩) n bc) := cell_kx gx (by show ¬ (q = g); omega) cwx_0_0; have zx_0 : q < wx.heap.size := World.block_lt_of_cell? _ _ cx_0_0; have cx_1_0 : wx.cell? ⟨E, i, none⟩ = some (.slice a L.length c) := cell_kx gx (by show ¬ (E = g); omega) cwx_1_0; have zx_1 : E < wx.heap.size := World.block_lt_of_cell? _ _ cx_1_0; clear gx; all_goals (apply Oe.pAt_of_quiet; intro K hK; go_big_quiet_op; first | exact hK _ rfl | (apply Exists.intro; refine ⟨fun _ => ?_, ?_⟩; (· fail); exact hK _ rfl))); try simp only [Act.put, List.setIfInBounds_toArray, List.set_cons_zero, List.set_cons_succ]))
        have FX := Lib.hid (full_gr FB.out hwx)
        refine Oe.wpO_call (by simp only [List.getElem?_toArray, List.getElem?_cons_succ, List.getElem?_cons_zero] <;> rfl) rfl ?_
        intro QS hQS
        go_wp2_with fail
        go_at_call 85
        (with_reducible refine ((AP1.out _)).mono ?_)
        rintro e wy ⟨b1', rfl, ob, gb⟩
        have hhwy : Kx (fun k => k = g) wx wy := Kx.of_gr gb
        go_wp2_with fail
        first | (apply Exists.intro; refine ⟨?_, hhwy, ?_⟩; (· simp only [Act.put, List.setIfInBounds_toArray, List.set_cons_zero, List.set_cons_succ]; rfl)) | (refine ⟨hhwy, ?_⟩)
        have cwy_0_0 : wy.cell? ⟨q, 2, none⟩ = some (.slice (some ⟨E, 0, none⟩) n bc) := cell_kx hhwy (by show ¬ (q = g); omega) (by go_simp)
        have zwy_0 : q < wy.heap.size := World.block_lt_of_cell? _ _ cwy_0_0
        have cwy_1_0 : wy.cell? ⟨E, i, none⟩ = some (.slice a L.length c) := cell_kx hhwy (by show ¬ (E = g); omega) (by go_simp)
        have zwy_1 : E < wy.heap.size := World.block_lt_of_cell? _ _ cwy_1_0
        have gwy : Gr W wy := Kx.gr hhwy gwx (fun k hk => by have hk2 : k = g := hk; omega)
        have swy := hhwy.size
        clear gwx zwx_0 cwx_0_0 zwx_1 cwx_1_0
        clear hhwy
        try simp only [Act.put, List.setIfInBounds_toArray, List.set_cons_zero, List.set_cons_succ]
        repeat (first | (refine Oe.wpO_skip (by simp only [List.getElem?_toArray, List.getElem?_cons_succ, List.getElem?_cons_zero] <;> rfl) rfl ?_; simp only [Act.put, List.setIfInBounds_toArray, List.set_cons_zero, List.set_cons_succ]) | (refine Oe.wpO_pure (by simp only [List.getElem?_toArray, List.getElem?_cons_succ, List.getElem?_cons_zero] <;> rfl) rfl ?_; apply Exists.intro; refine ⟨?_, ?_⟩; (· intro wx gx; have cx_0_0 : wx.cell? ⟨q, 2, none⟩ = some (.slice (some ⟨E, 0, none⟩) n bc) := cell_kx gx (by show ¬ (q = g); omega) cwy_0_0; have zx_0 : q < wx.heap.size := World.block_lt_of_cell? _ _ cx_0_0; have cx_1_0 : wx.cell? ⟨E, i, none⟩ = some (.slice a L.length c) := cell_kx gx (by show ¬ (E = g); omega) cwy_1_0; have zx_1 : E < wx.heap.size := World.block_lt_of_cell? _ _ cx_1_0; clear gx; all_goals (apply Oe.pAt_of_quiet; intro K hK; go_big_quiet_op; first | exact hK _ rfl | (apply Exists.intro; refine ⟨fun _ => ?_, ?_⟩; (· fail); exact hK _ rfl))); try simp only [Act.put, List.setIfInBounds_toArray, List.set_cons_zero, List.set_cons_succ]))
        have RB := Lib.hid (row_own ob)
        have FY := Lib.hid (full_gr FX.out gb)
        clear ob gb FX FB
        refine Oe.wpO_call (by simp only [List.getElem?_toArray, List.getElem?_cons_succ, List.getElem?_cons_zero] <;> rfl) rfl ?_
        intro QS hQS
        refine (wpList_copy_full rfl (.tmp 73) (.tmp 76) rfl g 512 A A (512 - A) (512 - A) (splice (layB kd id S i) eb L) (pr eb) b1' FY.out rfl rfl RB.out (by rw [pr_len]; exact b10) (fun h => rfl) (by rw [pr_len]; exact b3) ?_)
        intro uz wz Fz Kz
        have hhwz : Kx (fun k => k = g) wy wz := Kz
        refine hQS _ _ ⟨_, rfl, hhwz, ?_⟩
        clear hQS QS
        have cwz_0_0 : wz.cell? ⟨q, 2, none⟩ = some (.slice (some ⟨E, 0, none⟩) n bc) := cell_kx hhwz (by show ¬ (q = g); omega) (by go_simp)
        have zwz_0 : q < wz.heap.size := World.block_lt_of_cell? _ _ cwz_0_0
        have cwz_1_0 : wz.cell? ⟨E, i, none⟩ = some (.slice a L.length c) := cell_kx hhwz (by show ¬ (E = g); omega) (by go_simp)
        have zwz_1 : E < wz.heap.size := World.block_lt_of_cell? _ _ cwz_1_0
        have gwz : Gr W wz := Kx.gr hhwz gwy (fun k hk => by have hk2 : k = g := hk; omega)
        have swz := hhwz.size
        clear gwy zwy_0 cwy_0_0 zwy_1 cwy_1_0
        clear hhwz
        try simp only [Act.put, List.setIfInBounds_toArray, List.set_cons_zero, List.set_cons_succ]
        repeat (first | (refine Oe.wpO_skip (by simp only [List.getElem?_toArray, List.getElem?_cons_succ, List.getElem?_cons_zero] <;> rfl) rfl ?_; simp only [Act.put, List.setIfInBounds_toArray, List.set_cons_zero, List.set_cons_succ]) | (refine Oe.wpO_pure (by simp only [List.getElem?_toArray, List.getElem?_cons_succ, List.getElem?_cons_zero] <;> rfl) rfl ?_; apply Exists.intro; refine ⟨?_, ?_⟩; (· intro wx gx; have cx_0_0 : wx.cell? ⟨q, 2, none⟩ = some (.slice (some ⟨E, 0, none⟩) n bc) := cell_kx gx (by show ¬ (q = g); omega) cwz_0_0; have zx_0 : q < wx.heap.size := World.block_lt_of_cell? _ _ cx_0_0; have cx_1_0 : wx.cell? ⟨E, i, none⟩ = some (.slice a L.length c) := cell_kx gx (by show ¬ (E = g); omega) cwz_1_0; have zx_1 : E < wx.heap.size := World.block_lt_of_cell? _ _ cx_1_0; clear gx; all_goals (apply Oe.pAt_of_quiet; intro K hK; go_big_quiet_op; first | exact hK _ rfl | (apply Exists.intro; refine ⟨fun _ => ?_, ?_⟩; (· fail); exact hK _ rfl))); try simp only [Act.put, List.setIfInBounds_toArray, List.set_cons_zero, List.set_cons_succ]))
        have FZ := Lib.hid Fz
        clear Fz Kz FY RB
        refine Oe.wpO_nil (hKQ _ _ ?_)
        clear hKQ KQ
        go_upto_region 13 with fail
        go_wp2_with fail
        try simp only [List.append]
        refine Oe.wp_region_ord (R := Kx (fun k => k = g)) [(0, false), (1, false), (2, false), (3, false), (4, false), (5, false), (6, false), (7, false), (8, false), (9, false), (10, false), (11, false), (12, false), (13, false), (14, false), (15, true), (16, true)] (by kernel_rfl) (by kernel_rfl) ?_
        intro wp hwp KQ hKQ
        have hhwp := Kx.of_gr (S := (fun k => k = g)) hwp
        have cwp_0_0 : wp.cell? ⟨q, 2, none⟩ = some (.slice (some ⟨E, 0, none⟩) n bc) := cell_kx hhwp (by show ¬ (q = g); omega) (by go_simp)
        have zwp_0 : q < wp.heap.size := World.block_lt_of_cell? _ _ cwp_0_0
        have cwp_1_0 : wp.cell? ⟨E, i, none⟩ = some (.slice a L.length c) := cell_kx hhwp (by show ¬ (E = g); omega) (by go_simp)
        have zwp_1 : E < wp.heap.size := World.block_lt_of_cell? _ _ cwp_1_0
        have gwp : Gr W wp := Kx.gr hhwp (by have gg := gwz; have gs := gg.size; go_grown) (fun k hk => by have hk2 : k = g := hk; omega)
        have swp := hhwp.size
        clear gwz zwz_0 cwz_0_0 zwz_1 cwz_1_0
        clear hhwp
        repeat (first | (refine Oe.wpO_skip (by simp only [List.getElem?_toArray, List.getElem?_cons_succ, List.getElem?_cons_zero] <;> rfl) rfl ?_; simp only [Act.put, List.setIfInBounds_toArray, List.set_cons_zero, List.set_cons_succ]) | (refine Oe.wpO_pure (by simp only [List.getElem?_toArray, List.getElem?_cons_succ, List.getElem?_cons_zero] <;> rfl) rfl ?_; apply Exists.intro; refine ⟨?_, ?_⟩; (· intro wx gx; have cx_0_0 : wx.cell? ⟨q, 2, none⟩ = some (.slice (some ⟨E, 0, none⟩) n bc) := cell_kx gx (by show ¬ (q = g); omega) cwp_0_0; have zx_0 : q < wx.heap.size := World.block_lt_of_cell? _ _ cx_0_0; have cx_1_0 : wx.cell? ⟨E, i, none⟩ = some (.slice a L.length c) := cell_kx gx (by show ¬ (E = g); omega) cwp_1_0; have zx_1 : E < wx.heap.size := World.block_lt_of_cell? _ _ cx_1_0; clear gx; all_goals (apply Oe.pAt_of_quiet; intro K hK; go_big_quiet_op; first | exact hK _ rfl | (apply Exists.intro; refine ⟨fun _ => ?_, ?_⟩; (· fail); exact hK _ rfl))); try simp only [Act.put, List.setIfInBounds_toArray, List.set_cons_zero, List.set_cons_succ]))
        have FX := Lib.hid (full_gr FZ.out hwp)
        refine Oe.wpO_call (by simp only [List.getElem?_toArray, List.getElem?_cons_succ, List.getElem?_cons_zero] <;> rfl) rfl ?_
        intro QS hQS
        go_wp2_with fail
        go_at_call 85
        (with_reducible refine ((AP2.out _)).mono ?_)
        rintro e wq ⟨b2', rfl, ob, gb⟩
        have hhwq : Kx (fun k => k = g) wp wq := Kx.of_gr gb
        go_wp2_with fail
        first | (apply Exists.intro; refine ⟨?_, hhwq, ?_⟩; (· simp only [Act.put, List.setIfInBounds_toArray, List.set_cons_zero, List.set_cons_succ]; rfl)) | (refine ⟨hhwq, ?_⟩)
        have cwq_0_0 : wq.cell? ⟨q, 2, none⟩ = some (.slice (some ⟨E, 0, none⟩) n bc) := cell_kx hhwq (by show ¬ (q = g); omega) (by go_simp)
        have zwq_0 : q < wq.heap.size := World.block_lt_of_cell? _ _ cwq_0_0
        have cwq_1_0 : wq.cell? ⟨E, i, none⟩ = some (.slice a L.length c) := cell_kx hhwq (by show ¬ (E = g); omega) (by go_simp)
        have zwq_1 : E < wq.heap.size := World.block_lt_of_cell? _ _ cwq_1_0
        have gwq : Gr W wq := Kx.gr hhwq gwp (fun k hk => by have hk2 : k = g := hk; omega)
        have swq := hhwq.size
        clear gwp zwp_0 cwp_0_0 zwp_1 cwp_1_0
        clear hhwq
        try simp only [Act.put, List.setIfInBounds_toArray, List.set_cons_zero, List.set_cons_succ]
        repeat (first | (refine Oe.wpO_skip (by simp only [List.getElem?_toArray, List.getElem?_cons_succ, List.getElem?_cons_zero] <;> rfl) rfl ?_; simp only [Act.put, List.setIfInBounds_toArray, List.set_cons_zero, List.set_cons_succ]) | (refine Oe.wpO_pure (by simp only [List.getElem?_toArray, List.getElem?_cons_succ, List.getElem?_cons_zero] <;> rfl) rfl ?_; apply Exists.intro; refine ⟨?_, ?_⟩; (· intro wx gx; have cx_0_0 : wx.cell? ⟨q, 2, none⟩ = some (.slice (some ⟨E, 0, none⟩) n bc) := cell_kx gx (by show ¬ (q = g); omega) cwq_0_0; have zx_0 : q < wx.heap.size := World.block_lt_of_cell? _ _ cx_0_0; have cx_1_0 : wx.cell? ⟨E, i, none⟩ = some (.slice a L.length c) := cell_kx gx (by show ¬ (E = g); omega) cwq_1_0; have zx_1 : E < wx.heap.size := World.block_lt_of_cell? _ _ cx_1_0; clear gx; all_goals (apply Oe.pAt_of_quiet; intro K hK; go_big_quiet_op; first | exact hK _ rfl | (apply Exists.intro; refine ⟨fun _ => ?_, ?_⟩; (· fail); exact hK _ rfl))); try simp only [Act.put, List.setIfInBounds_toArray, List.set_cons_zero, List.set_cons_succ]))
        have RB := Lib.hid (row_own ob)
        have FY := Lib.hid (full_gr FX.out gb)
        clear ob gb FX FZ
        refine Oe.wpO_call (by simp only [List.getElem?_toArray, List.getElem?_cons_succ, List.getElem?_cons_zero] <;> rfl) rfl ?_
        intro QS hQS
        refine (wpList_copy_full rfl (.tmp 82) (.tmp 93) rfl g 512 A2 A2 (512 - A2) (512 - A2) (splice (splice (layB kd id S i) eb L) A (pr eb)) (pr l1) b2' FY.out rfl rfl RB.out (by rw [pr_len]; exact b11) (fun h => rfl) (by rw [pr_len]; exact b4) ?_)
        intro us ws Fs Ks
        have hhws : Kx (fun k => k = g) wq ws := Ks
        refine hQS _ _ ⟨_, rfl, hhws, ?_⟩
        clear hQS QS
        have cws_0_0 : ws.cell? ⟨q, 2, none⟩ = some (.slice (some ⟨E, 0, none⟩) n bc) := cell_kx hhws (by show ¬ (q = g); omega) (by go_simp)
        have zws_0 : q < ws.heap.size := World.block_lt_of_cell? _ _ cws_0_0
        have cws_1_0 : ws.cell? ⟨E, i, none⟩ = some (.slice a L.length c) := cell_kx hhws (by show ¬ (E = g); omega) (by go_simp)
        have zws_1 : E < ws.heap.size := World.block_lt_of_cell? _ _ cws_1_0
        have gws : Gr W ws := Kx.gr hhws gwq (fun k hk => by have hk2 : k = g := hk; omega)
        have sws := hhws.size
        clear gwq zwq_0 cwq_0_0 zwq_1 cwq_1_0
        clear hhws
        try simp only [Act.put, List.setIfInBounds_toArray, List.set_cons_zero, List.set_cons_succ]
        repeat (first | (refine Oe.wpO_skip (by simp only [List.getElem?_toArray, List.getElem?_cons_succ, List.getElem?_cons_zero] <;> rfl) rfl ?_; simp only [Act.put, List.setIfInBounds_toArray, List.set_cons_zero, List.set_cons_succ]) | (refine Oe.wpO_pure (by simp only [List.getElem?_toArray, List.getElem?_cons_succ, List.getElem?_cons_zero] <;> rfl) rfl ?_; apply Exists.intro; refine ⟨?_, ?_⟩; (· intro wx gx; have cx_0_0 : wx.cell? ⟨q, 2, none⟩ = some (.slice (some ⟨E, 0, none⟩) n bc) := cell_kx gx (by show ¬ (q = g); omega) cws_0_0; have zx_0 : q < wx.heap.size := World.block_lt_of_cell? _ _ cx_0_0; have cx_1_0 : wx.cell? ⟨E, i, none⟩ = some (.slice a L.length c) := cell_kx gx (by show ¬ (E = g); omega) cws_1_0; have zx_1 : E < wx.heap.size := World.block_lt_of_cell? _ _ cx_1_0; clear gx; all_goals (apply Oe.pAt_of_quiet; intro K hK; go_big_quiet_op; first | exact hK _ rfl | (apply Exists.intro; refine ⟨fun _ => ?_, ?_⟩; (· fail); exact hK _ rfl))); try simp only [Act.put, List.setIfInBounds_toArray, List.set_cons_zero, List.set_cons_succ]))
        have FS := Lib.hid Fs
        clear Fs Ks FY RB
        refine Oe.wpO_nil (hKQ _ _ ?_)
        clear hKQ KQ
        have HD : Hid (Full ws g 512 (layB kd id S (i + 1))) := Lib.hid (by
          obtain ⟨e1, e2, e3, -, -⟩ := HE.out
          obtain ⟨a1, a2, a3⟩ := HAA.out
          rw [e3, ← e2, ← a1, ← a2, ← a3]
          exact FS.out)
        have HB6 := Lib.hid HE.out.2.1
        have G6 : Gr W ws := gws
        clear FS HE HAA AP1 AP2
        go_wp2_with fail
        go_roundg (n - (i + 1))
        case measure => clear k1 k2 k3 k4 k5 k6 f1 f2 f3 f4 f5 f6 f7 f8 f9 f10 w64a w64b w64c w64d; omega
        case rel => exact ⟨i + 1, by rw [← HB6.out], by go_num, by clear k1 k2 k3 k4 k5 k6 f1 f2 f3 f4 f5 f6 f7 f8 f9 f10 w64a w64b w64c w64d; omega, by clear k1 k2 k3 k4 k5 k6 f1 f2 f3 f4 f5 f6 f7 f8 f9 f10 w64a w64b w64c w64d; omega, HD, G6⟩
    · obtain rfl : i = n := by clear k1 k2 k3 k4 k5 k6; omega
      have ti : decide ((i : Int) < (i : Int)) = false := decide_eq_false (by clear k1 k2 k3 k4 k5 k6; omega)
      have ti3 : ¬ (i : Int) < (i : Int) := by clear k1 k2 k3 k4 k5 k6; omega
      have hl17 : ∀ w0, (Instr.slice 35 (.slice (some ⟨g, 0, none⟩) 512 512) (some (.int .i64 12)) none none).run Tryd.prog w0 = .ok (.slice (some ⟨g, 12, none⟩) 500 500) w0 := (full_from (k := 12) HF.out (by decide) (by decide)).1
      have hlen : (layB kd id S i).length = 512 := HF.out.1
      obtain ⟨M, hM⟩ : ∃ x, x = layB kd id S i := ⟨_, rfl⟩
      rw [← hM] at hlen HF
      have HMM := Lib.hid hM
      have AS := Lib.hid (fun w (h : Full w g 512 M) => c_rSum w (full_row h) (by rw [hlen]; decide))
      have hsl : Cr.sum M < 4294967296 := Cr.sum_lt _
      have hse : sealB M = splice M 12 (wd (Cr.sum M)) := rfl
      generalize Cr.sum M = sm at AS hsl hse
      have AP4 := Lib.hid (fun w => c_put4 sm hsl w)
      obtain ⟨w64a, w64b⟩ := u64_small hsl
      have HSE := Lib.hid (And.intro hse hlen)
      clear hse hM hlen hsl
      go_upto_region 14 with fail
      have gwr := hg
      go_wp2_with fail
      try simp only [List.append]
      refine Oe.wp_region_ord (R := Kx (fun k => k = g)) [(0, false), (1, false), (2, false), (3, true), (4, false), (5, true), (6, true)] (by kernel_rfl) (by kernel_rfl) ?_
      intro wa hwa KQ hKQ
      have hhwa := Kx.of_gr (S := (fun k => k = g)) hwa
      have gwa : Gr W wa := Kx.gr hhwa (by have gg := gwr; have gs := gg.size; go_grown) (fun k hk => by have hk2 : k = g := hk; omega)
      have swa := hhwa.size
      clear gwr
      clear hhwa
      repeat (first | (refine Oe.wpO_skip (by simp only [List.getElem?_toArray, List.getElem?_cons_succ, List.getElem?_cons_zero] <;> rfl) rfl ?_; simp only [Act.put, List.setIfInBounds_toArray, List.set_cons_zero, List.set_cons_succ]) | (refine Oe.wpO_pure (by simp only [List.getElem?_toArray, List.getElem?_cons_succ, List.getElem?_cons_zero] <;> rfl) rfl ?_; apply Exists.intro; refine ⟨?_, ?_⟩; (· intro wx gx; clear gx; all_goals (apply Oe.pAt_of_quiet; intro K hK; go_big_quiet_op; first | exact hK _ rfl | (apply Exists.intro; refine ⟨fun _ => ?_, ?_⟩; (· fail); exact hK _ rfl))); try simp only [Act.put, List.setIfInBounds_toArray, List.set_cons_zero, List.set_cons_succ]))
      have FA := Lib.hid (full_gr HF.out hwa)
      refine Oe.wpO_call (by simp only [List.getElem?_toArray, List.getElem?_cons_succ, List.getElem?_cons_zero] <;> rfl) rfl ?_
      intro QS hQS
      go_wp2_with fail
      go_at_call 86
      (with_reducible refine ((AS.out _ FA.out)).mono ?_)
      rintro e wb ⟨rfl, hwb⟩
      have hhwb : Kx (fun k => k = g) wa wb := Kx.of_gr hwb
      go_wp2_with fail
      first | (apply Exists.intro; refine ⟨?_, hhwb, ?_⟩; (· simp only [Act.put, List.setIfInBounds_toArray, List.set_cons_zero, List.set_cons_succ]; rfl)) | (refine ⟨hhwb, ?_⟩)
      have gwb : Gr W wb := Kx.gr hhwb gwa (fun k hk => by have hk2 : k = g := hk; omega)
      have swb := hhwb.size
      clear gwa
      clear hhwb
      try simp only [Act.put, List.setIfInBounds_toArray, List.set_cons_zero, List.set_cons_succ]
      repeat (first | (refine Oe.wpO_skip (by simp only [List.getElem?_toArray, List.getElem?_cons_succ, List.getElem?_cons_zero] <;> rfl) rfl ?_; simp only [Act.put, List.setIfInBounds_toArray, List.set_cons_zero, List.set_cons_succ]) | (refine Oe.wpO_pure (by simp only [List.getElem?_toArray, List.getElem?_cons_succ, List.getElem?_cons_zero] <;> rfl) rfl ?_; apply Exists.intro; refine ⟨?_, ?_⟩; (· intro wx gx; clear gx; all_goals (apply Oe.pAt_of_quiet; intro K hK; go_big_quiet_op; first | exact hK _ rfl | (apply Exists.intro; refine ⟨fun _ => ?_, ?_⟩; (· fail); exact hK _ rfl))); try simp only [Act.put, List.setIfInBounds_toArray, List.set_cons_zero, List.set_cons_succ]))
      have FB := Lib.hid (full_gr FA.out hwb)
      refine Oe.wpO_call (by simp only [List.getElem?_toArray, List.getElem?_cons_succ, List.getElem?_cons_zero] <;> rfl) rfl ?_
      intro QS hQS
      go_wp2_with fail
      go_at_call 85
      (with_reducible refine ((AP4.out _)).mono ?_)
      rintro e wq ⟨b', rfl, ob, gb⟩
      have hhwq : Kx (fun k => k = g) wb wq := Kx.of_gr gb
      go_wp2_with fail
      first | (apply Exists.intro; refine ⟨?_, hhwq, ?_⟩; (· simp only [Act.put, List.setIfInBounds_toArray, List.set_cons_zero, List.set_cons_succ]; rfl)) | (refine ⟨hhwq, ?_⟩)
      have gwq : Gr W wq := Kx.gr hhwq gwb (fun k hk => by have hk2 : k = g := hk; omega)
      have swq := hhwq.size
      clear gwb
      clear hhwq
      try simp only [Act.put, List.setIfInBounds_toArray, List.set_cons_zero, List.set_cons_succ]
      repeat (first | (refine Oe.wpO_skip (by simp only [List.getElem?_toArray, List.getElem?_cons_succ, List.getElem?_cons_zero] <;> rfl) rfl ?_; simp only [Act.put, List.setIfInBounds_toArray, List.set_cons_zero, List.set_cons_succ]) | (refine Oe.wpO_pure (by simp only [List.getElem?_toArray, List.getElem?_cons_succ, List.getElem?_cons_zero] <;> rfl) rfl ?_; apply Exists.intro; refine ⟨?_, ?_⟩; (· intro wx gx; clear gx; all_goals (apply Oe.pAt_of_quiet; intro K hK; go_big_quiet_op; first | exact hK _ rfl | (apply Exists.intro; refine ⟨fun _ => ?_, ?_⟩; (· fail); exact hK _ rfl))); try simp only [Act.put, List.setIfInBounds_toArray, List.set_cons_zero, List.set_cons_succ]))
      have RD := Lib.hid (row_own ob)
      have FD := Lib.hid (full_gr FB.out gb)
      clear ob gb FB FA
      refine Oe.wpO_call (by simp only [List.getElem?_toArray, List.getElem?_cons_succ, List.getElem?_cons_zero] <;> rfl) rfl ?_
      intro QS hQS
      refine (wpList_copy_full rfl (.tmp 96) (.tmp 100) rfl g 512 12 12 500 500 M (wd sm) b' FD.out rfl rfl RD.out (by rw [wd_len4]; decide) (fun h => rfl) (by rw [wd_len4]; decide) ?_)
      intro ux we Fb Kb
      have hhwe : Kx (fun k => k = g) wq we := Kb
      refine hQS _ _ ⟨_, rfl, hhwe, ?_⟩
      clear hQS QS
      have gwe : Gr W we := Kx.gr hhwe gwq (fun k hk => by have hk2 : k = g := hk; omega)
      have swe := hhwe.size
      clear gwq
      clear hhwe
      try simp only [Act.put, List.setIfInBounds_toArray, List.set_cons_zero, List.set_cons_succ]
      repeat (first | (refine Oe.wpO_skip (by simp only [List.getElem?_toArray, List.getElem?_cons_succ, List.getElem?_cons_zero] <;> rfl) rfl ?_; simp only [Act.put, List.setIfInBounds_toArray, List.set_cons_zero, List.set_cons_succ]) | (refine Oe.wpO_pure (by simp only [List.getElem?_toArray, List.getElem?_cons_succ, List.getElem?_cons_zero] <;> rfl) rfl ?_; apply Exists.intro; refine ⟨?_, ?_⟩; (· intro wx gx; clear gx; all_goals (apply Oe.pAt_of_quiet; intro K hK; go_big_quiet_op; first | exact hK _ rfl | (apply Exists.intro; refine ⟨fun _ => ?_, ?_⟩; (· fail); exact hK _ rfl))); try simp only [Act.put, List.setIfInBounds_toArray, List.set_cons_zero, List.set_cons_succ]))
      have FE := Lib.hid Fb
      clear Fb Kb
      refine Oe.wpO_nil (hKQ _ _ ?_)
      clear hKQ KQ
      go_wp2_with fail
      go_ret
      exact ⟨g, rfl, hgW, by rw [HP.out, ← HN.out, ← HMM.out, HSE.out.1]; exact FE.out, gwe⟩
end
end Go.Proofs.YtilijbplfobneaaDoor
