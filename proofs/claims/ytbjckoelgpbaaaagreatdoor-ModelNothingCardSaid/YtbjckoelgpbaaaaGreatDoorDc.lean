/- disk: New, Read, op -/
import Derived.Test.YtbjckoelgpbaaaaGreatDoorDb
namespace Go.Proofs.YtbjckoelgpbaaaaGreatDoor
set_option linter.unusedVariables false
set_option linter.unusedSimpArgs false
open Go.ChangeShapes Go.WideShapes Go.ChangeAt Go.RowKit Go.Maps

/-- A new disk. -/
def dk0 (n : Nat) (L : List UInt8) : Dk := ⟨n, L, [], fun _ => [], 0, false, 0, false⟩
theorem dk0_ok {n : Nat} {L : List UInt8} (h1 : 1 ≤ n) (h2 : n ≤ 8192) (hl : L.length = n * 64) : (dk0 n L).ok where
  n1 := h1
  n2 := h2
  len := hl
  nodup := List.nodup_nil
  lt := fun k hk => absurd hk List.not_mem_nil
  sz := fun k hk => absurd hk List.not_mem_nil
  ops := Nat.zero_le _
  left := fun _ => ⟨Int.le_refl _, Int.le_refl _⟩
  lft := Lib.hid ⟨by show (-9223372036854775808 : Int) ≤ 0; decide, by show (0 : Int) ≤ 9223372036854775807; decide⟩
set_option maxRecDepth 100000 in
theorem d_of {n g cap : Nat} {L : List UInt8} (h1 : 1 ≤ n) (h2 : n ≤ 8192) (hl : L.length = n * 64) (W : World) (ho : Own W 0 (.slice (some ⟨g, 0, none⟩) (n * 64) cap) L) :
    Calls Tryz.prog 98 #[.slice (some ⟨g, 0, none⟩) (n * 64) cap] W fun e w' => ∃ p bm, e = .returned (.pointer (some ⟨p, 0, none⟩)) ∧ W.heap.size ≤ p ∧ W.heap.size ≤ bm ∧ DiskS w' p g bm none (dk0 n L) ∧ Gr W w' := by
  have hmm := @run_makeMap Tryz.prog
  have hg : g < W.heap.size := (World.ownsRow.lt ho g rfl).2
  have HO := Lib.hid (And.intro ho hl)
  clear ho hl
  go_enter Tryz.func98, Tryz.ntmps98
  go_wp2_with fail
  go_ret
  obtain ⟨ho, hl⟩ := HO.out
  refine ⟨_, W.heap.size, rfl, by omega, Nat.le_refl _, ⟨dk0_ok h1 h2 hl, ⟨cap, .slice none 0 0, (?hd : DiskAt _ _ (.slice (some ⟨g, 0, none⟩) (n * 64) cap) W.heap.size (.slice none 0 0) 0 false 0 false), rowOwn_gr ho (by go_grown), World.ownsRow_nil _ _ _ _, rfl⟩, ⟨.map [], ?_, rfl, fun k hk => ⟨fun _ => rfl, fun h => absurd h List.not_mem_nil⟩⟩, by omega, by omega, by omega, by simp, by simp, by simp⟩, by go_grown⟩
  · exact ⟨by go_simp, by go_simp, by go_simp, by go_simp, by go_simp, by go_simp, by go_simp, by go_simp, by go_simp, by go_simp, by go_simp, by go_simp, by go_simp⟩
  · exact (World.ownsMap_made W Tryz.prog 3 heldE).alloc _
theorem d_faultNew (op : ByteArray) (id k : Int) (W : World) : Calls Tryz.prog 31 #[.string op, .int .i64 id, .iface 71 (.int .i64 k)] W fun e w' => ∃ B, e = .returned (.iface 78 (.pointer (some ⟨B, 0, none⟩))) ∧ FaultAt w' B op id k ∧ Gr W w' := by
  go_enter Tryz.func31, Tryz.ntmps31
  go_wp2_with fail
  go_ret
  exact ⟨_, rfl, ⟨by go_simp, by go_simp, by go_simp⟩, by go_grown⟩
set_option maxRecDepth 100000 in
theorem d_new (n : Nat) (h1 : 1 ≤ n) (h2 : n ≤ 8192) (W : World) :
    Calls Tryz.prog 75 #[.int .i64 n] W fun e w' => ∃ p g bm, e = .returned (.tuple #[.pointer (some ⟨p, 0, none⟩), .nilIface]) ∧ (∀ k, dkZ p g bm none k → W.heap.size ≤ k) ∧ DiskS w' p g bm none (dk0 n (List.replicate (n * 64) 0)) ∧ Gr W w' := by
  obtain ⟨i0, hi0, hz0, hz1, hz2⟩ := info_parts (P := Tryz.prog) (e := 5) (z := .int .u8 0) (size := 1) (bytes := 1) (by kernel_rfl)
  have HI := Lib.hid (And.intro hi0 (And.intro hz0 (And.intro hz1 hz2)))
  clear hi0 hz0 hz1 hz2
  have t1 : decide ((n : Int) < 1) = false := decide_eq_false (by omega)
  have t2 : decide ((8192 : Int) < (n : Int)) = false := decide_eq_false (by omega)
  have t3 : ¬ (8192 : Int) < (n : Int) := by omega
  have e1 : wrap64 ((n : Int) * 64) = ((n * 64 : Nat) : Int) := by rw [show ((n : Int) * 64) = ((n * 64 : Nat) : Int) by omega]; exact wr_small (by omega)
  have e2 : IntKind.i64.wrap ((n : Int) * 64) = ((n * 64 : Nat) : Int) := by rw [show ((n : Int) * 64) = ((n * 64 : Nat) : Int) by omega]; exact wk_small (by omega)
  have e3 : (n : Int) * 64 = ((n * 64 : Nat) : Int) := by omega
  obtain ⟨m, hm⟩ : ∃ m, m = n * 64 := ⟨_, rfl⟩
  rw [← hm] at e1 e2 e3 ⊢
  have HM := Lib.hid hm
  have hmb : m ≤ 1000000 := by omega
  clear hm
  go_enter Tryz.func75, Tryz.ntmps75
  go_wp2_with (first | (at_make; (refine wpList_make_bytesO _ rfl _ _ rfl i0 HI.out.1 HI.out.2.1 HI.out.2.2.1 HI.out.2.2.2 m rfl rfl (by omega) ?_); intro w0 o0 s0 g0; (have HO := Lib.hid o0); clear o0))
  go_at_call 98
  have A := d_of (n := n) (g := W.heap.size) (cap := m) (L := List.replicate m 0) h1 h2 (by rw [List.length_replicate]; exact HM.out) w0 (by rw [← HM.out]; exact own_base HO.out (Nat.zero_le _))
  rw [← HM.out] at A
  refine A.mono ?_
  rintro e w2 ⟨p, bm, rfl, hp, hb, hD, g2⟩
  have HD := Lib.hid hD
  clear hD A
  go_wp2_with fail
  go_ret2
  refine ⟨p, W.heap.size, bm, rfl, fun k hk => ?_, HD.out, Gr.trans g0 g2⟩
  have := g0.size
  rcases hk with rfl | rfl | rfl | hk
  · omega
  · exact Nat.le_refl _
  · omega
  · cases hk
section
variable {p g bm : Nat} {M : Option Nat} {d : Dk}
theorem read_len (H : d.ok) {k : Nat} (hk : k < d.n) : (d.read k).length = 64 := by
  unfold Dk.read
  split
  · exact H.sz k (by assumption)
  · unfold sec; rw [List.length_take, List.length_drop, H.len]; omega
theorem KI : Keyed Tryz.prog 3 := int_keyed Tryz.underlying3
theorem zeroB (w : World) : (zeroValue 109).run Tryz.prog w = .ok (.slice none 0 0) w := by kernel_rfl
theorem ik_wf {k : Nat} (h : k < 1000000) : (Lit.int .i64 (k : Int)).wf = true := WalkArith.wf_i64 (by omega)
theorem ik_of {k : Nat} (h : k < 1000000) : keyOf Tryz.prog 3 (.int .i64 (k : Int)) = some (ik k) := keyOf_int_mk Tryz.underlying3 (ik_wf h)
abbrev readS : ByteArray := ⟨#[114, 101, 97, 100]⟩
abbrev writeS : ByteArray := ⟨#[119, 114, 105, 116, 101]⟩
abbrev syncS : ByteArray := ⟨#[115, 121, 110, 99]⟩
theorem d_clone {L : List UInt8} {v : Value} {W : World} (h : Row W v L) (hl : L.length ≤ 1000000) : ∀ w, Gr W w → Calls Tryz.prog 85 #[v] w fun e w' => ∃ ad c, e = .returned (.slice ad L.length c) ∧ Own w' W.heap.size (.slice ad L.length c) L ∧ Gr w w' := fun w G => by
  refine (c_sClone w (row_gr h G) hl).mono ?_
  rintro e w' ⟨ad, c, rfl, o, -, g⟩
  exact ⟨ad, c, rfl, own_base o G.size, g⟩
set_option maxHeartbeats 1000000 in
set_option maxRecDepth 100000 in
theorem d_read (k : Nat) (hk : k < d.n) (W : World) (H : DiskS W p g bm M d) :
    Calls Tryz.prog 58 #[.pointer (some ⟨p, 0, none⟩), .int .i64 k] W fun e w' => ∃ ad c, e = .returned (.tuple #[.slice ad 64 c, .nilIface]) ∧ Own w' W.heap.size (.slice ad 64 c) (d.read k) ∧ Gr W w' := by
  have hrl := read_len H.ok hk
  have hn2 := H.ok.n2
  have A1 := fun w (G : Gr W w) => d_len w (diskS_gr H G)
  obtain ⟨lc, hlr, -⟩ := d_lasting k hk W H
  have A2 : ∀ w, Gr W w → ∃ c, Row w (.slice (some ⟨g, k * 64, none⟩) 64 c) (sec d.good k) ∧ Calls Tryz.prog 86 #[.pointer (some ⟨p, 0, none⟩), .int .i64 k] w fun e w' => e = .returned (.slice (some ⟨g, k * 64, none⟩) 64 c) ∧ Gr w w' := fun w G => d_lasting k hk w (diskS_gr H G)
  obtain ⟨cap, ov, h, -⟩ := H.head
  have c1 := h.c1
  have hB := World.block_lt_of_cell? _ _ c1
  obtain ⟨D, hD, -, hW⟩ := H.waits
  have hWk := hW k (by omega)
  have t1 : decide ((k : Int) < 0) = false := decide_eq_false (by omega)
  have t2 : decide ((d.n : Int) ≤ (k : Int)) = false := decide_eq_false (by omega)
  have t3 : ¬ (d.n : Int) ≤ (k : Int) := by omega
  generalize hrd : d.read k = R at hrl ⊢
  by_cases hin : k ∈ d.ord
  · obtain ⟨hh, v, hv, hr⟩ := hWk.2 hin
    have hR : R = d.F k := by rw [← hrd]; unfold Dk.read; rw [if_pos hin]
    rw [← hR] at hr
    have A3 := d_clone hr.1 (by omega)
    rw [hrl] at A3
    have HD := Lib.hid (And.intro hD (And.intro hh hv))
    have H1 := Lib.hid A1
    have H3 := Lib.hid A3
    clear A1 A3
    clear H h hD hW hWk hh hv hr hR hrd hlr A2
    generalize d.n = n at *
    go_enter Tryz.func58, Tryz.ntmps58
    go_wp2_with fail
    go_at_call 35
    refine ((H1.out _ (by go_grown))).mono ?_
    rintro e w1 ⟨rfl, hw1⟩
    have cw1_0_0 : w1.cell? ⟨p, 1, none⟩ = some (.map (some bm)) := cell_gr hw1 (by go_simp)
    have zw1_0 : p < w1.heap.size := World.block_lt_of_cell? _ _ cw1_0_0
    have gw1 : Gr W w1 := Gr.trans (by go_grown) hw1
    clear hw1
    have mo := ownsMap_kx (S := fun _ => False) HD.out.1 (Kx.of_gr gw1) (fun h => h)
    go_wp2_with (first | (at_lookup; (refine wpList_look_hit _ rfl _ _ 115 rfl 3 109 KI Tryz.underlying115 (zeroB _) bm _ D rfl mo _ (ik k) rfl (ik_of (by omega)) HD.out.2.1 v HD.out.2.2 ?_)))
    go_at_call 85
    refine (H3.out _ (by have gg := gw1; have gs := gg.size; go_grown)).mono ?_
    rintro e w3 ⟨ad, c, rfl, o5, g3⟩
    have HO := Lib.hid o5
    clear o5
    go_wp2_with fail
    go_ret2
    exact ⟨ad, c, rfl, HO.out, Gr.trans (by have gg := gw1; have gs := gg.size; go_grown) g3⟩
  · have hh := hWk.1 hin
    have hR : R = sec d.good k := by rw [← hrd]; unfold Dk.read; rw [if_neg hin]
    rw [← hR] at A2 hlr
    have HD := Lib.hid (And.intro hD hh)
    have H1 := Lib.hid A1
    have H2 := Lib.hid A2
    clear A1 A2
    clear H h hD hW hWk hh hR hrd hlr
    generalize d.n = n at *
    go_enter Tryz.func58, Tryz.ntmps58
    go_wp2_with fail
    go_at_call 35
    refine ((H1.out _ (by go_grown))).mono ?_
    rintro e w1 ⟨rfl, hw1⟩
    have cw1_0_0 : w1.cell? ⟨p, 1, none⟩ = some (.map (some bm)) := cell_gr hw1 (by go_simp)
    have zw1_0 : p < w1.heap.size := World.block_lt_of_cell? _ _ cw1_0_0
    have gw1 : Gr W w1 := Gr.trans (by go_grown) hw1
    clear hw1
    have mo := ownsMap_kx (S := fun _ => False) HD.out.1 (Kx.of_gr gw1) (fun h => h)
    go_wp2_with (first | (at_lookup; (refine wpList_look_miss _ rfl _ _ 115 rfl 3 109 KI Tryz.underlying115 (zeroB _) bm _ D rfl mo _ (ik k) rfl (ik_of (by omega)) HD.out.2 ?_)))
    go_at_call 86
    obtain ⟨lc2, hR2, hL2⟩ := H2.out _ gw1
    refine hL2.mono ?_
    rintro e w2 ⟨rfl, g2⟩
    have G2 : Gr W w2 := Gr.trans gw1 g2
    have A3 := Lib.hid (d_clone (row_gr hR2 g2) (by omega) w2 (Below.refl _ _))
    have s2 := G2.size
    clear hR2 hL2 g2 mo
    go_wp2_with fail
    go_at_call 85
    have A4 := A3.out
    rw [hrl] at A4
    refine A4.mono ?_
    rintro e w3 ⟨ad, c, rfl, o5, g3⟩
    have HO := Lib.hid o5
    clear o5 A4 A3
    go_wp2_with fail
    go_ret2
    exact ⟨ad, c, rfl, own_base HO.out s2, Gr.trans G2 g3⟩
theorem d_read_no (z : Int) (hz : z < 0 ∨ (d.n : Int) ≤ z) (W : World) (H : DiskS W p g bm M d) :
    Calls Tryz.prog 58 #[.pointer (some ⟨p, 0, none⟩), .int .i64 z] W fun e w' => ∃ F, e = .returned (.tuple #[.slice none 0 0, .iface 78 (.pointer (some ⟨F, 0, none⟩))]) ∧ FaultAt w' F readS z 2 ∧ Gr W w' := by
  have A1 := fun w (G : Gr W w) => d_len w (diskS_gr H G)
  clear H
  have H1 := Lib.hid A1
  clear A1
  by_cases h : z < 0
  · have t1 : decide (z < 0) = true := decide_eq_true h
    go_enter Tryz.func58, Tryz.ntmps58
    go_wp2_with fail
    go_at_call 31
    refine (d_faultNew readS z 2 _).mono ?_
    rintro e w3 ⟨F, rfl, hf, g3⟩
    go_wp2_with fail
    go_ret2
    exact ⟨F, rfl, hf, Gr.trans (by go_grown) g3⟩
  · have t1 : decide (z < 0) = false := decide_eq_false h
    have h2 : (d.n : Int) ≤ z := by omega
    have t2 : decide ((d.n : Int) ≤ z) = true := decide_eq_true h2
    go_enter Tryz.func58, Tryz.ntmps58
    go_wp2_with fail
    go_at_call 35
    refine ((H1.out _ (by go_grown))).mono ?_
    rintro e w1 ⟨rfl, hw1⟩
    have gw1 : Gr W w1 := Gr.trans (by go_grown) hw1
    clear hw1
    go_wp2_with fail
    go_at_call 31
    refine (d_faultNew readS z 2 _).mono ?_
    rintro e w3 ⟨F, rfl, hf, g3⟩
    go_wp2_with fail
    go_ret2
    exact ⟨F, rfl, hf, Gr.trans (by have gg := gw1; have gs := gg.size; go_grown) g3⟩
theorem d_read_nil (z : Int) (W : World) :
    Calls Tryz.prog 58 #[.pointer none, .int .i64 z] W fun e w' => ∃ F, e = .returned (.tuple #[.slice none 0 0, .iface 78 (.pointer (some ⟨F, 0, none⟩))]) ∧ FaultAt w' F readS z 2 ∧ Gr W w' := by
  by_cases h : z < 0
  · have t1 : decide (z < 0) = true := decide_eq_true h
    go_enter Tryz.func58, Tryz.ntmps58
    go_wp2_with fail
    go_at_call 31
    refine (d_faultNew readS z 2 _).mono ?_
    rintro e w3 ⟨F, rfl, hf, g3⟩
    go_wp2_with fail
    go_ret2
    exact ⟨F, rfl, hf, Gr.trans (by go_grown) g3⟩
  · have t1 : decide (z < 0) = false := decide_eq_false h
    have h2 : (0 : Int) ≤ z := by omega
    have t2 : decide ((0 : Int) ≤ z) = true := decide_eq_true h2
    go_enter Tryz.func58, Tryz.ntmps58
    go_wp2_with fail
    go_at_call 35
    refine ((d_len_nil _)).mono ?_
    rintro e w1 ⟨rfl, hw1⟩
    have gw1 : Gr W w1 := Gr.trans (by go_grown) hw1
    clear hw1
    go_wp2_with fail
    go_at_call 31
    refine (d_faultNew readS z 2 _).mono ?_
    rintro e w3 ⟨F, rfl, hf, g3⟩
    go_wp2_with fail
    go_ret2
    exact ⟨F, rfl, hf, Gr.trans (by have gg := gw1; have gs := gg.size; go_grown) g3⟩
end
end Go.Proofs.YtbjckoelgpbaaaaGreatDoor
