/- pool: no room is left -/
import Derived.Test.YtbjckoelgpbaaaaGreatDoorQc
namespace Go.Proofs.YtbjckoelgpbaaaaGreatDoor
set_option linter.unusedVariables false
set_option linter.unusedSimpArgs false
open Go.ChangeShapes Go.WideShapes Go.ChangeAt Go.RowKit Go.Maps

theorem pl_state {Q h B : Nat} {a : Int} (W : World) (hh : HoAt W h B 1 a) : Calls Tryz.prog 57 #[.pointer (some ⟨Q, 0, none⟩), .pointer (some ⟨h, 0, none⟩)] W fun e w' => e = .returned (.int .i64 0) ∧ Gr W w' := by
  have h1 : W.cell? ⟨h, 1, none⟩ = some (.int .i64 1) := Hm.cell_of_heap hh 1
  have z := World.block_lt_of_cell? _ _ h1
  clear hh
  go_enter Tryz.func57, Tryz.ntmps57
  go_wp2_with fail
  go_ret
  exact ⟨rfl, by go_grown⟩
set_option maxHeartbeats 2000000 in
set_option maxRecDepth 100000 in
theorem pl_drop {Q p m h B : Nat} (W : World) (hQ : PlAt W Q p m 1 1) (hh : HoAt W h B 1 1) (hm : W.ownsMap Tryz.prog 3 heldE m 1 (D1 h)) : Calls Tryz.prog 33 #[.pointer (some ⟨Q, 0, none⟩)] W fun e w' => e = .returned (.iface 71 (.int .i64 8)) ∧ Gr W w' := by
  have c4 : W.cell? ⟨Q, 4, none⟩ = some (.map (some m)) := Hm.cell_of_heap hQ 4
  have zQ := World.block_lt_of_cell? _ _ c4
  have zm := hm.lt
  have HH := Lib.hid hh
  have HM := Lib.hid hm
  clear hQ hh hm
  go_enter Tryz.func33, Tryz.ntmps33
  go_wp2_with (first | (at_range; (refine wpList_range_own _ rfl _ 67 rfl 3 72 KI Tryz.underlying67 heldE m 1 (D1 h) rfl HM.out ?_); intro w0 hrg0 hg0 hs0))
  try go_frame
  obtain ⟨r, hr⟩ : ∃ r, r = W.heap.size := ⟨_, rfl⟩
  rw [← hr] at hrg0 hs0 ⊢
  have HR := Lib.hid hr
  have K0 : Kx (fun _ => False) W w0 := kxQ_grown hg0 (fun k h => by cases h)
  have HG0 : Hid (Kx (fun j => j = r) W w0) := Lib.hid (K0.mono (fun _ h => h.elim))
  have HR0 := Lib.hid hrg0
  have hr0 : m < r := by omega
  clear hg0 hrg0 hs0 K0 hr c4
  go_loopw [3] (fun x wr => x = .int .i64 (-1) ∧ ∃ left cnt, wr.ranges Tryz.prog 3 heldE m r 1 (D1 h) left cnt ∧ Hid (Kx (fun j => j = r) W wr)) (fun _ wr => wr.rangeLeft m r)
  case atStart => exact ⟨rfl, _, _, HR0.out, HG0⟩
  case round =>
    obtain ⟨rfl, left, cnt, hrg, HG⟩ := hrel
    go_wp2_with (at_next; (refine wpList_next_ranges _ rfl _ rfl 3 KI heldE (Value.int .i64) (fun v : Value => v) (fun key kl hkey => by obtain ⟨x, rfl, _⟩ := Maps.keyOf_int_inv Tryz.underlying3 hkey; exact ⟨x, rfl⟩) (fun v y hv => ⟨v, rfl⟩) m r _ _ _ _ rfl hrg ?_ ?_))
    · intro hc0 hl0
      clear hrg
      go_wp2_with fail
      go_ret
      exact ⟨rfl, Kx.gr HG.out (Below.refl _ W) (fun k hk => by have h1 : k = r := hk; have h2 := HR.out; omega)⟩
    · intro x c kl y ps w3 cnt1 hkey hlx hy hat hrg1 hlt hg1 hs1 hen
      have hkl : kl = .int .i64 x := by
        obtain ⟨x', e1, e2, _⟩ := Maps.keyOf_int_inv Tryz.underlying3 hkey
        cases e1; exact e2
      subst hkl
      obtain rfl : y = .held c := ((Prod.mk.inj (Option.some.inj hy)).1).symm
      obtain ⟨ek, rfl⟩ := d1_key hat
      obtain rfl : x = 0 := (Lit.int.inj ek).2
      have K3 : Kx (fun j => j = r) W w3 := HG.out.trans (kxQ_grown hg1 (fun j h => (Option.some.inj h).symm))
      have hh3 : HoAt w3 h B 1 1 := heap_kx K3 (fun e => by have := HR.out; have := (Array.getElem?_eq_some_iff.1 HH.out).1; omega) HH.out
      have AS := Lib.hid (fun w (g : Gr w3 w) => pl_state (Q := Q) w (show HoAt w h B 1 1 from heap_kx (S := fun _ => False) (Kx.of_gr g) (fun h => h) hh3))
      have HRG := Lib.hid hrg1
      have HK3 := Lib.hid K3
      have HLT := Lib.hid (And.intro hrg hlt)
      clear hkey hlx hy hat hg1 K3 hh3 hrg1 hlt hrg ek
      go_wp2_with fail
      refine wp_region_spread (by kernel_rfl) (by kernel_rfl) ?_
      try simp only [List.append]
      repeat (first | go_big_quiet_skip | (go_big_quiet_want; go_big_quiet_op; (first | go_big_quiet_on | (apply Exists.intro; refine ⟨fun _ => ?_, ?_⟩; (· (first | (go_at_call 57; first | ((with_reducible refine ((AS.out _ (gr_spread _ _))).mono ?_); rintro e w' ⟨rfl, hg⟩; exact ⟨rfl, spread_gr hg⟩)))); go_big_quiet_on))))
      refine wpQuiet_nil ?_
      intro w4 hhw4
      have hw4 := Hd.gr_of_spread hhw4
      have gw4 : Gr w3 w4 := Gr.trans (by go_grown) hw4
      clear hw4 hhw4
      have hrg4 := rangesQ_kx HRG.out (Kx.of_gr (S := fun _ => False) gw4) (fun h => h) (fun h => h)
      have HK4 := Lib.hid (HK3.out.trans (Kx.of_gr gw4))
      go_wp2_with fail
      go_roundw
      case rel => exact ⟨rfl, _, cnt1, hrg4, HK4⟩
      case measure => rw [hrg4.left_eq, HLT.out.1.left_eq]; exact HLT.out.2
theorem d1_size (h : Nat) : Maps.size (D1 h) = 1 := rfl
set_option maxHeartbeats 2000000 in
set_option maxRecDepth 100000 in
theorem pl_pin1 {Q p m h B : Nat} (W : World) (hQ : PlAt W Q p m 1 1) (hh : HoAt W h B 1 1) (hm : W.ownsMap Tryz.prog 3 heldE m 1 (D1 h)) :
    Calls Tryz.prog 6 #[.pointer (some ⟨Q, 0, none⟩), .int .i64 1] W fun e w' => ∃ F, e = .returned (.tuple #[.pointer none, .iface 78 (.pointer (some ⟨F, 0, none⟩))]) ∧ FaultAt w' F poolS 1 8 ∧ Gr W w' := by
  have HD := Lib.hid (And.intro hQ (And.intro hh hm))
  clear hQ hh hm
  go_enter Tryz.func6, Tryz.ntmps6
  go_wp2_with fail
  go_at_call 30
  refine (pl_none_some _ HD.out.1).mono ?_
  rintro e w1 ⟨rfl, g1⟩
  have Q1 : PlAt w1 Q p m 1 1 := heap_kx (S := fun _ => False) (Kx.of_gr g1) (fun h => h) HD.out.1
  have M1 := ownsMap_kx HD.out.2.2 (Kx.of_gr (S := fun _ => False) g1) (fun h => h)
  have c1 : w1.cell? ⟨Q, 1, none⟩ = some (.int .i64 4) := Hm.cell_of_heap Q1 1
  have c2 : w1.cell? ⟨Q, 2, none⟩ = some (.int .i64 1) := Hm.cell_of_heap Q1 2
  have c4 : w1.cell? ⟨Q, 4, none⟩ = some (.map (some m)) := Hm.cell_of_heap Q1 4
  have z1 := World.block_lt_of_cell? _ _ c1
  have HM1 := Lib.hid M1
  have HQ1 := Lib.hid Q1
  have HG1 := Lib.hid g1
  clear Q1 M1 g1
  go_wp2_with (first | (at_lookup; (refine wpList_look_miss _ rfl _ _ 67 rfl 3 72 KI Tryz.underlying67 (zeroH _) m 1 (D1 h) rfl HM1.out _ (ik 1) rfl k1_of (d1_miss h) ?_)))
  have hl : (Builtin.len_ #[67] 3 #[.map (some m)]).run Tryz.prog w1.drew = .ok (.int .i64 1) w1.drew := (show (w1.drew).ownsMap Tryz.prog 3 heldE m 1 (D1 h) from HM1.out).len Tryz.underlying67 3
  go_region
  have G2 : Gr w1 w1.drew := by go_grown
  have AD := Lib.hid (pl_drop w1.drew (show PlAt w1.drew Q p m 1 1 from HQ1.out) (show HoAt w1.drew h B 1 1 from heap_kx (S := fun _ => False) (Kx.of_gr (Gr.trans HG1.out G2)) (fun h => h) HD.out.2.1) (show (w1.drew).ownsMap _ _ _ _ _ _ from HM1.out))
  have HG2 := Lib.hid (Gr.trans HG1.out G2)
  clear G2
  go_wp2_with fail
  go_at_call 33
  refine (AD.out).mono ?_
  rintro e w3 ⟨rfl, g3⟩
  have HG3 := Lib.hid (Gr.trans HG2.out g3)
  clear g3
  go_wp2_with fail
  go_at_call 31
  refine (c_fNew poolS 1 8 _).mono ?_
  rintro e w4 ⟨F, rfl, hf, g4⟩
  have HF := Lib.hid hf
  clear hf
  go_wp2_with fail
  go_ret2
  exact ⟨F, rfl, HF.out, Gr.trans HG3.out g4⟩
end Go.Proofs.YtbjckoelgpbaaaaGreatDoor
