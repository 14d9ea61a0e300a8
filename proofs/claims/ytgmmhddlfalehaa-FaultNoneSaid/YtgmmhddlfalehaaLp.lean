/- FaultNone -/
import Derived.Test.YtgmmhddlfalehaaLo
namespace Go.Proofs.Ytgmmhddlfalehaa
set_option linter.unusedVariables false
set_option linter.unusedSimpArgs false
open Go.ChangeShapes Go.WideShapes Go.ChangeAt Go.RowKit

theorem first_one (op : ByteArray) (id : Int) : firstF op (Er.flt op id (.num 10)).pre = some (.flt op id (.num 10)) := by
  show List.find? _ (Er.flt op id (.num 10) :: _) = _
  rw [List.find?_cons, decide_eq_true (show (Er.flt op id (.num 10)).op? = some op from rfl)]
theorem fnd_nil (op : ByteArray) (W : World) : Calls Try.prog 11 #[.nilIface, .string op] W fun e w' => e = .returned (.tuple #[.pointer none, .bool false]) ∧ Gr W w' :=
  (c_fFind (T := .nil) op W rfl (by decide)).mono fun e w' ⟨⟨p, he, hp⟩, g⟩ => by
    refine ⟨?_, g⟩
    rcases hp with ⟨-, rfl⟩ | ⟨T, F, h, -⟩
    · exact he
    · cases h
theorem fnd_one {op : ByteArray} {id : Int} {v : Value} (W : World) (h : ErT W (.flt op id (.num 10)) v) : Calls Try.prog 11 #[v, .string op] W fun e w' => ∃ F, e = .returned (.tuple #[.pointer (some ⟨F, 0, none⟩), .bool true]) ∧ W.cell? ⟨F, 0, none⟩ = some (.string op) ∧ W.cell? ⟨F, 1, none⟩ = some (.int .i64 id) ∧ W.cell? ⟨F, 2, none⟩ = some (.iface 30 (.int .i64 10)) ∧ Gr W w' :=
  (c_fFind op W h (by show 1 + 1 ≤ 400000; decide)).mono fun e w' ⟨⟨p, he, hp⟩, g⟩ => by
    rw [first_one] at he hp
    rcases hp with ⟨h, -⟩ | ⟨T, F, hT, rfl, hE⟩
    · cases h
    · obtain rfl := Option.some.inj hT
      obtain ⟨F', u, e', c0, hu⟩ := hE
      unfold ptrV at e'
      simp only [Value.iface.injEq, Value.pointer.injEq, Option.some.injEq, Addr.mk.injEq, true_and, and_true] at e'
      subst e'
      obtain rfl : u = .iface 30 (.int .i64 10) := hu
      exact ⟨F, he, Hm.cell_of_heap c0 0, Hm.cell_of_heap c0 1, Hm.cell_of_heap c0 2, g⟩
set_option maxHeartbeats 2000000 in
set_option maxRecDepth 100000 in
theorem walk_FaultNone (op : ByteArray) (id : Int) (hs : op.size ≤ maxLen) (hb : -9223372036854775808 ≤ id ∧ id ≤ 9223372036854775807) (W : World) : Calls Try.prog 6 #[.string op, .int .i64 id] W fun e w' => e = .returned (.bool true) ∧ Gr W w' := by
  clear hb hs
  by_cases h100 : op.size ≤ 100
  case neg =>
    have t1 : decide ((100 : Int) < (op.size : Int)) = true := decide_eq_true (by omega)
    have t2 : decide (100 < op.size) = true := decide_eq_true (by omega)
    have t3 : (100 : Int) < (op.size : Int) := by omega
    go_enter Try.func6, Try.ntmps6
    go_wp2_with fail
    go_at_call 8
    refine ((p7_awake _)).mono ?_
    rintro e w1 ⟨rfl, hw1⟩
    have gw1 : Gr W w1 := Gr.trans (by go_grown) hw1
    clear hw1
    go_wp2_with fail
    go_ret
    exact ⟨rfl, gw1⟩
  have t1 : decide ((100 : Int) < (op.size : Int)) = false := decide_eq_false (by omega)
  have t2 : decide (100 < op.size) = false := decide_eq_false (by omega)
  have t3 : ¬ (100 : Int) < (op.size : Int) := by omega
  have tz := ba_eqL op
  have ti : (id == id) = true := beq_self_eq_true _
  clear h100
  go_enter Try.func6, Try.ntmps6
  go_wp2_with fail
  go_at_call 11
  refine (fnd_nil op _).mono ?_
  rintro e w1 ⟨rfl, g1⟩
  have A0 : Hid (Calls Try.prog 20 #[.string op, .int .i64 id, .iface 30 (.int .i64 10)] w1 fun e w' => ∃ F, e = .returned (.iface 33 (.pointer (some ⟨F, 0, none⟩))) ∧ ErT w' (.flt op id (.num 10)) (.iface 33 (.pointer (some ⟨F, 0, none⟩))) ∧ w'.cell? ⟨F, 2, none⟩ = some (.iface 30 (.int .i64 10)) ∧ Gr w1 w') := Lib.hid (c_fNewE (T := .num 10) op id w1 rfl rfl)
  go_wp2_with fail
  go_at_call 20
  refine (A0.out).mono ?_
  rintro e w2 ⟨F2, rfl, h2, -, g2⟩
  have A1 := Lib.hid (fnd_one w2 h2)
  have G2 : Gr W w2 := Gr.trans g1 g2
  clear h2 g1 g2 A0
  go_wp2_with fail
  go_at_call 11
  refine (A1.out).mono ?_
  rintro e w3 ⟨F, rfl, c0, c1, c2, g3⟩
  have zF := (World.block_lt_of_cell? _ _ c0)
  have HF := Lib.hid (And.intro c0 (And.intro c1 c2))
  clear c0 c1 c2 A1
  have AC : ∀ w, Calls Try.prog 12 #[.nilIface] w fun e w' => e = .returned (.int .i64 0) ∧ Gr w w' := fun w => c_fCode (T := .nil) w rfl (by decide)
  have AH : ∀ w, Calls Try.prog 14 #[.nilIface] w fun e w' => ∃ sv, e = .returned sv ∧ w'.ownsRow w.heap.size 9 1 sv 0 (strV []) ∧ Gr w w' := fun w => c_fChain (T := .nil) w rfl (by decide)
  have AR : ∀ w, Calls Try.prog 15 #[.nilIface] w fun e w' => ∃ u, e = .returned u ∧ ErT w .nil u ∧ Gr w w' := fun w => c_fRoot (T := .nil) w rfl (by decide)
  have AD : ∀ w, Calls Try.prog 16 #[.nilIface] w fun e w' => e = .returned (.int .i64 0) ∧ Gr w w' := fun w => c_fDeep (T := .nil) w rfl (by decide)
  have HC := Lib.hid AC
  have HH := Lib.hid AH
  have HR := Lib.hid AR
  have HD := Lib.hid AD
  clear AC AH AR AD
  go_wp2_with fail
  go_at_call 12
  refine (HC.out _).mono ?_
  rintro e w4 ⟨rfl, g4⟩
  have G4 : Gr w2 w4 := Gr.trans g3 g4
  clear g3 g4
  go_wp2_with fail
  go_at_call 14
  refine (HH.out _).mono ?_
  rintro e w5 ⟨sv, rfl, o5, g5⟩
  obtain ⟨sa, sc, rfl⟩ := str_form o5
  have G5 : Gr w2 w5 := Gr.trans G4 g5
  clear g5 G4 o5
  go_wp2_with fail
  go_at_call 15
  refine (HR.out _).mono ?_
  rintro e w6 ⟨u, rfl, hu, g6⟩
  obtain rfl : u = .nilIface := hu
  have G6 : Gr w2 w6 := Gr.trans G5 g6
  clear g6 G5
  go_wp2_with fail
  go_at_call 16
  refine (HD.out _).mono ?_
  rintro e w7 ⟨rfl, g7⟩
  have G7 : Gr w2 w7 := Gr.trans G6 g7
  clear g7 G6
  go_wp2_with fail
  go_at_call 19
  refine (c_fJoin_0 _).mono ?_
  rintro e w8 ⟨rfl, g8⟩
  have G8 : Gr w2 w8 := Gr.trans G7 g8
  clear g8 G7
  go_wp2_with fail
  go_at_call 21
  refine (c_fFirst_2 _ _ (by go_simp) (by go_simp)).mono ?_
  rintro e w9 ⟨rfl, g9⟩
  have G9 : Gr w2 w9 := Gr.trans G8 (Gr.trans (al_grw _ _) g9)
  clear g9 G8
  go_wp2_with fail
  go_at_call 20
  refine (c_fNew_nil _ _ _).mono ?_
  rintro e w10 ⟨rfl, g10⟩
  have G10 : Gr w2 w10 := Gr.trans G9 g10
  clear g10 G9
  have y0 := cell_gr G10 HF.out.1
  have y1 := cell_gr G10 HF.out.2.1
  have y2 := cell_gr G10 HF.out.2.2
  have zF2 := (World.block_lt_of_cell? _ _ y0)
  go_wp2_with fail
  go_at_call 22
  refine (c_Is_fault F 10 10 _ y2).mono ?_
  rintro e w11 ⟨rfl, g11⟩
  have G11 : Gr w2 w11 := Gr.trans G10 g11
  clear g11 G10 y0 y1 y2
  go_wp2_with fail
  go_at_call 8
  refine (p7_awake _).mono ?_
  rintro e w12 ⟨rfl, g12⟩
  go_wp2_with fail
  go_ret
  exact ⟨rfl, Gr.trans G2 (Gr.trans G11 g12)⟩
end Go.Proofs.Ytgmmhddlfalehaa
