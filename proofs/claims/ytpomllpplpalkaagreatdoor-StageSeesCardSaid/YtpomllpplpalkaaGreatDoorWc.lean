import Derived.Test.YtpomllpplpalkaaGreatDoorRo
import Derived.Laws.OwnMore
import Derived.Maps.OwnSet
import Derived.Maps.OwnOps
import Derived.Test.YtpomllpplpalkaaGreatDoorShk
import Derived.OwnWalkIn
import Derived.TacticsInMore
import Derived.Test.YtpomllpplpalkaaGreatDoorGc
import Derived.Test.YtpomllpplpalkaaGreatDoorJa
/- alike: Round told exactly; Block: so many bytes that hang on a number -/
namespace Go.Proofs.YtpomllpplpalkaaGreatDoor
set_option linter.unusedVariables false
set_option linter.unusedSimpArgs false
open Go.ChangeShapes Go.WideShapes Go.ChangeAt Go.RowKit

theorem tmod_emod {z r : Int} {m : Nat} (er : r = Int.tmod z (m : Int)) : z % (m : Int) = r % (m : Int) := by
  have h := Int.mul_tdiv_add_tmod z (m : Int)
  rw [← er] at h
  rw [← h, Int.mul_add_emod_self_left]
set_option maxRecDepth 100000 in
theorem c_RoundE (z : Int) (h1 : -9223372036854775808 ≤ z) (h2 : z ≤ 9223372036854775807) (m : Nat) (hm : 0 < m) (hm2 : m ≤ 1000000) (W : World) :
    Calls Tryz.prog 23 #[.int .i64 z, .int .i64 m] W fun e w' => e = .returned (.int .i64 (z % (m : Int))) ∧ Gr W w' := by
  obtain ⟨r, er⟩ : ∃ r, r = Int.tmod z (m : Int) := ⟨_, rfl⟩
  have hr : r.natAbs < m := by
    rw [er, Int.natAbs_tmod, Int.natAbs_natCast]
    exact Nat.mod_lt _ hm
  have hz := tmod_emod er
  have e1 : Int.tmod z (m : Int) = r := er.symm
  have e2 : IntKind.i64.wrap (Int.tmod z (m : Int)) = r := by rw [e1, IntKind.wrap_i64]; omega
  have e3 : IntKind.i64.wrap r = r := by rw [IntKind.wrap_i64]; omega
  have hm0 : (m : Int) ≠ 0 := by omega
  have hm1 : ((m : Int) == 0) = false := by simp; omega
  have r1 : -(1000000 : Int) ≤ r := by omega
  have r2 : r ≤ 1000000 := by omega
  have m2 : (m : Int) ≤ 1000000 := by omega
  by_cases h : r < 0
  · have t1 : decide (r < 0) = true := decide_eq_true h
    have hk : z % (m : Int) = r + m := by
      rw [hz, ← Int.add_emod_right]
      exact Int.emod_eq_of_lt (by omega) (by omega)
    have HK := Lib.hid hk
    clear er hr hk hz
    go_enter Tryz.func23, Tryz.ntmps23
    go_wp2_with fail
    go_ret
    exact ⟨by rw [HK.out]; rfl, Below.refl _ _⟩
  · have t1 : decide (r < 0) = false := decide_eq_false h
    have hk : z % (m : Int) = r := by rw [hz]; exact Int.emod_eq_of_lt (by omega) (by omega)
    have HK := Lib.hid hk
    clear er hr hk hz
    go_enter Tryz.func23, Tryz.ntmps23
    go_wp2_with fail
    go_ret
    exact ⟨by rw [HK.out]; rfl, Below.refl _ _⟩
end Go.Proofs.YtpomllpplpalkaaGreatDoor
/- disk: what a disk holds -/
namespace Go.Proofs.YtpomllpplpalkaaGreatDoor
set_option linter.unusedVariables false
set_option linter.unusedSimpArgs false
open Go.ChangeShapes Go.WideShapes Go.ChangeAt Go.RowKit Go.Maps

def heldE (v : Value) : Option (DataW Value × List MemPlace) := some (.held v, [])
section
variable {P : Program} (w : World) {ops : Array Oper} {rest : List Oper} {o : Oper} {a : Act} {Q : Exit → Act → World → Prop}
theorem wpList_look_hit (hg : o.guard = none) (m x : Operand) (t : TypeId) (hop : o.op = Op.lookup t m x true)
    (k e : TypeId) (K : Keyed P k) (ht : P.underlying t = some (.map k e)) {z : Value} (hz : (zeroValue e).run P w = .ok z w) (b n : Nat) (D : DataW Value)
    (hm : a.eval m = .map (some b)) (hown : w.ownsMap P k heldE b n D) (key : Value) (kl : Lit) (hx : a.eval x = key) (hkey : keyOf P k key = some kl)
    (hh : Maps.has D kl = true) (v : Value) (hv : ∀ z, D.atKey kl z = .held v)
    (hK : wpList P ops Q rest (a.put o.dst (.tuple #[v, .bool true])) w) : wpList P ops Q (o :: rest) a w := by
  refine wpList_lookup_own_ok w hg m x t hop k e K ht heldE hz (.held z) [] rfl b n D hm hown key kl hx hkey ?_
  intro v' ps h
  have e1 : (DataW.held v' : DataW Value) = .held v := by
    have := (Prod.mk.inj (Option.some.inj h)).1
    rw [this]; exact hv _
  obtain rfl := DataW.held.inj e1
  rw [hh]
  exact hK
theorem wpList_look_miss (hg : o.guard = none) (m x : Operand) (t : TypeId) (hop : o.op = Op.lookup t m x true)
    (k e : TypeId) (K : Keyed P k) (ht : P.underlying t = some (.map k e)) {z : Value} (hz : (zeroValue e).run P w = .ok z w) (b n : Nat) (D : DataW Value)
    (hm : a.eval m = .map (some b)) (hown : w.ownsMap P k heldE b n D) (key : Value) (kl : Lit) (hx : a.eval x = key) (hkey : keyOf P k key = some kl)
    (hh : Maps.has D kl = false)
    (hK : wpList P ops Q rest (a.put o.dst (.tuple #[z, .bool false])) w) : wpList P ops Q (o :: rest) a w := by
  refine wpList_lookup_own_ok w hg m x t hop k e K ht heldE hz (.held z) [] rfl b n D hm hown key kl hx hkey ?_
  intro v' ps h
  have e1 : (DataW.held v' : DataW Value) = .held z := by
    have := (Prod.mk.inj (Option.some.inj h)).1
    rw [this]; exact atKey_of_not_has hh _
  obtain rfl := DataW.held.inj e1
  rw [hh]
  exact hK
theorem wpList_look1_hit (hg : o.guard = none) (m x : Operand) (t : TypeId) (hop : o.op = Op.lookup t m x false)
    (k e : TypeId) (K : Keyed P k) (ht : P.underlying t = some (.map k e)) {z : Value} (hz : (zeroValue e).run P w = .ok z w) (b n : Nat) (D : DataW Value)
    (hm : a.eval m = .map (some b)) (hown : w.ownsMap P k heldE b n D) (key : Value) (kl : Lit) (hx : a.eval x = key) (hkey : keyOf P k key = some kl)
    (v : Value) (hv : ∀ z, D.atKey kl z = .held v)
    (hK : wpList P ops Q rest (a.put o.dst v) w) : wpList P ops Q (o :: rest) a w := by
  refine wpList_plain hg fun K' hK' => ?_
  obtain ⟨v', ps, hrun, hr⟩ := hown.lookup K ht (zd := .held z) (zp := []) hz rfl hkey
  have e1 : (DataW.held v' : DataW Value) = .held v := by
    have := (Prod.mk.inj (Option.some.inj hr)).1
    rw [this]; exact hv _
  obtain rfl := DataW.held.inj e1
  unfold Oper.wp
  simp [execOp, hop, hm, hx, hrun, Result.andThen]
  exact hK' _ _ hK
end
theorem ownsMap_kx {P : Program} {k : TypeId} {S : Nat → Prop} {a b : World} {m n : Nat} {D : DataW Value} (h : a.ownsMap P k heldE m n D) (g : Kx S a b) (hm : ¬ S m) : b.ownsMap P k heldE m n D := by
  obtain ⟨es, clock, hb, r⟩ := h
  exact ⟨es, clock, heap_kx g hm hb, r⟩
end Go.Proofs.YtpomllpplpalkaaGreatDoor
/- disk: New, Read, op -/
namespace Go.Proofs.YtpomllpplpalkaaGreatDoor
set_option linter.unusedVariables false
set_option linter.unusedSimpArgs false
open Go.ChangeShapes Go.WideShapes Go.ChangeAt Go.RowKit Go.Maps

section
variable {p g bm : Nat} {M : Option Nat}
theorem KI : Keyed Tryz.prog 3 := int_keyed Tryz.underlying3
end
end Go.Proofs.YtpomllpplpalkaaGreatDoor
/- model: nothing, and a zero one; shapes; a copy of an object -/
namespace Go.Proofs.YtpomllpplpalkaaGreatDoor
set_option linter.unusedVariables false
set_option linter.unusedSimpArgs false
open Go.ChangeShapes Go.WideShapes Go.ChangeAt Go.RowKit Go.Maps Go.Sort Go.Shelf

abbrev modelS : ByteArray := ⟨#[109, 111, 100, 101, 108]⟩
theorem md_R1 (W : World) : Calls Tryz.prog 23 #[.int .i64 1, .int .i64 1000] W fun e w' => e = .returned (.int .i64 1) ∧ Gr W w' := c_RoundE 1 (by decide) (by decide) 1000 (by decide) (by decide) W
theorem md_R50 (W : World) : Calls Tryz.prog 23 #[.int .i64 1, .int .i64 50] W fun e w' => e = .returned (.int .i64 1) ∧ Gr W w' := c_RoundE 1 (by decide) (by decide) 50 (by decide) (by decide) W
theorem md_R0 (W : World) : Calls Tryz.prog 23 #[.int .i64 0, .int .i64 4] W fun e w' => e = .returned (.int .i64 0) ∧ Gr W w' := c_RoundE 0 (by decide) (by decide) 4 (by decide) (by decide) W
theorem res_obj {F : Func} {p : Tmp} {tmps : Array Value} {w : World} {N : Nat} {k : Int} {u : Value} (hF : F.results = #[.cell p 34]) (h2 : tmps.getD p undef = .pointer (some ⟨N, 0, none⟩)) (c0 : w.cell? ⟨N, 0, none⟩ = some (.int .i64 k)) (c1 : w.cell? ⟨N, 1, none⟩ = some u) :
    (results F tmps).run Tryz.prog w = .ok (.agg #[.int .i64 k, u]) w := by
  have g2 : tmps[p]?.getD undef = .pointer (some ⟨N, 0, none⟩) := by simpa using h2
  simp [results, hF, go_sem, g2, c0, c1]
set_option maxHeartbeats 1000000 in
set_option maxRecDepth 100000 in
theorem md_shape0 (W : World) : Calls Tryz.prog 16 #[.int .i64 0, .int .i64 1, .int .i64 1, .int .i64 1] W fun e w' => ∃ B, e = .returned (.agg #[.int .i64 1, .slice (some ⟨B, 0, none⟩) 1 1]) ∧ w'.cell? ⟨B, 0, none⟩ = some (.int .i64 1) ∧ w'.cell? ⟨B, 1, none⟩ = some (.int .i64 1) ∧ W.heap.size ≤ B ∧ Gr W w' := by
  go_enter Tryz.func16, Tryz.ntmps16
  go_wp2_with fail
  go_at_call 23
  refine ((md_R1 _)).mono ?_
  rintro e w1 ⟨rfl, hw1⟩
  have cw1_0_0 : w1.cell? ⟨W.heap.size, 0, none⟩ = some (.int .i64 0) := cell_gr hw1 (by go_simp)
  have fw1_0_0 : w1.frozen? ⟨W.heap.size, 0, none⟩ = false := frozen_gr (v := .int .i64 0) hw1 (by go_simp) (by go_simp)
  have cw1_0_1 : w1.cell? ⟨W.heap.size, 1, none⟩ = some (.slice none 0 0) := cell_gr hw1 (by go_simp)
  have fw1_0_1 : w1.frozen? ⟨W.heap.size, 1, none⟩ = false := frozen_gr (v := .slice none 0 0) hw1 (by go_simp) (by go_simp)
  have zw1_0 : W.heap.size < w1.heap.size := World.block_lt_of_cell? _ _ cw1_0_0
  have gw1 : Gr W w1 := Gr.trans (by go_grown) hw1
  clear hw1
  go_wp2_with fail
  go_at_call 23
  refine ((md_R1 _)).mono ?_
  rintro e w2 ⟨rfl, hw2⟩
  have cw2_0_0 : w2.cell? ⟨W.heap.size, 0, none⟩ = some (.int .i64 0) := cell_gr hw2 (by go_simp)
  have fw2_0_0 : w2.frozen? ⟨W.heap.size, 0, none⟩ = false := frozen_gr (v := .int .i64 0) hw2 (by go_simp) (by go_simp)
  have cw2_0_1 : w2.cell? ⟨W.heap.size, 1, none⟩ = some (.slice none 0 0) := cell_gr hw2 (by go_simp)
  have fw2_0_1 : w2.frozen? ⟨W.heap.size, 1, none⟩ = false := frozen_gr (v := .slice none 0 0) hw2 (by go_simp) (by go_simp)
  have zw2_0 : W.heap.size < w2.heap.size := World.block_lt_of_cell? _ _ cw2_0_0
  have gw2 : Gr W w2 := Gr.trans (by have gg := gw1; have gs := gg.size; go_grown) hw2
  clear hw2 gw1 zw1_0 cw1_0_0 fw1_0_0 cw1_0_1 fw1_0_1
  go_wp2_with fail
  go_at_call 23
  refine ((md_R50 _)).mono ?_
  rintro e w3 ⟨rfl, hw3⟩
  have cw3_0_0 : w3.cell? ⟨W.heap.size, 0, none⟩ = some (.int .i64 0) := cell_gr hw3 (by go_simp)
  have fw3_0_0 : w3.frozen? ⟨W.heap.size, 0, none⟩ = false := frozen_gr (v := .int .i64 0) hw3 (by go_simp) (by go_simp)
  have cw3_0_1 : w3.cell? ⟨W.heap.size, 1, none⟩ = some (.slice none 0 0) := cell_gr hw3 (by go_simp)
  have fw3_0_1 : w3.frozen? ⟨W.heap.size, 1, none⟩ = false := frozen_gr (v := .slice none 0 0) hw3 (by go_simp) (by go_simp)
  have zw3_0 : W.heap.size < w3.heap.size := World.block_lt_of_cell? _ _ cw3_0_0
  have gw3 : Gr W w3 := Gr.trans (by have gg := gw2; have gs := gg.size; go_grown) hw3
  clear hw3 gw2 zw2_0 cw2_0_0 fw2_0_0 cw2_0_1 fw2_0_1
  go_wp2_with fail
  go_at_call 23
  refine ((md_R0 _)).mono ?_
  rintro e w4 ⟨rfl, hw4⟩
  have cw4_0_0 : w4.cell? ⟨W.heap.size, 0, none⟩ = some (.int .i64 0) := cell_gr hw4 (by go_simp)
  have fw4_0_0 : w4.frozen? ⟨W.heap.size, 0, none⟩ = false := frozen_gr (v := .int .i64 0) hw4 (by go_simp) (by go_simp)
  have cw4_0_1 : w4.cell? ⟨W.heap.size, 1, none⟩ = some (.slice none 0 0) := cell_gr hw4 (by go_simp)
  have fw4_0_1 : w4.frozen? ⟨W.heap.size, 1, none⟩ = false := frozen_gr (v := .slice none 0 0) hw4 (by go_simp) (by go_simp)
  have zw4_0 : W.heap.size < w4.heap.size := World.block_lt_of_cell? _ _ cw4_0_0
  have gw4 : Gr W w4 := Gr.trans (by have gg := gw3; have gs := gg.size; go_grown) hw4
  clear hw4 gw3 zw3_0 cw3_0_0 fw3_0_0 cw3_0_1 fw3_0_1
  have s4 := gw4.size
  have HG := Lib.hid gw4
  go_wp2_with fail
  refine bodyPost_ret (res_obj (p := 8) (N := W.heap.size) (k := 1) (u := .slice (some ⟨w4.heap.size, 0, none⟩) 1 1) rfl rfl (by go_simp) (by go_simp)) rfl ?_
  exact ⟨_, rfl, by go_simp, by go_simp, s4, by have gg := HG.out; have gs := gg.size; go_grown⟩
theorem md_New (W : World) : Calls Tryz.prog 12 #[] W fun e w' => e = .returned (.pointer (some ⟨W.heap.size, 0, none⟩)) ∧ w' = W.alloc (.cells #[.map none] 105) := by
  go_enter Tryz.func12, Tryz.ntmps12
  go_wp2_with fail
  go_ret
  exact ⟨rfl, rfl⟩
theorem md_len_0 {Q : Nat} (W : World) (c0 : W.cell? ⟨Q, 0, none⟩ = some (.map none)) : Calls Tryz.prog 28 #[.pointer (some ⟨Q, 0, none⟩)] W fun e w' => e = .returned (.int .i64 0) ∧ Gr W w' := by
  have z := World.block_lt_of_cell? _ _ c0
  go_enter Tryz.func28, Tryz.ntmps28
  go_wp2_with fail
  go_ret
  exact ⟨rfl, by go_grown⟩
theorem md_len_m {Q m n : Nat} {D : DataW Value} (W : World) (c0 : W.cell? ⟨Q, 0, none⟩ = some (.map (some m))) (hm : W.ownsMap Tryz.prog 3 heldE m n D) : Calls Tryz.prog 28 #[.pointer (some ⟨Q, 0, none⟩)] W fun e w' => e = .returned (.int .i64 (Maps.size D)) ∧ Gr W w' := by
  have z := World.block_lt_of_cell? _ _ c0
  go_enter Tryz.func28, Tryz.ntmps28
  go_wp2_with (at_len; (refine wpList_len_own _ rfl _ 103 rfl 3 34 Tryz.underlying103 heldE m n D rfl hm ?_))
  go_ret
  exact ⟨rfl, by go_grown⟩
theorem zeroO (w : World) : (zeroValue 34).run Tryz.prog w = .ok (.agg #[.int .i64 0, .slice none 0 0]) w := by kernel_rfl
theorem sortsK (m : Nat) : AnyZI.SortsIn Tryz.prog Tryz.sortedK_ren Fence.wide m :=
  ⟨fun blk off cap ss W hH hblk hsz => callsIn_wide.2 (AnyM.slices_Sort_int Tryz.sortK blk off cap ss W hH hblk hsz),
   fun p cap W => callsIn_wide.2 (AnyM.slices_Sort_int_none Tryz.sortK p cap W)⟩
set_option maxHeartbeats 1000000 in
theorem md_ids_0 {Q : Nat} (W : World) (c0 : W.cell? ⟨Q, 0, none⟩ = some (.map none)) : Calls Tryz.prog 70 #[.pointer (some ⟨Q, 0, none⟩)] W fun e w' => e = .returned (.slice none 0 0) ∧ Gr W w' := by
  refine (callsIn_wide (n := 6)).1 ?_
  have z := World.block_lt_of_cell? _ _ c0
  have hseq : SeqGives Fence.wide 2 Tryz.prog 145 #[.pointer (some ⟨W.heap.size, 0, none⟩)] encZ (fun ss : List Int => ss = []) 0 (W.alloc (.cells #[.map none] 103)) :=
    AnyZI.keys_gives_nil (ρ := Tryz.keysK105_ren) { Tryz.keysK105 with } Fence.wide _ trivial rfl W.heap.size _ (by simp) (by simp)
  have cK : ∀ mb W, CallsIn Fence.wide 5 Tryz.prog 105 #[.map mb] W fun e w' => e = .returned (.func (.func 145) #[] #[.pointer (some ⟨W.heap.size, 0, none⟩)]) ∧ w' = W.alloc (.cells #[.map mb] 103) := fun mb W => AnyZI.keys_in Tryz.keysK105 Fence.wide 5 trivial rfl mb W
  have cS := AnyZI.sorted_in Tryz.sortedK Fence.wide 5 trivial trivial trivial trivial rfl (by omega) (sortsK _) (enters_of Tryz.func101 (by kernel_rfl) rfl) 145 #[.pointer (some ⟨W.heap.size, 0, none⟩)] trivial (enters_of Tryz.func145 (by kernel_rfl) rfl) _ 0 (Nat.zero_le _) (by omega) _ hseq
  change CallsIn _ _ Tryz.prog 64 _ _ _ at cS
  have hfK : Fence.wide.fn 105 := trivial
  have hfS : Fence.wide.fn 64 := trivial
  refine callsIn_of_wp Tryz.func70 rfl trivial ?_ rfl
  simp only [Tryz.ntmps70, List.size_toArray, List.length_cons, List.length_nil, Nat.reduceAdd, Nat.reduceSub, Array.replicate_succ, Array.replicate_zero, List.push_toArray, List.append_toArray, List.nil_append, List.cons_append]
  gi_wp2_with (first
    | (gi_at_call 105; refine (cK _ _).mono ?_; rintro e w' ⟨rfl, rfl⟩)
    | (gi_at_call 64; refine cS.mono ?_; rintro e w' ⟨v, ss, rfl, rfl, hrow, hnil, hb⟩; obtain rfl : v = .slice none 0 0 := hnil.2 rfl))
  go_ret
  exact ⟨rfl, ((Below.refl _ W).alloc (Nat.le_refl _) _).trans (hb.mono (by simp))⟩
end Go.Proofs.YtpomllpplpalkaaGreatDoor
/- model: a copy of an object; Same -/
namespace Go.Proofs.YtpomllpplpalkaaGreatDoor
set_option linter.unusedVariables false
set_option linter.unusedSimpArgs false
open Go.ChangeShapes Go.WideShapes Go.ChangeAt Go.RowKit Go.Maps

theorem own_rowW {w : World} {base e n : Nat} {v : Value} {xs : List Value} (h : w.ownsRow base e 2 v n xs) (hn : 0 < n) : ∃ D cap, v = .slice (some ⟨D, 0, none⟩) n cap ∧ n ≤ cap ∧ (cap : Int) ≤ 9223372036854775807 ∧ base ≤ D ∧ (∃ cur, w.heap[D]? = some (.cells cur e (0, 0))) ∧ ∀ j, j < n * 2 → w.cell? ⟨D, j, none⟩ = xs[j]? := by
  rcases h.2 with ⟨rfl, rfl⟩ | ⟨g, cap, cur, rfl, hb, hg, hn', hc, hs, ht⟩
  · exact absurd hn (Nat.lt_irrefl _)
  · exact ⟨g, cap, rfl, hn', by unfold maxLen at hc; omega, hb, ⟨cur, hg⟩, fun j hj => h.cellAt j hj⟩
theorem addAt_w (B off j : Nat) : (⟨B, off, none⟩ : Addr).add j = ⟨B, off + j, none⟩ := by unfold Addr.add; split <;> simp_all
def Fr2 (w : World) (B : Nat) : Prop := ∃ cur, w.heap[B]? = some (.cells cur 58 (0, 0))
theorem fr2_kx {a b : World} {S : Nat → Prop} {B : Nat} (h : Fr2 a B) (K : Kx S a b) (hB : ¬ S B) : Fr2 b B := by
  obtain ⟨cur, h⟩ := h
  exact ⟨cur, heap_kx K hB h⟩
def ptsL (n : Nat) (X Y : Nat → Int) : List Value := List.ofFn fun i : Fin (n * 2) => if i.1 % 2 = 0 then Value.int .i64 (X (i.1 / 2)) else Value.int .i64 (Y (i.1 / 2))
theorem ptsL_len (n : Nat) (X Y : Nat → Int) : (ptsL n X Y).length = n * 2 := by unfold ptsL; rw [List.length_ofFn]
theorem ptsL_x {n : Nat} {X Y : Nat → Int} {k : Nat} (h : k < n) : (ptsL n X Y)[k * 2]? = some (.int .i64 (X k)) := by
  unfold ptsL
  rw [List.getElem?_ofFn, dif_pos (by omega)]
  simp
theorem ptsL_y {n : Nat} {X Y : Nat → Int} {k : Nat} (h : k < n) : (ptsL n X Y)[k * 2 + 1]? = some (.int .i64 (Y k)) := by
  unfold ptsL
  rw [List.getElem?_ofFn, dif_pos (by omega)]
  simp only [show (k * 2 + 1) % 2 ≠ 0 by omega, if_false, show (k * 2 + 1) / 2 = k by omega, if_neg, not_false_eq_true]
theorem ptsL_one {n : Nat} {X Y : Nat → Int} : ∀ u ∈ ptsL n X Y, u.oneCell' = true := fun u hu => by
  unfold ptsL at hu
  rw [List.mem_ofFn] at hu
  obtain ⟨i, rfl⟩ := hu
  by_cases h : i.1 % 2 = 0
  · rw [if_pos h]; rfl
  · rw [if_neg h]; rfl
theorem ptsL_news {w : World} {B off n : Nat} {X Y : Nat → Int} (h : ∀ k, k < n → w.cell? ⟨B, off + k * 2, none⟩ = some (.int .i64 (X k)) ∧ w.cell? ⟨B, off + k * 2 + 1, none⟩ = some (.int .i64 (Y k))) : ∀ j u, (ptsL n X Y)[j]? = some u → w.cell? ((⟨B, off, none⟩ : Addr).add j) = some u := fun j u hu => by
  have hj : j < n * 2 := by
    have := (List.getElem?_eq_some_iff.1 hu).1
    rwa [ptsL_len] at this
  rw [addAt_w]
  by_cases e : j % 2 = 0
  · obtain ⟨k, rfl⟩ : ∃ k, j = k * 2 := ⟨j / 2, by omega⟩
    rw [ptsL_x (by omega)] at hu
    rw [← hu]
    exact (h k (by omega)).1
  · obtain ⟨k, rfl⟩ : ∃ k, j = k * 2 + 1 := ⟨j / 2, by omega⟩
    rw [ptsL_y (by omega)] at hu
    rw [← hu, ← Nat.add_assoc]
    exact (h k (by omega)).2
set_option maxHeartbeats 2000000 in
set_option maxRecDepth 100000 in
theorem c_rClone {n : Nat} {X Y : Nat → Int} {k : Int} {v : Value} (hn : 0 < n) (hn2 : n ≤ 1000) (W : World) (h : Pts W v n X Y) : Calls Tryz.prog 61 #[.agg #[.int .i64 k, v]] W fun e w' => ∃ B c, e = .returned (.agg #[.int .i64 k, .slice (some ⟨B, 0, none⟩) n c]) ∧ (Pts w' (.slice (some ⟨B, 0, none⟩) n c) n X Y ∧ Fr2 w' B) ∧ W.heap.size ≤ B ∧ Gr W w' := by
  obtain ⟨i0, hi0, hz0, hz1, hz2⟩ := info_parts (P := Tryz.prog) (e := 58) (z := .agg #[.int .i64 0, .int .i64 0]) (size := 2) (bytes := 16) (by kernel_rfl)
  have HI := Lib.hid (And.intro hi0 (And.intro hz0 (And.intro hz1 hz2)))
  clear hi0 hz0 hz1 hz2
  obtain ⟨ad, cap, B, off, rfl, h1, h2, h3, h4⟩ := h
  obtain rfl := h3 hn
  have HN := Lib.hid h4
  clear h3 h4
  go_enter Tryz.func61, Tryz.ntmps61
  go_wp2_with fail
  try simp only [List.append]
  refine Oe.wp_region_ordT (R := Kx (fun k => W.heap.size + 2 ≤ k)) 5 [(0, false), (1, false), (2, false), (3, false), (4, true)] (by kernel_rfl) (by kernel_rfl) ?_
  intro w1 hw1 KQ hKQ
  have hhw1 := Kx.of_gr (S := (fun k => W.heap.size + 2 ≤ k)) hw1
  have cw1_0_0 : w1.cell? ⟨W.heap.size, 0, none⟩ = some (.int .i64 k) := cell_kx hhw1 (by show ¬ (W.heap.size + 2 ≤ W.heap.size); omega) (by go_simp)
  have fw1_0_0 : w1.frozen? ⟨W.heap.size, 0, none⟩ = false := frozen_kx (v := .int .i64 k) hhw1 (by show ¬ (W.heap.size + 2 ≤ W.heap.size); omega) (by go_simp) (by go_simp)
  have cw1_0_1 : w1.cell? ⟨W.heap.size, 1, none⟩ = some (.slice (some ⟨B, off, none⟩) n cap) := cell_kx hhw1 (by show ¬ (W.heap.size + 2 ≤ W.heap.size); omega) (by go_simp)
  have fw1_0_1 : w1.frozen? ⟨W.heap.size, 1, none⟩ = false := frozen_kx (v := .slice (some ⟨B, off, none⟩) n cap) hhw1 (by show ¬ (W.heap.size + 2 ≤ W.heap.size); omega) (by go_simp) (by go_simp)
  have zw1_0 : W.heap.size < w1.heap.size := World.block_lt_of_cell? _ _ cw1_0_0
  have cw1_1_0 : w1.cell? ⟨W.heap.size + 1, 0, none⟩ = some (.int .i64 0) := cell_kx hhw1 (by show ¬ (W.heap.size + 2 ≤ W.heap.size + 1); omega) (by go_simp)
  have fw1_1_0 : w1.frozen? ⟨W.heap.size + 1, 0, none⟩ = false := frozen_kx (v := .int .i64 0) hhw1 (by show ¬ (W.heap.size + 2 ≤ W.heap.size + 1); omega) (by go_simp) (by go_simp)
  have cw1_1_1 : w1.cell? ⟨W.heap.size + 1, 1, none⟩ = some (.slice none 0 0) := cell_kx hhw1 (by show ¬ (W.heap.size + 2 ≤ W.heap.size + 1); omega) (by go_simp)
  have fw1_1_1 : w1.frozen? ⟨W.heap.size + 1, 1, none⟩ = false := frozen_kx (v := .slice none 0 0) hhw1 (by show ¬ (W.heap.size + 2 ≤ W.heap.size + 1); omega) (by go_simp) (by go_simp)
  have zw1_1 : W.heap.size + 1 < w1.heap.size := World.block_lt_of_cell? _ _ cw1_1_0
  have gw1 : Gr W w1 := Kx.gr hhw1 (by go_grown) (fun k hk => by have hk2 : W.heap.size + 2 ≤ k := hk; omega)
  have sw1 := hhw1.size
  skip
  clear hhw1
  repeat (first | (refine Oe.wpO_skip (by simp only [List.getElem?_toArray, List.getElem?_cons_succ, List.getElem?_cons_zero] <;> rfl) rfl ?_; simp only [Act.put, List.setIfInBounds_toArray, List.set_cons_zero, List.set_cons_succ]) | (refine Oe.wpO_pure (by simp only [List.getElem?_toArray, List.getElem?_cons_succ, List.getElem?_cons_zero] <;> rfl) rfl ?_; apply Exists.intro; refine ⟨?_, ?_⟩; (· intro wx gx; have cx_0_0 : wx.cell? ⟨W.heap.size, 0, none⟩ = some (.int .i64 k) := cell_kx gx (by show ¬ (W.heap.size + 2 ≤ W.heap.size); omega) cw1_0_0; have cx_0_1 : wx.cell? ⟨W.heap.size, 1, none⟩ = some (.slice (some ⟨B, off, none⟩) n cap) := cell_kx gx (by show ¬ (W.heap.size + 2 ≤ W.heap.size); omega) cw1_0_1; have zx_0 : W.heap.size < wx.heap.size := World.block_lt_of_cell? _ _ cx_0_0; have cx_1_0 : wx.cell? ⟨W.heap.size + 1, 0, none⟩ = some (.int .i64 0) := cell_kx gx (by show ¬ (W.heap.size + 2 ≤ W.heap.size + 1); omega) cw1_1_0; have cx_1_1 : wx.cell? ⟨W.heap.size + 1, 1, none⟩ = some (.slice none 0 0) := cell_kx gx (by show ¬ (W.heap.size + 2 ≤ W.heap.size + 1); omega) cw1_1_1; have zx_1 : W.heap.size + 1 < wx.heap.size := World.block_lt_of_cell? _ _ cx_1_0; clear gx; all_goals (apply Oe.pAt_of_quiet; intro K hK; go_big_quiet_op; first | exact hK _ rfl | (apply Exists.intro; refine ⟨fun _ => ?_, ?_⟩; (· fail); exact hK _ rfl))); try simp only [Act.put, List.setIfInBounds_toArray, List.set_cons_zero, List.set_cons_succ]))
  have HG1 := Lib.hid gw1
  have HL := Lib.hid (ptsL_news (X := X) (Y := Y) (fun k hk => ⟨cell_gr gw1 (HN.out k hk).1, cell_gr gw1 (HN.out k hk).2⟩))
  have s1 := gw1.size
  have zz1 := zw1_1
  refine Oe.wpO_call (by simp only [List.getElem?_toArray, List.getElem?_cons_succ, List.getElem?_cons_zero] <;> rfl) rfl ?_
  intro QS hQS
  refine (wpList_append_own2 _ rfl (.const (.slice none 0 0)) (.tmp 6) 32 rfl W.heap.size 58 i0 (.agg #[.int .i64 0, .int .i64 0]) 2 16 Tryz.underlying32 HI.out.1 HI.out.2.1 HI.out.2.2.1 HI.out.2.2.2 rfl (by decide) (.slice none 0 0) 0 [] rfl (World.ownsRow_nil _ _ _ _) ⟨B, off, none⟩ n cap (ptsL n X Y) rfl (ptsL_len n X Y) HL.out ptsL_one (by unfold maxLen; omega) (by omega) s1 ?_)
  intro x5 w5 o5 g5
  have hhw5 : Kx (fun k => W.heap.size + 2 ≤ k) w1 w5 := ((kx_grown g5).mono (fun k hk => by cases hk))
  refine hQS _ _ ⟨_, rfl, hhw5, ?_⟩
  clear hQS QS
  have cw5_0_0 : w5.cell? ⟨W.heap.size, 0, none⟩ = some (.int .i64 k) := cell_kx hhw5 (by show ¬ (W.heap.size + 2 ≤ W.heap.size); omega) (by go_simp)
  have fw5_0_0 : w5.frozen? ⟨W.heap.size, 0, none⟩ = false := frozen_kx (v := .int .i64 k) hhw5 (by show ¬ (W.heap.size + 2 ≤ W.heap.size); omega) (by go_simp) (by go_simp)
  have cw5_0_1 : w5.cell? ⟨W.heap.size, 1, none⟩ = some (.slice (some ⟨B, off, none⟩) n cap) := cell_kx hhw5 (by show ¬ (W.heap.size + 2 ≤ W.heap.size); omega) (by go_simp)
  have fw5_0_1 : w5.frozen? ⟨W.heap.size, 1, none⟩ = false := frozen_kx (v := .slice (some ⟨B, off, none⟩) n cap) hhw5 (by show ¬ (W.heap.size + 2 ≤ W.heap.size); omega) (by go_simp) (by go_simp)
  have zw5_0 : W.heap.size < w5.heap.size := World.block_lt_of_cell? _ _ cw5_0_0
  have cw5_1_0 : w5.cell? ⟨W.heap.size + 1, 0, none⟩ = some (.int .i64 0) := cell_kx hhw5 (by show ¬ (W.heap.size + 2 ≤ W.heap.size + 1); omega) (by go_simp)
  have fw5_1_0 : w5.frozen? ⟨W.heap.size + 1, 0, none⟩ = false := frozen_kx (v := .int .i64 0) hhw5 (by show ¬ (W.heap.size + 2 ≤ W.heap.size + 1); omega) (by go_simp) (by go_simp)
  have cw5_1_1 : w5.cell? ⟨W.heap.size + 1, 1, none⟩ = some (.slice none 0 0) := cell_kx hhw5 (by show ¬ (W.heap.size + 2 ≤ W.heap.size + 1); omega) (by go_simp)
  have fw5_1_1 : w5.frozen? ⟨W.heap.size + 1, 1, none⟩ = false := frozen_kx (v := .slice none 0 0) hhw5 (by show ¬ (W.heap.size + 2 ≤ W.heap.size + 1); omega) (by go_simp) (by go_simp)
  have zw5_1 : W.heap.size + 1 < w5.heap.size := World.block_lt_of_cell? _ _ cw5_1_0
  have gw5 : Gr W w5 := Kx.gr hhw5 gw1 (fun k hk => by have hk2 : W.heap.size + 2 ≤ k := hk; omega)
  have sw5 := hhw5.size
  clear gw1 zw1_0 cw1_0_0 fw1_0_0 cw1_0_1 fw1_0_1 zw1_1 cw1_1_0 fw1_1_0 cw1_1_1 fw1_1_1
  clear hhw5
  try simp only [Act.put, List.setIfInBounds_toArray, List.set_cons_zero, List.set_cons_succ]
  repeat (first | (refine Oe.wpO_skip (by simp only [List.getElem?_toArray, List.getElem?_cons_succ, List.getElem?_cons_zero] <;> rfl) rfl ?_; simp only [Act.put, List.setIfInBounds_toArray, List.set_cons_zero, List.set_cons_succ]) | (refine Oe.wpO_pure (by simp only [List.getElem?_toArray, List.getElem?_cons_succ, List.getElem?_cons_zero] <;> rfl) rfl ?_; apply Exists.intro; refine ⟨?_, ?_⟩; (· intro wx gx; have cx_0_0 : wx.cell? ⟨W.heap.size, 0, none⟩ = some (.int .i64 k) := cell_kx gx (by show ¬ (W.heap.size + 2 ≤ W.heap.size); omega) cw5_0_0; have cx_0_1 : wx.cell? ⟨W.heap.size, 1, none⟩ = some (.slice (some ⟨B, off, none⟩) n cap) := cell_kx gx (by show ¬ (W.heap.size + 2 ≤ W.heap.size); omega) cw5_0_1; have zx_0 : W.heap.size < wx.heap.size := World.block_lt_of_cell? _ _ cx_0_0; have cx_1_0 : wx.cell? ⟨W.heap.size + 1, 0, none⟩ = some (.int .i64 0) := cell_kx gx (by show ¬ (W.heap.size + 2 ≤ W.heap.size + 1); omega) cw5_1_0; have cx_1_1 : wx.cell? ⟨W.heap.size + 1, 1, none⟩ = some (.slice none 0 0) := cell_kx gx (by show ¬ (W.heap.size + 2 ≤ W.heap.size + 1); omega) cw5_1_1; have zx_1 : W.heap.size + 1 < wx.heap.size := World.block_lt_of_cell? _ _ cx_1_0; clear gx; all_goals (apply Oe.pAt_of_quiet; intro K hK; go_big_quiet_op; first | exact hK _ rfl | (apply Exists.intro; refine ⟨fun _ => ?_, ?_⟩; (· fail); exact hK _ rfl))); try simp only [Act.put, List.setIfInBounds_toArray, List.set_cons_zero, List.set_cons_succ]))
  obtain ⟨D, c5, rfl, e1, e2, e3, eh, e4⟩ := own_rowW o5 (by omega)
  have hD := g5.2 D rfl
  have hD' : w1.heap.size ≤ D := by rcases hD with h | h; cases h; exact h
  have HO5 := Lib.hid (And.intro gw5 (And.intro e4 (And.intro hD' (And.intro e1 eh))))
  clear o5 g5 hD e4 hD' eh
  refine Oe.wpO_nil (hKQ _ _ ?_)
  clear hKQ KQ
  go_wp2_with fail
  refine bodyPost_ret (res_obj (p := 2) (N := W.heap.size + 1) (k := k) (u := .slice (some ⟨D, 0, none⟩) (0 + n) c5) rfl rfl (by go_simp) (by go_simp)) rfl ?_
  obtain ⟨G5, e4, hD', e1, eh⟩ := HO5.out
  rw [Nat.zero_add] at e1 e4 ⊢
  have hne : ¬ D = W.heap.size + 1 := by omega
  have KK : Kx (fun k => k = W.heap.size + 1) w5 ((w5.setCell ⟨W.heap.size + 1, 0, none⟩ (.int .i64 k)).setCell ⟨W.heap.size + 1, 1, none⟩ (.slice (some ⟨D, 0, none⟩) n c5)) := ((Kx.refl (S := fun k => k = W.heap.size + 1) w5).setCell (p := ⟨W.heap.size + 1, 0, none⟩) rfl (.int .i64 k)).setCell (p := ⟨W.heap.size + 1, 1, none⟩) rfl (.slice (some ⟨D, 0, none⟩) n c5)
  refine ⟨D, c5, rfl, ⟨?_, fr2_kx (show Fr2 w5 D from eh) KK hne⟩, by omega, ?_⟩
  · refine ⟨some ⟨D, 0, none⟩, c5, D, 0, rfl, e1, by omega, fun _ => rfl, fun q hq => ?_⟩
    have a := e4 (q * 2) (by omega)
    have b := e4 (q * 2 + 1) (by omega)
    rw [List.nil_append, ptsL_x hq] at a
    rw [List.nil_append, ptsL_y hq] at b
    have K : Kx (fun k => k = W.heap.size + 1) w5 _ := ((Kx.refl (S := fun k => k = W.heap.size + 1) w5).setCell (p := ⟨W.heap.size + 1, 0, none⟩) rfl (.int .i64 k)).setCell (p := ⟨W.heap.size + 1, 1, none⟩) rfl (.slice (some ⟨D, 0, none⟩) n c5)
    rw [Nat.zero_add]
    exact ⟨cell_kx K (p := ⟨D, q * 2, none⟩) hne a, cell_kx K (p := ⟨D, q * 2 + 1, none⟩) hne b⟩
  · exact (G5.setCell (p := ⟨W.heap.size + 1, 0, none⟩) (by show W.heap.size ≤ W.heap.size + 1; omega) _).setCell (p := ⟨W.heap.size + 1, 1, none⟩) (by show W.heap.size ≤ W.heap.size + 1; omega) _
end Go.Proofs.YtpomllpplpalkaaGreatDoor
/- model: Apply; Same; awake; ModelNothing -/
namespace Go.Proofs.YtpomllpplpalkaaGreatDoor
set_option linter.unusedVariables false
set_option linter.unusedSimpArgs false
open Go.ChangeShapes Go.WideShapes Go.ChangeAt Go.RowKit Go.Maps

theorem pts_kxW {n c B : Nat} {X Y : Nat → Int} {a b : World} {S : Nat → Prop} (hn : 0 < n) (h : Pts a (.slice (some ⟨B, 0, none⟩) n c) n X Y) (K : Kx S a b) (hB : ¬ S B) : Pts b (.slice (some ⟨B, 0, none⟩) n c) n X Y := by
  obtain ⟨ad, cap, B1, off, e, p1, p2, p3, p4⟩ := h
  simp only [Value.slice.injEq, true_and] at e
  obtain ⟨rfl, rfl⟩ := e
  have e3 := Option.some.inj (p3 hn)
  simp only [Addr.mk.injEq, and_true] at e3
  obtain ⟨rfl, rfl⟩ := e3
  exact ⟨_, _, B, 0, rfl, p1, p2, fun _ => rfl, fun q hq => ⟨cell_kx K (p := ⟨B, 0 + q * 2, none⟩) hB (p4 q hq).1, cell_kx K (p := ⟨B, 0 + q * 2 + 1, none⟩) hB (p4 q hq).2⟩⟩
theorem md_fNew (op : ByteArray) (id k : Int) (W : World) : Calls Tryz.prog 57 #[.string op, .int .i64 id, .iface 107 (.int .i64 k)] W fun e w' => ∃ B, e = .returned (.iface 108 (.pointer (some ⟨B, 0, none⟩))) ∧ FaultAt w' B op id k ∧ Gr W w' := by
  go_enter Tryz.func57, Tryz.ntmps57
  go_wp2_with fail
  go_ret
  exact ⟨_, rfl, ⟨by go_simp, by go_simp, by go_simp⟩, by go_grown⟩
set_option maxHeartbeats 1000000 in
set_option maxRecDepth 100000 in
theorem md_ref_dup {Q : Nat} {id k : Int} {n : Nat} {X Y : Nat → Int} {v : Value} (W : World) (h : Pts W v n X Y) (hc : chgC 1 id k n X Y = 0) : Calls Tryz.prog 72 #[.pointer (some ⟨Q, 0, none⟩), .agg #[.int .i64 1, .int .i64 id, .int .i64 k, v], .bool true] W fun e w' => ∃ F, e = .returned (.iface 108 (.pointer (some ⟨F, 0, none⟩))) ∧ FaultAt w' F modelS id 6 ∧ Gr W w' := by
  have AC := Lib.hid (fun w (g : Gr W w) => c_Change0 1 id k w (pts_gr h g) hc)
  obtain ⟨ad, cap, B, off, rfl, -⟩ := h
  clear hc
  go_enter Tryz.func72, Tryz.ntmps72
  go_wp2_with fail
  go_at_call 106
  (with_reducible refine ((AC.out _ (by go_grown))).mono ?_)
  rintro e w1 ⟨bs, rfl, -, -, hw1⟩
  have cw1_0_0 : w1.cell? ⟨W.heap.size, 0, none⟩ = some (.int .i64 1) := cell_gr hw1 (by go_simp)
  have cw1_0_1 : w1.cell? ⟨W.heap.size, 1, none⟩ = some (.int .i64 id) := cell_gr hw1 (by go_simp)
  have cw1_0_2 : w1.cell? ⟨W.heap.size, 2, none⟩ = some (.int .i64 k) := cell_gr hw1 (by go_simp)
  have cw1_0_3 : w1.cell? ⟨W.heap.size, 3, none⟩ = some (.slice ad n cap) := cell_gr hw1 (by go_simp)
  have zw1_0 : W.heap.size < w1.heap.size := World.block_lt_of_cell? _ _ cw1_0_0
  have gw1 : Gr W w1 := Gr.trans (by go_grown) hw1
  clear hw1
  go_wp2_with fail
  go_at_call 57
  refine (md_fNew modelS id 6 _).mono ?_
  rintro e w2 ⟨F, rfl, hf, g2⟩
  have G2 : Gr W w2 := Gr.trans gw1 g2
  have HF := Lib.hid hf
  clear hf g2
  go_wp2_with fail
  go_ret
  exact ⟨F, rfl, HF.out, G2⟩
set_option maxHeartbeats 1000000 in
set_option maxRecDepth 100000 in
theorem md_ref_ok {Q : Nat} {id k : Int} {n : Nat} {X Y : Nat → Int} {v : Value} (W : World) (h : Pts W v n X Y) (hc : chgC 1 id k n X Y = 0) : Calls Tryz.prog 72 #[.pointer (some ⟨Q, 0, none⟩), .agg #[.int .i64 1, .int .i64 id, .int .i64 k, v], .bool false] W fun e w' => e = .returned .nilIface ∧ Gr W w' := by
  have AC := Lib.hid (fun w (g : Gr W w) => c_Change0 1 id k w (pts_gr h g) hc)
  obtain ⟨ad, cap, B, off, rfl, -⟩ := h
  clear hc
  go_enter Tryz.func72, Tryz.ntmps72
  go_wp2_with fail
  go_at_call 106
  (with_reducible refine ((AC.out _ (by go_grown))).mono ?_)
  rintro e w1 ⟨bs, rfl, -, -, hw1⟩
  have cw1_0_0 : w1.cell? ⟨W.heap.size, 0, none⟩ = some (.int .i64 1) := cell_gr hw1 (by go_simp)
  have cw1_0_1 : w1.cell? ⟨W.heap.size, 1, none⟩ = some (.int .i64 id) := cell_gr hw1 (by go_simp)
  have cw1_0_2 : w1.cell? ⟨W.heap.size, 2, none⟩ = some (.int .i64 k) := cell_gr hw1 (by go_simp)
  have cw1_0_3 : w1.cell? ⟨W.heap.size, 3, none⟩ = some (.slice ad n cap) := cell_gr hw1 (by go_simp)
  have zw1_0 : W.heap.size < w1.heap.size := World.block_lt_of_cell? _ _ cw1_0_0
  have gw1 : Gr W w1 := Gr.trans (by go_grown) hw1
  clear hw1
  go_wp2_with fail
  go_ret
  exact ⟨rfl, gw1⟩
theorem kx_new {S : Nat → Prop} {a b : World} (h : Kx (fun k => S k ∨ a.heap.size ≤ k) a b) : Kx S a b :=
  ⟨h.os, h.tape, h.output, h.size, fun k hk hs => h.block k hk (fun e => e.elim hs (fun h' => by omega))⟩
theorem md_mapGrown {a b : World} {m : Nat} (h : a.grownBy b (some m)) : Kx (fun j => j = m) a b :=
  ⟨h.os, h.tape, h.output, h.size, fun k hk hs => h.block k hk (fun e => hs (Option.some.inj e))⟩
theorem md_eqm (w : World) : (binOp .eql 103 (.map none) (.map none)).run Tryz.prog w = .ok (.bool true) w := by kernel_rfl
end Go.Proofs.YtpomllpplpalkaaGreatDoor
