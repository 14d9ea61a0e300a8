/- What RelZero leans on: Es Ua Go Zp Ub Uc Ea Ob -/
import Derived.Test.YtfobmlgpjhghdaaGreatDoorCRelZero2
import Derived.Laws.AppendOwn
import Derived.OwnWalk
import Derived.Laws.OwnMore
import Derived.Deep.RegionLaw
import Derived.Laws.Bits64b
import Derived.ArgAppend
import Derived.Deep.LoopGhost
import Derived.Maps.AppendAt
import Derived.Deep.RegionWith
import Derived.Lib.SmallJoins
namespace Go.Proofs.YtfobmlgpjhghdaaGreatDoor
set_option linter.unusedVariables false
set_option linter.unusedSimpArgs false
open Go.ChangeShapes Go.WideShapes Go.ChangeAt Go.RowKit
theorem boxN_pt (x y : Int) : boxN x y x y = if nearB x y = true then 0 else 2 := by
  unfold boxN
  cases nearB x y
  · rfl
  · rw [decide_eq_true (Int.le_refl x), decide_eq_true (Int.le_refl y)]; rfl
theorem boxN_iv (x y : Int) : boxN x 0 y 0 = if nearB x y = true then (if y < x then 1 else 0) else 2 := by
  unfold boxN
  have e : (nearB x 0 && nearB y 0) = nearB x y := by
    rw [Bool.eq_iff_iff, Bool.and_eq_true, nearB_iff, nearB_iff, nearB_iff]
    omega
  rw [e]
  cases nearB x y
  · rfl
  · simp only [if_true]
    by_cases h : y < x
    · rw [if_pos h, decide_eq_false (by omega : ¬ x ≤ y)]; rfl
    · rw [if_neg h, decide_eq_true (by omega : x ≤ y)]; rfl
def RChTo (W : World) (c : Nat) (e : Ending) (w' : World) : Prop := e = .returned (.int .i64 (c : Nat)) ∧ Gr W w'
set_option maxHeartbeats 2000000 in
set_option maxRecDepth 100000 in
theorem rcheck_verts (k : Int) (n cap : Nat) (ad : Option Addr) (W : World) (hk : k = 1 ∧ n ≠ 1 ∨ k = 2 ∧ n ≠ 1 ∨ k = 3 ∧ n ≠ 2) :
    Calls Tryz.prog 33 #[.agg #[.int .i64 k, .slice ad n cap]] W (RChTo W 3) := by
  rcases hk with ⟨rfl, h⟩ | ⟨rfl, h⟩ | ⟨rfl, h⟩
  · have t1 : ((n : Int) != 1) = true := by simp; omega
    have t2 : (n != 1) = true := by simp; omega
    clear h
    go_enter Tryz.func33, Tryz.ntmps33
    go_wp2_with fail
    go_ret
    exact ⟨rfl, by go_grown⟩
  · have t1 : ((n : Int) != 1) = true := by simp; omega
    have t2 : (n != 1) = true := by simp; omega
    clear h
    go_enter Tryz.func33, Tryz.ntmps33
    go_wp2_with fail
    go_ret
    exact ⟨rfl, by go_grown⟩
  · have t1 : ((n : Int) != 2) = true := by simp; omega
    have t2 : (n != 2) = true := by simp; omega
    clear h
    go_enter Tryz.func33, Tryz.ntmps33
    go_wp2_with fail
    go_ret
    exact ⟨rfl, by go_grown⟩
set_option maxHeartbeats 2000000 in
set_option maxRecDepth 100000 in
theorem rcheck_kind (k : Int) (n cap : Nat) (ad : Option Addr) (W : World) (h4 : k ≠ 4) (h3 : k ≠ 3) (h1 : k ≠ 1) (h2 : k ≠ 2) :
    Calls Tryz.prog 33 #[.agg #[.int .i64 k, .slice ad n cap]] W (RChTo W 5) := by
  have t1 : (k == 1) = false := by simp; omega
  have t2 : (k == 2) = false := by simp; omega
  have t3 : (k == 3) = false := by simp; omega
  have t4 : (k == 4) = false := by simp; omega
  clear h1 h2 h3 h4
  go_enter Tryz.func33, Tryz.ntmps33
  go_wp2_with fail
  go_ret
  exact ⟨rfl, by go_grown⟩
set_option maxHeartbeats 2000000 in
set_option maxRecDepth 100000 in
theorem rcheck_ring {n : Nat} {X Y : Nat → Int} {v : Value} (W : World) (h : Pts W v n X Y) :
    Calls Tryz.prog 33 #[.agg #[.int .i64 4, v]] W (RChTo W (Rg.ringC n X Y).1) := by
  have A1 : ∀ w, Gr W w → Calls Tryz.prog 54 #[v] w fun e w' => e = .returned (.tuple #[.int .i64 ((Rg.ringC n X Y).1 : Nat), .int .i64 ((Rg.ringC n X Y).2 : Nat)]) ∧ Gr w w' := fun w g => c_CheckRing w (pts_gr h g)
  generalize (Rg.ringC n X Y).1 = c at A1 ⊢
  generalize (Rg.ringC n X Y).2 = id at A1
  obtain ⟨ad, cap, B, off, rfl, _⟩ := h
  have H1 := Lib.hid A1
  clear A1
  go_enter Tryz.func33, Tryz.ntmps33
  go_wp2_with fail
  go_at_call 54
  refine ((H1.out _ (by go_grown))).mono ?_
  rintro e w1 ⟨rfl, hw1⟩
  have gw1 : Gr W w1 := Gr.trans (by go_grown) hw1
  clear hw1
  go_wp2_with fail
  go_ret
  exact ⟨rfl, gw1⟩
set_option maxHeartbeats 4000000 in
set_option maxRecDepth 100000 in
theorem rcheck_1 (x y : Int) (B off cap : Nat) (W : World) (p0 : W.cell? ⟨B, off, none⟩ = some (.int .i64 x)) (p1 : W.cell? ⟨B, off + 1, none⟩ = some (.int .i64 y)) :
    Calls Tryz.prog 33 #[.agg #[.int .i64 1, .slice (some ⟨B, off, none⟩) 1 cap]] W (RChTo W (boxN x y x y)) := by
  rw [boxN_pt]
  have A1 := c_rPoint x y
  have hB := World.block_lt_of_cell? _ _ p0
  cases hq : nearB x y
  · rw [hq] at A1
    rw [if_neg (by decide)]
    have H1 := Lib.hid A1
    clear A1
    clear hq
    go_enter Tryz.func33, Tryz.ntmps33
    go_wp2_with fail
    go_at_call 24
    refine ((H1.out _)).mono ?_
    rintro e w1 ⟨rfl, hw1⟩
    have cw1_0_0 := ci hw1 (W.heap.size) 0 1 (by go_simp)
    have gw1 : Gr W w1 := Gr.trans (by go_grown) hw1
    clear hw1
    go_wp2_with fail
    go_ret
    exact ⟨rfl, gw1⟩
  · rw [hq] at A1
    rw [if_pos rfl]
    have H1 := Lib.hid A1
    clear A1
    clear hq
    go_enter Tryz.func33, Tryz.ntmps33
    go_wp2_with fail
    go_at_call 24
    refine ((H1.out _)).mono ?_
    rintro e w1 ⟨rfl, hw1⟩
    have cw1_0_0 := ci hw1 (W.heap.size) 0 1 (by go_simp)
    have gw1 : Gr W w1 := Gr.trans (by go_grown) hw1
    clear hw1
    go_wp2_with fail
    refine wp_region_spread (by kernel_rfl) (by kernel_rfl) ?_
    try simp only [List.append]
    repeat (first | go_big_quiet_skip | (go_big_quiet_want; go_big_quiet_op; (first | go_big_quiet_on | (apply Exists.intro; refine ⟨fun _ => ?_, ?_⟩; (· fail); go_big_quiet_on))))
    refine wpQuiet_nil ?_
    intro w2 hhw2
    have hw2 := Hd.gr_of_spread hhw2
    have gw2 : Gr W w2 := Gr.trans (by have gg := gw1; have gs := gg.size; go_grown) hw2
    clear hw2 hhw2 gw1 cw1_0_0
    go_wp2_with fail
    go_ret
    exact ⟨rfl, gw2⟩
set_option maxHeartbeats 4000000 in
set_option maxRecDepth 100000 in
theorem rcheck_2 (x y : Int) (B off cap : Nat) (W : World) (p0 : W.cell? ⟨B, off, none⟩ = some (.int .i64 x)) (p1 : W.cell? ⟨B, off + 1, none⟩ = some (.int .i64 y)) :
    Calls Tryz.prog 33 #[.agg #[.int .i64 2, .slice (some ⟨B, off, none⟩) 1 cap]] W (RChTo W (boxN x 0 y 0)) := by
  rw [boxN_iv]
  have A1 := c_rPoint x y
  have hB := World.block_lt_of_cell? _ _ p0
  cases hq : nearB x y
  · rw [hq] at A1
    rw [if_neg (by decide)]
    have H1 := Lib.hid A1
    clear A1
    clear hq
    go_enter Tryz.func33, Tryz.ntmps33
    go_wp2_with fail
    go_at_call 24
    refine ((H1.out _)).mono ?_
    rintro e w1 ⟨rfl, hw1⟩
    have cw1_0_0 := ci hw1 (W.heap.size) 0 2 (by go_simp)
    have gw1 : Gr W w1 := Gr.trans (by go_grown) hw1
    clear hw1
    go_wp2_with fail
    go_ret
    exact ⟨rfl, gw1⟩
  · rw [hq] at A1
    rw [if_pos rfl]
    have H1 := Lib.hid A1
    clear A1
    clear hq
    by_cases c : y < x
    · rw [if_pos c]
      have t1 : decide (y < x) = true := decide_eq_true c
      go_enter Tryz.func33, Tryz.ntmps33
      go_wp2_with fail
      go_at_call 24
      refine ((H1.out _)).mono ?_
      rintro e w1 ⟨rfl, hw1⟩
      have cw1_0_0 := ci hw1 (W.heap.size) 0 2 (by go_simp)
      have cw1_1_0 := ci hw1 B off x (by go_simp)
      have cw1_1_1 := ci hw1 B (off + 1) y (by go_simp)
      have gw1 : Gr W w1 := Gr.trans (by go_grown) hw1
      clear hw1
      go_wp2_with fail
      refine wp_region_spread (by kernel_rfl) (by kernel_rfl) ?_
      try simp only [List.append]
      repeat (first | go_big_quiet_skip | (go_big_quiet_want; go_big_quiet_op; (first | go_big_quiet_on | (apply Exists.intro; refine ⟨fun _ => ?_, ?_⟩; (· fail); go_big_quiet_on))))
      refine wpQuiet_nil ?_
      intro w2 hhw2
      have hw2 := Hd.gr_of_spread hhw2
      have gw2 : Gr W w2 := Gr.trans (by have gg := gw1; have gs := gg.size; go_grown) hw2
      clear hw2 hhw2 gw1 cw1_0_0 cw1_1_0 cw1_1_1
      go_wp2_with fail
      go_ret
      exact ⟨rfl, gw2⟩
    · rw [if_neg c]
      have t1 : decide (y < x) = false := decide_eq_false c
      go_enter Tryz.func33, Tryz.ntmps33
      go_wp2_with fail
      go_at_call 24
      refine ((H1.out _)).mono ?_
      rintro e w1 ⟨rfl, hw1⟩
      have cw1_0_0 := ci hw1 (W.heap.size) 0 2 (by go_simp)
      have cw1_1_0 := ci hw1 B off x (by go_simp)
      have cw1_1_1 := ci hw1 B (off + 1) y (by go_simp)
      have gw1 : Gr W w1 := Gr.trans (by go_grown) hw1
      clear hw1
      go_wp2_with fail
      refine wp_region_spread (by kernel_rfl) (by kernel_rfl) ?_
      try simp only [List.append]
      repeat (first | go_big_quiet_skip | (go_big_quiet_want; go_big_quiet_op; (first | go_big_quiet_on | (apply Exists.intro; refine ⟨fun _ => ?_, ?_⟩; (· fail); go_big_quiet_on))))
      refine wpQuiet_nil ?_
      intro w2 hhw2
      have hw2 := Hd.gr_of_spread hhw2
      have gw2 : Gr W w2 := Gr.trans (by have gg := gw1; have gs := gg.size; go_grown) hw2
      clear hw2 hhw2 gw1 cw1_0_0 cw1_1_0 cw1_1_1
      go_wp2_with fail
      go_ret
      exact ⟨rfl, gw2⟩
set_option maxHeartbeats 4000000 in
set_option maxRecDepth 100000 in
theorem rcheck_3 (x y z u : Int) (B off cap : Nat) (W : World) (p0 : W.cell? ⟨B, off, none⟩ = some (.int .i64 x)) (p1 : W.cell? ⟨B, off + 1, none⟩ = some (.int .i64 y)) (p2 : W.cell? ⟨B, off + 2, none⟩ = some (.int .i64 z)) (p3 : W.cell? ⟨B, off + 3, none⟩ = some (.int .i64 u)) :
    Calls Tryz.prog 33 #[.agg #[.int .i64 3, .slice (some ⟨B, off, none⟩) 2 cap]] W (RChTo W (boxN x y z u)) := by
  have A1 := c_rCheckBox x y z u
  rw [boxN_code] at A1
  generalize boxN x y z u = c at A1 ⊢
  have hB := World.block_lt_of_cell? _ _ p0
  have p4 : W.cell? ⟨B, off + 2 + 1, none⟩ = some (.int .i64 u) := p3
  have H1 := Lib.hid A1
  clear A1
  go_enter Tryz.func33, Tryz.ntmps33
  go_wp2_with fail
  go_wp2_with fail
  refine wp_region_spread (by kernel_rfl) (by kernel_rfl) ?_
  try simp only [List.append]
  repeat (first | go_big_quiet_skip | (go_big_quiet_want; go_big_quiet_op; (first | go_big_quiet_on | (apply Exists.intro; refine ⟨fun _ => ?_, ?_⟩; (· (first | (go_at_call 25; first | ((with_reducible refine ((H1.out _)).mono ?_); rintro e w' ⟨rfl, hg⟩; exact ⟨rfl, spread_gr hg⟩)))); go_big_quiet_on))))
  refine wpQuiet_nil ?_
  intro w2 hhw2
  have hw2 := Hd.gr_of_spread hhw2
  have gw2 : Gr W w2 := Gr.trans (by go_grown) hw2
  clear hw2 hhw2
  go_wp2_with fail
  go_ret
  exact ⟨rfl, gw2⟩
theorem c_rCheck {n : Nat} {X Y : Nat → Int} {v : Value} (k : Int) (W : World) (h : Pts W v n X Y) :
    Calls Tryz.prog 33 #[.agg #[.int .i64 k, v]] W (RChTo W (objC k n X Y)) := by
  by_cases h4 : k = 4
  · subst h4; rw [objC_4]; exact rcheck_ring W h
  obtain ⟨ad, cap, _, _, rfl, _⟩ := (show Pts W v n X Y from h)
  by_cases h3 : k = 3
  · subst h3
    rw [objC_3]
    by_cases hn : n = 2
    · rw [if_pos hn]
      subst hn
      obtain ⟨B, off, rfl, hB, p0, p1, p2⟩ := pts_at0 h (by omega)
      exact rcheck_3 _ _ _ _ B off cap W p0 p1 (p2 (by omega)).1 (p2 (by omega)).2
    · rw [if_neg hn]
      exact rcheck_verts 3 n cap ad W (Or.inr (Or.inr ⟨rfl, hn⟩))
  by_cases h1 : k = 1
  · subst h1
    rw [objC_1]
    by_cases hn : n = 1
    · rw [if_pos hn]
      subst hn
      obtain ⟨B, off, rfl, hB, p0, p1, p2⟩ := pts_at0 h (by omega)
      exact rcheck_1 _ _ B off cap W p0 p1
    · rw [if_neg hn]
      exact rcheck_verts 1 n cap ad W (Or.inl ⟨rfl, hn⟩)
  by_cases h2 : k = 2
  · subst h2
    rw [objC_2]
    by_cases hn : n = 1
    · rw [if_pos hn]
      subst hn
      obtain ⟨B, off, rfl, hB, p0, p1, p2⟩ := pts_at0 h (by omega)
      exact rcheck_2 _ _ B off cap W p0 p1
    · rw [if_neg hn]
      exact rcheck_verts 2 n cap ad W (Or.inr (Or.inl ⟨rfl, hn⟩))
  rw [objC_x h4 h3 h1 h2]
  exact rcheck_kind k n cap ad W h4 h3 h1 h2
end Go.Proofs.YtfobmlgpjhghdaaGreatDoor
namespace Go.Proofs.YtfobmlgpjhghdaaGreatDoor
set_option linter.unusedVariables false
set_option linter.unusedSimpArgs false
open Go.ChangeShapes Go.WideShapes Go.ChangeAt Go.RowKit
def qC (k lx ly hx hy : Int) (n : Nat) (X Y : Nat → Int) : Nat :=
  if k = 1 ∨ k = 2 then boxN lx ly hx hy else if k = 3 then (if nearB lx ly = true then 0 else 2) else if k = 4 then (Rg.ringC n X Y).1 else 5
abbrev queryS : ByteArray := ⟨#[113, 117, 101, 114, 121]⟩
abbrev qryV (k lx ly hx hy : Int) (v : Value) : Value := .agg #[.int .i64 k, .int .i64 lx, .int .i64 ly, .int .i64 hx, .int .i64 hy, v]
set_option maxHeartbeats 2000000 in
set_option maxRecDepth 100000 in
theorem c_qRefusal {n : Nat} {X Y : Nat → Int} {v : Value} (k lx ly hx hy : Int) (W : World) (h : Pts W v n X Y) :
    Calls Tryz.prog 66 #[qryV k lx ly hx hy v] W (ObjTo W (qC k lx ly hx hy n X Y)) := by
  have A1 := fun w => c_CheckBox lx ly hx hy w
  have A2 := fun w => c_CheckPoint lx ly w
  have A3 : ∀ w, Gr W w → Calls Tryz.prog 52 #[v] w fun e w' => ∃ f, e = .returned f ∧ AErr ringS w' f (Rg.ringC n X Y).2 (Rg.ringC n X Y).1 ∧ Gr w w' := fun w g => c_ringCheck w (pts_gr h g)
  obtain ⟨ad, cap, B, off, rfl, _⟩ := h
  unfold qC
  generalize (Rg.ringC n X Y).1 = c at A3 ⊢
  generalize (Rg.ringC n X Y).2 = id at A3
  by_cases k12 : k = 1 ∨ k = 2
  · rw [if_pos k12]
    have E := fun w => boxN_err w lx ly hx hy
    obtain ⟨u, hu⟩ : ∃ u, u = boxErr lx ly hx hy := ⟨_, rfl⟩
    rw [← hu] at A1 E
    generalize boxN lx ly hx hy = c at E ⊢
    have H1 := Lib.hid A1
    clear A1
    have HE := Lib.hid E
    clear hu E A2 A3
    rcases k12 with rfl | rfl
    all_goals
      go_enter Tryz.func66, Tryz.ntmps66
      go_wp2_with fail
      go_at_call 96
      refine ((H1.out _)).mono ?_
      rintro e w1 ⟨rfl, hw1⟩
      have gw1 : Gr W w1 := Gr.trans (by go_grown) hw1
      clear hw1
      go_wp2_with fail
      go_ret
      exact ⟨_, rfl, HE.out _, gw1⟩
  rw [if_neg k12]
  have b1 : (k == 1) = false := by simp; omega
  have b2 : (k == 2) = false := by simp; omega
  by_cases k3 : k = 3
  · rw [if_pos k3]
    subst k3
    have E : ∀ w, OErr w (if nearB lx ly = true then .nilIface else .iface 66 (.int .i64 2)) (if nearB lx ly = true then 0 else 2) := fun w => by
      cases nearB lx ly
      · exact errno_one w 2 (by omega)
      · exact Or.inl ⟨rfl, rfl⟩
    generalize (if nearB lx ly = true then Value.nilIface else .iface 66 (.int .i64 2)) = u at A2 E
    generalize (if nearB lx ly = true then 0 else 2) = c at E ⊢
    have H2 := Lib.hid A2
    clear A2
    have HE := Lib.hid E
    clear E A1 A3 k12
    go_enter Tryz.func66, Tryz.ntmps66
    go_wp2_with fail
    go_at_call 45
    refine ((H2.out _)).mono ?_
    rintro e w1 ⟨rfl, hw1⟩
    have gw1 : Gr W w1 := Gr.trans (by go_grown) hw1
    clear hw1
    go_wp2_with fail
    go_ret
    exact ⟨_, rfl, HE.out _, gw1⟩
  rw [if_neg k3]
  have b3 : (k == 3) = false := by simp; omega
  by_cases k4 : k = 4
  · rw [if_pos k4]
    subst k4
    have H3 := Lib.hid A3
    clear A3
    clear A1 A2 k12 k3
    go_enter Tryz.func66, Tryz.ntmps66
    go_wp2_with fail
    go_at_call 52
    refine (H3.out _ (by go_grown)).mono ?_
    rintro e w1 ⟨x, rfl, hx, g1⟩
    have HX := Lib.hid hx
    clear hx
    go_wp2_with fail
    go_ret
    exact ⟨_, rfl, oerr_aerr HX.out, Gr.trans (by go_grown) g1⟩
  rw [if_neg k4]
  have b4 : (k == 4) = false := by simp; omega
  have HE := Lib.hid (fun w => errno_one w 5 (by omega))
  clear A1 A2 A3 k12 k3 k4
  go_enter Tryz.func66, Tryz.ntmps66
  go_wp2_with fail
  go_ret
  exact ⟨_, rfl, HE.out _, by go_grown⟩
set_option maxHeartbeats 2000000 in
set_option maxRecDepth 100000 in
theorem c_CheckQuery {n : Nat} {X Y : Nat → Int} {v : Value} (k lx ly hx hy : Int) (W : World) (h : Pts W v n X Y) :
    Calls Tryz.prog 40 #[qryV k lx ly hx hy v] W (WrTo queryS W k (qC k lx ly hx hy n X Y)) := by
  have A1 : ∀ w, Gr W w → Calls Tryz.prog 66 #[qryV k lx ly hx hy v] w fun e w' => ∃ u, e = .returned u ∧ OErr w' u (qC k lx ly hx hy n X Y) ∧ Gr w w' := fun w g => c_qRefusal k lx ly hx hy w (pts_gr h g)
  generalize qC k lx ly hx hy n X Y = c at A1 ⊢
  have A2 : ∀ (w : World) (u : Value), OErr w u c → Calls Tryz.prog 59 #[.string queryS, .int .i64 k, u] w fun e w' => ∃ x, e = .returned x ∧ WErr queryS w' x k c ∧ Gr w w' := fun w u hu => c_told queryS k u c w hu
  obtain ⟨ad, cap, B, off, rfl, _⟩ := h
  have H1 := Lib.hid A1
  have H2 := Lib.hid A2
  clear A1 A2
  go_enter Tryz.func40, Tryz.ntmps40
  go_wp2_with fail
  try simp only [List.append]
  refine Od.wp_region_ord [(0, false), (1, false), (2, false), (3, true), (4, true), (5, false)] (by kernel_rfl) (by kernel_rfl) ?_
  intro w0 hw0 KQ hKQ
  have cw0_0_0 := ci hw0 (W.heap.size) 0 k (by go_simp)
  have cw0_0_1 := ci hw0 (W.heap.size) 1 lx (by go_simp)
  have cw0_0_2 := ci hw0 (W.heap.size) 2 ly (by go_simp)
  have cw0_0_3 := ci hw0 (W.heap.size) 3 hx (by go_simp)
  have cw0_0_4 := ci hw0 (W.heap.size) 4 hy (by go_simp)
  have cw0_0_5 := cg hw0 (W.heap.size) 5 (.slice ad n cap) (by go_simp)
  have gw0 : Gr W w0 := Gr.trans (by go_grown) hw0
  skip
  clear hw0
  repeat (first | (refine Od.wpO_skip (by simp only [List.getElem?_toArray, List.getElem?_cons_succ, List.getElem?_cons_zero] <;> rfl) rfl ?_; simp only [Act.put, List.setIfInBounds_toArray, List.set_cons_zero, List.set_cons_succ]) | (refine Od.wpO_pure (by simp only [List.getElem?_toArray, List.getElem?_cons_succ, List.getElem?_cons_zero] <;> rfl) rfl ?_; apply Exists.intro; refine ⟨?_, ?_⟩; (· intro wx gx; obtain ⟨mx, rfl⟩ := spread_of_gr gx; clear gx; all_goals (apply Od.pAt_of_quiet; intro K hK; go_big_quiet_op; first | exact hK _ rfl | (apply Exists.intro; refine ⟨fun _ => ?_, ?_⟩; (· fail); exact hK _ rfl))); try simp only [Act.put, List.setIfInBounds_toArray, List.set_cons_zero, List.set_cons_succ]))
  refine Od.wpO_call (by simp only [List.getElem?_toArray, List.getElem?_cons_succ, List.getElem?_cons_zero] <;> rfl) rfl ?_
  intro QS hQS
  go_wp2_with fail
  go_at_call 66
  (with_reducible refine ((H1.out _ gw0)).mono ?_)
  rintro e w1 ⟨u, rfl, hu, hw1⟩
  go_wp2_with fail
  apply Exists.intro
  refine ⟨?_, hw1, ?_⟩
  · simp only [Act.put, List.setIfInBounds_toArray, List.set_cons_zero, List.set_cons_succ]; rfl
  have gw1 : Gr W w1 := Gr.trans (by have gg := gw0; have gs := gg.size; go_grown) hw1
  clear gw0 cw0_0_0 cw0_0_1 cw0_0_2 cw0_0_3 cw0_0_4 cw0_0_5
  clear hw1
  try simp only [Act.put, List.setIfInBounds_toArray, List.set_cons_zero, List.set_cons_succ]
  repeat (first | (refine Od.wpO_skip (by simp only [List.getElem?_toArray, List.getElem?_cons_succ, List.getElem?_cons_zero] <;> rfl) rfl ?_; simp only [Act.put, List.setIfInBounds_toArray, List.set_cons_zero, List.set_cons_succ]) | (refine Od.wpO_pure (by simp only [List.getElem?_toArray, List.getElem?_cons_succ, List.getElem?_cons_zero] <;> rfl) rfl ?_; apply Exists.intro; refine ⟨?_, ?_⟩; (· intro wx gx; obtain ⟨mx, rfl⟩ := spread_of_gr gx; clear gx; all_goals (apply Od.pAt_of_quiet; intro K hK; go_big_quiet_op; first | exact hK _ rfl | (apply Exists.intro; refine ⟨fun _ => ?_, ?_⟩; (· fail); exact hK _ rfl))); try simp only [Act.put, List.setIfInBounds_toArray, List.set_cons_zero, List.set_cons_succ]))
  refine Od.wpO_call (by simp only [List.getElem?_toArray, List.getElem?_cons_succ, List.getElem?_cons_zero] <;> rfl) rfl ?_
  intro QS hQS
  go_wp2_with fail
  go_at_call 59
  (with_reducible refine ((H2.out _ _ hu)).mono ?_)
  rintro e w2 ⟨x, rfl, hz, hw2⟩
  go_wp2_with fail
  apply Exists.intro
  refine ⟨?_, hw2, ?_⟩
  · simp only [Act.put, List.setIfInBounds_toArray, List.set_cons_zero, List.set_cons_succ]; rfl
  have gw2 : Gr W w2 := Gr.trans (by have gg := gw1; have gs := gg.size; go_grown) hw2
  clear gw1
  clear hw2
  try simp only [Act.put, List.setIfInBounds_toArray, List.set_cons_zero, List.set_cons_succ]
  repeat (first | (refine Od.wpO_skip (by simp only [List.getElem?_toArray, List.getElem?_cons_succ, List.getElem?_cons_zero] <;> rfl) rfl ?_; simp only [Act.put, List.setIfInBounds_toArray, List.set_cons_zero, List.set_cons_succ]) | (refine Od.wpO_pure (by simp only [List.getElem?_toArray, List.getElem?_cons_succ, List.getElem?_cons_zero] <;> rfl) rfl ?_; apply Exists.intro; refine ⟨?_, ?_⟩; (· intro wx gx; obtain ⟨mx, rfl⟩ := spread_of_gr gx; clear gx; all_goals (apply Od.pAt_of_quiet; intro K hK; go_big_quiet_op; first | exact hK _ rfl | (apply Exists.intro; refine ⟨fun _ => ?_, ?_⟩; (· fail); exact hK _ rfl))); try simp only [Act.put, List.setIfInBounds_toArray, List.set_cons_zero, List.set_cons_succ]))
  refine Od.wpO_nil (hKQ _ _ ?_)
  clear hKQ KQ
  have HX := Lib.hid hz
  clear hz
  go_wp2_with fail
  go_ret
  exact ⟨_, rfl, HX.out, gw2⟩
end Go.Proofs.YtfobmlgpjhghdaaGreatDoor
namespace Go.Proofs.YtfobmlgpjhghdaaGreatDoor
set_option linter.unusedVariables false
open Go.ChangeShapes Go.WideShapes Go.ChangeAt Go.RowKit
def mnN (F : Nat → Int) : Nat → Int
  | 0 => 0
  | n + 1 => if n = 0 then F n else minZ (mnN F n) (F n)
def mxN (F : Nat → Int) : Nat → Int
  | 0 => 0
  | n + 1 => if n = 0 then F n else maxZ (mxN F n) (F n)
theorem mnN_0 (F : Nat → Int) {n : Nat} (h : n = 0) : mnN F (n + 1) = F n := by unfold mnN; rw [if_pos h]
theorem mnN_s (F : Nat → Int) {n : Nat} (h : ¬ n = 0) : mnN F (n + 1) = minZ (mnN F n) (F n) := by conv => lhs; unfold mnN; rw [if_neg h]
theorem mxN_0 (F : Nat → Int) {n : Nat} (h : n = 0) : mxN F (n + 1) = F n := by unfold mxN; rw [if_pos h]
theorem mxN_s (F : Nat → Int) {n : Nat} (h : ¬ n = 0) : mxN F (n + 1) = maxZ (mxN F n) (F n) := by conv => lhs; unfold mxN; rw [if_neg h]
set_option maxHeartbeats 4000000 in
set_option maxRecDepth 100000 in
theorem c_AroundN {n : Nat} {X Y : Nat → Int} {v : Value} (W : World) (h : Pts W v n X Y) (hn : n ≤ 1000000) :
    Calls Tryz.prog 62 #[v] W fun e w' => e = .returned (.agg #[.int .i64 (mnN X n), .int .i64 (mnN Y n), .int .i64 (mxN X n), .int .i64 (mxN Y n)]) ∧ Gr W w' := by
  obtain ⟨ad, cap, B, off, rfl, h1, h2, h3, h4⟩ := h
  have H3 := Lib.hid h3
  have H4 := Lib.hid h4
  have hn9 : (n : Int) ≤ 1000000 := by omega
  clear h3 h4
  go_enter Tryz.func62, Tryz.ntmps62
  go_wp2_with fail
  go_loopg [10] n (fun k u wr => ∃ i : Nat, u = .int .i64 i ∧ i ≤ n ∧ k = n - i ∧
    wr.cell? ⟨W.heap.size, 0, none⟩ = some (.int .i64 0) ∧ wr.cell? ⟨W.heap.size, 1, none⟩ = some (.int .i64 0) ∧ wr.cell? ⟨W.heap.size, 2, none⟩ = some (.int .i64 0) ∧ wr.cell? ⟨W.heap.size, 3, none⟩ = some (.int .i64 0) ∧
    wr.frozen? ⟨W.heap.size, 0, none⟩ = false ∧ wr.frozen? ⟨W.heap.size, 1, none⟩ = false ∧ wr.frozen? ⟨W.heap.size, 2, none⟩ = false ∧ wr.frozen? ⟨W.heap.size, 3, none⟩ = false ∧
    wr.cell? ⟨W.heap.size + 1, 0, none⟩ = some (.int .i64 (mnN X i)) ∧ wr.cell? ⟨W.heap.size + 1, 1, none⟩ = some (.int .i64 (mnN Y i)) ∧ wr.cell? ⟨W.heap.size + 1, 2, none⟩ = some (.int .i64 (mxN X i)) ∧ wr.cell? ⟨W.heap.size + 1, 3, none⟩ = some (.int .i64 (mxN Y i)) ∧
    wr.frozen? ⟨W.heap.size + 1, 0, none⟩ = false ∧ wr.frozen? ⟨W.heap.size + 1, 1, none⟩ = false ∧ wr.frozen? ⟨W.heap.size + 1, 2, none⟩ = false ∧ wr.frozen? ⟨W.heap.size + 1, 3, none⟩ = false ∧ Gr W wr)
  case atStart => exact ⟨0, rfl, Nat.zero_le _, by omega, by go_simp, by go_simp, by go_simp, by go_simp, by go_simp, by go_simp, by go_simp, by go_simp, (show _ = some (Value.int .i64 0) by go_simp), (show _ = some (Value.int .i64 0) by go_simp), (show _ = some (Value.int .i64 0) by go_simp), (show _ = some (Value.int .i64 0) by go_simp), by go_simp, by go_simp, by go_simp, by go_simp, by go_grown⟩
  case round =>
    obtain ⟨i, rfl, hi, hk, c0, c1, c2, c3, f0, f1, f2, f3, a0, a1, a2, a3, g0, g1, g2, g3, gwr⟩ := hrel
    have zwr0 := zb c0
    have zwr := zb a0
    by_cases hlt : i < n
    · have ti : decide ((i : Int) < (n : Int)) = true := decide_eq_true (by omega)
      have ti2 : decide (i < n) = true := decide_eq_true hlt
      have ti3 : (i : Int) < (n : Int) := by omega
      have hii : (i : Int) ≤ 1000000 := by omega
      have hmm : n - (i + 1) < gk := by omega
      obtain ⟨k0, k1⟩ := H4.out i hlt
      obtain rfl := H3.out (by omega)
      have s0 := cell_gr gwr k0
      have s1 := cell_gr gwr k1
      have zB := zb k0
      have nB1 : ¬ B = W.heap.size + 1 := by omega
      have nB2 : ¬ W.heap.size + 1 = B := by omega
      have nB3 : ¬ B = W.heap.size := by omega
      have nB4 : ¬ W.heap.size = B := by omega
      have CJ := Lib.hid (c_join_self (X i) (Y i) (X i) (Y i))
      have CK := Lib.hid (c_join (mnN X i) (mnN Y i) (mxN X i) (mxN Y i) (X i) (Y i) (X i) (Y i))
      by_cases c : i = 0
      · have E := Lib.hid (And.intro (mnN_0 X c) (And.intro (mnN_0 Y c) (And.intro (mxN_0 X c) (mxN_0 Y c))))
        have u1 : ((i : Int) == 0) = true := by simp; omega
        have u2 : (i == 0) = true := by simp; omega
        generalize mnN X i = a at a0 CK
        generalize mnN Y i = b at a1 CK
        generalize mxN X i = d at a2 CK
        generalize mxN Y i = e at a3 CK
        generalize X i = x at *
        generalize Y i = y at *
        clear hk k0 k1 c CK
        go_wp2_with fail
        go_at_call 101
        refine ((CJ.out _)).mono ?_
        rintro e w1 ⟨rfl, hw1⟩
        have cw1_0_0 := ci hw1 (W.heap.size) 0 0 (by go_simp)
        have fw1_0_0 := fq hw1 (W.heap.size) 0 (.int .i64 0) (by go_simp) (by go_simp)
        have cw1_0_1 := ci hw1 (W.heap.size) 1 0 (by go_simp)
        have fw1_0_1 := fq hw1 (W.heap.size) 1 (.int .i64 0) (by go_simp) (by go_simp)
        have cw1_0_2 := ci hw1 (W.heap.size) 2 0 (by go_simp)
        have fw1_0_2 := fq hw1 (W.heap.size) 2 (.int .i64 0) (by go_simp) (by go_simp)
        have cw1_0_3 := ci hw1 (W.heap.size) 3 0 (by go_simp)
        have fw1_0_3 := fq hw1 (W.heap.size) 3 (.int .i64 0) (by go_simp) (by go_simp)
        have cw1_1_0 := ci hw1 (W.heap.size + 1) 0 x (by go_simp)
        have fw1_1_0 := fq hw1 (W.heap.size + 1) 0 (.int .i64 x) (by go_simp) (by go_simp)
        have cw1_1_1 := ci hw1 (W.heap.size + 1) 1 y (by go_simp)
        have fw1_1_1 := fq hw1 (W.heap.size + 1) 1 (.int .i64 y) (by go_simp) (by go_simp)
        have cw1_1_2 := ci hw1 (W.heap.size + 1) 2 x (by go_simp)
        have fw1_1_2 := fq hw1 (W.heap.size + 1) 2 (.int .i64 x) (by go_simp) (by go_simp)
        have cw1_1_3 := ci hw1 (W.heap.size + 1) 3 y (by go_simp)
        have fw1_1_3 := fq hw1 (W.heap.size + 1) 3 (.int .i64 y) (by go_simp) (by go_simp)
        have gw1 : Gr W w1 := Gr.trans (by have gg := gwr; have gs := gg.size; go_grown) hw1
        clear hw1 gwr
        go_wp2_with fail
        go_roundg (n - (i + 1))
        case measure => exact hmm
        case rel =>
          refine ⟨i + 1, by go_num, hlt, rfl, by go_simp, by go_simp, by go_simp, by go_simp, by go_simp, by go_simp, by go_simp, by go_simp, ?_, ?_, ?_, ?_, by go_simp, by go_simp, by go_simp, by go_simp, by have gg := gw1; have gs := gg.size; go_grown⟩
          · rw [E.out.1]; go_simp
          · rw [E.out.2.1]; go_simp
          · rw [E.out.2.2.1]; go_simp
          · rw [E.out.2.2.2]; go_simp
      · have E := Lib.hid (And.intro (mnN_s X c) (And.intro (mnN_s Y c) (And.intro (mxN_s X c) (mxN_s Y c))))
        have u1 : ((i : Int) == 0) = false := by simp; omega
        have u2 : (i == 0) = false := by simp; omega
        generalize mnN X i = a at a0 CK E
        generalize mnN Y i = b at a1 CK E
        generalize mxN X i = d at a2 CK E
        generalize mxN Y i = e at a3 CK E
        generalize X i = x at *
        generalize Y i = y at *
        generalize minZ a x = m1 at *
        generalize minZ b y = m2 at *
        generalize maxZ d x = m3 at *
        generalize maxZ e y = m4 at *
        clear hk k0 k1 c CJ
        go_wp2_with fail
        go_at_call 101
        refine ((CK.out _)).mono ?_
        rintro e w1 ⟨rfl, hw1⟩
        have cw1_0_0 := ci hw1 (W.heap.size) 0 0 (by go_simp)
        have fw1_0_0 := fq hw1 (W.heap.size) 0 (.int .i64 0) (by go_simp) (by go_simp)
        have cw1_0_1 := ci hw1 (W.heap.size) 1 0 (by go_simp)
        have fw1_0_1 := fq hw1 (W.heap.size) 1 (.int .i64 0) (by go_simp) (by go_simp)
        have cw1_0_2 := ci hw1 (W.heap.size) 2 0 (by go_simp)
        have fw1_0_2 := fq hw1 (W.heap.size) 2 (.int .i64 0) (by go_simp) (by go_simp)
        have cw1_0_3 := ci hw1 (W.heap.size) 3 0 (by go_simp)
        have fw1_0_3 := fq hw1 (W.heap.size) 3 (.int .i64 0) (by go_simp) (by go_simp)
        have cw1_1_0 := ci hw1 (W.heap.size + 1) 0 a (by go_simp)
        have fw1_1_0 := fq hw1 (W.heap.size + 1) 0 (.int .i64 a) (by go_simp) (by go_simp)
        have cw1_1_1 := ci hw1 (W.heap.size + 1) 1 b (by go_simp)
        have fw1_1_1 := fq hw1 (W.heap.size + 1) 1 (.int .i64 b) (by go_simp) (by go_simp)
        have cw1_1_2 := ci hw1 (W.heap.size + 1) 2 d (by go_simp)
        have fw1_1_2 := fq hw1 (W.heap.size + 1) 2 (.int .i64 d) (by go_simp) (by go_simp)
        have cw1_1_3 := ci hw1 (W.heap.size + 1) 3 e (by go_simp)
        have fw1_1_3 := fq hw1 (W.heap.size + 1) 3 (.int .i64 e) (by go_simp) (by go_simp)
        have gw1 : Gr W w1 := Gr.trans (by have gg := gwr; have gs := gg.size; go_grown) hw1
        clear hw1 gwr
        go_wp2_with fail
        go_roundg (n - (i + 1))
        case measure => exact hmm
        case rel =>
          refine ⟨i + 1, by go_num, hlt, rfl, by go_simp, by go_simp, by go_simp, by go_simp, by go_simp, by go_simp, by go_simp, by go_simp, ?_, ?_, ?_, ?_, by go_simp, by go_simp, by go_simp, by go_simp, by have gg := gw1; have gs := gg.size; go_grown⟩
          · rw [E.out.1]; go_simp
          · rw [E.out.2.1]; go_simp
          · rw [E.out.2.2.1]; go_simp
          · rw [E.out.2.2.2]; go_simp
    · obtain rfl : i = n := by omega
      have ti : decide ((i : Int) < (i : Int)) = false := decide_eq_false (by omega)
      have ti2 : decide (i < i) = false := decide_eq_false (by omega)
      clear hk
      go_wp2_with fail
      refine bodyPost_ret (v := .agg #[.int .i64 (mnN X i), .int .i64 (mnN Y i), .int .i64 (mxN X i), .int .i64 (mxN Y i)]) (by simp [results, Tryz.results62, go_sem, *]) rfl ⟨rfl, by have gg := gwr; have gs := gg.size; go_grown⟩
end Go.Proofs.YtfobmlgpjhghdaaGreatDoor
namespace Go.Proofs.YtfobmlgpjhghdaaGreatDoor
set_option linter.unusedVariables false
open Go.ChangeShapes Go.WideShapes Go.ChangeAt Go.RowKit
def ovB (lx ly hx hy ax ay bx by' : Int) : Bool := decide (minZ ax bx ≤ hx) && decide (lx ≤ maxZ ax bx) && decide (minZ ay by' ≤ hy) && decide (ly ≤ maxZ ay by')
theorem ovB_iff {lx ly hx hy ax ay bx by' : Int} : ovB lx ly hx hy ax ay bx by' = true ↔ ovP lx ly hx hy ax ay bx by' := by
  unfold ovB ovP
  simp only [Bool.and_eq_true, decide_eq_true_eq, min_le', le_max, and_assoc]
theorem inB_P {lx ly hx hy px py : Int} : inB lx ly hx hy px py = true ↔ inP lx ly hx hy px py := by
  rw [inB_iff]; rfl
def mbF (ax ay bx by' lx ly hx hy : Int) : Bool := ovB lx ly hx hy ax ay bx by' && (inB lx ly hx hy ax ay || inB lx ly hx hy bx by' || diF lx ly hx hy ax ay bx by')
def mbG (ax ay bx by' lx ly hx hy : Int) : Bool := nearB ax ay && nearB bx by' && boxB lx ly hx hy && mbF ax ay bx by' lx ly hx hy
set_option maxHeartbeats 4000000 in
set_option maxRecDepth 100000 in
theorem gmb_no (ax ay bx by' lx ly hx hy k : Int) (q : Bool) (ev : Value) (W : World) (hc : q = false ∨ (q = true ∧ ev = .iface 66 (.int .i64 k)))
    (A1 : ∀ b w, b < w.heap.size → w.cell? ⟨b, 0, none⟩ = some (.int .i64 ax) → w.cell? ⟨b, 1, none⟩ = some (.int .i64 ay) → w.cell? ⟨b, 2, none⟩ = some (.int .i64 bx) → w.cell? ⟨b, 3, none⟩ = some (.int .i64 by') →
      Calls Tryz.prog 116 #[.slice (some ⟨b, 0, none⟩) 2 2] w fun e w' => e = .returned (.bool q) ∧ Gr w w')
    (A2 : ∀ w, Calls Tryz.prog 96 #[.agg #[.int .i64 lx, .int .i64 ly, .int .i64 hx, .int .i64 hy]] w fun e w' => e = .returned (ev) ∧ Gr w w') :
    Calls Tryz.prog 88 #[.agg #[.int .i64 ax, .int .i64 ay], .agg #[.int .i64 bx, .int .i64 by'], .agg #[.int .i64 lx, .int .i64 ly, .int .i64 hx, .int .i64 hy]] W fun e w' => e = .returned (.bool false) ∧ Gr W w' := by
  have H1 := Lib.hid A1
  have H2 := Lib.hid A2
  clear A1 A2
  rcases hc with rfl | ⟨rfl, rfl⟩
  · go_enter Tryz.func88, Tryz.ntmps88
    go_wp2_with fail
    go_at_call 116
    refine ((H1.out _ _ (by go_simp) (by go_simp) (by go_simp) (by go_simp) (by go_simp))).mono ?_
    rintro e w1 ⟨rfl, hw1⟩
    have cw1_2_0 := ci hw1 (W.heap.size + 1 + 1) 0 lx (by go_simp)
    have cw1_2_1 := ci hw1 (W.heap.size + 1 + 1) 1 ly (by go_simp)
    have cw1_2_2 := ci hw1 (W.heap.size + 1 + 1) 2 hx (by go_simp)
    have cw1_2_3 := ci hw1 (W.heap.size + 1 + 1) 3 hy (by go_simp)
    have gw1 : Gr W w1 := Gr.trans (by go_grown) hw1
    clear hw1
    go_wp2_with fail
    go_ret
    exact ⟨rfl, by go_grown⟩
  · go_enter Tryz.func88, Tryz.ntmps88
    go_wp2_with fail
    go_at_call 116
    refine ((H1.out _ _ (by go_simp) (by go_simp) (by go_simp) (by go_simp) (by go_simp))).mono ?_
    rintro e w1 ⟨rfl, hw1⟩
    have cw1_2_0 := ci hw1 (W.heap.size + 1 + 1) 0 lx (by go_simp)
    have cw1_2_1 := ci hw1 (W.heap.size + 1 + 1) 1 ly (by go_simp)
    have cw1_2_2 := ci hw1 (W.heap.size + 1 + 1) 2 hx (by go_simp)
    have cw1_2_3 := ci hw1 (W.heap.size + 1 + 1) 3 hy (by go_simp)
    have gw1 : Gr W w1 := Gr.trans (by go_grown) hw1
    clear hw1
    go_wp2_with fail
    go_at_call 96
    refine ((H2.out _)).mono ?_
    rintro e w2 ⟨rfl, hw2⟩
    have gw2 : Gr W w2 := Gr.trans (by have gg := gw1; have gs := gg.size; go_grown) hw2
    clear hw2 gw1 cw1_2_0 cw1_2_1 cw1_2_2 cw1_2_3
    go_wp2_with fail
    go_ret
    exact ⟨rfl, by go_grown⟩
theorem c_gMeetsBox (ax ay bx by' lx ly hx hy : Int) (W : World) : Calls Tryz.prog 88 #[.agg #[.int .i64 ax, .int .i64 ay], .agg #[.int .i64 bx, .int .i64 by'], .agg #[.int .i64 lx, .int .i64 ly, .int .i64 hx, .int .i64 hy]] W fun e w' => e = .returned (.bool (mbG ax ay bx by' lx ly hx hy)) ∧ Gr W w' := by
  have A1 := fun b w => c_gMayBe2 ax ay bx by' _ rfl b w
  have A2 := c_CheckBox lx ly hx hy
  unfold mbG
  cases hq : (nearB ax ay && nearB bx by')
  · rw [hq] at A1
    rw [Bool.false_and, Bool.false_and]
    exact gmb_no ax ay bx by' lx ly hx hy 0 false _ W (Or.inl rfl) A1 A2
  · rw [hq] at A1
    cases hb : boxB lx ly hx hy
    · obtain ⟨k, hk⟩ := boxErr_false hb
      rw [Bool.and_false, Bool.false_and]
      exact gmb_no ax ay bx by' lx ly hx hy k true _ W (Or.inr ⟨rfl, hk⟩) A1 A2
    · rw [boxErr_true hb] at A2
      have hn : nearB ax ay = true ∧ nearB bx by' = true := by simpa using hq
      have ha : boxB ax ay ax ay = true := by rw [boxB_iff]; exact ⟨⟨hn.1, hn.1⟩, by omega, by omega⟩
      have hb2 : boxB bx by' bx by' = true := by rw [boxB_iff]; exact ⟨⟨hn.2, hn.2⟩, by omega, by omega⟩
      have hj := box_join ha hb2
      have hbn := (boxB_iff.1 hb).1
      have A3 := fun b w => c_Around2 ax ay bx by' b w
      have A4 := c_Meets (minZ ax bx) (minZ ay by') (maxZ ax bx) (maxZ ay by') lx ly hx hy
      rw [hj, hb] at A4
      have A5 := c_Has lx ly hx hy ax ay
      have A6 := c_Has lx ly hx hy bx by'
      rw [hb, hn.1] at A5
      rw [hb, hn.2] at A6
      simp only [Bool.true_and] at A4 A5 A6
      have A7 := c_gMeet ax ay bx by' lx ly hx hy
      have A8 := c_gMeet ax ay bx by' lx hy hx ly
      have g1 : nearB lx hy = true := by
        have n1 := nearB_iff.1 hbn.1
        have n2 := nearB_iff.1 hbn.2
        rw [nearB_iff]; omega
      have g2 : nearB hx ly = true := by
        have n1 := nearB_iff.1 hbn.1
        have n2 := nearB_iff.1 hbn.2
        rw [nearB_iff]; omega
      rw [show meG ax ay bx by' lx ly hx hy = meF ax ay bx by' lx ly hx hy by unfold meG all4; rw [hn.1, hn.2, hbn.1, hbn.2]; rfl] at A7
      rw [show meG ax ay bx by' lx hy hx ly = meF ax ay bx by' lx hy hx ly by unfold meG all4; rw [hn.1, hn.2, g1, g2]; rfl] at A8
      simp only [Bool.true_and]
      refine gmb_in ax ay bx by' lx ly hx hy _ _ _ _ _ _ _ _ _ _ _ W ?_ rfl A1 A2 A3 A4 A5 A6 A7 A8
      unfold mbF ovB diF
      generalize (decide (minZ ax bx ≤ hx) && decide (lx ≤ maxZ ax bx) && decide (minZ ay by' ≤ hy) && decide (ly ≤ maxZ ay by')) = m
      generalize inB lx ly hx hy ax ay = h1
      generalize inB lx ly hx hy bx by' = h2
      generalize meF ax ay bx by' lx ly hx hy = k1
      generalize meF ax ay bx by' lx hy hx ly = k2
      cases m <;> cases h1 <;> cases h2 <;> cases k1 <;> simp
end Go.Proofs.YtfobmlgpjhghdaaGreatDoor
namespace Go.Proofs.YtfobmlgpjhghdaaGreatDoor
set_option linter.unusedVariables false
open Go.ChangeShapes Go.WideShapes Go.ChangeAt Go.RowKit Go.Shelf
attribute [local go_sem] Oper.semAt_some
def Box4 (W : World) (B : Nat) (x y z u : Int) : Prop := W.heap[B]? = some (.cells #[.int .i64 x, .int .i64 y, .int .i64 z, .int .i64 u] 28 (0, 0))
theorem Box4.lt {W : World} {B : Nat} {x y z u : Int} (h : Box4 W B x y z u) : B < W.heap.size := (Array.getElem?_eq_some_iff.1 h).1
theorem Box4.cells {W : World} {B : Nat} {x y z u : Int} (h : Box4 W B x y z u) : W.cell? ⟨B, 0, none⟩ = some (.int .i64 x) ∧ W.cell? ⟨B, 1, none⟩ = some (.int .i64 y) ∧ W.cell? ⟨B, 2, none⟩ = some (.int .i64 z) ∧ W.cell? ⟨B, 3, none⟩ = some (.int .i64 u) := by
  refine ⟨?_, ?_, ?_, ?_⟩ <;> simp [World.cell?, show W.heap[B]? = _ from h]
theorem Box4.kept {W W' : World} {row : Option Nat} {B : Nat} {x y z u : Int} (h : Box4 W B x y z u) (hg : W.grownBy W' row) (hne : some B ≠ row) : Box4 W' B x y z u := (hg.block B h.lt hne).trans h
theorem Box4.new (W : World) (x y z u : Int) : Box4 (W.alloc (.cells #[.int .i64 x, .int .i64 y, .int .i64 z, .int .i64 u] 28)) W.heap.size x y z u := World.alloc_heap_new W _
theorem Box4.alloc {W : World} {B : Nat} {x y z u : Int} (h : Box4 W B x y z u) (o : Obj) : Box4 (W.alloc o) B x y z u := h.kept (World.grownBy_alloc W o none) (by simp)
theorem box4_notcells {W W' : World} {row : Option Nat} {B : Nat} {x y z u : Int} (h : Box4 W B x y z u) (hg : W.grownBy W' row) (hr : ∀ r, row = some r → ∃ o : Obj, W.heap[r]? = some o ∧ o.isCells = false) : Box4 W' B x y z u := by
  refine h.kept hg fun e => ?_
  obtain ⟨o, h1, h2⟩ := hr B e.symm
  rw [show W.heap[B]? = _ from h] at h1
  cases h1
  cases h2
theorem box4_own {β : Type} (B : Nat) (x y z u : Int) : Own (fun (_ : β) W => Box4 W B x y z u) := fun s X Y row hs hg hrow => box4_notcells hs hg hrow
def mbW (n : Nat) (X Y : Nat → Int) (lx ly hx hy : Int) (pre : List Nat) : Bool := pre.any fun k => mbG (X k) (Y k) (X (Rg.nx1 n k)) (Y (Rg.nx1 n k)) lx ly hx hy
theorem mbW_snoc (n : Nat) (X Y : Nat → Int) (lx ly hx hy : Int) (pre : List Nat) (k : Nat) : mbW n X Y lx ly hx hy (pre ++ [k]) = (mbW n X Y lx ly hx hy pre || mbG (X k) (Y k) (X (Rg.nx1 n k)) (Y (Rg.nx1 n k)) lx ly hx hy) := by
  unfold mbW; rw [List.any_append]; simp
theorem mbW_mono {n : Nat} {X Y : Nat → Int} {lx ly hx hy : Int} {k : Nat} (hk : k ≤ n) (h : mbW n X Y lx ly hx hy (List.range k) = true) : mbW n X Y lx ly hx hy (List.range n) = true := by
  unfold mbW at *
  rw [List.any_eq_true] at *
  obtain ⟨x, h1, h2⟩ := h
  exact ⟨x, List.mem_range.2 (by have := List.mem_range.1 h1; omega), h2⟩
def arM (n : Nat) (X Y : Nat → Int) (lx ly hx hy : Int) : Bool := boxB (mnN X n) (mnN Y n) (mxN X n) (mxN Y n) && boxB lx ly hx hy && decide (mnN X n ≤ hx) && decide (lx ≤ mxN X n) && decide (mnN Y n ≤ hy) && decide (ly ≤ mxN Y n)
set_option maxHeartbeats 8000000 in
set_option maxRecDepth 100000 in
theorem c_rmb {n : Nat} {X Y : Nat → Int} {v : Value} {lx ly hx hy : Int} (w : World) (h : Pts w v n X Y) (h0 : (Rg.ringC n X Y).1 = 0) (hm : arM n X Y lx ly hx hy = true) :
    Calls Tryz.prog 104 #[v, .agg #[.int .i64 lx, .int .i64 ly, .int .i64 hx, .int .i64 hy]] w fun e w' => e = .returned (.bool (mbW n X Y lx ly hx hy (List.range n) || (nearB lx ly && Rg.hasN n X Y lx ly))) ∧ Gr w w' := by
  have A1 := fun w' (g : Gr w w') => c_AroundN w' (pts_gr h g) (by have := (Rg.ringC_ok h0).1; omega)
  have A2 := fun w' => c_Meets (mnN X n) (mnN Y n) (mxN X n) (mxN Y n) lx ly hx hy w'
  have A3 := fun w' (g : Gr w w') => c_hs w h h0 lx ly w' g
  unfold arM at hm
  rw [hm] at A2
  have h1 : 1 ≤ n := by have := (Rg.ringC_ok h0).1; omega
  have hn : n ≤ 1000 := by have := (Rg.ringC_ok h0).1; omega
  generalize (nearB lx ly && Rg.hasN n X Y lx ly) = hz at A3 ⊢
  obtain ⟨ad, cap, B, off, rfl, q1, q2, q3, q4⟩ := h
  obtain rfl := q3 (by omega)
  have hB : B < w.heap.size := World.block_lt_of_cell? _ _ (q4 0 (by omega)).1
  have HC := Lib.hid q4
  have hmx : Tryz.prog.follows .mixedOrders = true := by kernel_rfl
  have H1 := Lib.hid A1
  have H2 := Lib.hid A2
  have H3 := Lib.hid A3
  clear A1 A2 A3
  clear q3 q4 hm h0
  refine (callsIn_wide (n := 10)).1 ?_
  refine callsIn_of_wp_marks Tryz.func104 rfl trivial ?_ rfl
  simp only [Tryz.ntmps104, List.size_toArray, List.length_cons, List.length_nil, Nat.reduceAdd, Nat.reduceSub, Array.replicate_succ, Array.replicate_zero, List.push_toArray, List.append_toArray, List.nil_append, List.cons_append]
  have n0 : 0 < n := by omega
  gi_wp2
  have bP : Box4 (w.alloc (.cells #[.int .i64 lx, .int .i64 ly, .int .i64 hx, .int .i64 hy] 28)) w.heap.size lx ly hx hy := Box4.new w lx ly hx hy
  have bR := Boxed.new (w.alloc (.cells #[.int .i64 lx, .int .i64 ly, .int .i64 hx, .int .i64 hy] 28)) 4 (.bool false)
  have bP0 := bP.alloc (.cells #[.bool false] 4)
  have hG0 : Gr w ((w.alloc (.cells #[.int .i64 lx, .int .i64 ly, .int .i64 hx, .int .i64 hy] 28)).alloc (.cells #[.bool false] 4)) := by go_grown
  have hsz : ((w.alloc (.cells #[.int .i64 lx, .int .i64 ly, .int .i64 hx, .int .i64 hy] 28)).alloc (.cells #[.bool false] 4)).heap.size = w.heap.size + 2 := by simp
  simp only [World.size_alloc] at bR
  obtain ⟨W1, hW1⟩ : ∃ W1, (w.alloc (.cells #[.int .i64 lx, .int .i64 ly, .int .i64 hx, .int .i64 hy] 28)).alloc (.cells #[.bool false] 4) = W1 := ⟨_, rfl⟩
  rw [hW1] at bP0 bR hG0 hsz ⊢
  clear hW1 bP
  obtain ⟨b0, b1, b2, b3⟩ := bP0.cells
  refine wpIn_mono (Q := Exit.then (fun a' W2 => a' = { tmps := #[.slice (some ⟨B, off, none⟩) n cap, .agg #[.int .i64 lx, .int .i64 ly, .int .i64 hx, .int .i64 hy], undef, .pointer (some ⟨w.heap.size, 0, none⟩), .pointer (some ⟨w.heap.size + 1, 0, none⟩), undef, undef, .slice (some ⟨B, off, none⟩) n cap, .agg #[.int .i64 (mnN X n), .int .i64 (mnN Y n), .int .i64 (mxN X n), .int .i64 (mxN Y n)], .agg #[.int .i64 lx, .int .i64 ly, .int .i64 hx, .int .i64 hy], .bool true, .bool false, undef, undef, undef, undef, undef, undef, undef, undef, undef, undef, undef, undef], defers := [] } ∧ Gr W1 W2) (fun _ _ _ => False)) ?_ ?_
  · generalize mnN X n = m1 at H1 H2 ⊢
    generalize mnN Y n = m2 at H1 H2 ⊢
    generalize mxN X n = m3 at H1 H2 ⊢
    generalize mxN Y n = m4 at H1 H2 ⊢
    gi_region_with_o (first
      | (refine ⟨trivial, ?_⟩; gi_at_call 62; (refine (callsIn_wide.2 (H1.out _ (Gr.trans hG0 (by go_grown)))).mono ?_); rintro e w' ⟨rfl, gx⟩; (have gy : Gr W1 w' := Gr.trans (by go_grown) gx); (have d0 := cell_gr gy b0); (have d1 := cell_gr gy b1); (have d2 := cell_gr gy b2); (have d3 := cell_gr gy b3); clear gx)
      | (gi_at_call 62; (refine (callsIn_wide.2 (H1.out _ (Gr.trans hG0 (by go_grown)))).mono ?_); rintro e w' ⟨rfl, gx⟩; (have gy : Gr W1 w' := Gr.trans (by go_grown) gx); (have d0 := cell_gr gy b0); (have d1 := cell_gr gy b1); (have d2 := cell_gr gy b2); (have d3 := cell_gr gy b3); clear gx)
      | (refine ⟨trivial, ?_⟩; gi_at_call 87; (refine (callsIn_wide.2 (H2.out _)).mono ?_); rintro e w'' ⟨rfl, gx⟩; (have gz : Gr W1 w'' := Gr.trans gy (Gr.trans (by go_grown) gx)); clear gx)
      | (gi_at_call 87; (refine (callsIn_wide.2 (H2.out _)).mono ?_); rintro e w'' ⟨rfl, gx⟩; (have gz : Gr W1 w'' := Gr.trans gy (Gr.trans (by go_grown) gx)); clear gx))
    all_goals exact ⟨rfl, Gr.trans gz (by go_grown)⟩
  intro e a' W2 hh
  cases e
  all_goals try exact False.elim hh
  obtain ⟨rfl, g2⟩ := hh
  dsimp only [Exit.then]
  have g2s := g2.size
  have bP2 : Box4 W2 w.heap.size lx ly hx hy := bP0.kept (gr_grown g2) (by simp)
  have bR2 : Boxed W2 (w.heap.size + 1) 4 (.bool false) := bR.kept (gr_grown g2) (by simp)
  have hG2 : Gr w W2 := Gr.trans hG0 g2
  clear b0 b1 b2 b3 bP0 bR hG0 g2
  gi_wp2_with (refine ⟨trivial, ?_⟩; gi_at_call 76; refine (callsIn_wide.2 (c_Edges _ _ _ _)).mono ?_; rintro e w' ⟨rfl, rfl⟩)
  have bE := Boxed.new W2 22 (.slice (some ⟨B, off, none⟩) n cap)
  have bP0 := bP2.alloc (.cells #[.slice (some ⟨B, off, none⟩) n cap] 22)
  have bR0 := bR2.alloc (.cells #[.slice (some ⟨B, off, none⟩) n cap] 22)
  have hG0 : Gr w (W2.alloc (.cells #[.slice (some ⟨B, off, none⟩) n cap] 22)) := Gr.trans hG2 (by go_grown)
  have hsz0 : (W2.alloc (.cells #[.slice (some ⟨B, off, none⟩) n cap] 22)).heap.size = W2.heap.size + 1 := by simp
  obtain ⟨W0, hW0⟩ : ∃ W0, W2.alloc (.cells #[.slice (some ⟨B, off, none⟩) n cap] 22) = W0 := ⟨_, rfl⟩
  rw [hW0] at bE bP0 bR0 hG0 hsz0 ⊢
  obtain ⟨q, hq⟩ : ∃ q, W2.heap.size = q := ⟨_, rfl⟩
  rw [hq] at bE hsz0 g2s ⊢
  clear hW0 bP2 bR2 hG2 hq H1 H2
  refine wpIn_rangeFunc_ownH rfl (by decide) (gf := 114) (lb := #[.pointer (some ⟨q, 0, none⟩)]) rfl trivial (enters_of Tryz.func114 (by kernel_rfl) rfl)
    (edges_stops (10 - 1) (by decide) q B off n cap X Y hn h1 W0 bE.cell q1 q2 (fun k hk => ⟨cell_gr hG0 (HC.out k hk).1, cell_gr hG0 (HC.out k hk).2⟩)) KK.trans (kk_put (by omega) (by omega)) (Below.refl _ _) (fun _ => rfl)
    (fun pre W => (Boxed W (w.heap.size + 1) 4 (.bool false)) ∧ ((Box4 W w.heap.size lx ly hx hy ∧ mbW n X Y lx ly hx hy pre = false) ∧ (q + 1 ≤ W.heap.size ∧ Below w.heap.size w W)))
    (fun c pre W => (c = .ret ∧ mbW n X Y lx ly hx hy pre = true) ∧ (Boxed W (w.heap.size + 1) 4 (.bool true) ∧ Below w.heap.size w W))
    (OwnFrom.and (Own.from (boxed_own _ _ _) _) (OwnFrom.and (OwnFrom.and (Own.from (box4_own _ _ _ _ _) _) (ownFrom_pure _ _)) (OwnFrom.and (fun _ P Q row hs hg hr => Nat.le_trans hs hg.size) (ownFrom_below (Nat.le_refl _) (by omega)))))
    (fun c => OwnFrom.and (ownFrom_pure _ _) (OwnFrom.and (Own.from (boxed_own _ _ _) _) (ownFrom_below (Nat.le_refl _) (by omega))))
    ⟨bR0, ⟨bP0, rfl⟩, by omega, hG0⟩
    (fun x a' W => ∃ Ba Bb, q + 1 ≤ Ba ∧ q + 1 ≤ Bb ∧ Box2 W Ba (X x) (Y x) ∧ Box2 W Bb (X (Rg.nx1 n x)) (Y (Rg.nx1 n x)) ∧ a' = { tmps := #[.slice (some ⟨B, off, none⟩) n cap, .agg #[.int .i64 lx, .int .i64 ly, .int .i64 hx, .int .i64 hy], undef, .pointer (some ⟨w.heap.size, 0, none⟩), .pointer (some ⟨w.heap.size + 1, 0, none⟩), .pointer (some ⟨Ba, 0, none⟩), .pointer (some ⟨Bb, 0, none⟩), .slice (some ⟨B, off, none⟩) n cap, .agg #[.int .i64 (mnN X n), .int .i64 (mnN Y n), .int .i64 (mxN X n), .int .i64 (mxN Y n)], .agg #[.int .i64 lx, .int .i64 ly, .int .i64 hx, .int .i64 hy], .bool true, .bool false, .slice (some ⟨B, off, none⟩) n cap, .func (.func 114) #[] #[.pointer (some ⟨q, 0, none⟩)], .agg #[.int .i64 (X x), .int .i64 (Y x)], .agg #[.int .i64 (X (Rg.nx1 n x)), .int .i64 (Y (Rg.nx1 n x))], undef, undef, undef, undef, undef, undef, undef, undef], defers := [] })
    (fun x a' _ P Q row hs hg hr => by obtain ⟨Ba, Bb, i1, i2, i3, i4, i5⟩ := hs; exact ⟨Ba, Bb, i1, i2, box2_notcells i3 hg (fun r e => (hr r e).2), box2_notcells i4 hg (fun r e => (hr r e).2), i5⟩)
    ?assign ?body ?done ?stop
  case assign =>
    rintro l pre x W K ⟨bR1, ⟨bP1, hon⟩, hs3, hB1⟩ hK
    gi_wp2
    have gA : Gr W ((W.alloc (.cells #[.int .i64 (X x), .int .i64 (Y x)] 26)).alloc (.cells #[.int .i64 (X (Rg.nx1 n x)), .int .i64 (Y (Rg.nx1 n x))] 26)) := by go_grown
    exact hK _ _ ((gr_keeps gA).from _) ((KK.refl _ _ _).gr gA (by omega) (by omega)) ⟨(bR1.alloc _).alloc _, ⟨(bP1.alloc _).alloc _, hon⟩, Nat.le_trans hs3 gA.size, Gr.trans hB1 gA⟩
      ⟨W.heap.size, W.heap.size + 1, hs3, by omega, (Box2.new W (X x) (Y x)).alloc _, (by have := Box2.new (W.alloc (.cells #[.int .i64 (X x), .int .i64 (Y x)] 26)) (X (Rg.nx1 n x)) (Y (Rg.nx1 n x)); rwa [World.size_alloc] at this), rfl⟩
  case body =>
    rintro l pre x a' W hl ⟨r, hr⟩ ⟨bR1, ⟨bP1, hon⟩, hs3, hB1⟩ ⟨Ba, Bb, hBa, hBb, bA, bB, rfl⟩ hlt
    obtain ⟨a0, a1⟩ := bA.cells
    obtain ⟨b0, b1⟩ := bB.cells
    obtain ⟨p0, p1, p2, p3⟩ := bP1.cells
    have cR := bR1.cell
    have fR := bR1.frozen
    have hso := mbW_snoc n X Y lx ly hx hy pre x
    rw [hon, Bool.false_or] at hso
    have CO := c_gMeetsBox (X x) (Y x) (X (Rg.nx1 n x)) (Y (Rg.nx1 n x)) lx ly hx hy
    generalize mbG (X x) (Y x) (X (Rg.nx1 n x)) (Y (Rg.nx1 n x)) lx ly hx hy = og at CO hso
    generalize X x = xa at a0 CO
    generalize Y x = ya at a1 CO
    generalize X (Rg.nx1 n x) = xb at b0 CO
    generalize Y (Rg.nx1 n x) = yb at b1 CO
    have HCO := Lib.hid CO
    have HSO := Lib.hid hso
    have HB := Lib.hid (And.intro bR1 bP1)
    clear CO hso hon bA bB bR1 bP1
    cases og
    · gi_wp2_with (refine ⟨trivial, ?_⟩; gi_at_call 88; (refine (CallsIn.inRound l (callsIn_wide.2 (HCO.out _))).mono ?_); rintro e w2 ⟨rfl, g2⟩)
      obtain ⟨bR1, bP1⟩ := HB.out
      have g2s := g2.size
      exact ⟨(gr_keeps g2).from _, (KK.refl B q W).gr g2 (by omega) (by omega), ⟨bR1.kept (gr_grown g2) (by simp), ⟨bP1.kept (gr_grown g2) (by simp), HSO.out⟩, by omega, Gr.trans hB1 g2⟩⟩
    · gi_wp2_with (refine ⟨trivial, ?_⟩; gi_at_call 88; (refine (CallsIn.inRound l (callsIn_wide.2 (HCO.out _))).mono ?_); rintro e w2 ⟨rfl, g2⟩; have dR := cell_gr g2 cR; have eR := frozen_gr g2 cR fR)
      obtain ⟨bR1, bP1⟩ := HB.out
      exact ⟨((gr_keeps g2).trans (KeepsOthers.setCell _ _ _)).from _, ⟨rfl, HSO.out⟩, (bR1.kept (gr_grown g2) (by simp)).set _, (Gr.trans hB1 g2).setCell (p := ⟨w.heap.size + 1, 0, none⟩) (by simp) _⟩
  case done =>
    rintro D ys W' hD rfl ⟨bR1, ⟨bP1, hon⟩, hs3, hB1⟩ hK
    obtain ⟨p0, p1, p2, p3⟩ := bP1.cells
    have cR := bR1.cell
    have fR := bR1.frozen
    have HBR := Lib.hid bR1
    clear bR1 bP1
    gi_wp2_with (refine ⟨trivial, ?_⟩; gi_at_call 74; refine (callsIn_wide.2 (H3.out _ (Gr.trans hB1 (by go_grown)))).mono ?_; rintro e w2 ⟨rfl, gx⟩; (have g2 : Gr W' w2 := Gr.trans (by go_grown) gx); have dR := cell_gr g2 cR; have eR := frozen_gr g2 cR fR; clear gx)
    rw [hon, Bool.false_or]
    have bR2 : Boxed w2 (w.heap.size + 1) 4 (.bool false) := HBR.out.kept (gr_grown g2) (by simp)
    have hK1 : w2.heap[D]? = some (.deferred (some [])) := (gr_keeps g2).same D _ hK rfl
    have hK2 : (w2.setCell ⟨w.heap.size + 1, 0, none⟩ (.bool hz)).heap[D]? = some (.deferred (some [])) := (KeepsOthers.setCell _ _ _).same D _ hK1 rfl
    have hc2 := cell_kept (bR2.set (.bool hz)).cell (grownBy_putObj' _ D (.deferred none)) (fun r e => by cases e; exact ⟨_, hK2, rfl⟩)
    refine ⟨by simp, .inl ⟨_, _, rfl, run_takeDeferred hK2, ?_⟩⟩
    exact ⟨_, results_cell1 rfl rfl (Tryz.underlying4) rfl hc2, rfl, ((Gr.trans hB1 g2).setCell (p := ⟨w.heap.size + 1, 0, none⟩) (by simp) _).trans (belowK_b (w := w) (Nat.le_refl _) _ D _ _ (by omega) hK2 rfl rfl)⟩
  case stop =>
    rintro D c pre W hD ⟨k, hk, rfl⟩ ⟨⟨rfl, hon⟩, bR1, hB1⟩ hK
    have cR := bR1.cell
    gi_wp2
    have hc2 := cell_kept cR (grownBy_putObj' _ D (.deferred none)) (fun r e => by cases e; exact ⟨_, hK, rfl⟩)
    rw [mbW_mono hk hon, Bool.true_or]
    refine ⟨by simp, .inl ⟨_, _, rfl, run_takeDeferred hK, ?_⟩⟩
    exact ⟨_, results_cell1 rfl rfl (Tryz.underlying4) rfl hc2, rfl, hB1.trans (belowK_b (w := w) (Nat.le_refl _) _ D _ _ (by omega) hK rfl rfl)⟩
end Go.Proofs.YtfobmlgpjhghdaaGreatDoor
namespace Go.Proofs.YtfobmlgpjhghdaaGreatDoor
set_option linter.unusedVariables false
set_option linter.unusedSimpArgs false
open Go.ChangeShapes Go.WideShapes Go.ChangeAt Go.RowKit
theorem c_As_nil (x : Value) (W : World) : Calls Tryz.prog 61 #[.nilIface, x] W fun e w' => e = .returned (.bool false) ∧ Gr W w' := by
  go_enter Tryz.func61, Tryz.ntmps61
  go_wp2_with fail
  go_ret
  exact ⟨rfl, by go_grown⟩
set_option maxHeartbeats 2000000 in
set_option maxRecDepth 100000 in
theorem c_allowed0 {D : Nat} (W : World) (p0 : W.cell? ⟨D, 0, none⟩ = some .nilIface) (p1 : W.cell? ⟨D, 1, none⟩ = some .nilIface) : Calls Tryz.prog 39 #[.slice (some ⟨D, 0, none⟩) 2 2] W fun e w' => e = .returned (.bool true) ∧ Gr W w' := by
  have hD := World.block_lt_of_cell? _ _ p0
  go_enter Tryz.func39, Tryz.ntmps39
  go_wp2_with fail
  go_loopg [8] 2 (fun k x wr => ((k = 2 ∧ x = .int .i64 0) ∨ (k = 1 ∧ x = .int .i64 1) ∨ (k = 0 ∧ x = .int .i64 2)) ∧ Gr W wr)
  case atStart => exact ⟨Or.inl ⟨rfl, rfl⟩, by go_grown⟩
  case round =>
    obtain ⟨hx, hg⟩ := hrel
    have r0 := cell_gr hg p0
    have r1 := cell_gr hg p1
    have hgs := hg.size
    rcases hx with ⟨rfl, rfl⟩ | ⟨rfl, rfl⟩ | ⟨rfl, rfl⟩
    · go_wp2_with fail
      go_at_call 61
      refine (c_As_nil _ _).mono ?_
      rintro e w1 ⟨rfl, g1⟩
      have G1 : Gr W w1 := Gr.trans (by go_grown) g1
      clear g1
      go_wp2_with fail
      go_roundg 1
      case measure => omega
      case rel => exact ⟨Or.inr (Or.inl ⟨rfl, rfl⟩), by have gs := G1.size; go_grown⟩
    · go_wp2_with fail
      go_at_call 61
      refine (c_As_nil _ _).mono ?_
      rintro e w1 ⟨rfl, g1⟩
      have G1 : Gr W w1 := Gr.trans (by go_grown) g1
      clear g1
      go_wp2_with fail
      go_roundg 0
      case measure => omega
      case rel => exact ⟨Or.inr (Or.inr ⟨rfl, rfl⟩), by have gs := G1.size; go_grown⟩
    · go_wp2_with fail
      go_ret
      exact ⟨rfl, by go_grown⟩
theorem werr_zero {op : ByteArray} {w : World} {v : Value} {id : Int} {k : Nat} (h : WErr op w v id k) (hk : k = 0) : v = .nilIface := by
  rcases h with ⟨h, -⟩ | ⟨B, u, d, -, h2, -⟩
  · exact h
  · omega
def rmbV (n : Nat) (X Y : Nat → Int) (lx ly hx hy : Int) : Bool := mbW n X Y lx ly hx hy (List.range n) || (nearB lx ly && Rg.hasN n X Y lx ly)
theorem c_rmb' {n : Nat} {X Y : Nat → Int} {v : Value} {lx ly hx hy : Int} (W : World) (h : Pts W v n X Y) (h0 : (Rg.ringC n X Y).1 = 0) (hm : arM n X Y lx ly hx hy = true) : Calls Tryz.prog 104 #[v, .agg #[.int .i64 lx, .int .i64 ly, .int .i64 hx, .int .i64 hy]] W fun e w' => e = .returned (.bool (rmbV n X Y lx ly hx hy)) ∧ Gr W w' := c_rmb W h h0 hm
section
variable {n : Nat} {X Y : Nat → Int} {v : Value} {px py : Int}
set_option maxRecDepth 100000 in
theorem c_meetsBox4 (lx ly hx hy : Int) (W : World) (h : Pts W v n X Y) (h0 : (Rg.ringC n X Y).1 = 0) (hm : arM n X Y lx ly hx hy = true) :
    Calls Tryz.prog 68 #[.agg #[.int .i64 4, v], .agg #[.int .i64 lx, .int .i64 ly, .int .i64 hx, .int .i64 hy]] W fun e w' => e = .returned (.bool (rmbV n X Y lx ly hx hy)) ∧ Gr W w' := by
  have A1 := fun w (g : Gr W w) => c_rmb' (lx := lx) (ly := ly) (hx := hx) (hy := hy) w (pts_gr h g) h0 hm
  generalize (rmbV n X Y lx ly hx hy) = z at A1 ⊢
  obtain ⟨ad, cap, B, off, rfl, _⟩ := h
  have H1 := Lib.hid A1
  clear A1
  go_enter Tryz.func68, Tryz.ntmps68
  go_wp2_with fail
  go_at_call 104
  refine ((H1.out _ (by go_grown))).mono ?_
  rintro e w1 ⟨rfl, hw1⟩
  have gw1 : Gr W w1 := Gr.trans (by go_grown) hw1
  clear hw1
  go_wp2_with fail
  go_ret
  exact ⟨rfl, gw1⟩
set_option maxRecDepth 100000 in
theorem c_Matches_has (hx hy : Int) (u : Value) (W : World) (hu : ∃ ad m c, u = .slice ad m c) (h : Pts W v n X Y) (h0 : (Rg.ringC n X Y).1 = 0) (hm : arM n X Y px py px py = true) :
    Calls Tryz.prog 41 #[.agg #[.int .i64 4, v], qryV 3 px py hx hy u] W fun e w' => e = .returned (.bool (rmbV n X Y px py px py)) ∧ Gr W w' := by
  have A1 := fun w (g : Gr W w) => c_meetsBox4 px py px py w (pts_gr h g) h0 hm
  generalize (rmbV n X Y px py px py) = z at A1 ⊢
  obtain ⟨ad, cap, B, off, rfl, _⟩ := h
  obtain ⟨bd, m, c, rfl⟩ := hu
  have H1 := Lib.hid A1
  clear A1
  go_enter Tryz.func41, Tryz.ntmps41
  go_wp2_with fail
  go_at_call 68
  refine ((H1.out _ (by go_grown))).mono ?_
  rintro e w1 ⟨rfl, hw1⟩
  have gw1 : Gr W w1 := Gr.trans (by go_grown) hw1
  clear hw1
  go_wp2_with fail
  go_ret
  exact ⟨rfl, gw1⟩
set_option maxHeartbeats 4000000 in
set_option maxRecDepth 100000 in
theorem c_Match_has {m : Nat} {P Q : Nat → Int} (hx hy : Int) (u : Value) (W : World) (hu : Pts W u m P Q) (h : Pts W v n X Y) (h0 : (Rg.ringC n X Y).1 = 0) (hp : nearB px py = true) (hm : arM n X Y px py px py = true) :
    Calls Tryz.prog 13 #[.agg #[.int .i64 4, v], qryV 3 px py hx hy u] W fun e w' => e = .returned (.bool (rmbV n X Y px py px py)) ∧ Gr W w' := by
  have A1 : ∀ w, Gr W w → Calls Tryz.prog 34 #[.agg #[.int .i64 4, v]] w fun e w' => e = .returned .nilIface ∧ Gr w w' := fun w g => (c_relCheck 4 w (pts_gr h g)).mono (by
    rintro e w' ⟨x, rfl, hx, g'⟩
    obtain rfl := werr_zero hx (by rw [objC_4]; exact h0)
    exact ⟨rfl, g'⟩)
  have A2 : ∀ w, Gr W w → Calls Tryz.prog 40 #[qryV 3 px py hx hy u] w fun e w' => e = .returned .nilIface ∧ Gr w w' := fun w g => (c_CheckQuery 3 px py hx hy w (pts_gr hu g)).mono (by
    rintro e w' ⟨x, rfl, hx, g'⟩
    obtain rfl := werr_zero hx (by unfold qC; rw [if_neg (by omega), if_pos rfl, if_pos hp])
    exact ⟨rfl, g'⟩)
  have hu2 : ∃ ad m c, u = .slice ad m c := by obtain ⟨ad, cap, _, _, rfl, _⟩ := hu; exact ⟨_, _, _, rfl⟩
  have A3 := fun w (g : Gr W w) => c_Matches_has (px := px) (py := py) hx hy u w hu2 (pts_gr h g) h0 hm
  have A4 := fun (D : Nat) w => c_allowed0 (D := D) w
  generalize (rmbV n X Y px py px py) = z at A3 ⊢
  obtain ⟨ad, cap, B, off, rfl, _⟩ := h
  obtain ⟨bd, bcap, C, oc, rfl, _⟩ := hu
  have H1 := Lib.hid A1
  have H2 := Lib.hid A2
  have H3 := Lib.hid A3
  have H4 := Lib.hid A4
  clear A1 A2 A3 A4
  clear hu2 hp hm h0
  go_enter Tryz.func13, Tryz.ntmps13
  go_wp2_with fail
  try simp only [List.append]
  refine Od.wp_region_ord [(0, false), (2, false), (1, true), (3, true), (4, true), (5, true), (6, false), (7, false), (8, false), (9, true), (10, false), (11, false)] (by kernel_rfl) (by kernel_rfl) ?_
  intro w0 hw0 KQ hKQ
  have cw0_0_0 := ci hw0 (W.heap.size) 0 4 (by go_simp)
  have cw0_0_1 := cg hw0 (W.heap.size) 1 (.slice ad n cap) (by go_simp)
  have cw0_1_0 := ci hw0 (W.heap.size + 1) 0 3 (by go_simp)
  have cw0_1_1 := ci hw0 (W.heap.size + 1) 1 px (by go_simp)
  have cw0_1_2 := ci hw0 (W.heap.size + 1) 2 py (by go_simp)
  have cw0_1_3 := ci hw0 (W.heap.size + 1) 3 hx (by go_simp)
  have cw0_1_4 := ci hw0 (W.heap.size + 1) 4 hy (by go_simp)
  have cw0_1_5 := cg hw0 (W.heap.size + 1) 5 (.slice bd m bcap) (by go_simp)
  have gw0 : Gr W w0 := Gr.trans (by go_grown) hw0
  skip
  clear hw0
  repeat (first | (refine Od.wpO_skip (by simp only [List.getElem?_toArray, List.getElem?_cons_succ, List.getElem?_cons_zero] <;> rfl) rfl ?_; simp only [Act.put, List.setIfInBounds_toArray, List.set_cons_zero, List.set_cons_succ]) | (refine Od.wpO_pure (by simp only [List.getElem?_toArray, List.getElem?_cons_succ, List.getElem?_cons_zero] <;> rfl) rfl ?_; apply Exists.intro; refine ⟨?_, ?_⟩; (· intro wx gx; obtain ⟨mx, rfl⟩ := spread_of_gr gx; clear gx; all_goals (apply Od.pAt_of_quiet; intro K hK; go_big_quiet_op; first | exact hK _ rfl | (apply Exists.intro; refine ⟨fun _ => ?_, ?_⟩; (· fail); exact hK _ rfl))); try simp only [Act.put, List.setIfInBounds_toArray, List.set_cons_zero, List.set_cons_succ]))
  refine Od.wpO_call (by simp only [List.getElem?_toArray, List.getElem?_cons_succ, List.getElem?_cons_zero] <;> rfl) rfl ?_
  intro QS hQS
  go_wp2_with fail
  go_at_call 34
  (with_reducible refine ((H1.out _ gw0)).mono ?_)
  rintro e w1 ⟨rfl, hw1⟩
  go_wp2_with fail
  apply Exists.intro
  refine ⟨?_, hw1, ?_⟩
  · simp only [Act.put, List.setIfInBounds_toArray, List.set_cons_zero, List.set_cons_succ]; rfl
  have cw1_0_0 := ci hw1 (W.heap.size) 0 4 (by go_simp)
  have cw1_0_1 := cg hw1 (W.heap.size) 1 (.slice ad n cap) (by go_simp)
  have cw1_1_0 := ci hw1 (W.heap.size + 1) 0 3 (by go_simp)
  have cw1_1_1 := ci hw1 (W.heap.size + 1) 1 px (by go_simp)
  have cw1_1_2 := ci hw1 (W.heap.size + 1) 2 py (by go_simp)
  have cw1_1_3 := ci hw1 (W.heap.size + 1) 3 hx (by go_simp)
  have cw1_1_4 := ci hw1 (W.heap.size + 1) 4 hy (by go_simp)
  have cw1_1_5 := cg hw1 (W.heap.size + 1) 5 (.slice bd m bcap) (by go_simp)
  have gw1 : Gr W w1 := Gr.trans (by have gg := gw0; have gs := gg.size; go_grown) hw1
  clear gw0 cw0_0_0 cw0_0_1 cw0_1_0 cw0_1_1 cw0_1_2 cw0_1_3 cw0_1_4 cw0_1_5
  clear hw1
  try simp only [Act.put, List.setIfInBounds_toArray, List.set_cons_zero, List.set_cons_succ]
  repeat (first | (refine Od.wpO_skip (by simp only [List.getElem?_toArray, List.getElem?_cons_succ, List.getElem?_cons_zero] <;> rfl) rfl ?_; simp only [Act.put, List.setIfInBounds_toArray, List.set_cons_zero, List.set_cons_succ]) | (refine Od.wpO_pure (by simp only [List.getElem?_toArray, List.getElem?_cons_succ, List.getElem?_cons_zero] <;> rfl) rfl ?_; apply Exists.intro; refine ⟨?_, ?_⟩; (· intro wx gx; obtain ⟨mx, rfl⟩ := spread_of_gr gx; clear gx; all_goals (apply Od.pAt_of_quiet; intro K hK; go_big_quiet_op; first | exact hK _ rfl | (apply Exists.intro; refine ⟨fun _ => ?_, ?_⟩; (· fail); exact hK _ rfl))); try simp only [Act.put, List.setIfInBounds_toArray, List.set_cons_zero, List.set_cons_succ]))
  refine Od.wpO_call (by simp only [List.getElem?_toArray, List.getElem?_cons_succ, List.getElem?_cons_zero] <;> rfl) rfl ?_
  intro QS hQS
  go_wp2_with fail
  go_at_call 40
  (with_reducible refine ((H2.out _ gw1)).mono ?_)
  rintro e w2 ⟨rfl, hw2⟩
  go_wp2_with fail
  apply Exists.intro
  refine ⟨?_, hw2, ?_⟩
  · simp only [Act.put, List.setIfInBounds_toArray, List.set_cons_zero, List.set_cons_succ]; rfl
  have cw2_0_0 := ci hw2 (W.heap.size) 0 4 (by go_simp)
  have cw2_0_1 := cg hw2 (W.heap.size) 1 (.slice ad n cap) (by go_simp)
  have zw2_0 := zb cw2_0_0
  have cw2_1_0 := ci hw2 (W.heap.size + 1) 0 3 (by go_simp)
  have cw2_1_1 := ci hw2 (W.heap.size + 1) 1 px (by go_simp)
  have cw2_1_2 := ci hw2 (W.heap.size + 1) 2 py (by go_simp)
  have cw2_1_3 := ci hw2 (W.heap.size + 1) 3 hx (by go_simp)
  have cw2_1_4 := ci hw2 (W.heap.size + 1) 4 hy (by go_simp)
  have cw2_1_5 := cg hw2 (W.heap.size + 1) 5 (.slice bd m bcap) (by go_simp)
  have zw2_1 := zb cw2_1_0
  have gw2 : Gr W w2 := Gr.trans (by have gg := gw1; have gs := gg.size; go_grown) hw2
  clear gw1 cw1_0_0 cw1_0_1 cw1_1_0 cw1_1_1 cw1_1_2 cw1_1_3 cw1_1_4 cw1_1_5
  clear hw2
  try simp only [Act.put, List.setIfInBounds_toArray, List.set_cons_zero, List.set_cons_succ]
  repeat (first | (refine Od.wpO_skip (by simp only [List.getElem?_toArray, List.getElem?_cons_succ, List.getElem?_cons_zero] <;> rfl) rfl ?_; simp only [Act.put, List.setIfInBounds_toArray, List.set_cons_zero, List.set_cons_succ]) | (refine Od.wpO_pure (by simp only [List.getElem?_toArray, List.getElem?_cons_succ, List.getElem?_cons_zero] <;> rfl) rfl ?_; apply Exists.intro; refine ⟨?_, ?_⟩; (· intro wx gx; obtain ⟨mx, rfl⟩ := spread_of_gr gx; clear gx; all_goals (apply Od.pAt_of_quiet; intro K hK; go_big_quiet_op; first | exact hK _ rfl | (apply Exists.intro; refine ⟨fun _ => ?_, ?_⟩; (· fail); exact hK _ rfl))); try simp only [Act.put, List.setIfInBounds_toArray, List.set_cons_zero, List.set_cons_succ]))
  refine Od.wpO_call (by simp only [List.getElem?_toArray, List.getElem?_cons_succ, List.getElem?_cons_zero] <;> rfl) rfl ?_
  intro QS hQS
  go_wp2_with fail
  first | (apply Exists.intro; refine ⟨?_, (by go_grown), ?_⟩; (· simp only [Act.put, List.setIfInBounds_toArray, List.set_cons_zero, List.set_cons_succ]; rfl)) | (refine ⟨(by go_grown), ?_⟩)
  generalize hhw3 : (w2.alloc (.cells #[.nilIface, .nilIface] 34)) = w3
  have hw3 : Gr w2 w3 := by subst hhw3; go_grown
  have cw3_0_0 : w3.cell? ⟨W.heap.size, 0, none⟩ = some (.int .i64 4) := by subst hhw3; go_simp
  have cw3_0_1 : w3.cell? ⟨W.heap.size, 1, none⟩ = some (.slice ad n cap) := by subst hhw3; go_simp
  have zw3_0 := zb cw3_0_0
  have cw3_1_0 : w3.cell? ⟨W.heap.size + 1, 0, none⟩ = some (.int .i64 3) := by subst hhw3; go_simp
  have cw3_1_1 : w3.cell? ⟨W.heap.size + 1, 1, none⟩ = some (.int .i64 px) := by subst hhw3; go_simp
  have cw3_1_2 : w3.cell? ⟨W.heap.size + 1, 2, none⟩ = some (.int .i64 py) := by subst hhw3; go_simp
  have cw3_1_3 : w3.cell? ⟨W.heap.size + 1, 3, none⟩ = some (.int .i64 hx) := by subst hhw3; go_simp
  have cw3_1_4 : w3.cell? ⟨W.heap.size + 1, 4, none⟩ = some (.int .i64 hy) := by subst hhw3; go_simp
  have cw3_1_5 : w3.cell? ⟨W.heap.size + 1, 5, none⟩ = some (.slice bd m bcap) := by subst hhw3; go_simp
  have zw3_1 := zb cw3_1_0
  have cw3_2_0 : w3.cell? ⟨w2.heap.size, 0, none⟩ = some (.nilIface) := by subst hhw3; go_simp
  have cw3_2_1 : w3.cell? ⟨w2.heap.size, 1, none⟩ = some (.nilIface) := by subst hhw3; go_simp
  have gw3 : Gr W w3 := Gr.trans (by have gg := gw2; have gs := gg.size; go_grown) hw3
  clear hhw3 hw3 gw2 zw2_0 cw2_0_0 cw2_0_1 zw2_1 cw2_1_0 cw2_1_1 cw2_1_2 cw2_1_3 cw2_1_4 cw2_1_5
  try simp only [Act.put, List.setIfInBounds_toArray, List.set_cons_zero, List.set_cons_succ]
  repeat (first | (refine Od.wpO_skip (by simp only [List.getElem?_toArray, List.getElem?_cons_succ, List.getElem?_cons_zero] <;> rfl) rfl ?_; simp only [Act.put, List.setIfInBounds_toArray, List.set_cons_zero, List.set_cons_succ]) | (refine Od.wpO_pure (by simp only [List.getElem?_toArray, List.getElem?_cons_succ, List.getElem?_cons_zero] <;> rfl) rfl ?_; apply Exists.intro; refine ⟨?_, ?_⟩; (· intro wx gx; obtain ⟨mx, rfl⟩ := spread_of_gr gx; clear gx; all_goals (apply Od.pAt_of_quiet; intro K hK; go_big_quiet_op; first | exact hK _ rfl | (apply Exists.intro; refine ⟨fun _ => ?_, ?_⟩; (· fail); exact hK _ rfl))); try simp only [Act.put, List.setIfInBounds_toArray, List.set_cons_zero, List.set_cons_succ]))
  refine Od.wpO_call (by simp only [List.getElem?_toArray, List.getElem?_cons_succ, List.getElem?_cons_zero] <;> rfl) rfl ?_
  intro QS hQS
  go_wp2_with fail
  go_at_call 39
  (with_reducible refine ((H4.out _ _ cw3_2_0 cw3_2_1)).mono ?_)
  rintro e w4 ⟨rfl, hw4⟩
  go_wp2_with fail
  apply Exists.intro
  refine ⟨?_, hw4, ?_⟩
  · simp only [Act.put, List.setIfInBounds_toArray, List.set_cons_zero, List.set_cons_succ]; rfl
  have cw4_0_0 := ci hw4 (W.heap.size) 0 4 (by go_simp)
  have cw4_0_1 := cg hw4 (W.heap.size) 1 (.slice ad n cap) (by go_simp)
  have cw4_1_0 := ci hw4 (W.heap.size + 1) 0 3 (by go_simp)
  have cw4_1_1 := ci hw4 (W.heap.size + 1) 1 px (by go_simp)
  have cw4_1_2 := ci hw4 (W.heap.size + 1) 2 py (by go_simp)
  have cw4_1_3 := ci hw4 (W.heap.size + 1) 3 hx (by go_simp)
  have cw4_1_4 := ci hw4 (W.heap.size + 1) 4 hy (by go_simp)
  have cw4_1_5 := cg hw4 (W.heap.size + 1) 5 (.slice bd m bcap) (by go_simp)
  have gw4 : Gr W w4 := Gr.trans (by have gg := gw3; have gs := gg.size; go_grown) hw4
  clear gw3 zw3_0 cw3_0_0 cw3_0_1 zw3_1 cw3_1_0 cw3_1_1 cw3_1_2 cw3_1_3 cw3_1_4 cw3_1_5 cw3_2_0 cw3_2_1
  clear hw4
  try simp only [Act.put, List.setIfInBounds_toArray, List.set_cons_zero, List.set_cons_succ]
  repeat (first | (refine Od.wpO_skip (by simp only [List.getElem?_toArray, List.getElem?_cons_succ, List.getElem?_cons_zero] <;> rfl) rfl ?_; simp only [Act.put, List.setIfInBounds_toArray, List.set_cons_zero, List.set_cons_succ]) | (refine Od.wpO_pure (by simp only [List.getElem?_toArray, List.getElem?_cons_succ, List.getElem?_cons_zero] <;> rfl) rfl ?_; apply Exists.intro; refine ⟨?_, ?_⟩; (· intro wx gx; obtain ⟨mx, rfl⟩ := spread_of_gr gx; clear gx; all_goals (apply Od.pAt_of_quiet; intro K hK; go_big_quiet_op; first | exact hK _ rfl | (apply Exists.intro; refine ⟨fun _ => ?_, ?_⟩; (· fail); exact hK _ rfl))); try simp only [Act.put, List.setIfInBounds_toArray, List.set_cons_zero, List.set_cons_succ]))
  refine Od.wpO_call (by simp only [List.getElem?_toArray, List.getElem?_cons_succ, List.getElem?_cons_zero] <;> rfl) rfl ?_
  intro QS hQS
  go_wp2_with fail
  go_at_call 41
  (with_reducible refine ((H3.out _ gw4)).mono ?_)
  rintro e w5 ⟨rfl, hw5⟩
  go_wp2_with fail
  apply Exists.intro
  refine ⟨?_, hw5, ?_⟩
  · simp only [Act.put, List.setIfInBounds_toArray, List.set_cons_zero, List.set_cons_succ]; rfl
  have gw5 : Gr W w5 := Gr.trans (by have gg := gw4; have gs := gg.size; go_grown) hw5
  clear gw4 cw4_0_0 cw4_0_1 cw4_1_0 cw4_1_1 cw4_1_2 cw4_1_3 cw4_1_4 cw4_1_5
  clear hw5
  try simp only [Act.put, List.setIfInBounds_toArray, List.set_cons_zero, List.set_cons_succ]
  repeat (first | (refine Od.wpO_skip (by simp only [List.getElem?_toArray, List.getElem?_cons_succ, List.getElem?_cons_zero] <;> rfl) rfl ?_; simp only [Act.put, List.setIfInBounds_toArray, List.set_cons_zero, List.set_cons_succ]) | (refine Od.wpO_pure (by simp only [List.getElem?_toArray, List.getElem?_cons_succ, List.getElem?_cons_zero] <;> rfl) rfl ?_; apply Exists.intro; refine ⟨?_, ?_⟩; (· intro wx gx; obtain ⟨mx, rfl⟩ := spread_of_gr gx; clear gx; all_goals (apply Od.pAt_of_quiet; intro K hK; go_big_quiet_op; first | exact hK _ rfl | (apply Exists.intro; refine ⟨fun _ => ?_, ?_⟩; (· fail); exact hK _ rfl))); try simp only [Act.put, List.setIfInBounds_toArray, List.set_cons_zero, List.set_cons_succ]))
  refine Od.wpO_nil (hKQ _ _ ?_)
  clear hKQ KQ
  go_wp2_with fail
  go_ret
  exact ⟨rfl, gw5⟩
end
def awX : Nat → Int := fun i => if i = 1 then 4 else 0
def awY : Nat → Int := fun i => if i = 2 then 4 else 0
theorem aw_ring : Rg.ringC 3 awX awY = (0, 0) := by decide +kernel
theorem aw_arm : arM 3 awX awY 1 1 1 1 = true := by decide +kernel
theorem aw_has : rmbV 3 awX awY 1 1 1 1 = true := by decide +kernel
theorem aw_pts {w : World} {B : Nat} (h0 : w.cell? ⟨B, 0, none⟩ = some (.int .i64 0)) (h1 : w.cell? ⟨B, 1, none⟩ = some (.int .i64 0)) (h2 : w.cell? ⟨B, 2, none⟩ = some (.int .i64 4)) (h3 : w.cell? ⟨B, 3, none⟩ = some (.int .i64 0)) (h4 : w.cell? ⟨B, 4, none⟩ = some (.int .i64 0)) (h5 : w.cell? ⟨B, 5, none⟩ = some (.int .i64 4)) :
    Pts w (.slice (some ⟨B, 0, none⟩) 3 3) 3 awX awY :=
  ⟨some ⟨B, 0, none⟩, 3, B, 0, rfl, Nat.le_refl _, by decide, fun _ => rfl, fun k hk => by
    match k, hk with
    | 0, _ => exact ⟨h0, h1⟩
    | 1, _ => exact ⟨h2, h3⟩
    | 2, _ => exact ⟨h4, h5⟩⟩
theorem nil_pts (w : World) : Pts w (.slice none 0 0) 0 (fun _ => 0) (fun _ => 0) := ⟨none, 0, 0, 0, rfl, Nat.le_refl _, by decide, fun h => absurd h (by decide), fun k hk => absurd hk (Nat.not_lt_zero _)⟩
set_option maxHeartbeats 4000000 in
set_option maxRecDepth 100000 in
theorem p6_awake (W : World) (hE : ErrT W) : Calls Tryz.prog 9 #[] W fun e w' => e = .returned (.bool true) ∧ Gr W w' := by
  have A1 : ∀ w v, Pts w v 3 awX awY → Calls Tryz.prog 13 #[.agg #[.int .i64 4, v], qryV 3 1 1 0 0 (.slice none 0 0)] w fun e w' => e = .returned (.bool true) ∧ Gr w w' := fun w v h => by
    have C := c_Match_has (px := 1) (py := 1) 0 0 _ w (nil_pts w) h (by rw [aw_ring]) (by decide) aw_arm
    rw [aw_has] at C
    exact C
  have A2 : ∀ w v, Pts w v 3 awX awY → Calls Tryz.prog 34 #[.agg #[.int .i64 4, v]] w fun e w' => e = .returned .nilIface ∧ Gr w w' := fun w v h => (c_relCheck 4 w h).mono (by
    rintro e w' ⟨x, rfl, hx, g'⟩
    obtain rfl := werr_zero hx (by rw [objC_4, aw_ring])
    exact ⟨rfl, g'⟩)
  have A3 := fun w => c_relCheck 9 w (nil_pts w)
  rw [objC_x (by omega) (by omega) (by omega) (by omega)] at A3
  have H1 := Lib.hid A1
  have H2 := Lib.hid A2
  have H3 := Lib.hid A3
  clear A1 A2 A3
  go_enter Tryz.func9, Tryz.ntmps9
  go_wp2_with fail
  go_at_call 13
  refine (H1.out _ _ (aw_pts (by go_simp) (by go_simp) (by go_simp) (by go_simp) (by go_simp) (by go_simp))).mono ?_
  rintro e w1 ⟨rfl, g1⟩
  have P1 := Lib.hid (aw_pts (cell_gr g1 (p := ⟨W.heap.size, 0, none⟩) (by go_simp)) (cell_gr g1 (by go_simp)) (cell_gr g1 (by go_simp)) (cell_gr g1 (by go_simp)) (cell_gr g1 (by go_simp)) (cell_gr g1 (by go_simp)))
  have c0 := ci g1 (W.heap.size + 1) 0 4 (by go_simp)
  have c1 := cg g1 (W.heap.size + 1) 1 (.slice (some ⟨W.heap.size, 0, none⟩) 3 3) (by go_simp)
  have c2 := World.block_lt_of_cell? _ _ c0
  have G1 : Gr W w1 := Gr.trans (by go_grown) g1
  clear g1
  go_wp2_with fail
  go_at_call 34
  refine (H2.out _ _ (pts_gr P1.out (by go_grown))).mono ?_
  rintro e w2 ⟨rfl, g2⟩
  have G2 : Gr W w2 := Gr.trans G1 (Gr.trans (by go_grown) g2)
  clear g2 P1
  go_wp2_with fail
  go_at_call 34
  refine (H3.out _).mono ?_
  rintro e w3 ⟨u3, rfl, hu, g3⟩
  have G3 : Gr W w3 := Gr.trans G2 (Gr.trans (by go_grown) g3)
  have HU := Lib.hid hu
  clear g3 hu
  go_wp2_with fail
  go_at_call 35
  refine (c_AlIs_werr _ (errT_gr hE (Gr.trans G3 (by go_grown))) (werr_gr HU.out (by go_grown))).mono ?_
  rintro e w4 ⟨rfl, g4⟩
  have G4 : Gr W w4 := Gr.trans G3 (Gr.trans (by go_grown) g4)
  clear g4
  go_wp2_with fail
  go_ret
  exact ⟨rfl, by go_grown⟩
end Go.Proofs.YtfobmlgpjhghdaaGreatDoor
namespace Go.Proofs.YtfobmlgpjhghdaaGreatDoor
set_option linter.unusedVariables false
open Go.ChangeShapes Go.WideShapes Go.ChangeAt Go.RowKit
theorem gr_of_grown {w a b : World} {r : Option Nat} (h : Gr w a) (g : a.grownBy b r) (hr : ∀ k, r = some k → w.heap.size ≤ k) : Gr w b :=
  ⟨g.os.trans h.os, g.tape.trans h.tape, g.output.trans h.output, Nat.le_trans h.size g.size, fun k hk => (g.block k (Nat.lt_of_lt_of_le hk h.size) (fun e => by have := hr k e.symm; omega)).trans (h.block k hk)⟩
end Go.Proofs.YtfobmlgpjhghdaaGreatDoor
namespace Go.Proofs.YtfobmlgpjhghdaaGreatDoor
set_option linter.unusedVariables false
open Go.ChangeShapes Go.WideShapes Go.ChangeAt Go.RowKit
end Go.Proofs.YtfobmlgpjhghdaaGreatDoor
namespace Go.Proofs.YtfobmlgpjhghdaaGreatDoor
set_option linter.unusedVariables false
set_option linter.unusedSimpArgs false
open Go.ChangeShapes Go.WideShapes Go.ChangeAt Go.RowKit
theorem addr_addO (b off n : Nat) : (⟨b, off, none⟩ : Addr).add n = ⟨b, off + n, none⟩ := by
  unfold Addr.add; split <;> simp_all
section
variable {H : Type} {enc : TypeId × Value → H} {P : Program} {w : World} {base : Nat} {sp : Nat → Bool} {held : Bool} {r : Reach} {b0 : Nat}
theorem spot_cell {a : Addr} {v : Value} (h : w.cell? a = some v) : a.spot = none := by
  unfold World.cell? at h
  split at h
  · split at h
    · cases h
    · rename_i hs; simpa using hs
  · cases h
theorem cells2s {a : Addr} {x0 x1 : Value} (h : w.cells? base a 2 = some [x0, x1]) : w.cell? (a.add 0) = some x0 ∧ w.cell? (a.add 1) = some x1 := by
  unfold World.cells? at h
  split at h
  · rw [show List.range 2 = [0, 1] from rfl] at h
    simp only [List.mapM_cons, List.mapM_nil] at h
    obtain ⟨y0, h0, h⟩ := Option.bind_eq_some_iff.1 h
    obtain ⟨t0, h, e0⟩ := Option.bind_eq_some_iff.1 h
    obtain ⟨y1, h1, h⟩ := Option.bind_eq_some_iff.1 h
    obtain ⟨t1, h, e1⟩ := Option.bind_eq_some_iff.1 h
    cases h
    cases e1
    cases e0
    exact ⟨h0, h1⟩
  · cases h
theorem trod_ptsC {t p u : TypeId} {G0 G1 : Field} {x : Value} {fuel : Nat} {y : DataW H × List MemPlace} (ht : P.underlying t = some (.slice p)) (hp : P.underlying p = some (.struct #[G0, G1])) (hu : P.underlying u = some (.int .i64))
    (hG0 : G0.type = u ∧ G0.offset = 0) (hG1 : G1.type = u ∧ G1.offset = 1) (cp : P.cellsOf p = 2) (cu : P.cellsOf u = 1)
    (hd : DataW.trod enc P w base sp held fuel t [x] = some y) : ∃ (n : Nat) (X Y : Nat → Int), Pts w x n X Y := by
  rcases Deep.open_slice ht hd with ⟨h, -⟩ | ⟨a, n, cap, m, q, D, Pl, hv, -, hl, hcap, hm, -, hel⟩
  · simp only [List.cons.injEq, and_true] at h
    subst h
    exact ⟨0, fun _ => 0, fun _ => 0, none, 0, 0, 0, rfl, Nat.le_refl _, by decide, fun h => absurd h (by omega), fun k h => absurd h (by omega)⟩
  · simp only [List.cons.injEq, and_true] at hv
    subst hv
    have hlm : n ≤ m := by rw [hm]; split <;> omega
    have hcap' : cap ≤ 9223372036854775807 := by unfold maxLen at hcap; omega
    obtain ⟨b, off, s⟩ := a
    have key : ∀ k, k < n → ∃ z : Int × Int, w.cell? (((⟨b, off, s⟩ : Addr).add (k * 2)).add 0) = some (.int .i64 z.1) ∧ w.cell? (((⟨b, off, s⟩ : Addr).add (k * 2)).add 1) = some (.int .i64 z.2) := fun k hk => by
      obtain ⟨cs', hc, htr⟩ := hel k (by omega)
      rw [cp] at hc
      obtain ⟨y0, y1, j, -, hlen, t0, t1⟩ := trod_struct2 hp htr
      rw [cp] at hlen
      match cs', hlen with
      | [x0, x1], _ =>
        rw [hG0.1, hG0.2, cu] at t0
        rw [hG1.1, hG1.2, cu] at t1
        obtain ⟨z0, q0, -, -⟩ := DataW.trod_int hu t0
        obtain ⟨z1, q1, -, -⟩ := DataW.trod_int hu t1
        simp at q0 q1
        subst q0 q1
        exact ⟨(z0, z1), cells2s hc⟩
    by_cases h0 : n = 0
    · subst h0
      exact ⟨0, fun _ => 0, fun _ => 0, some ⟨b, off, s⟩, cap, b, off, rfl, Nat.zero_le _, hcap', fun h => absurd h (by omega), fun k h => absurd h (by omega)⟩
    · have hs : s = none := by
        obtain ⟨z, hz, -⟩ := key 0 (by omega)
        have := spot_cell hz
        unfold Addr.add at this
        (repeat' split at this) <;> simp_all
      subst hs
      have key2 : ∀ k, k < n → ∃ z : Int × Int, w.cell? ⟨b, off + k * 2, none⟩ = some (.int .i64 z.1) ∧ w.cell? ⟨b, off + k * 2 + 1, none⟩ = some (.int .i64 z.2) := fun k hk => by
        obtain ⟨z, h0, h1⟩ := key k hk
        rw [addr_addO, addr_addO] at h0 h1
        exact ⟨z, h0, h1⟩
      refine ⟨n, fun k => if h : k < n then (key2 k h).choose.1 else 0, fun k => if h : k < n then (key2 k h).choose.2 else 0, some ⟨b, off, none⟩, cap, b, off, rfl, hl, hcap', fun _ => rfl, fun k hk => ?_⟩
      simp only [dif_pos hk]
      exact (key2 k hk).choose_spec
theorem open_obj {t s p u : TypeId} {F0 F1 G0 G1 : Field} {v : Value} {d : DataW H} {ps : List MemPlace} (hs : P.underlying t = some (.struct #[F0, F1])) (hF0 : F0.type = u) (hF1 : F1.type = s) (hone : Go.Deep.oneCellFields P #[F0, F1] = true) (hC : P.cellsOf t = 2)
    (ht : P.underlying s = some (.slice p)) (hp : P.underlying p = some (.struct #[G0, G1])) (hu : P.underlying u = some (.int .i64))
    (hG0 : G0.type = u ∧ G0.offset = 0) (hG1 : G1.type = u ∧ G1.offset = 1) (cp : P.cellsOf p = 2) (cu : P.cellsOf u = 1)
    (hval : Value.okWide P w r b0 t v) (hd : DataW.Trod enc P w base sp held t v d ps) : ∃ (k : Int) (x : Value) (n : Nat) (X Y : Nat → Int), v = .agg #[.int .i64 k, x] ∧ (-9223372036854775808 ≤ k ∧ k ≤ 9223372036854775807) ∧ Pts w x n X Y := by
  obtain ⟨v0, v1, y0, y1, j, rfl, -, -, h0, h1⟩ := Joins.open_agg2 hs hone hC hval hd
  rw [hF0] at h0
  rw [hF1] at h1
  obtain ⟨z0, q0, -, wf⟩ := DataW.trod_int hu h0
  simp at q0
  subst q0
  obtain ⟨n, X, Y, hP⟩ := trod_ptsC ht hp hu hG0 hG1 cp cu h1
  exact ⟨z0, v1, n, X, Y, rfl, bounds_i64 wf, hP⟩
end
end Go.Proofs.YtfobmlgpjhghdaaGreatDoor
